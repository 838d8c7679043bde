/- What Name of package lexer returns, and which texts are printable. -/
import Derived.Test.YtoohijffkbkikaaGreatDoorLa
import Derived.IntWalk
namespace Go.Proofs.YtoohijffkbkikaaGreatDoor
open Go.RowKit
set_option linter.unusedVariables false
set_option linter.unusedSimpArgs false

/-- A byte of a string, read at a place inside it. -/
theorem str_at {s : ByteArray} {k : Nat} {c : UInt8} (h : s.data.toList[k]? = some c) (T : TypeId) (hT : Tryz.prog.underlying T = some .string) (w : World) :
    (Instr.index T (.string s) (.int .i64 (k : Int))).run Tryz.prog w = .ok (.int .u8 (c.toNat : Int)) w := by
  have hk : k < s.size := by
    rw [Lib.size_eq]
    exact (List.getElem?_eq_some_iff.1 h).1
  rw [run_index_string w T s .i64 (k : Int) hT, dif_pos ⟨by omega, by omega⟩]
  obtain ⟨⟨l⟩⟩ := s
  obtain ⟨hk2, h2⟩ := List.getElem?_eq_some_iff.1 h
  simp only [Int.toNat_natCast]
  have e : (ByteArray.mk ⟨l⟩)[k]'hk = c := h2
  rw [e]
theorem empty_list {s : ByteArray} (h : s.data.toList ≠ []) : ¬ s.toList = [] := by rw [Lib.toList_data]; exact h
theorem conv_u8 (c : UInt8) (w : World) : (convert 5 21 (.int .u8 (c.toNat : Int))).run Tryz.prog w = .ok (.int .i32 (c.toNat : Int)) w := by
  have := c.toNat_lt
  have h := IntWalk.i32_in (c.toNat : Int) (by omega)
  simp [convert, go_sem, h]

set_option maxRecDepth 100000 in
set_option maxHeartbeats 800000 in
theorem name_any (s : ByteArray) (w : World) : Calls Tryz.prog 93 #[.string s] w fun e w' => e = .returned (.bool (Lx.nameS s.data.toList)) ∧ Below w.heap.size w w' := by
  have hsz := Lib.size_eq s
  cases hl : s.data.toList with
  | nil =>
    have he : s.toList = [] := by rw [Lib.toList_data]; exact hl
    have HR := Lib.hid (show false = Lx.nameS [] from rfl)
    clear hl hsz
    go_enter Tryz.func93, Tryz.ntmps93
    go_wp2_with fail
    go_ret
    exact ⟨ret_bool HR.out, Below.refl _ _⟩
  | cons c t =>
    rw [hl] at hsz
    have he : ¬ s.toList = [] := empty_list (by rw [hl]; simp)
    have he2 : (!s.toList.isEmpty) = true := by simp [he]
    have he3 : s.toList.isEmpty = false := by simp [he]
    by_cases h24 : 24 < s.size
    · have HR := Lib.hid (show false = Lx.nameS (c :: t) by
        have : ¬ (c :: t).length ≤ 24 := by omega
        simp only [Lx.nameS, decide_eq_false this, Bool.false_and])
      have h24' : decide ((24 : Int) < s.size) = true := by simp; omega
      clear hl hsz h24
      go_enter Tryz.func93, Tryz.ntmps93
      go_wp2_with fail
      go_ret
      exact ⟨ret_bool HR.out, Below.refl _ _⟩
    · have h24' : decide ((24 : Int) < s.size) = false := by simp; omega
      have hc : s.data.toList[0]? = some c := by rw [hl]; rfl
      have k0 : ∀ w, (Instr.index 9 (.string s) (.int .i64 0)).run Tryz.prog w = .ok (.int .u8 (c.toNat : Int)) w := fun w => str_at hc 9 Tryz.underlying9 w
      have k1 : ∀ w, (convert 5 21 (.int .u8 (c.toNat : Int))).run Tryz.prog w = .ok (.int .i32 (c.toNat : Int)) w := fun w => conv_u8 c w
      by_cases hlow : Lx.lowR c.toNat = true
      · have HL := Lib.hid hlow
        have hn := Lx.idx_noth s
        obtain ⟨i, hi⟩ : ∃ i, Lib.idxFunc Lx.othR true s = i := ⟨_, rfl⟩
        rw [hi] at hn
        have HI := Lib.hid hi
        have HR := Lib.hid (show decide (i < 0) = Lx.nameS (c :: t) by
          have : (c :: t).length ≤ 24 := by omega
          rw [hn, hl]
          simp only [Lx.nameS, hlow, decide_eq_true this, Bool.true_and])
        clear hl hsz hc hlow hn hi h24
        go_enter Tryz.func93, Tryz.ntmps93
        go_wp2_with fail
        refine (letter_is HL.out _).mono ?_
        rintro e w' ⟨rfl, rfl⟩
        go_wp2_with fail
        refine (idxn_is s _).mono ?_
        rw [HI.out]
        rintro e w' ⟨rfl, hb⟩
        go_wp2_with fail
        all_goals go_ret
        all_goals exact ⟨ret_bool (by first | exact HR.out | (rw [← HR.out]; simp; omega)), hb⟩
      · have hlow : Lx.lowR c.toNat = false := by simpa using hlow
        have HL := Lib.hid hlow
        have HR := Lib.hid (show false = Lx.nameS (c :: t) by simp [Lx.nameS, hlow])
        clear hl hsz hc hlow h24
        go_enter Tryz.func93, Tryz.ntmps93
        go_wp2_with fail
        refine (letter_is HL.out _).mono ?_
        rintro e w' ⟨rfl, rfl⟩
        go_wp2_with fail
        go_ret
        exact ⟨ret_bool HR.out, Below.refl _ _⟩
theorem name_is {s : ByteArray} {b : Bool} (h : Lx.nameS s.data.toList = b) (w : World) : Calls Tryz.prog 93 #[.string s] w fun e w' => e = .returned (.bool b) ∧ Below w.heap.size w w' := h ▸ name_any s w
end Go.Proofs.YtoohijffkbkikaaGreatDoor
