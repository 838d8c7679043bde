/- Plain facts on words: what IndexFunc finds in any string, by bytes. Nothing of the program stands in it. What the small functions of package lexer return: letters, digits, names, leading digits, printable texts. What Name of package lexer returns, and which texts are printable. -/
import Derived.Test.YtphenbfhojdcpaaGreatDoorKlG00
import Derived.Shelf.GgClosure.StringsIndexFunc
import Derived.Test.YtphenbfhojdcpaaGreatDoorKlZci
import Derived.Test.YtphenbfhojdcpaaGreatDoorKlG01
import Derived.Test.YtphenbfhojdcpaaGreatDoorShelf
import Derived.WalkSpells
import Derived.WalkLawsBesides
import Derived.IntWalk
set_option linter.unusedVariables false
namespace Lx
open Go Go.Lib Go.Proofs.YtphenbfhojdcpaaGreatDoor
theorem decode_lo (s : ByteArray) (i : Nat) (h : (s.get! i).toNat < 128) : Utf8.decode s i = ((s.get! i).toNat, 1) := by
  unfold Utf8.decode
  simp only [Nat.add_zero]
  rw [if_pos (by simpa using h)]
theorem decode_hi (s : ByteArray) (i : Nat) (h : 128 ≤ (s.get! i).toNat) : 128 ≤ (Utf8.decode s i).1 := by
  unfold Utf8.decode
  simp only [Nat.add_zero]
  rw [if_neg (by omega)]
  repeat' split
  all_goals simp_all [Utf8.runeError]
  all_goals omega
def fi (p : Nat → Bool) : List UInt8 → Option Nat
  | [] => none
  | b :: t => if p b.toNat then some 0 else (fi p t).map (· + 1)
theorem get_drop (s : ByteArray) (i : Nat) (h : i < s.size) : s.data.toList.drop i = s.get! i :: s.data.toList.drop (i + 1) := by
  have hl : i < s.data.toList.length := by rw [← size_eq]; exact h
  rw [List.drop_eq_getElem_cons hl]
  congr 1
  obtain ⟨⟨l⟩⟩ := s
  simp only at hl
  show l[i] = (ByteArray.mk ⟨l⟩).get! i
  simp [ByteArray.get!, hl]
theorem idx_from (p : Nat → Bool) (hp : ∀ r, 128 ≤ r → p r = true) (s : ByteArray) : ∀ (f pos : Nat), s.size ≤ pos + f →
    idxFuncFrom p true s f pos = match fi p (s.data.toList.drop pos) with | none => -1 | some i => ((pos + i : Nat) : Int)
  | 0, pos, h => by
    have : s.data.toList.drop pos = [] := List.drop_eq_nil_of_le (by rw [← size_eq]; omega)
    rw [this]
    rfl
  | f + 1, pos, h => by
    unfold idxFuncFrom
    by_cases hlt : pos < s.size
    · rw [if_pos hlt, get_drop s pos hlt]
      by_cases hb : (s.get! pos).toNat < 128
      · rw [decode_lo s pos hb]
        show (if p (s.get! pos).toNat = true then _ else idxFuncFrom p true s f (pos + 1)) = _
        by_cases hq : p (s.get! pos).toNat = true
        · rw [if_pos hq]
          simp [fi, hq]
        · rw [if_neg hq, idx_from p hp s f (pos + 1) (by omega)]
          simp only [fi, hq]
          cases fi p (s.data.toList.drop (pos + 1)) with
          | none => rfl
          | some i => show ((pos + 1 + i : Nat) : Int) = ((pos + (i + 1) : Nat) : Int); congr 1; omega
      · have hq := hp _ (show 128 ≤ (s.get! pos).toNat by omega)
        rw [if_pos (hp _ (decode_hi s pos (by omega)))]
        simp [fi, hq]
    · rw [if_neg hlt]
      have : s.data.toList.drop pos = [] := List.drop_eq_nil_of_le (by rw [← size_eq]; omega)
      rw [this]
      rfl
theorem fi_lead : ∀ l : List UInt8, fi ndR l = if lead l = l.length then none else some (lead l)
  | [] => by simp [fi, lead]
  | b :: t => by
    have ih := fi_lead t
    have := lead_le t
    unfold fi lead
    by_cases h : digR b.toNat = true
    · have h2 : ndR b.toNat = false := by simp [ndR, h]
      rw [h2, ih, if_pos h]
      by_cases e : lead t = t.length
      · simp [e]
      · simp [e]
    · have h2 : ndR b.toNat = true := by simp [ndR, h]
      rw [h2, if_neg h]
      simp
theorem fi_noth : ∀ l : List UInt8, (fi othR l).isNone = noth l
  | [] => rfl
  | b :: t => by
    have ih := fi_noth t
    unfold fi
    by_cases h : othR b.toNat = true
    · simp [h, noth]
    · simp only [noth, List.all_cons] at ih ⊢
      simp [h, ← ih]
theorem idx_lead (s : ByteArray) : idxFunc ndR true s = if lead s.data.toList = s.data.toList.length then -1 else (lead s.data.toList : Int) := by
  unfold idxFunc
  rw [idx_from ndR nd_hi s _ _ (by omega), List.drop_zero, fi_lead]
  by_cases h : lead s.data.toList = s.data.toList.length
  · rw [if_pos h, if_pos h]
  · rw [if_neg h, if_neg h]
    simp
theorem idx_noth (s : ByteArray) : decide (idxFunc othR true s < 0) = noth s.data.toList := by
  unfold idxFunc
  rw [idx_from othR oth_hi s _ _ (by omega), List.drop_zero, ← fi_noth]
  cases fi othR s.data.toList with
  | none => rfl
  | some i => simp
end Lx
namespace Go.Proofs.YtphenbfhojdcpaaGreatDoor
open Go.RowKit
set_option linter.unusedVariables false
set_option linter.unusedSimpArgs false
theorem letter_any (x : Nat) (w : World) : Calls Tryz.prog 100 #[.int .i32 (x : Int)] w fun e w' => e = .returned (.bool (Lx.lowR x)) ∧ w = w' := by
  go_enter Tryz.func100, Tryz.ntmps100
  go_wp2
  all_goals go_ret
  all_goals exact ⟨ret_bool (by rw [Bool.eq_iff_iff]; simp only [Lx.lowR, Bool.and_eq_true, decide_eq_true_eq, Bool.false_eq_true, false_iff, true_iff]; omega), rfl⟩
theorem letter_is {x : Nat} {b : Bool} (h : Lx.lowR x = b) (w : World) : Calls Tryz.prog 100 #[.int .i32 (x : Int)] w fun e w' => e = .returned (.bool b) ∧ w = w' := h ▸ letter_any x w
theorem digit_any (x : Nat) (w : World) : Calls Tryz.prog 102 #[.int .i32 (x : Int)] w fun e w' => e = .returned (.bool (Lx.digR x)) ∧ w = w' := by
  go_enter Tryz.func102, Tryz.ntmps102
  go_wp2
  all_goals go_ret
  all_goals exact ⟨ret_bool (by rw [Bool.eq_iff_iff]; simp only [Lx.digR, Bool.and_eq_true, decide_eq_true_eq, Bool.false_eq_true, false_iff, true_iff]; omega), rfl⟩
theorem digit_is {x : Nat} {b : Bool} (h : Lx.digR x = b) (w : World) : Calls Tryz.prog 102 #[.int .i32 (x : Int)] w fun e w' => e = .returned (.bool b) ∧ w = w' := h ▸ digit_any x w
theorem nodigit_any (x : Nat) (w : World) : Calls Tryz.prog 182 #[.int .i32 (x : Int)] w fun e w' => e = .returned (.bool (Lx.ndR x)) ∧ w = w' := by
  obtain ⟨b, hb⟩ : ∃ b, Lx.digR x = b := ⟨_, rfl⟩
  have HB := Lib.hid hb
  have HR := Lib.hid (show (!b) = Lx.ndR x by rw [← hb]; rfl)
  clear hb
  go_enter Tryz.func182, Tryz.ntmps182
  go_wp2_with fail
  refine (digit_is HB.out _).mono ?_
  rintro e w' ⟨rfl, rfl⟩
  go_wp2_with fail
  all_goals go_ret
  all_goals exact ⟨ret_bool HR.out, rfl⟩
theorem other_any (x : Nat) (w : World) : Calls Tryz.prog 101 #[.int .i32 (x : Int)] w fun e w' => e = .returned (.bool (Lx.othR x)) ∧ w = w' := by
  by_cases h1 : Lx.lowR x = true
  · have HR := Lib.hid (show false = Lx.othR x by simp [Lx.othR, h1])
    have HB := Lib.hid h1
    clear h1
    go_enter Tryz.func101, Tryz.ntmps101
    go_wp2_with fail
    refine (letter_is HB.out _).mono ?_
    rintro e w' ⟨rfl, rfl⟩
    go_wp2_with fail
    go_ret
    exact ⟨ret_bool HR.out, rfl⟩
  · have h1 : Lx.lowR x = false := by simpa using h1
    by_cases h2 : Lx.digR x = true
    · have HR := Lib.hid (show false = Lx.othR x by simp [Lx.othR, h2])
      have HB := Lib.hid h1
      have HC := Lib.hid h2
      clear h1 h2
      go_enter Tryz.func101, Tryz.ntmps101
      go_wp2_with fail
      refine (letter_is HB.out _).mono ?_
      rintro e w' ⟨rfl, rfl⟩
      go_wp2_with fail
      refine (digit_is HC.out _).mono ?_
      rintro e w' ⟨rfl, rfl⟩
      go_wp2_with fail
      go_ret
      exact ⟨ret_bool HR.out, rfl⟩
    · have h2 : Lx.digR x = false := by simpa using h2
      have HR := Lib.hid (show (!(x == 95) && !(x == 45)) = Lx.othR x by simp [Lx.othR, h1, h2])
      have HB := Lib.hid h1
      have HC := Lib.hid h2
      clear h1 h2
      go_enter Tryz.func101, Tryz.ntmps101
      go_wp2_with fail
      refine (letter_is HB.out _).mono ?_
      rintro e w' ⟨rfl, rfl⟩
      go_wp2_with fail
      refine (digit_is HC.out _).mono ?_
      rintro e w' ⟨rfl, rfl⟩
      go_wp2_with fail
      all_goals go_ret
      all_goals exact ⟨ret_bool (Eq.trans (by rw [Bool.eq_iff_iff]; simp; omega) HR.out), rfl⟩
theorem enters_nodigit : ∀ args w, (callFunc 182 args).run Tryz.prog w = .ok (.enter 182 args) w := enters_of Tryz.func182 (by kernel_rfl) rfl
theorem enters_other : ∀ args w, (callFunc 101 args).run Tryz.prog w = .ok (.enter 101 args) w := enters_of Tryz.func101 (by kernel_rfl) rfl
theorem gives_nodigit (w : World) : PredAt Tryz.prog 182 #[] encR Lx.ndR w := fun W x hb => (nodigit_any x W).mono fun e w' ⟨h1, h2⟩ => ⟨h1, 0, h2 ▸ rfl⟩
theorem gives_other (w : World) : PredAt Tryz.prog 101 #[] encR Lx.othR w := fun W x hb => (other_any x W).mono fun e w' ⟨h1, h2⟩ => ⟨h1, 0, h2 ▸ rfl⟩
theorem idxl_is (s : ByteArray) (w : World) : Calls Tryz.prog 103 #[.string s, .func (.func 182) #[] #[]] w fun e w' => e = .returned (.int .i64 (Lib.idxFunc Lx.ndR true s)) ∧ Below w.heap.size w w' :=
  Tryz.strings_IndexFunc _ _ enters_nodigit Lx.ndR s w (gives_nodigit w)
theorem idxn_is (s : ByteArray) (w : World) : Calls Tryz.prog 103 #[.string s, .func (.func 101) #[] #[]] w fun e w' => e = .returned (.int .i64 (Lib.idxFunc Lx.othR true s)) ∧ Below w.heap.size w w' :=
  Tryz.strings_IndexFunc _ _ enters_other Lx.othR s w (gives_other w)
/-- How many digits a word begins with. -/
theorem lead_any (s : ByteArray) (w : World) : Calls Tryz.prog 159 #[.string s] w fun e w' => e = .returned (.int .i64 (Lx.lead s.data.toList : Int)) ∧ Below w.heap.size w w' := by
  have hi := Lx.idx_lead s
  have hz := Lib.size_eq s
  by_cases h : Lx.lead s.data.toList = s.data.toList.length
  · rw [if_pos h] at hi
    have HI := Lib.hid hi
    have HZ := Lib.hid (show (s.size : Int) = (Lx.lead s.data.toList : Int) by rw [h, hz])
    clear hi hz h
    go_enter Tryz.func159, Tryz.ntmps159
    go_wp2_with fail
    refine (idxl_is s _).mono ?_
    rw [HI.out]
    rintro e w' ⟨rfl, hb⟩
    go_wp2_with fail
    go_ret
    exact ⟨ret_int HZ.out, hb⟩
  · rw [if_neg h] at hi
    have HI := Lib.hid hi
    obtain ⟨k, hk⟩ : ∃ k, Lx.lead s.data.toList = k := ⟨_, rfl⟩
    rw [hk] at HI ⊢
    clear hi hz h hk
    go_enter Tryz.func159, Tryz.ntmps159
    go_wp2_with fail
    refine (idxl_is s _).mono ?_
    rw [HI.out]
    rintro e w' ⟨rfl, hb⟩
    go_wp2_with fail
    go_ret
    exact ⟨rfl, hb⟩
theorem lead_is {s : ByteArray} {k : Nat} (h : Lx.lead s.data.toList = k) (w : World) : Calls Tryz.prog 159 #[.string s] w fun e w' => e = .returned (.int .i64 (k : Int)) ∧ Below w.heap.size w w' := h ▸ lead_any s w
end Go.Proofs.YtphenbfhojdcpaaGreatDoor
namespace Go.Proofs.YtphenbfhojdcpaaGreatDoor
open Go.RowKit
set_option linter.unusedVariables false
set_option linter.unusedSimpArgs false
/-- A byte of a string, read at a place inside it. -/
theorem str_at {s : ByteArray} {k : Nat} {c : UInt8} (h : s.data.toList[k]? = some c) (T : TypeId) (hT : Tryz.prog.underlying T = some .string) (w : World) :
    (Instr.index T (.string s) (.int .i64 (k : Int))).run Tryz.prog w = .ok (.int .u8 (c.toNat : Int)) w := by
  have hk : k < s.size := by
    rw [Lib.size_eq]
    exact (List.getElem?_eq_some_iff.1 h).1
  rw [run_index_string w T s .i64 (k : Int) hT, dif_pos ⟨by omega, by omega⟩]
  obtain ⟨⟨l⟩⟩ := s
  obtain ⟨hk2, h2⟩ := List.getElem?_eq_some_iff.1 h
  simp only [Int.toNat_natCast]
  have e : (ByteArray.mk ⟨l⟩)[k]'hk = c := h2
  rw [e]
theorem empty_list {s : ByteArray} (h : s.data.toList ≠ []) : ¬ s.toList = [] := by rw [Lib.toList_data]; exact h
theorem conv_u8 (c : UInt8) (w : World) : (convert 5 21 (.int .u8 (c.toNat : Int))).run Tryz.prog w = .ok (.int .i32 (c.toNat : Int)) w := by
  have := c.toNat_lt
  have h := IntWalk.i32_in (c.toNat : Int) (by omega)
  simp [convert, go_sem, h]
set_option maxRecDepth 100000 in
set_option maxHeartbeats 800000 in
theorem name_any (s : ByteArray) (w : World) : Calls Tryz.prog 69 #[.string s] w fun e w' => e = .returned (.bool (Lx.nameS s.data.toList)) ∧ Below w.heap.size w w' := by
  have hsz := Lib.size_eq s
  cases hl : s.data.toList with
  | nil =>
    have he : s.toList = [] := by rw [Lib.toList_data]; exact hl
    have HR := Lib.hid (show false = Lx.nameS [] from rfl)
    clear hl hsz
    go_enter Tryz.func69, Tryz.ntmps69
    go_wp2_with fail
    go_ret
    exact ⟨ret_bool HR.out, Below.refl _ _⟩
  | cons c t =>
    rw [hl] at hsz
    have he : ¬ s.toList = [] := empty_list (by rw [hl]; simp)
    have he2 : (!s.toList.isEmpty) = true := by simp [he]
    have he3 : s.toList.isEmpty = false := by simp [he]
    by_cases h24 : 24 < s.size
    · have HR := Lib.hid (show false = Lx.nameS (c :: t) by
        have : ¬ (c :: t).length ≤ 24 := by omega
        simp only [Lx.nameS, decide_eq_false this, Bool.false_and])
      have h24' : decide ((24 : Int) < s.size) = true := by simp; omega
      clear hl hsz h24
      go_enter Tryz.func69, Tryz.ntmps69
      go_wp2_with fail
      go_ret
      exact ⟨ret_bool HR.out, Below.refl _ _⟩
    · have h24' : decide ((24 : Int) < s.size) = false := by simp; omega
      have hc : s.data.toList[0]? = some c := by rw [hl]; rfl
      have k0 : ∀ w, (Instr.index 9 (.string s) (.int .i64 0)).run Tryz.prog w = .ok (.int .u8 (c.toNat : Int)) w := fun w => str_at hc 9 Tryz.underlying9 w
      have k1 : ∀ w, (convert 5 21 (.int .u8 (c.toNat : Int))).run Tryz.prog w = .ok (.int .i32 (c.toNat : Int)) w := fun w => conv_u8 c w
      by_cases hlow : Lx.lowR c.toNat = true
      · have HL := Lib.hid hlow
        have hn := Lx.idx_noth s
        obtain ⟨i, hi⟩ : ∃ i, Lib.idxFunc Lx.othR true s = i := ⟨_, rfl⟩
        rw [hi] at hn
        have HI := Lib.hid hi
        have HR := Lib.hid (show decide (i < 0) = Lx.nameS (c :: t) by
          have : (c :: t).length ≤ 24 := by omega
          rw [hn, hl]
          simp only [Lx.nameS, hlow, decide_eq_true this, Bool.true_and])
        clear hl hsz hc hlow hn hi h24
        go_enter Tryz.func69, Tryz.ntmps69
        go_wp2_with fail
        refine (letter_is HL.out _).mono ?_
        rintro e w' ⟨rfl, rfl⟩
        go_wp2_with fail
        refine (idxn_is s _).mono ?_
        rw [HI.out]
        rintro e w' ⟨rfl, hb⟩
        go_wp2_with fail
        all_goals go_ret
        all_goals exact ⟨ret_bool (by first | exact HR.out | (rw [← HR.out]; simp; omega)), hb⟩
      · have hlow : Lx.lowR c.toNat = false := by simpa using hlow
        have HL := Lib.hid hlow
        have HR := Lib.hid (show false = Lx.nameS (c :: t) by simp [Lx.nameS, hlow])
        clear hl hsz hc hlow h24
        go_enter Tryz.func69, Tryz.ntmps69
        go_wp2_with fail
        refine (letter_is HL.out _).mono ?_
        rintro e w' ⟨rfl, rfl⟩
        go_wp2_with fail
        go_ret
        exact ⟨ret_bool HR.out, Below.refl _ _⟩
theorem name_is {s : ByteArray} {b : Bool} (h : Lx.nameS s.data.toList = b) (w : World) : Calls Tryz.prog 69 #[.string s] w fun e w' => e = .returned (.bool b) ∧ Below w.heap.size w w' := h ▸ name_any s w
end Go.Proofs.YtphenbfhojdcpaaGreatDoor
