/- What printable and Line of package lexer return. -/
import Derived.Test.YtoohijffkbkikaaGreatDoorLp
namespace Lx
open Go Go.Lib Go.Proofs.YtoohijffkbkikaaGreatDoor
def prB (b : UInt8) : Bool := decide (32 ≤ b.toNat) && decide (b.toNat ≤ 126)
def prn (l : List UInt8) : Bool := l.all prB
theorem prn_cons (b : UInt8) (t : List UInt8) : prn (b :: t) = (prB b && prn t) := rfl
def toksS : List (List UInt8) → Option (List Tk)
  | [] => some []
  | x :: r => match tokS x, toksS r with
    | some t, some ts => some (t :: ts)
    | _, _ => none
theorem toks_none {x : List UInt8} {r : List (List UInt8)} (h : tokS x = none) : toksS (x :: r) = none := by simp [toksS, h]
theorem toks_some {x : List UInt8} {r : List (List UInt8)} {t : Tk} (h : tokS x = some t) : toksS (x :: r) = (toksS r).map (t :: ·) := by
  rw [toksS, h]
  cases toksS r <;> rfl
/-- The tokens of a line of at most MaxLine bytes. -/
def lineS (l : List UInt8) : Option (List Tk) := if prn l = true then toksS (fields (cut l [35]).1) else none
end Lx
namespace Go.Proofs.YtoohijffkbkikaaGreatDoor
open Go.RowKit
set_option linter.unusedVariables false
set_option linter.unusedSimpArgs false
set_option maxRecDepth 100000

set_option maxHeartbeats 1600000 in
theorem prn_any (s : ByteArray) (w : World) (hs : s.size ≤ 4000000000) : Calls Tryz.prog 68 #[.string s] w fun e w' => e = .returned (.bool (Lx.prn s.data.toList)) ∧ w = w' := by
  obtain ⟨n, hn⟩ : ∃ n, s.size = n := ⟨_, rfl⟩
  have hl : s.data.toList.length = n := by rw [← hn, Lib.size_eq]
  obtain ⟨R, hR⟩ : ∃ R, Lx.prn s.data.toList = R := ⟨_, rfl⟩
  rw [hR]
  have HR : Hid (Lx.prn (s.data.toList.drop 0) = R) := Lib.hid hR
  have HL := Lib.hid hl
  have hn2 : n ≤ 4000000000 := by omega
  clear hR hl hs
  go_enter Tryz.func68, Tryz.ntmps68
  go_wp2_with fail
  go_loopw [6] (fun i wr => ∃ k : Nat, k ≤ n ∧ i = .int .i64 k ∧ Hid (Lx.prn (s.data.toList.drop k) = R) ∧ w = wr) (fun i _ => n - (intOf i).toNat)
  case atStart => exact ⟨0, Nat.zero_le _, rfl, HR, rfl⟩
  case round =>
    clear HR
    obtain ⟨k, hk, rfl, HR, rfl⟩ := hrel
    by_cases hlt : k < n
    · obtain ⟨c, hc⟩ : ∃ c, s.data.toList[k]? = some c := ⟨_, List.getElem?_eq_getElem (by rw [HL.out]; exact hlt)⟩
      have hd := drop_cons' hc
      have hst := HR.out
      rw [hd, Lx.prn_cons] at hst
      have HS := Lib.hid hst
      have k0 : ∀ w, (Instr.index 9 (.string s) (.int .i64 (k : Int))).run Tryz.prog w = .ok (.int .u8 (c.toNat : Int)) w := fun w => str_at hc 9 Tryz.underlying9 w
      clear hc hd hst HR
      by_cases h1 : (c.toNat : Int) < 32
      · have HO := Lib.hid (show R = false by rw [← HS.out]; simp only [Lx.prB, Bool.and_eq_false_iff, decide_eq_false_iff_not]; left; left; omega)
        go_wp2_with fail
        go_ret
        rw [HO.out]
        exact ⟨rfl, rfl⟩
      · have h1' : decide ((c.toNat : Int) < 32) = false := by simp; omega
        by_cases h2 : (126 : Int) < c.toNat
        · have HO := Lib.hid (show R = false by rw [← HS.out]; simp only [Lx.prB, Bool.and_eq_false_iff, decide_eq_false_iff_not]; left; right; omega)
          go_wp2_with fail
          go_ret
          rw [HO.out]
          exact ⟨rfl, rfl⟩
        · have h2' : decide ((126 : Int) < c.toNat) = false := by simp; omega
          have N := Lib.hid (show Lx.prn (s.data.toList.drop (k + 1)) = R by
            have hp : Lx.prB c = true := by simp only [Lx.prB, Bool.and_eq_true, decide_eq_true_eq]; omega
            have := HS.out
            rw [hp, Bool.true_and] at this
            exact this)
          clear HS
          go_wp2_with fail
          go_roundw
          case rel => exact ⟨k + 1, by omega, by go_num, N, by first | rfl | trivial⟩
          case measure => simp [intOf]; omega
    · have HO := Lib.hid (show R = true by rw [← HR.out, List.drop_of_length_le (by rw [HL.out]; omega)]; rfl)
      go_wp2_with fail
      go_ret
      rw [HO.out]
      exact ⟨rfl, rfl⟩
theorem prn_is {s : ByteArray} {b : Bool} (h : Lx.prn s.data.toList = b) (w : World) (hs : s.size ≤ 4000000000) : Calls Tryz.prog 68 #[.string s] w fun e w' => e = .returned (.bool b) ∧ w = w' := h ▸ prn_any s w hs

/-! ### Lists of tokens -/
def eTok : Lx.Tk → Nat → Value := fun x j => match j with
  | 0 => .int .i64 x.1
  | 1 => .string ⟨x.2.1.toArray⟩
  | _ => .int .i64 x.2.2
theorem kTok : KindOk 22 44 3 eTok := ⟨Tryz.underlying22, by obtain ⟨i, a, b, c, d⟩ := info_parts (show (Tryz.prog.info? 44).map (fun i => (i.zero, i.size, i.bytes)) = some (some (.agg #[.int .i64 0, .string ⟨#[]⟩, .int .i64 0]), 3, 32) by kernel_rfl); exact ⟨i, _, _, a, b, c, d, rfl, by omega⟩, by omega, fun x j => by unfold eTok; split <;> rfl⟩
theorem OwnL.far_ {α : Type} {k : Nat} {e : α → Nat → Value} {T : TypeId} {w : World} {B n c : Nat} {A : Option Addr} {xs : List α} (h : OwnL T k e w B (.slice A n c) xs) : ∀ ad, A = some ad → B ≤ ad.block := fun ad ea => by
  rcases h.row with ⟨hv, _⟩ | ⟨g, cap, hv, hB, _⟩
  · cases hv; cases ea
  · cases hv; cases ea; exact hB
/-- The tokens of a line, or an error. -/
def LineV (o : Option (List Lx.Tk)) (w : World) (e : Ending) (w' : World) : Prop :=
  (o = none ∧ e = .returned (.tuple #[.slice none 0 0, .int .i64 2]) ∧ Below w.heap.size w w') ∨
  (∃ (ts : List Lx.Tk) (A : Option Addr) (c : Nat), o = some ts ∧ e = .returned (.tuple #[.slice A ts.length c, .int .i64 0]) ∧ ListAt 3 eTok w' A ts ∧ ts.length ≤ 600 ∧ Below w.heap.size w w' ∧ ts.length ≤ c ∧ ∀ ad, A = some ad → w.heap.size ≤ ad.block)
theorem line_long (s : ByteArray) (w : World) (h : 512 < s.size) : Calls Tryz.prog 49 #[.string s] w fun e w' => e = .returned (.tuple #[.slice none 0 0, .int .i64 5]) ∧ w = w' := by
  have h' : decide ((512 : Int) < s.size) = true := by simp; omega
  clear h
  go_enter Tryz.func49, Tryz.ntmps49
  go_wp2_with fail
  go_ret2
  exact ⟨rfl, rfl⟩
end Go.Proofs.YtoohijffkbkikaaGreatDoor
