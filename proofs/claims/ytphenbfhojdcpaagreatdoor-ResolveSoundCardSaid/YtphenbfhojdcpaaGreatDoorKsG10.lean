/- Plain facts on Rs.buildS for the law ResolveSound: the statements ahead of the wrong one have no line. Plain facts on the lines that law08 draws: each is a statement, of few tokens, whose numbers fit. Printed by gen_sq.py. Plain facts on texts made of law08's lines. Plain facts for ResolveSound's loop: where the lines of a text lie. Plain facts for ResolveSound: how Build ends. -/
import Derived.Test.YtphenbfhojdcpaaGreatDoorKsG09
namespace Go.Proofs.YtphenbfhojdcpaaGreatDoor
set_option linter.unusedSimpArgs false
set_option linter.unusedVariables false
namespace Rs
/-- Statements that stand ahead of a line. -/
def pre (L : Int) (ss : List Sy.St) : List Sy.St := ss.filter fun s => decide (s.1 < L)
/-- Every line behind the first is greater. -/
def Asc : List Sy.St → Prop
  | [] => True
  | s :: r => (∀ x ∈ r, s.1 < x.1) ∧ Asc r
theorem chk_or (C : Cfg) : (buildS C []).2.1 = 0 := by
  rw [buildS]
  split <;> rfl
theorem pre_none {L : Int} : ∀ {ss : List Sy.St}, (∀ x ∈ ss, L ≤ x.1) → pre L ss = []
  | ss, h => by
    unfold pre
    rw [List.filter_eq_nil_iff]
    intro x hx
    have := h x hx
    simp; omega
/-- Where Build errs at line L (which is not 0), the statements ahead of it are built without a line. -/
theorem build_pre : ∀ (ss : List Sy.St) (C : Cfg) (L : Int), Asc ss → (∀ x ∈ ss, 1 ≤ x.1) → (buildS C ss).2.1 = L → L ≠ 0 → (buildS C (pre L ss)).2.1 = 0
  | [], C, L, _, _, h, h0 => by rw [chk_or] at h; exact absurd h.symm h0
  | s :: r, C, L, ha, hp, h, h0 => by
    rw [buildS] at h
    by_cases hf : Sy.formS s.2 = false
    · rw [if_pos hf] at h
      simp only at h
      rw [pre_none (L := L) (fun x hx => by
        rcases List.mem_cons.1 hx with rfl | hx
        · omega
        · have := ha.1 x hx; omega)]
      exact chk_or C
    · rw [if_neg hf] at h
      by_cases hz : (stepS C s.2).1 ≠ 0
      · rw [if_pos hz] at h
        simp only at h
        rw [pre_none (L := L) (fun x hx => by
          rcases List.mem_cons.1 hx with rfl | hx
          · omega
          · have := ha.1 x hx; omega)]
        exact chk_or C
      · rw [if_neg hz] at h
        have ih := build_pre r (stepS C s.2).2 L ha.2 (fun x hx => hp x (List.mem_cons_of_mem _ hx)) h h0
        have hlt : s.1 < L := by
          have hne : pre L (s :: r) = pre L (s :: r) := rfl
          exact build_line r (stepS C s.2).2 L s.1 (fun x hx => ha.1 x hx) h h0 (hp s (by simp))
        unfold pre at ih ⊢
        rw [List.filter_cons_of_pos (by simpa using hlt), buildS, if_neg hf, if_neg hz]
        exact ih
where
  build_line : ∀ (ss : List Sy.St) (C : Cfg) (L k : Int), (∀ x ∈ ss, k < x.1) → (buildS C ss).2.1 = L → L ≠ 0 → 1 ≤ k → k < L
  | [], C, L, k, _, h, h0, _ => by rw [chk_or] at h; exact absurd h.symm h0
  | s :: r, C, L, k, hk, h, h0, h1 => by
    rw [buildS] at h
    by_cases hf : Sy.formS s.2 = false
    · rw [if_pos hf] at h
      simp only at h
      have := hk s (by simp)
      omega
    · rw [if_neg hf] at h
      by_cases hz : (stepS C s.2).1 ≠ 0
      · rw [if_pos hz] at h
        simp only at h
        have := hk s (by simp)
        omega
      · rw [if_neg hz] at h
        exact build_line r (stepS C s.2).2 L k (fun x hx => hk x (List.mem_cons_of_mem _ hx)) h h0 h1
end Rs
end Go.Proofs.YtphenbfhojdcpaaGreatDoor
namespace Go.Proofs.YtphenbfhojdcpaaGreatDoor
set_option linter.unusedSimpArgs false
set_option linter.unusedVariables false
set_option maxRecDepth 100000
namespace R8
def linesL : List (List UInt8) :=
  [[122, 111, 110, 101, 32, 104, 101, 114, 101, 32, 43, 48, 49, 58, 48, 48],
   [122, 111, 110, 101, 32, 116, 104, 101, 114, 101, 32, 45, 48, 53, 58, 48, 48],
   [114, 117, 108, 101, 32, 50, 48, 50, 54, 32, 50, 48, 50, 55, 32, 109, 97, 114, 32, 108, 97, 115, 116, 32, 115, 117, 110, 32, 48, 50, 58, 48, 48, 32, 43, 48, 50, 58, 48, 48],
   [114, 117, 108, 101, 32, 50, 48, 50, 54, 32, 50, 48, 50, 55, 32, 111, 99, 116, 32, 108, 97, 115, 116, 32, 115, 117, 110, 32, 48, 51, 58, 48, 48, 32, 43, 48, 49, 58, 48, 48],
   [114, 117, 108, 101, 32, 50, 48, 50, 54, 32, 50, 48, 50, 54, 32, 102, 101, 98, 32, 116, 104, 105, 114, 100, 32, 115, 117, 110, 32, 48, 51, 58, 48, 48, 32, 43, 48, 49, 58, 48, 48],
   [114, 117, 108, 101, 32, 50, 48, 50, 54, 32, 50, 48, 50, 54, 32, 102, 111, 111, 32, 108, 97, 115, 116, 32, 115, 117, 110, 32, 48, 51, 58, 48, 48, 32, 43, 48, 49, 58, 48, 48],
   [112, 101, 114, 115, 111, 110, 32, 97, 100, 97, 32, 104, 101, 114, 101],
   [112, 101, 114, 115, 111, 110, 32, 98, 111, 98, 32, 104, 101, 114, 101, 32, 119, 101, 101, 107, 32, 52, 48, 32, 114, 101, 115, 116, 32, 49, 49, 32, 99, 111, 110, 115, 101, 110, 116],
   [112, 101, 114, 115, 111, 110, 32, 99, 108, 101, 111, 32, 110, 111, 119, 104, 101, 114, 101],
   [112, 101, 114, 115, 111, 110, 32, 110, 111, 98, 111, 100, 121, 32, 104, 101, 114, 101],
   [112, 101, 114, 115, 111, 110, 32, 97, 100, 97, 32, 116, 104, 101, 114, 101, 32, 119, 101, 101, 107, 32, 50, 48, 48],
   [113, 117, 105, 101, 116, 32, 109, 111, 110, 32, 50, 50, 58, 48, 48, 32, 109, 111, 110, 32, 50, 52, 58, 48, 48],
   [113, 117, 105, 101, 116, 32, 116, 117, 101, 32, 48, 48, 58, 48, 48, 32, 109, 111, 110, 32, 50, 50, 58, 48, 48],
   [113, 117, 105, 101, 116, 32, 116, 111, 100, 97, 121, 32, 48, 48, 58, 48, 48, 32, 109, 111, 110, 32, 50, 50, 58, 48, 48],
   [99, 97, 108, 101, 110, 100, 97, 114, 32, 100, 97, 121, 115, 32, 104, 101, 114, 101],
   [100, 97, 121, 115, 32, 50, 48, 50, 54, 45, 48, 49, 45, 48, 55, 32, 50, 48, 50, 54, 45, 48, 49, 45, 48, 57],
   [100, 97, 121, 115, 32, 50, 48, 50, 54, 45, 48, 49, 45, 48, 49],
   [115, 99, 104, 101, 100, 117, 108, 101, 32, 102, 105, 114, 115, 116],
   [115, 99, 104, 101, 100, 117, 108, 101, 32, 115, 101, 99, 111, 110, 100],
   [108, 97, 121, 101, 114, 32, 108, 111, 119, 32, 104, 101, 114, 101, 32, 50, 48, 50, 54, 45, 48, 49, 45, 48, 53, 32, 48, 57, 58, 48, 48, 32, 49, 32, 100, 97, 121, 115],
   [108, 97, 121, 101, 114, 32, 116, 111, 112, 32, 104, 101, 114, 101, 32, 50, 48, 50, 54, 45, 48, 49, 45, 48, 52, 32, 48, 48, 58, 48, 48, 32, 52, 48, 49, 32, 104, 111, 117, 114, 115],
   [108, 97, 121, 101, 114, 32, 116, 111, 112, 32, 104, 101, 114, 101, 32, 50, 48, 50, 54, 45, 48, 49, 45, 48, 52, 32, 50, 52, 58, 48, 48, 32, 52, 32, 104, 111, 117, 114, 115],
   [108, 97, 121, 101, 114, 32, 116, 111, 112, 32, 104, 101, 114, 101, 32, 50, 48, 50, 54, 45, 48, 49, 45, 48, 52, 32, 50, 51, 58, 48, 48, 32, 52, 32, 109, 111, 110, 116, 104, 115],
   [109, 101, 109, 98, 101, 114, 32, 97, 100, 97, 32, 98, 111, 98],
   [109, 101, 109, 98, 101, 114, 32, 98, 111, 98],
   [109, 101, 109, 98, 101, 114, 32, 122, 101, 100],
   [111, 110, 32, 109, 111, 110, 32, 48, 57, 58, 48, 48, 32, 109, 111, 110, 32, 49, 55, 58, 48, 48],
   [111, 110, 32, 116, 117, 101, 32, 48, 57, 58, 48, 48, 32, 115, 117, 110, 32, 50, 52, 58, 48, 48],
   [110, 111, 116, 32, 100, 97, 121, 115],
   [111, 110, 108, 121, 32, 100, 97, 121, 115],
   [111, 110, 108, 121, 32, 111, 116, 104, 101, 114],
   [108, 101, 97, 118, 101, 32, 97, 100, 97, 32, 50, 48, 50, 54, 45, 48, 49, 45, 48, 54, 84, 48, 48, 58, 48, 48, 58, 48, 48, 90, 32, 50, 48, 50, 54, 45, 48, 49, 45, 48, 55, 84, 48, 48, 58, 48, 48, 58, 48, 48, 90],
   [111, 118, 101, 114, 114, 105, 100, 101, 32, 110, 111, 98, 111, 100, 121, 32, 50, 48, 50, 54, 45, 48, 49, 45, 48, 54, 84, 48, 48, 58, 48, 48, 58, 48, 48, 90, 32, 50, 48, 50, 54, 45, 48, 49, 45, 48, 55, 84, 48, 48, 58, 48, 48, 58, 48, 48, 90],
   [111, 118, 101, 114, 114, 105, 100, 101, 32, 98, 111, 98, 32, 50, 48, 50, 54, 45, 48, 49, 45, 48, 56, 84, 48, 48, 58, 48, 48, 58, 48, 48, 90, 32, 50, 48, 50, 54, 45, 48, 49, 45, 48, 55, 84, 48, 48, 58, 48, 48, 58, 48, 48, 90],
   [115, 119, 97, 112, 32, 97, 100, 97, 32, 98, 111, 98, 32, 50, 48, 50, 54, 45, 48, 49, 45, 48, 54, 84, 48, 48, 58, 48, 48, 58, 48, 48, 90, 32, 50, 48, 50, 54, 45, 48, 49, 45, 48, 55, 84, 48, 48, 58, 48, 48, 58, 48, 48, 90],
   [115, 119, 97, 112, 32, 97, 100, 97, 32, 97, 100, 97, 32, 50, 48, 50, 54, 45, 48, 49, 45, 48, 54, 84, 48, 48, 58, 48, 48, 58, 48, 48, 90, 32, 50, 48, 50, 54, 45, 48, 49, 45, 48, 55, 84, 48, 48, 58, 48, 48, 58, 48, 48, 90]]
def baseL : List (List UInt8) :=
  [[122, 111, 110, 101, 32, 104, 101, 114, 101, 32, 43, 48, 49, 58, 48, 48],
   [112, 101, 114, 115, 111, 110, 32, 97, 100, 97, 32, 104, 101, 114, 101],
   [112, 101, 114, 115, 111, 110, 32, 98, 111, 98, 32, 104, 101, 114, 101],
   [99, 97, 108, 101, 110, 100, 97, 114, 32, 100, 97, 121, 115, 32, 104, 101, 114, 101],
   [115, 99, 104, 101, 100, 117, 108, 101, 32, 109, 97, 105, 110],
   [108, 97, 121, 101, 114, 32, 98, 97, 115, 101, 32, 104, 101, 114, 101, 32, 50, 48, 50, 54, 45, 48, 49, 45, 48, 53, 32, 48, 56, 58, 48, 48, 32, 49, 32, 119, 101, 101, 107, 115],
   [109, 101, 109, 98, 101, 114, 32, 97, 100, 97, 32, 98, 111, 98]]
def saneL : List (List UInt8) :=
  [[122, 111, 110, 101, 32, 122, 32, 43, 48, 48, 58, 48, 48],
   [112, 101, 114, 115, 111, 110, 32, 97, 32, 122],
   [115, 99, 104, 101, 100, 117, 108, 101, 32, 115],
   [108, 97, 121, 101, 114, 32, 108, 32, 122, 32, 50, 48, 50, 54, 45, 48, 49, 45, 48, 53, 32, 48, 57, 58, 48, 48, 32, 49, 32, 119, 101, 101, 107, 115],
   [109, 101, 109, 98, 101, 114, 32, 97],
   [112, 101, 114, 115, 111, 110, 32, 97, 32, 121]]
def okB (x : List UInt8) : Bool := (Sy.stmS x).1 == 0 && !(Sy.stmS x).2.isEmpty && decide ((Sy.stmS x).2.length ≤ 12) && (Sy.stmS x).2.all (fun t => decide (-9223372036854775808 ≤ t.2.2) && decide (t.2.2 ≤ 9223372036854775807)) && !x.contains 10 && decide (x.length ≤ 80)
theorem ok_lines : (linesL ++ baseL ++ saneL).all okB = true := by kernel_rfl
theorem ok_of {x : List UInt8} (h : x ∈ linesL ++ baseL ++ saneL) : (Sy.stmS x).1 = 0 ∧ (Sy.stmS x).2 ≠ [] ∧ (Sy.stmS x).2.length ≤ 12 ∧ (∀ t ∈ (Sy.stmS x).2, -9223372036854775808 ≤ t.2.2 ∧ t.2.2 ≤ 9223372036854775807) ∧ (10 : UInt8) ∉ x ∧ x.length ≤ 80 := by
  have h1 := List.all_eq_true.1 ok_lines x h
  unfold okB at h1
  simp only [Bool.and_eq_true, beq_iff_eq, Bool.not_eq_true', decide_eq_true_eq, List.all_eq_true] at h1
  obtain ⟨⟨⟨⟨⟨a, b⟩, c⟩, d⟩, e⟩, f⟩ := h1
  refine ⟨a, fun hh => ?_, c, fun t ht => d t ht, fun hm => ?_, f⟩
  · rw [hh] at b; cases b
  · rw [List.contains_iff_mem.2 hm] at e; cases e
end R8
end Go.Proofs.YtphenbfhojdcpaaGreatDoor
namespace Go.Proofs.YtphenbfhojdcpaaGreatDoor
set_option linter.unusedSimpArgs false
set_option linter.unusedVariables false
namespace R8
/-- The text of lines. -/
def txt (ls : List (List UInt8)) : List UInt8 := ls.flatMap (· ++ [10])
/-- Their statements, the first of line i + 1. -/
def stL : Nat → List (List UInt8) → List Sy.St
  | _, [] => []
  | i, x :: r => ((i : Int) + 1, (Sy.stmS x).2) :: stL (i + 1) r
def In (ls : List (List UInt8)) : Prop := ∀ x ∈ ls, x ∈ linesL ++ baseL ++ saneL
theorem spl_txt : ∀ {ls : List (List UInt8)}, In ls → Sy.spl [] (txt ls) = ls ++ [[]]
  | [], _ => rfl
  | x :: r, h => by
    have hx := (ok_of (h x (by simp))).2.2.2.2.1
    have e : txt (x :: r) = x ++ 10 :: txt r := by unfold txt; simp
    rw [e, Sy.spl_at x [] (txt r) hx, spl_txt (fun y hy => h y (List.mem_cons_of_mem _ hy))]
    simp
theorem par_lines : ∀ {ls : List (List UInt8)} (i : Nat), In ls → Sy.parS i (ls ++ [[]]) = (0, 0, stL i ls)
  | [], i, _ => by
    have e : Sy.stmS [] = (0, []) := by kernel_rfl
    rw [List.nil_append, Sy.parS, e]
    simp [Sy.parS, stL]
  | x :: r, i, h => by
    obtain ⟨h1, h2, -⟩ := ok_of (h x (by simp))
    rw [List.cons_append, Sy.parS, if_pos h1, par_lines (i + 1) (fun y hy => h y (List.mem_cons_of_mem _ hy))]
    simp only [if_true, if_neg h2]
    rfl
theorem stL_len : ∀ (ls : List (List UInt8)) (i : Nat), (stL i ls).length = ls.length
  | [], _ => rfl
  | x :: r, i => by rw [stL, List.length_cons, stL_len r (i + 1), List.length_cons]
theorem stL_ge : ∀ {ls : List (List UInt8)} {i : Nat} {s : Sy.St}, s ∈ stL i ls → (i : Int) + 1 ≤ s.1
  | [], _, _, h => by cases h
  | x :: r, i, s, h => by
    rw [stL] at h
    rcases List.mem_cons.1 h with rfl | h
    · exact Int.le_refl _
    · have := stL_ge h
      simp at this
      omega
theorem stL_asc : ∀ (ls : List (List UInt8)) (i : Nat), Rs.Asc (stL i ls)
  | [], _ => trivial
  | x :: r, i => ⟨fun s hs => by have := stL_ge hs; simp at this ⊢; omega, stL_asc r (i + 1)⟩
theorem stL_fit : ∀ {ls : List (List UInt8)} {i : Nat}, In ls → ((stL i ls).map (·.2.length)).sum ≤ 12 * ls.length ∧ ∀ s ∈ stL i ls, ∀ t ∈ s.2, -9223372036854775808 ≤ t.2.2 ∧ t.2.2 ≤ 9223372036854775807
  | [], _, _ => ⟨by simp [stL], fun s hs => by cases hs⟩
  | x :: r, i, h => by
    obtain ⟨-, -, h3, h4, -⟩ := ok_of (h x (by simp))
    obtain ⟨a, b⟩ := stL_fit (i := i + 1) (fun y hy => h y (List.mem_cons_of_mem _ hy))
    rw [stL]
    refine ⟨by simp only [List.map_cons, List.sum_cons, List.length_cons]; omega, fun s hs => ?_⟩
    rcases List.mem_cons.1 hs with rfl | hs
    · exact h4
    · exact b s hs
/-- The statements ahead of line L: those of the first lines. -/
theorem pre_stL : ∀ (ls : List (List UInt8)) (i : Nat) (L : Int), Rs.pre L (stL i ls) = stL i (ls.take (L - 1 - i).toNat)
  | [], _, _ => by simp [stL, Rs.pre]
  | x :: r, i, L => by
    by_cases h : (i : Int) + 1 < L
    · obtain ⟨k, hk⟩ : ∃ k, (L - 1 - (i : Int)).toNat = k + 1 := ⟨(L - 1 - (i : Int)).toNat - 1, by omega⟩
      have ih := pre_stL r (i + 1) L
      unfold Rs.pre at ih ⊢
      rw [stL, List.filter_cons_of_pos (by simpa using h), ih, hk, List.take_succ_cons, stL]
      have : (L - 1 - ((i + 1 : Nat) : Int)).toNat = k := by omega
      rw [this]
    · have h0 : (L - 1 - (i : Int)).toNat = 0 := by omega
      rw [h0, List.take_zero, Rs.pre_none (fun s hs => by have := stL_ge hs; omega)]
      rfl
/-- What Load makes of a text of such lines. -/
theorem load_txt {ls : List (List UInt8)} (h : In ls) : Rs.loadS (txt ls) = Rs.buildS Rs.noCfg (stL 0 ls) := by
  unfold Rs.loadS
  rw [spl_txt h, par_lines 0 h]
  simp
/-- Ahead of the wrong line, no statement is wrong. -/
theorem load_pre {ls : List (List UInt8)} (h : In ls) {L : Int} (hL : (Rs.loadS (txt ls)).2.1 = L) (h0 : L ≠ 0) : (Rs.loadS (txt (ls.take (L - 1).toNat))).2.1 = 0 := by
  rw [load_txt h] at hL
  rw [load_txt (fun x hx => h x (List.mem_of_mem_take hx))]
  have := Rs.build_pre (stL 0 ls) Rs.noCfg L (stL_asc ls 0) (fun x hx => by have := stL_ge hx; simp at this; omega) hL h0
  rw [pre_stL] at this
  simpa using this
end R8
end Go.Proofs.YtphenbfhojdcpaaGreatDoor
namespace Go.Proofs.YtphenbfhojdcpaaGreatDoor
set_option linter.unusedSimpArgs false
set_option linter.unusedVariables false
namespace R8
/-- Where line k (from 0 on) begins. -/
def pos (ls : List (List UInt8)) (k : Nat) : Nat := (txt (ls.take k)).length
theorem txt_cons (x : List UInt8) (r : List (List UInt8)) : txt (x :: r) = x ++ 10 :: txt r := by unfold txt; simp
theorem txt_app (a b : List (List UInt8)) : txt (a ++ b) = txt a ++ txt b := by unfold txt; simp
theorem txt_split {ls : List (List UInt8)} {k : Nat} {x : List UInt8} (h : ls[k]? = some x) : txt ls = txt (ls.take k) ++ (x ++ 10 :: txt (ls.drop (k + 1))) := by
  have hk := (List.getElem?_eq_some_iff.1 h).1
  have hx := (List.getElem?_eq_some_iff.1 h).2
  have e : ls.drop k = x :: ls.drop (k + 1) := by rw [List.drop_eq_getElem_cons hk, hx]
  rw [← txt_cons, ← e, ← txt_app, List.take_append_drop]
theorem pos_succ {ls : List (List UInt8)} {k : Nat} {x : List UInt8} (h : ls[k]? = some x) : pos ls (k + 1) = pos ls k + x.length + 1 := by
  unfold pos
  rw [List.take_add_one, h, txt_app]
  show (txt (ls.take k) ++ txt [x]).length = _
  rw [txt_cons, List.length_append, List.length_append, List.length_cons]
  show _ = _
  have : (txt []).length = 0 := rfl
  omega
theorem pos_lt {ls : List (List UInt8)} {k : Nat} {x : List UInt8} (h : ls[k]? = some x) : pos ls k + x.length + 1 ≤ (txt ls).length := by
  rw [txt_split h]
  simp only [List.length_append, List.length_cons]
  unfold pos
  omega
theorem at_end {ls : List (List UInt8)} {k : Nat} {x : List UInt8} (h : ls[k]? = some x) : (txt ls)[pos ls k + x.length]? = some 10 := by
  rw [txt_split h]
  unfold pos
  rw [List.getElem?_append_right (by omega), List.getElem?_append_right (by omega)]
  have : (txt (ls.take k)).length + x.length - (txt (ls.take k)).length - x.length = 0 := by omega
  rw [this]
  rfl
theorem at_in {ls : List (List UInt8)} (hin : In ls) {k i : Nat} {x : List UInt8} (h : ls[k]? = some x) (hi : i < x.length) : ∃ b, (txt ls)[pos ls k + i]? = some b ∧ b ≠ 10 := by
  refine ⟨x[i], ?_, fun e => ?_⟩
  · rw [txt_split h]
    unfold pos
    rw [List.getElem?_append_right (by omega), List.getElem?_append_left (by omega)]
    have : (txt (ls.take k)).length + i - (txt (ls.take k)).length = i := by omega
    rw [this]
    exact List.getElem?_eq_getElem hi
  · exact (ok_of (hin x (List.mem_of_getElem? h))).2.2.2.2.1 (e ▸ List.getElem_mem hi)
theorem take_pos (ls : List (List UInt8)) (k : Nat) : (txt ls).take (pos ls k) = txt (ls.take k) := by
  have e : txt ls = txt (ls.take k) ++ txt (ls.drop k) := by rw [← txt_app, List.take_append_drop]
  rw [e]
  unfold pos
  rw [List.take_left]
end R8
end Go.Proofs.YtphenbfhojdcpaaGreatDoor
namespace Go.Proofs.YtphenbfhojdcpaaGreatDoor
set_option linter.unusedSimpArgs false
set_option linter.unusedVariables false
namespace Rs
theorem build_ok : ∀ (ss : List Sy.St) (C : Cfg), (buildS C ss).1 = 0 → (buildS C ss).2.1 = 0 ∧ chkS (buildS C ss).2.2 = 0
  | [], C, h => by
    rw [buildS] at h ⊢
    split at h
    · rename_i hc
      rw [if_pos hc]
      exact ⟨rfl, hc⟩
    · rename_i hc
      exact absurd h hc
  | s :: r, C, h => by
    rw [buildS] at h ⊢
    split at h
    · simp at h
    · rename_i h1
      rw [if_neg h1]
      split at h
      · rename_i h2
        exact absurd h h2
      · rename_i h2
        rw [if_neg h2]
        exact build_ok r _ h
theorem build_bad : ∀ (ss : List Sy.St) (C : Cfg), (buildS C ss).1 ≠ 0 → (buildS C ss).2.2 = noCfg ∧ ((buildS C ss).2.1 = 0 ∨ ∃ s ∈ ss, s.1 = (buildS C ss).2.1)
  | [], C, h => by
    rw [buildS] at h ⊢
    split at h
    · exact absurd rfl h
    · rename_i hc
      rw [if_neg hc]
      exact ⟨rfl, .inl rfl⟩
  | s :: r, C, h => by
    rw [buildS] at h ⊢
    by_cases h1 : Sy.formS s.2 = false
    · rw [if_pos h1]
      exact ⟨rfl, .inr ⟨s, by simp, rfl⟩⟩
    · rw [if_neg h1] at h ⊢
      by_cases h2 : (stepS C s.2).1 ≠ 0
      · rw [if_pos h2]
        exact ⟨rfl, .inr ⟨s, by simp, rfl⟩⟩
      · rw [if_neg h2] at h ⊢
        obtain ⟨a, b⟩ := build_bad r _ h
        exact ⟨a, b.elim .inl fun ⟨x, hx, e⟩ => .inr ⟨x, List.mem_cons_of_mem _ hx, e⟩⟩
end Rs
namespace R8
theorem stL_le : ∀ {ls : List (List UInt8)} {i : Nat} {s : Sy.St}, s ∈ stL i ls → s.1 ≤ (i : Int) + ls.length
  | [], _, _, h => by cases h
  | x :: r, i, s, h => by
    rw [stL] at h
    rcases List.mem_cons.1 h with rfl | h
    · simp; omega
    · have := stL_le h
      simp at this ⊢
      omega
/-- How Load ends at a text of such lines. -/
theorem load_ends {ls : List (List UInt8)} (h : In ls) : ((Rs.loadS (txt ls)).1 = 0 → (Rs.loadS (txt ls)).2.1 = 0 ∧ Rs.chkS (Rs.loadS (txt ls)).2.2 = 0) ∧ ((Rs.loadS (txt ls)).1 ≠ 0 → (Rs.loadS (txt ls)).2.2 = Rs.noCfg ∧ 0 ≤ (Rs.loadS (txt ls)).2.1 ∧ (Rs.loadS (txt ls)).2.1 ≤ ls.length) := by
  rw [load_txt h]
  refine ⟨Rs.build_ok _ _, fun hb => ?_⟩
  obtain ⟨a, b⟩ := Rs.build_bad _ _ hb
  refine ⟨a, ?_⟩
  rcases b with b | ⟨s, hs, e⟩
  · rw [b]; omega
  · rw [← e]
    have h1 := stL_ge hs
    have h2 := stL_le hs
    omega
end R8
end Go.Proofs.YtphenbfhojdcpaaGreatDoor
