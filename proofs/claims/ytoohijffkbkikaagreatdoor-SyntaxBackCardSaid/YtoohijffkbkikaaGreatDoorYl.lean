/- The laws of layer 7: what is read of a text of good lines, what is written of it, and what is read of that. Plain facts. -/
import Derived.Test.YtoohijffkbkikaaGreatDoorYd
namespace Go.Proofs.YtoohijffkbkikaaGreatDoor
open Go.RowKit
set_option linter.unusedVariables false
set_option linter.unusedSimpArgs false
set_option maxRecDepth 100000

abbrev sts (i : Nat) (xs : List (List UInt8)) : List Sy.St := (Sy.parS i xs).2.2
theorem spl_flat : ∀ (xs : List (List UInt8)) (x : List UInt8), (∀ y ∈ xs, (10 : UInt8) ∉ y) → Sy.spl [] (flat xs ++ x) = xs ++ Sy.spl [] x
  | [], x, _ => rfl
  | y :: ys, x, h => by
    have e : flat (y :: ys) ++ x = y ++ 10 :: (flat ys ++ x) := by simp [flat]
    rw [e, Sy.spl_at y [] _ (h y (by simp)), spl_flat ys x (fun z hz => h z (by simp [hz]))]
    rfl
theorem spl_last {x : List UInt8} (h : (10 : UInt8) ∉ x) : Sy.spl [] x = [x] := Sy.spl_end x [] h
theorem par_all {xs : List (List UInt8)} (i : Nat) (h : ∀ x ∈ xs, (Sy.stmS x).1 = 0) : Sy.parS i xs = (0, 0, sts i xs) := by
  have h1 := (Sy.par_app xs [] i h).2
  have h2 := Sy.par_ok xs i h1
  obtain ⟨⟨a, b, c⟩, hp⟩ : ∃ p, Sy.parS i xs = p := ⟨_, rfl⟩
  rw [hp] at h1 h2
  show Sy.parS i xs = (0, 0, (Sy.parS i xs).2.2)
  rw [hp]
  simp only at h1 h2 ⊢
  rw [h1, h2]
theorem sts_app {xs r : List (List UInt8)} (i : Nat) (h : ∀ x ∈ xs, (Sy.stmS x).1 = 0) (hr : ∀ x ∈ r, (Sy.stmS x).1 = 0) : sts i (xs ++ r) = sts i xs ++ sts (i + xs.length) r := by
  have h1 := (Sy.par_app xs r i h).1
  have h2 := par_all (i + xs.length) hr
  show (Sy.parS i (xs ++ r)).2.2 = _
  rw [h1]
  unfold Sy.comb
  rw [h2]
  rfl
theorem sts_none {x : List UInt8} {r : List (List UInt8)} {i : Nat} (h : Sy.stmS x = (0, [])) : sts i (x :: r) = sts (i + 1) r := by
  have := Sy.comb_none (acc := []) (r := r) (i := i) h
  rw [Sy.comb_nil, Sy.comb_nil] at this
  show (Sy.parS i (x :: r)).2.2 = _
  rw [this]
theorem sts_some {x : List UInt8} {r : List (List UInt8)} {i : Nat} {ts : List Lx.Tk} (h : Sy.stmS x = (0, ts)) (hne : ts ≠ []) (hr : ∀ x ∈ r, (Sy.stmS x).1 = 0) : sts i (x :: r) = ((i : Int) + 1, ts) :: sts (i + 1) r := by
  have := Sy.comb_some (acc := []) (r := r) (i := i) h hne
  rw [Sy.comb_nil] at this
  show (Sy.parS i (x :: r)).2.2 = _
  rw [this]
  unfold Sy.comb
  rw [par_all (i + 1) hr]
  rfl
theorem sts_len : ∀ (xs : List (List UInt8)) (i : Nat), (∀ x ∈ xs, (Sy.stmS x).1 = 0) → (sts i xs).length ≤ xs.length
  | [], i, _ => by simp [sts, Sy.parS]
  | x :: xs, i, h => by
    have ih := sts_len xs (i + 1) (fun y hy => h y (by simp [hy]))
    obtain ⟨⟨e, ts⟩, hs⟩ : ∃ p, Sy.stmS x = p := ⟨_, rfl⟩
    have h0 := h x (by simp)
    rw [hs] at h0
    simp only at h0
    subst h0
    by_cases hne : ts = []
    · subst hne
      rw [sts_none hs]
      simp; omega
    · rw [sts_some hs hne (fun y hy => h y (by simp [hy]))]
      simp; omega
/-- Lines further down. -/
def shiftL (d : Int) (ss : List Sy.St) : List Sy.St := ss.map fun s => (s.1 + d, s.2)
theorem sts_shift : ∀ (xs : List (List UInt8)) (i : Nat), (∀ x ∈ xs, (Sy.stmS x).1 = 0) → sts (i + 2) xs = shiftL 2 (sts i xs)
  | [], i, _ => rfl
  | x :: xs, i, h => by
    have hr := fun y hy => h y (List.mem_cons_of_mem x hy)
    have ih := sts_shift xs (i + 1) hr
    obtain ⟨⟨e, ts⟩, hs⟩ : ∃ p, Sy.stmS x = p := ⟨_, rfl⟩
    have h0 := h x (by simp)
    rw [hs] at h0
    simp only at h0
    subst h0
    by_cases hne : ts = []
    · subst hne
      rw [sts_none hs, sts_none hs, show i + 2 + 1 = i + 1 + 2 by omega]
      exact ih
    · rw [sts_some hs hne hr, sts_some hs hne hr, show i + 2 + 1 = i + 1 + 2 by omega, ih]
      unfold shiftL
      rw [List.map_cons]
      congr 1

/-! ### What is written is read again -/
theorem stm_tokens {x : List UInt8} {ts : List Lx.Tk} (h : Sy.stmS x = (0, ts)) : Lx.lineS x = some ts ∧ (ts ≠ [] → Sy.formS ts = true) := by
  unfold Sy.stmS at h
  split at h
  · cases h
  · split at h
    · cases h
    · rename_i us hu
      split at h
      · cases h
      · rename_i hc
        cases h
        refine ⟨hu, fun hne => ?_⟩
        cases hf : Sy.formS ts with
        | true => rfl
        | false => exact absurd ⟨hne, hf⟩ hc
theorem line_texts {x : List UInt8} {ts : List Lx.Tk} (h : Lx.lineS x = some ts) : ∃ ws, TextsAre ts ws := by
  unfold Lx.lineS at h
  split at h
  · exact texts_ex h
  · cases h
theorem stm_of {y : List UInt8} {ts : List Lx.Tk} (h : Lx.lineS y = some ts) (hf : Sy.formS ts = true) (hz : y.length ≤ 512) : Sy.stmS y = (0, ts) := by
  unfold Sy.stmS
  rw [if_neg (by omega), h]
  simp only
  rw [if_neg (fun hh => by rw [hf] at hh; cases hh.2)]
/-- Statements numbered from i + 1 on. -/
def numS : Nat → List Sy.St → List Sy.St
  | _, [] => []
  | i, s :: r => ((i : Int) + 1, s.2) :: numS (i + 1) r
theorem num_len : ∀ (ss : List Sy.St) (i : Nat), (numS i ss).length = ss.length
  | [], i => rfl
  | s :: r, i => by simp [numS, num_len r]
theorem num_get : ∀ (ss : List Sy.St) (i k : Nat) (s : Sy.St), ss[k]? = some s → (numS i ss)[k]? = some ((i : Int) + k + 1, s.2)
  | [], i, k, s, h => by simp at h
  | t :: r, i, 0, s, h => by
    simp at h; subst h
    simp [numS]
  | t :: r, i, k + 1, s, h => by
    have := num_get r (i + 1) k s (by simpa using h)
    rw [numS, List.getElem?_cons_succ, this]
    congr 2
    push_cast
    omega
theorem sts_back : ∀ (xs : List (List UInt8)) (i : Nat), (∀ x ∈ xs, GL x) → ∃ ys : List (List UInt8), LinesOf (sts i xs) ys ∧ (∀ y ∈ ys, (10 : UInt8) ∉ y ∧ (Sy.stmS y).1 = 0) ∧ ∀ j, sts j ys = numS j (sts i xs)
  | [], i, _ => ⟨[], ⟨rfl, fun k s y h => by simp [sts, Sy.parS] at h⟩, (fun y hy => by cases hy), fun j => rfl⟩
  | x :: xs, i, h => by
    have hg := h x (by simp)
    have hr := fun y hy => (h y (List.mem_cons_of_mem x hy)).ok
    obtain ⟨ys, h1, h2, h3⟩ := sts_back xs (i + 1) (fun y hy => h y (List.mem_cons_of_mem x hy))
    obtain ⟨⟨e, ts⟩, hs⟩ : ∃ p, Sy.stmS x = p := ⟨_, rfl⟩
    have h0 := hg.ok
    have h20 := hg.toks
    rw [hs] at h0 h20
    simp only at h0 h20
    subst h0
    by_cases hne : ts = []
    · subst hne
      rw [sts_none hs]
      exact ⟨ys, h1, h2, h3⟩
    · obtain ⟨hl, hf⟩ := stm_tokens hs
      obtain ⟨ws, hw⟩ := line_texts hl
      obtain ⟨hl2, h10, hz⟩ := hw.line
      have hzz : (Lib.join ws [32]).length ≤ 512 := by
        have := hw.1
        have : ws.length * 25 ≤ 20 * 25 := Nat.mul_le_mul_right _ (by omega)
        omega
      have hstm := stm_of hl2 (hf hne) hzz
      rw [sts_some hs hne hr]
      refine ⟨Lib.join ws [32] :: ys, ⟨by simp [h1.1], fun k s y hks hky => ?_⟩, fun y hy => ?_, fun j => ?_⟩
      · cases k with
        | zero => simp at hks hky; subst hks; subst hky; exact ⟨hf hne, ⟨ws, hw, rfl⟩, hzz⟩
        | succ k => exact h1.2 k s y (by simpa using hks) (by simpa using hky)
      · simp only [List.mem_cons] at hy
        rcases hy with rfl | hy
        · exact ⟨h10, by rw [hstm]⟩
        · exact h2 y hy
      · rw [sts_some hstm hne (fun y hy => (h2 y hy).2), h3 (j + 1)]
        rfl
theorem LinesOf.num {ss : List Sy.St} {ys : List (List UInt8)} (h : LinesOf ss ys) (i : Nat) : LinesOf (numS i ss) ys := by
  refine ⟨by rw [num_len]; exact h.1, fun k s y hks hky => ?_⟩
  obtain ⟨t, ht⟩ := get_ex (xs := ss) (i := k) (by rw [h.1]; exact (List.getElem?_eq_some_iff.1 hky).1)
  have hn := num_get ss i k t ht
  rw [hks] at hn
  cases hn
  have := h.2 k t y ht hky
  exact ⟨this.form, this.words, this.len⟩
/-- What SyntaxBack meets. -/
structure BackF (s : List UInt8) (ss : List Sy.St) (ys : List (List UInt8)) : Prop where
  first : Sy.parS 0 (Sy.spl [] s) = (0, 0, ss)
  lines : LinesOf ss ys
  few : ss.length ≤ 9
  again : Sy.parS 0 (Sy.spl [] (flat ys)) = (0, 0, numS 0 ss)
theorem back_facts {s : List UInt8} {xs : List (List UInt8)} {x : List UInt8} (h : GT s xs x) : ∃ ss ys, BackF s ss ys := by
  have hall : ∀ y ∈ xs ++ [x], GL y := fun y hy => by
    simp only [List.mem_append, List.mem_singleton] at hy
    rcases hy with hy | rfl
    · exact h.all y hy
    · exact h.last
  obtain ⟨ys, h1, h2, h3⟩ := sts_back (xs ++ [x]) 0 hall
  refine ⟨sts 0 (xs ++ [x]), ys, ?_, h1, ?_, ?_⟩
  · rw [h.eq, spl_flat xs x (fun y hy => (h.all y hy).no10), spl_last h.last.no10]
    exact par_all 0 (fun y hy => (hall y hy).ok)
  · have := sts_len (xs ++ [x]) 0 (fun y hy => (hall y hy).ok)
    have := h.few
    simp at *
    omega
  · have e : Sy.spl [] (flat ys) = ys ++ [[]] := by
      have := spl_flat ys [] (fun y hy => (h2 y hy).1)
      rw [List.append_nil] at this
      rw [this]
      rfl
    have hok : ∀ y ∈ ys ++ [[]], (Sy.stmS y).1 = 0 := fun y hy => by
      simp only [List.mem_append, List.mem_singleton] at hy
      rcases hy with hy | rfl
      · exact (h2 y hy).2
      · exact gl_nil.ok
    rw [e, par_all 0 hok, sts_app 0 (fun y hy => (h2 y hy).2) (fun y hy => by
      simp only [List.mem_singleton] at hy
      subst hy
      exact gl_nil.ok), h3 0]
    have e2 : sts (0 + ys.length) [[]] = [] := by
      have : Sy.stmS [] = (0, []) := by kernel_rfl
      rw [sts_none this]
      rfl
    rw [e2, List.append_nil]
end Go.Proofs.YtoohijffkbkikaaGreatDoor
