/- A row of the call's own in which one cell of one element is changed. -/
import Derived.Test.YtndngkfiamdohaaDoorZdz
namespace Go.Proofs.YtndngkfiamdohaaDoor
open Go.RowKit
set_option linter.unusedVariables false
set_option linter.unusedSimpArgs false

theorem at_far {i i' j j' k : Nat} (hj : j < k) (hj' : j' < k) (h : i * k + j = i' * k + j') : i = i' ∧ j = j' := by
  rcases Nat.lt_trichotomy i i' with hlt | rfl | hgt
  · have := Nat.mul_le_mul_right k (show i + 1 ≤ i' from hlt)
    rw [Nat.succ_mul] at this; omega
  · exact ⟨rfl, by omega⟩
  · have := Nat.mul_le_mul_right k (show i' + 1 ≤ i from hgt)
    rw [Nat.succ_mul] at this; omega
/-- One cell of the i-th element is another one. -/
theorem ListAt.set1 {α : Type} {k : Nat} {e : α → Nat → Value} {w : World} {b : Nat} {xs : List α} (h : ListAt k e w (some ⟨b, 0, none⟩) xs) {i j : Nat} {x x' : α} {u : Value} (hx : xs[i]? = some x) (hj : j < k)
    (hu : e x' j = u) (ho : ∀ j', j' < k → j' ≠ j → e x' j' = e x j') : ListAt k e (w.setCell ⟨b, i * k + j, none⟩ u) (some ⟨b, 0, none⟩) (xs.set i x') := fun h0 => by
  rw [List.length_set] at h0
  obtain ⟨b', o', ea, hlt, hc⟩ := h h0
  cases ea
  have c0 := hc i x hx j hj
  rw [Nat.zero_add] at c0
  refine ⟨b, 0, rfl, by simpa using hlt, fun i' y hy j' hj' => ?_⟩
  rw [Nat.zero_add]
  by_cases hi : i = i'
  · subst hi
    have hy' : y = x' := by
      have hl := (List.getElem?_eq_some_iff.1 hx).1
      rw [List.getElem?_set_self hl] at hy
      exact (Option.some.inj hy).symm
    subst hy'
    by_cases hjj : j = j'
    · subst hjj
      rw [World.cell?_setCell_same _ _ _ c0, hu]
    · rw [World.cell?_setCell_other _ _ _ _ (by intro e; have e := congrArg Addr.off e; simp only at e; omega), ho j' hj' (fun e => hjj e.symm)]
      have := hc i x hx j' hj'
      rwa [Nat.zero_add] at this
  · rw [List.getElem?_set_ne hi] at hy
    rw [World.cell?_setCell_other _ _ _ _ (by intro e; have e := congrArg Addr.off e; simp only at e; exact hi (at_far hj hj' e).1)]
    have := hc i' y hy j' hj'
    rwa [Nat.zero_add] at this
theorem fit_set {rs : List Zn.Rule} (h : ∀ r ∈ rs, FitR r) {r : Zn.Rule} (hr : FitR r) (i : Nat) : ∀ x ∈ rs.set i r, FitR x := fun x hx => by
  rcases List.mem_or_eq_of_mem_set hx with h1 | rfl
  · exact h x h1
  · exact hr
end Go.Proofs.YtndngkfiamdohaaDoor
