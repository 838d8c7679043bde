/- Plain facts for the law on the order. Nothing of the program stands in it. -/
import Derived.Test.YtcannkndedlooaaDoorRat
set_option linter.unusedVariables false
namespace Rt
theorem order_ways {xn xd yn yd : Int} (hx : vld xn xd) (hy : vld yn yd) :
    (lessB xn xd yn yd = true ∧ lessB yn yd xn xd = false ∧ (¬ xn = yn ∨ (xn = yn ∧ ¬ xd = yd))) ∨
    (lessB xn xd yn yd = false ∧ lessB yn yd xn xd = true ∧ (¬ xn = yn ∨ (xn = yn ∧ ¬ xd = yd))) ∨
    (lessB xn xd yn yd = false ∧ lessB yn yd xn xd = false ∧ xn = yn ∧ xd = yd) := by
  rw [less_yes hx hy, less_yes hy hx]
  have ne : ¬ (xn = yn ∧ xd = yd) → (¬ xn = yn ∨ (xn = yn ∧ ¬ xd = yd)) := fun h => by
    by_cases e : xn = yn
    · exact .inr ⟨e, fun e2 => h ⟨e, e2⟩⟩
    · exact .inl e
  cases h1 : ltB xn xd yn yd with
  | true => exact .inl ⟨rfl, lt_irr h1, ne (lt_ne h1)⟩
  | false =>
    cases h2 : ltB yn yd xn xd with
    | true => exact .inr (.inl ⟨rfl, rfl, ne (fun h => lt_ne h2 ⟨h.1.symm, h.2.symm⟩)⟩)
    | false =>
      have := lt_or hx hy h1 h2
      exact .inr (.inr ⟨rfl, rfl, this.1, this.2⟩)
theorem less_tr {xn xd yn yd zn zd : Int} (hx : vld xn xd) (hy : vld yn yd) (hz : vld zn zd) (h1 : lessB xn xd yn yd = true) (h2 : lessB yn yd zn zd = true) : lessB xn xd zn zd = true := by
  rw [less_yes hx hy] at h1
  rw [less_yes hy hz] at h2
  rw [less_yes hx hz]
  exact lt_trans hx.1 hy.1 hz.1 h1 h2
/-- The difference y - x, where it is in range: its sign is that of the order. -/
theorem sub_ways {xn xd yn yd : Int} (hx : vld xn xd) (hy : vld yn yd) :
    (∃ p q, subS yn yd xn xd = (p, q, 0) ∧ decide (0 < p) = lessB xn xd yn yd) ∨ subS yn yd xn xd = (0, 0, 5) := by
  unfold subS
  rw [if_pos ⟨hy, hx⟩, less_yes hx hy]
  by_cases h : addOk yn yd (-xn) xd
  · refine .inl ⟨(sumS yn yd (-xn) xd).1, (sumS yn yd (-xn) xd).2.1, ?_, sub_sign hx hy h⟩
    unfold sumS
    rw [if_pos h]
  · refine .inr ?_
    unfold sumS
    rw [if_neg h]
end Rt
