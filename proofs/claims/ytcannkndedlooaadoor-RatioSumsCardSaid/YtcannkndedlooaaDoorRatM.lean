/- Plain facts for the laws on ratios. Nothing of the program stands in it. -/
import Derived.Test.YtcannkndedlooaaDoorRat
set_option linter.unusedVariables false
namespace Rt

/-! ### The laws' own facts -/
theorem add_yes {an ad bn bd : Int} (ha : vld an ad) (hb : vld bn bd) : addS an ad bn bd = sumS an ad bn bd := by unfold addS; rw [if_pos ⟨ha, hb⟩]
theorem add_ok {an ad bn bd p q : Int} (ha : vld an ad) (hb : vld bn bd) (h : addOk an ad bn bd) (hp : (sumS an ad bn bd).1 = p) (hq : (sumS an ad bn bd).2.1 = q) : addS an ad bn bd = (p, q, 0) := by
  rw [add_yes ha hb, ← hp, ← hq]
  unfold sumS
  rw [if_pos h]
theorem add_no {an ad bn bd : Int} (ha : vld an ad) (hb : vld bn bd) (h : ¬ addOk an ad bn bd) : addS an ad bn bd = (0, 0, 5) := by
  rw [add_yes ha hb]
  unfold sumS
  rw [if_neg h]
theorem add_flip {an ad bn bd p q e : Int} (ha : vld an ad) (hb : vld bn bd) (h : addS an ad bn bd = (p, q, e)) : addS bn bd an ad = (p, q, e) := by
  rw [← h, add_yes ha hb, add_yes hb ha, sum_comm]
theorem zero_vld : vld 0 1 := by refine ⟨by omega, by omega, by omega, by omega, ?_⟩; exact g_one_right 0
theorem add_zero' {n d : Int} (h : vld n d) : addS n d 0 1 = (n, d, 0) := by rw [add_yes h zero_vld, sum_zero h]
theorem sub_yes {p q an ad bn bd : Int} (hu : vld p q) (hb : vld bn bd) (hs : addOk p q (-bn) bd) (h : (sumS p q (-bn) bd).1 = an ∧ (sumS p q (-bn) bd).2.1 = ad) : subS p q bn bd = (an, ad, 0) := by
  unfold subS
  rw [if_pos ⟨hu, hb⟩, ← h.1, ← h.2]
  unfold sumS
  rw [if_pos hs]
theorem sub_no {p q bn bd : Int} (hu : vld p q) (hb : vld bn bd) (hs : ¬ addOk p q (-bn) bd) : subS p q bn bd = (0, 0, 5) := by
  unfold subS
  rw [if_pos ⟨hu, hb⟩]
  unfold sumS
  rw [if_neg hs]
end Rt
