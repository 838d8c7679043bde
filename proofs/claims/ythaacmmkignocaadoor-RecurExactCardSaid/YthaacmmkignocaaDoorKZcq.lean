/- Plain facts on weekdays. -/
import Derived.Test.YthaacmmkignocaaDoorKG00
namespace Go.Proofs.YthaacmmkignocaaDoor
namespace Civ
theorem wd_first {F v : Int} (h0 : 0 ≤ v) (h6 : v ≤ 6) : wd (F + (v - wd F) % 7) = v := by unfold wd; omega
theorem nth_of {F L P k v : Int} (hP : P = F + (v - wd F) % 7) (n : Int) (h : (P + (k - 1) * 7 < F + L ∧ n = P + (k - 1) * 7) ∨ (F + L ≤ P + (k - 1) * 7 ∧ n = P + (k - 1) * 7 - 7)) : nthD F L k v = n := by
  unfold nthD; rw [← hP]; rcases h with ⟨a, rfl⟩ | ⟨a, rfl⟩
  · rw [if_neg (by omega)]
  · rw [if_pos a]
end Civ
end Go.Proofs.YthaacmmkignocaaDoor
