/- Plain facts on weekdays. -/
import Derived.Test.YtndngkfiamdohaaDoorCiv
namespace Go.Proofs.YtndngkfiamdohaaDoor
namespace Civ
theorem wd_hit {P x v : Int} {c : Nat} (hP : wd P = v) (h : x = P + 7 * c) : wd x = v := by unfold wd at *; omega
theorem wd_miss {P x v : Int} {c : Nat} (hP : wd P = v) (h1 : x < P + 7 * c) (h2 : P + 7 * c < x + 7) : wd x ≠ v := by unfold wd at *; omega
theorem wd_first {F v : Int} (h0 : 0 ≤ v) (h6 : v ≤ 6) : wd (F + (v - wd F) % 7) = v := by unfold wd; omega
theorem nth_of {F L P k v : Int} (hP : P = F + (v - wd F) % 7) (n : Int) (h : (P + (k - 1) * 7 < F + L ∧ n = P + (k - 1) * 7) ∨ (F + L ≤ P + (k - 1) * 7 ∧ n = P + (k - 1) * 7 - 7)) : nthD F L k v = n := by
  unfold nthD; rw [← hP]; rcases h with ⟨a, rfl⟩ | ⟨a, rfl⟩
  · rw [if_neg (by omega)]
  · rw [if_pos a]
theorem num_add (y m k : Int) : num y m k = num y m 1 + (k - 1) := by unfold num; omega
end Civ
end Go.Proofs.YtndngkfiamdohaaDoor
