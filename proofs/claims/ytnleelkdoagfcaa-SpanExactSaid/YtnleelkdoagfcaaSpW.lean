/- What the laws share: Mod, and the start over a list of numbers. -/
import Derived.Test.YtnleelkdoagfcaaSpM
import Derived.Test.YtnleelkdoagfcaaSpl
namespace Go.Proofs.Ytnleelkdoagfcaa
open Go.RowKit
set_option linter.unusedVariables false
set_option linter.unusedSimpArgs false

set_option maxHeartbeats 400000 in
theorem Mod_any (n k : Int) (w : World) (h1 : -9223372036854775808 ≤ n) (h2 : n ≤ 9223372036854775807) (k1 : 1 ≤ k) (k2 : k ≤ 4611686018427387904) :
    Calls Try.prog 34 #[.int .i64 n, .int .i64 k] w fun e w' => e = .returned (.int .i64 (n % k)) ∧ w = w' := by
  have hb := tmod_bd n k (by omega)
  have hk : (k == 0) = false := by simp; omega
  go_enter Try.func34, Try.ntmps34
  go_wp2
  go_ret
  exact ⟨ret_int (Spn.mod_code n k), rfl⟩
theorem Dice.start {w : World} {A : Option Addr} {n c : Nat} {zs : List Int} (hA : IntsAt w A zs) (hn : zs.length = n) (h5 : n ≤ 500) (hf : ∀ z ∈ zs, -9223372036854775808 ≤ z ∧ z ≤ 9223372036854775807) :
    Dice (w.alloc (.cells #[.slice A n c, .int .i64 0] 51)) w.heap.size A n c zs :=
  ⟨⟨0, Nat.zero_le _, heap_alloc_new w _⟩, hn, h5, hA.below ((Below.refl _ _).alloc (Nat.le_refl _) _), hf, fun h0 ad e => by
    obtain ⟨b, off, e2, hlt, -⟩ := hA (by omega)
    rw [e2] at e
    cases e
    exact hlt⟩
theorem below_of_grown {w w1 w2 : World} {B g : Nat} (h : Below B w w1) (hg : w1.grownBy w2 (some g)) (hB : B ≤ w1.heap.size) (hgB : B ≤ g) : Below B w w2 := h.grown hg hB (fun k hk => by cases hk; exact hgB)
end Go.Proofs.Ytnleelkdoagfcaa
