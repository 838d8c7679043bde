/- pagewatchref05.Range. -/
import Derived.Test.YthaacmmkignocaaDoorKG31
namespace Go.Proofs.YthaacmmkignocaaDoor
open Go.RowKit
set_option linter.unusedVariables false
set_option linter.unusedSimpArgs false
set_option maxRecDepth 100000
def okQ (f t : Int) : Bool := decide (0 ≤ f ∧ f ≤ t ∧ t ≤ 8589934592 ∧ t - f ≤ 34560000)
open Go.RowKit
set_option linter.unusedVariables false
set_option linter.unusedSimpArgs false
set_option maxRecDepth 100000
set_option maxHeartbeats 1000000 in
theorem rrange_any (f t : Int) (w : World) (hf : I64 f) (ht : I64 t) :
    Calls Tryd.prog 51 #[.int .i64 f, .int .i64 t] w fun e w' => e = .returned (.bool (okQ f t)) ∧ w = w' := by
  by_cases h1 : 0 ≤ f
  · by_cases h2 : f ≤ 8589934592
    · by_cases h3 : f ≤ t
      · by_cases h4 : t ≤ 8589934592
        · by_cases h5 : t - f ≤ 34560000
          · have hd := Lib.hid (show okQ f t = true by unfold okQ; exact decide_eq_true (by omega))
            go_enter Tryd.func51, Tryd.ntmps51
            go_wp2_with fail
            go_ret
            exact ⟨ret_bool (by rw [hd.out]), rfl⟩
          · have hd := Lib.hid (show okQ f t = false by unfold okQ; exact decide_eq_false (by omega))
            go_enter Tryd.func51, Tryd.ntmps51
            go_wp2_with fail
            go_ret
            exact ⟨ret_bool (by rw [hd.out]), rfl⟩
        · have hd := Lib.hid (show okQ f t = false by unfold okQ; exact decide_eq_false (by omega))
          go_enter Tryd.func51, Tryd.ntmps51
          go_wp2_with fail
          go_ret
          exact ⟨ret_bool (by rw [hd.out]), rfl⟩
      · have hd := Lib.hid (show okQ f t = false by unfold okQ; exact decide_eq_false (by omega))
        go_enter Tryd.func51, Tryd.ntmps51
        go_wp2_with fail
        go_ret
        exact ⟨ret_bool (by rw [hd.out]), rfl⟩
    · have hd := Lib.hid (show okQ f t = false by unfold okQ; exact decide_eq_false (by omega))
      go_enter Tryd.func51, Tryd.ntmps51
      go_wp2_with fail
      go_ret
      exact ⟨ret_bool (by rw [hd.out]), rfl⟩
  · have hd := Lib.hid (show okQ f t = false by unfold okQ; exact decide_eq_false (by omega))
    go_enter Tryd.func51, Tryd.ntmps51
    go_wp2_with fail
    go_ret
    exact ⟨ret_bool (by rw [hd.out]), rfl⟩
end Go.Proofs.YthaacmmkignocaaDoor
