/- Package resolve: addDays. Printed by gen_sc.py. -/
import Derived.Test.YthaacmmkignocaaDoorKG17
import Derived.Deep.RegionHeld3
namespace Go.Proofs.YthaacmmkignocaaDoor
open Go.RowKit
set_option linter.unusedVariables false
set_option linter.unusedSimpArgs false
set_option maxRecDepth 100000
theorem int_vals (a : Int) : ∀ j, j < 1 → (#[Value.int .i64 a] : Array Value)[j]? = some (eInt a j) := fun j hj => by
  rcases j with _ | _ <;> first | rfl | omega
end Go.Proofs.YthaacmmkignocaaDoor
