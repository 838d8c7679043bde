/- Package resolve: addQuiet. Printed by gen_sb.py. Package resolve: addDays. Printed by gen_sc.py. -/
import Derived.Test.YtphenbfhojdcpaaGreatDoorKlSca
import Derived.Deep.RegionHeld3
import Derived.Test.YtphenbfhojdcpaaGreatDoorKlG17
namespace Go.Proofs.YtphenbfhojdcpaaGreatDoor
open Go.RowKit
set_option linter.unusedVariables false
set_option linter.unusedSimpArgs false
set_option maxRecDepth 100000
end Go.Proofs.YtphenbfhojdcpaaGreatDoor
namespace Go.Proofs.YtphenbfhojdcpaaGreatDoor
open Go.RowKit
set_option linter.unusedVariables false
set_option linter.unusedSimpArgs false
set_option maxRecDepth 100000
theorem int_vals (a : Int) : ∀ j, j < 1 → (#[Value.int .i64 a] : Array Value)[j]? = some (eInt a j) := fun j hj => by
  rcases j with _ | _ <;> first | rfl | omega
end Go.Proofs.YtphenbfhojdcpaaGreatDoor
