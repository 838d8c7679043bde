/- Package resolve: addZone. Package resolve: last, unitOf, near, hours, window, Ordinal, lastLayer. Printed by gen_rx.py. -/
import Derived.Test.YthaacmmkignocaaDoorKG15
import Derived.Deep.RegionHeld3
namespace Go.Proofs.YthaacmmkignocaaDoor
open Go.RowKit
set_option linter.unusedVariables false
set_option linter.unusedSimpArgs false
set_option maxRecDepth 100000
/-- The cells of a block that holds one element. -/
theorem one_new {α : Type} {k : Nat} {e : α → Nat → Value} {W : World} {b : Nat} {y : α} {vs : Array Value} {T : TypeId} (h : BlkAt W b vs T) (hv : ∀ j, j < k → vs[j]? = some (e y j)) : ∀ j, j < k → W.cell? ⟨b, j, none⟩ = some (e y j) := fun j hj => h.cell (hv j hj)
theorem blk_now {W : World} {B : Nat} {vs : Array Value} {T : TypeId} (h : W.heap.size = B) : BlkAt (W.alloc (.cells vs T)) B vs T := by subst h; exact heap_alloc_new _ _
end Go.Proofs.YthaacmmkignocaaDoor
namespace Go.Proofs.YthaacmmkignocaaDoor
open Go.RowKit
set_option linter.unusedVariables false
set_option linter.unusedSimpArgs false
set_option maxRecDepth 100000
end Go.Proofs.YthaacmmkignocaaDoor
