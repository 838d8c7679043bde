/- What fields of package lexer returns: the walk. What fullClock, clock, date and offset of package lexer return. -/
import Derived.Test.YthaacmmkignocaaDoorKG03
namespace Go.Proofs.YthaacmmkignocaaDoor
open Go.RowKit
set_option linter.unusedVariables false
set_option linter.unusedSimpArgs false
set_option maxRecDepth 100000
end Go.Proofs.YthaacmmkignocaaDoor
namespace Go.Proofs.YthaacmmkignocaaDoor
open Go.RowKit
set_option linter.unusedVariables false
set_option linter.unusedSimpArgs false
set_option maxRecDepth 100000
theorem Num2.none_ {M : Int} {w w' : World} (hM : 0 ≤ M) (v : Int) (hi : I64 v) (h1 : -M ≤ v) (h2 : v ≤ M) (hb : Below w.heap.size w w') : Num2 M none w (.returned (.tuple #[.int .i64 v, .bool false])) w' := ⟨v, hi, h1, h2, (by rintro x ⟨⟩), rfl, hb⟩
end Go.Proofs.YthaacmmkignocaaDoor
