/- What clock, date, offset and instant of package lexer return. What instant of package lexer returns; and facts for Token. -/
import Derived.Test.YthaacmmkignocaaDoorKG04
namespace Go.Proofs.YthaacmmkignocaaDoor
open Go.RowKit
set_option linter.unusedVariables false
set_option linter.unusedSimpArgs false
set_option maxRecDepth 100000
end Go.Proofs.YthaacmmkignocaaDoor
namespace Go.Proofs.YthaacmmkignocaaDoor
open Go.RowKit
set_option linter.unusedVariables false
set_option linter.unusedSimpArgs false
set_option maxRecDepth 100000
section
variable {w w' : World} {b : Nat} {k n : Int} {t : ByteArray}
end
end Go.Proofs.YthaacmmkignocaaDoor
