/- Package syntax: the forms of statements, kinds compared, the tokens behind a form. -/
import Derived.Test.YthaacmmkignocaaDoorKG07
namespace Go.Proofs.YthaacmmkignocaaDoor
open Go.RowKit
set_option linter.unusedVariables false
set_option linter.unusedSimpArgs false
set_option maxRecDepth 100000
end Go.Proofs.YthaacmmkignocaaDoor
