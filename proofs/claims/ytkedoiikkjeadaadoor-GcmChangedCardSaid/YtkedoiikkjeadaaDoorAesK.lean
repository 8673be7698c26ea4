/- The contract of unround. -/
import Derived.Test.YtkedoiikkjeadaaDoorAesI
namespace Go.Proofs.YtkedoiikkjeadaaDoor
open Go.RowKit
set_option linter.unusedVariables false
set_option linter.unusedSimpArgs false
end Go.Proofs.YtkedoiikkjeadaaDoor
