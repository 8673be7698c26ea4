/- The contract of the document's New: the walk. -/
import Derived.Test.YtflofbimecnakaaGreatAesBn
import Derived.Deep.CutRange
namespace Go.Proofs.YtflofbimecnakaaGreat
open Go.RowKit
set_option linter.unusedVariables false
set_option linter.unusedSimpArgs false
end Go.Proofs.YtflofbimecnakaaGreat
