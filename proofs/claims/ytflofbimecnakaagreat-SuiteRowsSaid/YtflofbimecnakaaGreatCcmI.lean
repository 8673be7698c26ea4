/- Seal, Tag and Open: the document's. -/
import Derived.Test.YtflofbimecnakaaGreatCcmH
namespace Go.Proofs.YtflofbimecnakaaGreat
open Go.RowKit
set_option linter.unusedVariables false
set_option linter.unusedSimpArgs false
end Go.Proofs.YtflofbimecnakaaGreat
