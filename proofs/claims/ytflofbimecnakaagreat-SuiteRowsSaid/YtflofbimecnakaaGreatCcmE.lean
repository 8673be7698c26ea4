/- The contracts of the document's xor and tag. -/
import Derived.Test.YtflofbimecnakaaGreatCcmD
namespace Go.Proofs.YtflofbimecnakaaGreat
open Go.RowKit
set_option linter.unusedVariables false
set_option linter.unusedSimpArgs false
end Go.Proofs.YtflofbimecnakaaGreat
