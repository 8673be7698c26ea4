/- The contracts of the document's all and tag. -/
import Derived.Test.YtflofbimecnakaaGreatCcmE
namespace Go.Proofs.YtflofbimecnakaaGreat
open Go.RowKit
set_option linter.unusedVariables false
set_option linter.unusedSimpArgs false
/-- kept aside -/
structure Sm (p : Prop) : Prop where
  out : p
end Go.Proofs.YtflofbimecnakaaGreat
