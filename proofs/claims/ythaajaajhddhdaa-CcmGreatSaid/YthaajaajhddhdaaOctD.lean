/- The contracts of Get and Put, the program's and the document's. -/
import Derived.Test.YthaajaajhddhdaaOctC
import Derived.Test.YthaajaajhddhdaaOctP
namespace Go.Proofs.Ythaajaajhddhdaa
open Go.RowKit
set_option linter.unusedVariables false
set_option linter.unusedSimpArgs false

end Go.Proofs.Ythaajaajhddhdaa
