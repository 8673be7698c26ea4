/- The contract of unround. -/
import Derived.Test.YthaajaajhddhdaaAesI
namespace Go.Proofs.Ythaajaajhddhdaa
open Go.RowKit
set_option linter.unusedVariables false
set_option linter.unusedSimpArgs false
end Go.Proofs.Ythaajaajhddhdaa
