/- The contracts of Same and Xor, the program's and the document's. -/
import Derived.Test.YthofcjjllmnjbaaDoorGen
namespace Go.Proofs.YthofcjjllmnjbaaDoor
open Go.RowKit
set_option linter.unusedVariables false
set_option linter.unusedSimpArgs false



end Go.Proofs.YthofcjjllmnjbaaDoor
