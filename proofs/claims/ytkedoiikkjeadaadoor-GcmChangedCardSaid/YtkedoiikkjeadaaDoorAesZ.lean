/- The document's substitution, and the walk of AesSub. -/
import Derived.Test.YtkedoiikkjeadaaDoorAesX
import Derived.Test.YtkedoiikkjeadaaDoorAesY
namespace Go.Proofs.YtkedoiikkjeadaaDoor
open Go.RowKit
set_option linter.unusedVariables false
set_option linter.unusedSimpArgs false
theorem rot1_val (b : UInt8) : bits .or .u8 ((b.toNat : Int) * (2 : Int) % (256 : Int)) ((b.toNat : Int) / (128 : Int)) = ((rotl8 b 1).toNat : Int) := rot8_val b 1 (by omega)
end Go.Proofs.YtkedoiikkjeadaaDoor
