/- The example of layer 10. -/
import Derived.Test.YtflofbimecnakaaGreatCcmP
namespace Go.Proofs.YtflofbimecnakaaGreat
open Go.RowKit
set_option linter.unusedVariables false
def cxK : List UInt8 := [64, 65, 66, 67, 68, 69, 70, 71, 72, 73, 74, 75, 76, 77, 78, 79]
def cxV : List UInt8 := [16, 17, 18, 19, 20, 21, 22]
def cxA : List UInt8 := [0, 1, 2, 3, 4, 5, 6, 7]
def cxT : List UInt8 := [32, 33, 34, 35]
set_option maxRecDepth 100000 in
theorem ccEx : ccJoin cxK cxV cxT 1 ++ ccTag cxK cxV cxA cxT 4 = [113, 98, 1, 91, 77, 172, 37, 93] := by decide +kernel
end Go.Proofs.YtflofbimecnakaaGreat
