/- The contract of unmixed. -/
import Derived.Test.YtkedoiikkjeadaaDoorAesOn
import Derived.Test.YtkedoiikkjeadaaDoorAesK
namespace Go.Proofs.YtkedoiikkjeadaaDoor
open Go.RowKit
set_option linter.unusedVariables false
set_option linter.unusedSimpArgs false
def umxF (S : List UInt32) (i : Nat) : UInt32 := rcol unmW (fun _ => S.getD i 0) 4
def umxL (S : List UInt32) : List UInt32 := (List.range 4).map (umxF S)
theorem umxL_length (S : List UInt32) : (umxL S).length = 4 := by simp [umxL]
end Go.Proofs.YtkedoiikkjeadaaDoor
