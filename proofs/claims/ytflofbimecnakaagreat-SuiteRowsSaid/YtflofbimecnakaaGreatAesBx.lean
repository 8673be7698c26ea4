/- The contract of the document's add. -/
import Derived.Test.YtflofbimecnakaaGreatAesBp
namespace Go.Proofs.YtflofbimecnakaaGreat
open Go.RowKit
set_option linter.unusedVariables false
set_option linter.unusedSimpArgs false
theorem txt_add (S W : List UInt32) (o k : Nat) (hk : k < 16) (hS : S.length = 4) : txtF (addL S W (4 * o)) k = txtF S k ^^^ rw_ (W.getD (4 * o + k / 4) 0) (k % 4) := by
  have h4 : k / 4 < 4 := by omega
  rw [txtF, txtF, ← rw_xor]
  congr 1
  simp [addL, addF, List.getD, h4]
end Go.Proofs.YtflofbimecnakaaGreat
