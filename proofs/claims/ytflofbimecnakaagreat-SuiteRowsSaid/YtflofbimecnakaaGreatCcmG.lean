/- The contract of the document's tag. -/
import Derived.Test.YtflofbimecnakaaGreatCcmF
namespace Go.Proofs.YtflofbimecnakaaGreat
open Go.RowKit
set_option linter.unusedVariables false
set_option linter.unusedSimpArgs false
theorem blkL_ext (s : ByteArray) (k o e : Nat) (ho : o = 16 * k) (he : e = o + 16) : (s.extract o e).toList = blkL s.toList k := by
  rw [tl_ext, he, ho, blkL]
  congr 1
  omega
end Go.Proofs.YtflofbimecnakaaGreat
