/- The walk of AesMul. -/
import Derived.Test.YtkedoiikkjeadaaDoorAesW
import Derived.Test.YtkedoiikkjeadaaDoorGen8
namespace Go.Proofs.YtkedoiikkjeadaaDoor
open Go.RowKit
set_option linter.unusedVariables false
set_option linter.unusedSimpArgs false
theorem nat8_eq {x y : UInt8} (h : x = y) : ((x.toNat : Int) == (y.toNat : Int)) = true := by rw [h, beq_self_eq_true]
theorem nat8_ne {x : UInt8} (h : x ≠ 0) : ((x.toNat : Int) == 0) = false := by
  rw [beq_eq_false_iff_ne]
  intro e
  apply h
  apply UInt8.toNat_inj.1
  have : x.toNat = 0 := by omega
  rw [this]
  rfl
end Go.Proofs.YtkedoiikkjeadaaDoor
