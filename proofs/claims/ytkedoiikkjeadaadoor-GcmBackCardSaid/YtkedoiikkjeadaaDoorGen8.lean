/- A byte out of its range. -/
import Derived.Test.YtkedoiikkjeadaaDoorGen
namespace Go.Proofs.YtkedoiikkjeadaaDoor
open Go.RowKit
theorem u8_of_wf {a : Int} (h : (Lit.int .u8 a).wf = true) : ∃ n : UInt8, a = (n.toNat : Int) := by
  have h2 : IntKind.u8.min ≤ a ∧ a ≤ IntKind.u8.max := by simpa [Lit.wf] using h
  have e1 : IntKind.u8.min = 0 := by decide
  have e2 : IntKind.u8.max = 255 := by decide
  obtain ⟨n, rfl⟩ := Int.eq_ofNat_of_zero_le (a := a) (by omega)
  exact ⟨UInt8.ofNat n, by rw [UInt8.toNat_ofNat']; omega⟩
end Go.Proofs.YtkedoiikkjeadaaDoor
