/- Tags: both sides. -/
import Derived.Test.YtpaikjlcachabaaDoorDrP
import Derived.Test.YtpaikjlcachabaaDoorOctX
namespace Go.Proofs.YtpaikjlcachabaaDoor
open Go.RowKit
set_option linter.unusedVariables false
set_option linter.unusedSimpArgs false
def RetVal (v : Value) (w : World) (e : Ending) (w' : World) : Prop := e = .returned v ∧ w = w'
theorem and32 : ∀ n : Fin 256, n.val &&& 32 = 32 * (n.val / 32 % 2) := by decide +kernel
theorem and31 : ∀ n : Fin 256, n.val &&& 31 = n.val % 32 := by decide +kernel
theorem u8_and32 (t : Nat) (h : t < 256) : bits .and .u8 (t : Int) 32 = ((32 * (t / 32 % 2) : Nat) : Int) := by
  have := u8_and_nat t 32 (by omega) (by omega)
  rw [and32 ⟨t, h⟩] at this
  exact this
theorem u8_and31 (t : Nat) (h : t < 256) : bits .and .u8 (t : Int) 31 = ((t % 32 : Nat) : Int) := by
  have := u8_and_nat t 31 (by omega) (by omega)
  rw [and31 ⟨t, h⟩] at this
  exact this
end Go.Proofs.YtpaikjlcachabaaDoor
