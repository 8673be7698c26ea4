/- What the laws of layer 10 lean on: a boxed struct, long, wakes. -/
import Derived.Test.YtflofbimecnakaaGreatCcmI
import Derived.Test.YtflofbimecnakaaGreatCcmX
namespace Go.Proofs.YtflofbimecnakaaGreat
open Go.RowKit
set_option linter.unusedVariables false
set_option linter.unusedSimpArgs false
/-- a box in memory -/
def Bx (w : World) (B : Nat) (key nonce aad : ByteArray) (s : Int) : Prop :=
  w.cell? ⟨B, 0, none⟩ = some (.string key) ∧ w.cell? ⟨B, 1, none⟩ = some (.string nonce) ∧ w.cell? ⟨B, 2, none⟩ = some (.string aad) ∧ w.cell? ⟨B, 3, none⟩ = some (.int .i64 s)
theorem Bx.below {w w' : World} {B B' : Nat} {key nonce aad : ByteArray} {s : Int} (h : Bx w B key nonce aad s) (hb : Below B' w w') (hB : B < B') : Bx w' B key nonce aad s :=
  ⟨(hb.cell (p := ⟨B, 0, none⟩) hB).trans h.1, (hb.cell (p := ⟨B, 1, none⟩) hB).trans h.2.1, (hb.cell (p := ⟨B, 2, none⟩) hB).trans h.2.2.1, (hb.cell (p := ⟨B, 3, none⟩) hB).trans h.2.2.2⟩
def RetBb (w : World) (e : Ending) (w' : World) : Prop := ∃ b : Bool, e = .returned (.bool b) ∧ Below w.heap.size w w'
end Go.Proofs.YtflofbimecnakaaGreat
