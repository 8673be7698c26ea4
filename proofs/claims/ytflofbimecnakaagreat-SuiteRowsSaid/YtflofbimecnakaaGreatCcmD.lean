/- The contracts of the document's wide, counter and Filled. -/
import Derived.Test.YtflofbimecnakaaGreatCcmC
namespace Go.Proofs.YtflofbimecnakaaGreat
open Go.RowKit
set_option linter.unusedVariables false
set_option linter.unusedSimpArgs false
theorem cv_after (f : Nat) (hf : f < 256) (c : ByteArray) (hc : c = ⟨[UInt8.ofNat f].toArray⟩) {w w3 : World} (hb : Below (w.alloc (Obj.cells #[.int .u8 (f : Int)] 5)).drew.heap.size (w.alloc (Obj.cells #[.int .u8 (f : Int)] 5)).drew w3) :
    (convert 123 9 (.slice (some ⟨w.heap.size, 0, none⟩) 1 1)).run Tryz.prog w3 = .ok (.string c) w3 := by
  have e9 : (f : Int) = ((UInt8.ofNat f).toNat : Int) := by simp; omega
  have hA : At (w.alloc (Obj.cells #[.int .u8 (f : Int)] 5)).drew w.heap.size 0 (bcells [UInt8.ofNat f]) := by
    have h := At.ofAlloc w #[.int .u8 ((UInt8.ofNat f).toNat : Int)] 5
    rw [← e9] at h
    have e : bcells [UInt8.ofNat f] = [.int .u8 (f : Int)] := by rw [e9]; rfl
    rw [e]
    exact h
  have hcv := convert_at (P := Tryz.prog) (cap := 1) (hA.below hb (by simp)) 123 9 5 1 rfl Tryz.underlying123 Tryz.underlying5 Tryz.underlying9
  rw [← hc] at hcv
  exact hcv
theorem cv_byteD (f : Nat) (hf : f < 256) (c : ByteArray) (hc : c = ⟨[UInt8.ofNat f].toArray⟩) : ∀ w' : World, (convert 123 9 (.slice (some ⟨w'.heap.size, 0, none⟩) 1 1)).run Tryz.prog (w'.alloc (Obj.cells #[.int .u8 (f : Int)] 5)).drew = .ok (.string c) (w'.alloc (Obj.cells #[.int .u8 (f : Int)] 5)).drew := fun w' => cv_byte f hf c hc w'.drew
end Go.Proofs.YtflofbimecnakaaGreat
