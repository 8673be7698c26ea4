/- A head is told: the program's. -/
import Derived.Test.YtikgonlhdkknkaaDoorCpK
import Derived.Test.YtikgonlhdkknkaaDoorRowS
namespace Go.Proofs.YtikgonlhdkknkaaDoor
open Go.RowKit
set_option linter.unusedVariables false
set_option linter.unusedSimpArgs false
namespace Co
open Dr (Rs Lm has lack at0S)
theorem dcv_at {P : Program} {w : World} {g cap : Nat} {l : List UInt8} (h : At w g 0 (bcells l)) (src dst e : TypeId) (n : Nat) (hn : l.length = n)
    (hs : P.underlying src = some (.slice e)) (he : P.underlying e = some (.int .u8)) (hd : P.underlying dst = some .string) : (convert src dst (.slice (some ⟨g, 0, none⟩) n cap)).run P w = .ok (.string ⟨l.toArray⟩) w := by
  subst hn
  refine run_convert_bytes_back w src dst e ⟨g, 0, none⟩ cap l hs he hd fun j hj => ?_
  have hc := h.cell j _ (bcells_get l j hj)
  have : (⟨g, 0, none⟩ : Addr).add j = ⟨g, j, none⟩ := by unfold Addr.add; split <;> simp_all
  rw [this]
  rw [Nat.zero_add] at hc
  exact hc
set_option maxRecDepth 100000 in
set_option maxHeartbeats 3200000 in
theorem dcv_byte (f : Nat) (hf : f < 256) (c : ByteArray) (hc : c = ⟨[UInt8.ofNat f].toArray⟩) : ∀ w' : World, (convert 82 9 (.slice (some ⟨w'.heap.size, 0, none⟩) 1 1)).run Tryd.prog (w'.alloc (Obj.cells #[.int .u8 (f : Int)] 5)) = .ok (.string c) (w'.alloc (Obj.cells #[.int .u8 (f : Int)] 5)) := fun w' => by
  have e9 : (f : Int) = ((UInt8.ofNat f).toNat : Int) := by simp; omega
  have hcv := dcv_at (P := Tryd.prog) (cap := 1) (l := [UInt8.ofNat f]) (At.ofAlloc w' #[.int .u8 ((UInt8.ofNat f).toNat : Int)] 5) 82 9 5 1 rfl Tryd.underlying82 Tryd.underlying5 Tryd.underlying9
  rw [← hc, ← e9] at hcv
  exact hcv
theorem u8_in (t : Nat) (h : t < 256) : IntKind.u8.wrap (t : Int) = (t : Int) := by simp [IntKind.wrap, IntKind.bits, IntKind.signed]; omega
theorem u8_mod (t : Nat) : IntKind.u8.wrap (t : Int) = ((UInt8.ofNat t).toNat : Int) := by simp [IntKind.wrap, IntKind.bits, IntKind.signed]
set_option maxRecDepth 100000 in
set_option maxHeartbeats 1600000 in
theorem chead_short (k n : Nat) (hk : k < 8) (hn : n < 24) (w : World) : Calls Tryd.prog 59 #[.int .i64 (k : Int), .int .u64 (n : Int)] w (RetS (hdN k n) w) := by
  obtain ⟨f, hf⟩ : ∃ f, k * 32 = f := ⟨_, rfl⟩
  have e1 : (k : Int) * 32 = (f : Int) := by omega
  have e2 : wrap64 (f : Int) = (f : Int) := w64n f (by omega)
  have e3 : IntKind.u8.wrap (f : Int) = (f : Int) := u8_in f (by omega)
  have e4 : IntKind.u8.wrap (n : Int) = (n : Int) := u8_in n (by omega)
  have e5 : (n : Int) < 24 := by omega
  obtain ⟨x, hx⟩ : ∃ x, f + n = x := ⟨_, rfl⟩
  have e6 : (f : Int) + (n : Int) = (x : Int) := by omega
  have e7 : IntKind.u8.wrap (x : Int) = (x : Int) := u8_in x (by omega)
  obtain ⟨c, hc⟩ : ∃ c : ByteArray, c = ⟨[UInt8.ofNat x].toArray⟩ := ⟨_, rfl⟩
  have hcv := dcv_byte x (by omega) c hc
  have HF : Hid (c.toList = hdN k n) := by
    show c.toList = _
    rw [hc, tl_mk, hdN, widN, infN, if_pos hn, if_pos hn, bytesN, ← hx, ← hf, Nat.mul_comm]
  have e0 : (k : Int) ≤ 8 := by omega
  clear hf hx hc hn hk
  go_enter Tryd.func59, Tryd.ntmps59
  go_wp2_with fail
  go_ret
  exact ⟨_, rfl, HF.out, (Below.refl _ _).alloc (Nat.le_refl _) _⟩
end Co
end Go.Proofs.YtikgonlhdkknkaaDoor
