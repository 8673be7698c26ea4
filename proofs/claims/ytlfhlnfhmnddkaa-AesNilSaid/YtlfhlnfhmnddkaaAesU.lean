/- The walk of AesNil. -/
import Derived.Test.YtlfhlnfhmnddkaaAesT
namespace Go.Proofs.Ytlfhlnfhmnddkaa
open Go.RowKit
set_option linter.unusedVariables false
set_option linter.unusedSimpArgs false
theorem empty_cipher (w : World) : ∃ w0, w.alloc (Obj.cells Try.zeroCells59 59) = w0 ∧ At w0 w.heap.size 0 [.slice none 0 0] ∧ Below w.heap.size w w0 := by
  refine ⟨_, rfl, ?_, (Below.refl _ _).alloc (Nat.le_refl _) _⟩
  have h := At.ofAlloc w Try.zeroCells59 59
  rw [cells59, zero59, ← List.singleton_append] at h
  exact h.split.1
set_option maxRecDepth 100000 in
set_option maxHeartbeats 3200000 in
theorem aesNil_walk (a : ByteArray) (za : a.size ≤ 140737488351232) (w : World) : Calls Try.prog 9 #[.string a] w (RetT w) := by
  go_enter Try.func9, Try.ntmps9
  go_wp2_with fail
  refine (enc_err _ a _ 1 (by decide) (start_nil a _)).mono ?_
  rintro e w1 ⟨s1, rfl, hs1, hb1⟩
  go_wp2_with fail
  refine (dec_err _ a _ 1 (by decide) (start_nil a _)).mono ?_
  rintro e w2 ⟨s2, rfl, hs2, hb2⟩
  go_wp2_with fail
  obtain ⟨w3, hw3, hA3, hb3⟩ := empty_cipher w2
  rw [hw3]
  refine (enc_err _ a _ 1 (by decide) (start_empty a _ w2.heap.size hA3)).mono ?_
  rintro e w4 ⟨s4, rfl, hs4, hb4⟩
  clear hw3
  go_wp2_with fail
  obtain ⟨w5, hw5, hA5, hb5⟩ := empty_cipher w4
  rw [hw5]
  refine (dec_err _ a _ 1 (by decide) (start_empty a _ w4.heap.size hA5)).mono ?_
  rintro e w6 ⟨s6, rfl, hs6, hb6⟩
  clear hw5
  go_wp2_with fail
  refine (wakes_any _).mono ?_
  rintro e w7 ⟨rfl, hb7⟩
  go_wp2_with fail
  go_ret
  exact ⟨rfl, below2 (below2 (below2 (below2 (below2 (below2 hb1 hb2) hb3) hb4) hb5) hb6) hb7⟩
end Go.Proofs.Ytlfhlnfhmnddkaa
