/- The examples hold; the walks of the laws. -/
import Derived.Test.YtfjdbjlkeoifbaaOctK
namespace Go.Proofs.Ytfjdbjlkeoifbaa
open Go.RowKit
set_option linter.unusedVariables false
set_option linter.unusedSimpArgs false
def RetT (w : World) (e : Ending) (w' : World) : Prop := e = .returned (.bool true) ∧ Below w.heap.size w w'
theorem eq_true_of {s : ByteArray} {l m : List UInt8} (h : s.toList = l) (hm : l = m) : (s.toList == m) = true := by
  rw [h, hm, beq_self_eq_true]
theorem eq_true_two {s t : ByteArray} {l : List UInt8} (h : s.toList = l) (hm : t.toList = l) : (s.toList == t.toList) = true := by
  rw [h, hm, beq_self_eq_true]
theorem below2 {w w1 w2 : World} (h1 : Below w.heap.size w w1) (h2 : Below w1.heap.size w1 w2) : Below w.heap.size w w2 := h1.trans (h2.mono h1.size)
set_option maxHeartbeats 1600000 in
theorem wakes_any (w : World) : Calls Try.prog 9 #[] w (RetT w) := by
  go_enter Try.func9, Try.ntmps9
  go_wp2_with fail
  refine (put_any 258 2 w (by decide)).mono ?_
  rintro e w1 ⟨s1, rfl, h1, b1⟩
  have t1 := eq_true_of h1 (m := [1, 2]) (by decide)
  have e1 : putE 258 2 = 0 := by decide
  have B1 := Lib.hid b1
  clear h1 b1
  go_wp2_with fail
  refine (xor_any ⟨#[97, 98]⟩ ⟨#[65]⟩ w1 (by decide) (by decide)).mono ?_
  rintro e w2 ⟨s2, rfl, h2, b2⟩
  have t2 := eq_true_of h2 (m := [32]) (by rw [tl_mk, tl_mk]; decide)
  have B2 := Lib.hid (below2 B1.out b2)
  clear h2 b2
  go_wp2_with fail
  refine (hex_any ⟨#[0, 171]⟩ w2 (by decide)).mono ?_
  rintro e w3 ⟨s3, rfl, h3, b3⟩
  have t3 := eq_true_of h3 (m := [48, 48, 97, 98]) (by rw [tl_mk]; decide)
  have B3 := Lib.hid (below2 B2.out b3)
  clear h3 b3
  go_wp2_with fail
  refine (add_any ⟨#[255, 255]⟩ 2 w3 (by decide) (by decide)).mono ?_
  rintro e w4 ⟨s4, rfl, h4, b4⟩
  have t4 := eq_true_of h4 (m := [0, 1]) (by rw [tl_mk]; decide)
  have B4 := Lib.hid (below2 B3.out b4)
  clear h4 b4
  go_wp2_with fail
  go_ret
  exact ⟨rfl, B4.out⟩
end Go.Proofs.Ytfjdbjlkeoifbaa
