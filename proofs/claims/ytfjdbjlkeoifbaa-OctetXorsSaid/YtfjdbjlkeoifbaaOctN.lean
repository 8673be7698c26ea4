/- The walk of the law of Xor. -/
import Derived.Test.YtfjdbjlkeoifbaaOctM
namespace Go.Proofs.Ytfjdbjlkeoifbaa
open Go.RowKit
set_option linter.unusedVariables false
set_option linter.unusedSimpArgs false
theorem xorL_comm (A B : List UInt8) : xorL A B = xorL B A := by
  unfold xorL
  rw [List.zipWith_comm]
  congr 1
  funext x y
  exact UInt8.xor_comm y x
theorem xorL_back (A B : List UInt8) : xorL (xorL A B) B = A.take (min A.length B.length) := by
  apply List.ext_getElem
  · simp [xorL]
  · intro i h1 h2
    have hi : i < A.length ∧ i < B.length := by simp [xorL] at h1; omega
    simp [xorL, UInt8.xor_assoc]

set_option maxHeartbeats 1600000 in
theorem octetXors_le (a b : ByteArray) (ha : a.size ≤ 140737488351232) (hb : b.size ≤ 140737488351232) (hc : (a.size : Int) ≤ (b.size : Int)) (w : World) :
    Calls Try.prog 4 #[.string a, .string b] w (RetT w) := by
  have hcn : ¬ b.size < a.size := by omega
  have hz0 : (0 : Int) ≤ (a.size : Int) := by omega
  have hz1 : (a.size : Int) ≤ (a.size : Int) := by omega
  have hz2 : a.size ≤ a.size := by omega
  go_enter Try.func4, Try.ntmps4
  go_wp2_with fail
  refine (xor_any a b _ ha hb).mono ?_
  rintro e w1 ⟨s1, rfl, h1, b1⟩
  have H1 := Lib.hid h1
  have B1 := Lib.hid b1
  clear h1 b1
  have hs1 : s1.size ≤ 140737488351232 := by rw [← tl_size, H1.out, xorL_len, tl_size, tl_size]; omega
  go_wp2_with fail
  go_region_held3 (fun _ => True) (trivial) (first | (go_at_call 9; refine (wakes_any _).mono ?_; rintro e w2 ⟨rfl, b2⟩) | (go_at_call 13; refine (rxor_any a b _ ha hb).mono ?_; rintro e w3 ⟨s3, rfl, h3, b3⟩; have t3 := eq_true_two H1.out h3; clear h3) | (go_at_call_of 12 (Value.string s1); refine (xor_any s1 b _ hs1 hb).mono ?_; rintro e w4 ⟨s4, rfl, h4, b4⟩; rw [H1.out, xorL_back, tl_size, tl_size, show min a.size b.size = a.size by omega] at h4; have t4 := eq_true_two h4 (show a.toList = a.toList.take a.size by rw [← tl_size, List.take_length]); clear h4) | (go_at_call_of 12 (Value.string a); refine (xor_any b a _ hb ha).mono ?_; rintro e w5 ⟨s5, rfl, h5, b5⟩; rw [← xorL_comm] at h5; have t5 := eq_true_two h5 H1.out; clear h5))
  all_goals
    go_wp2_with fail
    go_ret
    exact ⟨rfl, below2 (below2 (below2 (below2 B1.out.drew b2) b3) b4) b5⟩

set_option maxHeartbeats 1600000 in
theorem octetXors_gt (a b : ByteArray) (ha : a.size ≤ 140737488351232) (hb : b.size ≤ 140737488351232) (hc : (b.size : Int) < (a.size : Int)) (w : World) :
    Calls Try.prog 4 #[.string a, .string b] w (RetT w) := by
  have hcn : b.size < a.size := by omega
  have hz0 : (0 : Int) ≤ (b.size : Int) := by omega
  have hz1 : (b.size : Int) ≤ (a.size : Int) := by omega
  have hz2 : b.size ≤ a.size := by omega
  go_enter Try.func4, Try.ntmps4
  go_wp2_with fail
  refine (xor_any a b _ ha hb).mono ?_
  rintro e w1 ⟨s1, rfl, h1, b1⟩
  have H1 := Lib.hid h1
  have B1 := Lib.hid b1
  clear h1 b1
  have hs1 : s1.size ≤ 140737488351232 := by rw [← tl_size, H1.out, xorL_len, tl_size, tl_size]; omega
  go_wp2_with fail
  go_region_held3 (fun _ => True) (trivial) (first | (go_at_call 9; refine (wakes_any _).mono ?_; rintro e w2 ⟨rfl, b2⟩) | (go_at_call 13; refine (rxor_any a b _ ha hb).mono ?_; rintro e w3 ⟨s3, rfl, h3, b3⟩; have t3 := eq_true_two H1.out h3; clear h3) | (go_at_call_of 12 (Value.string s1); refine (xor_any s1 b _ hs1 hb).mono ?_; rintro e w4 ⟨s4, rfl, h4, b4⟩; rw [H1.out, xorL_back, tl_size, tl_size, show min a.size b.size = b.size by omega] at h4; have t4 := eq_true_two h4 (t := a.extract 0 b.size) (by rw [Lib.extract_toList, ← Lib.toList_data]; simp); clear h4) | (go_at_call_of 12 (Value.string a); refine (xor_any b a _ hb ha).mono ?_; rintro e w5 ⟨s5, rfl, h5, b5⟩; rw [← xorL_comm] at h5; have t5 := eq_true_two h5 H1.out; clear h5))
  all_goals
    go_wp2_with fail
    go_ret
    exact ⟨rfl, below2 (below2 (below2 (below2 B1.out.drew b2) b3) b4) b5⟩

theorem octetXors_walk (a b : ByteArray) (ha : a.size ≤ 140737488351232) (hb : b.size ≤ 140737488351232) (w : World) :
    Calls Try.prog 4 #[.string a, .string b] w (RetT w) := by
  rcases Nat.lt_or_ge b.size a.size with h | h
  · exact octetXors_gt a b ha hb (by omega) w
  · exact octetXors_le a b ha hb (by omega) w
end Go.Proofs.Ytfjdbjlkeoifbaa
