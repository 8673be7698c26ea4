/- The walks of the laws of one way and of unlike signs. -/
import Derived.Test.YtkjenmkgamnchaaBasC
import Derived.Test.YtkjenmkgamnchaaBasQ
namespace Go.Proofs.Ytkjenmkgamnchaa
open Go.RowKit
set_option linter.unusedVariables false
set_option linter.unusedSimpArgs false
theorem base_wakes_any (w : World) : Calls Try.prog 7 #[] w (RetT w) := by
  go_enter Try.func7, Try.ntmps7
  go_wp2_with fail
  refine (decode_any ⟨#[89, 81]⟩ w (by decide)).mono ?_
  rw [show (⟨#[89, 81]⟩ : ByteArray).toList = [89, 81] from tl_mk [89, 81], show decE [89, 81] = 0 by decide, show decP [89, 81] = 0 by decide, show decS [89, 81] = [97] by decide]
  rintro e w1 ⟨s1, rfl, h1, b1⟩
  have t1 := eq_true_of h1 (m := [97]) rfl
  have B1 := Lib.hid b1
  clear h1 b1
  go_wp2_with fail
  refine (encode_any ⟨#[97]⟩ w1 (by decide)).mono ?_
  rintro e w2 ⟨s2, rfl, h2, b2⟩
  have t2 := eq_true_of h2 (m := [89, 81]) (by rw [show (⟨#[97]⟩ : ByteArray).toList = [97] from tl_mk [97]]; decide)
  have B2 := Lib.hid (below2 B1.out b2)
  clear h2 b2
  go_wp2_with fail
  go_ret
  exact ⟨rfl, B2.out⟩
set_option maxHeartbeats 800000 in
theorem baseOneWay_walk (s : ByteArray) (hs : s.size ≤ 140737488351232) (w : World) :
    Calls Try.prog 5 #[.string s] w (RetT w) := by
  by_cases hg : (1048576 : Int) < (s.size : Int)
  · go_enter Try.func5, Try.ntmps5
    go_wp2_with fail
    refine (base_wakes_any _).mono ?_
    rintro e w1 ⟨rfl, b1⟩
    have B1 := Lib.hid b1
    clear b1
    go_wp2_with fail
    go_ret
    exact ⟨rfl, B1.out⟩
  · have hs1 : s.size ≤ 1073741824 := by omega
    go_enter Try.func5, Try.ntmps5
    go_wp2_with fail
    refine (base_wakes_any _).mono ?_
    rintro e w1 ⟨rfl, b1⟩
    have B1 := Lib.hid b1
    clear b1
    go_wp2_with fail
    refine (encode_any s _ hs1).mono ?_
    rintro e w2 ⟨x, rfl, h2, b2⟩
    have H2 := Lib.hid h2
    have B2 := Lib.hid (below2 B1.out b2)
    clear h2 b2
    have hx : x.size ≤ 140737488351232 := by rw [← tl_size, H2.out, encL_length, tl_size]; unfold encN; omega
    go_wp2_with fail
    refine (decode_any x _ hx).mono ?_
    rw [H2.out, (dec_enc _).1, (dec_enc _).2.1, (dec_enc _).2.2]
    rintro e w3 ⟨s3, rfl, h3, b3⟩
    have t3 := eq_true_two h3 (rfl : s.toList = s.toList)
    have B3 := Lib.hid (below2 B2.out b3)
    clear h3 b3
    go_wp2_with fail
    refine (decode_any s _ hs).mono ?_
    rintro e w4 ⟨s4, rfl, h4, b4⟩
    have B4 := Lib.hid (below2 B3.out b4)
    have H4 := Lib.hid h4
    clear h4 b4
    by_cases hE : decE s.toList = 0
    · have hb : (decE s.toList != 0) = false := by rw [hE]; rfl
      have hsz : s4.size ≤ 1073741824 := by
        have h5 := enc_dec s.toList hE
        have h6 := congrArg List.length h5
        rw [encL_length, ← H4.out, tl_size, tl_size] at h6
        unfold encN at h6
        omega
      have HE := Lib.hid hE
      clear hE
      go_wp2_with fail
      refine (encode_any s4 _ hsz).mono ?_
      rintro e w5 ⟨s5, rfl, h5, b5⟩
      rw [H4.out, enc_dec _ HE.out] at h5
      have t5 := eq_true_two h5 (rfl : s.toList = s.toList)
      have B5 := Lib.hid (below2 B4.out b5)
      clear h5 b5
      go_wp2_with fail
      go_ret
      exact ⟨rfl, B5.out⟩
    · have hb : (decE s.toList != 0) = true := by rw [bne_iff_ne]; exact hE
      clear hE
      go_wp2_with fail
      go_ret
      exact ⟨rfl, B4.out⟩
set_option maxHeartbeats 800000 in
theorem baseApart_walk (s t : ByteArray) (hs : s.size ≤ 140737488351232) (ht : t.size ≤ 140737488351232) (w : World) :
    Calls Try.prog 6 #[.string s, .string t] w (RetT w) := by
  go_enter Try.func6, Try.ntmps6
  go_wp2_with fail
  refine (base_wakes_any _).mono ?_
  rintro e w1 ⟨rfl, b1⟩
  have B1 := Lib.hid b1
  clear b1
  go_wp2_with fail
  refine (decode_any s _ hs).mono ?_
  rintro e w2 ⟨a, rfl, h2, b2⟩
  have B2 := Lib.hid (below2 B1.out b2)
  have H2 := Lib.hid h2
  clear h2 b2
  go_wp2_with fail
  refine (decode_any t _ ht).mono ?_
  rintro e w3 ⟨b, rfl, h3, b3⟩
  have B3 := Lib.hid (below2 B2.out b3)
  have H3 := Lib.hid h3
  clear h3 b3
  by_cases hE : decE s.toList = 0
  · have hb : (decE s.toList != 0) = false := by rw [hE]; rfl
    by_cases hF : decE t.toList = 0
    · have hc : (decE t.toList != 0) = false := by rw [hF]; rfl
      obtain ⟨r, hr⟩ : ∃ r, (s.toList == t.toList) = r := ⟨_, rfl⟩
      have hr2 : (a.toList == b.toList) = r := by
        rw [← hr, Bool.eq_iff_iff, beq_iff_eq, beq_iff_eq, H2.out, H3.out]
        exact ⟨dec_inj _ _ hE hF, fun h => by rw [h]⟩
      clear hE hF
      go_wp2_with fail
      go_ret
      exact ⟨by simp, B3.out⟩
    · have hc : (decE t.toList != 0) = true := by rw [bne_iff_ne]; exact hF
      clear hE hF
      go_wp2_with fail
      go_ret
      exact ⟨rfl, B3.out⟩
  · have hb : (decE s.toList != 0) = true := by rw [bne_iff_ne]; exact hE
    clear hE
    go_wp2_with fail
    go_ret
    exact ⟨rfl, B3.out⟩
end Go.Proofs.Ytkjenmkgamnchaa
