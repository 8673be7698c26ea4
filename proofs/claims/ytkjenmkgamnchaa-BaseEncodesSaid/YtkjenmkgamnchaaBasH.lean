/- The walks of the laws of Encode and Decode. -/
import Derived.Test.YtkjenmkgamnchaaBasG
import Derived.Test.YtkjenmkgamnchaaBasD
namespace Go.Proofs.Ytkjenmkgamnchaa
open Go.RowKit
set_option linter.unusedVariables false
set_option linter.unusedSimpArgs false
set_option maxHeartbeats 800000 in
theorem baseEncodes_walk (s : ByteArray) (hs : s.size ≤ 140737488351232) (w : World) :
    Calls Try.prog 3 #[.string s] w (RetT w) := by
  by_cases hg : (1048576 : Int) < (s.size : Int)
  · go_enter Try.func3, Try.ntmps3
    go_wp2_with fail
    refine (base_wakes_any _).mono ?_
    rintro e w1 ⟨rfl, b1⟩
    have B1 := Lib.hid b1
    clear b1
    go_wp2_with fail
    go_ret
    exact ⟨rfl, B1.out⟩
  · have hs1 : s.size ≤ 1073741824 := by omega
    have hs2 : s.size ≤ 1048576 := by omega
    go_enter Try.func3, Try.ntmps3
    go_wp2_with fail
    refine (base_wakes_any _).mono ?_
    rintro e w1 ⟨rfl, b1⟩
    have B1 := Lib.hid b1
    clear b1
    go_wp2_with fail
    refine (encode_any s _ hs1).mono ?_
    rintro e w2 ⟨x, rfl, h2, b2⟩
    have H2 := Lib.hid h2
    have B2 := Lib.hid (below2 B1.out b2)
    clear h2 b2
    go_wp2_with fail
    refine (rencode_any s _ hs2).mono ?_
    rintro e w3 ⟨y, rfl, h3, b3⟩
    have t3 := eq_true_two H2.out h3
    have B3 := Lib.hid (below2 B2.out b3)
    clear h3 b3
    go_wp2_with fail
    go_ret
    exact ⟨rfl, B3.out⟩
set_option maxHeartbeats 800000 in
theorem baseDecodes_walk (s : ByteArray) (hs : s.size ≤ 140737488351232) (w : World) :
    Calls Try.prog 4 #[.string s] w (RetT w) := by
  by_cases hg : (1048576 : Int) < (s.size : Int)
  · go_enter Try.func4, Try.ntmps4
    go_wp2_with fail
    refine (base_wakes_any _).mono ?_
    rintro e w1 ⟨rfl, b1⟩
    have B1 := Lib.hid b1
    clear b1
    go_wp2_with fail
    go_ret
    exact ⟨rfl, B1.out⟩
  · have hs2 : s.size ≤ 1048576 := by omega
    go_enter Try.func4, Try.ntmps4
    go_wp2_with fail
    refine (base_wakes_any _).mono ?_
    rintro e w1 ⟨rfl, b1⟩
    have B1 := Lib.hid b1
    clear b1
    go_wp2_with fail
    refine (decode_any s _ hs).mono ?_
    rintro e w2 ⟨x, rfl, h2, b2⟩
    have H2 := Lib.hid h2
    have B2 := Lib.hid (below2 B1.out b2)
    clear h2 b2
    go_wp2_with fail
    refine (rdecode_any s _ hs2).mono ?_
    rintro e w3 ⟨y, rfl, h3, b3⟩
    have t3 := eq_true_two H2.out h3
    have B3 := Lib.hid (below2 B2.out b3)
    clear h3 b3
    go_wp2_with fail
    go_ret
    exact ⟨rfl, B3.out⟩
end Go.Proofs.Ytkjenmkgamnchaa
