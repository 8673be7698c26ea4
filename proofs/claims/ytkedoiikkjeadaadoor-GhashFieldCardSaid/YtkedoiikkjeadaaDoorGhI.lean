/- The field of 128 bits: the program's Mul. -/
import Derived.Test.YtkedoiikkjeadaaDoorGhH
namespace Go.Proofs.YtkedoiikkjeadaaDoor
open Go.RowKit
set_option linter.unusedVariables false
set_option linter.unusedSimpArgs false
set_option maxRecDepth 100000 in
theorem gmul_any (a b : ByteArray) (w : World) (hF : Fal w) : Calls Tryd.prog 14 #[.string a, .string b] w (RetSE (gmT a.toList b.toList) (gmE a.toList b.toList) w) := by
  by_cases h1 : a.size = 16
  · by_cases h2 : b.size = 16
    · have hok : gmOk a.toList b.toList = true := by rw [gmOk, tl_size, tl_size, h1, h2]; rfl
      rw [gmT, gmE, hok]
      have HF := Lib.hid hF
      have l1 := of16_lt a.toList (by rw [tl_size]; exact h1)
      have l2 := of16_lt b.toList (by rw [tl_size]; exact h2)
      have L1 := Lib.hid l1
      have L2 := Lib.hid l2
      have H1 := Lib.hid h1
      have H2 := Lib.hid h2
      have e1 : (a.size : Int) = 16 := by omega
      have e2 : (b.size : Int) = 16 := by omega
      clear hok h1 h2 l1 l2 hF
      go_enter Tryd.func14, Tryd.ntmps14
      go_wp2_with fail
      refine (gread_any a H1.out _).mono ?_
      rintro e w1 ⟨rfl, hb1⟩
      go_wp2_with fail
      refine (multiples_any _ L1.out _).mono ?_
      rintro e w2 ⟨rfl, hb2⟩
      have hb02 := below2 hb1 hb2
      clear hb1 hb2
      go_wp2_with fail
      refine (gread_any b H2.out _).mono ?_
      rintro e w3 ⟨rfl, hb3⟩
      have hb03 := below2 hb02 hb3
      clear hb02 hb3
      go_wp2_with fail
      refine (times_any _ _ L2.out L1.out _ (HF.out.below hb03 HF.out.2)).mono ?_
      rintro e w4 ⟨rfl, hb4⟩
      have hb04 := below2 hb03 hb4
      clear hb03 hb4
      go_wp2_with fail
      refine (gtell_any _ (Gh.mul_lt _ _ L1.out) _).mono ?_
      rintro e w5 ⟨s, rfl, hs, hb5⟩
      have hb05 := below2 hb04 hb5
      have HSS := Lib.hid hs
      clear hb04 hb5 hs
      go_wp2_with fail
      go_ret2
      refine ret_se HSS.out ?_ rfl hb05
      rw [gmL, Gh.mul_comm _ _ L2.out L1.out]
    · have hok : gmOk a.toList b.toList = false := by rw [gmOk, tl_size, tl_size, decide_eq_false_iff_not]; exact fun h => h2 h.2
      rw [gmT, gmE, hok]
      have e1 : (a.size : Int) = 16 := by omega
      have e2 : ((b.size : Int) != 16) = true := by rw [bne_iff_ne]; omega
      clear hok
      go_enter Tryd.func14, Tryd.ntmps14
      go_wp2_with fail
      go_ret2
      exact ret_se emptyL rfl rfl (Below.refl _ _)
  · have hok : gmOk a.toList b.toList = false := by rw [gmOk, tl_size, tl_size, decide_eq_false_iff_not]; exact fun h => h1 h.1
    rw [gmT, gmE, hok]
    have e1 : ((a.size : Int) != 16) = true := by rw [bne_iff_ne]; omega
    clear hok
    go_enter Tryd.func14, Tryd.ntmps14
    go_wp2_with fail
    go_ret2
    exact ret_se emptyL rfl rfl (Below.refl _ _)
end Go.Proofs.YtkedoiikkjeadaaDoor
