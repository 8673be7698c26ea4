/- The field of 128 bits: the document's Mul. -/
import Derived.Test.YtkedoiikkjeadaaDoorGhE
namespace Go.Proofs.YtkedoiikkjeadaaDoor
open Go.RowKit
set_option linter.unusedVariables false
set_option linter.unusedSimpArgs false
def gmOk (A B : List UInt8) : Bool := decide (A.length = 16 ∧ B.length = 16)
def gmT (A B : List UInt8) : List UInt8 := if gmOk A B then gmL A B else []
def gmE (A B : List UInt8) : Int := if gmOk A B then 0 else 6
theorem emptyL : (ByteArray.mk #[]).toList = [] := tl_mk []
set_option maxRecDepth 100000 in
theorem rgmul_any (a b : ByteArray) (w : World) : Calls Tryd.prog 15 #[.string a, .string b] w (RetSE (gmT a.toList b.toList) (gmE a.toList b.toList) w) := by
  by_cases h1 : a.size = 16
  · by_cases h2 : b.size = 16
    · have hok : gmOk a.toList b.toList = true := by rw [gmOk, tl_size, tl_size, h1, h2]; rfl
      rw [gmT, gmE, hok]
      have HOK := Lib.hid hok
      have H1 := Lib.hid h1
      have H2 := Lib.hid h2
      have e1 : (a.size : Int) = 16 := by omega
      have e2 : (b.size : Int) = 16 := by omega
      clear hok h1 h2
      go_enter Tryd.func15, Tryd.ntmps15
      go_wp2_with fail
      refine (rof_any a H1.out _).mono ?_
      rintro e w1 ⟨rfl, hb1⟩
      go_wp2_with fail
      refine (rof_any b H2.out _).mono ?_
      rintro e w2 ⟨rfl, hb2⟩
      have hb02 := below2 hb1 hb2
      clear hb1 hb2
      go_wp2_with fail
      refine (rtimes_any _ _ (Gh.bits_length _) (Gh.bits_length _) _).mono ?_
      rintro e w3 ⟨rfl, hb3⟩
      have hb03 := below2 hb02 hb3
      clear hb02 hb3
      go_wp2_with fail
      refine (rtext_any _ (Gh.bits_length _) _).mono ?_
      rintro e w4 ⟨s, rfl, hs, hb4⟩
      have hb04 := below2 hb03 hb4
      have HSS := Lib.hid hs
      clear hb03 hb4 hs
      go_wp2_with fail
      go_ret2
      refine ret_se HSS.out ?_ rfl hb04
      have l1 := of16_lt a.toList (by rw [tl_size]; exact H1.out)
      have l2 := of16_lt b.toList (by rw [tl_size]; exact H2.out)
      rw [gmL, Gh.V_bits _ l1, Gh.V_bits _ l2, Gh.V_bits _ (Gh.mul_lt _ _ l2)]
    · have hok : gmOk a.toList b.toList = false := by rw [gmOk, tl_size, tl_size, decide_eq_false_iff_not]; exact fun h => h2 h.2
      rw [gmT, gmE, hok]
      have e1 : (a.size : Int) = 16 := by omega
      have e2 : ((b.size : Int) != 16) = true := by rw [bne_iff_ne]; omega
      clear hok
      go_enter Tryd.func15, Tryd.ntmps15
      go_wp2_with fail
      go_ret2
      exact ret_se emptyL rfl rfl (Below.refl _ _)
  · have hok : gmOk a.toList b.toList = false := by rw [gmOk, tl_size, tl_size, decide_eq_false_iff_not]; exact fun h => h1 h.1
    rw [gmT, gmE, hok]
    have e1 : ((a.size : Int) != 16) = true := by rw [bne_iff_ne]; omega
    clear hok
    go_enter Tryd.func15, Tryd.ntmps15
    go_wp2_with fail
    go_ret2
    exact ret_se emptyL rfl rfl (Below.refl _ _)
end Go.Proofs.YtkedoiikkjeadaaDoor
