/- The walk of GhashMuls (where the table is laid). -/
import Derived.Test.YtkedoiikkjeadaaDoorGhI
namespace Go.Proofs.YtkedoiikkjeadaaDoor
open Go.RowKit
set_option linter.unusedVariables false
set_option linter.unusedSimpArgs false
theorem gmL_comm (A B : List UInt8) (hA : A.length = 16) (hB : B.length = 16) : gmL B A = gmL A B := by
  have h := Gh.mul_comm (ofBe B) (ofBe A) (of16_lt B hB) (of16_lt A hA)
  unfold gmL
  rw [h]
theorem gmT_comm (A B : List UInt8) : gmT B A = gmT A B ∧ gmE B A = gmE A B := by
  by_cases hk : A.length = 16 ∧ B.length = 16
  · have h1 : gmOk A B = true := decide_eq_true hk
    have h2 : gmOk B A = true := decide_eq_true ⟨hk.2, hk.1⟩
    have h3 := gmL_comm A B hk.1 hk.2
    rw [gmT, gmT, gmE, gmE, h1, h2, h3]
    exact ⟨rfl, rfl⟩
  · have h1 : gmOk A B = false := decide_eq_false hk
    have h2 : gmOk B A = false := decide_eq_false fun h => hk ⟨h.2, h.1⟩
    rw [gmT, gmT, gmE, gmE, h1, h2]
    exact ⟨by rw [if_neg Bool.false_ne_true, if_neg Bool.false_ne_true], rfl⟩
theorem gm_one (A B : List UInt8) (hA : A.length = 16) (hB : B = [128, 0, 0, 0, 0, 0, 0, 0, 0, 0, 0, 0, 0, 0, 0, 0]) : gmT A B = A ∧ gmE A B = 0 := by
  have h : gmOk A B = true := by rw [gmOk, decide_eq_true_eq]; exact ⟨hA, by rw [hB]; rfl⟩
  have h1 : ofBe B = 2 ^ 127 := by rw [hB]; decide +kernel
  rw [gmT, gmE, h, if_pos rfl, if_pos rfl, gmL, h1, Gh.mul_comm _ _ (of16_lt A hA) (by decide +kernel), Gh.one_mul]
  refine ⟨?_, rfl⟩
  have := be_ofBe A
  rwa [hA] at this
set_option maxRecDepth 100000 in
theorem wakes8_any (w : World) (hF : Fal w) : Calls Tryd.prog 13 #[] w (RetT w) := by
  obtain ⟨k, hk⟩ : ∃ k : ByteArray, k = ⟨#[48, 49, 50, 51, 52, 53, 54, 55, 56, 57, 97, 98, 99, 100, 101, 102]⟩ := ⟨_, rfl⟩
  obtain ⟨o, ho⟩ : ∃ o : ByteArray, o = ⟨#[128, 0, 0, 0, 0, 0, 0, 0, 0, 0, 0, 0, 0, 0, 0, 0]⟩ := ⟨_, rfl⟩
  have hg := gm_one k.toList o.toList (by rw [hk, tl_mk]; rfl) (by rw [ho]; exact tl_mk _)
  have HG := Lib.hid hg
  have HF := Lib.hid hF
  clear hg hF
  go_enter Tryd.func13, Tryd.ntmps13
  go_wp2_with fail
  rw [← hk, ← ho]
  refine (gmul_any k o _ HF.out).mono ?_
  rintro e w1 ⟨s, rfl, hs, hb1⟩
  rw [HG.out.1] at hs
  rw [HG.out.2]
  obtain rfl := tl_inj hs
  clear hs
  go_wp2_with fail
  go_ret
  exact ⟨by first | rfl | simp [hk], hb1⟩
set_option maxRecDepth 100000 in
theorem ghashMuls_walk (a b : ByteArray) (w : World) (hF : Fal w) : Calls Tryd.prog 3 #[.string a, .string b] w (RetT w) := by
  have HF := Lib.hid hF
  have HC := Lib.hid (gmT_comm a.toList b.toList)
  obtain ⟨c, hc⟩ : ∃ c, gmE a.toList b.toList = c := ⟨_, rfl⟩
  have HE := Lib.hid hc
  clear hF hc
  go_enter Tryd.func3, Tryd.ntmps3
  go_wp2_with fail
  refine (wakes8_any _ HF.out).mono ?_
  rintro e w1 ⟨rfl, hb1⟩
  have HF1 := Lib.hid (HF.out.below hb1 HF.out.2)
  go_wp2_with fail
  refine (gmul_any a b _ HF1.out).mono ?_
  rintro e w2 ⟨s, rfl, hs, hb2⟩
  rw [HE.out]
  have hb02 := below2 hb1 hb2
  have HF2 := Lib.hid (HF.out.below hb02 HF.out.2)
  have HS := Lib.hid hs
  clear hb1 hb2 hs
  go_wp2_with fail
  refine (rgmul_any a b _).mono ?_
  rintro e w3 ⟨t, rfl, ht, hb3⟩
  rw [HE.out]
  obtain rfl : s = t := tl_inj (by rw [HS.out, ht])
  have hb03 := below2 hb02 hb3
  have HF3 := Lib.hid (HF.out.below hb03 HF.out.2)
  clear hb02 hb3 ht
  go_wp2_with fail
  refine (gmul_any b a _ HF3.out).mono ?_
  rintro e w4 ⟨u, rfl, hu, hb4⟩
  rw [HC.out.2, HE.out]
  obtain rfl : s = u := tl_inj (by rw [HS.out, hu, HC.out.1])
  have hb04 := below2 hb03 hb4
  clear hb03 hb4 hu
  go_wp2_with fail
  go_ret
  exact ⟨rfl, hb04⟩
end Go.Proofs.YtkedoiikkjeadaaDoor
