/- Seal, Open and Tag: the program's. -/
import Derived.Test.YtflofbimecnakaaGreatGiD
import Derived.Test.YtflofbimecnakaaGreatOctX
import Derived.IntWalk
namespace Go.Proofs.YtflofbimecnakaaGreat
open Go.RowKit
set_option linter.unusedVariables false
set_option linter.unusedSimpArgs false
theorem gcTE_c {k v a n : Nat} {s c : Int} (h : gcE k v a s = c) (h0 : c ≠ 0) : gcTE k v a s n = c := by rw [gcTE, h, if_neg h0]
theorem gcOE_c {k v a n : Nat} {s c : Int} (h : gcE k v a s = c) (h0 : c ≠ 0) : gcOE k v a s n = c := by rw [gcOE, h, if_neg h0]
section
variable [Inhabited Gh.Tw]
set_option maxRecDepth 100000 in
set_option maxHeartbeats 3200000 in
theorem gSeal_any (key iv aad text : ByteArray) (s : Int) (w : World) (hF : Fal w) : Calls Tryz.prog 34 #[.string key, .string iv, .string aad, .string text, .int .i64 s] w (RetSE (gcSealL key.toList iv.toList aad.toList text.toList s) (gcTE key.size iv.size aad.size s text.size) w) := by
  obtain ⟨c, hc⟩ : ∃ c, gcE key.size iv.size aad.size s = c := ⟨_, rfl⟩
  rw [gcSealL, tl_size, tl_size, tl_size, tl_size]
  by_cases h0 : c = 0
  · subst h0
    obtain ⟨hk, v0, v1, s0, s1, ha⟩ := gcE_zero hc
    obtain ⟨m, rfl⟩ := Int.eq_ofNat_of_zero_le (a := s) (by omega)
    by_cases ht : text.size ≤ 70000
    · have hT : gcTE key.size iv.size aad.size (m : Int) text.size = 0 := by rw [gcTE, if_pos hc, if_neg (by omega)]
      rw [hT, if_pos rfl, Int.toNat_natCast]
      have e1 : ¬ (70000 : Int) < (text.size : Int) := by omega
      have HF := Lib.hid hF
      have HM : Hid (m ≤ 16) := Lib.hid (by omega)
      have B := Lib.hid (fun w hF => gbegin_ok key iv aad m w hF hk (by omega) v1 (by omega) (by omega) ha)
      have HK := Lib.hid hk
      have HT := Lib.hid ht
      have HA := Lib.hid ha
      clear hc hF hT hk v0 v1 s0 s1 ha ht
      go_enter Tryz.func34, Tryz.ntmps34
      go_wp2_with fail
      refine (B.out _ HF.out).mono ?_
      rintro e w1 ⟨g, H, f, hg, rfl, hH, hf, hQ, hb1⟩
      have HH := Lib.hid hH
      have HFI := Lib.hid hf
      have HQ := Lib.hid hQ
      clear hH hf hQ hg
      go_wp2_with fail
      obtain ⟨w2, hw2, hA2, hb2, hs2⟩ := seal_by w1 key H f g m
      rw [hw2]
      have HQ2 := Lib.hid (HQ.out.below hb2 HQ.out.lt)
      have hb02 := below2 hb1 hb2
      obtain ⟨c0, c1, c2, c3, c4⟩ := five hA2
      have HA2 := Lib.hid hA2
      clear hw2 hb1 hb2 hA2
      go_wp2_with fail
      refine (gjoined_any key H f iv text g m _ HFI.out HK.out HT.out).mono ?_
      rintro e w3 ⟨x, rfl, hx, hb3⟩
      have hxs : x.size = text.size := by rw [← tl_size, hx, gcJoin_length, tl_size]
      have hA3 := HA2.out.below hb3 hs2
      have HQ3 := Lib.hid (HQ2.out.below hb3 HQ2.out.lt)
      have hb03 := hb02.trans (hb3.mono hb02.size)
      have HF3 := Lib.hid (HF.out.below hb03 HF.out.2)
      have HX := Lib.hid hx
      have HXS := Lib.hid hxs
      clear c0 c1 c2 c3 c4 hx hxs hb02 hb3 hs2
      obtain ⟨c0, c1, c2, c3, c4⟩ := five hA3
      clear hA3
      go_wp2_with fail
      refine (gctag_any key H f iv aad x g m _ HF3.out HQ3.out HH.out HFI.out HM.out HA.out (by rw [HXS.out]; exact HT.out)).mono ?_
      rintro e w4 ⟨y, rfl, hy, hb4⟩
      have hys : y.size = m := by rw [← tl_size, hy, gcTag_length _ _ _ _ _ HM.out]
      have hov : ¬ 9223372036854775807 < x.size + y.size := by have := HXS.out; have := HM.out; have := HT.out; omega
      have HY := Lib.hid hy
      have hb04 := hb03.trans (hb4.mono hb03.size)
      clear c0 c1 c2 c3 c4 hy hys hb03 hb4
      go_wp2_with fail
      go_ret2
      exact ret_se (tl_append _ _) (by rw [HX.out, HY.out, HX.out]) rfl hb04
    · have hT : gcTE key.size iv.size aad.size (m : Int) text.size = 6 := by rw [gcTE, if_pos hc, if_pos (by omega)]
      rw [hT, if_neg (by decide)]
      have e1 : (70000 : Int) < (text.size : Int) := by omega
      have B := Lib.hid (fun w hF => gbegin_ok key iv aad m w hF hk (by omega) v1 (by omega) (by omega) ha)
      have HF := Lib.hid hF
      clear hc hF hT hk v0 v1 s0 s1 ha ht
      go_enter Tryz.func34, Tryz.ntmps34
      go_wp2_with fail
      refine (B.out _ HF.out).mono ?_
      rintro e w1 ⟨g, H, f, hg, rfl, hH, hf, hQ, hb1⟩
      clear hH hf hQ hg
      go_wp2_with fail
      go_ret2
      exact ret_se (tl_mk []) rfl rfl (hb1.alloc hb1.size _)
  · rw [gcTE_c hc h0, if_neg h0]
    have e1 : (c == 0) = false := by rw [beq_eq_false_iff_ne]; exact h0
    have e2 : (c != 0) = true := by rw [bne_iff_ne]; exact h0
    have B := Lib.hid (fun w => gbegin_no key iv aad s c w hc h0)
    clear hc hF h0
    go_enter Tryz.func34, Tryz.ntmps34
    go_wp2_with fail
    refine (B.out _).mono ?_
    rintro e w1 ⟨rfl, hb1⟩
    go_wp2_with fail
    go_ret2
    exact ret_se (tl_mk []) rfl rfl (hb1.alloc hb1.size _)
end
end Go.Proofs.YtflofbimecnakaaGreat
