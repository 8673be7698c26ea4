/- The program's Open. -/
import Derived.Test.YtflofbimecnakaaGreatGiE
namespace Go.Proofs.YtflofbimecnakaaGreat
open Go.RowKit
set_option linter.unusedVariables false
set_option linter.unusedSimpArgs false
theorem below_dN9 {B : Nat} {a w : World} (h : Below B a w) (n : Nat) : Below B a (w.drewN n) := ⟨h.os, h.tape, h.output, h.size, h.block⟩
set_option maxRecDepth 100000 in
set_option maxHeartbeats 3200000 in
theorem gOpen_first (key iv aad text : ByteArray) (s c : Int) (w : World) (hc : gcE key.size iv.size aad.size s = c) (h0 : c ≠ 0) : Calls Tryz.prog 33 #[.string key, .string iv, .string aad, .string text, .int .i64 s] w (RetSE [] c w) := by
  have e1 : (c == 0) = false := by rw [beq_eq_false_iff_ne]; exact h0
  have e2 : (c != 0) = true := by rw [bne_iff_ne]; exact h0
  have B := Lib.hid (fun w => gbegin_no key iv aad s c w hc h0)
  clear hc h0
  go_enter Tryz.func33, Tryz.ntmps33
  go_wp2_with fail
  refine (B.out _).mono ?_
  rintro e w1 ⟨rfl, hb1⟩
  go_wp2_with fail
  go_ret2
  exact ret_se (tl_mk []) rfl rfl (hb1.alloc hb1.size _)
section
variable [Inhabited Gh.Tw]
set_option maxRecDepth 100000 in
set_option maxHeartbeats 3200000 in
theorem gOpen_short (key iv aad text : ByteArray) (m : Nat) (w : World) (hF : Fal w) (hk : key.size = 16 ∨ key.size = 24 ∨ key.size = 32) (v0 : iv.size ≠ 0) (v1 : iv.size ≤ 1024) (s0 : 12 ≤ m) (s1 : m ≤ 16) (ha : aad.size ≤ 70000) (h1 : text.size < m) : Calls Tryz.prog 33 #[.string key, .string iv, .string aad, .string text, .int .i64 (m : Int)] w (RetSE [] 6 w) := by
  obtain ⟨M, hM⟩ : ∃ M, M = 70000 + m := ⟨_, rfl⟩
  have q1 : 70000 + (m : Int) = (M : Int) := by omega
  have q2 : IntKind.i64.wrap (M : Int) = (M : Int) := wrap_in _ (by omega) (by omega)
  have e1 : (text.size : Int) < (m : Int) := by omega
  have B := Lib.hid (fun w hF => gbegin_ok key iv aad m w hF hk v0 v1 s0 s1 ha)
  have HF := Lib.hid hF
  clear hF hk v0 v1 s0 s1 ha h1 hM
  go_enter Tryz.func33, Tryz.ntmps33
  go_wp2_with fail
  refine (B.out _ HF.out).mono ?_
  rintro e w1 ⟨g, H, f, hg, rfl, hH, hf, hQ, hb1⟩
  clear hH hf hQ hg
  go_wp2_with fail
  go_ret2
  exact ret_se (tl_mk []) rfl rfl (hb1.alloc hb1.size _)
set_option maxRecDepth 100000 in
set_option maxHeartbeats 3200000 in
theorem gOpen_long (key iv aad text : ByteArray) (m : Nat) (w : World) (hF : Fal w) (hk : key.size = 16 ∨ key.size = 24 ∨ key.size = 32) (v0 : iv.size ≠ 0) (v1 : iv.size ≤ 1024) (s0 : 12 ≤ m) (s1 : m ≤ 16) (ha : aad.size ≤ 70000) (h1 : 70000 + m < text.size) : Calls Tryz.prog 33 #[.string key, .string iv, .string aad, .string text, .int .i64 (m : Int)] w (RetSE [] 6 w) := by
  obtain ⟨M, hM⟩ : ∃ M, M = 70000 + m := ⟨_, rfl⟩
  have q1 : 70000 + (m : Int) = (M : Int) := by omega
  have q2 : IntKind.i64.wrap (M : Int) = (M : Int) := wrap_in _ (by omega) (by omega)
  have e1 : ¬ (text.size : Int) < (m : Int) := by omega
  have e2 : (M : Int) < (text.size : Int) := by omega
  have B := Lib.hid (fun w hF => gbegin_ok key iv aad m w hF hk v0 v1 s0 s1 ha)
  have HF := Lib.hid hF
  clear hF hk v0 v1 s0 s1 ha h1 hM
  go_enter Tryz.func33, Tryz.ntmps33
  go_wp2_with fail
  refine (B.out _ HF.out).mono ?_
  rintro e w1 ⟨g, H, f, hg, rfl, hH, hf, hQ, hb1⟩
  clear hH hf hQ hg
  go_wp2_with fail
  go_ret2
  exact ret_se (tl_mk []) rfl rfl (hb1.alloc hb1.size _)
set_option maxRecDepth 100000 in
set_option maxHeartbeats 3200000 in
theorem gOpen_ok (key iv aad text : ByteArray) (m : Nat) (b : Bool) (w : World) (hF : Fal w) (hk : key.size = 16 ∨ key.size = 24 ∨ key.size = 32) (v0 : iv.size ≠ 0) (v1 : iv.size ≤ 1024) (s0 : 12 ≤ m) (s1 : m ≤ 16) (ha : aad.size ≤ 70000) (h1 : m ≤ text.size) (h2 : text.size ≤ 70000 + m)
    (hb : (text.toList.drop (text.size - m) == gcTag key.toList iv.toList aad.toList (gcCut text.toList (m : Int)) m) = b) :
    Calls Tryz.prog 33 #[.string key, .string iv, .string aad, .string text, .int .i64 (m : Int)] w (RetSE (if b then gcJoin key.toList iv.toList (gcCut text.toList (m : Int)) else []) (if b then 0 else 8) w) := by
  obtain ⟨M, hM⟩ : ∃ M, M = 70000 + m := ⟨_, rfl⟩
  have q1 : 70000 + (m : Int) = (M : Int) := by omega
  have q2 : IntKind.i64.wrap (M : Int) = (M : Int) := wrap_in _ (by omega) (by omega)
  have e1 : ¬ (text.size : Int) < (m : Int) := by omega
  have e2 : ¬ (M : Int) < (text.size : Int) := by omega
  obtain ⟨a, had⟩ : ∃ a, a = text.size - m := ⟨_, rfl⟩
  have p1 : (text.size : Int) - (m : Int) = (a : Int) := by omega
  have p2 : IntKind.i64.wrap (a : Int) = (a : Int) := wrap_in _ (by omega) (by omega)
  have p3 : (0 : Int) ≤ (a : Int) := by omega
  have p4 : (a : Int) ≤ (text.size : Int) := by omega
  have p5 : a ≤ text.size := by omega
  obtain ⟨pc, hpc⟩ : ∃ pc, text.extract 0 a = pc := ⟨_, rfl⟩
  obtain ⟨tg, htg⟩ : ∃ tg, text.extract a text.size = tg := ⟨_, rfl⟩
  have hpl : pc.toList = gcCut text.toList (m : Int) := by rw [← hpc, tl_ext0, gcCut, tl_size, Int.toNat_natCast, had]
  have hps : pc.size ≤ 70000 := by rw [← tl_size, ← hpc, tl_ext0, List.length_take, tl_size]; omega
  have htl : tg.toList = text.toList.drop a := by rw [← htg, tl_extE _ _ _ rfl]
  have htm : tg.size ≤ maxLen := by rw [← tl_size, htl, List.length_drop, tl_size]; unfold maxLen; omega
  have hb2 : (tg.toList == gcTag key.toList iv.toList aad.toList pc.toList m) = b := by rw [htl, had, hpl]; exact hb
  have HPL := Lib.hid hpl
  have HPS := Lib.hid hps
  have HB2 := Lib.hid hb2
  have HTM := Lib.hid htm
  have HM := Lib.hid s1
  have HA := Lib.hid ha
  have HK := Lib.hid hk
  have B := Lib.hid (fun w hF => gbegin_ok key iv aad m w hF hk v0 v1 s0 s1 ha)
  have HF := Lib.hid hF
  clear hF hk v0 v1 s0 s1 ha h1 h2 hM hb hb2 hpl hps htl htm had
  cases b
  · show Calls _ _ _ _ (RetSE [] 8 w)
    go_enter Tryz.func33, Tryz.ntmps33
    go_wp2_with fail
    refine (B.out _ HF.out).mono ?_
    rintro e w1 ⟨g, H, f, hg, rfl, hH, hf, hQ, hb1⟩
    have HH := Lib.hid hH
    have HFI := Lib.hid hf
    have HQ := Lib.hid hQ
    clear hH hf hQ hg
    go_wp2_with fail
    go_region
    obtain ⟨w2, hw2, hA2, hb2, hs2⟩ := seal_by w1 key H f g m
    rw [hw2]
    have HQ2 := Lib.hid (HQ.out.below hb2.drew (HQ.out.lt))
    have hb02 := (below2 hb1 hb2).drew
    have HF2 := Lib.hid (HF.out.below hb02 HF.out.2)
    have HA2 := Lib.hid hA2.drew
    have HS2 : Hid (w1.heap.size < w2.drew.heap.size) := Lib.hid hs2
    obtain ⟨wd, hwd⟩ : ∃ wd, w2.drew = wd := ⟨_, rfl⟩
    rw [hwd] at HQ2 hb02 HF2 HA2 HS2 ⊢
    obtain ⟨c0, c1, c2, c3, c4⟩ := five HA2.out
    clear hw2 hb1 hb2 hA2 hs2 hwd
    go_wp2_with fail
    refine (gctag_any key H f iv aad pc g m _ HF2.out HQ2.out HH.out HFI.out HM.out HA.out HPS.out).mono ?_
    rintro e w3 ⟨y, rfl, hy, hb3⟩
    have hys : y.size ≤ maxLen := by rw [← tl_size, hy, gcTag_length _ _ _ _ _ HM.out]; have := HM.out; unfold maxLen; omega
    have HY := Lib.hid hy
    have HYS := Lib.hid hys
    have hA3 := HA2.out.below hb3 HS2.out
    have hb03 := hb02.trans (hb3.mono hb02.size)
    clear c0 c1 c2 c3 c4 hy hys hb02 hb3
    obtain ⟨c0, c1, c2, c3, c4⟩ := five hA3
    clear hA3
    go_wp2_with fail
    refine (same_any tg y _ HTM.out HYS.out).mono ?_
    rintro e w4 ⟨rfl, n4, rfl⟩
    rw [HY.out, HB2.out]
    go_wp2_with fail
    go_ret2
    exact ret_se (tl_mk []) rfl rfl (below_dN9 hb03 _)
  · show Calls _ _ _ _ (RetSE (gcJoin key.toList iv.toList (gcCut text.toList (m : Int))) 0 w)
    go_enter Tryz.func33, Tryz.ntmps33
    go_wp2_with fail
    refine (B.out _ HF.out).mono ?_
    rintro e w1 ⟨g, H, f, hg, rfl, hH, hf, hQ, hb1⟩
    have HH := Lib.hid hH
    have HFI := Lib.hid hf
    have HQ := Lib.hid hQ
    clear hH hf hQ hg
    go_wp2_with fail
    go_region
    obtain ⟨w2, hw2, hA2, hb2, hs2⟩ := seal_by w1 key H f g m
    rw [hw2]
    have HQ2 := Lib.hid (HQ.out.below hb2.drew (HQ.out.lt))
    have hb02 := (below2 hb1 hb2).drew
    have HF2 := Lib.hid (HF.out.below hb02 HF.out.2)
    have HA2 := Lib.hid hA2.drew
    have HS2 : Hid (w1.heap.size < w2.drew.heap.size) := Lib.hid hs2
    obtain ⟨wd, hwd⟩ : ∃ wd, w2.drew = wd := ⟨_, rfl⟩
    rw [hwd] at HQ2 hb02 HF2 HA2 HS2 ⊢
    obtain ⟨c0, c1, c2, c3, c4⟩ := five HA2.out
    clear hw2 hb1 hb2 hA2 hs2 hwd
    go_wp2_with fail
    refine (gctag_any key H f iv aad pc g m _ HF2.out HQ2.out HH.out HFI.out HM.out HA.out HPS.out).mono ?_
    rintro e w3 ⟨y, rfl, hy, hb3⟩
    have hys : y.size ≤ maxLen := by rw [← tl_size, hy, gcTag_length _ _ _ _ _ HM.out]; have := HM.out; unfold maxLen; omega
    have HY := Lib.hid hy
    have HYS := Lib.hid hys
    have hA3 := HA2.out.below hb3 HS2.out
    have hb03 := hb02.trans (hb3.mono hb02.size)
    clear c0 c1 c2 c3 c4 hy hys hb02 hb3
    obtain ⟨c0, c1, c2, c3, c4⟩ := five hA3
    clear hA3
    go_wp2_with fail
    refine (same_any tg y _ HTM.out HYS.out).mono ?_
    rintro e w4 ⟨rfl, n4, rfl⟩
    rw [HY.out, HB2.out]
    go_wp2_with fail
    refine (gjoined_any key H f iv pc g m _ HFI.out HK.out HPS.out).mono ?_
    rintro e w5 ⟨x, rfl, hx, hb5⟩
    have HX := Lib.hid hx
    have hb04 := below_dN9 hb03 n4
    have hb05 := hb04.trans (hb5.mono hb04.size)
    clear c0 c1 c2 c3 c4 hx hb03 hb04 hb5
    go_wp2_with fail
    go_ret2
    exact ret_se HX.out (by rw [HPL.out]) rfl hb05
theorem gOpen_any (key iv aad text : ByteArray) (s : Int) (w : World) (hF : Fal w) : Calls Tryz.prog 33 #[.string key, .string iv, .string aad, .string text, .int .i64 s] w (RetSE (gcOpenL key.toList iv.toList aad.toList text.toList s) (gcOpenE key.toList iv.toList aad.toList text.toList s) w) := by
  obtain ⟨c, hc⟩ : ∃ c, gcE key.size iv.size aad.size s = c := ⟨_, rfl⟩
  rw [gcOpenL, gcOpenE, tl_size, tl_size, tl_size, tl_size]
  by_cases h0 : c = 0
  · subst h0
    obtain ⟨hk, v0, v1, s0, s1, ha⟩ := gcE_zero hc
    obtain ⟨m, rfl⟩ := Int.eq_ofNat_of_zero_le (a := s) (by omega)
    by_cases h1 : text.size < m
    · have hO : gcOE key.size iv.size aad.size (m : Int) text.size = 6 := by rw [gcOE, if_pos hc, if_pos (by omega)]
      have e6 : ¬ (6 : Int) = 0 := by decide
      rw [hO, if_neg e6, if_neg e6]
      exact gOpen_short key iv aad text m w hF hk (by omega) v1 (by omega) (by omega) ha h1
    · by_cases h2 : 70000 + m < text.size
      · have hO : gcOE key.size iv.size aad.size (m : Int) text.size = 6 := by rw [gcOE, if_pos hc, if_pos (by omega)]
        have e6 : ¬ (6 : Int) = 0 := by decide
        rw [hO, if_neg e6, if_neg e6]
        exact gOpen_long key iv aad text m w hF hk (by omega) v1 (by omega) (by omega) ha h2
      · have hO : gcOE key.size iv.size aad.size (m : Int) text.size = 0 := by rw [gcOE, if_pos hc, if_neg (by omega)]
        rw [hO, if_pos rfl, Int.toNat_natCast]
        obtain ⟨b, hb⟩ : ∃ b, (text.toList.drop (text.size - m) == gcTag key.toList iv.toList aad.toList (gcCut text.toList (m : Int)) m) = b := ⟨_, rfl⟩
        have h := gOpen_ok key iv aad text m b w hF hk (by omega) v1 (by omega) (by omega) ha (by omega) (by omega) hb
        cases b
        · have hne : ¬ gcTag key.toList iv.toList aad.toList (gcCut text.toList (m : Int)) m = text.toList.drop (text.size - m) := fun e => by rw [e, beq_self_eq_true] at hb; cases hb
          rw [if_neg hne, if_neg (by decide)]
          exact h
        · have he : gcTag key.toList iv.toList aad.toList (gcCut text.toList (m : Int)) m = text.toList.drop (text.size - m) := (eq_of_beq hb).symm
          rw [if_pos he, if_pos rfl]
          exact h
  · rw [gcOE_c hc h0, if_neg h0, if_neg h0]
    exact gOpen_first key iv aad text s c w hc h0
end
end Go.Proofs.YtflofbimecnakaaGreat
