/- The contracts of tag and joined: the program's. -/
import Derived.Test.YtflofbimecnakaaGreatGiC
namespace Go.Proofs.YtflofbimecnakaaGreat
open Go.RowKit
set_option linter.unusedVariables false
set_option linter.unusedSimpArgs false
section
variable [Inhabited Gh.Tw]
theorem gkq {w wa wb : World} {B o : Nat} {v : Value} (hb : Below wa.heap.size wa wb) (hS : wa.cell? ⟨B, o, none⟩ = some v ∧ B < wa.heap.size ∧ Below w.heap.size w wa ∧ Fal wa) :
    wb.cell? ⟨B, o, none⟩ = some v ∧ B < wb.heap.size ∧ Below w.heap.size w wb ∧ Fal wb :=
  ⟨(hb.cell (p := ⟨B, o, none⟩) hS.2.1).trans hS.1, Nat.lt_of_lt_of_le hS.2.1 hb.size, hS.2.2.1.trans (hb.mono hS.2.2.1.size), hS.2.2.2.below hb hS.2.2.2.2⟩
theorem gkqb {w wa : World} {B o : Nat} {v : Value} (hS : wa.cell? ⟨B, o, none⟩ = some v ∧ B < wa.heap.size ∧ Below w.heap.size w wa ∧ Fal wa) : Below w.heap.size w wa := hS.2.2.1
end
theorem seal_by (w : World) (key H f : ByteArray) (g m : Nat) : ∃ w0, w.alloc (Obj.cells #[.string key, .pointer (some ⟨g, 0, none⟩), .string H, .string f, .int .i64 (m : Int)] 80) = w0 ∧ At w0 w.heap.size 0 [.string key, .pointer (some ⟨g, 0, none⟩), .string H, .string f, .int .i64 (m : Int)] ∧ Below w.heap.size w w0 ∧ w.heap.size < w0.heap.size :=
  ⟨_, rfl, At.ofAlloc w #[.string key, .pointer (some ⟨g, 0, none⟩), .string H, .string f, .int .i64 (m : Int)] 80, (Below.refl _ _).alloc (Nat.le_refl _) _, by simp⟩
section
variable [Inhabited Gh.Tw]
set_option maxRecDepth 100000 in
set_option maxHeartbeats 6400000 in
theorem gctag_any (key H f V aad cipher : ByteArray) (g m : Nat) (w : World) (hF : Fal w) (hQ : Ciq w g key.toList) (hH : H.toList = gcH key.toList) (hf : f.toList = gcFirst key.toList V.toList) (hm : m ≤ 16) (ha : aad.size ≤ 70000) (hc : cipher.size ≤ 70000) :
    Calls Tryz.prog 37 #[.agg #[.string key, .pointer (some ⟨g, 0, none⟩), .string H, .string f, .int .i64 (m : Int)], .string aad, .string cipher] w (RetS (gcTag key.toList V.toList aad.toList cipher.toList m) w) := by
  have hHs : H.size = 16 := by rw [← tl_size, hH, gcH_length]
  have hfs : f.size = 16 := by rw [← tl_size, hf, gcFirst_length]
  have hwa := filM_w aad.toList
  have hwc := filM_w cipher.toList
  rw [tl_size] at hwa hwc
  have HWA := Lib.hid hwa
  have HWC := Lib.hid hwc
  have HHS := Lib.hid hHs
  have HFS := Lib.hid hfs
  have HH := Lib.hid hH
  have HFI := Lib.hid hf
  have HQ := Lib.hid hQ
  have HF := Lib.hid hF
  have k0 : (0 : Int) ≤ (m : Int) := by omega
  clear hHs hfs hwa hwc hH hf hQ hF
  go_enter Tryz.func37, Tryz.ntmps37
  go_wp2_with fail
  obtain ⟨w0, hw0, hA0, hb0, hs0⟩ := seal_by w key H f g m
  rw [hw0]
  have HA0 := Lib.hid hA0
  have HB0 := Lib.hid hb0
  have HS0 := Lib.hid (And.intro hs0 (HF.out.below hb0 HF.out.2))
  have HQ0 := Lib.hid (HQ.out.below hb0 HQ.out.lt)
  clear hw0 hA0 hb0 hs0
  go_wp2_with fail
  go_region_held3 (fun w' => w'.cell? ⟨w.heap.size, 2, none⟩ = some (.string H) ∧ w.heap.size < w'.heap.size ∧ Below w0.heap.size w0 w' ∧ Fal w') (first | exact gkq (by assumption) (by assumption) | exact ⟨(five HA0.out).2.2.1, HS0.out.1, (Below.refl _ _).drew, HS0.out.2⟩)
    (first
      | (go_at_call 44; have hxx := HXS.out; refine (gfilled_any cipher _ (by omega)).mono ?_; rintro e wy ⟨y, rfl, hy, hby⟩; have HY := Lib.hid hy; have HYS : Hid (y.size < cipher.size + 16) := (by show _ < _; rw [← tl_size, hy]; exact HWC.out.2.2); clear hy hxx; have z1 : ¬ 9223372036854775807 < x.size + y.size := (by have := HXS.out; have := HYS.out; omega))
      | (go_at_call 44; refine (gfilled_any aad _ (by omega)).mono ?_; rintro e wx ⟨x, rfl, hx, hbx⟩; have HX := Lib.hid hx; have HXS : Hid (x.size < aad.size + 16) := (by show _ < _; rw [← tl_size, hx]; exact HWA.out.2.2); clear hx)
      | (go_at_call 45; have hxx := HUS.out; refine (gbits_any cipher _ (by omega)).mono ?_; rintro e wv ⟨v, rfl, hv, hbv⟩; have HV := Lib.hid hv; have HVS : Hid (v.size = 8) := (by show _ = _; rw [← tl_size, hv, bitsL_length]); clear hv hxx; have z3 : ¬ 9223372036854775807 < x.size + y.size + u.size + v.size := (by have := HXS.out; have := HYS.out; have := HUS.out; have := HVS.out; omega))
      | (go_at_call 45; refine (gbits_any aad _ (by omega)).mono ?_; rintro e wu ⟨u, rfl, hu, hbu⟩; have HU := Lib.hid hu; have HUS : Hid (u.size = 8) := (by show _ = _; rw [← tl_size, hu, bitsL_length]); clear hu; have z2 : ¬ 9223372036854775807 < x.size + y.size + u.size := (by have := HXS.out; have := HYS.out; have := HUS.out; omega))
      | (go_at_call 43; have hall : (x ++ y ++ u ++ v).toList = gcAll aad.toList cipher.toList := (by rw [tl_append, tl_append, tl_append, HX.out, HY.out, HU.out, HV.out, gcAll, tl_size, tl_size]); have hal := gcAll_length aad.toList cipher.toList; rw [tl_size, tl_size] at hal; refine (gsumk H (x ++ y ++ u ++ v) HHS.out (by rw [hall]; exact hal.1) (by rw [hall]; omega) _ (gkf (by assumption))).mono ?_; rintro e wt ⟨t, rfl, ht, hbt⟩; have HT : Hid (t.toList = gsL (gcH key.toList) (gcAll aad.toList cipher.toList)) := (by show _ = _; rw [ht, hall, HH.out]); have HTS : Hid (t.size = 16) := (by show _ = _; rw [← tl_size, ht, gsL_length]); clear ht hall hal))
  all_goals
    have hbt0 : Below w0.heap.size w0 wt := gkqb (by assumption)
    have HAt := Lib.hid (HA0.out.below hbt0 HS0.out.1)
    have HQt := Lib.hid (HQ0.out.below hbt0 HQ0.out.lt)
    obtain ⟨c0, c1, c2, c3, c4⟩ := five HAt.out
    have HSt : Hid (w.heap.size < wt.heap.size) := Lib.hid (Nat.lt_of_lt_of_le HS0.out.1 hbt0.size)
    have HFt := Lib.hid (HS0.out.2.below hbt0 HS0.out.2.2)
    have hbwt : Below w.heap.size w wt := HB0.out.trans (hbt0.mono HB0.out.size)
    clear z1 z2 z3 hbx hby hbu hbv hbt hbt0
    go_wp2_with fail
    refine (enc_q f _ g _ HQt.out HFS.out).mono ?_
    rintro e w5 ⟨c, rfl, hcc, hQ5, hb5⟩
    have HC : Hid (c.toList = encL key.toList (gcFirst key.toList V.toList)) := by show _ = _; rw [hcc, HFI.out]
    have HCS : Hid (c.size = 16) := by show _ = _; rw [← tl_size, hcc, encL_length]
    have HA5 := Lib.hid (HAt.out.below hb5 HSt.out)
    have HS5 := Lib.hid (And.intro (Nat.lt_of_lt_of_le HSt.out hb5.size) (HFt.out.below hb5 HFt.out.2))
    have hb05 := hbwt.trans (hb5.mono hbwt.size)
    clear c0 c1 c2 c3 c4 hcc hQ5 hb5 hbwt
    go_wp2_with fail
    go_region_held3 (fun w' => w'.cell? ⟨w.heap.size, 4, none⟩ = some (.int .i64 (m : Int)) ∧ w.heap.size < w'.heap.size ∧ Below w5.heap.size w5 w' ∧ Fal w') (first | exact gkq (by assumption) (by assumption) | exact ⟨(five HA5.out).2.2.2.2, HS5.out.1, (Below.refl _ _).drew, HS5.out.2⟩)
      (first
        | (go_at_call 46; refine (xor_any t c _ (by rw [HTS.out]; decide) (by rw [HCS.out]; decide)).mono ?_; rintro e w6 ⟨q, rfl, hq, hb6⟩; have hqs : q.size = 16 := (by rw [← tl_size, hq, xorL_length, tl_size, tl_size, HTS.out, HCS.out]; rfl); have k1 : (m : Int) ≤ (q.size : Int) := (by omega); have k2 : m ≤ q.size := (by omega); have HQQ := Lib.hid hq; clear hq hqs))
    have hb56 : Below w5.heap.size w5 w6 := gkqb (by assumption)
    clear hb6
    go_wp2_with fail
    go_ret
    exact ⟨_, rfl, by rw [tl_ext0, HQQ.out, HT.out, HC.out, gcTag], hb05.trans (hb56.mono hb05.size)⟩
set_option maxRecDepth 100000 in
set_option maxHeartbeats 3200000 in
theorem gjoined_any (key H f V text : ByteArray) (g m : Nat) (w : World) (hf : f.toList = gcFirst key.toList V.toList) (hk : key.size = 16 ∨ key.size = 24 ∨ key.size = 32) (ht : text.size ≤ 70000) :
    Calls Tryz.prog 38 #[.agg #[.string key, .pointer (some ⟨g, 0, none⟩), .string H, .string f, .int .i64 (m : Int)], .string text] w (RetS (gcJoin key.toList V.toList text.toList) w) := by
  have hfs : f.size = 16 := by rw [← tl_size, hf, gcFirst_length]
  have hm : mayE f.size 4 = 0 := by rw [mayE, if_pos hfs, if_neg (by decide)]
  have hn : nextL f.toList 4 1 = nxt f.toList 4 1 := by rw [nextL, tl_size, hm, if_pos rfl]; rfl
  have HFS := Lib.hid hfs
  have HFI := Lib.hid hf
  have HM := Lib.hid hm
  have HN := Lib.hid hn
  have HK := Lib.hid hk
  have HTT := Lib.hid ht
  clear hfs hf hm hn hk ht
  go_enter Tryz.func38, Tryz.ntmps38
  go_wp2_with fail
  obtain ⟨w0, hw0, hA0, hb0, hs0⟩ := seal_by w key H f g m
  rw [hw0]
  obtain ⟨c0, c1, c2, c3, c4⟩ := five hA0
  refine (cnext_any f 4 1 _ (by decide)).mono ?_
  rintro e w1 ⟨x, rfl, hx, hb1⟩
  rw [HM.out]
  rw [HN.out] at hx
  have hxs : x.size = 16 := by rw [← tl_size, hx, nxt_length _ _ _ (by rw [tl_size]; exact HFS.out)]
  have hA1 := hA0.below hb1 hs0
  have hb01 := hb0.trans (hb1.mono hb0.size)
  have HX := Lib.hid hx
  have HXS := Lib.hid hxs
  clear c0 c1 c2 c3 c4 hw0 hA0 hb0 hs0 hb1 hx hxs
  obtain ⟨c0, c1, c2, c3, c4⟩ := five hA1
  clear hA1
  go_wp2_with fail
  have hm2 : mayE x.size 4 = 0 := by rw [mayE, if_pos HXS.out, if_neg (by decide)]
  have hE : ctrE key.size x.size 4 text.size = 0 := by rw [ctrE, if_pos (keyOk_yes HK.out), if_pos hm2, if_neg (by have := HTT.out; omega)]
  refine (cxor_any key x text 4 _).mono ?_
  rintro e w2 ⟨t, rfl, ht, hb2⟩
  rw [hE]
  have HT : Hid (t.toList = gcJoin key.toList V.toList text.toList) := by show _ = _; rw [ht, ctrR, tl_size, tl_size, tl_size, hE, if_pos rfl, HX.out, HFI.out]; rfl
  have hb02 := hb01.trans (hb2.mono hb01.size)
  clear hE hm2 ht hb2 c0 c1 c2 c3 c4
  go_wp2_with fail
  go_ret
  exact ⟨_, rfl, HT.out, hb02⟩
end
end Go.Proofs.YtflofbimecnakaaGreat
