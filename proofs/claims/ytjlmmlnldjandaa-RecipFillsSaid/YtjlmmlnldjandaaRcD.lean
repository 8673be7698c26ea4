/- The document's Unlock. -/
import Derived.Test.YtjlmmlnldjandaaRcC
namespace Go.Proofs.Ytjlmmlnldjandaa
open Go.RowKit
set_option linter.unusedVariables false
set_option linter.unusedSimpArgs false
set_option maxRecDepth 100000 in
set_option maxHeartbeats 1600000 in
theorem rrcUnlock_first (key iv text : ByteArray) (w : World) (h0 : wroE key.size iv.size ≠ 0) : Calls Try.prog 15 #[.string key, .string iv, .string text] w (RetSE [] (wroE key.size iv.size) w) := by
  have MY := Lib.hid (fun w => rcWrong_any key iv w)
  obtain ⟨c, hc⟩ : ∃ c, wroE key.size iv.size = c := ⟨_, rfl⟩
  rw [hc] at MY h0 ⊢
  have e1 : (c != 0) = true := by rw [bne_iff_ne]; exact h0
  clear hc h0
  go_enter Try.func15, Try.ntmps15
  go_wp2_with fail
  refine (MY.out _).mono ?_
  rintro e w1 ⟨rfl, rfl⟩
  go_wp2_with fail
  go_ret2
  exact ret_se (tl_mk []) rfl rfl (Below.refl _ _)
set_option maxRecDepth 100000 in
set_option maxHeartbeats 1600000 in
theorem rrcUnlock_size (key iv text : ByteArray) (hz : text.size ≤ 140737488351232) (w : World) (h0 : wroE key.size iv.size = 0) (hf : unlFit text.size = false) : Calls Try.prog 15 #[.string key, .string iv, .string text] w (RetSE [] 6 w) := by
  have MY := Lib.hid (fun w => rcWrong_any key iv w)
  rw [h0] at MY
  obtain ⟨r, hr⟩ : ∃ r, text.size % 16 = r := ⟨_, rfl⟩
  have e3 : (text.size : Int).tmod 16 = (r : Int) := tmod_nat text.size 16 r hr.symm
  have e4 : IntKind.i64.wrap (r : Int) = (r : Int) := wrap_in _ (by omega) (by omega)
  by_cases hr0 : r = 0
  · subst hr0
    by_cases h32 : text.size < 32
    · have e5 : (text.size : Int) < 32 := by omega
      clear h0 hf hr h32 hz
      go_enter Try.func15, Try.ntmps15
      go_wp2_with fail
      refine (MY.out _).mono ?_
      rintro e w1 ⟨rfl, rfl⟩
      go_wp2_with fail
      go_ret2
      exact ret_se (tl_mk []) rfl rfl (Below.refl _ _)
    · have e5 : ¬ (text.size : Int) < 32 := by omega
      have e6 : (272 : Int) < (text.size : Int) := by
        have := of_decide_eq_false hf
        omega
      clear h0 hf hr h32 hz
      go_enter Try.func15, Try.ntmps15
      go_wp2_with fail
      refine (MY.out _).mono ?_
      rintro e w1 ⟨rfl, rfl⟩
      go_wp2_with fail
      go_ret2
      exact ret_se (tl_mk []) rfl rfl (Below.refl _ _)
  · have e5 : ((r : Int) != 0) = true := by rw [bne_iff_ne]; omega
    clear h0 hf hr hr0 hz
    go_enter Try.func15, Try.ntmps15
    go_wp2_with fail
    refine (MY.out _).mono ?_
    rintro e w1 ⟨rfl, rfl⟩
    go_wp2_with fail
    go_ret2
    exact ret_se (tl_mk []) rfl rfl (Below.refl _ _)
theorem unl1_eq (K T : List UInt8) (J : Nat) (hw : wroE K.length 16 = 0) (ht : T.length = 16 * (J + 2)) : unl1 K T = xorL (decL K (blkL T (J + 1))) (blkL T J) := by
  have hd1 : ((T.drop (T.length - 32)).take 16).length = 16 := by rw [List.length_take, List.length_drop]; omega
  have hd2 : (T.drop (T.length - 16)).length = 16 := by rw [List.length_drop]; omega
  rw [unl1, uchL, hd1, hd2, if_pos (wro_cbg hw (by omega) (by omega)), show 16 / 16 = 1 from rfl]
  show [] ++ xorL (decL K (blkL (T.drop (T.length - 16)) 0)) ((T.drop (T.length - 32)).take 16) = _
  rw [List.nil_append, blkL, blkL, blkL, Nat.mul_zero, List.drop_zero, show T.length - 16 = 16 * (J + 1) by omega, show T.length - 32 = 16 * J by omega]
theorem unl2_eq (K V T : List UInt8) (hw : wroE K.length V.length = 0) (hf : unlFit T.length = true) : uchL K (unl1 K T) T = unS K (unl1 K T) T (T.length / 16) := by
  obtain ⟨h1, h2, h3⟩ := of_decide_eq_true hf
  rw [uchL, (unl_lengths K V T hw hf).1, if_pos (wro_cbg (wro_key hw) h1 (by omega))]
/-- the test that Unlock makes at the end -/
theorem unl_test (S : List UInt8) (n : Nat) (hn : unlN S = n) (h3 : 3 ≤ n) (hl : S.length = laidN n) (x y : ByteArray) (hx : x.toList = xorL ((S.drop 4).take 3) fffL) (hy : y.toList = (S.drop 1).take 3) : (x.toList != y.toList) = !(unlOk S) ∧ (unlOk S = true → x = y) ∧ (unlOk S = false → x ≠ y) := by
  rw [unlOk, hn]
  by_cases he : (S.drop 1).take 3 = xorL ((S.drop 4).take 3) fffL
  · rw [decide_eq_true ⟨h3, hl, he⟩]
    refine ⟨?_, fun _ => tl_inj (by rw [hx, hy, he]), fun h => by cases h⟩
    rw [hx, hy, he, bne_self_eq_false]; rfl
  · rw [decide_eq_false (fun h => he h.2.2)]
    refine ⟨?_, (fun h => by cases h), fun _ h => he (by rw [← hx, ← hy, h])⟩
    show (x.toList != y.toList) = true
    rw [bne_iff_ne, hx, hy]
    exact fun h => he h.symm
set_option maxRecDepth 100000 in
set_option maxHeartbeats 6400000 in
theorem rrcUnlock_fit (key iv text : ByteArray) (w : World) (h0 : wroE key.size iv.size = 0) (hf : unlFit text.size = true) : Calls Try.prog 15 #[.string key, .string iv, .string text] w (RetSE (if unlOk (unl2 key.toList iv.toList text.toList) then ((unl2 key.toList iv.toList text.toList).drop 4).take (unlN (unl2 key.toList iv.toList text.toList)) else []) (if unlOk (unl2 key.toList iv.toList text.toList) then 0 else 8) w) := by
  have MY := Lib.hid (fun w => rcWrong_any key iv w)
  rw [h0] at MY
  obtain ⟨h1, h2, h3⟩ := of_decide_eq_true hf
  obtain ⟨hk, hv⟩ := wro_zero h0
  have hw1 : wroE key.toList.length iv.toList.length = 0 := by rw [tl_size, tl_size]; exact h0
  obtain ⟨hl1, hl2, hl3⟩ := unl_lengths key.toList iv.toList text.toList hw1 (by rw [tl_size]; exact hf)
  have hU2 := unl2_eq key.toList iv.toList text.toList hw1 (by rw [tl_size]; exact hf)
  obtain ⟨S, hS⟩ : ∃ S, unl2 key.toList iv.toList text.toList = S := ⟨_, rfl⟩
  rw [tl_size, hS] at hl3
  rw [hS]
  obtain ⟨R, hR⟩ : ∃ R, (if unlOk S then (S.drop 4).take (unlN S) else []) = R := ⟨_, rfl⟩
  obtain ⟨cc, hcc⟩ : ∃ c : Int, (if unlOk S then (0 : Int) else 8) = c := ⟨_, rfl⟩
  rw [hR, hcc]
  have HR := Lib.hid (And.intro hR hcc)
  clear hR hcc
  obtain ⟨J2, hJ2⟩ : ∃ J2, text.size = 16 * (J2 + 2) := ⟨text.size / 16 - 2, by omega⟩
  obtain ⟨J, hJ⟩ : ∃ J, J = J2 + 2 := ⟨_, rfl⟩
  have hU1 := unl1_eq key.toList text.toList J2 (wro_key hw1) (by rw [tl_size]; exact hJ2)
  have hdiv : text.size / 16 = J := by omega
  rw [tl_size, hdiv] at hU2
  have e3 : (text.size : Int).tmod 16 = ((0 : Nat) : Int) := tmod_nat text.size 16 0 h1.symm
  have e5 : ¬ (text.size : Int) < 32 := by omega
  have e6 : ¬ (272 : Int) < (text.size : Int) := by omega
  obtain ⟨J1, hJ1⟩ : ∃ J1, J1 = J2 + 1 := ⟨_, rfl⟩
  have p1 : (J : Int) - 1 = (J1 : Int) := by omega
  have p2 : (J : Int) - 2 = (J2 : Int) := by omega
  have p3 : IntKind.i64.wrap (J1 : Int) = (J1 : Int) := wrap_in _ (by omega) (by omega)
  have p4 : IntKind.i64.wrap (J2 : Int) = (J2 : Int) := wrap_in _ (by omega) (by omega)
  have p5 : (0 : Int) ≤ (J1 : Int) := by omega
  have p6 : (0 : Int) ≤ (J2 : Int) := by omega
  have p7 : (J1 : Int) < (J : Int) := by omega
  have p8 : (J2 : Int) < (J : Int) := by omega
  have p9 : J1 < J := by omega
  have p10 : J2 < J := by omega
  have hbs : ∀ i, i < J → (blkB text i).size = 16 := fun i hi => blkB_size _ i (by omega)
  have HBS := Lib.hid hbs
  have hK : Hid (key.toList.length = 16 ∨ key.toList.length = 24 ∨ key.toList.length = 32) := by rw [tl_size]; exact hk
  have HL := Lib.hid (And.intro hl3 (And.intro h2 h3))
  have HJ := Lib.hid (And.intro hJ (And.intro hJ1 hJ2))
  have HDV := Lib.hid hdiv
  have HU1 := Lib.hid hU1
  have HU2 := Lib.hid hU2
  have HL1 := Lib.hid hl1
  have HS := Lib.hid hS
  clear h0 hf h1 h2 h3 hl1 hl2 hl3 hS hU1 hU2 hw1 hv hJ hJ1 hJ2 hdiv hbs
  go_enter Try.func15, Try.ntmps15
  go_wp2_with fail
  refine (MY.out _).mono ?_
  rintro e w0 ⟨rfl, rfl⟩
  go_wp2_with fail
  refine (rnew_any key _ hk).mono ?_
  rintro e w1 ⟨g, hg, rfl, hB, hb1⟩
  go_wp2_with fail
  refine (rblocks_any text _ (by have := HL.out; omega)).mono ?_
  rintro e w2 ⟨v, rfl, hown, hb2⟩
  rw [blksB_length, HDV.out] at hown
  obtain ⟨ad, cp, rfl, had⟩ := own_formS hown
  obtain ⟨gl, rfl⟩ := had (by omega)
  have hb12 := hb1.trans (hb2.mono hb1.size)
  have HB := Lib.hid (hB.below hb2 (Nat.le_refl _))
  have HO := Lib.hid hown
  have hgl0 : gl < w2.heap.size := (hown.lt gl rfl).2
  obtain ⟨b1, hb1e⟩ : ∃ b, blkB text J1 = b := ⟨_, rfl⟩
  obtain ⟨b2, hb2e⟩ : ∃ b, blkB text J2 = b := ⟨_, rfl⟩
  have HC : Hid (w2.drew.cell? ⟨gl, J1, none⟩ = some (.string b1) ∧ w2.drew.cell? ⟨gl, J2, none⟩ = some (.string b2)) := ⟨scell hown J1 b1 (by rw [← hb1e]; exact blksB_get _ J J1 p9), scell hown J2 b2 (by rw [← hb2e]; exact blksB_get _ J J2 p10)⟩
  have HBS1 : Hid (b1.size = 16 ∧ b2.size = 16) := ⟨by rw [← hb1e]; exact HBS.out _ p9, by rw [← hb2e]; exact HBS.out _ p10⟩
  have HBL : Hid (b1.toList = blkL text.toList J1 ∧ b2.toList = blkL text.toList J2) := ⟨by rw [← hb1e, blkB_tl], by rw [← hb2e, blkB_tl]⟩
  have HBX : Hid (Box w2.drew g key.toList) := HB.out.below (Below.refl w2.heap.size w2).drew (Nat.le_refl _)
  clear hown had hB hb1 hb2 hb1e hb2e
  go_wp2_with fail
  go_region_held3 (fun w' => w'.cell? ⟨gl, J1, none⟩ = some (.string b1) ∧ w'.cell? ⟨gl, J2, none⟩ = some (.string b2)) (first | exact HC4.out | exact HC3.out | exact HC.out) (first | (go_at_call 28; refine (rdecrypt_any b1 _ g key.toList HBX.out hK.out HBS1.out.1).mono ?_; rintro e w3 ⟨x, rfl, hx, hb3⟩; have HX := Lib.hid hx; have HBL3 := Lib.hid ((Below.refl w2.heap.size w2).drew.trans hb3); have HC3 : Hid (w3.cell? ⟨gl, J1, none⟩ = some (.string b1) ∧ w3.cell? ⟨gl, J2, none⟩ = some (.string b2)) := Lib.hid ⟨(hb3.cell (p := ⟨gl, J1, none⟩) hgl0).trans HC.out.1, (hb3.cell (p := ⟨gl, J2, none⟩) hgl0).trans HC.out.2⟩; have HXZ : Hid (x.size ≤ 140737488351232) := (by show _ ≤ _; rw [← tl_size, HX.out, decL_length]; decide); have hgl3 : gl < w3.heap.size := Nat.lt_of_lt_of_le hgl0 hb3.size; clear hx) | (go_at_call 21; refine (rxor_any x b2 _ HXZ.out (by have := HBS1.out; omega)).mono ?_; rintro e w4 ⟨y, rfl, hy, hb4⟩; have HC4 : Hid (w4.cell? ⟨gl, J1, none⟩ = some (.string b1) ∧ w4.cell? ⟨gl, J2, none⟩ = some (.string b2)) := Lib.hid ⟨(hb4.cell (p := ⟨gl, J1, none⟩) hgl3).trans HC3.out.1, (hb4.cell (p := ⟨gl, J2, none⟩) hgl3).trans HC3.out.2⟩; have HBL4 := Lib.hid (HBL3.out.trans (hb4.mono HBL3.out.size)); have HY : Hid (y.toList = unl1 key.toList text.toList) := (by show _ = _; rw [hy, HX.out, HBL.out.1, HBL.out.2, HU1.out, HJ.out.2.1]); clear hy))
  clear HC HC3 HC4 HBX
  go_wp2_with fail
  go_loopw [12, 13] (fun vs vi wr => ∃ (i : Nat) (inn : ByteArray), vs = .string inn ∧ vi = .int .i64 (i : Int) ∧ i ≤ J ∧ inn.toList = unS key.toList (unl1 key.toList text.toList) text.toList i ∧ Below w2.heap.size w2 wr) (fun _ vi _ => J - (intOf vi).toNat)
  case atStart => exact ⟨0, _, rfl, rfl, Nat.zero_le _, tl_mk [], HBL4.out⟩
  case round =>
    clear HBL4 HBL3
    obtain ⟨i, inn, rfl, rfl, hi, hinn, hbel⟩ := hrel
    have HIN := Lib.hid hinn
    have hinz : inn.size = 16 * i := by rw [← tl_size, hinn, unS_length _ _ _ HL1.out _ (by rw [tl_size, HJ.out.2.2]; have := HJ.out.1; omega)]
    clear hinn
    by_cases hlt : i < J
    · have hltI : (i : Int) < (J : Int) := by omega
      have q0 : (0 : Int) ≤ (i : Int) := by omega
      obtain ⟨c1, hc1e⟩ : ∃ b, blkB text i = b := ⟨_, rfl⟩
      have hc1 : wr.cell? ⟨gl, i, none⟩ = some (.string c1) := scell (own_below HO.out hbel (Nat.le_refl _)) i c1 (by rw [← hc1e]; exact blksB_get _ J i hlt)
      have HC1 : Hid (c1.size = 16 ∧ c1.toList = blkL text.toList i) := ⟨by rw [← hc1e]; exact HBS.out _ hlt, by rw [← hc1e, blkB_tl]⟩
      have HBX : Hid (Box wr g key.toList) := HB.out.below hbel (Nat.le_refl _)
      have HBE := Lib.hid hbel
      have q1 : ∀ z : ByteArray, z.size = 16 → ¬ 9223372036854775807 < inn.size + z.size := fun z hz => by have h1 := HJ.out; have h2 := HL.out; omega
      have HQ1 := Lib.hid q1
      have HLT := Lib.hid (And.intro hlt hinz)
      by_cases hi0 : i = 0
      · have z0 : ¬ (0 : Int) < (i : Int) := by omega
        have HI0 := Lib.hid hi0
        clear hc1e hbel hi hi0 hinz q1
        go_wp2_with fail
        refine (rdecrypt_any c1 _ g key.toList HBX.out hK.out HC1.out.1).mono ?_
        rintro e w3 ⟨x, rfl, hx, hb3⟩
        have hxz : x.size = 16 := by rw [← tl_size, hx, decL_length]
        have hb03 := HBE.out.trans (hb3.mono HBE.out.size)
        have HXX := Lib.hid (And.intro hx hxz)
        clear hx hxz hb3
        go_wp2_with fail
        refine (rxor_any x y _ (by have := HXX.out.2; omega) (by rw [← tl_size, HY.out, HL1.out]; decide)).mono ?_
        rintro e w4 ⟨z, rfl, hz, hb4⟩
        rw [HXX.out.1, HC1.out.2, HY.out] at hz
        have hzz : z.size = 16 := by rw [← tl_size, hz, xorL_length, decL_length, HL1.out]; rfl
        have hov := HQ1.out z hzz
        have hb04 := hb03.trans (hb4.mono hb03.size)
        have HZZ := Lib.hid (And.intro hz hzz)
        clear hz hzz hb4 hb03
        go_wp2_with fail
        go_roundw
        case rel => exact ⟨i + 1, _, rfl, by have h1 := HLT.out.1; have h2 := HJ.out; have h3 := HL.out; go_num, HLT.out.1, by rw [tl_append, HIN.out, HZZ.out.1, HI0.out]; rfl, hb04⟩
        case measure => have := HLT.out.1; simp [intOf]; omega
      · have z0 : (0 : Int) < (i : Int) := by omega
        obtain ⟨i1, hi1⟩ : ∃ i1, i = i1 + 1 := ⟨i - 1, by omega⟩
        have z1 : (i : Int) - 1 = (i1 : Int) := by omega
        have z2 : IntKind.i64.wrap (i1 : Int) = (i1 : Int) := wrap_in _ (by omega) (by have := HJ.out; have := HL.out; omega)
        have z3 : (0 : Int) ≤ (i1 : Int) := by omega
        have z9 : IntKind.i64.wrap ((i : Int) + 1) = (i : Int) + 1 := wrap_in _ (by omega) (by have := HJ.out; have := HL.out; omega)
        have z4 : (i1 : Int) < (J : Int) := by omega
        have z5 : i1 < J := by omega
        obtain ⟨c2, hc2e⟩ : ∃ b, blkB text i1 = b := ⟨_, rfl⟩
        have hc2 : wr.cell? ⟨gl, i1, none⟩ = some (.string c2) := scell (own_below HO.out hbel (Nat.le_refl _)) i1 c2 (by rw [← hc2e]; exact blksB_get _ J i1 z5)
        have HC2 : Hid (c2.size = 16 ∧ c2.toList = blkL text.toList i1) := ⟨by rw [← hc2e]; exact HBS.out _ z5, by rw [← hc2e, blkB_tl]⟩
        have HI1 := Lib.hid hi1
        clear hc1e hc2e hbel hi hi0 hinz q1 hi1
        go_wp2_with fail
        refine (rdecrypt_any c1 _ g key.toList HBX.out hK.out HC1.out.1).mono ?_
        rintro e w3 ⟨x, rfl, hx, hb3⟩
        have hxz : x.size = 16 := by rw [← tl_size, hx, decL_length]
        have hb03 := HBE.out.trans (hb3.mono HBE.out.size)
        have HXX := Lib.hid (And.intro hx hxz)
        clear hx hxz hb3
        go_wp2_with fail
        refine (rxor_any x c2 _ (by have := HXX.out.2; omega) (by have := HC2.out.1; omega)).mono ?_
        rintro e w4 ⟨z, rfl, hz, hb4⟩
        rw [HXX.out.1, HC1.out.2, HC2.out.2] at hz
        have hzz : z.size = 16 := by
          rw [← tl_size, hz, xorL_length, decL_length, blkL_length _ _ (by rw [tl_size, HJ.out.2.2]; have := HJ.out.1; omega)]; rfl
        have hov := HQ1.out z hzz
        have hb04 := hb03.trans (hb4.mono hb03.size)
        have HZZ := Lib.hid (And.intro hz hzz)
        clear hz hzz hb4 hb03
        go_wp2_with fail
        go_roundw
        case rel => exact ⟨i + 1, _, rfl, by have h1 := HLT.out.1; have h2 := HJ.out; have h3 := HL.out; go_num, HLT.out.1, by rw [tl_append, HIN.out, HZZ.out.1, HI1.out]; rfl, hb04⟩
        case measure => have := HLT.out.1; simp [intOf]; omega
    · have hiJ : i = J := by omega
      subst hiJ
      have hltI : ¬ (i : Int) < (i : Int) := by omega
      have hinn : inn.toList = uchL key.toList (unl1 key.toList text.toList) text.toList := by rw [HIN.out, HU2.out]
      have UC := Lib.hid (fun w => rUnchain_any key iv inn w)
      have hb02 := hb12.trans (hbel.mono hb12.size)
      clear hi hbel hlt
      go_wp2_with fail
      refine (UC.out _).mono ?_
      rintro e w5 ⟨laid, rfl, hlaid, hb5⟩
      have hls : laid.toList = S := by rw [hlaid, hinn, ← HS.out]; rfl
      have hb05 := hb02.trans (hb5.mono hb02.size)
      have hsz : laid.size = text.size := by rw [← tl_size, hls, HL.out.1]
      have hl0 : 0 < laid.size := by have := HL.out; omega
      have hl0I : (0 : Int) < (laid.size : Int) := by omega
      obtain ⟨n, hn⟩ : ∃ n, laid[0].toNat = n := ⟨_, rfl⟩
      have hn255 : n < 256 := by rw [← hn]; exact laid[0].toNat_lt
      have hN : unlN S = n := by rw [unlN, ← hls, ← hn]; congr 1; exact at0_tl laid 0 hl0
      have q1 : IntKind.i64.wrap (n : Int) = (n : Int) := wrap_in _ (by omega) (by omega)
      have HLS := Lib.hid hls
      have HNN := Lib.hid hN
      have HSZ := Lib.hid hsz
      have FI := rrcFill_any (n : Int) w5
      unfold RetFl at FI
      clear hlaid hls hb02 hb5 hsz hN UC hinn hinz
      by_cases hn3 : n < 3
      · have HUN : Hid (unlOk S = false) := by show _ = _; rw [unlOk, decide_eq_false_iff_not, HNN.out]; omega
        obtain ⟨c6, hc6⟩ : ∃ c6, fillE (n : Int) = c6 := ⟨_, rfl⟩
        have e60 : (c6 != 0) = true := by rw [bne_iff_ne, ← hc6, fillE, if_neg (by omega)]; decide
        rw [hc6] at FI
        clear hc6
        clear hn3 hn255
        go_wp2_with fail
        refine FI.mono ?_
        rintro e w6 ⟨rfl, rfl⟩
        go_wp2_with fail
        go_region
        go_wp2_with fail
        go_ret2
        exact ret_se (tl_mk []) (by rw [← HR.out.1, HUN.out]; rfl) (by rw [← HR.out.2, HUN.out]; rfl) hb05.drew
      · obtain ⟨f1, f2⟩ := fill_yes (t := n) (by omega) (by omega)
        obtain ⟨c0, hc0⟩ : ∃ c0, fillE (n : Int) = c0 := ⟨_, rfl⟩
        have e60 : (c0 != 0) = false := by rw [bne_eq_false_iff_eq, ← hc0, f1]
        rw [hc0, f2] at FI
        clear hc0
        obtain ⟨k, hk2⟩ : ∃ k, fillN n = k := ⟨_, rfl⟩
        obtain ⟨m, hm⟩ : ∃ m, m = 4 + n := ⟨_, rfl⟩
        obtain ⟨l, hl⟩ : ∃ l, l = m + k := ⟨_, rfl⟩
        have hll : l = laidN n := by rw [hl, hm, ← hk2, fill_sum]
        have hge := laidN_ge n
        have h272 := hge.2.2.2 (by omega)
        rw [hk2] at FI
        have s1 : 4 + (n : Int) = (m : Int) := by omega
        have s2 : IntKind.i64.wrap (m : Int) = (m : Int) := wrap_in _ (by omega) (by omega)
        have t1 : (m : Int) + (k : Int) = (l : Int) := by omega
        have t2 : IntKind.i64.wrap (l : Int) = (l : Int) := wrap_in _ (by omega) (by omega)
        by_cases hne : laid.size = l
        · have r2 : ((laid.size : Int) != (l : Int)) = false := by rw [bne_eq_false_iff_eq]; omega
          have s3 : (4 : Int) ≤ (m : Int) := by omega
          have s4 : (m : Int) ≤ (laid.size : Int) := by omega
          have s5 : 4 ≤ m := by omega
          have s6 : m ≤ laid.size := by omega
          have s7 : (4 : Int) ≤ (laid.size : Int) := by omega
          have s8 : 4 ≤ laid.size := by omega
          have s9 : (7 : Int) ≤ (laid.size : Int) := by omega
          have s10 : 7 ≤ laid.size := by omega
          obtain ⟨o1, ho1⟩ : ∃ o1, laid.extract 4 m = o1 := ⟨_, rfl⟩
          obtain ⟨o2, ho2⟩ : ∃ o2, laid.extract 1 4 = o2 := ⟨_, rfl⟩
          obtain ⟨o3, ho3⟩ : ∃ o3, laid.extract 4 7 = o3 := ⟨_, rfl⟩
          have ho1l : o1.toList = (S.drop 4).take n := by rw [← ho1, tl_ext, HLS.out, hm, Nat.add_sub_cancel_left]
          have ho2l : o2.toList = (S.drop 1).take 3 := by rw [← ho2, tl_ext, HLS.out]
          have ho3l : o3.toList = (S.drop 4).take 3 := by rw [← ho3, tl_ext, HLS.out]
          have ho3s : o3.size ≤ 3 := by rw [← tl_size, ho3l, List.length_take]; omega
          have HT := Lib.hid (fun x hx => unl_test S n HNN.out (by omega) (by rw [← HLS.out, tl_size, hne, hll]) x o2 hx ho2l)
          have HO1 := Lib.hid (And.intro ho1l (And.intro ho3l ho3s))
          obtain ⟨u, hun⟩ : ∃ u, unlOk S = u := ⟨_, rfl⟩
          rw [hun] at HT
          have HUN := Lib.hid hun
          clear hun
          clear hn3 hn255 hk2 hm hl hll hge h272 hne ho1l ho2l ho3l ho3s f1 f2
          cases u
          · go_wp2_with fail
            refine FI.mono ?_
            rintro e w6 ⟨rfl, rfl⟩
            go_wp2_with fail
            go_region_held3 (fun _ => True) (trivial) (first | (go_at_call 21; refine (rxor_any o3 (ByteArray.mk #[255, 255, 255]) _ (by have := HO1.out.2.2; omega) (by decide)).mono ?_; rintro e w7 ⟨x, rfl, hx, hb7⟩; rw [HO1.out.2.1, show (ByteArray.mk #[255, 255, 255]).toList = fffL from tl_mk fffL] at hx; have htt := HT.out x hx; have ht1 : (x.toList != o2.toList) = true := htt.1; have ht2 : x ≠ o2 := htt.2.2 trivial; have ht3 : (x.toList == o2.toList) = false := (by rw [beq_eq_false_iff_ne]; exact fun h => ht2 (tl_inj h)); have hb07 := hb05.drew.trans (hb7.mono hb05.size); clear hx htt))
            go_wp2_with fail
            go_ret2
            exact ret_se (tl_mk []) (by rw [← HR.out.1, HUN.out]; rfl) (by rw [← HR.out.2, HUN.out]; rfl) hb07
          · go_wp2_with fail
            refine FI.mono ?_
            rintro e w6 ⟨rfl, rfl⟩
            go_wp2_with fail
            go_region_held3 (fun _ => True) (trivial) (first | (go_at_call 21; refine (rxor_any o3 (ByteArray.mk #[255, 255, 255]) _ (by have := HO1.out.2.2; omega) (by decide)).mono ?_; rintro e w7 ⟨x, rfl, hx, hb7⟩; rw [HO1.out.2.1, show (ByteArray.mk #[255, 255, 255]).toList = fffL from tl_mk fffL] at hx; have htt := HT.out x hx; have ht1 : (x.toList != o2.toList) = false := htt.1; have ht2 : x = o2 := htt.2.1 trivial; have ht3 : (x.toList == o2.toList) = true := (by rw [ht2, beq_self_eq_true]);  have hb07 := hb05.drew.trans (hb7.mono hb05.size); clear hx htt))
            go_wp2_with fail
            go_ret2
            exact ret_se HO1.out.1 (by rw [← HR.out.1, HUN.out, HNN.out]; rfl) (by rw [← HR.out.2, HUN.out]; rfl) hb07
        · have HUN : Hid (unlOk S = false) := by show _ = _; rw [unlOk, decide_eq_false_iff_not, HNN.out, ← HLS.out, tl_size, ← hll]; exact fun h => hne h.2.1
          have r2 : ((laid.size : Int) != (l : Int)) = true := by rw [bne_iff_ne]; omega
          clear hne hn3 hl hn255 hk2 hm hll hge h272 f1 f2
          go_wp2_with fail
          refine FI.mono ?_
          rintro e w6 ⟨rfl, rfl⟩
          go_wp2_with fail
          go_region
          go_wp2_with fail
          go_ret2
          exact ret_se (tl_mk []) (by rw [← HR.out.1, HUN.out]; rfl) (by rw [← HR.out.2, HUN.out]; rfl) hb05.drew
theorem rrcUnlock_any (key iv text : ByteArray) (hz : text.size ≤ 140737488351232) (w : World) : Calls Try.prog 15 #[.string key, .string iv, .string text] w (RetSE (unlL key.toList iv.toList text.toList) (unlE key.toList iv.toList text.toList) w) := by
  rw [unlL, unlE, tl_size, tl_size, tl_size]
  by_cases h0 : wroE key.size iv.size = 0
  · rw [if_pos h0]
    by_cases hf : unlFit text.size = true
    · rw [if_pos hf]
      have h := rrcUnlock_fit key iv text w h0 hf
      cases hk : unlOk (unl2 key.toList iv.toList text.toList) <;> rw [hk] at h <;> exact h
    · rw [if_neg hf, if_neg (by decide)]
      exact rrcUnlock_size key iv text hz w h0 (by simpa using hf)
  · rw [if_neg h0, if_neg h0]
    exact rrcUnlock_first key iv text w h0
end Go.Proofs.Ytjlmmlnldjandaa
