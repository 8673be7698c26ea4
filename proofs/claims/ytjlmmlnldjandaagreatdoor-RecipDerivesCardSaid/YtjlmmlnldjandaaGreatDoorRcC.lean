/- The program's Unlock. -/
import Derived.Test.YtjlmmlnldjandaaGreatDoorRcB
namespace Go.Proofs.YtjlmmlnldjandaaGreatDoor
open Go.RowKit
set_option linter.unusedVariables false
set_option linter.unusedSimpArgs false
theorem below_drewR {B : Nat} {a w : World} (h : Below B a w) (n : Nat) : Below B a (w.drewN n) := ⟨h.os, h.tape, h.output, h.size, h.block⟩
theorem uchL_length (K V T : List UInt8) (h : cbgE K.length V.length (cfit T.length) = 0) : (uchL K V T).length = T.length := by
  obtain ⟨hk, hv⟩ := cbg_true (by rw [cbg_b h] at h; exact h)
  obtain ⟨hm, _⟩ := of_decide_eq_true (cbg_b h)
  rw [uchL, if_pos h, unS_length K V T hv _ (by omega)]
  omega
theorem unl_lengths (K V T : List UInt8) (hw : wroE K.length V.length = 0) (hf : unlFit T.length = true) : (unl1 K T).length = 16 ∧ (uchL K (unl1 K T) T).length = T.length ∧ (unl2 K V T).length = T.length := by
  obtain ⟨h1, h2, h3⟩ := of_decide_eq_true hf
  obtain ⟨hk, hv⟩ := wro_zero hw
  have hd1 : ((T.drop (T.length - 32)).take 16).length = 16 := by rw [List.length_take, List.length_drop]; omega
  have hd2 : (T.drop (T.length - 16)).length = 16 := by rw [List.length_drop]; omega
  have hl1 : (unl1 K T).length = 16 := by
    rw [unl1, uchL_length _ _ _ (by rw [hd1, hd2]; exact wro_cbg (wro_key hw) (by omega) (by omega)), hd2]
  have hl2 : (uchL K (unl1 K T) T).length = T.length := uchL_length _ _ _ (by rw [hl1]; exact wro_cbg (wro_key hw) h1 (by omega))
  refine ⟨hl1, hl2, ?_⟩
  rw [unl2, uchL_length _ _ _ (by rw [hl2]; exact wro_cbg hw h1 (by omega)), hl2]
set_option maxRecDepth 100000 in
set_option maxHeartbeats 1600000 in
theorem rcUnlock_first (key iv text : ByteArray) (w : World) (h0 : wroE key.size iv.size ≠ 0) : Calls Tryz.prog 41 #[.string key, .string iv, .string text] w (RetSE [] (wroE key.size iv.size) w) := by
  have MY := Lib.hid (fun w => rcmay_any key iv w)
  obtain ⟨c, hc⟩ : ∃ c, wroE key.size iv.size = c := ⟨_, rfl⟩
  rw [hc] at MY h0 ⊢
  have e1 : (c != 0) = true := by rw [bne_iff_ne]; exact h0
  clear hc h0
  go_enter Tryz.func41, Tryz.ntmps41
  go_wp2_with fail
  refine (MY.out _).mono ?_
  rintro e w1 ⟨rfl, hb⟩
  go_wp2_with fail
  go_ret2
  exact ret_se (tl_mk []) rfl rfl hb
set_option maxRecDepth 100000 in
set_option maxHeartbeats 1600000 in
theorem rcUnlock_size (key iv text : ByteArray) (hz : text.size ≤ 140737488351232) (w : World) (h0 : wroE key.size iv.size = 0) (hf : unlFit text.size = false) : Calls Tryz.prog 41 #[.string key, .string iv, .string text] w (RetSE [] 6 w) := by
  have MY := Lib.hid (fun w => rcmay_any key iv w)
  rw [h0] at MY
  obtain ⟨r, hr⟩ : ∃ r, text.size % 16 = r := ⟨_, rfl⟩
  have e3 : (text.size : Int).tmod 16 = (r : Int) := tmod_nat text.size 16 r hr.symm
  have e4 : IntKind.i64.wrap (r : Int) = (r : Int) := wrap_in _ (by omega) (by omega)
  have LO := Lib.hid (fun w => laidOut_any 255 (by omega) w)
  rw [show ((laidN 255 : Nat) : Int) = 272 by decide] at LO
  by_cases hr0 : r = 0
  · subst hr0
    by_cases h32 : text.size < 32
    · have e5 : (text.size : Int) < 32 := by omega
      clear h0 hf hr h32 hz
      go_enter Tryz.func41, Tryz.ntmps41
      go_wp2_with fail
      refine (MY.out _).mono ?_
      rintro e w1 ⟨rfl, hb⟩
      go_wp2_with fail
      go_ret2
      exact ret_se (tl_mk []) rfl rfl hb
    · have e5 : ¬ (text.size : Int) < 32 := by omega
      have e6 : (272 : Int) < (text.size : Int) := by
        have := of_decide_eq_false hf
        omega
      clear h0 hf hr h32 hz
      go_enter Tryz.func41, Tryz.ntmps41
      go_wp2_with fail
      refine (MY.out _).mono ?_
      rintro e w1 ⟨rfl, hb⟩
      go_wp2_with fail
      refine (LO.out _).mono ?_
      rintro e w2 ⟨rfl, rfl⟩
      go_wp2_with fail
      go_ret2
      exact ret_se (tl_mk []) rfl rfl hb
  · have e5 : ((r : Int) != 0) = true := by rw [bne_iff_ne]; omega
    clear h0 hf hr hr0 hz
    go_enter Tryz.func41, Tryz.ntmps41
    go_wp2_with fail
    refine (MY.out _).mono ?_
    rintro e w1 ⟨rfl, hb⟩
    go_wp2_with fail
    go_ret2
    exact ret_se (tl_mk []) rfl rfl hb
/-- what Unlock looks at -/
theorem unl_not {S : List UInt8} (h : unlOk S = false) (h3 : 3 ≤ unlN S) (hl : S.length = laidN (unlN S)) : ((S.drop 1).take 3 == xorL ((S.drop 4).take 3) fffL) = false := by
  rw [beq_eq_false_iff_ne]
  intro he
  rw [unlOk, decide_eq_false_iff_not] at h
  exact h ⟨h3, hl, he⟩
set_option maxRecDepth 100000 in
set_option maxHeartbeats 6400000 in
theorem rcUnlock_fit (key iv text : ByteArray) (w : World) (h0 : wroE key.size iv.size = 0) (hf : unlFit text.size = true) : Calls Tryz.prog 41 #[.string key, .string iv, .string text] w (RetSE (if unlOk (unl2 key.toList iv.toList text.toList) then ((unl2 key.toList iv.toList text.toList).drop 4).take (unlN (unl2 key.toList iv.toList text.toList)) else []) (if unlOk (unl2 key.toList iv.toList text.toList) then 0 else 8) w) := by
  have MY := Lib.hid (fun w => rcmay_any key iv w)
  have LO := Lib.hid (fun n hn w => laidOut_any n hn w)
  have LO5 := Lib.hid (fun w => laidOut_any 255 (by omega) w)
  rw [show ((laidN 255 : Nat) : Int) = 272 by decide] at LO5
  obtain ⟨h1, h2, h3⟩ := of_decide_eq_true hf
  obtain ⟨hl1, hl2, hl3⟩ := unl_lengths key.toList iv.toList text.toList (by rw [tl_size, tl_size]; exact h0) (by rw [tl_size]; exact hf)
  obtain ⟨S, hS⟩ : ∃ S, unl2 key.toList iv.toList text.toList = S := ⟨_, rfl⟩
  rw [tl_size, hS] at hl3
  rw [hS]
  obtain ⟨R, hR⟩ : ∃ R, (if unlOk S then (S.drop 4).take (unlN S) else []) = R := ⟨_, rfl⟩
  obtain ⟨cc, hcc⟩ : ∃ c : Int, (if unlOk S then (0 : Int) else 8) = c := ⟨_, rfl⟩
  rw [hR, hcc]
  have HR := Lib.hid (And.intro hR hcc)
  clear hR hcc
  rw [h0] at MY
  have e3 : (text.size : Int).tmod 16 = ((0 : Nat) : Int) := tmod_nat text.size 16 0 h1.symm
  have e5 : ¬ (text.size : Int) < 32 := by omega
  have e6 : ¬ (272 : Int) < (text.size : Int) := by omega
  obtain ⟨a, ha⟩ : ∃ a, a = text.size - 32 := ⟨_, rfl⟩
  obtain ⟨b, hb⟩ : ∃ b, b = a + 16 := ⟨_, rfl⟩
  have p1 : (text.size : Int) - 32 = (a : Int) := by omega
  have p2 : IntKind.i64.wrap (a : Int) = (a : Int) := wrap_in _ (by omega) (by omega)
  have p3 : (a : Int) + 16 = (b : Int) := by omega
  have p4 : IntKind.i64.wrap (b : Int) = (b : Int) := wrap_in _ (by omega) (by omega)
  have p5 : (0 : Int) ≤ (a : Int) := by omega
  have p6 : (a : Int) ≤ (b : Int) := by omega
  have p7 : (b : Int) ≤ (text.size : Int) := by omega
  have p8 : a ≤ b := by omega
  have p9 : b ≤ text.size := by omega
  have p10 : (0 : Int) ≤ (b : Int) := by omega
  obtain ⟨sa, hsa⟩ : ∃ sa, text.extract a b = sa := ⟨_, rfl⟩
  obtain ⟨sb, hsb⟩ : ∃ sb, text.extract b text.size = sb := ⟨_, rfl⟩
  have hsal : sa.toList = (text.toList.drop (text.toList.length - 32)).take 16 := by rw [← hsa, tl_ext, tl_size, ← ha, hb, Nat.add_sub_cancel_left]
  have hsbl : sb.toList = text.toList.drop (text.toList.length - 16) := by rw [← hsb, tl_extE _ _ _ rfl, tl_size]; congr 1; omega
  have UC := Lib.hid (fun v t w => cUnchain_any key v t w)
  have UA := Lib.hid (fun w => cUnchain_any key sa sb w)
  rw [hsal, hsbl] at UA
  have HS : Hid (∀ (last once laid : ByteArray), last.toList = unl1 key.toList text.toList → once.toList = uchL key.toList last.toList text.toList → laid.toList = uchL key.toList iv.toList once.toList → laid.toList = S) := fun last once laid e1 e2 e3 => by rw [e3, e2, e1, ← hS]; rfl
  have HL := Lib.hid (And.intro hl3 (And.intro h2 h3))
  clear h0 hf h1 h2 h3 hl1 hl2 hl3 hS ha hb hsal hsbl
  go_enter Tryz.func41, Tryz.ntmps41
  go_wp2_with fail
  refine (MY.out _).mono ?_
  rintro e w1 ⟨rfl, hb1⟩
  go_wp2_with fail
  refine (LO5.out _).mono ?_
  rintro e w2 ⟨rfl, rfl⟩
  go_wp2_with fail
  go_region_held3 (fun _ => True) (trivial) (first | (go_at_call 66; refine (UA.out _).mono ?_; rintro e w3 ⟨last, rfl, hlast, hb3⟩; have HLA := Lib.hid hlast; clear hlast))
  have hb03 := hb1.drew.trans (hb3.mono hb1.size)
  clear hb1 hb3
  go_wp2_with fail
  refine (UC.out last text _).mono ?_
  rintro e w4 ⟨once, rfl, honce, hb4⟩
  have HON := Lib.hid honce
  have hb04 := below2 hb03 hb4
  clear honce hb03 hb4
  go_wp2_with fail
  refine (UC.out iv once _).mono ?_
  rintro e w5 ⟨laid, rfl, hlaid, hb5⟩
  have hls : laid.toList = S := HS.out last once laid HLA.out HON.out hlaid
  have hb05 := below2 hb04 hb5
  have hsz : laid.size = text.size := by rw [← tl_size, hls, HL.out.1]
  have hl0 : 0 < laid.size := by have := HL.out; omega
  have hl0I : (0 : Int) < (laid.size : Int) := by omega
  obtain ⟨n, hn⟩ : ∃ n, laid[0].toNat = n := ⟨_, rfl⟩
  have hn255 : n < 256 := by rw [← hn]; exact laid[0].toNat_lt
  have hN : unlN S = n := by rw [unlN, ← hls, ← hn]; congr 1; exact at0_tl laid 0 hl0
  have q1 : IntKind.i64.wrap (n : Int) = (n : Int) := wrap_in _ (by omega) (by omega)
  have HLS := Lib.hid hls
  have HSZ := Lib.hid (And.intro hsz hn255)
  have HNN := Lib.hid hN
  clear hlaid hls hb04 hb5 hsz hN UC UA HLA HON
  by_cases hn3 : n < 3
  · have HUN : Hid (unlOk S = false) := by show _ = _; rw [unlOk, decide_eq_false_iff_not, HNN.out]; omega
    have r1 : (n : Int) < 3 := by omega
    clear hn3 hn255
    go_wp2_with fail
    go_ret2
    exact ret_se (tl_mk []) (by rw [← HR.out.1, HUN.out]; rfl) (by rw [← HR.out.2, HUN.out]; rfl) hb05
  · have r1 : ¬ (n : Int) < 3 := by omega
    have LN := LO.out n (by omega) w5
    obtain ⟨l, hl⟩ : ∃ l, laidN n = l := ⟨_, rfl⟩
    rw [hl] at LN
    by_cases hne : laid.size = l
    · have r2 : ((laid.size : Int) != (l : Int)) = false := by rw [bne_eq_false_iff_eq]; omega
      have hge := laidN_ge n
      rw [hl] at hge
      obtain ⟨m, hm⟩ : ∃ m, m = 4 + n := ⟨_, rfl⟩
      have s1 : 4 + (n : Int) = (m : Int) := by omega
      have s2 : IntKind.i64.wrap (m : Int) = (m : Int) := wrap_in _ (by omega) (by omega)
      have s3 : (4 : Int) ≤ (m : Int) := by omega
      have s4 : (m : Int) ≤ (laid.size : Int) := by omega
      have s5 : 4 ≤ m := by omega
      have s6 : m ≤ laid.size := by omega
      have s7 : (4 : Int) ≤ (laid.size : Int) := by omega
      have s8 : 4 ≤ laid.size := by omega
      obtain ⟨o1, ho1⟩ : ∃ o1, laid.extract 4 m = o1 := ⟨_, rfl⟩
      obtain ⟨o2, ho2⟩ : ∃ o2, laid.extract 1 4 = o2 := ⟨_, rfl⟩
      have ho1l : o1.toList = (S.drop 4).take n := by rw [← ho1, tl_ext, HLS.out, hm, Nat.add_sub_cancel_left]
      have ho2l : o2.toList = (S.drop 1).take 3 := by rw [← ho2, tl_ext, HLS.out]
      have ho1s : o1.size = n := by rw [← tl_size, ho1l, List.length_take, List.length_drop, ← HLS.out, tl_size]; omega
      have ho2s : o2.size ≤ 3 := by rw [← tl_size, ho2l, List.length_take]; omega
      have HO1 := Lib.hid (And.intro ho1l (And.intro ho1s ho2s))
      have HO2 := Lib.hid ho2l
      have HN3 : Hid (3 ≤ n ∧ n < 256 ∧ laid.size = laidN n) := by show _ ∧ _ ∧ _; omega
      clear hn3 hge hm ho1l ho2l ho1s ho2s hne hn255
      go_wp2_with fail
      refine LN.mono ?_
      rintro e w6 ⟨rfl, rfl⟩
      go_wp2_with fail
      refine (clone_any o1 _ (by have := HO1.out.2.1; have := HN3.out; omega)).mono ?_
      rintro e w6 ⟨o, rfl, ho, hb6⟩
      have HOL : Hid (o.toList = (S.drop 4).take n) := by show _ = _; rw [ho, HO1.out.1]
      have hos : o.size = n := by rw [← tl_size, ho, tl_size, HO1.out.2.1]
      have HOS := Lib.hid hos
      have hb06 := below2 hb05 hb6
      clear ho hos hb05 hb6 LN hl
      have hck : ∀ x : ByteArray, x.toList = xorL (o.toList.take 3) fffL → (o2.toList == x.toList) = unlOk S := fun x hx => by
        rw [hx, HO2.out, HOL.out, List.take_take, Nat.min_eq_left HN3.out.1]
        rw [unlOk, HNN.out]
        have h1 := HN3.out
        have h2 : S.length = laidN n := by rw [← HLS.out, tl_size]; exact h1.2.2
        by_cases he : (S.drop 1).take 3 = xorL ((S.drop 4).take 3) fffL
        · rw [decide_eq_true ⟨h1.1, h2, he⟩, beq_iff_eq]; exact he
        · rw [decide_eq_false (fun h => he h.2.2), beq_eq_false_iff_ne]; exact he
      have HCK := Lib.hid hck
      have hxs : ∀ x : ByteArray, x.toList = xorL (o.toList.take 3) fffL → x.size ≤ maxLen := fun x hx => by
        rw [← tl_size, hx, xorL_len, show fffL.length = 3 from rfl]
        unfold maxLen
        omega
      have HXS := Lib.hid hxs
      have HO2S : Hid (o2.size ≤ maxLen) := by show _ ≤ _; have := HO1.out.2.2; unfold maxLen; omega
      clear hck hxs
      obtain ⟨k, hun⟩ : ∃ k, unlOk S = k := ⟨_, rfl⟩
      rw [hun] at HCK
      have HUN := Lib.hid hun
      clear hun
      go_wp2_with fail
      go_region_with (first | (go_at_call 64; refine (rccheck_any o (by have := HOS.out; have := HN3.out; omega) _).mono ?_; rintro e w7 ⟨x, rfl, hx, hb7⟩; have HX := Lib.hid hx; have hb07 := hb06.drew.trans (hb7.mono hb06.size); clear hx) | (go_at_call 28; refine (same_any o2 x _ HO2S.out (HXS.out x HX.out)).mono ?_; rintro e w8 ⟨rfl, n8, rfl⟩; rw [HCK.out x HX.out]))
      cases k
      · go_wp2_with fail
        go_ret2
        exact ret_se (tl_mk []) (by rw [← HR.out.1, HUN.out]; rfl) (by rw [← HR.out.2, HUN.out]; rfl) (below_drewR hb07 n8)
      · go_wp2_with fail
        go_ret2
        exact ret_se HOL.out (by rw [← HR.out.1, HUN.out, HNN.out]; rfl) (by rw [← HR.out.2, HUN.out]; rfl) (below_drewR hb07 n8)
    · have HUN : Hid (unlOk S = false) := by show _ = _; rw [unlOk, decide_eq_false_iff_not, HNN.out, ← HLS.out, tl_size, hl]; exact fun h => hne h.2.1
      have r2 : ((laid.size : Int) != (l : Int)) = true := by rw [bne_iff_ne]; omega
      clear hne hn3 hl hn255
      go_wp2_with fail
      refine LN.mono ?_
      rintro e w6 ⟨rfl, rfl⟩
      go_wp2_with fail
      go_ret2
      exact ret_se (tl_mk []) (by rw [← HR.out.1, HUN.out]; rfl) (by rw [← HR.out.2, HUN.out]; rfl) hb05
theorem rcUnlock_any (key iv text : ByteArray) (hz : text.size ≤ 140737488351232) (w : World) : Calls Tryz.prog 41 #[.string key, .string iv, .string text] w (RetSE (unlL key.toList iv.toList text.toList) (unlE key.toList iv.toList text.toList) w) := by
  rw [unlL, unlE, tl_size, tl_size, tl_size]
  by_cases h0 : wroE key.size iv.size = 0
  · rw [if_pos h0]
    by_cases hf : unlFit text.size = true
    · rw [if_pos hf]
      have h := rcUnlock_fit key iv text w h0 hf
      cases hk : unlOk (unl2 key.toList iv.toList text.toList) <;> rw [hk] at h <;> exact h
    · rw [if_neg hf, if_neg (by decide)]
      exact rcUnlock_size key iv text hz w h0 (by simpa using hf)
  · rw [if_neg h0, if_neg h0]
    exact rcUnlock_first key iv text w h0
end Go.Proofs.YtjlmmlnldjandaaGreatDoor
