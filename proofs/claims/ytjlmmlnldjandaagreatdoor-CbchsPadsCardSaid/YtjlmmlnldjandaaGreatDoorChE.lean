/- The walk of CbchsPads: a right tag over what was filled up, rightly or not. -/
import Derived.Test.YtjlmmlnldjandaaGreatDoorChD
namespace Go.Proofs.YtjlmmlnldjandaaGreatDoor
open Go.RowKit
set_option linter.unusedVariables false
set_option linter.unusedSimpArgs false
theorem chPads (K V A P : List UInt8) (h : chW K.length V.length A.length = 0) (hm : P.length % 16 = 0) (h1 : P.length ≠ 0) (h2 : P.length ≤ 70016) :
    chOpenE K V A (chaL (K.drop (K.length / 2)) V P ++ chT K V A (chaL (K.drop (K.length / 2)) V P)) = (if unpE P 16 = 0 then 0 else 8) ∧
    chOpenL K V A (chaL (K.drop (K.length / 2)) V P ++ chT K V A (chaL (K.drop (K.length / 2)) V P)) = unpL P 16 := by
  obtain ⟨hk, hv, ha, _⟩ := chE_zero h
  obtain ⟨m, hm1, hd, hm2⟩ := half_of hk
  have hkb : (K.drop m).length = m := by rw [List.length_drop]; omega
  have hcf : cfit P.length = true := decide_eq_true ⟨hm, h2⟩
  have hcb : cbgE (K.drop m).length V.length (cfit P.length) = 0 := by rw [hkb, cbgE, if_pos (keyOk_yes (by omega)), if_pos hv, hcf]; rfl
  obtain ⟨hl, hb⟩ := chain_back (K.drop m) V P hcb
  have hE2 : chaL (K.drop m) V P = chaL (K.drop (K.length / 2)) V P := by rw [hd]
  rw [← hE2]
  obtain ⟨C, hC⟩ : ∃ C, chaL (K.drop m) V P = C := ⟨_, rfl⟩
  rw [hC] at hl hb ⊢
  have hG := chT_length K V A C hk
  obtain ⟨S, hS⟩ : ∃ S, C ++ chT K V A C = S := ⟨_, rfl⟩
  rw [hS]
  have hsl : S.length = C.length + m := by rw [← hS, List.length_append, hG, hd]
  have hE : chE K.length V.length A.length (fitH S.length (K.length / 2)) = 0 := by
    have hfit : fitH S.length (K.length / 2) = true := by
      rw [fitH, decide_eq_true_iff, hsl, hd, hl]
      omega
    rw [chE, if_pos hk, if_pos hv, if_pos ⟨ha, hfit⟩]
  have hCut : chCut K S = C := by rw [chCut, hsl, hd, Nat.add_sub_cancel, ← hS, List.take_left' rfl]
  have hDr : S.drop (S.length - K.length / 2) = chT K V A C := by rw [hsl, hd, Nat.add_sub_cancel, ← hS, List.drop_left' rfl]
  have hcO : cbgE (K.drop m).length V.length (cfitO C.length) = 0 := by rw [hl, fitO_ne h1]; exact hcb
  have hX : opeX (K.drop m) V C = P := by
    have := hb
    rw [uchL, hl, if_pos hcb] at this
    rw [opeX, hl]
    exact this
  have hOp : opeE (K.drop m) V C = unpE P 16 := by rw [opeE, if_pos hcO, hX]
  have hOl : opeL (K.drop m) V C = unpL P 16 := by rw [opeL, if_pos hcO, hX]
  have hOE : chOpenE K V A S = if unpE P 16 = 0 then 0 else 8 := by rw [chOpenE, if_pos hE, chOpE, hDr, hCut, if_pos rfl, hd, hOp]
  refine ⟨hOE, ?_⟩
  rw [chOpenL, hOE, hCut, hd, hOl]
  by_cases hu : unpE P 16 = 0
  · rw [if_pos hu, if_pos rfl]
  · rw [if_neg hu, if_neg (by decide), unpL, if_neg hu]
set_option maxRecDepth 100000 in
set_option maxHeartbeats 3200000 in
theorem cbchsPads_walk (key iv aad plain : ByteArray) (zt : plain.size ≤ 140737488351232) (w : World) (hF : Tb w) : Calls Tryz.prog 7 #[.agg #[.string key, .string iv, .string aad], .string plain] w (RetT w) := by
  have WR := Lib.hid (fun w => rchwrong_any key iv aad w)
  have HZ := Lib.hid zt
  obtain ⟨c, hc⟩ : ∃ c, chW key.size iv.size aad.size = c := ⟨_, rfl⟩
  rw [hc] at WR
  by_cases h0 : c = 0
  · subst h0
    obtain ⟨hk, hv, ha, _⟩ := chE_zero hc
    obtain ⟨m, hm, hd, hm2⟩ := half_of hk
    obtain ⟨kb, hkb, hkl, hks⟩ := half_key key m hm hm2
    have d1 : (key.size : Int).tdiv 2 = (m : Int) := by
      have h : (key.size : Int).tdiv 2 = ((key.size / 2 : Nat) : Int) := rfl
      rw [h, show key.size / 2 = m by omega]
    have d2 : (m : Int) ≤ (key.size : Int) := by omega
    have d3 : m ≤ key.size := by omega
    have d4 : IntKind.i64.wrap (m : Int) = (m : Int) := wrap_in _ (by omega) (by omega)
    obtain ⟨d, hdd⟩ : ∃ d, cbgE kb.size iv.size (cfit plain.size) = d := ⟨_, rfl⟩
    have CH := Lib.hid (fun w => rChain_any kb iv plain w)
    rw [hdd] at CH
    have HK := Lib.hid (And.intro hk (And.intro hv ha))
    have HC := Lib.hid hc
    have HKL : Hid (kb.toList = key.toList.drop (key.toList.length / 2)) := by show _ = _; rw [hkl, tl_size, hd]
    have HDD := Lib.hid hdd
    clear hk hv ha hm hd hm2 hkl hks hc hdd zt
    go_enter Tryz.func7, Tryz.ntmps7
    go_wp2_with fail
    obtain ⟨w0, hw0, hX, hb0, hl0⟩ := box_bh w key iv aad
    rw [hw0]
    obtain ⟨B, hB⟩ : ∃ B, w.heap.size = B := ⟨_, rfl⟩
    have hF0 := hF.below hb0 hF.2.2
    rw [hB] at hX hl0 ⊢
    have HB := Lib.hid hB
    clear hw0 hB hF
    refine (wakes11_any _ hF0).mono ?_
    rintro e w1 ⟨rfl, hb1⟩
    have HF1 := Lib.hid (hF0.below hb1 hF0.2.2)
    have hl1 : B < w1.heap.size := Nat.lt_of_lt_of_le hl0 hb1.size
    have HX1 := Lib.hid (hX.below hb1 hl0)
    obtain ⟨hc0, hc1, hc2⟩ := HX1.out
    have hb01 := below2 hb0 hb1
    clear hX hb0 hb1 hl0 hF0
    go_wp2_with fail
    refine (WR.out _).mono ?_
    rintro e w9 ⟨rfl, rfl⟩
    go_wp2_with fail
    refine (bhlong_any key iv aad plain _).mono ?_
    rintro e w2 ⟨b, rfl, hb2⟩
    have hl2 : B < w2.heap.size := Nat.lt_of_lt_of_le hl1 hb2.size
    have HX2 := Lib.hid (HX1.out.below hb2 hl1)
    have HF2 := Lib.hid (HF1.out.below hb2 HF1.out.2.2)
    have hb02 := below2 hb01 hb2
    clear hc0 hc1 hc2 hb01 hb2 hl1 HX1 HF1
    obtain ⟨hc0, hc1, hc2⟩ := HX2.out
    cases b
    · have HCQ : Hid (w2.drew.cell? ⟨B, 0, none⟩ = some (.string key) ∧ w2.drew.cell? ⟨B, 1, none⟩ = some (.string iv)) := Lib.hid ⟨hc0, hc1⟩
      go_wp2_with fail
      go_region_held3 (fun w' => w'.cell? ⟨B, 0, none⟩ = some (.string key) ∧ w'.cell? ⟨B, 1, none⟩ = some (.string iv)) (first | exact HCR.out | exact HCQ.out) (first | (go_at_call 18; refine (CH.out _).mono ?_; rintro e w3 ⟨s, rfl, hs, hb3d⟩; have HS := Lib.hid hs; have HCR : Hid (w3.cell? ⟨B, 0, none⟩ = some (.string key) ∧ w3.cell? ⟨B, 1, none⟩ = some (.string iv)) := Lib.hid ⟨(hb3d.cell (p := ⟨B, 0, none⟩) hl2).trans HCQ.out.1, (hb3d.cell (p := ⟨B, 1, none⟩) hl2).trans HCQ.out.2⟩; have hb3 := (Below.refl w2.heap.size w2).drew.trans hb3d; clear hb3d))
      have hl3 : B < w3.heap.size := Nat.lt_of_lt_of_le hl2 hb3.size
      have HX3 := Lib.hid (HX2.out.below hb3 hl2)
      have HF3 := Lib.hid (HF2.out.below hb3 HF2.out.2.2)
      have hb03 := below2 hb02 hb3
      clear hc0 hc1 hc2 hb02 hb3 hl2 HX2 HF2
      obtain ⟨hc0, hc1, hc2⟩ := HX3.out
      clear hs
      by_cases hd0 : d = 0
      · subst hd0
        have hcb := HDD.out
        obtain ⟨hpm, hp2⟩ := of_decide_eq_true (cbg_b hcb)
        have hsz : s.size = plain.size := by
          rw [← tl_size, HS.out, (chain_back _ _ _ (by rw [tl_size, tl_size, tl_size]; exact hcb)).1, tl_size]
        by_cases hp0 : plain.size = 0
        · obtain rfl : s = ByteArray.mk #[] := emptyH (List.length_eq_zero_iff.1 (by rw [tl_size, hsz, hp0]))
          clear hcb hsz hpm hp2 hc0 hc1 hc2
          go_wp2_with fail
          go_ret
          exact ⟨rfl, hb03⟩
        · have hsne : s ≠ ByteArray.mk #[] := fun h => hp0 (by rw [← hsz, h]; rfl)
          have hsb : (s.toList == (ByteArray.mk #[]).toList) = false := by rw [beq_eq_false_iff_ne]; exact fun h => hsne (tl_inj h)
          have hse : s.toList ≠ [] := fun h => hp0 (by rw [← hsz, ← tl_size, h]; rfl)
          have hse1 : (s.toList == []) = false := by rw [beq_eq_false_iff_ne]; exact hse
          have hse2 : s.toList.isEmpty = false := by rw [List.isEmpty_eq_false_iff]; exact hse
          have HH := HK.out
          have TG := chTag_any key iv aad s w3 HF3.out
          have hE : chE key.size iv.size aad.size (fitC s.size) = 0 := by rw [chE, if_pos HH.1, if_pos HH.2.1, if_pos ⟨HH.2.2, decide_eq_true (by omega)⟩]
          rw [chTagL, tl_size, tl_size, tl_size, tl_size, hE, if_pos rfl] at TG
          have hpd := chPads key.toList iv.toList aad.toList plain.toList (by rw [tl_size, tl_size, tl_size]; exact HC.out) (by rw [tl_size]; exact hpm) (by rw [tl_size]; exact hp0) (by rw [tl_size]; exact hp2)
          rw [← HKL.out, ← HS.out] at hpd
          have HPD := Lib.hid hpd
          have hgl := chT_length key.toList iv.toList aad.toList s.toList (by rw [tl_size]; exact HH.1)
          have hgl2 : (chT key.toList iv.toList aad.toList s.toList).length ≤ 32 := by rw [hgl, tl_size]; omega
          have HGL := Lib.hid hgl2
          have HSZ := Lib.hid (And.intro hsz hp2)
          clear hpd hE HH hsz hp2 hpm hcb hgl hgl2 hp0
          go_wp2_with fail
          refine TG.mono ?_
          rintro e w4 ⟨t, rfl, ht, hb4⟩
          have hts : t.size ≤ 32 := by rw [← tl_size, ht]; exact HGL.out
          have q1 : ¬ 9223372036854775807 < s.size + t.size := by have := HSZ.out; omega
          have hst : (s ++ t).size ≤ 140737488351232 := by rw [ByteArray.size_append]; have := HSZ.out; omega
          have HST := Lib.hid hst
          have HTL := Lib.hid ht
          have hl4 : B < w4.heap.size := Nat.lt_of_lt_of_le hl3 hb4.size
          have HX4 := Lib.hid (HX3.out.below hb4 hl3)
          have HF4 := Lib.hid (HF3.out.below hb4 HF3.out.2.2)
          have hb04 := below2 hb03 hb4
          clear hc0 hc1 hc2 hb03 hb4 hl3 HX3 HF3
          obtain ⟨hc0, hc1, hc2⟩ := HX4.out
          clear ht hts hst TG
          go_wp2_with fail
          refine (chOpen_any key iv aad (s ++ t) HST.out _ HF4.out).mono ?_
          rintro e w5 ⟨u, rfl, hu, hb5⟩
          rw [tl_cat, HTL.out, HPD.out.1]
          rw [tl_cat, HTL.out, HPD.out.2] at hu
          have HU := Lib.hid hu
          have hl5 : B < w5.heap.size := Nat.lt_of_lt_of_le hl4 hb5.size
          have HX5 := Lib.hid (HX4.out.below hb5 hl4)
          have HF5 := Lib.hid (HF4.out.below hb5 HF4.out.2.2)
          have hb05 := below2 hb04 hb5
          clear hc0 hc1 hc2 hb04 hb5 hl4 HX4 HF4
          obtain ⟨hc0, hc1, hc2⟩ := HX5.out
          clear hu
          obtain ⟨o, ho⟩ : ∃ o, unpE plain.toList 16 = o := ⟨_, rfl⟩
          have UN := runpad_ok plain 16 w5 (by omega) (by omega) HZ.out
          rw [ho] at UN ⊢
          have HO := Lib.hid ho
          clear ho
          by_cases ho0 : o = 0
          · subst ho0
            rw [if_pos rfl]
            go_wp2_with fail
            refine UN.mono ?_
            rintro e w6 ⟨x, rfl, hx, hb6⟩
            obtain rfl : u = x := tl_inj (by rw [HU.out, hx])
            clear hx
            have hb06 := below2 hb05 hb6
            clear hc0 hc1 hc2 hb05 hb6 UN
            go_wp2_with fail
            go_ret
            exact ⟨rfl, hb06⟩
          · have hob : (o != 0) = true := by rw [bne_iff_ne]; exact ho0
            rw [if_neg ho0]
            obtain rfl : u = ByteArray.mk #[] := emptyH (by rw [HU.out, unpL, HO.out, if_neg ho0])
            go_wp2_with fail
            refine UN.mono ?_
            rintro e w6 ⟨x, rfl, hx, hb6⟩
            clear hx
            have hb06 := below2 hb05 hb6
            clear hc0 hc1 hc2 hb05 hb6 UN
            go_wp2_with fail
            go_ret
            exact ⟨rfl, hb06⟩
      · have hdb : (d != 0) = true := by rw [bne_iff_ne]; exact hd0
        clear hc0 hc1 hc2
        go_wp2_with fail
        go_ret
        exact ⟨rfl, hb03⟩
    · clear hc0 hc1 hc2
      go_wp2_with fail
      go_ret
      exact ⟨rfl, hb02⟩
  · have e1 : (c != 0) = true := by rw [bne_iff_ne]; exact h0
    clear hc h0 zt
    go_enter Tryz.func7, Tryz.ntmps7
    go_wp2_with fail
    obtain ⟨w0, hw0, hX, hb0, hl0⟩ := box_bh w key iv aad
    rw [hw0]
    obtain ⟨B, hB⟩ : ∃ B, w.heap.size = B := ⟨_, rfl⟩
    have hF0 := hF.below hb0 hF.2.2
    rw [hB] at hX hl0 ⊢
    have HB := Lib.hid hB
    clear hw0 hB hF
    refine (wakes11_any _ hF0).mono ?_
    rintro e w1 ⟨rfl, hb1⟩
    have HF1 := Lib.hid (hF0.below hb1 hF0.2.2)
    have hl1 : B < w1.heap.size := Nat.lt_of_lt_of_le hl0 hb1.size
    have HX1 := Lib.hid (hX.below hb1 hl0)
    obtain ⟨hc0, hc1, hc2⟩ := HX1.out
    have hb01 := below2 hb0 hb1
    clear hX hb0 hb1 hl0 hF0
    go_wp2_with fail
    refine (WR.out _).mono ?_
    rintro e w9 ⟨rfl, rfl⟩
    clear hc0 hc1 hc2
    go_wp2_with fail
    go_ret
    exact ⟨rfl, hb01⟩
end Go.Proofs.YtjlmmlnldjandaaGreatDoor
