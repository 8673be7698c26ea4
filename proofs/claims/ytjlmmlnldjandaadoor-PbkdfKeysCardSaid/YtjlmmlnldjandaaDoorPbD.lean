/- The walks of layer 5's laws. -/
import Derived.Test.YtjlmmlnldjandaaDoorPbC
namespace Go.Proofs.YtjlmmlnldjandaaDoor
open Go.RowKit
set_option linter.unusedVariables false
set_option linter.unusedSimpArgs false
theorem light_yes {P S : ByteArray} {r : Int} (h : lightB P S r = true) : r ≤ 40 ∧ P.size ≤ 2000 ∧ S.size ≤ 1024 := of_decide_eq_true h
theorem emptyK {s : ByteArray} (h : s.toList = []) : s = ByteArray.mk #[] := tl_inj (by rw [h]; exact (tl_mk []).symm)
set_option maxRecDepth 100000 in
set_option maxHeartbeats 3200000 in
theorem pbkdfKeys_walk (k : Int) (P S : ByteArray) (r n : Int) (sP : P.size ≤ 140737488351232) (w : World) (hF : Tb w) : Calls Tryd.prog 3 #[.agg #[.int .i64 k, .string P, .string S, .int .i64 r, .int .i64 n]] w (RetT w) := by
  have HSP := Lib.hid sP
  obtain ⟨c, hc⟩ : ∃ c, Pb.err k S.size r n = c := ⟨_, rfl⟩
  have HC := Lib.hid hc
  obtain ⟨b, hb⟩ : ∃ b, lightB P S r = b := ⟨_, rfl⟩
  have LI := Lib.hid (fun w => light_any k P S r n w)
  rw [hb] at LI
  have HLB := Lib.hid hb
  clear sP hc hb
  go_enter Tryd.func3, Tryd.ntmps3
  go_wp2_with fail
  obtain ⟨w0, hw0, hX, hb0, hl0⟩ := ak_of w k P S r n
  rw [hw0]
  obtain ⟨B, hB⟩ : ∃ B, w.heap.size = B := ⟨_, rfl⟩
  have hF0 := hF.below hb0 hF.2.2
  rw [hB] at hX hl0 ⊢
  have HB := Lib.hid hB
  clear hw0 hB hF
  refine (wakes5_any _ hF0).mono ?_
  rintro e w1 ⟨rfl, hb1⟩
  have HF1 := Lib.hid (hF0.below hb1 hF0.2.2)
  have hl1 : B < w1.heap.size := Nat.lt_of_lt_of_le hl0 hb1.size
  have HX1 := Lib.hid (hX.below hb1 hl0)
  obtain ⟨hc0, hc1, hc2, hc3, hc4⟩ := HX1.out
  have hb01 := below2 hb0 hb1
  clear hX hb0 hb1 hl0 hF0
  go_wp2_with fail
  refine (LI.out _).mono ?_
  rintro e w2 ⟨rfl, hb2⟩
  have hl2 : B < w2.heap.size := Nat.lt_of_lt_of_le hl1 hb2.size
  have HX2 := Lib.hid (HX1.out.below hb2 hl1)
  have HF2 := Lib.hid (HF1.out.below hb2 HF1.out.2.2)
  have hb02 := below2 hb01 hb2
  clear hc0 hc1 hc2 hc3 hc4 hb01 hb2 hl1 HX1 HF1
  obtain ⟨hc0, hc1, hc2, hc3, hc4⟩ := HX2.out
  cases b
  · clear hc0 hc1 hc2 hc3 hc4
    go_wp2_with fail
    go_ret
    exact ⟨rfl, hb02⟩
  · go_wp2_with fail
    refine (pkey_any k P S (by have := HSP.out; omega) r n _ HF2.out).mono ?_
    rintro e w3 ⟨x, rfl, hx, hb3⟩
    rw [HC.out]
    have HXL := Lib.hid hx
    have hl3 : B < w3.heap.size := Nat.lt_of_lt_of_le hl2 hb3.size
    have HX3 := Lib.hid (HX2.out.below hb3 hl2)
    have HF3 := Lib.hid (HF2.out.below hb3 HF2.out.2.2)
    have hb03 := below2 hb02 hb3
    clear hc0 hc1 hc2 hc3 hc4 hb02 hb3 hl2 HX2 HF2
    obtain ⟨hc0, hc1, hc2, hc3, hc4⟩ := HX3.out
    clear hx
    go_wp2_with fail
    refine (rkey_any k P S (by have := light_yes HLB.out; omega) r n _).mono ?_
    rintro e w4 ⟨y, rfl, hy, hb4⟩
    rw [HC.out]
    obtain rfl : x = y := tl_inj (by rw [HXL.out, hy])
    have hb04 := below2 hb03 hb4
    clear hy hb4 hb03 hc0 hc1 hc2 hc3 hc4
    go_wp2_with fail
    go_ret
    exact ⟨rfl, hb04⟩
set_option maxRecDepth 100000 in
set_option maxHeartbeats 3200000 in
theorem pbkdfRefuses_walk (k : Int) (P S : ByteArray) (r n : Int) (sP : P.size ≤ 140737488351232) (w : World) (hF : Tb w) : Calls Tryd.prog 4 #[.agg #[.int .i64 k, .string P, .string S, .int .i64 r, .int .i64 n]] w (RetT w) := by
  have HSP := Lib.hid sP
  obtain ⟨c, hc⟩ : ∃ c, Pb.err k S.size r n = c := ⟨_, rfl⟩
  have HC := Lib.hid hc
  have WR := Lib.hid (fun w => rwrong_any k S r n w)
  rw [hc] at WR
  clear sP hc
  by_cases h0 : c = 0
  · subst h0
    go_enter Tryd.func4, Tryd.ntmps4
    go_wp2_with fail
    obtain ⟨w0, hw0, hX, hb0, hl0⟩ := ak_of w k P S r n
    rw [hw0]
    obtain ⟨B, hB⟩ : ∃ B, w.heap.size = B := ⟨_, rfl⟩
    have hF0 := hF.below hb0 hF.2.2
    rw [hB] at hX hl0 ⊢
    have HB := Lib.hid hB
    clear hw0 hB hF
    refine (wakes5_any _ hF0).mono ?_
    rintro e w1 ⟨rfl, hb1⟩
    have HF1 := Lib.hid (hF0.below hb1 hF0.2.2)
    have hl1 : B < w1.heap.size := Nat.lt_of_lt_of_le hl0 hb1.size
    have HX1 := Lib.hid (hX.below hb1 hl0)
    obtain ⟨hc0, hc1, hc2, hc3, hc4⟩ := HX1.out
    have hb01 := below2 hb0 hb1
    clear hX hb0 hb1 hl0 hF0
    go_wp2_with fail
    refine (WR.out _).mono ?_
    rintro e w2 ⟨rfl, rfl⟩
    clear hc0 hc1 hc2 hc3 hc4
    go_wp2_with fail
    go_ret
    exact ⟨rfl, hb01⟩
  · have e1 : (c == 0) = false := by rw [beq_eq_false_iff_ne]; exact h0
    have HL : Hid (Pb.keyT k P.toList S.toList r n = []) := by show _ = _; rw [Pb.keyT, tl_size, HC.out, if_neg h0]
    clear h0
    go_enter Tryd.func4, Tryd.ntmps4
    go_wp2_with fail
    obtain ⟨w0, hw0, hX, hb0, hl0⟩ := ak_of w k P S r n
    rw [hw0]
    obtain ⟨B, hB⟩ : ∃ B, w.heap.size = B := ⟨_, rfl⟩
    have hF0 := hF.below hb0 hF.2.2
    rw [hB] at hX hl0 ⊢
    have HB := Lib.hid hB
    clear hw0 hB hF
    refine (wakes5_any _ hF0).mono ?_
    rintro e w1 ⟨rfl, hb1⟩
    have HF1 := Lib.hid (hF0.below hb1 hF0.2.2)
    have hl1 : B < w1.heap.size := Nat.lt_of_lt_of_le hl0 hb1.size
    have HX1 := Lib.hid (hX.below hb1 hl0)
    obtain ⟨hc0, hc1, hc2, hc3, hc4⟩ := HX1.out
    have hb01 := below2 hb0 hb1
    clear hX hb0 hb1 hl0 hF0
    go_wp2_with fail
    refine (WR.out _).mono ?_
    rintro e w9 ⟨rfl, rfl⟩
    go_wp2_with fail
    refine (pkey_any k P S (by have := HSP.out; omega) r n _ HF1.out).mono ?_
    rintro e w3 ⟨x, rfl, hx, hb3⟩
    rw [HC.out]
    rw [HL.out] at hx
    obtain rfl := emptyK hx
    have hb03 := below2 hb01 hb3
    clear hx hb3 hb01 hc0 hc1 hc2 hc3 hc4
    go_wp2_with fail
    go_ret
    exact ⟨rfl, hb03⟩
set_option maxRecDepth 100000 in
set_option maxHeartbeats 3200000 in
theorem pbkdfBegins_walk (k : Int) (P S : ByteArray) (r n : Int) (m : Nat) (hm : m < 256) (sP : P.size ≤ 140737488351232) (w : World) (hF : Tb w) : Calls Tryd.prog 5 #[.agg #[.int .i64 k, .string P, .string S, .int .i64 r, .int .i64 n], .int .u8 (m : Int)] w (RetT w) := by
  have HSP := Lib.hid sP
  obtain ⟨c, hc⟩ : ∃ c, Pb.err k S.size r n = c := ⟨_, rfl⟩
  have WR := Lib.hid (fun w => rwrong_any k S r n w)
  rw [hc] at WR
  have HC := Lib.hid hc
  obtain ⟨b, hb⟩ : ∃ b, lightB P S r = b := ⟨_, rfl⟩
  have LI := Lib.hid (fun w => light_any k P S r n w)
  rw [hb] at LI
  have HLB := Lib.hid hb
  have HMM := Lib.hid hm
  clear sP hc hb hm
  cases b
  ·
    go_enter Tryd.func5, Tryd.ntmps5
    go_wp2_with fail
    obtain ⟨w0, hw0, hX, hb0, hl0⟩ := ak_of w k P S r n
    rw [hw0]
    obtain ⟨B, hB⟩ : ∃ B, w.heap.size = B := ⟨_, rfl⟩
    have hF0 := hF.below hb0 hF.2.2
    rw [hB] at hX hl0 ⊢
    have HB := Lib.hid hB
    clear hw0 hB hF
    refine (wakes5_any _ hF0).mono ?_
    rintro e w1 ⟨rfl, hb1⟩
    have HF1 := Lib.hid (hF0.below hb1 hF0.2.2)
    have hl1 : B < w1.heap.size := Nat.lt_of_lt_of_le hl0 hb1.size
    have HX1 := Lib.hid (hX.below hb1 hl0)
    obtain ⟨hc0, hc1, hc2, hc3, hc4⟩ := HX1.out
    have hb01 := below2 hb0 hb1
    clear hX hb0 hb1 hl0 hF0
    go_wp2_with fail
    refine (LI.out _).mono ?_
    rintro e w2 ⟨rfl, hb2⟩
    have hb02 := below2 hb01 hb2
    clear hc0 hc1 hc2 hc3 hc4
    go_wp2_with fail
    go_ret
    exact ⟨rfl, hb02⟩
  by_cases h0 : c = 0
  · subst h0
    have hz := Pb.err_zero _ _ _ _ HC.out
    obtain ⟨N, rfl⟩ := Int.eq_ofNat_of_zero_le (a := n) (by omega)
    obtain ⟨N2, hN2⟩ : ∃ N2, N2 = min 256 (N + m) := ⟨_, rfl⟩
    have HE := Lib.hid hz
    have HNN : Hid (1 ≤ N ∧ N ≤ 256) := by show _ ∧ _; omega
    have HN2 : Hid (1 ≤ N2 ∧ N2 ≤ 256 ∧ N ≤ N2) := by show _ ∧ _ ∧ _; omega
    have hE2 : Pb.err k S.size r (N2 : Int) = 0 := by
      rw [Pb.err, hz.1, if_neg (by decide), if_neg (by omega), if_neg (by omega), if_neg (by omega)]
    have HE2 := Lib.hid hE2
    obtain ⟨s, hs⟩ : ∃ s, s = N + m := ⟨_, rfl⟩
    have a1 : (N : Int) + (m : Int) = (s : Int) := by omega
    have a2 : IntKind.i64.wrap (s : Int) = (s : Int) := by
      have := HMM.out
      exact i64_fit _ (by omega)
    have a3 : IntKind.i64.wrap (m : Int) = (m : Int) := by
      have := HMM.out
      exact i64_fit _ (by omega)
    have hr2 : N2 = min 256 s := by rw [hN2, hs]
    have a4 : min (256 : Int) (s : Int) = (N2 : Int) := by omega
    clear hz hE2 hN2 hs
    go_enter Tryd.func5, Tryd.ntmps5
    go_wp2_with fail
    obtain ⟨w0, hw0, hX, hb0, hl0⟩ := ak_of w k P S r (N : Int)
    rw [hw0]
    obtain ⟨B, hB⟩ : ∃ B, w.heap.size = B := ⟨_, rfl⟩
    have hF0 := hF.below hb0 hF.2.2
    rw [hB] at hX hl0 ⊢
    have HB := Lib.hid hB
    clear hw0 hB hF
    refine (wakes5_any _ hF0).mono ?_
    rintro e w1 ⟨rfl, hb1⟩
    have HF1 := Lib.hid (hF0.below hb1 hF0.2.2)
    have hl1 : B < w1.heap.size := Nat.lt_of_lt_of_le hl0 hb1.size
    have HX1 := Lib.hid (hX.below hb1 hl0)
    obtain ⟨hc0, hc1, hc2, hc3, hc4⟩ := HX1.out
    have hb01 := below2 hb0 hb1
    clear hX hb0 hb1 hl0 hF0
    go_wp2_with fail
    refine (LI.out _).mono ?_
    rintro e w2 ⟨rfl, hb2⟩
    have hl2 : B < w2.heap.size := Nat.lt_of_lt_of_le hl1 hb2.size
    have HX2 := Lib.hid (HX1.out.below hb2 hl1)
    have HF2 := Lib.hid (HF1.out.below hb2 HF1.out.2.2)
    have hb02 := below2 hb01 hb2
    clear hc0 hc1 hc2 hc3 hc4 hb01 hb2 hl1 HX1 HF1
    obtain ⟨hc0, hc1, hc2, hc3, hc4⟩ := HX2.out
    go_wp2_with fail
    refine (WR.out _).mono ?_
    rintro e w9 ⟨rfl, rfl⟩
    go_wp2_with fail
    refine (pkey_any k P S (by have := HSP.out; omega) r (N : Int) _ HF2.out).mono ?_
    rintro e w4 ⟨x, rfl, hx, hb4⟩
    rw [HC.out]
    rw [Pb.keyT, tl_size, HC.out, if_pos rfl] at hx
    have HXL := Lib.hid hx
    have hl4 : B < w4.heap.size := Nat.lt_of_lt_of_le hl2 hb4.size
    have HX4 := Lib.hid (HX2.out.below hb4 hl2)
    have HF4 := Lib.hid (HF2.out.below hb4 HF2.out.2.2)
    have hb04 := below2 hb02 hb4
    clear hc0 hc1 hc2 hc3 hc4 hb02 hb4 hl2 HX2 HF2
    obtain ⟨hc0, hc1, hc2, hc3, hc4⟩ := HX4.out
    clear hx
    clear hr2
    go_wp2_with fail
    try rw [a4]
    refine (pkey_any k P S (by have := HSP.out; omega) r (N2 : Int) _ HF4.out).mono ?_
    rintro e w5 ⟨y, rfl, hy, hb5⟩
    rw [HE2.out]
    rw [Pb.keyT, tl_size, HE2.out, if_pos rfl] at hy
    have hys : y.size = N2 := by rw [← tl_size, hy, Pb.key_len k HE.out.1 _ _ _ _ (by have := HE.out; omega) (by have := HN2.out; omega)]; exact Int.toNat_natCast N2
    have hxs : x.size = N := by rw [← tl_size, HXL.out, Pb.key_len k HE.out.1 _ _ _ _ (by have := HE.out; omega) (by have := HNN.out; omega)]; exact Int.toNat_natCast N
    have g1 : ((x.size : Int) == (N : Int)) = true := by rw [beq_iff_eq]; omega
    have g2 : (x.size : Int) ≤ (y.size : Int) := by have := HN2.out; omega
    have g3 : x.size ≤ y.size := by omega
    have g4 : y.extract 0 x.size = x := tl_inj (by rw [tl_ext0S, hy, hxs, HXL.out]; show (Pb.key k P.toList S.toList r.toNat (N2 : Int).toNat).take N = _; rw [Int.toNat_natCast, Int.toNat_natCast]; exact Pb.key_begin _ _ _ _ _ _ (by have := HN2.out; omega))
    have hb05 := below2 hb04 hb5
    obtain ⟨_, _, _, _, hc5⟩ := HX4.out.below hb5 hl4
    clear hy hys hxs hb5 hb04 hc0 hc1 hc2 hc3 hc4
    go_wp2_with fail
    go_ret
    exact ⟨rfl, hb05⟩
  · have e1 : (c != 0) = true := by rw [bne_iff_ne]; exact h0
    clear h0
    go_enter Tryd.func5, Tryd.ntmps5
    go_wp2_with fail
    obtain ⟨w0, hw0, hX, hb0, hl0⟩ := ak_of w k P S r n
    rw [hw0]
    obtain ⟨B, hB⟩ : ∃ B, w.heap.size = B := ⟨_, rfl⟩
    have hF0 := hF.below hb0 hF.2.2
    rw [hB] at hX hl0 ⊢
    have HB := Lib.hid hB
    clear hw0 hB hF
    refine (wakes5_any _ hF0).mono ?_
    rintro e w1 ⟨rfl, hb1⟩
    have HF1 := Lib.hid (hF0.below hb1 hF0.2.2)
    have hl1 : B < w1.heap.size := Nat.lt_of_lt_of_le hl0 hb1.size
    have HX1 := Lib.hid (hX.below hb1 hl0)
    obtain ⟨hc0, hc1, hc2, hc3, hc4⟩ := HX1.out
    have hb01 := below2 hb0 hb1
    clear hX hb0 hb1 hl0 hF0
    go_wp2_with fail
    refine (LI.out _).mono ?_
    rintro e w2 ⟨rfl, hb2⟩
    have hl2 : B < w2.heap.size := Nat.lt_of_lt_of_le hl1 hb2.size
    have HX2 := Lib.hid (HX1.out.below hb2 hl1)
    have HF2 := Lib.hid (HF1.out.below hb2 HF1.out.2.2)
    have hb02 := below2 hb01 hb2
    clear hc0 hc1 hc2 hc3 hc4 hb01 hb2 hl1 HX1 HF1
    obtain ⟨hc0, hc1, hc2, hc3, hc4⟩ := HX2.out
    go_wp2_with fail
    refine (WR.out _).mono ?_
    rintro e w9 ⟨rfl, rfl⟩
    clear hc0 hc1 hc2 hc3 hc4
    go_wp2_with fail
    go_ret
    exact ⟨rfl, hb02⟩
end Go.Proofs.YtjlmmlnldjandaaDoor
