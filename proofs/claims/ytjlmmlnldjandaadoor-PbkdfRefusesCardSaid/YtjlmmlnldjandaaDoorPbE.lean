/- The walk of PbkdfKeeps. -/
import Derived.Test.YtjlmmlnldjandaaDoorPbD
namespace Go.Proofs.YtjlmmlnldjandaaDoor
open Go.RowKit
set_option linter.unusedVariables false
set_option linter.unusedSimpArgs false
theorem u8n_of_wf {a : Int} (h : (Lit.int .u8 a).wf = true) : ∃ n : Nat, a = (n : Int) ∧ n < 256 := by
  have h2 : IntKind.u8.min ≤ a ∧ a ≤ IntKind.u8.max := by simpa [Lit.wf] using h
  have e1 : IntKind.u8.min = 0 := by decide
  have e2 : IntKind.u8.max = 255 := by decide
  obtain ⟨n, rfl⟩ := Int.eq_ofNat_of_zero_le (a := a) (by omega)
  exact ⟨n, rfl, by omega⟩
theorem pbkdfBegins_walk8 (k : Int) (P S : ByteArray) (r n m : Int) (hm : (Lit.int .u8 m).wf = true) (sP : P.size ≤ 140737488351232) (w : World) (hF : Tb w) : Calls Tryd.prog 5 #[.agg #[.int .i64 k, .string P, .string S, .int .i64 r, .int .i64 n], .int .u8 m] w (RetT w) := by
  obtain ⟨j, rfl, hj⟩ := u8n_of_wf hm
  exact pbkdfBegins_walk k P S r n j hj sP w hF
set_option maxRecDepth 100000 in
set_option maxHeartbeats 3200000 in
theorem pbkdfKeeps_walk (k : Int) (P S : ByteArray) (r n : Int) (k2 : Int) (P2 S2 : ByteArray) (r2 n2 : Int) (sP : P.size ≤ 140737488351232) (sP2 : P2.size ≤ 140737488351232) (w : World) (hF : Tb w) : Calls Tryd.prog 6 #[.agg #[.int .i64 k, .string P, .string S, .int .i64 r, .int .i64 n], .agg #[.int .i64 k2, .string P2, .string S2, .int .i64 r2, .int .i64 n2]] w (RetT w) := by
  have HSP := Lib.hid (And.intro sP sP2)
  obtain ⟨c, hc⟩ : ∃ c, Pb.err k S.size r n = c := ⟨_, rfl⟩
  have HC := Lib.hid hc
  obtain ⟨b, hb⟩ : ∃ b, lightB P S r = b := ⟨_, rfl⟩
  obtain ⟨b2, hbb⟩ : ∃ b, lightB P2 S2 r2 = b := ⟨_, rfl⟩
  have LI := Lib.hid (fun w => light_any k P S r n w)
  have LI2 := Lib.hid (fun w => light_any k2 P2 S2 r2 n2 w)
  rw [hb] at LI
  rw [hbb] at LI2
  clear sP sP2 hc hb hbb
  go_enter Tryd.func6, Tryd.ntmps6
  go_wp2_with fail
  obtain ⟨w0, hw0, hX, hb0, hl0⟩ := ak_of w k P S r n
  rw [hw0]
  obtain ⟨B, hB⟩ : ∃ B, w.heap.size = B := ⟨_, rfl⟩
  have hs0 : w0.heap.size = B + 1 := by rw [← hw0, ← hB]; simp
  have hF0 := hF.below hb0 hF.2.2
  have e1 : w.heap.size + 1 = w0.heap.size := by rw [hs0, hB]
  rw [e1]
  obtain ⟨w9, hw9, hY, hb9, hl9⟩ := ak_of w0 k2 P2 S2 r2 n2
  rw [hw9]
  obtain ⟨D, hD⟩ : ∃ D, w0.heap.size = D := ⟨_, rfl⟩
  rw [hB] at hX hl0 ⊢
  rw [hD] at hY hl9 hl0 ⊢
  have hX9 := hX.below hb9 (by rw [hD]; exact hl0)
  have hF9 := hF0.below hb9 hF0.2.2
  have hb09 := below2 hb0 hb9
  have HB := Lib.hid (And.intro hB hl0)
  clear hw0 hB hF hw9 hX hb0 hb9 hF0 e1 hs0 hD hl0
  refine (wakes5_any _ hF9).mono ?_
  rintro e w1 ⟨rfl, hb1⟩
  have HF1 := Lib.hid (hF9.below hb1 hF9.2.2)
  have hl1 : D < w1.heap.size := Nat.lt_of_lt_of_le hl9 hb1.size
  have HX1 := Lib.hid (hX9.below hb1 (Nat.lt_trans HB.out.2 hl9))
  have HY1 := Lib.hid (hY.below hb1 hl9)
  obtain ⟨hc0, hc1, hc2, hc3, hc4⟩ := HX1.out
  obtain ⟨hd0, hd1, hd2, hd3, hd4⟩ := HY1.out
  have hb01 := below2 hb09 hb1
  clear hX9 hY hb09 hb1 hl9 hF9
  go_wp2_with fail
  refine (LI.out _).mono ?_
  rintro e w2 ⟨rfl, hb2⟩
  have hl2 : D < w2.heap.size := Nat.lt_of_lt_of_le hl1 hb2.size
  have HX2 := Lib.hid (HX1.out.below hb2 (Nat.lt_trans HB.out.2 hl1))
  have HY2 := Lib.hid (HY1.out.below hb2 hl1)
  have HF2 := Lib.hid (HF1.out.below hb2 HF1.out.2.2)
  have hb02 := below2 hb01 hb2
  clear hc0 hc1 hc2 hc3 hc4 hd0 hd1 hd2 hd3 hd4 hb01 hb2 hl1 HX1 HY1 HF1
  obtain ⟨hc0, hc1, hc2, hc3, hc4⟩ := HX2.out
  obtain ⟨hd0, hd1, hd2, hd3, hd4⟩ := HY2.out
  cases b
  · clear hc0 hc1 hc2 hc3 hc4 hd0 hd1 hd2 hd3 hd4
    go_wp2_with fail
    go_ret
    exact ⟨rfl, hb02⟩
  go_wp2_with fail
  refine (LI2.out _).mono ?_
  rintro e w3 ⟨rfl, hb3⟩
  have hl3 : D < w3.heap.size := Nat.lt_of_lt_of_le hl2 hb3.size
  have HX3 := Lib.hid (HX2.out.below hb3 (Nat.lt_trans HB.out.2 hl2))
  have HY3 := Lib.hid (HY2.out.below hb3 hl2)
  have HF3 := Lib.hid (HF2.out.below hb3 HF2.out.2.2)
  have hb03 := below2 hb02 hb3
  clear hc0 hc1 hc2 hc3 hc4 hd0 hd1 hd2 hd3 hd4 hb02 hb3 hl2 HX2 HY2 HF2
  obtain ⟨hc0, hc1, hc2, hc3, hc4⟩ := HX3.out
  obtain ⟨hd0, hd1, hd2, hd3, hd4⟩ := HY3.out
  cases b2
  · clear hc0 hc1 hc2 hc3 hc4 hd0 hd1 hd2 hd3 hd4
    go_wp2_with fail
    go_ret
    exact ⟨rfl, hb03⟩
  go_wp2_with fail
  refine (pkey_any k P S (by have := HSP.out; omega) r n _ HF3.out).mono ?_
  rintro e w4 ⟨x, rfl, hx, hb4⟩
  rw [HC.out]
  have HXL := Lib.hid hx
  have hl4 : D < w4.heap.size := Nat.lt_of_lt_of_le hl3 hb4.size
  have HX4 := Lib.hid (HX3.out.below hb4 (Nat.lt_trans HB.out.2 hl3))
  have HY4 := Lib.hid (HY3.out.below hb4 hl3)
  have HF4 := Lib.hid (HF3.out.below hb4 HF3.out.2.2)
  have hb04 := below2 hb03 hb4
  clear hc0 hc1 hc2 hc3 hc4 hd0 hd1 hd2 hd3 hd4 hb03 hb4 hl3 HX3 HY3 HF3
  obtain ⟨hc0, hc1, hc2, hc3, hc4⟩ := HX4.out
  obtain ⟨hd0, hd1, hd2, hd3, hd4⟩ := HY4.out
  clear hx
  go_wp2_with fail
  refine (pkey_any k2 P2 S2 (by have := HSP.out; omega) r2 n2 _ HF4.out).mono ?_
  rintro e w5 ⟨y, rfl, hy, hb5⟩
  have hl5 : D < w5.heap.size := Nat.lt_of_lt_of_le hl4 hb5.size
  have HX5 := Lib.hid (HX4.out.below hb5 (Nat.lt_trans HB.out.2 hl4))
  have HY5 := Lib.hid (HY4.out.below hb5 hl4)
  have HF5 := Lib.hid (HF4.out.below hb5 HF4.out.2.2)
  have hb05 := below2 hb04 hb5
  clear hc0 hc1 hc2 hc3 hc4 hd0 hd1 hd2 hd3 hd4 hb04 hb5 hl4 HX4 HY4 HF4
  obtain ⟨hc0, hc1, hc2, hc3, hc4⟩ := HX5.out
  obtain ⟨hd0, hd1, hd2, hd3, hd4⟩ := HY5.out
  clear hy
  go_wp2_with fail
  refine (pkey_any k P S (by have := HSP.out; omega) r n _ HF5.out).mono ?_
  rintro e w6 ⟨z, rfl, hz, hb6⟩
  rw [HC.out]
  obtain rfl : x = z := tl_inj (by rw [HXL.out, hz])
  have hb06 := below2 hb05 hb6
  clear hz hb6 hb05 hc0 hc1 hc2 hc3 hc4 hd0 hd1 hd2 hd3 hd4
  go_wp2_with fail
  go_ret
  exact ⟨rfl, hb06⟩
end Go.Proofs.YtjlmmlnldjandaaDoor
