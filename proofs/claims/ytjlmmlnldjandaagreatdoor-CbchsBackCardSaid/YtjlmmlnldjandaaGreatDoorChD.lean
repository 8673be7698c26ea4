/- What the laws of layer 11 lean on: an example, the way back, a boxed box, long, wakes. -/
import Derived.Test.YtjlmmlnldjandaaGreatDoorChC
namespace Go.Proofs.YtjlmmlnldjandaaGreatDoor
open Go.RowKit
set_option linter.unusedVariables false
set_option linter.unusedSimpArgs false
def cxhK : List UInt8 := [48, 49, 50, 51, 52, 53, 54, 55, 56, 57, 97, 98, 99, 100, 101, 102, 48, 49, 50, 51, 52, 53, 54, 55, 56, 57, 97, 98, 99, 100, 101, 102]
def cxhV : List UInt8 := [48, 49, 50, 51, 52, 53, 54, 55, 56, 57, 97, 98, 99, 100, 101, 102]
def cxhS : List UInt8 := [160, 230, 150, 134, 217, 122, 210, 143, 222, 90, 79, 61, 62, 235, 69, 91, 62, 209, 203, 142, 113, 149, 23, 237, 39, 23, 210, 13, 231, 149, 253, 21]
theorem chEx : chSea cxhK cxhV [120] [97, 98, 99] = cxhS := by decide +kernel
theorem chExY : (cxhS.drop 16 == chT cxhK cxhV [121] (cxhS.take 16)) = false := by decide +kernel
theorem selL_mod (K V T : List UInt8) (h : cbgE K.length V.length (cfitS T.length) = 0) : (selL K V T).length % 16 = 0 ∧ 16 ≤ (selL K V T).length ∧ (selL K V T).length ≤ T.length + 16 := by
  rw [selL_length K V T h]
  have h1 := padL_mod T
  have h2 := padL_size T
  omega
theorem chBack (K V A T : List UInt8) (h : chE K.length V.length A.length (fitT T.length) = 0) : chOpenE K V A (chSealL K V A T) = 0 ∧ chOpenL K V A (chSealL K V A T) = T := by
  obtain ⟨hk, hv, ha, hf⟩ := chE_zero h
  obtain ⟨m, hm, hd, hm2⟩ := half_of hk
  have hT : T.length ≤ 70000 := of_decide_eq_true hf
  have hkb : (K.drop m).length = m := by rw [List.length_drop]; omega
  have hcb : cbgE (K.drop m).length V.length (cfitS T.length) = 0 := by
    rw [hkb, cbgE, if_pos (keyOk_yes (by omega)), if_pos hv, if_pos (show cfitS T.length = true from decide_eq_true hT)]
  have hso := seal_open _ _ _ hcb
  have hsm := selL_mod _ _ _ hcb
  obtain ⟨C, hC⟩ : ∃ C, selL (K.drop m) V T = C := ⟨_, rfl⟩
  have hG := chT_length K V A C hk
  rw [hC] at hso hsm
  have hS : chSealL K V A T = C ++ chT K V A C := by rw [chSealL, if_pos h, chSea, hd, hC]
  have hl : (chSealL K V A T).length = C.length + m := by rw [hS, List.length_append, hG, hd]
  have hE : chE K.length V.length A.length (fitH (chSealL K V A T).length (K.length / 2)) = 0 := by
    have hfit : fitH (chSealL K V A T).length (K.length / 2) = true := by
      rw [fitH, decide_eq_true_iff, hl, hd]
      omega
    rw [chE, if_pos hk, if_pos hv, if_pos ⟨ha, hfit⟩]
  have hCut : chCut K (chSealL K V A T) = C := by
    rw [chCut, hl, hd, Nat.add_sub_cancel, hS, List.take_left' rfl]
  have hDr : (chSealL K V A T).drop ((chSealL K V A T).length - K.length / 2) = chT K V A C := by
    rw [hl, hd, Nat.add_sub_cancel, hS, List.drop_left' rfl]
  have hOE : chOpenE K V A (chSealL K V A T) = 0 := by
    rw [chOpenE, if_pos hE, chOpE, hDr, hCut, if_pos rfl, hd, if_pos hso.1]
  exact ⟨hOE, by rw [chOpenL, if_pos hOE, hCut, hd, hso.2]⟩
/-- a box in memory -/
def Bh (w : World) (B : Nat) (key iv aad : ByteArray) : Prop :=
  w.cell? ⟨B, 0, none⟩ = some (.string key) ∧ w.cell? ⟨B, 1, none⟩ = some (.string iv) ∧ w.cell? ⟨B, 2, none⟩ = some (.string aad)
theorem Bh.below {w w' : World} {B B' : Nat} {key iv aad : ByteArray} (h : Bh w B key iv aad) (hb : Below B' w w') (hB : B < B') : Bh w' B key iv aad :=
  ⟨(hb.cell (p := ⟨B, 0, none⟩) hB).trans h.1, (hb.cell (p := ⟨B, 1, none⟩) hB).trans h.2.1, (hb.cell (p := ⟨B, 2, none⟩) hB).trans h.2.2⟩
theorem box_bh (w : World) (key iv aad : ByteArray) : ∃ w0, w.alloc (Obj.cells #[.string key, .string iv, .string aad] 23) = w0 ∧ Bh w0 w.heap.size key iv aad ∧ Below w.heap.size w w0 ∧ w.heap.size < w0.heap.size := by
  have h := At.ofAlloc w #[.string key, .string iv, .string aad] 23
  exact ⟨_, rfl, ⟨h.cell 0 _ rfl, h.cell 1 _ rfl, h.cell 2 _ rfl⟩, (Below.refl _ _).alloc (Nat.le_refl _) _, by simp⟩
def RetBh (w : World) (e : Ending) (w' : World) : Prop := ∃ b : Bool, e = .returned (.bool b) ∧ Below w.heap.size w w'
set_option maxRecDepth 100000 in
set_option maxHeartbeats 1600000 in
theorem bhlong_any (key iv aad text : ByteArray) (w : World) : Calls Tryz.prog 10 #[.agg #[.string key, .string iv, .string aad], .string text] w (RetBh w) := by
  by_cases h1 : (2000 : Int) < (aad.size : Int)
  · by_cases h2 : (aad.size : Int) ≤ 70000
    ·
      go_enter Tryz.func10, Tryz.ntmps10
      go_wp2_with fail
      go_ret
      exact ⟨_, rfl, (Below.refl _ _).alloc (Nat.le_refl _) _⟩
    · by_cases h3 : (2000 : Int) < (text.size : Int)
      · by_cases h4 : (text.size : Int) ≤ 70048
        all_goals
          go_enter Tryz.func10, Tryz.ntmps10
          go_wp2_with fail
          go_ret
          exact ⟨_, rfl, (Below.refl _ _).alloc (Nat.le_refl _) _⟩
      ·
        go_enter Tryz.func10, Tryz.ntmps10
        go_wp2_with fail
        go_ret
        exact ⟨_, rfl, (Below.refl _ _).alloc (Nat.le_refl _) _⟩
  · by_cases h3 : (2000 : Int) < (text.size : Int)
    · by_cases h4 : (text.size : Int) ≤ 70048
      all_goals
        go_enter Tryz.func10, Tryz.ntmps10
        go_wp2_with fail
        go_ret
        exact ⟨_, rfl, (Below.refl _ _).alloc (Nat.le_refl _) _⟩
    ·
      go_enter Tryz.func10, Tryz.ntmps10
      go_wp2_with fail
      go_ret
      exact ⟨_, rfl, (Below.refl _ _).alloc (Nat.le_refl _) _⟩
set_option maxRecDepth 100000 in
set_option maxHeartbeats 3200000 in
theorem wakes11_any (w : World) (hT : Tb w) : Calls Tryz.prog 9 #[] w (RetT w) := by
  have hkl : (ByteArray.mk #[48, 49, 50, 51, 52, 53, 54, 55, 56, 57, 97, 98, 99, 100, 101, 102, 48, 49, 50, 51, 52, 53, 54, 55, 56, 57, 97, 98, 99, 100, 101, 102]).toList = cxhK := tl_mk cxhK
  have hvl : (ByteArray.mk #[48, 49, 50, 51, 52, 53, 54, 55, 56, 57, 97, 98, 99, 100, 101, 102]).toList = cxhV := tl_mk cxhV
  have hxl : (ByteArray.mk #[120]).toList = [120] := tl_mk [120]
  have hyl : (ByteArray.mk #[121]).toList = [121] := tl_mk [121]
  have htl : (ByteArray.mk #[97, 98, 99]).toList = [97, 98, 99] := tl_mk [97, 98, 99]
  have hsl : (ByteArray.mk #[160, 230, 150, 134, 217, 122, 210, 143, 222, 90, 79, 61, 62, 235, 69, 91, 62, 209, 203, 142, 113, 149, 23, 237, 39, 23, 210, 13, 231, 149, 253, 21]).toList = cxhS := tl_mk cxhS
  have hE : chE cxhK.length cxhV.length ([120] : List UInt8).length (fitT ([97, 98, 99] : List UInt8).length) = 0 := by decide
  have hS : chSealL cxhK cxhV [120] [97, 98, 99] = cxhS := by rw [chSealL, if_pos hE, chEx]
  have hbk := chBack cxhK cxhV [120] [97, 98, 99] hE
  rw [hS] at hbk
  have hY : chOpenE cxhK cxhV [121] cxhS = 8 := by
    rw [chOpenE, if_pos (by decide), chOpE, if_neg (by have h := chExY; rw [beq_eq_false_iff_ne] at h; exact h)]
  have HS := Lib.hid (fun w hT => chSeal_any (ByteArray.mk #[48, 49, 50, 51, 52, 53, 54, 55, 56, 57, 97, 98, 99, 100, 101, 102, 48, 49, 50, 51, 52, 53, 54, 55, 56, 57, 97, 98, 99, 100, 101, 102]) (ByteArray.mk #[48, 49, 50, 51, 52, 53, 54, 55, 56, 57, 97, 98, 99, 100, 101, 102]) (ByteArray.mk #[120]) (ByteArray.mk #[97, 98, 99]) w hT)
  have HO := Lib.hid (fun w hT => chOpen_any (ByteArray.mk #[48, 49, 50, 51, 52, 53, 54, 55, 56, 57, 97, 98, 99, 100, 101, 102, 48, 49, 50, 51, 52, 53, 54, 55, 56, 57, 97, 98, 99, 100, 101, 102]) (ByteArray.mk #[48, 49, 50, 51, 52, 53, 54, 55, 56, 57, 97, 98, 99, 100, 101, 102]) (ByteArray.mk #[120]) (ByteArray.mk #[160, 230, 150, 134, 217, 122, 210, 143, 222, 90, 79, 61, 62, 235, 69, 91, 62, 209, 203, 142, 113, 149, 23, 237, 39, 23, 210, 13, 231, 149, 253, 21]) (by decide) w hT)
  have HY := Lib.hid (fun w hT => chOpen_any (ByteArray.mk #[48, 49, 50, 51, 52, 53, 54, 55, 56, 57, 97, 98, 99, 100, 101, 102, 48, 49, 50, 51, 52, 53, 54, 55, 56, 57, 97, 98, 99, 100, 101, 102]) (ByteArray.mk #[48, 49, 50, 51, 52, 53, 54, 55, 56, 57, 97, 98, 99, 100, 101, 102]) (ByteArray.mk #[121]) (ByteArray.mk #[160, 230, 150, 134, 217, 122, 210, 143, 222, 90, 79, 61, 62, 235, 69, 91, 62, 209, 203, 142, 113, 149, 23, 237, 39, 23, 210, 13, 231, 149, 253, 21]) (by decide) w hT)
  rw [hkl, hvl, hxl, htl, hS, show chE (ByteArray.mk #[48, 49, 50, 51, 52, 53, 54, 55, 56, 57, 97, 98, 99, 100, 101, 102, 48, 49, 50, 51, 52, 53, 54, 55, 56, 57, 97, 98, 99, 100, 101, 102]).size (ByteArray.mk #[48, 49, 50, 51, 52, 53, 54, 55, 56, 57, 97, 98, 99, 100, 101, 102]).size (ByteArray.mk #[120]).size (fitT (ByteArray.mk #[97, 98, 99]).size) = 0 by decide] at HS
  rw [hkl, hvl, hxl, hsl, hbk.1, hbk.2] at HO
  rw [hkl, hvl, hyl, hsl, hY] at HY
  have HT := Lib.hid hT
  clear hkl hvl hxl hyl htl hE hS hbk hY hT
  have HSL := Lib.hid hsl
  clear hsl
  go_enter Tryz.func9, Tryz.ntmps9
  go_wp2_with fail
  refine (HS.out _ HT.out).mono ?_
  rintro e w1 ⟨x, rfl, hx, hb1⟩
  obtain rfl : x = (ByteArray.mk #[160, 230, 150, 134, 217, 122, 210, 143, 222, 90, 79, 61, 62, 235, 69, 91, 62, 209, 203, 142, 113, 149, 23, 237, 39, 23, 210, 13, 231, 149, 253, 21]) := tl_inj (by rw [hx, HSL.out])
  have HT1 := Lib.hid (HT.out.below hb1 HT.out.2.2)
  clear hx
  go_wp2_with fail
  refine (HO.out _ HT1.out).mono ?_
  rintro e w2 ⟨x, rfl, hx, hb2⟩
  obtain rfl : x = ByteArray.mk #[97, 98, 99] := tl_inj (by rw [hx]; exact (tl_mk _).symm)
  have HT2 := Lib.hid (HT1.out.below hb2 HT1.out.2.2)
  clear hx
  go_wp2_with fail
  refine (HY.out _ HT2.out).mono ?_
  rintro e w3 ⟨x, rfl, hx, hb3⟩
  clear hx
  go_wp2_with fail
  go_ret
  exact ⟨rfl, below2 (below2 hb1 hb2) hb3⟩
set_option maxRecDepth 100000 in
set_option maxHeartbeats 1600000 in
theorem cbchsSeals_walk (key iv aad text : ByteArray) (zt : text.size ≤ 140737488351232) (w : World) (hF : Tb w) : Calls Tryz.prog 3 #[.agg #[.string key, .string iv, .string aad], .string text] w (RetT w) := by
  obtain ⟨c, hc⟩ : ∃ c, chE key.size iv.size aad.size (fitT text.size) = c := ⟨_, rfl⟩
  have HC := Lib.hid hc
  have HZ := Lib.hid zt
  clear hc zt
  go_enter Tryz.func3, Tryz.ntmps3
  go_wp2_with fail
  obtain ⟨w0, hw0, hX, hb0, hl0⟩ := box_bh w key iv aad
  rw [hw0]
  obtain ⟨B, hB⟩ : ∃ B, w.heap.size = B := ⟨_, rfl⟩
  have hF0 := hF.below hb0 hF.2.2
  rw [hB] at hX hl0 ⊢
  have HB := Lib.hid hB
  clear hw0 hB hF
  refine (wakes11_any _ hF0).mono ?_
  rintro e w1 ⟨rfl, hb1⟩
  have HF1 := Lib.hid (hF0.below hb1 hF0.2.2)
  have hl1 : B < w1.heap.size := Nat.lt_of_lt_of_le hl0 hb1.size
  have HX1 := Lib.hid (hX.below hb1 hl0)
  obtain ⟨hc0, hc1, hc2⟩ := HX1.out
  have hb01 := below2 hb0 hb1
  clear hX hb0 hb1 hl0 hF0
  go_wp2_with fail
  refine (bhlong_any key iv aad text _).mono ?_
  rintro e w2 ⟨b, rfl, hb2⟩
  have hl2 : B < w2.heap.size := Nat.lt_of_lt_of_le hl1 hb2.size
  have HX2 := Lib.hid (HX1.out.below hb2 hl1)
  have HF2 := Lib.hid (HF1.out.below hb2 HF1.out.2.2)
  have hb02 := below2 hb01 hb2
  clear hc0 hc1 hc2 hb01 hb2 hl1 HX1 HF1
  obtain ⟨hc0, hc1, hc2⟩ := HX2.out
  cases b
  · go_wp2_with fail
    refine (chSeal_any key iv aad text _ HF2.out).mono ?_
    rintro e w3 ⟨x1, rfl, hx1, hb3⟩
    rw [HC.out]
    have HX1L := Lib.hid hx1
    have hl3 : B < w3.heap.size := Nat.lt_of_lt_of_le hl2 hb3.size
    have HX3 := Lib.hid (HX2.out.below hb3 hl2)
    have HF3 := Lib.hid (HF2.out.below hb3 HF2.out.2.2)
    have hb03 := below2 hb02 hb3
    clear hc0 hc1 hc2 hb02 hb3 hl2 HX2 HF2
    obtain ⟨hc0, hc1, hc2⟩ := HX3.out
    clear hx1
    go_wp2_with fail
    refine (rchSeal_any key iv aad text _).mono ?_
    rintro e w4 ⟨x2, rfl, hx2, hb4⟩
    rw [HC.out]
    obtain rfl : x1 = x2 := tl_inj (by rw [HX1L.out, hx2])
    have hb04 := below2 hb03 hb4
    clear hx2 hc0 hc1 hc2 hb4 hb03
    go_wp2_with fail
    go_ret
    exact ⟨rfl, hb04⟩
  · clear hc0 hc1 hc2
    go_wp2_with fail
    go_ret
    exact ⟨rfl, hb02⟩
set_option maxRecDepth 100000 in
set_option maxHeartbeats 1600000 in
theorem cbchsOpens_walk (key iv aad text : ByteArray) (zt : text.size ≤ 140737488351232) (w : World) (hF : Tb w) : Calls Tryz.prog 4 #[.agg #[.string key, .string iv, .string aad], .string text] w (RetT w) := by
  obtain ⟨c, hc⟩ : ∃ c, chOpenE key.toList iv.toList aad.toList text.toList = c := ⟨_, rfl⟩
  have HC := Lib.hid hc
  have HZ := Lib.hid zt
  clear hc zt
  go_enter Tryz.func4, Tryz.ntmps4
  go_wp2_with fail
  obtain ⟨w0, hw0, hX, hb0, hl0⟩ := box_bh w key iv aad
  rw [hw0]
  obtain ⟨B, hB⟩ : ∃ B, w.heap.size = B := ⟨_, rfl⟩
  have hF0 := hF.below hb0 hF.2.2
  rw [hB] at hX hl0 ⊢
  have HB := Lib.hid hB
  clear hw0 hB hF
  refine (wakes11_any _ hF0).mono ?_
  rintro e w1 ⟨rfl, hb1⟩
  have HF1 := Lib.hid (hF0.below hb1 hF0.2.2)
  have hl1 : B < w1.heap.size := Nat.lt_of_lt_of_le hl0 hb1.size
  have HX1 := Lib.hid (hX.below hb1 hl0)
  obtain ⟨hc0, hc1, hc2⟩ := HX1.out
  have hb01 := below2 hb0 hb1
  clear hX hb0 hb1 hl0 hF0
  go_wp2_with fail
  refine (bhlong_any key iv aad text _).mono ?_
  rintro e w2 ⟨b, rfl, hb2⟩
  have hl2 : B < w2.heap.size := Nat.lt_of_lt_of_le hl1 hb2.size
  have HX2 := Lib.hid (HX1.out.below hb2 hl1)
  have HF2 := Lib.hid (HF1.out.below hb2 HF1.out.2.2)
  have hb02 := below2 hb01 hb2
  clear hc0 hc1 hc2 hb01 hb2 hl1 HX1 HF1
  obtain ⟨hc0, hc1, hc2⟩ := HX2.out
  cases b
  · go_wp2_with fail
    refine (chOpen_any key iv aad text HZ.out _ HF2.out).mono ?_
    rintro e w3 ⟨x1, rfl, hx1, hb3⟩
    rw [HC.out]
    have HX1L := Lib.hid hx1
    have hl3 : B < w3.heap.size := Nat.lt_of_lt_of_le hl2 hb3.size
    have HX3 := Lib.hid (HX2.out.below hb3 hl2)
    have HF3 := Lib.hid (HF2.out.below hb3 HF2.out.2.2)
    have hb03 := below2 hb02 hb3
    clear hc0 hc1 hc2 hb02 hb3 hl2 HX2 HF2
    obtain ⟨hc0, hc1, hc2⟩ := HX3.out
    clear hx1
    go_wp2_with fail
    refine (rchOpen_any key iv aad text HZ.out _).mono ?_
    rintro e w4 ⟨x2, rfl, hx2, hb4⟩
    rw [HC.out]
    obtain rfl : x1 = x2 := tl_inj (by rw [HX1L.out, hx2])
    have hb04 := below2 hb03 hb4
    clear hx2 hc0 hc1 hc2 hb4 hb03
    go_wp2_with fail
    go_ret
    exact ⟨rfl, hb04⟩
  · clear hc0 hc1 hc2
    go_wp2_with fail
    go_ret
    exact ⟨rfl, hb02⟩
set_option maxRecDepth 100000 in
set_option maxHeartbeats 1600000 in
theorem cbchsTags_walk (key iv aad text : ByteArray) (zt : text.size ≤ 140737488351232) (w : World) (hF : Tb w) : Calls Tryz.prog 5 #[.agg #[.string key, .string iv, .string aad], .string text] w (RetT w) := by
  obtain ⟨c, hc⟩ : ∃ c, chE key.size iv.size aad.size (fitC text.size) = c := ⟨_, rfl⟩
  have HC := Lib.hid hc
  have HZ := Lib.hid zt
  clear hc zt
  go_enter Tryz.func5, Tryz.ntmps5
  go_wp2_with fail
  obtain ⟨w0, hw0, hX, hb0, hl0⟩ := box_bh w key iv aad
  rw [hw0]
  obtain ⟨B, hB⟩ : ∃ B, w.heap.size = B := ⟨_, rfl⟩
  have hF0 := hF.below hb0 hF.2.2
  rw [hB] at hX hl0 ⊢
  have HB := Lib.hid hB
  clear hw0 hB hF
  refine (wakes11_any _ hF0).mono ?_
  rintro e w1 ⟨rfl, hb1⟩
  have HF1 := Lib.hid (hF0.below hb1 hF0.2.2)
  have hl1 : B < w1.heap.size := Nat.lt_of_lt_of_le hl0 hb1.size
  have HX1 := Lib.hid (hX.below hb1 hl0)
  obtain ⟨hc0, hc1, hc2⟩ := HX1.out
  have hb01 := below2 hb0 hb1
  clear hX hb0 hb1 hl0 hF0
  go_wp2_with fail
  refine (bhlong_any key iv aad text _).mono ?_
  rintro e w2 ⟨b, rfl, hb2⟩
  have hl2 : B < w2.heap.size := Nat.lt_of_lt_of_le hl1 hb2.size
  have HX2 := Lib.hid (HX1.out.below hb2 hl1)
  have HF2 := Lib.hid (HF1.out.below hb2 HF1.out.2.2)
  have hb02 := below2 hb01 hb2
  clear hc0 hc1 hc2 hb01 hb2 hl1 HX1 HF1
  obtain ⟨hc0, hc1, hc2⟩ := HX2.out
  cases b
  · go_wp2_with fail
    refine (chTag_any key iv aad text _ HF2.out).mono ?_
    rintro e w3 ⟨x1, rfl, hx1, hb3⟩
    rw [HC.out]
    have HX1L := Lib.hid hx1
    have hl3 : B < w3.heap.size := Nat.lt_of_lt_of_le hl2 hb3.size
    have HX3 := Lib.hid (HX2.out.below hb3 hl2)
    have HF3 := Lib.hid (HF2.out.below hb3 HF2.out.2.2)
    have hb03 := below2 hb02 hb3
    clear hc0 hc1 hc2 hb02 hb3 hl2 HX2 HF2
    obtain ⟨hc0, hc1, hc2⟩ := HX3.out
    clear hx1
    go_wp2_with fail
    refine (rchTag_any key iv aad text _).mono ?_
    rintro e w4 ⟨x2, rfl, hx2, hb4⟩
    rw [HC.out]
    obtain rfl : x1 = x2 := tl_inj (by rw [HX1L.out, hx2])
    have hb04 := below2 hb03 hb4
    clear hx2 hc0 hc1 hc2 hb4 hb03
    go_wp2_with fail
    go_ret
    exact ⟨rfl, hb04⟩
  · clear hc0 hc1 hc2
    go_wp2_with fail
    go_ret
    exact ⟨rfl, hb02⟩
theorem emptyH {s : ByteArray} (h : s.toList = []) : s = ByteArray.mk #[] := tl_inj (by rw [h]; exact (tl_mk []).symm)
set_option maxRecDepth 100000 in
set_option maxHeartbeats 1600000 in
theorem cbchsBack_walk (key iv aad text : ByteArray) (zt : text.size ≤ 140737488351232) (w : World) (hF : Tb w) : Calls Tryz.prog 6 #[.agg #[.string key, .string iv, .string aad], .string text] w (RetT w) := by
  obtain ⟨c, hc⟩ : ∃ c, chE key.size iv.size aad.size (fitT text.size) = c := ⟨_, rfl⟩
  have HC := Lib.hid hc
  by_cases h0 : c = 0
  · subst h0
    have hbk := chBack key.toList iv.toList aad.toList text.toList (by rw [tl_size, tl_size, tl_size, tl_size]; exact hc)
    have HBK := Lib.hid hbk
    obtain ⟨hk, _, _, hff⟩ := chE_zero hc
    have hts : text.size ≤ 70000 := of_decide_eq_true hff
    have hsl : (chSealL key.toList iv.toList aad.toList text.toList).length ≤ 70048 := by
      unfold chSealL
      split
      · rw [chSea, List.length_append, chT_length _ _ _ _ (by rw [tl_size]; exact hk), tl_size]
        have := selL_size (key.toList.drop (key.size / 2)) iv.toList text.toList (by rw [tl_size]; exact hts)
        omega
      · exact Nat.zero_le _
    have HSL := Lib.hid hsl
    clear hc hbk hk hff hts hsl zt
    go_enter Tryz.func6, Tryz.ntmps6
    go_wp2_with fail
    obtain ⟨w0, hw0, hX, hb0, hl0⟩ := box_bh w key iv aad
    rw [hw0]
    obtain ⟨B, hB⟩ : ∃ B, w.heap.size = B := ⟨_, rfl⟩
    have hF0 := hF.below hb0 hF.2.2
    rw [hB] at hX hl0 ⊢
    have HB := Lib.hid hB
    clear hw0 hB hF
    refine (wakes11_any _ hF0).mono ?_
    rintro e w1 ⟨rfl, hb1⟩
    have HF1 := Lib.hid (hF0.below hb1 hF0.2.2)
    have hl1 : B < w1.heap.size := Nat.lt_of_lt_of_le hl0 hb1.size
    have HX1 := Lib.hid (hX.below hb1 hl0)
    obtain ⟨hc0, hc1, hc2⟩ := HX1.out
    have hb01 := below2 hb0 hb1
    clear hX hb0 hb1 hl0 hF0
    go_wp2_with fail
    refine (chSeal_any key iv aad text _ HF1.out).mono ?_
    rintro e w2 ⟨x, rfl, hx, hb2⟩
    rw [HC.out]
    have hxs : x.size ≤ 140737488351232 := by rw [← tl_size, hx]; have := HSL.out; omega
    have HXX := Lib.hid hx
    have HXS := Lib.hid hxs
    have hl2 : B < w2.heap.size := Nat.lt_of_lt_of_le hl1 hb2.size
    have HX2 := Lib.hid (HX1.out.below hb2 hl1)
    have HF2 := Lib.hid (HF1.out.below hb2 HF1.out.2.2)
    have hb02 := below2 hb01 hb2
    clear hc0 hc1 hc2 hb01 hb2 hl1 HX1 HF1
    obtain ⟨hc0, hc1, hc2⟩ := HX2.out
    clear hx hxs
    go_wp2_with fail
    refine (chOpen_any key iv aad x HXS.out _ HF2.out).mono ?_
    rintro e w3 ⟨t, rfl, ht, hb3⟩
    rw [HXX.out, HBK.out.1]
    rw [HXX.out, HBK.out.2] at ht
    obtain rfl := tl_inj ht
    have hl3 : B < w3.heap.size := Nat.lt_of_lt_of_le hl2 hb3.size
    have HX3 := Lib.hid (HX2.out.below hb3 hl2)
    have HF3 := Lib.hid (HF2.out.below hb3 HF2.out.2.2)
    have hb03 := below2 hb02 hb3
    clear hc0 hc1 hc2 hb02 hb3 hl2 HX2 HF2
    obtain ⟨hc0, hc1, hc2⟩ := HX3.out
    clear ht
    go_wp2_with fail
    go_ret
    exact ⟨rfl, hb03⟩
  · have e1 : (c != 0) = true := by rw [bne_iff_ne]; exact h0
    have HL : Hid (chSealL key.toList iv.toList aad.toList text.toList = []) := by show _ = _; rw [chSealL, tl_size, tl_size, tl_size, tl_size, hc, if_neg h0]
    clear hc h0 zt
    go_enter Tryz.func6, Tryz.ntmps6
    go_wp2_with fail
    obtain ⟨w0, hw0, hX, hb0, hl0⟩ := box_bh w key iv aad
    rw [hw0]
    obtain ⟨B, hB⟩ : ∃ B, w.heap.size = B := ⟨_, rfl⟩
    have hF0 := hF.below hb0 hF.2.2
    rw [hB] at hX hl0 ⊢
    have HB := Lib.hid hB
    clear hw0 hB hF
    refine (wakes11_any _ hF0).mono ?_
    rintro e w1 ⟨rfl, hb1⟩
    have HF1 := Lib.hid (hF0.below hb1 hF0.2.2)
    have hl1 : B < w1.heap.size := Nat.lt_of_lt_of_le hl0 hb1.size
    have HX1 := Lib.hid (hX.below hb1 hl0)
    obtain ⟨hc0, hc1, hc2⟩ := HX1.out
    have hb01 := below2 hb0 hb1
    clear hX hb0 hb1 hl0 hF0
    go_wp2_with fail
    refine (chSeal_any key iv aad text _ HF1.out).mono ?_
    rintro e w2 ⟨x, rfl, hx, hb2⟩
    rw [HC.out]
    rw [HL.out] at hx
    obtain rfl := emptyH hx
    have hb02 := below2 hb01 hb2
    clear hx hb2 hb01 hc0 hc1 hc2
    go_wp2_with fail
    go_ret
    exact ⟨rfl, hb02⟩
end Go.Proofs.YtjlmmlnldjandaaGreatDoor
