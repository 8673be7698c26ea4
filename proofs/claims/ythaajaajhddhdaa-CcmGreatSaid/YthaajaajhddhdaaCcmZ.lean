/- The walk of CcmGreat. -/
import Derived.Test.YthaajaajhddhdaaCcmU
namespace Go.Proofs.Ythaajaajhddhdaa
open Go.RowKit
set_option linter.unusedVariables false
set_option linter.unusedSimpArgs false
def grt : List Nat := [0, 65279, 65280, 65281, 65535, 65536, 70000, 70001]
theorem grt_at (i : Nat) (h : i < 8) : ∃ n, grt[i]? = some n ∧ n ≤ 70001 := by
  match i, h with
  | 0, _ | 1, _ | 2, _ | 3, _ | 4, _ | 5, _ | 6, _ | 7, _ => exact ⟨_, rfl, by decide⟩
theorem grt_w (w : World) : ∃ wa, w.alloc (Obj.cells #[.int .i64 0, .int .i64 65279, .int .i64 65280, .int .i64 65281, .int .i64 65535, .int .i64 65536, .int .i64 70000, .int .i64 70001] 32) = wa ∧
    At wa w.heap.size 0 (grt.map fun (n : Nat) => Value.int .i64 (n : Int)) ∧ Below w.heap.size w wa ∧ w.heap.size < wa.heap.size := by
  have h := At.ofAlloc w #[.int .i64 0, .int .i64 65279, .int .i64 65280, .int .i64 65281, .int .i64 65535, .int .i64 65536, .int .i64 70000, .int .i64 70001] 32
  exact ⟨_, rfl, h, (Below.refl _ _).alloc (Nat.le_refl _) _, by simp⟩
theorem grt_sel (i n : Nat) (hn : grt[i]? = some n) (h : i < 8) : ([.int .i64 0, .int .i64 65279, .int .i64 65280, .int .i64 65281, .int .i64 65535, .int .i64 65536, .int .i64 70000, .int .i64 70001] : List Value)[i]'h = .int .i64 (n : Int) := by
  match i, h with
  | 0, _ | 1, _ | 2, _ | 3, _ | 4, _ | 5, _ | 6, _ | 7, _ => injection hn with hn; subst hn; rfl
theorem grt_cell {w : World} {g i n : Nat} (h : At w g 0 (grt.map fun (n : Nat) => Value.int .i64 (n : Int))) (hn : grt[i]? = some n) : w.cell? ⟨g, i, none⟩ = some (.int .i64 (n : Int)) := by
  have := h.cell i (.int .i64 (n : Int)) (by rw [List.getElem?_map, hn]; rfl)
  rwa [Nat.zero_add] at this
theorem one_bx (w : World) (key nonce aad : ByteArray) (s : Int) : ∃ w0, w.alloc (Obj.cells #[.string key, .string nonce, .string aad, .int .i64 s] 23) = w0 ∧ At w0 w.heap.size 0 (bxc key nonce aad s) ∧ Below w.heap.size w w0 ∧ w.heap.size < w0.heap.size := by
  have h := At.ofAlloc w #[.string key, .string nonce, .string aad, .int .i64 s] 23
  exact ⟨_, rfl, h, (Below.refl _ _).alloc (Nat.le_refl _) _, by simp⟩
set_option maxRecDepth 100000 in
set_option maxHeartbeats 3200000 in
theorem great_A (key nonce aad : ByteArray) (s : Int) (a t : UInt8) (i j m : Nat) (hi0 : a.toNat % 8 = i) (hj0 : t.toNat % 8 = j) (hA : i = 0) (hn : grt[0]? = some 0) (hm : grt[j]? = some m) (hnb : 0 ≤ 70001) (hmb : m ≤ 70001) (w : World) : Calls Try.prog 7 #[.agg #[.string key, .string nonce, .string aad, .int .i64 s], .int .u8 (a.toNat : Int), .int .u8 (t.toNat : Int)] w (RetT w) := by
  obtain ⟨i0, hi, hz0, hz1, hz2⟩ := info_parts info5
  have hi8 : i < 8 := by omega
  have hj8 : j < 8 := by omega
  subst hA
  have ra2 : IntKind.u8.wrap ((0 : Nat) : Int) = ((0 : Nat) : Int) := rfl
  have rb2 : IntKind.u8.wrap (j : Int) = (j : Int) := by simp [IntKind.wrap, IntKind.bits, IntKind.signed]; omega
  have ra1 : (a.toNat : Int).tmod 8 = ((0 : Nat) : Int) := tmod_nat _ 8 _ hi0.symm
  have rb1 : (t.toNat : Int).tmod 8 = (j : Int) := tmod_nat _ 8 _ hj0.symm
  have ra4 : (0 : Int) < 8 := by omega
  have ra5 : (0 : Int) ≤ (0 : Int) := by omega
  have rb4 : (j : Int) < 8 := by omega
  have rb5 : (0 : Int) ≤ (j : Int) := by omega
  have HNB := Lib.hid hnb
  have HMB := Lib.hid hmb
  have HN := Lib.hid hn
  have HM := Lib.hid hm
  have HF1 := Lib.hid (bcells_made 0)
  have HF2 := Lib.hid (bcells_made m)
  have HBY1 : Hid (i0.bytes * 0 ≤ 281474976710656) := by show _ ≤ _; rw [hz2]; omega
  have HMX1 : Hid (0 ≤ maxLen) := by show _ ≤ _; unfold maxLen; omega
  have HBY2 : Hid (i0.bytes * m ≤ 281474976710656) := by show _ ≤ _; rw [hz2]; omega
  have HMX2 : Hid (m ≤ maxLen) := by show _ ≤ _; unfold maxLen; omega
  obtain ⟨p, hp⟩ : ∃ p : ByteArray, (⟨(List.replicate 0 (0 : UInt8)).toArray⟩ : ByteArray) = p := ⟨_, rfl⟩
  obtain ⟨q, hq⟩ : ∃ q : ByteArray, (⟨(List.replicate m (0 : UInt8)).toArray⟩ : ByteArray) = q := ⟨_, rfl⟩
  have HQS : Hid (q.size ≤ 140737488355328) := by show _ ≤ _; rw [← hq, size_mk, List.length_replicate]; omega
  have HZX1 := Lib.hid hp
  have HZX2 := Lib.hid hq
  obtain ⟨c, hc⟩ : ∃ c, ccE key.size nonce.size p.size s (q.size : Int) = c := ⟨_, rfl⟩
  have HC := Lib.hid hc
  clear hnb hmb hn hm hp hq hc hi0 hj0
  go_enter Try.func7, Try.ntmps7
  go_wp2_with fail
  obtain ⟨w0, hw0, hX, hb0, hl0⟩ := one_bx w key nonce aad s
  rw [hw0]
  obtain ⟨B, hB⟩ : ∃ B, w.heap.size = B := ⟨_, rfl⟩
  rw [hB] at hX hl0 ⊢
  have HB := Lib.hid hB
  clear hw0 hB
  refine (wakes10_any _).mono ?_
  rintro e w1 ⟨rfl, hb1⟩
  have hl1 : B < w1.heap.size := Nat.lt_of_lt_of_le hl0 hb1.size
  have hX1 := hX.below hb1 hl0
  have hb01 := below2 hb0 hb1
  obtain ⟨wa, hwa, hG, hba, hla⟩ := grt_w w1
  have HWA := Lib.hid hwa
  have HX1 := Lib.hid (hX1.below hba hl1)
  have hb0a := below2 hb01 hba
  have HG := Lib.hid hG
  have hlB : B < wa.heap.size := Nat.lt_trans hl1 hla
  clear hX hb0 hb1 hl0 hb01 hX1 hba hwa hG
  go_wp2_with (first | (at_make; rw [HWA.out]; refine wpList_make_full _ rfl (.tmp 27) (.tmp 27) 33 rfl wa.heap.size 5 i0 (.int .u8 0) 1 Try.underlying33 hi hz0 hz1 .i64 .i64 _ _ 0 rfl rfl rfl rfl HBY1.out HMX1.out (Nat.le_refl _) ?_; intro w2 hown hgrow; rw [HF1.out] at hown; have hcv1 := run_convert_own (P := Try.prog) hown 33 9 Try.underlying33 Try.underlying5 Try.underlying9; rw [HZX1.out] at hcv1; have hbm1 := (Below.refl wa.heap.size wa).grown hgrow (Nat.le_refl _) (by simp); have hX2 := HX1.out.below hbm1 hlB; have hG2 := HG.out.below hbm1 hla; have hf0 := (bxc_cells hX2).2.2.2; have hd2 := (bxc_cells hX2).1.2.2.1; have hl2 : B < w2.heap.size := Nat.lt_of_lt_of_le hlB hbm1.size; have hg2 : w1.heap.size < w2.heap.size := Nat.lt_of_lt_of_le hla hbm1.size; have hb02 := below2 hb0a hbm1; have hX3 := hX2.set 2 (.string p); rw [Nat.zero_add] at hX3; have HX3 : Hid (At (w2.setCell ⟨B, 2, none⟩ (.string p)) B 0 (bxc key nonce p s)) := hX3; have hG3 := hG2.other B 2 (.string p) (.inl (Nat.ne_of_lt hl1)); have hcl3 := grt_cell hG3 HM.out; have HG3 := Lib.hid hG3; have HB03 : Hid (Below w.heap.size w (w2.setCell ⟨B, 2, none⟩ (.string p))) := hb02.setCell (p := ⟨B, 2, none⟩) (by rw [HB.out]; exact Nat.le_refl _) _; have HL3 : Hid (B < (w2.setCell ⟨B, 2, none⟩ (.string p)).heap.size) := (by show _ < _; simpa using hl2); clear hX2 hG2 hX3 hG3 hbm1; clear hown hgrow) | (at_make; obtain ⟨w3, hw3⟩ : ∃ w3, w2.setCell ⟨B, 2, none⟩ (.string p) = w3 := ⟨_, rfl⟩; rw [hw3] at HX3 HG3 HB03 HL3 hcl3 ⊢; refine wpList_make_full _ rfl (.tmp 34) (.tmp 34) 33 rfl w3.heap.size 5 i0 (.int .u8 0) 1 Try.underlying33 hi hz0 hz1 .i64 .i64 _ _ m rfl rfl rfl rfl HBY2.out HMX2.out (Nat.le_refl _) ?_; intro w4 hown hgrow; rw [HF2.out] at hown; have hcv2 := run_convert_own (P := Try.prog) hown 33 9 Try.underlying33 Try.underlying5 Try.underlying9; rw [HZX2.out] at hcv2; have hbm2 := (Below.refl w3.heap.size w3).grown hgrow (Nat.le_refl _) (by simp); have hX4 := HX3.out.below hbm2 HL3.out; obtain ⟨⟨hc0, hc1, hc2, hc3⟩, _⟩ := bxc_cells hX4; have hb04 := below2 HB03.out hbm2; have hl4 : B < w4.heap.size := Nat.lt_of_lt_of_le HL3.out hbm2.size; have HX4 := Lib.hid hX4; clear hX4 hbm2 hcl3 hd2 hf0 hcv1; clear hown hgrow))
  refine (ccSeal_any key nonce p q s _ HQS.out).mono ?_
  rintro e w5 ⟨x1, rfl, hx1, hb5⟩
  rw [HC.out]
  have HX1L := Lib.hid hx1
  have hX5 := HX4.out.below hb5 hl4
  have hb05 := below2 hb04 hb5
  clear hc0 hc1 hc2 hc3 hx1 hb5 hl4 hb04
  obtain ⟨⟨hc0, hc1, hc2, hc3⟩, _⟩ := bxc_cells hX5
  clear hX5
  go_wp2_with fail
  refine (rccSeal_any key nonce p q s _ HQS.out).mono ?_
  rintro e w6 ⟨x2, rfl, hx2, hb6⟩
  rw [HC.out]
  obtain rfl : x1 = x2 := tl_inj (by rw [HX1L.out, hx2])
  have hb06 := below2 hb05 hb6
  clear hx2 hc0 hc1 hc2 hc3 hb6 hb05
  go_wp2_with fail
  go_ret
  exact ⟨rfl, hb06⟩
set_option maxRecDepth 100000 in
set_option maxHeartbeats 3200000 in
theorem great_B (key nonce aad : ByteArray) (s : Int) (a t : UInt8) (i j n : Nat) (hi0 : a.toNat % 8 = i) (hj0 : t.toNat % 8 = j) (hA : 0 < i) (hB : j = 0) (hn : grt[i]? = some n) (hm : grt[0]? = some 0) (hnb : n ≤ 70001) (hmb : 0 ≤ 70001) (w : World) : Calls Try.prog 7 #[.agg #[.string key, .string nonce, .string aad, .int .i64 s], .int .u8 (a.toNat : Int), .int .u8 (t.toNat : Int)] w (RetT w) := by
  obtain ⟨i0, hi, hz0, hz1, hz2⟩ := info_parts info5
  have hi8 : i < 8 := by omega
  have hj8 : j < 8 := by omega
  subst hB
  have ra2 : IntKind.u8.wrap (i : Int) = (i : Int) := by simp [IntKind.wrap, IntKind.bits, IntKind.signed]; omega
  have rb2 : IntKind.u8.wrap ((0 : Nat) : Int) = ((0 : Nat) : Int) := rfl
  have ra3 : (0 : Int) < (i : Int) := by omega
  have HSEL : Hid (∀ h, ([.int .i64 0, .int .i64 65279, .int .i64 65280, .int .i64 65281, .int .i64 65535, .int .i64 65536, .int .i64 70000, .int .i64 70001] : List Value)[i]'h = .int .i64 (n : Int)) := fun h => grt_sel i n hn h
  have ra1 : (a.toNat : Int).tmod 8 = ((i : Nat) : Int) := tmod_nat _ 8 _ hi0.symm
  have rb1 : (t.toNat : Int).tmod 8 = ((0 : Nat) : Int) := tmod_nat _ 8 _ hj0.symm
  have ra4 : (i : Int) < 8 := by omega
  have ra5 : (0 : Int) ≤ (i : Int) := by omega
  have rb4 : (0 : Int) < 8 := by omega
  have rb5 : (0 : Int) ≤ (0 : Int) := by omega
  have HNB := Lib.hid hnb
  have HMB := Lib.hid hmb
  have HN := Lib.hid hn
  have HM := Lib.hid hm
  have HF1 := Lib.hid (bcells_made n)
  have HF2 := Lib.hid (bcells_made 0)
  have HBY1 : Hid (i0.bytes * n ≤ 281474976710656) := by show _ ≤ _; rw [hz2]; omega
  have HMX1 : Hid (n ≤ maxLen) := by show _ ≤ _; unfold maxLen; omega
  have HBY2 : Hid (i0.bytes * 0 ≤ 281474976710656) := by show _ ≤ _; rw [hz2]; omega
  have HMX2 : Hid (0 ≤ maxLen) := by show _ ≤ _; unfold maxLen; omega
  obtain ⟨p, hp⟩ : ∃ p : ByteArray, (⟨(List.replicate n (0 : UInt8)).toArray⟩ : ByteArray) = p := ⟨_, rfl⟩
  obtain ⟨q, hq⟩ : ∃ q : ByteArray, (⟨(List.replicate 0 (0 : UInt8)).toArray⟩ : ByteArray) = q := ⟨_, rfl⟩
  have HQS : Hid (q.size ≤ 140737488355328) := by show _ ≤ _; rw [← hq, size_mk, List.length_replicate]; omega
  have HZX1 := Lib.hid hp
  have HZX2 := Lib.hid hq
  obtain ⟨c, hc⟩ : ∃ c, ccE key.size nonce.size p.size s (q.size : Int) = c := ⟨_, rfl⟩
  have HC := Lib.hid hc
  clear hnb hmb hn hm hp hq hc hi0 hj0
  go_enter Try.func7, Try.ntmps7
  go_wp2_with fail
  obtain ⟨w0, hw0, hX, hb0, hl0⟩ := one_bx w key nonce aad s
  rw [hw0]
  obtain ⟨B, hB⟩ : ∃ B, w.heap.size = B := ⟨_, rfl⟩
  rw [hB] at hX hl0 ⊢
  have HB := Lib.hid hB
  clear hw0 hB
  refine (wakes10_any _).mono ?_
  rintro e w1 ⟨rfl, hb1⟩
  have hl1 : B < w1.heap.size := Nat.lt_of_lt_of_le hl0 hb1.size
  have hX1 := hX.below hb1 hl0
  have hb01 := below2 hb0 hb1
  obtain ⟨wa, hwa, hG, hba, hla⟩ := grt_w w1
  have HWA := Lib.hid hwa
  have HX1 := Lib.hid (hX1.below hba hl1)
  have hb0a := below2 hb01 hba
  have HG := Lib.hid hG
  have hlB : B < wa.heap.size := Nat.lt_trans hl1 hla
  clear hX hb0 hb1 hl0 hb01 hX1 hba hwa hG
  go_wp2_with (first | (at_make; rw [HWA.out]; rw [HSEL.out]; refine wpList_make_full _ rfl (.tmp 27) (.tmp 27) 33 rfl wa.heap.size 5 i0 (.int .u8 0) 1 Try.underlying33 hi hz0 hz1 .i64 .i64 _ _ n rfl rfl rfl rfl HBY1.out HMX1.out (Nat.le_refl _) ?_; intro w2 hown hgrow; rw [HF1.out] at hown; have hcv1 := run_convert_own (P := Try.prog) hown 33 9 Try.underlying33 Try.underlying5 Try.underlying9; rw [HZX1.out] at hcv1; have hbm1 := (Below.refl wa.heap.size wa).grown hgrow (Nat.le_refl _) (by simp); have hX2 := HX1.out.below hbm1 hlB; have hG2 := HG.out.below hbm1 hla; have hf0 := (bxc_cells hX2).2.2.2; have hd2 := (bxc_cells hX2).1.2.2.1; have hl2 : B < w2.heap.size := Nat.lt_of_lt_of_le hlB hbm1.size; have hg2 : w1.heap.size < w2.heap.size := Nat.lt_of_lt_of_le hla hbm1.size; have hb02 := below2 hb0a hbm1; have hX3 := hX2.set 2 (.string p); rw [Nat.zero_add] at hX3; have HX3 : Hid (At (w2.setCell ⟨B, 2, none⟩ (.string p)) B 0 (bxc key nonce p s)) := hX3; have hG3 := hG2.other B 2 (.string p) (.inl (Nat.ne_of_lt hl1)); have hcl3 := grt_cell hG3 HM.out; have HG3 := Lib.hid hG3; have HB03 : Hid (Below w.heap.size w (w2.setCell ⟨B, 2, none⟩ (.string p))) := hb02.setCell (p := ⟨B, 2, none⟩) (by rw [HB.out]; exact Nat.le_refl _) _; have HL3 : Hid (B < (w2.setCell ⟨B, 2, none⟩ (.string p)).heap.size) := (by show _ < _; simpa using hl2); clear hX2 hG2 hX3 hG3 hbm1; clear hown hgrow) | (at_make; obtain ⟨w3, hw3⟩ : ∃ w3, w2.setCell ⟨B, 2, none⟩ (.string p) = w3 := ⟨_, rfl⟩; rw [hw3] at HX3 HG3 HB03 HL3 hcl3 ⊢; refine wpList_make_full _ rfl (.tmp 34) (.tmp 34) 33 rfl w3.heap.size 5 i0 (.int .u8 0) 1 Try.underlying33 hi hz0 hz1 .i64 .i64 _ _ 0 rfl rfl rfl rfl HBY2.out HMX2.out (Nat.le_refl _) ?_; intro w4 hown hgrow; rw [HF2.out] at hown; have hcv2 := run_convert_own (P := Try.prog) hown 33 9 Try.underlying33 Try.underlying5 Try.underlying9; rw [HZX2.out] at hcv2; have hbm2 := (Below.refl w3.heap.size w3).grown hgrow (Nat.le_refl _) (by simp); have hX4 := HX3.out.below hbm2 HL3.out; obtain ⟨⟨hc0, hc1, hc2, hc3⟩, _⟩ := bxc_cells hX4; have hb04 := below2 HB03.out hbm2; have hl4 : B < w4.heap.size := Nat.lt_of_lt_of_le HL3.out hbm2.size; have HX4 := Lib.hid hX4; clear hX4 hbm2 hcl3 hd2 hf0 hcv1; clear hown hgrow))
  refine (ccSeal_any key nonce p q s _ HQS.out).mono ?_
  rintro e w5 ⟨x1, rfl, hx1, hb5⟩
  rw [HC.out]
  have HX1L := Lib.hid hx1
  have hX5 := HX4.out.below hb5 hl4
  have hb05 := below2 hb04 hb5
  clear hc0 hc1 hc2 hc3 hx1 hb5 hl4 hb04
  obtain ⟨⟨hc0, hc1, hc2, hc3⟩, _⟩ := bxc_cells hX5
  clear hX5
  go_wp2_with fail
  refine (rccSeal_any key nonce p q s _ HQS.out).mono ?_
  rintro e w6 ⟨x2, rfl, hx2, hb6⟩
  rw [HC.out]
  obtain rfl : x1 = x2 := tl_inj (by rw [HX1L.out, hx2])
  have hb06 := below2 hb05 hb6
  clear hx2 hc0 hc1 hc2 hc3 hb6 hb05
  go_wp2_with fail
  go_ret
  exact ⟨rfl, hb06⟩
set_option maxRecDepth 100000 in
set_option maxHeartbeats 3200000 in
theorem great_C (key nonce aad : ByteArray) (s : Int) (a t : UInt8) (i j n : Nat) (hi0 : a.toNat % 8 = i) (hj0 : t.toNat % 8 = j) (hA : 0 < i) (hB : 0 < j) (hn : grt[i]? = some n) (hm : grt[0]? = some 0) (hnb : n ≤ 70001) (hmb : 0 ≤ 70001) (w : World) : Calls Try.prog 7 #[.agg #[.string key, .string nonce, .string aad, .int .i64 s], .int .u8 (a.toNat : Int), .int .u8 (t.toNat : Int)] w (RetT w) := by
  obtain ⟨i0, hi, hz0, hz1, hz2⟩ := info_parts info5
  have hi8 : i < 8 := by omega
  have hj8 : j < 8 := by omega
  have ra2 : IntKind.u8.wrap (i : Int) = (i : Int) := by simp [IntKind.wrap, IntKind.bits, IntKind.signed]; omega
  have rb2 : IntKind.u8.wrap (j : Int) = (j : Int) := by simp [IntKind.wrap, IntKind.bits, IntKind.signed]; omega
  have ra3 : (0 : Int) < (i : Int) := by omega
  have rb3 : (0 : Int) < (j : Int) := by omega
  have HSEL : Hid (∀ h, ([.int .i64 0, .int .i64 65279, .int .i64 65280, .int .i64 65281, .int .i64 65535, .int .i64 65536, .int .i64 70000, .int .i64 70001] : List Value)[i]'h = .int .i64 (n : Int)) := fun h => grt_sel i n hn h
  have ra1 : (a.toNat : Int).tmod 8 = ((i : Nat) : Int) := tmod_nat _ 8 _ hi0.symm
  have rb1 : (t.toNat : Int).tmod 8 = (j : Int) := tmod_nat _ 8 _ hj0.symm
  have ra4 : (i : Int) < 8 := by omega
  have ra5 : (0 : Int) ≤ (i : Int) := by omega
  have rb4 : (0 : Int) < 8 := by omega
  have rb5 : (0 : Int) ≤ (0 : Int) := by omega
  have HNB := Lib.hid hnb
  have HMB := Lib.hid hmb
  have HN := Lib.hid hn
  have HM := Lib.hid hm
  have HF1 := Lib.hid (bcells_made n)
  have HF2 := Lib.hid (bcells_made 0)
  have HBY1 : Hid (i0.bytes * n ≤ 281474976710656) := by show _ ≤ _; rw [hz2]; omega
  have HMX1 : Hid (n ≤ maxLen) := by show _ ≤ _; unfold maxLen; omega
  have HBY2 : Hid (i0.bytes * 0 ≤ 281474976710656) := by show _ ≤ _; rw [hz2]; omega
  have HMX2 : Hid (0 ≤ maxLen) := by show _ ≤ _; unfold maxLen; omega
  obtain ⟨p, hp⟩ : ∃ p : ByteArray, (⟨(List.replicate n (0 : UInt8)).toArray⟩ : ByteArray) = p := ⟨_, rfl⟩
  obtain ⟨q, hq⟩ : ∃ q : ByteArray, (⟨(List.replicate 0 (0 : UInt8)).toArray⟩ : ByteArray) = q := ⟨_, rfl⟩
  have HQS : Hid (q.size ≤ 140737488355328) := by show _ ≤ _; rw [← hq, size_mk, List.length_replicate]; omega
  have HZX1 := Lib.hid hp
  have HZX2 := Lib.hid hq
  obtain ⟨c, hc⟩ : ∃ c, ccE key.size nonce.size p.size s (q.size : Int) = c := ⟨_, rfl⟩
  have HC := Lib.hid hc
  clear hnb hmb hn hm hp hq hc hi0 hj0
  go_enter Try.func7, Try.ntmps7
  go_wp2_with fail
  obtain ⟨w0, hw0, hX, hb0, hl0⟩ := one_bx w key nonce aad s
  rw [hw0]
  obtain ⟨B, hB⟩ : ∃ B, w.heap.size = B := ⟨_, rfl⟩
  rw [hB] at hX hl0 ⊢
  have HB := Lib.hid hB
  clear hw0 hB
  refine (wakes10_any _).mono ?_
  rintro e w1 ⟨rfl, hb1⟩
  have hl1 : B < w1.heap.size := Nat.lt_of_lt_of_le hl0 hb1.size
  have hX1 := hX.below hb1 hl0
  have hb01 := below2 hb0 hb1
  obtain ⟨wa, hwa, hG, hba, hla⟩ := grt_w w1
  have HWA := Lib.hid hwa
  have HX1 := Lib.hid (hX1.below hba hl1)
  have hb0a := below2 hb01 hba
  have HG := Lib.hid hG
  have hlB : B < wa.heap.size := Nat.lt_trans hl1 hla
  clear hX hb0 hb1 hl0 hb01 hX1 hba hwa hG
  go_wp2_with (first | (at_make; rw [HWA.out]; rw [HSEL.out]; refine wpList_make_full _ rfl (.tmp 27) (.tmp 27) 33 rfl wa.heap.size 5 i0 (.int .u8 0) 1 Try.underlying33 hi hz0 hz1 .i64 .i64 _ _ n rfl rfl rfl rfl HBY1.out HMX1.out (Nat.le_refl _) ?_; intro w2 hown hgrow; rw [HF1.out] at hown; have hcv1 := run_convert_own (P := Try.prog) hown 33 9 Try.underlying33 Try.underlying5 Try.underlying9; rw [HZX1.out] at hcv1; have hbm1 := (Below.refl wa.heap.size wa).grown hgrow (Nat.le_refl _) (by simp); have hX2 := HX1.out.below hbm1 hlB; have hG2 := HG.out.below hbm1 hla; have hf0 := (bxc_cells hX2).2.2.2; have hd2 := (bxc_cells hX2).1.2.2.1; have hl2 : B < w2.heap.size := Nat.lt_of_lt_of_le hlB hbm1.size; have hg2 : w1.heap.size < w2.heap.size := Nat.lt_of_lt_of_le hla hbm1.size; have hb02 := below2 hb0a hbm1; have hX3 := hX2.set 2 (.string p); rw [Nat.zero_add] at hX3; have HX3 : Hid (At (w2.setCell ⟨B, 2, none⟩ (.string p)) B 0 (bxc key nonce p s)) := hX3; have hG3 := hG2.other B 2 (.string p) (.inl (Nat.ne_of_lt hl1)); have hcl3 := grt_cell hG3 HM.out; have HG3 := Lib.hid hG3; have HB03 : Hid (Below w.heap.size w (w2.setCell ⟨B, 2, none⟩ (.string p))) := hb02.setCell (p := ⟨B, 2, none⟩) (by rw [HB.out]; exact Nat.le_refl _) _; have HL3 : Hid (B < (w2.setCell ⟨B, 2, none⟩ (.string p)).heap.size) := (by show _ < _; simpa using hl2); clear hX2 hG2 hX3 hG3 hbm1; clear hown hgrow) | (at_make; obtain ⟨w3, hw3⟩ : ∃ w3, w2.setCell ⟨B, 2, none⟩ (.string p) = w3 := ⟨_, rfl⟩; rw [hw3] at HX3 HG3 HB03 HL3 hcl3 ⊢; refine wpList_make_full _ rfl (.tmp 34) (.tmp 34) 33 rfl w3.heap.size 5 i0 (.int .u8 0) 1 Try.underlying33 hi hz0 hz1 .i64 .i64 _ _ 0 rfl rfl rfl rfl HBY2.out HMX2.out (Nat.le_refl _) ?_; intro w4 hown hgrow; rw [HF2.out] at hown; have hcv2 := run_convert_own (P := Try.prog) hown 33 9 Try.underlying33 Try.underlying5 Try.underlying9; rw [HZX2.out] at hcv2; have hbm2 := (Below.refl w3.heap.size w3).grown hgrow (Nat.le_refl _) (by simp); have hX4 := HX3.out.below hbm2 HL3.out; obtain ⟨⟨hc0, hc1, hc2, hc3⟩, _⟩ := bxc_cells hX4; have hb04 := below2 HB03.out hbm2; have hl4 : B < w4.heap.size := Nat.lt_of_lt_of_le HL3.out hbm2.size; have HX4 := Lib.hid hX4; clear hX4 hbm2 hcl3 hd2 hf0 hcv1; clear hown hgrow))
  refine (ccSeal_any key nonce p q s _ HQS.out).mono ?_
  rintro e w5 ⟨x1, rfl, hx1, hb5⟩
  rw [HC.out]
  have HX1L := Lib.hid hx1
  have hX5 := HX4.out.below hb5 hl4
  have hb05 := below2 hb04 hb5
  clear hc0 hc1 hc2 hc3 hx1 hb5 hl4 hb04
  obtain ⟨⟨hc0, hc1, hc2, hc3⟩, _⟩ := bxc_cells hX5
  clear hX5
  go_wp2_with fail
  refine (rccSeal_any key nonce p q s _ HQS.out).mono ?_
  rintro e w6 ⟨x2, rfl, hx2, hb6⟩
  rw [HC.out]
  obtain rfl : x1 = x2 := tl_inj (by rw [HX1L.out, hx2])
  have hb06 := below2 hb05 hb6
  clear hx2 hc0 hc1 hc2 hc3 hb6 hb05
  go_wp2_with fail
  go_ret
  exact ⟨rfl, hb06⟩
theorem ccmGreat_walk (key nonce aad : ByteArray) (s : Int) (a t : Int) (ha : (Lit.int .u8 a).wf = true) (ht : (Lit.int .u8 t).wf = true) (w : World) : Calls Try.prog 7 #[.agg #[.string key, .string nonce, .string aad, .int .i64 s], .int .u8 a, .int .u8 t] w (RetT w) := by
  have U : ∀ b : Int, (Lit.int .u8 b).wf = true → ∃ u : UInt8, b = (u.toNat : Int) := fun b hb => by
    have h : 0 ≤ b ∧ b ≤ 255 := by
      have h1 : IntKind.u8.min = 0 := rfl
      have h2 : IntKind.u8.max = 255 := rfl
      simp only [Lit.wf, Bool.and_eq_true, decide_eq_true_eq] at hb
      omega
    exact ⟨UInt8.ofNat b.toNat, by simp; omega⟩
  obtain ⟨u, rfl⟩ := U a ha
  obtain ⟨v, rfl⟩ := U t ht
  obtain ⟨i, hi⟩ : ∃ i, u.toNat % 8 = i := ⟨_, rfl⟩
  obtain ⟨j, hj⟩ : ∃ j, v.toNat % 8 = j := ⟨_, rfl⟩
  obtain ⟨n, hn, hnb⟩ := grt_at i (by omega)
  obtain ⟨m, hm, hmb⟩ := grt_at j (by omega)
  by_cases h1 : i = 0
  · exact great_A key nonce aad s u v i j m hi hj h1 rfl hm (by omega) hmb w
  · by_cases h2 : j = 0
    · exact great_B key nonce aad s u v i j n hi hj (by omega) h2 hn rfl hnb (by omega) w
    · exact great_C key nonce aad s u v i j n hi hj (by omega) (by omega) hn rfl hnb (by omega) w
end Go.Proofs.Ythaajaajhddhdaa
