/- The walks of RecipNames, RecipFills, RecipLocks, RecipUnlocks. -/
import Derived.Test.YtjlmmlnldjandaaRcE
import Derived.Test.YtjlmmlnldjandaaRcD
namespace Go.Proofs.Ytjlmmlnldjandaa
open Go.RowKit
set_option linter.unusedVariables false
set_option linter.unusedSimpArgs false
/-- what goes into a locking, in memory -/
def Lk (w : World) (B : Nat) (key iv text fill : ByteArray) : Prop :=
  w.cell? ⟨B, 0, none⟩ = some (.string key) ∧ w.cell? ⟨B, 1, none⟩ = some (.string iv) ∧ w.cell? ⟨B, 2, none⟩ = some (.string text) ∧ w.cell? ⟨B, 3, none⟩ = some (.string fill)
theorem Lk.below {w w' : World} {B B' : Nat} {key iv text fill : ByteArray} (h : Lk w B key iv text fill) (hb : Below B' w w') (hB : B < B') : Lk w' B key iv text fill :=
  ⟨(hb.cell (p := ⟨B, 0, none⟩) hB).trans h.1, (hb.cell (p := ⟨B, 1, none⟩) hB).trans h.2.1, (hb.cell (p := ⟨B, 2, none⟩) hB).trans h.2.2.1, (hb.cell (p := ⟨B, 3, none⟩) hB).trans h.2.2.2⟩
theorem box_lk (w : World) (key iv text fill : ByteArray) : ∃ w0, w.alloc (Obj.cells #[.string key, .string iv, .string text, .string fill] 34) = w0 ∧ Lk w0 w.heap.size key iv text fill ∧ Below w.heap.size w w0 ∧ w.heap.size < w0.heap.size := by
  have h := At.ofAlloc w #[.string key, .string iv, .string text, .string fill] 34
  exact ⟨_, rfl, ⟨h.cell 0 _ rfl, h.cell 1 _ rfl, h.cell 2 _ rfl, h.cell 3 _ rfl⟩, (Below.refl _ _).alloc (Nat.le_refl _) _, by simp⟩
set_option maxRecDepth 100000 in
set_option maxHeartbeats 1600000 in
theorem recipNames_walk (kind : Int) (w : World) : Calls Try.prog 3 #[.int .i64 kind] w (RetT w) := by
  have N1 := Lib.hid (fun w => rcName_any kind w)
  have N2 := Lib.hid (fun w => rrcName_any kind w)
  unfold RetNm at N1 N2
  obtain ⟨z, hz⟩ : ∃ z, nmB kind = z := ⟨_, rfl⟩
  obtain ⟨c, hc⟩ : ∃ c, nmE kind = c := ⟨_, rfl⟩
  rw [hz, hc] at N1 N2
  clear hz hc
  go_enter Try.func3, Try.ntmps3
  go_wp2_with fail
  refine (N1.out _).mono ?_
  rintro e w1 ⟨rfl, rfl⟩
  go_wp2_with fail
  refine (N2.out _).mono ?_
  rintro e w2 ⟨rfl, rfl⟩
  go_wp2_with fail
  refine (wakes22_any _).mono ?_
  rintro e w3 ⟨rfl, hb⟩
  go_wp2_with fail
  go_ret
  exact ⟨rfl, hb⟩
set_option maxRecDepth 100000 in
set_option maxHeartbeats 1600000 in
theorem recipFills_walk (n : Int) (w : World) : Calls Try.prog 4 #[.int .i64 n] w (RetT w) := by
  have N1 := Lib.hid (fun w => rcFill_any n w)
  have N2 := Lib.hid (fun w => rrcFill_any n w)
  unfold RetFl at N1 N2
  obtain ⟨z, hz⟩ : ∃ z, fillV n = z := ⟨_, rfl⟩
  obtain ⟨c, hc⟩ : ∃ c, fillE n = c := ⟨_, rfl⟩
  rw [hz, hc] at N1 N2
  clear hz hc
  go_enter Try.func4, Try.ntmps4
  go_wp2_with fail
  refine (N1.out _).mono ?_
  rintro e w1 ⟨rfl, rfl⟩
  go_wp2_with fail
  refine (N2.out _).mono ?_
  rintro e w2 ⟨rfl, rfl⟩
  go_wp2_with fail
  refine (wakes22_any _).mono ?_
  rintro e w3 ⟨rfl, hb⟩
  go_wp2_with fail
  go_ret
  exact ⟨rfl, hb⟩
set_option maxRecDepth 100000 in
set_option maxHeartbeats 1600000 in
theorem recipUnlocks_walk (key iv text : ByteArray) (hz : text.size ≤ 140737488351232) (w : World) : Calls Try.prog 6 #[.string key, .string iv, .string text] w (RetT w) := by
  have U1 := Lib.hid (fun w => rcUnlock_any key iv text hz w)
  have U2 := Lib.hid (fun w => rrcUnlock_any key iv text hz w)
  obtain ⟨c, hc⟩ : ∃ c, unlE key.toList iv.toList text.toList = c := ⟨_, rfl⟩
  rw [hc] at U1 U2
  clear hc hz
  go_enter Try.func6, Try.ntmps6
  go_wp2_with fail
  refine (U1.out _).mono ?_
  rintro e w1 ⟨x, rfl, hx, hb1⟩
  go_wp2_with fail
  refine (U2.out _).mono ?_
  rintro e w2 ⟨y, rfl, hy, hb2⟩
  obtain rfl : x = y := tl_inj (by rw [hx, hy])
  have hb02 := below2 hb1 hb2
  clear hx hy hb1 hb2
  go_wp2_with fail
  refine (wakes22_any _).mono ?_
  rintro e w3 ⟨rfl, hb3⟩
  go_wp2_with fail
  go_ret
  exact ⟨rfl, below2 hb02 hb3⟩
set_option maxRecDepth 100000 in
set_option maxHeartbeats 3200000 in
theorem recipLocks_walk (key iv text fill : ByteArray) (w : World) : Calls Try.prog 5 #[.agg #[.string key, .string iv, .string text, .string fill]] w (RetT w) := by
  obtain ⟨c, hc⟩ : ∃ c, lockE key.size iv.size text.size fill.size = c := ⟨_, rfl⟩
  have L1 := Lib.hid (fun w => rcLock_any key iv text fill w)
  have L2 := Lib.hid (fun w => rrcLock_any key iv text fill w)
  rw [hc] at L1 L2
  have HC := Lib.hid hc
  have UL := Lib.hid (fun s hz w => rcUnlock_any key iv s hz w)
  clear hc
  go_enter Try.func5, Try.ntmps5
  go_wp2_with fail
  obtain ⟨w0, hw0, hX, hb0, hl0⟩ := box_lk w key iv text fill
  rw [hw0]
  obtain ⟨B, hB⟩ : ∃ B, w.heap.size = B := ⟨_, rfl⟩
  rw [hB] at hX hl0 ⊢
  have HB := Lib.hid hB
  clear hw0 hB
  refine (wakes22_any _).mono ?_
  rintro e w1 ⟨rfl, hb1⟩
  have hl1 : B < w1.heap.size := Nat.lt_of_lt_of_le hl0 hb1.size
  have HX1 := Lib.hid (hX.below hb1 hl0)
  obtain ⟨hc0, hc1, hc2, hc3⟩ := HX1.out
  have hb01 := below2 hb0 hb1
  clear hX hb0 hb1 hl0
  go_wp2_with fail
  refine (L1.out _).mono ?_
  rintro e w2 ⟨x, rfl, hx, hb2⟩
  have HXL := Lib.hid hx
  have hl2 : B < w2.heap.size := Nat.lt_of_lt_of_le hl1 hb2.size
  have HX2 := Lib.hid (HX1.out.below hb2 hl1)
  have hb02 := below2 hb01 hb2
  clear hc0 hc1 hc2 hc3 hb01 hb2 hl1 HX1
  obtain ⟨hc0, hc1, hc2, hc3⟩ := HX2.out
  clear hx
  go_wp2_with fail
  refine (L2.out _).mono ?_
  rintro e w3 ⟨y, rfl, hy, hb3⟩
  obtain rfl : x = y := tl_inj (by rw [HXL.out, hy])
  have hl3 : B < w3.heap.size := Nat.lt_of_lt_of_le hl2 hb3.size
  have HX3 := Lib.hid (HX2.out.below hb3 hl2)
  have hb03 := below2 hb02 hb3
  clear hc0 hc1 hc2 hc3 hb02 hb3 hl2 HX2
  obtain ⟨hc0, hc1, hc2, hc3⟩ := HX3.out
  clear hy
  by_cases h0 : c = 0
  · subst h0
    have hE2 : lockE key.toList.length iv.toList.length text.toList.length fill.toList.length = 0 := by rw [tl_size, tl_size, tl_size, tl_size]; exact HC.out
    have hbk := lock_back _ _ _ _ hE2
    have hll := lockL_length _ _ _ _ hE2
    have hz3 := lock_zero HC.out
    have hxs : x.size ≤ 140737488351232 := by
      rw [← tl_size, HXL.out, hll, tl_size]
      have := (laidN_ge text.size).2.2.2 hz3.2.2.1
      omega
    have UL2 := UL.out x hxs w3
    rw [HXL.out, hbk.1, hbk.2] at UL2
    clear hE2 hbk hll hz3 hxs
    go_wp2_with fail
    refine UL2.mono ?_
    rintro e w4 ⟨t, rfl, ht, hb4⟩
    obtain rfl := tl_inj ht
    have HX4 := HX3.out.below hb4 hl3
    obtain ⟨hd0, hd1, hd2, hd3⟩ := HX4
    have hb04 := below2 hb03 hb4
    clear ht UL2 hb4 hb03 hc0 hc1 hc2 hc3
    go_wp2_with fail
    go_ret
    exact ⟨rfl, hb04⟩
  · have hcb : (c != 0) = true := by rw [bne_iff_ne]; exact h0
    obtain rfl : x = ByteArray.mk #[] := tl_inj (by rw [HXL.out, lockL, tl_size, tl_size, tl_size, tl_size, HC.out, if_neg h0]; exact (tl_mk []).symm)
    have UL2 := UL.out (ByteArray.mk #[]) (by decide) w3
    obtain ⟨d, hd⟩ : ∃ d, unlE key.toList iv.toList (ByteArray.mk #[]).toList = d := ⟨_, rfl⟩
    rw [hd] at UL2
    clear hd h0
    go_wp2_with fail
    refine UL2.mono ?_
    rintro e w4 ⟨t, rfl, ht, hb4⟩
    have hb04 := below2 hb03 hb4
    clear ht UL2 hb4 hb03 hc0 hc1 hc2 hc3
    go_wp2_with fail
    go_ret
    exact ⟨rfl, hb04⟩
end Go.Proofs.Ytjlmmlnldjandaa
