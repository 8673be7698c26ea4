/- CoseBack: the walk. -/
import Derived.Test.YtikgonlhdkknkaaDoorCuG
namespace Go.Proofs.YtikgonlhdkknkaaDoor
open Go.RowKit
set_option linter.unusedVariables false
set_option linter.unusedSimpArgs false
namespace Ce
open Co (Am Ra up rcells rv UT DecR enc Its holds tell okA)
set_option maxRecDepth 100000 in
set_option maxHeartbeats 3200000 in
theorem coseBack_walk (x : Ev) (vx : Value) (w : World) (hx : Ty w vx x.rcs) (hl : x.rcs.length * 112 ≤ 140737488351232) (hlo : x.loose.length ≤ 100000000000) (hhe : x.header.length ≤ 100000000000) (hci : x.cipher.length ≤ 100000000000) (hta : x.tag.length ≤ 100000000000) (hU : UT w.heap.size w) :
    Calls Tryd.prog 3 #[evv x vx] w (Co.RetT w) := by
  have HU := Lib.hid hU
  have WK := Lib.hid (fun w hU => wakes25_any w hU)
  have MO := Lib.hid (fun w' => Co.most_any w')
  have CP := Lib.hid (fun v w' (hv : Ty w' v x.rcs) => copied25_any x v w' hv hl)
  have hl1 : x.rcs.length ≤ 140737488351232 := by omega
  have TE := Lib.hid (fun v w' (hv : Ty w' v x.rcs) hU => ctell_any x v w' hv hl1 hlo hhe hci hta hU)
  have SM := Lib.hid (fun v u w' (hv : Ty w' v x.rcs) (hu : Ty w' u x.rcs) => esame_yes x v u w' hv hu hl1)
  have hX0 := hx.below ((Below.refl w.heap.size w).alloc (Nat.le_refl _) (Obj.cells (evcells x vx).toArray 24))
  have hA0 := At.ofAlloc w (evcells x vx).toArray 24
  have hB0 : Below w.heap.size w (w.alloc (Obj.cells (evcells x vx).toArray 24)) := (Below.refl _ _).alloc (Nat.le_refl _) _
  obtain ⟨ax, cx, rfl, -⟩ := hx
  have HEV : Hid (evv x (.slice ax x.rcs.length cx) = .agg #[.int .i64 x.format, .int .i64 x.alg, .slice ax x.rcs.length cx, .string (bs x.header), .string (bs x.loose), .string (bs x.aad), .string (bs x.iv), .string (bs x.cipher), .string (bs x.tag)]) := rfl
  rw [HEV.out]
  unfold evcells at hX0 hA0 hB0
  obtain ⟨B, hB⟩ : ∃ B, w.heap.size = B := ⟨_, rfl⟩
  have HBB := Lib.hid hB
  clear hU hl hlo hhe hci hta hl1
  go_enter Tryd.func3, Tryd.ntmps3
  go_wp2_with fail
  obtain ⟨w0, hw0⟩ : ∃ q, w.alloc (Obj.cells #[.int .i64 x.format, .int .i64 x.alg, .slice ax x.rcs.length cx, .string (bs x.header), .string (bs x.loose), .string (bs x.aad), .string (bs x.iv), .string (bs x.cipher), .string (bs x.tag)] 24) = q := ⟨_, rfl⟩
  rw [hw0] at hX0 hA0 hB0
  try rw [hw0]
  rw [hB] at hA0
  try rw [hB]
  have HX0 := Lib.hid hX0
  have HA0 := Lib.hid hA0
  have HB0 := Lib.hid hB0
  have HS0 : Hid (B < w0.heap.size) := by show B < _; rw [← hw0, ← hB]; simp
  clear hw0 hX0 hA0 hB0 hB
  refine (WK.out _ (HU.out.at HB0.out)).mono ?_
  rintro e w1 ⟨rfl, hb1⟩
  have HB1 : Hid (Below w.heap.size w w1) := HB0.out.trans (hb1.mono HB0.out.size)
  have HX1 := Lib.hid (HX0.out.below hb1)
  have HA1 := Lib.hid (HA0.out.below hb1 HS0.out)
  have HS1 : Hid (B < w1.heap.size) := Nat.lt_of_lt_of_le HS0.out hb1.size
  clear hb1
  have a0 := HA1.out.cell 0 _ rfl
  have a1 := HA1.out.cell 1 _ rfl
  have a2 := HA1.out.cell 2 _ rfl
  have a3 := HA1.out.cell 3 _ rfl
  have a4 := HA1.out.cell 4 _ rfl
  have a5 := HA1.out.cell 5 _ rfl
  have a6 := HA1.out.cell 6 _ rfl
  have a7 := HA1.out.cell 7 _ rfl
  have a8 := HA1.out.cell 8 _ rfl
  rw [Nat.zero_add] at a0 a1 a2 a3 a4 a5 a6 a7 a8
  go_wp2_with fail
  refine (by have h := CP.out (.slice ax x.rcs.length cx) w1 HX1.out; rw [HEV.out] at h; exact h : Calls Tryd.prog 9 #[.agg #[.int .i64 x.format, .int .i64 x.alg, .slice ax x.rcs.length cx, .string (bs x.header), .string (bs x.loose), .string (bs x.aad), .string (bs x.iv), .string (bs x.cipher), .string (bs x.tag)]] w1 (RetE x w1)).mono ?_
  rintro e w2 ⟨v2, rfl, hT2, hb2⟩
  have HB2 : Hid (Below w.heap.size w w2) := HB1.out.trans (hb2.mono HB1.out.size)
  have HX2 := Lib.hid (HX1.out.below hb2)
  have HT2 := Lib.hid hT2
  have HA2 := Lib.hid (HA1.out.below hb2 HS1.out)
  have HS2 : Hid (B < w2.heap.size) := Nat.lt_of_lt_of_le HS1.out hb2.size
  clear hb2 hT2 a0 a1 a2 a3 a4 a5 a6 a7 a8
  go_wp2_with fail
  refine (TE.out v2 w2 HT2.out (HU.out.at HB2.out)).mono ?_
  rintro e w3 ⟨R, hR, rfl, hb3⟩
  have HB3 : Hid (Below w.heap.size w w3) := HB2.out.trans (hb3.mono HB2.out.size)
  have HX3 := Lib.hid (HX2.out.below hb3)
  have HA3 := Lib.hid (HA2.out.below hb3 HS2.out)
  have HS3 : Hid (B < w3.heap.size) := Nat.lt_of_lt_of_le HS2.out hb3.size
  clear hb3
  rcases tell_got hR with rfl | ⟨rfl, hr⟩
  · clear hR
    dsimp only
    rw [show bs [] = ⟨#[]⟩ from rfl]
    go_wp2_with fail
    go_ret
    exact ⟨rfl, HB3.out⟩
  · have HR := Lib.hid hr
    have HSZ : Hid ((canon x).length ≤ 140737488351232) := Nat.le_trans hr.sz (by decide)
    clear hR hr
    dsimp only
    go_wp2_with fail
    refine (MO.out w3).mono ?_
    rintro e w4 ⟨rfl, hb4⟩
    have HB4 : Hid (Below w.heap.size w w4) := HB3.out.trans (hb4.mono HB3.out.size)
    have HX4 := Lib.hid (HX3.out.below hb4)
    have HA4 := Lib.hid (HA3.out.below hb4 HS3.out)
    have HS4 : Hid (B < w4.heap.size) := Nat.lt_of_lt_of_le HS3.out hb4.size
    clear hb4
    go_wp2_with fail
    refine (cread_is HR.out w4 HSZ.out (HU.out.at HB4.out)).mono ?_
    rintro e w5 ⟨v5, rfl, hT5, hb5⟩
    dsimp only at hT5 ⊢
    have HB5 : Hid (Below w.heap.size w w5) := HB4.out.trans (hb5.mono HB4.out.size)
    have HX5 := Lib.hid (HX4.out.below hb5)
    have HA5 := Lib.hid (HA4.out.below hb5 HS4.out)
    have HS5 : Hid (B < w5.heap.size) := Nat.lt_of_lt_of_le HS4.out hb5.size
    have HT5 := Lib.hid hT5
    obtain ⟨a5, c5, rfl, -⟩ := hT5
    have HE5 : Hid (evv x (.slice a5 x.rcs.length c5) = .agg #[.int .i64 x.format, .int .i64 x.alg, .slice a5 x.rcs.length c5, .string (bs x.header), .string (bs x.loose), .string (bs x.aad), .string (bs x.iv), .string (bs x.cipher), .string (bs x.tag)]) := rfl
    rw [HE5.out]
    clear hb5
    go_upto_region 7 with fail
    obtain ⟨G, hG⟩ : ∃ G, w5.heap.size = G := ⟨_, rfl⟩
    obtain ⟨w6, hw6⟩ : ∃ q, w5.alloc (Obj.cells #[.int .i64 x.format, .int .i64 x.alg, .slice a5 x.rcs.length c5, .string (bs x.header), .string (bs x.loose), .string (bs x.aad), .string (bs x.iv), .string (bs x.cipher), .string (bs x.tag)] 24) = q := ⟨_, rfl⟩
    have hb6 : Below w5.heap.size w5 w6 := by rw [← hw6]; exact (Below.refl _ _).alloc (Nat.le_refl _) _
    have HB6 : Hid (Below w.heap.size w w6) := HB5.out.trans (hb6.mono HB5.out.size)
    have HX6 := Lib.hid (HX5.out.below hb6)
    have HT6 := Lib.hid (HT5.out.below hb6)
    have hA6 := HA5.out.below hb6 HS5.out
    have hG6 : At w6 G 0 #[.int .i64 x.format, .int .i64 x.alg, .slice a5 x.rcs.length c5, .string (bs x.header), .string (bs x.loose), .string (bs x.aad), .string (bs x.iv), .string (bs x.cipher), .string (bs x.tag)].toList := by rw [← hw6, ← hG]; exact At.ofAlloc w5 _ 24
    rw [hw6]
    try rw [hG]
    have b0 := hA6.cell 0 _ rfl
    have b1 := hA6.cell 1 _ rfl
    have b2 := hA6.cell 2 _ rfl
    have b3 := hA6.cell 3 _ rfl
    have b4 := hA6.cell 4 _ rfl
    have b5 := hA6.cell 5 _ rfl
    have b6 := hA6.cell 6 _ rfl
    have b7 := hA6.cell 7 _ rfl
    have b8 := hA6.cell 8 _ rfl
    rw [Nat.zero_add] at b0 b1 b2 b3 b4 b5 b6 b7 b8
    have g0 := hG6.cell 0 _ rfl
    have g1 := hG6.cell 1 _ rfl
    have g2 := hG6.cell 2 _ rfl
    have g3 := hG6.cell 3 _ rfl
    have g4 := hG6.cell 4 _ rfl
    have g5 := hG6.cell 5 _ rfl
    have g6 := hG6.cell 6 _ rfl
    have g7 := hG6.cell 7 _ rfl
    have g8 := hG6.cell 8 _ rfl
    rw [Nat.zero_add] at g0 g1 g2 g3 g4 g5 g6 g7 g8
    have sm := SM.out (.slice ax x.rcs.length cx) (.slice a5 x.rcs.length c5) w6 HX6.out HT6.out
    rw [HEV.out, HE5.out] at sm
    have SS := Lib.hid sm
    clear sm hA6 hG6 hw6 hG hb6
    go_wp2_with fail
    refine SS.out.mono ?_
    rintro e w7 ⟨rfl, hb7⟩
    have HB7 : Hid (Below w.heap.size w w7) := HB6.out.trans (hb7.mono HB6.out.size)
    clear hb7
    go_wp2_with fail
    go_ret
    exact ⟨rfl, HB7.out⟩
end Ce
end Go.Proofs.YtikgonlhdkknkaaDoor
