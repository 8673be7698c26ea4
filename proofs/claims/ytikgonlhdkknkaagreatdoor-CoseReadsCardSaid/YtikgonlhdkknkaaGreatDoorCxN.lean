import Derived.Test.YtikgonlhdkknkaaGreatDoorCyC
set_option maxRecDepth 100000
set_option maxHeartbeats 3200000
set_option linter.unusedVariables false
set_option linter.unusedSimpArgs false
open Go.Lib (hid)
namespace Go.Proofs.YtikgonlhdkknkaaGreatDoor
open Go.RowKit
namespace Ce
open Co (Am Ra up rcells rv UT DecR enc Its holds tell okA)
theorem coseReads_walk (s : ByteArray) (d i b ro : Int) (hz : s.size ≤ 140737488351232) (w : World) (hU : UT w.heap.size w) :
  Calls Tryz.prog 3 #[.string s, .agg #[.int .i64 d, .int .i64 i, .int .i64 b, .int .i64 ro]] w (Co.RetT w) := by
 have HU := hid hU
 have WK := hid (fun w hU => wakes25_any w hU)
 have RD := hid (fun w' hU => cread_any s d i b ro w' hz hU)
 have RR := hid (fun w' => rreadT_any s d i b ro w' hz)
 have HB0 : Hid (Below w.heap.size w (w.alloc (Obj.cells #[.int .i64 d, .int .i64 i, .int .i64 b, .int .i64 ro] 23))) := (Below.refl _ _).alloc (nle _) _
 have HL0 := hid (Co.Lm4.ofAlloc w d i b ro)
 obtain ⟨B, hB⟩ : ∃ B, w.heap.size = B := ⟨_, rfl⟩
 rw [hB] at HL0
 clear hU hz
 go_enter Tryz.func3, Tryz.ntmps3
 go_wp2_with fail
 try rw [hB]
 clear hB
 obtain ⟨w0, hw0⟩ : ∃ x, w.alloc (Obj.cells #[.int .i64 d, .int .i64 i, .int .i64 b, .int .i64 ro] 23) = x := ⟨_, rfl⟩
 rw [hw0] at HL0 HB0
 rw [hw0]
 clear hw0
 refine (WK.out _ (HU.out.at HB0.out)).mono ?_
 rintro e w1 ⟨rfl, hb1⟩
 have HB1 : Hid (Below w.heap.size w w1) := HB0.out.trans (hb1.mono HB0.out.size)
 have HL1 := hid (HL0.out.below hb1)
 clear hb1
 obtain ⟨l0, l1, l2, l3⟩ := HL1.out.at0.c4
 go_wp2_with fail
 refine (RD.out _ (HU.out.at HB1.out)).mono ?_
 rintro e w2 ⟨y, hy, v2, rfl, hT2, hb2⟩
 have HB2 : Hid (Below w.heap.size w w2) := HB1.out.trans (hb2.mono HB1.out.size)
 have HY := hid hy
 have HT2 := hid hT2
 have HL2 := hid (HL1.out.below hb2)
 obtain ⟨a2, c2, rfl, -⟩ := hT2
 clear hy hb2 l0 l1 l2 l3
 obtain ⟨c, x⟩ := y
 have HEV : Hid (evv x (.slice a2 x.rcs.length c2) = .agg #[.int .i64 x.format, .int .i64 x.alg, .slice a2 x.rcs.length c2, .string (bs x.header), .string (bs x.loose), .string (bs x.aad), .string (bs x.iv), .string (bs x.cipher), .string (bs x.tag)]) := rfl
 have HRL : Hid (x.rcs.length ≤ 140737488351232) := Nat.le_trans HY.out.rcs (by decide)
 dsimp only at HT2 ⊢
 rw [HEV.out]
 obtain ⟨G, hG⟩ : ∃ G, w2.heap.size = G := ⟨_, rfl⟩
 obtain ⟨w3, hw3⟩ : ∃ q, w2.alloc (eo9 x a2 c2) = q := ⟨_, rfl⟩
 have hb3 : Below w2.heap.size w2 w3 := by rw [← hw3]; exact (Below.refl _ _).alloc (nle _) _
 have HB3 : Hid (Below w.heap.size w w3) := HB2.out.trans (hb3.mono HB2.out.size)
 have HL3 := hid (HL2.out.below hb3)
 have HT3 := hid (HT2.out.below hb3)
 have HA3 : Hid (At w3 G 0 #[.int .i64 x.format, .int .i64 x.alg, .slice a2 x.rcs.length c2, .string (bs x.header), .string (bs x.loose), .string (bs x.aad), .string (bs x.iv), .string (bs x.cipher), .string (bs x.tag)].toList) := by show At _ _ _ _; rw [← hw3, ← hG]; exact At.ofAlloc w2 _ 27
 have HS3 : Hid (G < w3.heap.size) := by show G < _; rw [← hw3, ← hG]; simp
 clear hb3
 go_upto_region 4 with fail
 try rw [hw3]
 try rw [hG]
 clear hw3 hG
 obtain ⟨l0, l1, l2, l3⟩ := HL3.out.at0.c4
 go_wp2_with fail
 refine (RR.out w3).mono ?_
 rintro e w4 ⟨y, hy, v4, rfl, hT4, hb4⟩
 obtain rfl : (c, x) = y := HY.out.same hy
 dsimp only at hT4 ⊢
 have HB4 : Hid (Below w.heap.size w w4) := HB3.out.trans (hb4.mono HB3.out.size)
 have HT3b := hid (HT3.out.below hb4)
 have HT4 := hid hT4
 have HA4 := hid (HA3.out.below hb4 HS3.out)
 have HS4 : Hid (G < w4.heap.size) := nlt HS3.out hb4.size
 obtain ⟨a4, c4, rfl, -⟩ := hT4
 have HE4 : Hid (evv x (.slice a4 x.rcs.length c4) = .agg #[.int .i64 x.format, .int .i64 x.alg, .slice a4 x.rcs.length c4, .string (bs x.header), .string (bs x.loose), .string (bs x.aad), .string (bs x.iv), .string (bs x.cipher), .string (bs x.tag)]) := rfl
 rw [HE4.out]
 clear hy hb4 l0 l1 l2 l3
 obtain ⟨G5, hG5⟩ : ∃ G, w4.heap.size = G := ⟨_, rfl⟩
 obtain ⟨w5, hw5⟩ : ∃ q, w4.alloc (eo9 x a4 c4) = q := ⟨_, rfl⟩
 have hb5 : Below w4.heap.size w4 w5 := by rw [← hw5]; exact (Below.refl _ _).alloc (nle _) _
 have HB5 : Hid (Below w.heap.size w w5) := HB4.out.trans (hb5.mono HB4.out.size)
 have hA5 : At w5 G5 0 #[.int .i64 x.format, .int .i64 x.alg, .slice a4 x.rcs.length c4, .string (bs x.header), .string (bs x.loose), .string (bs x.aad), .string (bs x.iv), .string (bs x.cipher), .string (bs x.tag)].toList := by rw [← hw5, ← hG5]; exact At.ofAlloc w4 _ 27
 have hA4 := HA4.out.below hb5 HS4.out
 have SM := esame_yes x (.slice a2 x.rcs.length c2) (.slice a4 x.rcs.length c4) w5 (HT3b.out.below hb5) (HT4.out.below hb5) HRL.out
 rw [HEV.out, HE4.out] at SM
 have SS := hid SM
 clear SM hb5
 go_upto_region 5 with fail
 try rw [hw5]
 try rw [hG5]
 clear hw5 hG5
 obtain ⟨b0, b1, b2, b3, b4, b5, b6, b7, b8⟩ := hA4.c9
 obtain ⟨g0, g1, g2, g3, g4, g5, g6, g7, g8⟩ := hA5.c9
 clear hA4 hA5
 go_wp2_with fail
 refine SS.out.mono ?_
 rintro e w6 ⟨rfl, hb6⟩
 have HB6 : Hid (Below w.heap.size w w6) := HB5.out.trans (hb6.mono HB5.out.size)
 clear hb6
 have cc : (c == c) = true := by simp
 go_wp2_with fail
 go_ret
 exact ⟨rfl, HB6.out⟩
end Ce
end Go.Proofs.YtikgonlhdkknkaaGreatDoor
