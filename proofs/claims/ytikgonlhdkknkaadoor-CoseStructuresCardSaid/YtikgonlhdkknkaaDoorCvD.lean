/- CoseStructures: the walk. -/
import Derived.Test.YtikgonlhdkknkaaDoorCvC
import Derived.Test.YtikgonlhdkknkaaDoorCuG
namespace Go.Proofs.YtikgonlhdkknkaaDoor
open Go.RowKit
set_option linter.unusedVariables false
set_option linter.unusedSimpArgs false
namespace Ce
open Co (Am Ra up rcells rv UT DecR enc Its holds tell okA)
set_option maxRecDepth 100000 in
set_option maxHeartbeats 6400000 in
theorem coseStructures_walk (x : Ev) (vx : Value) (aad other : List UInt8) (w : World) (hx : Ty w vx x.rcs) (hl : x.rcs.length * 112 ≤ 140737488351232) (hU : UT w.heap.size w) :
    Calls Tryd.prog 6 #[evv x vx, .string (bs aad), .string (bs other)] w (Co.RetT w) := by
  have HU := Lib.hid hU
  have WK := Lib.hid (fun w hU => wakes25_any w hU)
  have CP := Lib.hid (fun v w' (hv : Ty w' v x.rcs) => copied25_any x v w' hv hl)
  have hX0 := hx.below ((Below.refl w.heap.size w).alloc (Nat.le_refl _) (Obj.cells (evcells x vx).toArray 24))
  have hA0 := At.ofAlloc w (evcells x vx).toArray 24
  have hB0 : Below w.heap.size w (w.alloc (Obj.cells (evcells x vx).toArray 24)) := (Below.refl _ _).alloc (Nat.le_refl _) _
  obtain ⟨ax, cx, rfl, -⟩ := hx
  have HEV : Hid (evv x (.slice ax x.rcs.length cx) = .agg #[.int .i64 x.format, .int .i64 x.alg, .slice ax x.rcs.length cx, .string (bs x.header), .string (bs x.loose), .string (bs x.aad), .string (bs x.iv), .string (bs x.cipher), .string (bs x.tag)]) := rfl
  rw [HEV.out]
  unfold evcells at hX0 hA0 hB0
  obtain ⟨B, hB⟩ : ∃ B, w.heap.size = B := ⟨_, rfl⟩
  have HBB := Lib.hid hB
  clear hU hl
  go_enter Tryd.func6, Tryd.ntmps6
  go_wp2_with fail
  obtain ⟨w0, hw0⟩ : ∃ q, w.alloc (Obj.cells #[.int .i64 x.format, .int .i64 x.alg, .slice ax x.rcs.length cx, .string (bs x.header), .string (bs x.loose), .string (bs x.aad), .string (bs x.iv), .string (bs x.cipher), .string (bs x.tag)] 24) = q := ⟨_, rfl⟩
  rw [hw0] at hX0 hA0 hB0
  try rw [hw0]
  rw [hB] at hA0
  try rw [hB]
  have HX0 := Lib.hid hX0
  have HA0 := Lib.hid hA0
  have HB0 := Lib.hid hB0
  have HS0 : Hid (B < w0.heap.size) := by show B < _; rw [← hw0, ← hB]; simp
  clear hw0 hX0 hA0 hB0 hB
  refine (WK.out _ (HU.out.at HB0.out)).mono ?_
  rintro e w1 ⟨rfl, hb1⟩
  have HB1 : Hid (Below w.heap.size w w1) := HB0.out.trans (hb1.mono HB0.out.size)
  have HX1 := Lib.hid (HX0.out.below hb1)
  have HA1 := Lib.hid (HA0.out.below hb1 HS0.out)
  have HS1 : Hid (B < w1.heap.size) := Nat.lt_of_lt_of_le HS0.out hb1.size
  clear hb1
  have a0 := HA1.out.cell 0 _ rfl
  have a1 := HA1.out.cell 1 _ rfl
  have a2 := HA1.out.cell 2 _ rfl
  have a3 := HA1.out.cell 3 _ rfl
  have a4 := HA1.out.cell 4 _ rfl
  have a5 := HA1.out.cell 5 _ rfl
  have a6 := HA1.out.cell 6 _ rfl
  have a7 := HA1.out.cell 7 _ rfl
  have a8 := HA1.out.cell 8 _ rfl
  rw [Nat.zero_add] at a0 a1 a2 a3 a4 a5 a6 a7 a8
  have z1 : (bs aad).size = aad.length := rfl
  have z2 : (bs other).size = other.length := rfl
  have z3 : (bs x.header).size = x.header.length := rfl
  have z4 : (bs x.cipher).size = x.cipher.length := rfl
  by_cases h1 : (1048576 : Int) < (aad.length : Int)
  · go_wp2_with fail
    go_ret
    exact ⟨rfl, HB1.out⟩
  by_cases h2 : (1048576 : Int) < (other.length : Int)
  · go_wp2_with fail
    go_ret
    exact ⟨rfl, HB1.out⟩
  by_cases h3 : (1048576 : Int) < (x.header.length : Int)
  · go_wp2_with fail
    go_ret
    exact ⟨rfl, HB1.out⟩
  by_cases h4 : (1048576 : Int) < (x.cipher.length : Int)
  · go_wp2_with fail
    go_ret
    exact ⟨rfl, HB1.out⟩
  have CS := Lib.hid (fun v (a : List UInt8) w' (hv : Ty w' v x.rcs) (ha : a.length ≤ 1048576) hU => cstruct_any x v a w' hv (by omega) (by omega) ha hU)
  have RS := Lib.hid (fun v (a : List UInt8) w' (hv : Ty w' v x.rcs) (ha : a.length ≤ 1048576) => rstruct_any x v a w' hv (by omega) (by omega) ha)
  have HLA : Hid (aad.length ≤ 1048576 ∧ other.length ≤ 1048576) := ⟨by omega, by omega⟩
  go_upto_region 5 with fail
  clear z1 z2 z3 z4 h1 h2 h3 h4
  go_wp2_with fail
  refine (by have h := CP.out (.slice ax x.rcs.length cx) w1 HX1.out; rw [HEV.out] at h; exact h : Calls Tryd.prog 9 #[.agg #[.int .i64 x.format, .int .i64 x.alg, .slice ax x.rcs.length cx, .string (bs x.header), .string (bs x.loose), .string (bs x.aad), .string (bs x.iv), .string (bs x.cipher), .string (bs x.tag)]] w1 (RetE x w1)).mono ?_
  rintro e w2 ⟨v2, rfl, hT2, hb2⟩
  have HB2 : Hid (Below w.heap.size w w2) := HB1.out.trans (hb2.mono HB1.out.size)
  have HX2 := Lib.hid (HX1.out.below hb2)
  have HT2 := Lib.hid hT2
  have HA2 := Lib.hid (HA1.out.below hb2 HS1.out)
  have HS2 : Hid (B < w2.heap.size) := Nat.lt_of_lt_of_le HS1.out hb2.size
  clear hb2 hT2 a0 a1 a2 a3 a4 a5 a6 a7 a8
  go_wp2_with fail
  refine (CS.out v2 aad w2 HT2.out HLA.out.1 (HU.out.at HB2.out)).mono ?_
  rintro e w3 ⟨rfl, hb3⟩
  have HB3 : Hid (Below w.heap.size w w3) := HB2.out.trans (hb3.mono HB2.out.size)
  have HX3 := Lib.hid (HX2.out.below hb3)
  have HA3 := Lib.hid (HA2.out.below hb3 HS2.out)
  have HS3 : Hid (B < w3.heap.size) := Nat.lt_of_lt_of_le HS2.out hb3.size
  clear hb3
  have b0 := HA3.out.cell 0 _ rfl
  have b1 := HA3.out.cell 1 _ rfl
  have b2 := HA3.out.cell 2 _ rfl
  have b3 := HA3.out.cell 3 _ rfl
  have b4 := HA3.out.cell 4 _ rfl
  have b5 := HA3.out.cell 5 _ rfl
  have b6 := HA3.out.cell 6 _ rfl
  have b7 := HA3.out.cell 7 _ rfl
  have b8 := HA3.out.cell 8 _ rfl
  rw [Nat.zero_add] at b0 b1 b2 b3 b4 b5 b6 b7 b8
  go_wp2_with fail
  refine (by have h := RS.out (.slice ax x.rcs.length cx) aad w3 HX3.out HLA.out.1; rw [HEV.out] at h; exact h : Calls Tryd.prog 16 #[.agg #[.int .i64 x.format, .int .i64 x.alg, .slice ax x.rcs.length cx, .string (bs x.header), .string (bs x.loose), .string (bs x.aad), .string (bs x.iv), .string (bs x.cipher), .string (bs x.tag)], .string (bs aad)] w3 (fun e w' => e = .returned (.string (bs (strP x aad))) ∧ Below w3.heap.size w3 w')).mono ?_
  rintro e w4 ⟨rfl, hb4⟩
  have HB4 : Hid (Below w.heap.size w w4) := HB3.out.trans (hb4.mono HB3.out.size)
  have HX4 := Lib.hid (HX3.out.below hb4)
  have HA4 := Lib.hid (HA3.out.below hb4 HS3.out)
  have HS4 : Hid (B < w4.heap.size) := Nat.lt_of_lt_of_le HS3.out hb4.size
  clear hb4 b0 b1 b2 b3 b4 b5 b6 b7 b8
  have c0 := HA4.out.cell 0 _ rfl
  have c1 := HA4.out.cell 1 _ rfl
  have c2 := HA4.out.cell 2 _ rfl
  have c3 := HA4.out.cell 3 _ rfl
  have c4 := HA4.out.cell 4 _ rfl
  have c5 := HA4.out.cell 5 _ rfl
  have c6 := HA4.out.cell 6 _ rfl
  have c7 := HA4.out.cell 7 _ rfl
  have c8 := HA4.out.cell 8 _ rfl
  rw [Nat.zero_add] at c0 c1 c2 c3 c4 c5 c6 c7 c8
  go_wp2_with fail
  refine (by have h := CP.out (.slice ax x.rcs.length cx) w4 HX4.out; rw [HEV.out] at h; exact h : Calls Tryd.prog 9 #[.agg #[.int .i64 x.format, .int .i64 x.alg, .slice ax x.rcs.length cx, .string (bs x.header), .string (bs x.loose), .string (bs x.aad), .string (bs x.iv), .string (bs x.cipher), .string (bs x.tag)]] w4 (RetE x w4)).mono ?_
  rintro e w5 ⟨v5, rfl, hT5, hb5⟩
  have HB5 : Hid (Below w.heap.size w w5) := HB4.out.trans (hb5.mono HB4.out.size)
  have HT5 := Lib.hid hT5
  clear hb5 hT5 c0 c1 c2 c3 c4 c5 c6 c7 c8
  go_wp2_with fail
  refine (CS.out v5 other w5 HT5.out HLA.out.2 (HU.out.at HB5.out)).mono ?_
  rintro e w6 ⟨rfl, hb6⟩
  have HB6 : Hid (Below w.heap.size w w6) := HB5.out.trans (hb6.mono HB5.out.size)
  clear hb6
  by_cases hao : aad = other
  · subst hao
    go_wp2_with fail
    go_ret
    exact ⟨rfl, HB6.out⟩
  · have k1 : ((bs (strP x aad)).toList == (bs (strP x other)).toList) = false := by
      rw [bs_list, bs_list, beq_eq_false_iff_ne]
      exact fun h => hao (strP_inj h)
    have k2 : ((bs aad).toList == (bs other).toList) = false := by
      rw [bs_list, bs_list, beq_eq_false_iff_ne]
      exact hao
    have KK : Hid ((((bs (strP x aad)).toList == (bs (strP x other)).toList) == ((bs aad).toList == (bs other).toList)) = true) := by
      show _ = _
      rw [k1, k2]
      rfl
    clear hao k1 k2
    go_wp2_with fail
    go_ret
    exact ⟨congrArg (fun b => Ending.returned (Value.bool b)) KK.out, HB6.out⟩
end Ce
end Go.Proofs.YtikgonlhdkknkaaDoor
