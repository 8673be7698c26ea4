import Derived.Test.YtikgonlhdkknkaaGreatDoorCuE
import Derived.Test.YtikgonlhdkknkaaGreatDoorCeY
set_option maxRecDepth 100000
set_option maxHeartbeats 3200000
set_option linter.unusedVariables false
set_option linter.unusedSimpArgs false
open Go.Lib (hid)
namespace Go.Proofs.YtikgonlhdkknkaaGreatDoor
open Go.RowKit
namespace Ce
open Co (Am Ra up rcells rv UT)
theorem greatest_any (w : World) : Calls Tryz.prog 22 #[] w (fun e w' => e = .returned (.agg #[.int .i64 32, .int .i64 4096, .int .i64 262144, .int .i64 4096]) ∧ Below w.heap.size w w') := by
 go_enter Tryz.func22, Tryz.ntmps22
 go_wp2_with fail
 refine bodyPost_ret (results_at rfl _ w.heap.size [.int .i64 32, .int .i64 4096, .int .i64 262144, .int .i64 4096] _ rfl (At.ofAlloc w #[.int .i64 32, .int .i64 4096, .int .i64 262144, .int .i64 4096] 23) Tryz.underlying23 rfl (by kernel_rfl)) rfl ?_
 exact ⟨rfl, (Below.refl w.heap.size w).alloc (nle _) _⟩
theorem cbytes_any (s : ByteArray) (w : World) : Calls Tryz.prog 23 #[.string s] w (fun e w' => e = .returned (.agg #[.int .i64 2, .int .u64 0, .string s]) ∧ Below w.heap.size w w') := by
 go_enter Tryz.func23, Tryz.ntmps23
 go_wp2_with fail
 refine bodyPost_ret (results_at rfl _ w.heap.size [.int .i64 2, .int .u64 0, .string s] _ rfl (At.ofAlloc w #[.int .i64 2, .int .u64 0, .string s] 60) Tryz.underlying60 rfl (by kernel_rfl)) rfl ?_
 exact ⟨rfl, (Below.refl w.heap.size w).alloc (nle _) _⟩
def Chk (S : List UInt8) (x : Ev) (y : Int × Ev) : Int := if y.1 ≠ 0 ∨ ¬ y.2 = x then 2 else 0
def RetChk (s : ByteArray) (x : Ev) (w : World) (e : Ending) (w' : World) : Prop :=
 ∃ y, Rd s.toList 32 4096 262144 4096 y ∧ e = .returned (.tuple #[.string (if Chk s.toList x y = 0 then s else ⟨#[]⟩), .int .i64 (Chk s.toList x y)]) ∧ Below w.heap.size w w'
theorem Rd.rcs {S : List UInt8} {d i b ro : Int} {y : Int × Ev} (h : Rd S d i b ro y) : y.2.rcs.length ≤ 1 := by
 cases h with
 | no _ => exact Nat.zero_le _
 | pre _ _ => exact Nat.zero_le _
 | all _ _ _ =>
  show (rdV _ _).rcs.length ≤ 1
  rw [rdV]
  split
  ·exact Nat.zero_le _
  ·exact nle _
theorem checked_any (s : ByteArray) (x : Ev) (vx : Value) (w : World) (hz : s.size ≤ 140737488351232) (hx : Ty w vx x.rcs) (hl : x.rcs.length ≤ 140737488351232) (hU : UT w.heap.size w) :
  Calls Tryz.prog 25 #[.string s, evv x vx, .func (.func 6) #[] #[]] w (RetChk s x w) := by
 obtain ⟨B, hB⟩ : ∃ B, w.heap.size = B := ⟨_, rfl⟩
 have HBB := hid hB
 have GR := hid (fun w => greatest_any w)
 have RD := hid (fun w' hU => cread_any s 32 4096 262144 4096 w' hz hU)
 have hB0 : Below w.heap.size w (w.alloc (Obj.cells (evcells x vx).toArray 27)) := (Below.refl _ _).alloc (nle _) _
 have hX0 := hx.below hB0
 have hA0 := At.ofAlloc w (evcells x vx).toArray 27
 have HU := hid hU
 have HLX := hid hl
 obtain ⟨ax, cx, rfl, -⟩ := hx
 obtain ⟨nx, hnx⟩ : ∃ n, x.rcs.length = n := ⟨_, rfl⟩
 have HNX := hid hnx
 rw [hnx] at hB0 hX0 hA0 ⊢
 have HEV : Hid (evv x (.slice ax nx cx) = .agg (evcells x (.slice ax nx cx)).toArray) := rfl
 unfold evcells at hB0 hX0 hA0
 rw [HEV.out]
 unfold evcells
 clear hz hl hU hnx
 go_enter Tryz.func25, Tryz.ntmps25
 go_upto_region 1 with fail
 obtain ⟨w0, hw0⟩ : ∃ q, w.alloc (Obj.cells #[.int .i64 x.format, .int .i64 x.alg, .slice ax nx cx, .string (bs x.header), .string (bs x.loose), .string (bs x.aad), .string (bs x.iv), .string (bs x.cipher), .string (bs x.tag)] 27) = q := ⟨_, rfl⟩
 have HS0 : Hid (w0.heap.size = B + 1) := by show _ = _; rw [← hw0, ← hB]; simp
 rw [hw0] at hB0 hX0 hA0
 try rw [hw0]
 rw [hB] at hB0 hA0
 try rw [hB]
 have HB0 := hid hB0
 have HX0 := hid hX0
 have HA0 := hid hA0
 clear hw0 hB0 hX0 hA0 hB
 go_wp2_with fail
 refine (GR.out w0).mono ?_
 rintro e w1 ⟨rfl, hb1⟩
 have HB1 : Hid (Below B w w1) := HB0.out.trans (hb1.mono (by rw [HS0.out]; omega))
 have HS1 : Hid (B + 1 ≤ w1.heap.size) := by have := hb1.size; rw [HS0.out] at this; exact this
 have HX1 := hid (HX0.out.below hb1)
 have HA1 := hid (HA0.out.below hb1 (by rw [HS0.out]; omega))
 have HU1 : Hid (UT w1.heap.size w1) := by
  have h1 : UT B w := by rw [← HBB.out]; exact HU.out
  exact (h1.below HB1.out).mono (by have := HS1.out; omega)
 clear hb1
 go_wp2_with fail
 refine (RD.out w1 HU1.out).mono ?_
 rintro e w2 ⟨y, hy, vT, rfl, hT, hb2⟩
 have HY := hid hy
 have HB2 : Hid (Below B w w2) := HB1.out.trans (hb2.mono (by have := HS1.out; omega))
 have HS2 : Hid (B + 1 ≤ w2.heap.size) := Nat.le_trans HS1.out hb2.size
 have HX2 := hid (HX1.out.below hb2)
 have HA2 := hid (HA1.out.below hb2 (by have := HS1.out; omega))
 have HLY : Hid (y.2.rcs.length ≤ 140737488351232) := Nat.le_trans hy.rcs (by omega)
 have HT2 := hid hT
 obtain ⟨ay, cy, rfl, -⟩ := hT
 obtain ⟨ny, hny⟩ : ∃ n, y.2.rcs.length = n := ⟨_, rfl⟩
 have HNY := hid hny
 rw [hny] at HT2 ⊢
 obtain ⟨c, hc⟩ : ∃ c, y.1 = c := ⟨_, rfl⟩
 have HC := hid hc
 rw [hc]
 have HEY : Hid (evv y.2 (.slice ay ny cy) = .agg (evcells y.2 (.slice ay ny cy)).toArray) := rfl
 rw [HEY.out]
 unfold evcells
 clear hy hb2 hny hc
 by_cases h0 : c = 0
 case neg =>
  have HCN := hid h0
  have f0 : (c != 0) = true := by simpa using h0
  clear h0
  have HCK : Hid (Chk s.toList x y = 2) := by show _ = _; rw [Chk, if_pos (.inl (by rw [HC.out]; exact HCN.out))]
  go_wp2_with fail
  go_ret2
  exact ⟨y, HY.out, by rw [HCK.out]; rfl, by rw [HBB.out]; exact HB2.out.alloc (by have := HS2.out; omega) _⟩
 case pos =>
 subst h0
 obtain ⟨g, hg⟩ : ∃ g, w2.heap.size = g := ⟨_, rfl⟩
 have HG := hid hg
 go_upto_region 2 with fail
 obtain ⟨w3, hw3⟩ : ∃ q, w2.alloc (Obj.cells #[.int .i64 y.2.format, .int .i64 y.2.alg, .slice ay ny cy, .string (bs y.2.header), .string (bs y.2.loose), .string (bs y.2.aad), .string (bs y.2.iv), .string (bs y.2.cipher), .string (bs y.2.tag)] 27) = q := ⟨_, rfl⟩
 have HB3 : Hid (Below B w w3) := by show Below _ _ _; rw [← hw3]; exact HB2.out.alloc (by have := HS2.out; omega) _
 have hA3 : At w3 B 0 [.int .i64 x.format, .int .i64 x.alg, .slice ax nx cx, .string (bs x.header), .string (bs x.loose), .string (bs x.aad), .string (bs x.iv), .string (bs x.cipher), .string (bs x.tag)] := by rw [← hw3]; exact HA2.out.alloc _
 have hE3 : At w3 g 0 #[.int .i64 y.2.format, .int .i64 y.2.alg, .slice ay ny cy, .string (bs y.2.header), .string (bs y.2.loose), .string (bs y.2.aad), .string (bs y.2.iv), .string (bs y.2.cipher), .string (bs y.2.tag)].toList := by rw [← hw3, ← hg]; exact At.ofAlloc w2 _ _
 have hbb : Below w2.heap.size w2 w3 := by rw [← hw3]; exact (Below.refl _ _).alloc (nle _) _
 have hX3 := HX2.out.below hbb
 have hT3 := HT2.out.below hbb
 rw [← HNX.out] at hX3
 rw [← HNY.out] at hT3
 have HS3 : Hid (B + 1 ≤ w3.heap.size) := Nat.le_trans HS2.out hbb.size
 have SM := hid (tsame_any y.2 x _ _ w3 hT3 hX3 HLY.out HLX.out)
 rw [HNX.out, HNY.out, HEY.out, HEV.out] at SM
 unfold evcells at SM
 rw [hw3]
 clear hw3 hg hbb hX3 hT3
 obtain ⟨a0, a1, a2, a3, a4, a5, a6, a7, a8⟩ := hA3.c9
 obtain ⟨b0, b1, b2, b3, b4, b5, b6, b7, b8⟩ := hE3.c9
 clear hA3 hE3
 go_wp2_with fail
 refine SM.out.mono ?_
 rintro e w4 ⟨rfl, hb4⟩
 have HB4 : Hid (Below B w w4) := HB3.out.trans (hb4.mono (by have := HS3.out; omega))
 obtain ⟨Q, hQ⟩ : ∃ q, decide (y.2 = x) = q := ⟨_, rfl⟩
 have HQ := hid hQ
 rw [hQ]
 clear hb4 hQ
 cases Q
 ·have HCK : Hid (Chk s.toList x y = 2) := by show _ = _; rw [Chk, if_pos (.inr (of_decide_eq_false HQ.out))]
  go_wp2_with fail
  go_ret2
  exact ⟨y, HY.out, by rw [HCK.out]; rfl, by rw [HBB.out]; exact HB4.out⟩
 ·have HCK : Hid (Chk s.toList x y = 0) := by show _ = _; rw [Chk, if_neg (by rw [HC.out]; rintro (h | h); exact h rfl; exact h (of_decide_eq_true HQ.out))]
  go_wp2_with fail
  go_ret2
  exact ⟨y, HY.out, by rw [HCK.out]; rfl, by rw [HBB.out]; exact HB4.out⟩
end Ce
end Go.Proofs.YtikgonlhdkknkaaGreatDoor
