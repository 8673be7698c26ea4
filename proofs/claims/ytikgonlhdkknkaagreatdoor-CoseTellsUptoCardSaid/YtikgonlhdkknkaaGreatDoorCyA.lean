import Derived.Test.YtikgonlhdkknkaaGreatDoorCuC
import Derived.Test.YtikgonlhdkknkaaGreatDoorCuB
import Derived.Test.YtikgonlhdkknkaaGreatDoorCwA
set_option maxRecDepth 100000
set_option maxHeartbeats 6400000
set_option linter.unusedVariables false
set_option linter.unusedSimpArgs false
open Go.Lib (hid)
namespace Go.Proofs.YtikgonlhdkknkaaGreatDoor
open Go.RowKit
namespace Ce
open Co (Am Ra up rcells rv UT DecR enc Its holds tell okA SrO ra0 rcell_atO ra_ne)
def findA (lab : Am) (ps : List (Am × Am)) : Option Am := (ps.find? fun p => decide (p.1 = lab)).map Prod.snd
theorem findA_at {ps : List (Am × Am)} {lab : Am} {i : Nat} {p : Am × Am} (hi : ps[i]? = some p) (hn : ∀ q ∈ ps.take i, ¬ q.1 = lab) (hr : p.1 = lab) : findA lab ps = some p.2 := by
 obtain ⟨hlt, he⟩ := List.getElem?_eq_some_iff.1 hi
 have h1 : ps = ps.take i ++ ([p] ++ ps.drop (i + 1)) := by rw [← he]; simp
 rw [findA, h1, List.find?_append, List.find?_eq_none.2 (fun q hq => by simp [hn q hq])]
 simp [hr]
theorem findA_no {ps : List (Am × Am)} {lab : Am} (hn : ∀ q ∈ ps, ¬ q.1 = lab) : findA lab ps = none := by
 rw [findA, List.find?_eq_none.2 (fun q hq => by simp [hn q hq])]
 rfl
theorem takeA_no {ps : List (Am × Am)} {lab : Am} {i : Nat} {p : Am × Am} (hi : ps[i]? = some p) (hn : ∀ q ∈ ps.take i, ¬ q.1 = lab) (hr : ¬ p.1 = lab) : ∀ q ∈ ps.take (i + 1), ¬ q.1 = lab := by
 intro q hq
 obtain ⟨hlt, he⟩ := List.getElem?_eq_some_iff.1 hi
 rw [List.take_succ_eq_append_getElem hlt, List.mem_append] at hq
 rcases hq with hq | hq
 ·exact hn q hq
 ·simp only [List.mem_cons, List.mem_nil_iff, or_false] at hq
  rw [hq, he]
  exact hr
theorem findA_app (lab : Am) (a b : List (Am × Am)) : findA lab (a ++ b) = match findA lab a with
  | some v => some v
  | none => findA lab b := by
 rw [findA, findA, findA, List.find?_append]
 cases (a.find? fun p => decide (p.1 = lab)) <;> rfl
theorem up_injA {a b : Am} (h : up a = up b) : a = b := by
 obtain ⟨k, n, t⟩ := a
 obtain ⟨k', n', t'⟩ := b
 have h1 : (k : Int) = (k' : Int) := congrArg Co.Ra.kind h
 have h2 : n = n' := congrArg Co.Ra.num h
 have h3 : t = t' := congrArg Co.Ra.text h
 have h4 : k = k' := by omega
 rw [h2, h3, h4]
def Hv (w : World) (v : Value) (ps : List (Am × Am)) : Prop := ∃ vl vv, v = .agg #[vl, vv] ∧ SrO w vl (ps.map fun p => up p.1) ∧ SrO w vv (ps.map fun p => up p.2)
theorem Hv.below {w w' : World} {v : Value} {ps : List (Am × Am)} (h : Hv w v ps) (hb : Below w.heap.size w w') : Hv w' v ps := by
 obtain ⟨vl, vv, h1, h2, h3⟩ := h
 exact ⟨vl, vv, h1, h2.below hb, h3.below hb⟩
theorem fillA3 {w : World} {T : Nat} {z0 z1 z2 : Value} (h : At w T 0 [z0, z1, z2]) (v0 v1 v2 : Value) : At (((w.setCell ⟨T, 0, none⟩ v0).setCell ⟨T, 1, none⟩ v1).setCell ⟨T, 2, none⟩ v2) T 0 [v0, v1, v2] := ((h.set 0 v0).set 1 v1).set 2 v2
theorem belowA3 {w0 w : World} {T B : Nat} (hb : Below B w0 w) (hT : B ≤ T) (v0 v1 v2 : Value) : Below B w0 (((w.setCell ⟨T, 0, none⟩ v0).setCell ⟨T, 1, none⟩ v1).setCell ⟨T, 2, none⟩ v2) := ((hb.setCell (p := ⟨T, 0, none⟩) hT v0).setCell (p := ⟨T, 1, none⟩) hT v1).setCell (p := ⟨T, 2, none⟩) hT v2
def RetFd (r : Option Am) (w : World) (e : Ending) (w' : World) : Prop := e = .returned (.tuple #[.agg (rv (up (r.getD a0))).toArray, .bool r.isSome]) ∧ Below w.heap.size w w'
theorem rfind_any (ps : List (Am × Am)) (lab : Am) (v : Value) (w : World) (hv : Hv w v ps) (hn : ps.length ≤ 10000) :
  Calls Tryz.prog 65 #[v, .agg (rv (up lab)).toArray] w (RetFd (findA lab ps) w) := by
 obtain ⟨RR, hRR⟩ : ∃ r, findA lab ps = r := ⟨_, rfl⟩
 rw [hRR]
 have HRR := hid hRR
 obtain ⟨vl, vv, rfl, ⟨al, cl, rfl, hl⟩, ⟨av, cv, rfl, hvv⟩⟩ := hv
 simp only [List.length_map]
 obtain ⟨n, hnn⟩ : ∃ n, ps.length = n := ⟨_, rfl⟩
 rw [hnn]
 have HL := hid hl
 have HV := hid hvv
 have HN := hid (aIn hnn hn)
 obtain ⟨ky, hky⟩ : ∃ k : Int, (lab.kind : Int) = k := ⟨_, rfl⟩
 obtain ⟨ny, hny⟩ : ∃ k : Nat, lab.num = k := ⟨_, rfl⟩
 obtain ⟨ty, hty⟩ : ∃ k : List UInt8, lab.text = k := ⟨_, rfl⟩
 have HLB : Hid (up lab = ⟨ky, ny, ty⟩) := by show _ = _; rw [← hky, ← hny, ← hty]; rfl
 rw [HLB.out]
 rw [show (Value.agg (rv ⟨ky, ny, ty⟩).toArray) = .agg #[.int .i64 ky, .int .u64 (ny : Int), .string ⟨ty.toArray⟩] from rfl]
 have hA0 := ((At.ofAlloc w #[.slice al n cl, .slice av n cv] 97).alloc (Obj.cells #[.int .i64 ky, .int .u64 (ny : Int), .string ⟨ty.toArray⟩] 60)).alloc (Obj.cells #[.int .i64 0, .int .u64 0, .string ⟨#[]⟩] 60)
 have hA1 := (At.ofAlloc (w.alloc (Obj.cells #[.slice al n cl, .slice av n cv] 97)) #[.int .i64 ky, .int .u64 (ny : Int), .string ⟨ty.toArray⟩] 60).alloc (Obj.cells #[.int .i64 0, .int .u64 0, .string ⟨#[]⟩] 60)
 have hA2 := At.ofAlloc ((w.alloc (Obj.cells #[.slice al n cl, .slice av n cv] 97)).alloc (Obj.cells #[.int .i64 ky, .int .u64 (ny : Int), .string ⟨ty.toArray⟩] 60)) #[.int .i64 0, .int .u64 0, .string ⟨#[]⟩] 60
 rw [World.size_alloc] at hA1 hA2
 rw [World.size_alloc] at hA2
 have hb0 : Below w.heap.size w (((w.alloc (Obj.cells #[.slice al n cl, .slice av n cv] 97)).alloc (Obj.cells #[.int .i64 ky, .int .u64 (ny : Int), .string ⟨ty.toArray⟩] 60)).alloc (Obj.cells #[.int .i64 0, .int .u64 0, .string ⟨#[]⟩] 60)) := (((Below.refl _ _).alloc (nle _) _).alloc (by simp) _).alloc (by simp; omega) _
 obtain ⟨B, hB⟩ : ∃ B, w.heap.size = B := ⟨_, rfl⟩
 have HBB := hid hB
 clear hRR hl hvv hnn hn hky hny hty
 go_enter Tryz.func65, Tryz.ntmps65
 go_upto_region 1 with fail
 obtain ⟨w0, hw0⟩ : ∃ q, ((w.alloc (Obj.cells #[.slice al n cl, .slice av n cv] 97)).alloc (Obj.cells #[.int .i64 ky, .int .u64 (ny : Int), .string ⟨ty.toArray⟩] 60)).alloc (Obj.cells #[.int .i64 0, .int .u64 0, .string ⟨#[]⟩] 60) = q := ⟨_, rfl⟩
 have hs0 : w0.heap.size = B + 3 := by rw [← hw0, ← hB]; simp
 rw [hw0] at hA0 hA1 hA2 hb0
 try rw [hw0]
 rw [hB] at hA0 hA1 hA2 hb0
 try rw [hB]
 have HA0 := hid hA0
 have HA1 := hid hA1
 have HA2 := hid hA2
 have HB0 := hid hb0
 have HS0 := hid hs0
 clear hw0 hA0 hA1 hA2 hb0 hs0 hB
 go_wp2_with fail
 go_loopw [6] (fun vi wr => ∃ i : Nat, vi = .int .i64 (i : Int) ∧ i ≤ n ∧ Hid (∀ q ∈ ps.take i, ¬ q.1 = lab) ∧ Hid (Below w0.heap.size w0 wr)) (fun vi _ => n - (intOf vi).toNat)
 case atStart => exact ⟨0, rfl, Nat.zero_le _, fun q hq => by simp at hq, Below.refl _ _⟩
 case round =>
  obtain ⟨i, rfl, hi, HT, HB⟩ := hrel
  have hA0 := HA0.out.below HB.out (by rw [HS0.out]; omega)
  have hA1 := HA1.out.below HB.out (by rw [HS0.out]; omega)
  have hA2 := HA2.out.below HB.out (by rw [HS0.out]; omega)
  have hBw : Below B w wr := HB0.out.trans (HB.out.mono (by rw [HS0.out]; omega))
  have HA2r := hid hA2
  have HBW := hid hBw
  have l0 := hA0.z 0 _ rfl
  have l1 := hA0.z 1 _ rfl
  have m0 := hA1.z 0 _ rfl
  have m1 := hA1.z 1 _ rfl
  have m2 := hA1.z 2 _ rfl
  have z0 := hA2.z 0 _ rfl
  have z1 := hA2.z 1 _ rfl
  have z2 := hA2.z 2 _ rfl
  have y0 := hA2.zy 0 _ rfl
  have y1 := hA2.zy 1 _ rfl
  have y2 := hA2.zy 2 _ rfl
  clear hA0 hA1 hA2
  by_cases hin : i < n
  case pos =>
   have hip : i < ps.length := by rw [HN.out.1]; exact hin
   obtain ⟨p, hp⟩ : ∃ p, ps[i]? = some p := ⟨_, List.getElem?_eq_getElem hip⟩
   have hne : ps ≠ [] := fun h => by rw [h] at hip; simp at hip
   obtain ⟨g, o, rfl, hAg, hgl⟩ := HL.out (by simpa using hne)
   obtain ⟨g2, o2, rfl, hAg2, hgl2⟩ := HV.out (by simpa using hne)
   have hx1 : (ps.map fun p => up p.1).getD i ra0 = up p.1 := by rw [List.getD, List.getElem?_map, hp]; rfl
   have hx2 : (ps.map fun p => up p.2).getD i ra0 = up p.2 := by rw [List.getD, List.getElem?_map, hp]; rfl
   have hNc := (rcell_atO hAg i (by rw [List.length_map]; exact hip)).below hBw (by rw [← HBB.out]; exact hgl)
   have hNv := (rcell_atO hAg2 i (by rw [List.length_map]; exact hip)).below hBw (by rw [← HBB.out]; exact hgl2)
   rw [hx1] at hNc
   rw [hx2] at hNv
   have HNV := hid hNv
   obtain ⟨x, hx⟩ : ∃ x, up p.1 = x := ⟨_, rfl⟩
   rw [hx] at hNc
   obtain ⟨kx, nx, tx⟩ := x
   have n0 := hNc.cell 0 _ rfl
   have n1 := hNc.cell 1 _ rfl
   have n2 := hNc.cell 2 _ rfl
   simp only [Nat.add_zero] at n0
   have e2 : (i : Int) < (n : Int) := by omega
   have e9 : (i : Int) ≤ 140737488351232 := by have := HN.out.2; have := HN.out.1; omega
   have HII := hid (show ∃ j, n = i + 1 + j from ⟨n - i - 1, by omega⟩)
   have HP := hid (aIn hp hx)
   clear hNc hNv hAg hAg2 hgl hgl2 hx1 hx2 hp hip hne hin hi hBw
   by_cases hxy : (⟨kx, nx, tx⟩ : Ra) = ⟨ky, ny, ty⟩
   ·have HF : Hid (RR = some p.2) := by
     show RR = _
     rw [← HRR.out]
     exact findA_at HP.out.1 HT.out (up_injA (by rw [HP.out.2, hxy, ← HLB.out]))
    obtain ⟨xv, hxv⟩ : ∃ x, up p.2 = x := ⟨_, rfl⟩
    have hNv := HNV.out
    rw [hxv] at hNv
    obtain ⟨kv, nv, tv⟩ := xv
    have v0 := hNv.cell 0 _ rfl
    have v1 := hNv.cell 1 _ rfl
    have v2 := hNv.cell 2 _ rfl
    simp only [Nat.add_zero] at v0
    have HXV := hid hxv
    simp only [Co.Ra.mk.injEq] at hxy
    obtain ⟨rfl, rfl, rfl⟩ := hxy
    clear hNv hxv HNV hx
    go_wp2_with fail
    go_region
    all_goals (go_wp2_with fail)
    all_goals refine bodyPost_ret (results_at_two rfl _ (B + 2) [.int .i64 kv, .int .u64 (nv : Int), .string ⟨tv.toArray⟩] _ rfl (fillA3 (HA2r.out.drewN _) _ _ _) Tryz.underlying60 rfl (by kernel_rfl) _ rfl) rfl ?_
    all_goals exact ⟨by rw [HF.out, show up ((some p.2).getD a0) = ⟨kv, nv, tv⟩ from HXV.out]; rfl, by rw [HBB.out]; exact belowA3 HBW.out.drew (by omega) _ _ _⟩
   ·have HNN := hid (takeA_no HP.out.1 HT.out (fun h => hxy (by rw [← HP.out.2, h, HLB.out])))
    have hne := ra_ne hxy
    dsimp only at hne
    clear hxy HNV hx
    rcases hne with h1 | ⟨rfl, h2⟩ | ⟨rfl, h2, h3⟩
    ·have h1b : (kx == ky) = false := by rw [beq_eq_false_iff_ne]; exact h1
     go_wp2_with fail
     go_region
     all_goals (go_wp2_with fail)
     all_goals go_roundw
     all_goals (try exact ⟨i + 1, by go_num, by obtain ⟨j, hj⟩ := HII.out; omega, HNN, HB.out.drew⟩)
     all_goals (obtain ⟨j, hj⟩ := HII.out; simp [intOf]; omega)
    ·have h2b : ((nx : Int) == (ny : Int)) = false := by rw [beq_eq_false_iff_ne]; exact h2
     go_wp2_with fail
     go_region
     all_goals (go_wp2_with fail)
     all_goals go_roundw
     all_goals (try exact ⟨i + 1, by go_num, by obtain ⟨j, hj⟩ := HII.out; omega, HNN, HB.out.drew⟩)
     all_goals (obtain ⟨j, hj⟩ := HII.out; simp [intOf]; omega)
    ·obtain rfl : nx = ny := by omega
     go_wp2_with fail
     go_region
     all_goals (go_wp2_with fail)
     all_goals go_roundw
     all_goals (try exact ⟨i + 1, by go_num, by obtain ⟨j, hj⟩ := HII.out; omega, HNN, HB.out.drew⟩)
     all_goals (obtain ⟨j, hj⟩ := HII.out; simp [intOf]; omega)
  case neg =>
   obtain rfl : i = n := by omega
   have e2 : ¬ (i : Int) < (i : Int) := by omega
   have hT := HT.out
   rw [List.take_of_length_le (by rw [HN.out.1]; exact nle _)] at hT
   have HF : Hid (RR = none) := by show _ = _; rw [← HRR.out]; exact findA_no hT
   clear hT hi hin hBw
   go_wp2_with fail
   refine bodyPost_ret (results_at_two rfl _ (B + 2) [.int .i64 0, .int .u64 0, .string ⟨#[]⟩] _ rfl (fillA3 HA2r.out _ _ _) Tryz.underlying60 rfl (by kernel_rfl) _ rfl) rfl ?_
   exact ⟨by rw [HF.out]; rfl, by rw [HBB.out]; exact belowA3 HBW.out (by omega) _ _ _⟩
end Ce
end Go.Proofs.YtikgonlhdkknkaaGreatDoor
namespace Go.Proofs.YtikgonlhdkknkaaGreatDoor
open Go.RowKit
namespace Ce
open Co (Am Ra)
def rowD (F : Int) (n : Nat) : R5 := if 50 < n then R50 else if F = 6 then of13 ((n : Int) + 100) else if (of13 (n : Int)).iv = 16 then R50 else of13 (n : Int)
def badD (F : Int) (n : Nat) : Bool := decide ((rowD F n).alg = 0) || (decide ((rowD F n).iv = 0) != decide (F = 6))
def numF (F : Int) (n : Nat) : Int := (n : Int) + if F = 6 then 100 else 0
def SameD (F : Int) (n : Nat) : Prop := (badD F n = true ↔ ¬ fmtOf (numF F n) = F) ∧ (badD F n = false → (rowD F n).alg = numF F n ∧ (rowD F n).iv = ivOf (numF F n) ∧ (rowD F n).tag = tagOf (numF F n) ∧ 0 ≤ (rowD F n).tag ∧ (rowD F n).tag ≤ 64 ∧ 0 ≤ (rowD F n).iv ∧ (rowD F n).iv ≤ 16)
instance (F : Int) (n : Nat) : Decidable (SameD F n) := by unfold SameD; infer_instance
theorem same_low : ∀ n : Nat, n < 51 → SameD 5 n ∧ SameD 6 n := by decide +kernel
theorem same_D (F : Int) (hF : F = 5 ∨ F = 6) (n : Nat) : SameD F n := by
 by_cases h : n < 51
 ·rcases hF with rfl | rfl
  ·exact (same_low n h).1
  ·exact (same_low n h).2
 ·have h1 : rowD F n = R50 := by rw [rowD, if_pos (by omega)]
  have h2 : badD F n = true := by rw [badD, h1]; rfl
  refine ⟨⟨fun _ => ?_, fun _ => h2⟩, fun h3 => by rw [h2] at h3; cases h3⟩
  rcases hF with rfl | rfl
  ·rw [numF, if_neg (by decide), Int.add_zero]
   rcases row_cases (n : Int) with h0 | h0 | h0 | h0 | h0 | h0 | h0 | h0 | h0 | h0 | h0 | h0 | h0 | h0 | h0 | h0 | h0 | h0 | h0 | h0 | h0 | h0 | h0
   ·rw [fmtOf, h0]; exact (by decide : ¬ (0 : Int) = 5)
   all_goals first | omega | (rw [h0]; decide)
  ·rw [numF, if_pos rfl]
   rcases row_cases ((n : Int) + 100) with h0 | h0 | h0 | h0 | h0 | h0 | h0 | h0 | h0 | h0 | h0 | h0 | h0 | h0 | h0 | h0 | h0 | h0 | h0 | h0 | h0 | h0 | h0
   ·rw [fmtOf, h0]; exact (by decide : ¬ (0 : Int) = 6)
   all_goals omega
theorem rrow_any (F : Int) (n : Nat) (hn : n < 18446744073709551616) (w : World) : Calls Tryz.prog 67 #[.int .i64 F, .int .u64 (n : Int)] w (fun e w' => e = .returned (.agg (r5v (rowD F n)).toArray) ∧ Below w.heap.size w w') := by
 have OF := hid (fun (k : Int) (w' : World) => rof_any k w')
 have hA0 := At.ofAlloc w #[.int .i64 0, .int .i64 0, .int .i64 0, .int .i64 0, .int .i64 0] 137
 have hb0 : Below w.heap.size w (w.alloc (Obj.cells #[.int .i64 0, .int .i64 0, .int .i64 0, .int .i64 0, .int .i64 0] 137)) := (Below.refl _ _).alloc (nle _) _
 obtain ⟨B, hB⟩ : ∃ B, w.heap.size = B := ⟨_, rfl⟩
 have HBB := hid hB
 obtain ⟨R, hR⟩ : ∃ R, rowD F n = R := ⟨_, rfl⟩
 rw [hR]
 have HR := hid hR
 clear hR
 go_enter Tryz.func67, Tryz.ntmps67
 go_upto_region 1 with fail
 obtain ⟨w0, hw0⟩ : ∃ q, w.alloc (Obj.cells #[.int .i64 0, .int .i64 0, .int .i64 0, .int .i64 0, .int .i64 0] 137) = q := ⟨_, rfl⟩
 have hs0 : w0.heap.size = B + 1 := by rw [← hw0, ← hB]; simp
 rw [hw0] at hA0 hb0
 try rw [hw0]
 rw [hB] at hA0 hb0
 try rw [hB]
 have HA0 := hid hA0
 have HB0 := hid hb0
 have HS0 := hid hs0
 clear hw0 hA0 hb0 hs0 hB
 by_cases h50 : 50 < n
 case pos =>
  have e1 : (50 : Int) < (n : Int) := by omega
  have HF : Hid (R = R50) := by show _ = _; rw [← HR.out, rowD, if_pos h50]
  have z0 := HA0.out.z 0 _ rfl
  have z1 := HA0.out.z 1 _ rfl
  have z2 := HA0.out.z 2 _ rfl
  have z3 := HA0.out.z 3 _ rfl
  have z4 := HA0.out.z 4 _ rfl
  have y0 := HA0.out.zy 0 _ rfl
  have y1 := HA0.out.zy 1 _ rfl
  have y2 := HA0.out.zy 2 _ rfl
  have y3 := HA0.out.zy 3 _ rfl
  have y4 := HA0.out.zy 4 _ rfl
  clear h50
  go_wp2_with fail
  refine bodyPost_ret (results_at rfl _ B (r5v R50) _ rfl (fillR5 HA0.out _ _ _ _ _) Tryz.underlying137 rfl (by kernel_rfl)) rfl ?_
  exact ⟨by rw [HF.out], by rw [HBB.out]; exact belowR5 HB0.out (nle _) _ _ _ _ _⟩
 case neg =>
 have e1 : ¬ (50 : Int) < (n : Int) := by omega
 have e2 : IntKind.i64.wrap (n : Int) = (n : Int) := Co.wrap_fit n (by unfold maxLen; omega)
 have HN5 := hid h50
 by_cases h6 : F = 6
 case pos =>
  subst h6
  have HF : Hid (R = of13 ((n : Int) + 100)) := by show _ = _; rw [← HR.out, rowD, if_neg h50, if_pos rfl]
  obtain ⟨m, hm⟩ : ∃ m, n + 100 = m := ⟨_, rfl⟩
  have e3 : (n : Int) + 100 = (m : Int) := by omega
  have e4 : IntKind.i64.wrap (m : Int) = (m : Int) := Co.wrap_fit m (by unfold maxLen; omega)
  rw [e3] at HF
  clear h50 hm
  go_wp2_with fail
  refine (OF.out (m : Int) w0).mono ?_
  rintro e w1 ⟨rfl, hb1⟩
  rw [← HF.out]
  rw [show (Value.agg (r5v R).toArray) = .agg #[.int .i64 R.alg, .int .i64 R.key, .int .i64 R.iv, .int .i64 R.tag, .int .i64 R.layer] from rfl]
  have hA1 := HA0.out.below hb1 (by rw [HS0.out]; omega)
  have HB1 : Hid (Below B w w1) := HB0.out.trans (hb1.mono (by rw [HS0.out]; omega))
  have HS1 : Hid (B < w1.heap.size) := by have h := hb1.size; rw [HS0.out] at h; exact h
  have HA2 := hid (hA1.alloc (Obj.cells #[.int .i64 R.alg, .int .i64 R.key, .int .i64 R.iv, .int .i64 R.tag, .int .i64 R.layer] 137))
  have HC2 := hid (At.ofAlloc w1 #[.int .i64 R.alg, .int .i64 R.key, .int .i64 R.iv, .int .i64 R.tag, .int .i64 R.layer] 137)
  have HB2 : Hid (Below B w (w1.alloc (Obj.cells #[.int .i64 R.alg, .int .i64 R.key, .int .i64 R.iv, .int .i64 R.tag, .int .i64 R.layer] 137))) := HB1.out.alloc (Nat.le_of_lt HS1.out) _
  have z0 := HA2.out.z 0 _ rfl
  have z1 := HA2.out.z 1 _ rfl
  have z2 := HA2.out.z 2 _ rfl
  have z3 := HA2.out.z 3 _ rfl
  have z4 := HA2.out.z 4 _ rfl
  have y0 := HA2.out.zy 0 _ rfl
  have y1 := HA2.out.zy 1 _ rfl
  have y2 := HA2.out.zy 2 _ rfl
  have y3 := HA2.out.zy 3 _ rfl
  have y4 := HA2.out.zy 4 _ rfl
  have c0 := HC2.out.z 0 _ rfl
  have c1 := HC2.out.z 1 _ rfl
  have c2 := HC2.out.z 2 _ rfl
  have c3 := HC2.out.z 3 _ rfl
  have c4 := HC2.out.z 4 _ rfl
  clear hb1 hA1
  go_wp2_with fail
  refine bodyPost_ret (results_at rfl _ B (r5v R) _ rfl (fillR5 HA2.out _ _ _ _ _) Tryz.underlying137 rfl (by kernel_rfl)) rfl ?_
  exact ⟨rfl, by rw [HBB.out]; exact belowR5 HB2.out (nle _) _ _ _ _ _⟩
 case neg =>
 have f6 : (F == 6) = false := by simpa using h6
 go_wp2_with fail
 refine (OF.out (n : Int) w0).mono ?_
 rintro e w1 ⟨rfl, hb1⟩
 obtain ⟨Q, hQ⟩ : ∃ Q, of13 (n : Int) = Q := ⟨_, rfl⟩
 rw [hQ]
 rw [show (Value.agg (r5v Q).toArray) = .agg #[.int .i64 Q.alg, .int .i64 Q.key, .int .i64 Q.iv, .int .i64 Q.tag, .int .i64 Q.layer] from rfl]
 have hA1 := HA0.out.below hb1 (by rw [HS0.out]; omega)
 have HB1 : Hid (Below B w w1) := HB0.out.trans (hb1.mono (by rw [HS0.out]; omega))
 have HS1 : Hid (B < w1.heap.size) := by have h := hb1.size; rw [HS0.out] at h; exact h
 have HA2 := hid (hA1.alloc (Obj.cells #[.int .i64 Q.alg, .int .i64 Q.key, .int .i64 Q.iv, .int .i64 Q.tag, .int .i64 Q.layer] 137))
 have HC2 := hid (At.ofAlloc w1 #[.int .i64 Q.alg, .int .i64 Q.key, .int .i64 Q.iv, .int .i64 Q.tag, .int .i64 Q.layer] 137)
 have HB2 : Hid (Below B w (w1.alloc (Obj.cells #[.int .i64 Q.alg, .int .i64 Q.key, .int .i64 Q.iv, .int .i64 Q.tag, .int .i64 Q.layer] 137))) := HB1.out.alloc (Nat.le_of_lt HS1.out) _
 have z0 := HA2.out.z 0 _ rfl
 have z1 := HA2.out.z 1 _ rfl
 have z2 := HA2.out.z 2 _ rfl
 have z3 := HA2.out.z 3 _ rfl
 have z4 := HA2.out.z 4 _ rfl
 have y0 := HA2.out.zy 0 _ rfl
 have y1 := HA2.out.zy 1 _ rfl
 have y2 := HA2.out.zy 2 _ rfl
 have y3 := HA2.out.zy 3 _ rfl
 have y4 := HA2.out.zy 4 _ rfl
 have c0 := HC2.out.z 0 _ rfl
 have c1 := HC2.out.z 1 _ rfl
 have c2 := HC2.out.z 2 _ rfl
 have c3 := HC2.out.z 3 _ rfl
 have c4 := HC2.out.z 4 _ rfl
 by_cases h16 : Q.iv = 16
 ·have f16 : (Q.iv == 16) = true := by simpa using h16
  have HF : Hid (R = R50) := by show _ = _; rw [← HR.out, rowD, if_neg HN5.out, if_neg h6, hQ, if_pos h16]
  clear hb1 hA1 h16 hQ h50
  go_wp2_with fail
  refine bodyPost_ret (results_at rfl _ B (r5v R50) _ rfl (fillR5 HA2.out _ _ _ _ _) Tryz.underlying137 rfl (by kernel_rfl)) rfl ?_
  exact ⟨by rw [HF.out], by rw [HBB.out]; exact belowR5 HB2.out (nle _) _ _ _ _ _⟩
 ·have f16 : (Q.iv == 16) = false := by simpa using h16
  have HF : Hid (R = Q) := by show _ = _; rw [← HR.out, rowD, if_neg HN5.out, if_neg h6, hQ, if_neg h16]
  clear hb1 hA1 h16 hQ h50
  go_wp2_with fail
  refine bodyPost_ret (results_at rfl _ B (r5v Q) _ rfl (fillR5 HA2.out _ _ _ _ _) Tryz.underlying137 rfl (by kernel_rfl)) rfl ?_
  exact ⟨by rw [HF.out], by rw [HBB.out]; exact belowR5 HB2.out (nle _) _ _ _ _ _⟩
end Ce
end Go.Proofs.YtikgonlhdkknkaaGreatDoor
namespace Go.Proofs.YtikgonlhdkknkaaGreatDoor
open Go.RowKit
namespace Ce
open Co (Am Ra up rcells rv UT DecR enc Its holds tell okA SrO ra0 rcell_atO ra_ne)
theorem rboth_any (pa pb : List (Am × Am)) (n : Nat) (va vb : Value) (w : World) (ha : Hv w va pa) (hb : Hv w vb pb) (hna : pa.length ≤ 10000) (hnb : pb.length ≤ 10000) :
  Calls Tryz.prog 66 #[va, vb, .int .u64 (n : Int)] w (RetFd (findA ⟨0, n, []⟩ (pa ++ pb)) w) := by
 obtain ⟨RR, hRR⟩ : ∃ r, findA ⟨0, n, []⟩ (pa ++ pb) = r := ⟨_, rfl⟩
 rw [hRR]
 rw [findA_app] at hRR
 have HRR := hid hRR
 have FA := hid (fun (w' : World) (h : Hv w' va pa) => rfind_any pa ⟨0, n, []⟩ va w' h hna)
 have FB := hid (fun (w' : World) (h : Hv w' vb pb) => rfind_any pb ⟨0, n, []⟩ vb w' h hnb)
 have HLB : Hid ((Value.agg (rv (up ⟨0, n, []⟩)).toArray) = .agg #[.int .i64 0, .int .u64 (n : Int), .string ⟨#[]⟩]) := rfl
 rw [HLB.out] at FA FB
 have HHA := hid ha
 have HHB := hid hb
 obtain ⟨la, wa, rfl, -, -⟩ := ha
 obtain ⟨lb, wb, rfl, -, -⟩ := hb
 have hA0 := ((At.ofAlloc w #[la, wa] 97).alloc (Obj.cells #[lb, wb] 97)).alloc (Obj.cells #[.int .i64 0, .int .u64 0, .string ⟨#[]⟩] 60)
 have hA1 := (At.ofAlloc (w.alloc (Obj.cells #[la, wa] 97)) #[lb, wb] 97).alloc (Obj.cells #[.int .i64 0, .int .u64 0, .string ⟨#[]⟩] 60)
 have hA2 := At.ofAlloc ((w.alloc (Obj.cells #[la, wa] 97)).alloc (Obj.cells #[lb, wb] 97)) #[.int .i64 0, .int .u64 0, .string ⟨#[]⟩] 60
 rw [World.size_alloc] at hA1 hA2
 rw [World.size_alloc] at hA2
 have hb0 : Below w.heap.size w (((w.alloc (Obj.cells #[la, wa] 97)).alloc (Obj.cells #[lb, wb] 97)).alloc (Obj.cells #[.int .i64 0, .int .u64 0, .string ⟨#[]⟩] 60)) := (((Below.refl _ _).alloc (nle _) _).alloc (by simp) _).alloc (by simp; omega) _
 obtain ⟨B, hB⟩ : ∃ B, w.heap.size = B := ⟨_, rfl⟩
 have HBB := hid hB
 clear hRR hna hnb
 go_enter Tryz.func66, Tryz.ntmps66
 go_upto_region 1 with fail
 obtain ⟨w0, hw0⟩ : ∃ q, ((w.alloc (Obj.cells #[la, wa] 97)).alloc (Obj.cells #[lb, wb] 97)).alloc (Obj.cells #[.int .i64 0, .int .u64 0, .string ⟨#[]⟩] 60) = q := ⟨_, rfl⟩
 have hs0 : w0.heap.size = B + 3 := by rw [← hw0, ← hB]; simp
 rw [hw0] at hA0 hA1 hA2 hb0
 try rw [hw0]
 rw [hB] at hA0 hA1 hA2
 try rw [hB]
 have HA1 := hid hA1
 have HA2 := hid hA2
 have HB0 := hid hb0
 have HS0 := hid hs0
 have HA0 := hid hA0
 have HHB0 := hid (HHB.out.below hb0)
 have l0 := hA0.z 0 _ rfl
 have l1 := hA0.z 1 _ rfl
 have fa := FA.out w0 (HHA.out.below hb0)
 clear hw0 hA0 hA1 hA2 hb0 hs0 hB
 go_wp2_with fail
 refine fa.mono ?_
 clear fa
 rintro e w1 ⟨rfl, hb1⟩
 have HB1 : Hid (Below w.heap.size w w1) := HB0.out.trans (hb1.mono HB0.out.size)
 have HA1' := hid (HA1.out.below hb1 (by rw [HS0.out]; omega))
 have HA2' := hid (HA2.out.below hb1 (by rw [HS0.out]; omega))
 have HHB1 := hid (HHB0.out.below hb1)
 have HS1 : Hid (B + 3 ≤ w1.heap.size) := by have h := hb1.size; rw [HS0.out] at h; exact h
 clear hb1 l0 l1
 obtain ⟨ra, hra⟩ : ∃ r, findA ⟨0, n, []⟩ pa = r := ⟨_, rfl⟩
 rw [hra] at HRR ⊢
 obtain ⟨x, hx⟩ : ∃ x, up (ra.getD a0) = x := ⟨_, rfl⟩
 rw [hx]
 have HX := hid hx
 obtain ⟨kx, nx, tx⟩ := x
 rw [show (Value.agg (rv ⟨kx, nx, tx⟩).toArray) = .agg #[.int .i64 kx, .int .u64 (nx : Int), .string ⟨tx.toArray⟩] from rfl]
 clear hra hx
 go_upto_region 2 with fail
 obtain ⟨w2, hw2⟩ : ∃ q, w1.alloc (Obj.cells #[.int .i64 kx, .int .u64 (nx : Int), .string ⟨tx.toArray⟩] 60) = q := ⟨_, rfl⟩
 obtain ⟨G, hG⟩ : ∃ G, w1.heap.size = G := ⟨_, rfl⟩
 have hb2 : Below w1.heap.size w1 w2 := by rw [← hw2]; exact (Below.refl _ _).alloc (nle _) _
 have hC2 : At w2 G 0 [.int .i64 kx, .int .u64 (nx : Int), .string ⟨tx.toArray⟩] := by rw [← hw2, ← hG]; exact At.ofAlloc w1 _ 60
 have hG3 : B + 3 ≤ G := by rw [← hG]; exact HS1.out
 have hGS : w2.heap.size = G + 1 := by rw [← hw2, ← hG]; simp
 have HC2 := hid hC2
 have HGG := hid (aIn hG3 hGS)
 have HB2 : Hid (Below w.heap.size w w2) := HB1.out.trans (hb2.mono HB1.out.size)
 have HA2 := hid (HA2'.out.below hb2 (by have := HS1.out; omega))
 have HHB2 := hid (HHB1.out.below hb2)
 have hA1 := HA1'.out.below hb2 (by have := HS1.out; omega)
 rw [hw2]
 try rw [hG]
 have z0 := HA2.out.z 0 _ rfl
 have z1 := HA2.out.z 1 _ rfl
 have z2 := HA2.out.z 2 _ rfl
 have y0 := HA2.out.zy 0 _ rfl
 have y1 := HA2.out.zy 1 _ rfl
 have y2 := HA2.out.zy 2 _ rfl
 have c0 := hC2.z 0 _ rfl
 have c1 := hC2.z 1 _ rfl
 have c2 := hC2.z 2 _ rfl
 have d0 := hC2.zy 0 _ rfl
 have d1 := hC2.zy 1 _ rfl
 have d2 := hC2.zy 2 _ rfl
 have b0 := hA1.z 0 _ rfl
 have b1 := hA1.z 1 _ rfl
 have hBg : B + 2 ≠ G := by omega
 clear hw2 hG hb2 hC2 hG3 hGS hA1 HA1' HA2'
 cases ra with
 | some va' =>
  have HE : Hid (RR = some va') := by show _ = _; rw [← HRR.out]
  simp only [Option.isSome_some] at *
  go_wp2_with fail
  refine bodyPost_ret (results_at_two rfl _ (B + 2) [.int .i64 kx, .int .u64 (nx : Int), .string ⟨tx.toArray⟩] _ rfl (fillA3 HA2.out _ _ _) Tryz.underlying60 rfl (by kernel_rfl) _ rfl) rfl ?_
  exact ⟨by rw [HE.out, show up ((some va').getD a0) = ⟨kx, nx, tx⟩ from HX.out]; rfl, belowA3 HB2.out (by rw [HBB.out]; omega) _ _ _⟩
 | none =>
  have HE : Hid (findA ⟨0, n, []⟩ pb = RR) := HRR.out
  simp only [Option.isSome_none] at *
  go_wp2_with fail
  refine (FB.out w2 HHB2.out).mono ?_
  rintro e w3 ⟨rfl, hb3⟩
  rw [HE.out]
  obtain ⟨x, hx⟩ : ∃ x, up (RR.getD a0) = x := ⟨_, rfl⟩
  rw [hx]
  have HX2 := hid hx
  obtain ⟨kz, nz, tz⟩ := x
  rw [show (Value.agg (rv ⟨kz, nz, tz⟩).toArray) = .agg #[.int .i64 kz, .int .u64 (nz : Int), .string ⟨tz.toArray⟩] from rfl]
  obtain ⟨bz, hbz⟩ : ∃ b, RR.isSome = b := ⟨_, rfl⟩
  rw [hbz]
  have HBZ := hid hbz
  have HC3 := hid (HC2.out.below hb3 (by rw [HGG.out.2]; omega))
  have HA3 := hid (HA2.out.below hb3 (by rw [HGG.out.2]; have := HGG.out.1; omega))
  have HB3 : Hid (Below w.heap.size w w3) := HB2.out.trans (hb3.mono HB2.out.size)
  clear hb3 hx hbz z0 z1 z2 y0 y1 y2 c0 c1 c2 d0 d1 d2 b0 b1
  have z0 := HA3.out.z 0 _ rfl
  have z1 := HA3.out.z 1 _ rfl
  have z2 := HA3.out.z 2 _ rfl
  have y0 := HA3.out.zy 0 _ rfl
  have y1 := HA3.out.zy 1 _ rfl
  have y2 := HA3.out.zy 2 _ rfl
  have c0 := HC3.out.z 0 _ rfl
  have c1 := HC3.out.z 1 _ rfl
  have c2 := HC3.out.z 2 _ rfl
  have d0 := HC3.out.zy 0 _ rfl
  have d1 := HC3.out.zy 1 _ rfl
  have d2 := HC3.out.zy 2 _ rfl
  have hGB : G ≠ B + 2 := fun h => hBg h.symm
  go_wp2_with fail
  refine bodyPost_ret (results_at_two rfl _ (B + 2) [.int .i64 kz, .int .u64 (nz : Int), .string ⟨tz.toArray⟩] _ rfl (fillA3 (((HA3.out.other G 0 _ (.inl hGB)).other G 1 _ (.inl hGB)).other G 2 _ (.inl hGB)) _ _ _) Tryz.underlying60 rfl (by kernel_rfl) _ rfl) rfl ?_
  exact ⟨by rw [show up (RR.getD a0) = ⟨kz, nz, tz⟩ from HX2.out, HBZ.out]; rfl, belowA3 (belowA3 HB3.out (by rw [HBB.out]; have := HGG.out.1; omega) _ _ _) (by rw [HBB.out]; omega) _ _ _⟩
theorem findA_none {lab : Am} {ps : List (Am × Am)} : findA lab ps = none ↔ (ps.map Prod.fst).contains lab = false := by
 rw [findA, Option.map_eq_none_iff, List.find?_eq_none]
 constructor
 ·intro h
  rw [← Bool.not_eq_true, List.contains_iff_mem]
  intro hm
  obtain ⟨q, hq, hl⟩ := List.mem_map.1 hm
  exact h q hq (by simpa using hl)
 ·intro h q hq hl
  rw [← Bool.not_eq_true, List.contains_iff_mem] at h
  exact h (List.mem_map.2 ⟨q, hq, by simpa using hl⟩)
theorem labE_bad1 {pr lo : List (Am × Am)} {p : Am × Am} (hp : p ∈ pr) (h : isLab p.1 = false) : labE pr lo = 9 := by
 rw [labE, if_pos]
 left
 rw [← Bool.not_eq_true, List.all_eq_true]
 intro h2
 have h3 := h2 p hp
 rw [h] at h3
 cases h3
theorem labE_bad2 {pr lo : List (Am × Am)} {p : Am × Am} (hp : p ∈ lo) (h : isLab p.1 = false) : labE pr lo = 9 := by
 rw [labE, if_pos]
 right
 rw [← Bool.not_eq_true, List.all_eq_true]
 intro h2
 have h3 := h2 p hp
 rw [h] at h3
 cases h3
theorem labE_two {pr lo : List (Am × Am)} {p : Am × Am} (hp : p ∈ lo) (h : findA p.1 pr ≠ none) : labE pr lo = 9 := by
 rw [labE]
 split
 ·rfl
 rw [if_pos]
 rw [List.any_eq_true]
 refine ⟨p, hp, ?_⟩
 cases hc : (pr.map Prod.fst).contains p.1 with
 | true => rfl
 | false => exact absurd (findA_none.2 hc) h
theorem labE_end {pr lo : List (Am × Am)} (h1 : ∀ q ∈ pr, isLab q.1 = true) (h2 : ∀ q ∈ lo, isLab q.1 = true ∧ findA q.1 pr = none) :
  labE pr lo = if (find 2 (pr ++ lo)).isSome = true ∨ (find 6 (pr ++ lo)).isSome = true then 11 else 0 := by
 rw [labE, if_neg, if_neg]
 ·intro h
  rw [List.any_eq_true] at h
  obtain ⟨q, hq, hc⟩ := h
  rw [findA_none.1 (h2 q hq).2] at hc
  cases hc
 ·rintro (h | h)
  ·rw [← Bool.not_eq_true, List.all_eq_true] at h
   exact h h1
  ·rw [← Bool.not_eq_true, List.all_eq_true] at h
   exact h (fun q hq => (h2 q hq).1)
theorem isLab_dec (a : Am) : isLab a = decide ((a.kind : Int) = 0 ∨ (a.kind : Int) = 1 ∨ (a.kind : Int) = 3) := by
 rw [isLab]
 exact decide_eq_decide.2 (by omega)
theorem take_all {α : Type} {P : α → Prop} {ps : List α} {i : Nat} {p : α} (hi : ps[i]? = some p) (hn : ∀ q ∈ ps.take i, P q) (hr : P p) : ∀ q ∈ ps.take (i + 1), P q := by
 intro q hq
 obtain ⟨hlt, he⟩ := List.getElem?_eq_some_iff.1 hi
 rw [List.take_succ_eq_append_getElem hlt, List.mem_append] at hq
 rcases hq with hq | hq
 ·exact hn q hq
 ·simp only [List.mem_cons, List.mem_nil_iff, or_false] at hq
  rw [hq, he]
  exact hr
theorem zz_drew {w w2 : World} (hb2 : Below ((w.alloc (Obj.cells #[.int .i64 0, .int .u64 0, .string ⟨#[]⟩] 60)).drew).heap.size ((w.alloc (Obj.cells #[.int .i64 0, .int .u64 0, .string ⟨#[]⟩] 60)).drew) w2) : At w2 w.heap.size 0 [.int .i64 0, .int .u64 0, .string ⟨#[]⟩] := by
 have h1 : At (w.alloc (Obj.cells #[.int .i64 0, .int .u64 0, .string ⟨#[]⟩] 60)).drew w.heap.size 0 [.int .i64 0, .int .u64 0, .string ⟨#[]⟩] := (At.ofAlloc w #[.int .i64 0, .int .u64 0, .string ⟨#[]⟩] 60).drewN 1
 exact h1.below hb2 (by show w.heap.size < (w.alloc _).heap.size; simp)
theorem rlabels_any (pa pb : List (Am × Am)) (va vb : Value) (w : World) (ha : Hv w va pa) (hb : Hv w vb pb) (hna : pa.length ≤ 10000) (hnb : pb.length ≤ 10000) :
  Calls Tryz.prog 43 #[va, vb] w (fun e w' => e = .returned (.int .i64 (labE pa pb)) ∧ Below w.heap.size w w') := by
 obtain ⟨RR, hRR⟩ : ∃ r, labE pa pb = r := ⟨_, rfl⟩
 rw [hRR]
 have HRR := hid hRR
 have FA := hid (fun (lab : Am) (w' : World) (h : Hv w' va pa) => rfind_any pa lab va w' h hna)
 have BO := hid (fun (n : Nat) (w' : World) (h1 : Hv w' va pa) (h2 : Hv w' vb pb) => rboth_any pa pb n va vb w' h1 h2 hna hnb)
 have HHA := hid ha
 have HHB := hid hb
 obtain ⟨la, wa, rfl, hla, -⟩ := ha
 obtain ⟨lb, wb, rfl, hlb, -⟩ := hb
 obtain ⟨al, cl, rfl, hal⟩ := hla
 obtain ⟨bl, dl, rfl, hbl⟩ := hlb
 obtain ⟨n, hn⟩ : ∃ n, pa.length = n := ⟨_, rfl⟩
 obtain ⟨m, hm⟩ : ∃ n, pb.length = n := ⟨_, rfl⟩
 simp only [List.length_map, hn, hm] at FA BO HHA HHB ⊢
 have HAL := hid hal
 have HBL := hid hbl
 have HN := hid (aIn hn (aIn hna (aIn hm hnb)))
 have hA0 := (At.ofAlloc w #[.slice al n cl, wa] 97).alloc (Obj.cells #[.slice bl m dl, wb] 97)
 have hA1 := At.ofAlloc (w.alloc (Obj.cells #[.slice al n cl, wa] 97)) #[.slice bl m dl, wb] 97
 rw [World.size_alloc] at hA1
 have hb0 : Below w.heap.size w ((w.alloc (Obj.cells #[.slice al n cl, wa] 97)).alloc (Obj.cells #[.slice bl m dl, wb] 97)) := ((Below.refl _ _).alloc (nle _) _).alloc (by simp) _
 obtain ⟨B, hB⟩ : ∃ B, w.heap.size = B := ⟨_, rfl⟩
 have HBB := hid hB
 clear hRR hna hnb hn hm hal hbl
 go_enter Tryz.func43, Tryz.ntmps43
 go_upto_region 1 with fail
 obtain ⟨w0, hw0⟩ : ∃ q, (w.alloc (Obj.cells #[.slice al n cl, wa] 97)).alloc (Obj.cells #[.slice bl m dl, wb] 97) = q := ⟨_, rfl⟩
 have hs0 : w0.heap.size = B + 2 := by rw [← hw0, ← hB]; simp
 rw [hw0] at hA0 hA1 hb0
 try rw [hw0]
 rw [hB] at hA0 hA1
 try rw [hB]
 have HA0 := hid hA0
 have HA1 := hid hA1
 have HB0 := hid hb0
 have HS0 := hid hs0
 have HHA0 := hid (HHA.out.below hb0)
 have HHB0 := hid (HHB.out.below hb0)
 clear hw0 hA0 hA1 hb0 hs0 hB
 go_wp2_with fail
 go_loopw [5, 6] (fun vi _ wr => ∃ i : Nat, vi = .int .i64 (i : Int) ∧ i ≤ n ∧ Hid (∀ q ∈ pa.take i, isLab q.1 = true) ∧ Hid (Below w0.heap.size w0 wr)) (fun vi _ _ => n - (intOf vi).toNat)
 case atStart => exact ⟨0, rfl, Nat.zero_le _, fun q hq => by simp at hq, Below.refl _ _⟩
 case round =>
  obtain ⟨i, rfl, hi, HT, HB⟩ := hrel
  have hA0 := HA0.out.below HB.out (by rw [HS0.out]; omega)
  have hBw : Below w.heap.size w wr := HB0.out.trans (HB.out.mono HB0.out.size)
  have HBW := hid hBw
  have l0 := hA0.z 0 _ rfl
  have l1 := hA0.z 1 _ rfl
  clear hA0
  by_cases hin : i < n
  case pos =>
   have hip : i < pa.length := by rw [HN.out.1]; exact hin
   obtain ⟨p, hp⟩ : ∃ p, pa[i]? = some p := ⟨_, List.getElem?_eq_getElem hip⟩
   have hne : pa ≠ [] := fun h => by rw [h] at hip; simp at hip
   obtain ⟨g, o, rfl, hAg, hgl⟩ := HAL.out (by simpa using hne)
   have hx1 : (pa.map fun p => up p.1).getD i ra0 = up p.1 := by rw [List.getD, List.getElem?_map, hp]; rfl
   have hNc := (rcell_atO hAg i (by rw [List.length_map]; exact hip)).below hBw hgl
   rw [hx1] at hNc
   have q0 := hNc.cell 0 _ rfl
   simp only [Nat.add_zero] at q0
   obtain ⟨k, hk⟩ : ∃ k : Int, (p.1.kind : Int) = k := ⟨_, rfl⟩
   have n0 : wr.cell? ⟨g, o + i * 3, none⟩ = some (.int .i64 k) := by rw [← hk]; exact q0
   have e2 : (i : Int) < (n : Int) := by omega
   have e9 : (i : Int) ≤ 140737488351232 := by have := HN.out.2.1; have := HN.out.1; omega
   have e10 : IntKind.i64.wrap ((i : Int) + 1) = (i : Int) + 1 := by have := Co.wrap_fit (i + 1) (by unfold maxLen; omega); push_cast at this; exact this
   have HII := hid (show ∃ j, n = i + 1 + j from ⟨n - i - 1, by omega⟩)
   have HP := hid (aIn hp hk)
   clear hNc hAg hgl hx1 hp hip hne hin hi hBw hk q0
   by_cases hL : k = 0 ∨ k = 1 ∨ k = 3
   ·have HNN := hid (take_all HP.out.1 HT.out (by rw [isLab_dec, HP.out.2]; exact dtr hL))
    rcases hL with rfl | rfl | rfl
    all_goals
     go_wp2_with fail
     go_roundw
     case rel => exact ⟨i + 1, by go_num, by obtain ⟨j, hj⟩ := HII.out; omega, HNN, HB⟩
     case measure => obtain ⟨j, hj⟩ := HII.out; simp [intOf]; omega
   ·have HF : Hid (RR = 9) := by
     show RR = _
     rw [← HRR.out]
     exact labE_bad1 (List.mem_of_getElem? HP.out.1) (by rw [isLab_dec, HP.out.2]; exact dfa hL)
    have f0 : (k != 0) = true := by simp; omega
    have f1 : (k != 1) = true := by simp; omega
    have f3 : (k != 3) = true := by simp; omega
    clear hL
    go_wp2_with fail
    go_ret
    exact ⟨by rw [HF.out]; rfl, HBW.out⟩
  case neg =>
   rename World => wq
   obtain rfl : i = n := by omega
   have e2 : ¬ (i : Int) < (i : Int) := by omega
   have hT := HT.out
   rw [List.take_of_length_le (by rw [HN.out.1]; exact nle _)] at hT
   have HTA := hid hT
   have HA1r := hid (HA1.out.below HB.out (by rw [HS0.out]; omega))
   have HA0r := hid (HA0.out.below HB.out (by rw [HS0.out]; omega))
   have HHAr := hid (HHA0.out.below HB.out)
   have HHBr := hid (HHB0.out.below HB.out)
   have HSr : Hid (B + 2 ≤ wq.heap.size) := by have h := HB.out.size; rw [HS0.out] at h; exact h
   clear hT hi hin
   go_wp2_with fail
   go_loopw [7, 8, 9, 10] (fun vi _ _ _ wz => ∃ i : Nat, vi = .int .i64 (i : Int) ∧ i ≤ m ∧ Hid (∀ q ∈ pb.take i, isLab q.1 = true ∧ findA q.1 pa = none) ∧ Hid (Below wq.heap.size wq wz)) (fun vi _ _ _ _ => m - (intOf vi).toNat)
   case atStart => exact ⟨0, rfl, Nat.zero_le _, fun q hq => by simp at hq, Below.refl _ _⟩
   case round =>
    obtain ⟨j, rfl, hj, HTj, HBj⟩ := hrel
    have hA0 := HA0r.out.below HBj.out (by have := HSr.out; omega)
    have hA1 := HA1r.out.below HBj.out (by have := HSr.out; omega)
    have hBw : Below w.heap.size w wr := (HB0.out.trans (HB.out.mono HB0.out.size)).trans (HBj.out.mono (HB0.out.trans (HB.out.mono HB0.out.size)).size)
    have HBW := hid hBw
    have HHr := hid (HHAr.out.below HBj.out)
    have HHs := hid (HHBr.out.below HBj.out)
    have l0 := hA0.z 0 _ rfl
    have l1 := hA0.z 1 _ rfl
    have o0 := hA1.z 0 _ rfl
    have o1 := hA1.z 1 _ rfl
    by_cases hjm : j < m
    case pos =>
     have hip : j < pb.length := by rw [HN.out.2.2.1]; exact hjm
     obtain ⟨p, hp⟩ : ∃ p, pb[j]? = some p := ⟨_, List.getElem?_eq_getElem hip⟩
     have hne : pb ≠ [] := fun h => by rw [h] at hip; simp at hip
     obtain ⟨g, o, rfl, hAg, hgl⟩ := HBL.out (by simpa using hne)
     have hx1 : (pb.map fun p => up p.1).getD j ra0 = up p.1 := by rw [List.getD, List.getElem?_map, hp]; rfl
     have hNc := (rcell_atO hAg j (by rw [List.length_map]; exact hip)).below hBw hgl
     rw [hx1] at hNc
     obtain ⟨x, hx⟩ : ∃ x, up p.1 = x := ⟨_, rfl⟩
     rw [hx] at hNc
     have FX := hid (fun (w' : World) h => FA.out p.1 w' h)
     rw [hx] at FX
     have hkk : (p.1.kind : Int) = x.kind := by rw [← hx]; rfl
     obtain ⟨kx, nx, tx⟩ := x
     rw [show (Value.agg (rv ⟨kx, nx, tx⟩).toArray) = .agg #[.int .i64 kx, .int .u64 (nx : Int), .string ⟨tx.toArray⟩] from rfl] at FX
     have n0 := hNc.cell 0 _ rfl
     have n1 := hNc.cell 1 _ rfl
     have n2 := hNc.cell 2 _ rfl
     simp only [Nat.add_zero] at n0
     have hNa := hNc.alloc (Obj.cells #[.int .i64 0, .int .u64 0, .string ⟨#[]⟩] 60)
     have p0 := hNa.cell 0 _ rfl
     have p1 := hNa.cell 1 _ rfl
     have p2 := hNa.cell 2 _ rfl
     simp only [Nat.add_zero] at p0
     have hAa := hA0.alloc (Obj.cells #[.int .i64 0, .int .u64 0, .string ⟨#[]⟩] 60)
     have hAb := hA1.alloc (Obj.cells #[.int .i64 0, .int .u64 0, .string ⟨#[]⟩] 60)
     have q0 := hAa.z 0 _ rfl
     have q1 := hAa.z 1 _ rfl
     have q2 := hAb.z 0 _ rfl
     have q3 := hAb.z 1 _ rfl
     clear hNa hAa hAb
     have e3 : (j : Int) < (m : Int) := by omega
     have e9 : (j : Int) ≤ 140737488351232 := by have := HN.out.2.2.1; have := HN.out.2.2.2; omega
     have e10 : IntKind.i64.wrap ((j : Int) + 1) = (j : Int) + 1 := by have := Co.wrap_fit (j + 1) (by unfold maxLen; omega); push_cast at this; exact this
     have HII := hid (show ∃ r, m = j + 1 + r from ⟨m - j - 1, by omega⟩)
     have HP := hid (aIn hp hkk)
     obtain ⟨r, hr⟩ : ∃ r, findA p.1 pa = r := ⟨_, rfl⟩
     rw [hr] at FX
     have HRF := hid hr
     unfold RetFd at FX
     obtain ⟨xf, hxf⟩ : ∃ x, up (r.getD a0) = x := ⟨_, rfl⟩
     rw [hxf] at FX
     obtain ⟨kf, nf, tf⟩ := xf
     rw [show (Value.agg (rv ⟨kf, nf, tf⟩).toArray) = .agg #[.int .i64 kf, .int .u64 (nf : Int), .string ⟨tf.toArray⟩] from rfl] at FX
     clear hNc hAg hgl hx1 hp hip hne hj hjm hBw hkk hx hr hxf hA0 hA1
     obtain ⟨bR, hbR⟩ : ∃ b, r.isSome = b := ⟨_, rfl⟩
     rw [hbR] at FX
     have HBR := hid hbR
     clear hbR
     go_upto_region 11 with fail
     go_cut [9, 10] from 38 to 73 (fun v9 v10 wx => v10 = .bool bR ∧ Hid (Below wq.heap.size wq wx))
     case first =>
      go_region_with (first | (go_at_call 65; refine (FX.out _ (HHr.out.below (by { repeat (first | exact Below.refl _ _ | refine Below.drew ?_ | refine bdN ?_ _ | refine Below.alloc ?_ (nle _) _) }))).mono ?_; rintro e w2 ⟨rfl, hb2⟩; have HB2 : Hid (Below wq.heap.size wq w2) := HBj.out.trans ((show Below wr.heap.size wr w2 from Below.trans (by { repeat (first | exact Below.refl _ _ | refine Below.drew ?_ | refine bdN ?_ _ | refine Below.alloc ?_ (nle _) _) }) (hb2.mono (by { first | exact nle _ | simp }))).mono HBj.out.size); try ((first | (have zz := zz_drew hb2) | (have zz := zz_two hb2) | (have zz := zz_three hb2)); rename At w2 wr.heap.size 0 _ => zz; have x0 := zz.cell 0 _ rfl; have x1 := zz.cell 1 _ rfl; have x2 := zz.cell 2 _ rfl; have v0 := (zz 0 _ rfl).2; have v1 := (zz 1 _ rfl).2; have v2 := (zz 2 _ rfl).2; rw [Nat.zero_add] at x0 x1 x2 v0 v1 v2); clear hb2))
      all_goals (go_wp2_with fail)
      all_goals go_meet
      all_goals first | exact ⟨rfl, HB2.out⟩ | exact ⟨rfl, HB2.out.alloc HB2.out.size _⟩ | exact ⟨rfl, belowA3 HB2.out HBj.out.size _ _ _⟩
     case rest =>
     obtain ⟨rfl, HBc⟩ := hcut
     have HBCW : Hid (Below w.heap.size w wc) := (HB0.out.trans (HB.out.mono HB0.out.size)).trans (HBc.out.mono (HB0.out.trans (HB.out.mono HB0.out.size)).size)
     clear p0 p1 p2 q0 q1 q2 q3 l0 l1 o0 o1 n0 n1 n2
     by_cases hL : kx = 0 ∨ kx = 1 ∨ kx = 3
     case neg =>
      have HF : Hid (RR = 9) := by
       show RR = _
       rw [← HRR.out]
       exact labE_bad2 (List.mem_of_getElem? HP.out.1) (by rw [isLab_dec, HP.out.2]; exact dfa hL)
      have f0 : (kx != 0) = true := by simp; omega
      have f1 : (kx != 1) = true := by simp; omega
      have f3 : (kx != 3) = true := by simp; omega
      clear hL
      go_wp2_with fail
      go_ret
      exact ⟨by rw [HF.out]; rfl, HBCW.out⟩
     case pos =>
      cases bR
      case true =>
       have HF : Hid (RR = 9) := by
        show RR = _
        rw [← HRR.out]
        refine labE_two (List.mem_of_getElem? HP.out.1) ?_
        rw [HRF.out]
        intro h0
        have h1 := HBR.out
        rw [h0] at h1
        cases h1
       rcases hL with rfl | rfl | rfl
       all_goals
        go_wp2_with fail
        go_ret
        exact ⟨by rw [HF.out]; rfl, HBCW.out⟩
      case false =>
       have HNN := hid (take_all HP.out.1 HTj.out ⟨by rw [isLab_dec, HP.out.2]; exact dtr hL, by rw [HRF.out]; cases r with
        | none => rfl
        | some x => cases HBR.out⟩)
       rcases hL with rfl | rfl | rfl
       all_goals
        go_wp2_with fail
        go_roundw
        case rel => (repeat apply Exists.intro); exact ⟨(show Value.int .i64 ((j : Int) + 1) = Value.int .i64 ((j + 1 : Nat) : Int) from by push_cast; rfl), by obtain ⟨r, hr⟩ := HII.out; omega, HNN, HBc⟩
        case measure => obtain ⟨r, hr⟩ := HII.out; simp [intOf]; omega
    case neg =>
     obtain rfl : j = m := by omega
     have e3 : ¬ (j : Int) < (j : Int) := by omega
     have hT := HTj.out
     rw [List.take_of_length_le (by rw [HN.out.2.2.1]; exact nle _)] at hT
     have HE := hid (labE_end HTA.out hT)
     clear hT hj hjm hA0 hA1 hBw
     rw [HRR.out] at HE
     have HBO := hid (fun (n : Nat) (w' : World) h1 h2 => BO.out n w' h1 h2)
     go_wp2_with fail
     refine (BO.out 2 wr HHr.out HHs.out).mono ?_
     rintro e w2 ⟨rfl, hb2⟩
     have HB2 : Hid (Below w.heap.size w w2) := HBW.out.trans (hb2.mono HBW.out.size)
     have HH2a := hid (HHr.out.below hb2)
     have HH2b := hid (HHs.out.below hb2)
     have hA0 := (HA0r.out.below HBj.out (by have := HSr.out; omega)).below hb2 (by have := HSr.out; have := HBj.out.size; omega)
     have hA1 := (HA1r.out.below HBj.out (by have := HSr.out; omega)).below hb2 (by have := HSr.out; have := HBj.out.size; omega)
     have HG2 : Hid (B + 2 ≤ w2.heap.size) := by have := HSr.out; have := HBj.out.size; have := hb2.size; show B + 2 ≤ _; omega
     obtain ⟨x2, hx2⟩ : ∃ x, findA ⟨0, 2, []⟩ (pa ++ pb) = x := ⟨_, rfl⟩
     rw [hx2]
     have HX2 := hid hx2
     obtain ⟨y2, hy2⟩ : ∃ y, up (x2.getD a0) = y := ⟨_, rfl⟩
     rw [hy2]
     obtain ⟨ky2, ny2, ty2⟩ := y2
     rw [show (Value.agg (rv ⟨ky2, ny2, ty2⟩).toArray) = .agg #[.int .i64 ky2, .int .u64 (ny2 : Int), .string ⟨ty2.toArray⟩] from rfl]
     obtain ⟨b2, hb2b⟩ : ∃ b, x2.isSome = b := ⟨_, rfl⟩
     rw [hb2b]
     have HBI2 := hid hb2b
     clear hx2 hy2 hb2b
     clear l0 l1 o0 o1
     have hal : Below w2.heap.size w2 (w2.alloc (Obj.cells #[.int .i64 ky2, .int .u64 (ny2 : Int), .string ⟨ty2.toArray⟩] 60)) := (Below.refl _ _).alloc (nle _) _
     have HH3a := hid (HH2a.out.below hal)
     have HH3b := hid (HH2b.out.below hal)
     have hA0' := hA0.below hal (by have := HG2.out; omega)
     have hA1' := hA1.below hal (by have := HG2.out; omega)
     have l0 := hA0'.z 0 _ rfl
     have l1 := hA0'.z 1 _ rfl
     have o0 := hA1'.z 0 _ rfl
     have o1 := hA1'.z 1 _ rfl
     have HB3 : Hid (Below w.heap.size w (w2.alloc (Obj.cells #[.int .i64 ky2, .int .u64 (ny2 : Int), .string ⟨ty2.toArray⟩] 60))) := HB2.out.trans (hal.mono HB2.out.size)
     clear hal hb2 hA0 hA1 hA0' hA1'
     go_wp2_with fail
     refine (BO.out 6 _ HH3a.out HH3b.out).mono ?_
     rintro e w4 ⟨rfl, hb4⟩
     have HB4 : Hid (Below w.heap.size w w4) := HB3.out.trans (hb4.mono HB3.out.size)
     obtain ⟨x6, hx6⟩ : ∃ x, findA ⟨0, 6, []⟩ (pa ++ pb) = x := ⟨_, rfl⟩
     rw [hx6]
     have HX6 := hid hx6
     obtain ⟨y6, hy6⟩ : ∃ y, up (x6.getD a0) = y := ⟨_, rfl⟩
     rw [hy6]
     obtain ⟨ky6, ny6, ty6⟩ := y6
     rw [show (Value.agg (rv ⟨ky6, ny6, ty6⟩).toArray) = .agg #[.int .i64 ky6, .int .u64 (ny6 : Int), .string ⟨ty6.toArray⟩] from rfl]
     obtain ⟨b6, hb6b⟩ : ∃ b, x6.isSome = b := ⟨_, rfl⟩
     rw [hb6b]
     have HBI6 := hid hb6b
     clear hx6 hy6 hb6b
     clear hb4
     have hee := HE.out
     rw [show find 2 (pa ++ pb) = findA ⟨0, 2, []⟩ (pa ++ pb) from rfl, show find 6 (pa ++ pb) = findA ⟨0, 6, []⟩ (pa ++ pb) from rfl, HX2.out, HX6.out, HBI2.out, HBI6.out] at hee
     have HE2 := hid hee
     clear hee
     cases b2
     ·cases b6
      ·have HF : Hid (RR = 0) := by show _ = _; rw [HE2.out]; rfl
       go_wp2_with fail
       go_ret
       exact ⟨by rw [HF.out]; rfl, HB4.out.alloc HB4.out.size _⟩
      ·have HF : Hid (RR = 11) := by show _ = _; rw [HE2.out]; rfl
       go_wp2_with fail
       go_ret
       exact ⟨by rw [HF.out]; rfl, HB4.out.alloc HB4.out.size _⟩
     ·have HF : Hid (RR = 11) := by show _ = _; rw [HE2.out]; rfl
      go_wp2_with fail
      go_ret
      exact ⟨by rw [HF.out]; rfl, HB4.out.alloc HB4.out.size _⟩
end Ce
end Go.Proofs.YtikgonlhdkknkaaGreatDoor
