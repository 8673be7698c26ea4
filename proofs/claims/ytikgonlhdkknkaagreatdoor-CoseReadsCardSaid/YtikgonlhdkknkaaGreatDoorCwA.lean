import Derived.Test.YtikgonlhdkknkaaGreatDoorCuC
import Derived.Test.YtikgonlhdkknkaaGreatDoorCuV
set_option maxRecDepth 100000
set_option maxHeartbeats 1600000
set_option linter.unusedVariables false
set_option linter.unusedSimpArgs false
open Go.Lib (hid)
namespace Go.Proofs.YtikgonlhdkknkaaGreatDoor
open Go.RowKit
namespace Ce
structure R5 where
 alg : Int
 key : Int
 iv : Int
 tag : Int
 layer : Int
def R50 : R5 := ⟨0, 0, 0, 0, 0⟩
def T13 : List R5 := [⟨1, 16, 12, 16, 9⟩, ⟨2, 24, 12, 16, 9⟩, ⟨3, 32, 12, 16, 9⟩, ⟨4, 32, 16, 16, 11⟩, ⟨5, 48, 16, 24, 11⟩, ⟨6, 64, 16, 32, 11⟩, ⟨10, 16, 13, 8, 10⟩, ⟨11, 32, 13, 8, 10⟩, ⟨12, 16, 7, 8, 10⟩, ⟨13, 32, 7, 8, 10⟩, ⟨30, 16, 13, 16, 10⟩, ⟨31, 32, 13, 16, 10⟩, ⟨32, 16, 7, 16, 10⟩, ⟨33, 32, 7, 16, 10⟩, ⟨104, 32, 0, 8, 4⟩, ⟨105, 32, 0, 32, 4⟩, ⟨106, 48, 0, 48, 4⟩, ⟨107, 64, 0, 64, 4⟩, ⟨114, 16, 0, 8, 6⟩, ⟨115, 32, 0, 8, 6⟩, ⟨125, 16, 0, 16, 6⟩, ⟨126, 32, 0, 16, 6⟩]
def of13 (n : Int) : R5 := (T13.find? fun r => decide (r.alg = n)).getD R50
def r5v (r : R5) : List Value := [.int .i64 r.alg, .int .i64 r.key, .int .i64 r.iv, .int .i64 r.tag, .int .i64 r.layer]
def r5cells (l : List R5) : List Value := l.flatMap r5v
theorem r5cells_length (l : List R5) : (r5cells l).length = l.length * 5 := by
 induction l with
 | nil => rfl
 | cons a l ih => rw [show r5cells (a :: l) = r5v a ++ r5cells l from rfl, lap, ih, lco]; simp [r5v]; omega
theorem r5_at {w : World} {g : Nat} {l : List R5} (h : At w g 0 (r5cells l)) (i : Nat) (r : R5) (hi : l[i]? = some r) : At w g (i * 5) (r5v r) := by
 obtain ⟨hlt, he⟩ := List.getElem?_eq_some_iff.1 hi
 have h1 : l = l.take i ++ ([r] ++ l.drop (i + 1)) := by rw [← he]; simp
 have h2 : r5cells l = r5cells (l.take i) ++ r5v r ++ r5cells (l.drop (i + 1)) := by
  conv => lhs; rw [h1]
  rw [r5cells, List.flatMap_append, List.flatMap_append, ← List.append_assoc]
  simp [r5cells]
 rw [h2] at h
 have h3 := At.sub h
 rw [r5cells_length, List.length_take, Nat.min_eq_left (Nat.le_of_lt hlt), Nat.zero_add] at h3
 exact h3
theorem find_at {l : List R5} {n : Int} {i : Nat} {r : R5} (hi : l[i]? = some r) (hn : ∀ q ∈ l.take i, ¬ q.alg = n) (hr : r.alg = n) : l.find? (fun r => decide (r.alg = n)) = some r := by
 obtain ⟨hlt, he⟩ := List.getElem?_eq_some_iff.1 hi
 have h1 : l = l.take i ++ ([r] ++ l.drop (i + 1)) := by rw [← he]; simp
 rw [h1, List.find?_append, List.find?_eq_none.2 (fun q hq => by simp [hn q hq])]
 simp [hr]
theorem find_no {l : List R5} {n : Int} (hn : ∀ q ∈ l, ¬ q.alg = n) : l.find? (fun r => decide (r.alg = n)) = none := List.find?_eq_none.2 (fun q hq => by simp [hn q hq])
theorem take_no {l : List R5} {n : Int} {i : Nat} {r : R5} (hi : l[i]? = some r) (hn : ∀ q ∈ l.take i, ¬ q.alg = n) (hr : ¬ r.alg = n) : ∀ q ∈ l.take (i + 1), ¬ q.alg = n := by
 intro q hq
 obtain ⟨hlt, he⟩ := List.getElem?_eq_some_iff.1 hi
 rw [List.take_succ_eq_append_getElem hlt, List.mem_append] at hq
 rcases hq with hq | hq
 ·exact hn q hq
 ·simp only [List.mem_cons, List.mem_nil_iff, or_false] at hq
  rw [hq, he]
  exact hr
theorem rtable_any (w : World) : Calls Tryz.prog 101 #[] w (fun e w' => e = .returned (.slice (some ⟨w.heap.size, 0, none⟩) 22 22) ∧ At w' w.heap.size 0 (r5cells T13) ∧ Below w.heap.size w w' ∧ w'.heap.size = w.heap.size + 1) := by
 go_enter Tryz.func101, Tryz.ntmps101
 go_wp2_with fail
 go_ret
 exact ⟨rfl, At.ofAlloc w #[.int .i64 1, .int .i64 16, .int .i64 12, .int .i64 16, .int .i64 9, .int .i64 2, .int .i64 24, .int .i64 12, .int .i64 16, .int .i64 9, .int .i64 3, .int .i64 32, .int .i64 12, .int .i64 16, .int .i64 9, .int .i64 4, .int .i64 32, .int .i64 16, .int .i64 16, .int .i64 11, .int .i64 5, .int .i64 48, .int .i64 16, .int .i64 24, .int .i64 11, .int .i64 6, .int .i64 64, .int .i64 16, .int .i64 32, .int .i64 11, .int .i64 10, .int .i64 16, .int .i64 13, .int .i64 8, .int .i64 10, .int .i64 11, .int .i64 32, .int .i64 13, .int .i64 8, .int .i64 10, .int .i64 12, .int .i64 16, .int .i64 7, .int .i64 8, .int .i64 10, .int .i64 13, .int .i64 32, .int .i64 7, .int .i64 8, .int .i64 10, .int .i64 30, .int .i64 16, .int .i64 13, .int .i64 16, .int .i64 10, .int .i64 31, .int .i64 32, .int .i64 13, .int .i64 16, .int .i64 10, .int .i64 32, .int .i64 16, .int .i64 7, .int .i64 16, .int .i64 10, .int .i64 33, .int .i64 32, .int .i64 7, .int .i64 16, .int .i64 10, .int .i64 104, .int .i64 32, .int .i64 0, .int .i64 8, .int .i64 4, .int .i64 105, .int .i64 32, .int .i64 0, .int .i64 32, .int .i64 4, .int .i64 106, .int .i64 48, .int .i64 0, .int .i64 48, .int .i64 4, .int .i64 107, .int .i64 64, .int .i64 0, .int .i64 64, .int .i64 4, .int .i64 114, .int .i64 16, .int .i64 0, .int .i64 8, .int .i64 6, .int .i64 115, .int .i64 32, .int .i64 0, .int .i64 8, .int .i64 6, .int .i64 125, .int .i64 16, .int .i64 0, .int .i64 16, .int .i64 6, .int .i64 126, .int .i64 32, .int .i64 0, .int .i64 16, .int .i64 6] 137, (Below.refl _ _).alloc (nle _) _, by simp⟩
theorem fillR5 {w : World} {T : Nat} {z0 z1 z2 z3 z4 : Value} (h : At w T 0 [z0, z1, z2, z3, z4]) (v0 v1 v2 v3 v4 : Value) : At (((((w.setCell ⟨T, 0, none⟩ v0).setCell ⟨T, 1, none⟩ v1).setCell ⟨T, 2, none⟩ v2).setCell ⟨T, 3, none⟩ v3).setCell ⟨T, 4, none⟩ v4) T 0 [v0, v1, v2, v3, v4] := ((((h.set 0 v0).set 1 v1).set 2 v2).set 3 v3).set 4 v4
theorem belowR5 {w0 w : World} {T B : Nat} (hb : Below B w0 w) (hT : B ≤ T) (v0 v1 v2 v3 v4 : Value) : Below B w0 (((((w.setCell ⟨T, 0, none⟩ v0).setCell ⟨T, 1, none⟩ v1).setCell ⟨T, 2, none⟩ v2).setCell ⟨T, 3, none⟩ v3).setCell ⟨T, 4, none⟩ v4) := ((((hb.setCell (p := ⟨T, 0, none⟩) hT v0).setCell (p := ⟨T, 1, none⟩) hT v1).setCell (p := ⟨T, 2, none⟩) hT v2).setCell (p := ⟨T, 3, none⟩) hT v3).setCell (p := ⟨T, 4, none⟩) hT v4
theorem rof_any (n : Int) (w : World) : Calls Tryz.prog 95 #[.int .i64 n] w (fun e w' => e = .returned (.agg (r5v (of13 n)).toArray) ∧ Below w.heap.size w w') := by
 have hb0 : Below w.heap.size w (w.alloc (Obj.cells #[.int .i64 0, .int .i64 0, .int .i64 0, .int .i64 0, .int .i64 0] 137)) := (Below.refl _ _).alloc (nle _) _
 have hA0 := At.ofAlloc w #[.int .i64 0, .int .i64 0, .int .i64 0, .int .i64 0, .int .i64 0] 137
 obtain ⟨B, hB⟩ : ∃ B, w.heap.size = B := ⟨_, rfl⟩
 have HBB := hid hB
 go_enter Tryz.func95, Tryz.ntmps95
 go_upto_region 1 with fail
 obtain ⟨w0, hw0⟩ : ∃ q, w.alloc (Obj.cells #[.int .i64 0, .int .i64 0, .int .i64 0, .int .i64 0, .int .i64 0] 137) = q := ⟨_, rfl⟩
 have hs0 : w0.heap.size = B + 1 := by rw [← hw0, ← hB]; simp
 rw [hw0] at hA0 hb0
 try rw [hw0]
 rw [hB] at hA0 hb0
 try rw [hB]
 have HA0 := hid hA0
 have HB0 := hid hb0
 have HS0 := hid hs0
 clear hw0 hA0 hb0 hs0 hB
 go_wp2_with fail
 refine (rtable_any w0).mono ?_
 rintro e w1 ⟨rfl, hT, hb1, hs1⟩
 rw [HS0.out] at hT hs1 ⊢
 have HT := hid hT
 have HB1 : Hid (Below B w w1) := HB0.out.trans (hb1.mono (by rw [HS0.out]; omega))
 have HA1 := hid (HA0.out.below hb1 (by rw [HS0.out]; omega))
 have HS1 := hid hs1
 clear hT hb1 hs1
 go_wp2_with fail
 go_loopw [4] (fun vi wr => ∃ i : Nat, vi = .int .i64 (i : Int) ∧ i ≤ 22 ∧ Hid (∀ q ∈ T13.take i, ¬ q.alg = n) ∧ Hid (Below w1.heap.size w1 wr)) (fun vi _ => 22 - (intOf vi).toNat)
 case atStart => exact ⟨0, rfl, Nat.zero_le _, fun q hq => by simp at hq, Below.refl _ _⟩
 case round =>
  obtain ⟨i, rfl, hi, HN, HB⟩ := hrel
  have hBw : Hid (Below B w wr) := HB1.out.trans (HB.out.mono (by rw [HS1.out]; omega))
  have HAr := hid (HA1.out.below HB.out (by rw [HS1.out]; omega))
  by_cases hin : i < 22
  case pos =>
   obtain ⟨r, hr⟩ : ∃ r, T13[i]? = some r := ⟨_, List.getElem?_eq_getElem (show i < 22 from hin)⟩
   have hAt := (r5_at HT.out i r hr).below HB.out (by rw [HS1.out]; omega)
   have e1 : (i : Int) < 22 := by omega
   have e2 : IntKind.i64.wrap ((i : Int) + 1) = (i : Int) + 1 := by have := Co.wrap_fit (i + 1) (by unfold maxLen; omega); push_cast at this; exact this
   have HII : Hid (i + 1 ≤ 22) := by show i + 1 ≤ 22; omega
   have HR := hid hr
   rw [r5v] at hAt
   have c0 := hAt.cell 0 _ rfl
   have c1 := hAt.cell 1 _ rfl
   have c2 := hAt.cell 2 _ rfl
   have c3 := hAt.cell 3 _ rfl
   have c4 := hAt.cell 4 _ rfl
   simp only [Nat.add_zero] at c0
   by_cases hrn : r.alg = n
   ·have hf : (r.alg == n) = true := by simpa using hrn
    have HF : Hid (of13 n = r) := by show _ = _; rw [of13, find_at hr HN.out hrn]; rfl
    have z0 := HAr.out.z 0 _ rfl
    have z1 := HAr.out.z 1 _ rfl
    have z2 := HAr.out.z 2 _ rfl
    have z3 := HAr.out.z 3 _ rfl
    have z4 := HAr.out.z 4 _ rfl
    have y0 := HAr.out.zy 0 _ rfl
    have y1 := HAr.out.zy 1 _ rfl
    have y2 := HAr.out.zy 2 _ rfl
    have y3 := HAr.out.zy 3 _ rfl
    have y4 := HAr.out.zy 4 _ rfl
    clear hr hAt hrn hin hi
    go_wp2_with fail
    refine bodyPost_ret (results_at rfl _ B (r5v r) _ rfl (fillR5 HAr.out _ _ _ _ _) Tryz.underlying137 rfl (by kernel_rfl)) rfl ?_
    exact ⟨by rw [HF.out], by rw [HBB.out]; exact belowR5 hBw.out (nle _) _ _ _ _ _⟩
   ·have hf : (r.alg == n) = false := by simpa using hrn
    have HNN := hid (take_no hr HN.out hrn)
    clear hr hAt hin hi hrn
    go_wp2_with fail
    go_roundw
    case rel => exact ⟨i + 1, by go_num, HII.out, HNN, HB⟩
    case measure => have := HII.out; simp [intOf]; omega
  case neg =>
   obtain rfl : i = 22 := by omega
   have hN := HN.out
   rw [List.take_of_length_le (by decide)] at hN
   have HF : Hid (of13 n = R50) := by show _ = _; rw [of13, find_no hN]; rfl
   clear hN
   have z0 := HAr.out.z 0 _ rfl
   have z1 := HAr.out.z 1 _ rfl
   have z2 := HAr.out.z 2 _ rfl
   have z3 := HAr.out.z 3 _ rfl
   have z4 := HAr.out.z 4 _ rfl
   have y0 := HAr.out.zy 0 _ rfl
   have y1 := HAr.out.zy 1 _ rfl
   have y2 := HAr.out.zy 2 _ rfl
   have y3 := HAr.out.zy 3 _ rfl
   have y4 := HAr.out.zy 4 _ rfl
   clear hin hi
   go_wp2_with fail
   refine bodyPost_ret (results_at rfl _ B (r5v R50) _ rfl (fillR5 HAr.out _ _ _ _ _) Tryz.underlying137 rfl (by kernel_rfl)) rfl ?_
   exact ⟨by rw [HF.out], by rw [HBB.out]; exact belowR5 hBw.out (nle _) _ _ _ _ _⟩
end Ce
end Go.Proofs.YtikgonlhdkknkaaGreatDoor
