/- Joined by merge.py: CeS5 CeS6 CeS7. -/
import Derived.Test.YtikgonlhdkknkaaDoorCeS3
import Derived.Test.YtikgonlhdkknkaaDoorCuF
import Derived.Test.YtikgonlhdkknkaaDoorCuE
namespace Go.Proofs.YtikgonlhdkknkaaDoor
open Go.RowKit
set_option linter.unusedVariables false
set_option linter.unusedSimpArgs false
namespace Ce
open Co (Am Ra up rcells rv UT DecR enc Its holds tell okA)
def Rp1 : Rp := ⟨1, 0, 0, [], [], [], 0, [], []⟩
def someE : Ev := ⟨5, 1, [Rp1], [161, 1, 1], [161, 5, 76, 49, 50, 51, 52, 53, 54, 55, 56, 57, 48, 49, 50], [], [49, 50, 51, 52, 53, 54, 55, 56, 57, 48, 49, 50], [97, 98, 99], [49, 50, 51, 52, 53, 54, 55, 56, 57, 48, 49, 50, 51, 52, 53, 54]⟩
def RetE (x : Ev) (w : World) (e : Ending) (w' : World) : Prop := ∃ v, e = .returned (evv x v) ∧ Ty w' v x.rcs ∧ Below w.heap.size w w'
set_option maxRecDepth 100000 in
set_option maxHeartbeats 1600000 in
theorem some_any (w : World) : Calls Tryd.prog 17 #[] w (RetE someE w) := by
  go_enter Tryd.func17, Tryd.ntmps17
  go_wp2_with fail
  refine bodyPost_ret (results_at rfl _ w.heap.size (evcells someE (.slice (some ⟨w.heap.size + 1, 0, none⟩) 1 1)) _ rfl ((At.ofAlloc w (evcells someE (.slice (some ⟨w.heap.size + 1, 0, none⟩) 1 1)).toArray 24).alloc _) Tryd.underlying24 rfl (by kernel_rfl)) rfl ?_
  refine ⟨.slice (some ⟨w.heap.size + 1, 0, none⟩) 1 1, rfl, ?_, ((Below.refl _ _).alloc (Nat.le_refl _) _).alloc (by simp) _⟩
  refine ⟨some ⟨w.heap.size + 1, 0, none⟩, 1, rfl, fun _ => ⟨w.heap.size + 1, 0, rfl, ?_, by simp⟩⟩
  have h := At.ofAlloc (w.alloc (Obj.cells (evcells someE (.slice (some ⟨w.heap.size + 1, 0, none⟩) 1 1)).toArray 24)) (rpcells someE.rcs).toArray 63
  rw [World.size_alloc] at h
  exact h
theorem other9 {w : World} {T g o : Nat} {cs : List Value} (h : At w g o cs) (hT : T ≠ g) (v0 v1 v2 v3 v4 v5 v6 v7 v8 : Value) : At (((((((((w.setCell ⟨T, 0, none⟩ v0).setCell ⟨T, 1, none⟩ v1).setCell ⟨T, 2, none⟩ v2).setCell ⟨T, 3, none⟩ v3).setCell ⟨T, 4, none⟩ v4).setCell ⟨T, 5, none⟩ v5).setCell ⟨T, 6, none⟩ v6).setCell ⟨T, 7, none⟩ v7).setCell ⟨T, 8, none⟩ v8) g o cs := (((((((((h.other T 0 v0 (.inl hT)).other T 1 v1 (.inl hT)).other T 2 v2 (.inl hT)).other T 3 v3 (.inl hT)).other T 4 v4 (.inl hT)).other T 5 v5 (.inl hT)).other T 6 v6 (.inl hT)).other T 7 v7 (.inl hT)).other T 8 v8 (.inl hT))
set_option maxRecDepth 100000 in
set_option maxHeartbeats 1600000 in
theorem copied25_any (x : Ev) (vx : Value) (w : World) (hx : Ty w vx x.rcs) (hl : x.rcs.length * 112 ≤ 140737488351232) : Calls Tryd.prog 9 #[evv x vx] w (RetE x w) := by
  obtain ⟨i0, hi, hq⟩ := Option.map_eq_some_iff.1 infoRp
  simp only [Prod.mk.injEq] at hq
  obtain ⟨hz0, hz1, hz2⟩ := hq
  obtain ⟨a, c, rfl, hal⟩ := hx
  obtain ⟨n, hn⟩ : ∃ n, x.rcs.length = n := ⟨_, rfl⟩
  have HN := Lib.hid (And.intro hn hl)
  have HA := Lib.hid hal
  have hlen : (rpcells x.rcs).length = n * 9 := by rw [rpcells_length, hn]
  have HLN := Lib.hid hlen
  have hb0 : Below w.heap.size w ((w.alloc (Obj.cells #[.int .i64 x.format, .int .i64 x.alg, .slice a n c, .string (bs x.header), .string (bs x.loose), .string (bs x.aad), .string (bs x.iv), .string (bs x.cipher), .string (bs x.tag)] 24)).alloc (Obj.cells #[.int .i64 0, .int .i64 0, .slice none 0 0, .string ⟨#[]⟩, .string ⟨#[]⟩, .string ⟨#[]⟩, .string ⟨#[]⟩, .string ⟨#[]⟩, .string ⟨#[]⟩] 24)) := ((Below.refl _ _).alloc (Nat.le_refl _) _).alloc (by simp) _
  have hs0 : ((w.alloc (Obj.cells #[.int .i64 x.format, .int .i64 x.alg, .slice a n c, .string (bs x.header), .string (bs x.loose), .string (bs x.aad), .string (bs x.iv), .string (bs x.cipher), .string (bs x.tag)] 24)).alloc (Obj.cells #[.int .i64 0, .int .i64 0, .slice none 0 0, .string ⟨#[]⟩, .string ⟨#[]⟩, .string ⟨#[]⟩, .string ⟨#[]⟩, .string ⟨#[]⟩, .string ⟨#[]⟩] 24)).heap.size = w.heap.size + 2 := by simp
  have hX0 := (At.ofAlloc w #[.int .i64 x.format, .int .i64 x.alg, .slice a n c, .string (bs x.header), .string (bs x.loose), .string (bs x.aad), .string (bs x.iv), .string (bs x.cipher), .string (bs x.tag)] 24).alloc (Obj.cells #[.int .i64 0, .int .i64 0, .slice none 0 0, .string ⟨#[]⟩, .string ⟨#[]⟩, .string ⟨#[]⟩, .string ⟨#[]⟩, .string ⟨#[]⟩, .string ⟨#[]⟩] 24)
  have hZ0 := At.ofAlloc (w.alloc (Obj.cells #[.int .i64 x.format, .int .i64 x.alg, .slice a n c, .string (bs x.header), .string (bs x.loose), .string (bs x.aad), .string (bs x.iv), .string (bs x.cipher), .string (bs x.tag)] 24)) #[.int .i64 0, .int .i64 0, .slice none 0 0, .string ⟨#[]⟩, .string ⟨#[]⟩, .string ⟨#[]⟩, .string ⟨#[]⟩, .string ⟨#[]⟩, .string ⟨#[]⟩] 24
  rw [World.size_alloc] at hZ0
  rw [hn]
  unfold evv
  obtain ⟨B, hB⟩ : ∃ B, w.heap.size = B := ⟨_, rfl⟩
  have HBB := Lib.hid hB
  clear hlen hal hl hn
  go_enter Tryd.func9, Tryd.ntmps9
  go_upto_region 1 with fail
  obtain ⟨w2, hw2⟩ : ∃ q, (w.alloc (Obj.cells #[.int .i64 x.format, .int .i64 x.alg, .slice a n c, .string (bs x.header), .string (bs x.loose), .string (bs x.aad), .string (bs x.iv), .string (bs x.cipher), .string (bs x.tag)] 24)).alloc (Obj.cells #[.int .i64 0, .int .i64 0, .slice none 0 0, .string ⟨#[]⟩, .string ⟨#[]⟩, .string ⟨#[]⟩, .string ⟨#[]⟩, .string ⟨#[]⟩, .string ⟨#[]⟩] 24) = q := ⟨_, rfl⟩
  rw [hw2] at hb0 hs0 hX0 hZ0
  try rw [hw2]
  rw [hB] at hb0 hs0 hX0 hZ0
  try rw [hB]
  have HO := Lib.hid (World.ownsRow_lit (base := w2.heap.size) (e := 63) (size := 9) w2 #[] 0 (Nat.le_refl _) (by decide) rfl)
  have HX0 := Lib.hid (hX0.alloc (Obj.cells #[] 63))
  have HZ0 := Lib.hid (hZ0.alloc (Obj.cells #[] 63))
  have HS0 := Lib.hid hs0
  have HB0 : Hid (Below B w (w2.alloc (Obj.cells #[] 63))) := hb0.alloc (by omega) _
  have HTY : Hid (x.rcs ≠ [] → ∃ g o, a = some ⟨g, o, none⟩ ∧ At (w2.alloc (Obj.cells #[] 63)) g o (rpcells x.rcs) ∧ g < B) := fun h => by
    obtain ⟨g, o, h1, h2, h3⟩ := HA.out h
    exact ⟨g, o, h1, (h2.below (by rw [HBB.out]; exact hb0) h3).alloc _, by rw [← HBB.out]; exact h3⟩
  clear hw2 hb0 hs0 hX0 hZ0 hB
  by_cases h0 : x.rcs = []
  case neg =>
    obtain ⟨g, o, rfl, hAt, hg⟩ := HTY.out h0
    have HAT := Lib.hid (And.intro hAt hg)
    clear h0 hAt hg
    have a2 := HX0.out.cell 2 _ rfl
    rw [Nat.zero_add] at a2
    go_wp2_with (at_builtin; refine wpList_append_own _ rfl (.tmp 3) (.tmp 5) 22 rfl w2.heap.size 63 i0 _ 9 112 Tryd.underlying22 hi hz0 hz1 hz2 rfl (by decide) _ 0 [] rfl HO.out ⟨g, o, none⟩ n c (rpcells x.rcs) rfl HLN.out (Co.at_cellsO HAT.out.1) (rpcells_one _) (by have := HN.out; unfold maxLen; omega) (by have := HN.out; omega) (by simp) ?_; intro v' w3 hown3 hgrow3 _; rw [Nat.zero_add, List.nil_append] at hown3; obtain ⟨av, cv, rfl, hav⟩ := own_form hown3; have HO3 := Lib.hid hown3; have HAV := Lib.hid hav; clear hav; have HX3 := Lib.hid (HX0.out.grown hgrow3 (by rw [World.size_alloc, HS0.out]; omega) (fun e => by have := (HO.out.lt B e).1; rw [HS0.out] at this; omega)); have HZ3 := Lib.hid (HZ0.out.grown hgrow3 (by rw [World.size_alloc, HS0.out]; omega) (fun e => by have := (HO.out.lt (B + 1) e).1; rw [HS0.out] at this; omega)); have HB3 : Hid (Below B w w3) := HB0.out.grown hgrow3 (by rw [World.size_alloc, HS0.out]; omega) (fun k hk => by have := (HO.out.lt k hk).1; rw [HS0.out] at this; omega); have b0 := HX3.out.cell 0 _ rfl; have b1 := HX3.out.cell 1 _ rfl; have b2 := HX3.out.cell 2 _ rfl; have b3 := HX3.out.cell 3 _ rfl; have b4 := HX3.out.cell 4 _ rfl; have b5 := HX3.out.cell 5 _ rfl; have b6 := HX3.out.cell 6 _ rfl; have b7 := HX3.out.cell 7 _ rfl; have b8 := HX3.out.cell 8 _ rfl; rw [Nat.zero_add] at b0 b1 b2 b3 b4 b5 b6 b7 b8; have f2 := (HX3.out 2 _ rfl).2; rw [Nat.zero_add] at f2; have z0 := HZ3.out.cell 0 _ rfl; have y0 := (HZ3.out 0 _ rfl).2; have z1 := HZ3.out.cell 1 _ rfl; have y1 := (HZ3.out 1 _ rfl).2; have z2 := HZ3.out.cell 2 _ rfl; have y2 := (HZ3.out 2 _ rfl).2; have z3 := HZ3.out.cell 3 _ rfl; have y3 := (HZ3.out 3 _ rfl).2; have z4 := HZ3.out.cell 4 _ rfl; have y4 := (HZ3.out 4 _ rfl).2; have z5 := HZ3.out.cell 5 _ rfl; have y5 := (HZ3.out 5 _ rfl).2; have z6 := HZ3.out.cell 6 _ rfl; have y6 := (HZ3.out 6 _ rfl).2; have z7 := HZ3.out.cell 7 _ rfl; have y7 := (HZ3.out 7 _ rfl).2; have z8 := HZ3.out.cell 8 _ rfl; have y8 := (HZ3.out 8 _ rfl).2; rw [Nat.zero_add] at z0 y0 z1 y1 z2 y2 z3 y3 z4 y4 z5 y5 z6 y6 z7 y7 z8 y8; clear hown3 hgrow3 a2)
    refine bodyPost_ret (results_at rfl _ (B + 1) [.int .i64 x.format, .int .i64 x.alg, .slice av n cv, .string (bs x.header), .string (bs x.loose), .string (bs x.aad), .string (bs x.iv), .string (bs x.cipher), .string (bs x.tag)] _ rfl (fill9 (HZ3.out.other B 2 _ (.inl (by omega))) _ _ _ _ _ _ _ _ _) Tryd.underlying24 rfl (by kernel_rfl)) rfl ?_
    refine ⟨.slice av n cv, rfl, ?_, by rw [HBB.out]; exact below9 (HB3.out.setCell (p := ⟨B, 2, none⟩) (Nat.le_refl _) _) (Nat.le_succ B) _ _ _ _ _ _ _ _ _⟩
    refine ⟨av, cv, by rw [HN.out.1], fun h => ?_⟩
    obtain ⟨gv, rfl⟩ := HAV.out (by rw [← HN.out.1]; exact List.length_pos_iff.2 h)
    have hlt := HO3.out.lt gv rfl
    rw [HS0.out] at hlt
    exact ⟨gv, 0, rfl, other9 ((At.ofOwnN HO3.out).other B 2 _ (.inl (by omega))) (by omega) _ _ _ _ _ _ _ _ _, by simp [World.setCell]; exact hlt.2⟩
  case pos =>
    have hn0 : n = 0 := by rw [← HN.out.1, h0]; rfl
    subst hn0
    have H0 := Lib.hid h0
    clear h0
    have z0 := HZ0.out.cell 0 _ rfl
    have y0 := (HZ0.out 0 _ rfl).2
    have b0 := HX0.out.cell 0 _ rfl
    have z1 := HZ0.out.cell 1 _ rfl
    have y1 := (HZ0.out 1 _ rfl).2
    have b1 := HX0.out.cell 1 _ rfl
    have z2 := HZ0.out.cell 2 _ rfl
    have y2 := (HZ0.out 2 _ rfl).2
    have b2 := HX0.out.cell 2 _ rfl
    have z3 := HZ0.out.cell 3 _ rfl
    have y3 := (HZ0.out 3 _ rfl).2
    have b3 := HX0.out.cell 3 _ rfl
    have z4 := HZ0.out.cell 4 _ rfl
    have y4 := (HZ0.out 4 _ rfl).2
    have b4 := HX0.out.cell 4 _ rfl
    have z5 := HZ0.out.cell 5 _ rfl
    have y5 := (HZ0.out 5 _ rfl).2
    have b5 := HX0.out.cell 5 _ rfl
    have z6 := HZ0.out.cell 6 _ rfl
    have y6 := (HZ0.out 6 _ rfl).2
    have b6 := HX0.out.cell 6 _ rfl
    have z7 := HZ0.out.cell 7 _ rfl
    have y7 := (HZ0.out 7 _ rfl).2
    have b7 := HX0.out.cell 7 _ rfl
    have z8 := HZ0.out.cell 8 _ rfl
    have y8 := (HZ0.out 8 _ rfl).2
    have b8 := HX0.out.cell 8 _ rfl
    have f2 := (HX0.out 2 _ rfl).2
    rw [Nat.zero_add] at f2 z0 y0 b0 z1 y1 b1 z2 y2 b2 z3 y3 b3 z4 y4 b4 z5 y5 b5 z6 y6 b6 z7 y7 b7 z8 y8 b8
    cases a with
    | none =>
      go_wp2_with fail
      refine bodyPost_ret (results_at rfl _ (B + 1) [.int .i64 x.format, .int .i64 x.alg, .slice (some ⟨w2.heap.size, 0, none⟩) 0 0, .string (bs x.header), .string (bs x.loose), .string (bs x.aad), .string (bs x.iv), .string (bs x.cipher), .string (bs x.tag)] _ rfl (fill9 (HZ0.out.other B 2 _ (.inl (by omega))) _ _ _ _ _ _ _ _ _) Tryd.underlying24 rfl (by kernel_rfl)) rfl ?_
      exact ⟨.slice (some ⟨w2.heap.size, 0, none⟩) 0 0, rfl, ⟨_, _, by rw [H0.out]; rfl, fun h => absurd H0.out h⟩, by rw [HBB.out]; exact below9 (HB0.out.setCell (p := ⟨B, 2, none⟩) (Nat.le_refl _) _) (Nat.le_succ B) _ _ _ _ _ _ _ _ _⟩
    | some A =>
      go_wp2_with fail
      refine bodyPost_ret (results_at rfl _ (B + 1) [.int .i64 x.format, .int .i64 x.alg, .slice (some ⟨w2.heap.size, 0, none⟩) 0 0, .string (bs x.header), .string (bs x.loose), .string (bs x.aad), .string (bs x.iv), .string (bs x.cipher), .string (bs x.tag)] _ rfl (fill9 (HZ0.out.other B 2 _ (.inl (by omega))) _ _ _ _ _ _ _ _ _) Tryd.underlying24 rfl (by kernel_rfl)) rfl ?_
      exact ⟨.slice (some ⟨w2.heap.size, 0, none⟩) 0 0, rfl, ⟨_, _, by rw [H0.out]; rfl, fun h => absurd H0.out h⟩, by rw [HBB.out]; exact below9 (HB0.out.setCell (p := ⟨B, 2, none⟩) (Nat.le_refl _) _) (Nat.le_succ B) _ _ _ _ _ _ _ _ _⟩
end Ce
end Go.Proofs.YtikgonlhdkknkaaDoor
namespace Go.Proofs.YtikgonlhdkknkaaDoor
set_option linter.unusedVariables false
set_option linter.unusedSimpArgs false
namespace Ce
open Co (Am Ra Its need holds tell hdN okA DecR decL decE up enc mayOk mayOk_yes)
open Dr (Rs)
def hdS : List Am := [⟨5, 1, []⟩, ⟨0, 1, []⟩, ⟨0, 1, []⟩]
def liS : List Am := [⟨6, 16, []⟩, ⟨4, 3, []⟩, ⟨2, 0, [161, 1, 1]⟩, ⟨5, 1, []⟩, ⟨0, 5, []⟩, ⟨2, 0, [49, 50, 51, 52, 53, 54, 55, 56, 57, 48, 49, 50]⟩, ⟨2, 0, [97, 98, 99, 49, 50, 51, 52, 53, 54, 55, 56, 57, 48, 49, 50, 51, 52, 53, 54]⟩]
theorem its_hd : Its 1 hdS [[161, 1, 1]] true := by
  have h := Its.node (a := ⟨5, 1, []⟩) rfl (by rfl) (Its.leaf (a := ⟨0, 1, []⟩) rfl (Its.leaf (a := ⟨0, 1, []⟩) rfl .nil)) .nil
  exact h
theorem okA0 (k n : Nat) (hk : k = 0 ∨ k = 1 ∨ k = 4 ∨ k = 5 ∨ k = 6) (hn : n < 18446744073709551616) : okA Lib.validD ⟨k, n, []⟩ := ⟨hn, (by decide : (0 : Nat) < 18446744073709551616), .inl ⟨hk, rfl⟩⟩
theorem okA2 (s : List UInt8) (hs : s.length < 18446744073709551616) : okA Lib.validD ⟨2, 0, s⟩   := ⟨(by decide : (0 : Nat) < 18446744073709551616), hs, .inr (.inl ⟨rfl, rfl⟩)⟩
theorem dec_hd : DecR [161, 1, 1] 32 4096 262144 4096 (.ok hdS) := by
  refine Apart.dec (d := 32) ⟨⟨1, its_hd, by decide⟩, ?_, by decide, by decide, by decide⟩
  intro a ha
  simp only [hdS, List.mem_cons, List.mem_nil_iff, or_false] at ha
  rcases ha with rfl | rfl | rfl <;> exact okA0 _ _ (by decide) (by decide)
theorem its_li : Its 3 liS [canon someE] true := by
  have h := Its.node (a := ⟨6, 16, []⟩) rfl (by rfl) (Its.node (a := ⟨4, 3, []⟩) rfl (by rfl) (Its.leaf (a := ⟨2, 0, [161, 1, 1]⟩) rfl (Its.node (a := ⟨5, 1, []⟩) rfl (by rfl) (Its.leaf (a := ⟨0, 5, []⟩) rfl (Its.leaf (a := ⟨2, 0, [49, 50, 51, 52, 53, 54, 55, 56, 57, 48, 49, 50]⟩) rfl .nil)) (Its.leaf (a := ⟨2, 0, [97, 98, 99, 49, 50, 51, 52, 53, 54, 55, 56, 57, 48, 49, 50, 51, 52, 53, 54]⟩) rfl .nil))) .nil) .nil
  exact h
theorem dec_li : DecR (canon someE) 32 4096 262144 4096 (.ok liS) := by
  refine Apart.dec (d := 32) ⟨⟨3, its_li, by decide⟩, ?_, by decide, by decide, by decide +kernel⟩
  intro a ha
  simp only [liS, List.mem_cons, List.mem_nil_iff, or_false] at ha
  rcases ha with rfl | rfl | rfl | rfl | rfl | rfl | rfl
  · exact okA0 _ _ (by decide) (by decide)
  · exact okA0 _ _ (by decide) (by decide)
  · exact okA2 _ (by decide)
  · exact okA0 _ _ (by decide) (by decide)
  · exact okA0 _ _ (by decide) (by decide)
  · exact okA2 _ (by decide)
  · exact okA2 _ (by decide)
theorem rd_some : Rd (canon someE) 32 4096 262144 4096 (0, someE) := by
  have h := Rd.all (H := .ok hdS) dec_li (by decide +kernel) (fun _ => dec_hd)
  have h1 : rdE liS (.ok hdS) = 0 := by decide +kernel
  have h2 : rdV liS (.ok hdS) = someE := by decide +kernel
  rw [h1, h2] at h
  exact h
theorem its_no : Its 1 [⟨6, 1, []⟩, ⟨7, 22, []⟩] [[0xc1, 0xf6]] true := by
  have h := Its.node (a := ⟨6, 1, []⟩) rfl (by rfl) (Its.leaf (a := ⟨7, 22, []⟩) rfl .nil) .nil
  exact h
theorem rd_no : Rd [0xc1, 0xf6] 32 4096 262144 4096 (11, Ev0) := by
  have h : DecR [0xc1, 0xf6] 32 4096 262144 4096 (.ok [⟨6, 1, []⟩, ⟨7, 22, []⟩]) := by
    refine Apart.dec (d := 32) ⟨⟨1, its_no, by decide⟩, ?_, by decide, by decide, by decide⟩
    intro a ha
    simp only [List.mem_cons, List.mem_nil_iff, or_false] at ha
    rcases ha with rfl | rfl
    · exact okA0 _ _ (by decide) (by decide)
    · exact ⟨by decide, by decide, .inr (.inr (.inr ⟨rfl, rfl, by decide, by decide⟩))⟩
  exact Rd.pre h (by decide +kernel)
end Ce
end Go.Proofs.YtikgonlhdkknkaaDoor
namespace Go.Proofs.YtikgonlhdkknkaaDoor
open Go.RowKit
set_option linter.unusedVariables false
set_option linter.unusedSimpArgs false
namespace Ce
open Co (Am Ra up rcells rv UT DecR enc Its holds tell okA)
theorem ctell_is {x : Ev} (hr : Rd (canon x) 32 4096 262144 4096 (0, x)) (vx : Value) (w : World) (hx : Ty w vx x.rcs) (hl : x.rcs.length ≤ 140737488351232) (hlo : x.loose.length ≤ 100000000000) (hhe : x.header.length ≤ 100000000000) (hci : x.cipher.length ≤ 100000000000) (hta : x.tag.length ≤ 100000000000) (hU : UT w.heap.size w) :
    Calls Tryd.prog 8 #[evv x vx] w (fun e w' => e = .returned (.tuple #[.string (bs (canon x)), .int .i64 0]) ∧ Below w.heap.size w w') := by
  refine (ctell_any x vx w hx hl hlo hhe hci hta hU).mono ?_
  rintro e w' ⟨R, hR, he, hb⟩
  have h := tell_gives hR hr
  subst h
  exact ⟨he, hb⟩
theorem cread_is {S : List UInt8} {d i b ro : Int} {y : Int × Ev} (hr : Rd S d i b ro y) (w : World) (hz : S.length ≤ 140737488351232) (hU : UT w.heap.size w) :
    Calls Tryd.prog 10 #[.string (bs S), .agg #[.int .i64 d, .int .i64 i, .int .i64 b, .int .i64 ro]] w (RetEv y.2 y.1 w) := by
  refine (cread_any (bs S) d i b ro w hz hU).mono ?_
  rintro e w' ⟨z, hz, he⟩
  rw [bs_list] at hz
  cases hr.same hz
  exact he
theorem esame_yes (x : Ev) (vx vy : Value) (w : World) (hx : Ty w vx x.rcs) (hy : Ty w vy x.rcs) (hl : x.rcs.length ≤ 140737488351232) :
    Calls Tryd.prog 12 #[evv x vx, evv x vy] w (fun e w' => e = .returned (.bool true) ∧ Below w.heap.size w w') := by
  refine (esame_any x x vx vy w hx hy hl hl).mono ?_
  rintro e w' ⟨he, hb⟩
  rw [show decide (x = x) = true from decide_eq_true rfl] at he
  exact ⟨he, hb⟩
set_option maxRecDepth 100000 in
set_option maxHeartbeats 3200000 in
theorem wakes25_any (w : World) (hU : UT w.heap.size w) : Calls Tryd.prog 7 #[] w (fun e w' => e = .returned (.bool true) ∧ Below w.heap.size w w') := by
  have HU := Lib.hid hU
  have SO := Lib.hid (fun w' => some_any w')
  have MO := Lib.hid (fun w' => Co.most_any w')
  have TE := Lib.hid (fun w' v (hv : Ty w' v someE.rcs) hU => ctell_is rd_some v w' hv (by decide) (by decide) (by decide) (by decide) (by decide) hU)
  have RD := Lib.hid (fun w' hU => cread_is rd_some w' (by decide +kernel) hU)
  have RN := Lib.hid (fun w' hU => cread_is rd_no w' (by decide) hU)
  have RS := Lib.hid (fun w' v u (hv : Ty w' v someE.rcs) hu => esame_yes someE v u w' hv hu (by decide))
  clear hU
  go_enter Tryd.func7, Tryd.ntmps7
  go_wp2_with fail
  refine (SO.out w).mono ?_
  rintro e w1 ⟨v1, rfl, hT1, hb1⟩
  have HB1 : Hid (Below w.heap.size w w1) := hb1
  have HT1 := Lib.hid hT1
  clear hb1 hT1
  go_wp2_with fail
  refine (TE.out w1 v1 HT1.out (HU.out.at HB1.out)).mono ?_
  rintro e w2 ⟨rfl, hb2⟩
  have HB2 : Hid (Below w.heap.size w w2) := HB1.out.trans (hb2.mono HB1.out.size)
  clear hb2
  go_wp2_with fail
  refine (MO.out w2).mono ?_
  rintro e w3 ⟨rfl, hb3⟩
  have HB3 : Hid (Below w.heap.size w w3) := HB2.out.trans (hb3.mono HB2.out.size)
  clear hb3
  go_wp2_with fail
  refine (RD.out w3 (HU.out.at HB3.out)).mono ?_
  rintro e w4 ⟨v4, rfl, hT4, hb4⟩
  have HB4 : Hid (Below w.heap.size w w4) := HB3.out.trans (hb4.mono HB3.out.size)
  have HT4 := Lib.hid hT4
  obtain ⟨a4, c4, rfl, -⟩ := hT4
  have HEV : Hid (evv someE (.slice a4 someE.rcs.length c4) = .agg #[.int .i64 someE.format, .int .i64 someE.alg, .slice a4 someE.rcs.length c4, .string (bs someE.header), .string (bs someE.loose), .string (bs someE.aad), .string (bs someE.iv), .string (bs someE.cipher), .string (bs someE.tag)]) := rfl
  dsimp only
  rw [HEV.out]
  clear hb4
  go_upto_region 3 with fail
  obtain ⟨G, hG⟩ : ∃ G, w4.heap.size = G := ⟨_, rfl⟩
  obtain ⟨w5, hw5⟩ : ∃ q, w4.alloc (Obj.cells #[.int .i64 someE.format, .int .i64 someE.alg, .slice a4 someE.rcs.length c4, .string (bs someE.header), .string (bs someE.loose), .string (bs someE.aad), .string (bs someE.iv), .string (bs someE.cipher), .string (bs someE.tag)] 24) = q := ⟨_, rfl⟩
  have hb5 : Below w4.heap.size w4 w5 := by rw [← hw5]; exact (Below.refl _ _).alloc (Nat.le_refl _) _
  have HA5 : Hid (At w5 G 0 #[.int .i64 someE.format, .int .i64 someE.alg, .slice a4 someE.rcs.length c4, .string (bs someE.header), .string (bs someE.loose), .string (bs someE.aad), .string (bs someE.iv), .string (bs someE.cipher), .string (bs someE.tag)].toList) := by
    show At _ _ _ _
    rw [← hw5, ← hG]
    exact At.ofAlloc w4 _ 24
  have HS5 : Hid (w5.heap.size = G + 1) := by show _ = _; rw [← hw5, ← hG]; simp
  have HB5 : Hid (Below w.heap.size w w5) := HB4.out.trans (hb5.mono HB4.out.size)
  have HT5 := Lib.hid (HT4.out.below hb5)
  rw [hw5]
  try rw [hG]
  clear hw5 hG hb5
  go_wp2_with fail
  refine (MO.out w5).mono ?_
  rintro e w6 ⟨rfl, hb6⟩
  have HB6 : Hid (Below w.heap.size w w6) := HB5.out.trans (hb6.mono HB5.out.size)
  have HA6 := Lib.hid (HA5.out.below hb6 (by rw [HS5.out]; omega))
  have HT6 := Lib.hid (HT5.out.below hb6)
  have HS6 : Hid (G < w6.heap.size) := by have h1 := HS5.out; have h2 := hb6.size; show G < _; omega
  clear hb6
  go_wp2_with fail
  refine (RN.out w6 (HU.out.at HB6.out)).mono ?_
  rintro e w7 ⟨v7, rfl, hT7, hb7⟩
  have HB7 : Hid (Below w.heap.size w w7) := HB6.out.trans (hb7.mono HB6.out.size)
  have HA7 := Lib.hid (HA6.out.below hb7 HS6.out)
  have HT7 := Lib.hid (HT6.out.below hb7)
  have HS7 : Hid (G < w7.heap.size) := Nat.lt_of_lt_of_le HS6.out hb7.size
  obtain ⟨a6, c6, rfl, -⟩ := hT7
  have HE0 : Hid (evv Ev0 (.slice a6 Ev0.rcs.length c6) = .agg #[.int .i64 Ev0.format, .int .i64 Ev0.alg, .slice a6 Ev0.rcs.length c6, .string (bs Ev0.header), .string (bs Ev0.loose), .string (bs Ev0.aad), .string (bs Ev0.iv), .string (bs Ev0.cipher), .string (bs Ev0.tag)]) := rfl
  dsimp only
  rw [HE0.out]
  clear hb7
  go_upto_region 4 with fail
  obtain ⟨w8, hw8⟩ : ∃ q, w7.alloc (Obj.cells #[.int .i64 Ev0.format, .int .i64 Ev0.alg, .slice a6 Ev0.rcs.length c6, .string (bs Ev0.header), .string (bs Ev0.loose), .string (bs Ev0.aad), .string (bs Ev0.iv), .string (bs Ev0.cipher), .string (bs Ev0.tag)] 24) = q := ⟨_, rfl⟩
  have hb8 : Below w7.heap.size w7 w8 := by rw [← hw8]; exact (Below.refl _ _).alloc (Nat.le_refl _) _
  have HB8 : Hid (Below w.heap.size w w8) := HB7.out.trans (hb8.mono HB7.out.size)
  have HA8 := Lib.hid (HA7.out.below hb8 HS7.out)
  have HT8 := Lib.hid (HT7.out.below hb8)
  have HS8 : Hid (G < w8.heap.size) := Nat.lt_of_lt_of_le HS7.out hb8.size
  rw [hw8]
  clear hw8 hb8 HB1 HB2 HB3 HB4 HB5 HB6 HB7 HT1 HT4 HT5 HT6 HT7 HA5 HA6 HA7 HS5 HS6 HS7
  have HQ : Hid (∀ k w1, Below (w8.drewN k).heap.size (w8.drewN k) w1 → Below w.heap.size w w1 ∧ At w1 G 0 #[.int .i64 someE.format, .int .i64 someE.alg, .slice a4 someE.rcs.length c4, .string (bs someE.header), .string (bs someE.loose), .string (bs someE.aad), .string (bs someE.iv), .string (bs someE.cipher), .string (bs someE.tag)].toList ∧ Ty w1 (.slice a4 someE.rcs.length c4) someE.rcs) := by
    intro k w1 hb
    have h3 : Below w8.heap.size w8 w1 := (bdN (Below.refl w8.heap.size w8) k).trans hb
    exact ⟨HB8.out.trans (h3.mono HB8.out.size), HA8.out.below h3 HS8.out, HT8.out.below h3⟩
  have a0 := HA8.out.cell 0 _ rfl
  have a1 := HA8.out.cell 1 _ rfl
  have a2 := HA8.out.cell 2 _ rfl
  have a3 := HA8.out.cell 3 _ rfl
  have x4 := HA8.out.cell 4 _ rfl
  have a5 := HA8.out.cell 5 _ rfl
  have x6 := HA8.out.cell 6 _ rfl
  have a7 := HA8.out.cell 7 _ rfl
  have a8 := HA8.out.cell 8 _ rfl
  rw [Nat.zero_add] at a0 a1 a2 a3 x4 a5 x6 a7 a8
  go_region_with (first
    | (go_at_call 17; refine (SO.out _).mono ?_; rintro e wa ⟨va, rfl, hTa, hba⟩; have HWa := Lib.hid (HQ.out _ wa hba); have HTa := Lib.hid hTa; have b0 := HWa.out.2.1.cell 0 _ rfl; have b1 := HWa.out.2.1.cell 1 _ rfl; have b2 := HWa.out.2.1.cell 2 _ rfl; have b3 := HWa.out.2.1.cell 3 _ rfl; have b4 := HWa.out.2.1.cell 4 _ rfl; have b5 := HWa.out.2.1.cell 5 _ rfl; have b6 := HWa.out.2.1.cell 6 _ rfl; have b7 := HWa.out.2.1.cell 7 _ rfl; have b8 := HWa.out.2.1.cell 8 _ rfl; rw [Nat.zero_add] at b0 b1 b2 b3 b4 b5 b6 b7 b8; clear hba hTa)
    | (go_at_call 12; have sm := RS.out wa (.slice a4 someE.rcs.length c4) va HWa.out.2.2 HTa.out; rw [HEV.out] at sm; refine sm.mono ?_; clear sm; rintro e wb ⟨rfl, hbb⟩; have HBb : Hid (Below w.heap.size w wb) := HWa.out.1.trans (hbb.mono HWa.out.1.size); clear hbb))
  all_goals (go_wp2_with fail)
  all_goals go_ret
  all_goals exact ⟨rfl, HBb.out⟩
end Ce
end Go.Proofs.YtikgonlhdkknkaaDoor
