import Derived.Test.YtikgonlhdkknkaaGreatDoorCyA
import Derived.Test.YtikgonlhdkknkaaGreatDoorCeY
import Derived.Test.YtikgonlhdkknkaaGreatDoorCyB
import Derived.Test.YtikgonlhdkknkaaGreatDoorCuT
import Derived.Test.YtikgonlhdkknkaaGreatDoorCuN
set_option maxRecDepth 100000
set_option maxHeartbeats 6400000
set_option linter.unusedVariables false
set_option linter.unusedSimpArgs false
open Go.Lib (hid)
namespace Go.Proofs.YtikgonlhdkknkaaGreatDoor
open Go.RowKit
namespace Ce
open Co (Am Ra up rcells rv UT DecR enc Its holds tell okA SrO ra0 rcell_atO ra_ne)
def lastE (x : Ev) (ps : List (Am × Am)) : Int :=
 if (algP x.format ps).1 ≠ 0 then (algP x.format ps).1 else if (nameP ps).1 ≠ 0 then (nameP ps).1 else (lenP x.format (algP x.format ps).2 ps x.cipher x.tag).1
def lastV (x : Ev) (ps : List (Am × Am)) : Ev :=
 { x with alg := (algP x.format ps).2, rcs := [⟨1, 0, 0, (nameP ps).2, [], [], 0, [], []⟩], iv := (lenP x.format (algP x.format ps).2 ps x.cipher x.tag).2.1, cipher := (lenP x.format (algP x.format ps).2 ps x.cipher x.tag).2.2.1, tag := (lenP x.format (algP x.format ps).2 ps x.cipher x.tag).2.2.2 }
def RetLs (x : Ev) (ps : List (Am × Am)) (w : World) (e : Ending) (w' : World) : Prop := ∃ z v, e = .returned (.tuple #[evv z v, .int .i64 (lastE x ps)]) ∧ Ty w' v z.rcs ∧ Below w.heap.size w w' ∧ (lastE x ps = 0 → z = lastV x ps)
theorem algP_D {F : Int} (hF : F = 5 ∨ F = 6) {ps : List (Am × Am)} {v : Am} (h : find 1 ps = some v) :
  (v.kind ≠ 0 ∨ badD F v.num = true → algP F ps = (11, 0)) ∧ (v.kind = 0 → badD F v.num = false → algP F ps = (0, numF F v.num)) := by
 have hs := (same_D F hF v.num).1
 constructor
 ·intro h1
  rw [algP, h]
  dsimp only
  by_cases h2 : v.kind ≠ 0 ∨ 255 < v.num
  ·rw [if_pos h2]
  ·rw [if_neg h2]
   rw [if_pos]
   rcases h1 with h1 | h1
   ·exact absurd (.inl h1) h2
   ·exact hs.1 h1
 ·intro h1 h2
  have h3 : fmtOf (numF F v.num) = F := Decidable.byContradiction (fun h4 => by rw [hs.2 h4] at h2; cases h2)
  have h4 : v.num ≤ 255 := by
   by_cases h5 : 50 < v.num
   ·have h6 : badD F v.num = true := by rw [badD, rowD, if_pos h5]; rfl
    rw [h6] at h2; cases h2
   ·omega
  rw [algP, h]
  dsimp only
  rw [if_neg (by omega), if_neg (by intro h5; exact h5 h3)]
  rfl
structure Rb (w : World) (Z G3 : Nat) (t4 : List UInt8) : Prop where
 at0 : At w G3 0 (rpcells [⟨1, 0, 0, t4, [], [], 0, [], []⟩])
 lt : G3 < w.heap.size
 ne : Z ≠ G3
theorem ty9 {w : World} {Z G3 : Nat} {t4 : List UInt8} (h : Rb w Z G3 t4) (v0 v1 v2 v3 v4 v5 v6 v7 v8 : Value) : Ty (((((((((w.setCell ⟨Z, 0, none⟩ v0).setCell ⟨Z, 1, none⟩ v1).setCell ⟨Z, 2, none⟩ v2).setCell ⟨Z, 3, none⟩ v3).setCell ⟨Z, 4, none⟩ v4).setCell ⟨Z, 5, none⟩ v5).setCell ⟨Z, 6, none⟩ v6).setCell ⟨Z, 7, none⟩ v7).setCell ⟨Z, 8, none⟩ v8) (.slice (some ⟨G3, 0, none⟩) 1 1) [⟨1, 0, 0, t4, [], [], 0, [], []⟩] :=
 ⟨some ⟨G3, 0, none⟩, 1, rfl, fun _ => ⟨G3, 0, rfl, ((((((((h.at0.other Z 0 v0 (.inl h.ne)).other Z 1 v1 (.inl h.ne)).other Z 2 v2 (.inl h.ne)).other Z 3 v3 (.inl h.ne)).other Z 4 v4 (.inl h.ne)).other Z 5 v5 (.inl h.ne)).other Z 6 v6 (.inl h.ne)).other Z 7 v7 (.inl h.ne)).other Z 8 v8 (.inl h.ne), by simp only [Co.set_size]; exact h.lt⟩⟩
theorem Rb.below {w w' : World} {Z G3 : Nat} {t4 : List UInt8} (h : Rb w Z G3 t4) (hb : Below w.heap.size w w') : Rb w' Z G3 t4 := ⟨h.at0.below hb h.lt, nlt h.lt hb.size, h.ne⟩
theorem Rb.set {w : World} {Z G3 : Nat} {t4 : List UInt8} (h : Rb w Z G3 t4) (G j : Nat) (u : Value) (hG : G ≠ G3) : Rb (w.setCell ⟨G, j, none⟩ u) Z G3 t4 := ⟨h.at0.other G j u (.inl hG), by rw [Co.set_size]; exact h.lt, h.ne⟩
theorem findA_mem {lab : Am} {ps : List (Am × Am)} {v : Am} (h : findA lab ps = some v) : ∃ p ∈ ps, p.2 = v := by
 rw [findA, Option.map_eq_some_iff] at h
 obtain ⟨p, hp, hv⟩ := h
 exact ⟨p, List.mem_of_find?_eq_some hp, hv⟩
theorem beq_eq_decide (a b : Int) : (a == b) = decide (a = b) := by
 by_cases h : a = b
 ·rw [dtr h, h, beq_self_eq_true]
 ·rw [dfa h, beq_eq_false_iff_ne]; exact h
structure Lw (w0 w : World) (B : Nat) (cx : List Value) (la wa lb wb : Value) : Prop where
 x : At w B 0 cx
 a : At w (B + 1) 0 [la, wa]
 b : At w (B + 2) 0 [lb, wb]
 z : At w (B + 3) 0 [.int .i64 0, .int .i64 0, .slice none 0 0, .string ⟨#[]⟩, .string ⟨#[]⟩, .string ⟨#[]⟩, .string ⟨#[]⟩, .string ⟨#[]⟩, .string ⟨#[]⟩]
 be : Below B w0 w
 sz : B + 4 ≤ w.heap.size
theorem Lw.below {w0 w w' : World} {B : Nat} {cx : List Value} {la wa lb wb : Value} (h : Lw w0 w B cx la wa lb wb) (hb : Below w.heap.size w w') : Lw w0 w' B cx la wa lb wb := by
 have h1 := h.sz
 have hs := hb.size
 exact ⟨h.x.below hb (by omega), h.a.below hb (by omega), h.b.below hb (by omega), h.z.below hb (by omega), h.be.trans (hb.mono (by omega)), by omega⟩
theorem Lw.alloc {w0 w : World} {B : Nat} {cx : List Value} {la wa lb wb : Value} (h : Lw w0 w B cx la wa lb wb) (o : Obj) : Lw w0 (w.alloc o) B cx la wa lb wb := h.below ((Below.refl _ _).alloc (nle _) o)
theorem Lw.setX {w0 w : World} {B : Nat} {cx : List Value} {la wa lb wb : Value} (h : Lw w0 w B cx la wa lb wb) (j : Nat) (u : Value) : Lw w0 (w.setCell ⟨B, j, none⟩ u) B (cx.set j u) la wa lb wb := by
 have h1 := h.x.set j u
 rw [Nat.zero_add] at h1
 exact ⟨h1, h.a.other B j u (.inl (by omega)), h.b.other B j u (.inl (by omega)), h.z.other B j u (.inl (by omega)), h.be.setCell (p := ⟨B, j, none⟩) (nle _) u, by rw [Co.set_size]; exact h.sz⟩
theorem Lw.setG {w0 w : World} {B : Nat} {cx : List Value} {la wa lb wb : Value} (h : Lw w0 w B cx la wa lb wb) (G j : Nat) (u : Value) (hG : B + 4 ≤ G) : Lw w0 (w.setCell ⟨G, j, none⟩ u) B cx la wa lb wb :=
 ⟨h.x.other G j u (.inl (by omega)), h.a.other G j u (.inl (by omega)), h.b.other G j u (.inl (by omega)), h.z.other G j u (.inl (by omega)), h.be.setCell (p := ⟨G, j, none⟩) (by show B ≤ G; omega) u, by rw [Co.set_size]; exact h.sz⟩
theorem rlast_any (x : Ev) (pa pb : List (Am × Am)) (vx va vb : Value) (w : World) (hx : Ty w vx x.rcs) (ha : Hv w va pa) (hb : Hv w vb pb) (hF : x.format = 5 ∨ x.format = 6) (hiv : x.iv = []) (hna : pa.length ≤ 10000) (hnb : pb.length ≤ 10000)
  (hnum : ∀ p ∈ pa ++ pb, p.2.num < 18446744073709551616) (hci : x.cipher.length ≤ 140737488351232) (hta : x.tag.length ≤ 140737488351232) :
  Calls Tryz.prog 44 #[evv x vx, va, vb] w (RetLs x (pa ++ pb) w) := by
 have BO := hid (fun (n : Nat) (w' : World) (h1 : Hv w' va pa) (h2 : Hv w' vb pb) => rboth_any pa pb n va vb w' h1 h2 hna hnb)
 have HHA := hid ha
 have HHB := hid hb
 have HTX := hid hx
 have HFF := hid hF
 have HIV := hid hiv
 have HLN := hid (aIn hnum (aIn hci hta))
 obtain ⟨la, wa, rfl, -, -⟩ := ha
 obtain ⟨lb, wb, rfl, -, -⟩ := hb
 obtain ⟨ax, cx, rfl, -⟩ := hx
 obtain ⟨ps, hps⟩ : ∃ ps, pa ++ pb = ps := ⟨_, rfl⟩
 have HPS := hid hps
 rw [hps] at HLN ⊢
 simp only [hps] at BO
 obtain ⟨E, hE⟩ : ∃ E, lastE x ps = E := ⟨_, rfl⟩
 have HE := hid hE
 have HEV : Hid (evv x (.slice ax x.rcs.length cx) = .agg #[.int .i64 x.format, .int .i64 x.alg, .slice ax x.rcs.length cx, .string (bs x.header), .string (bs x.loose), .string (bs x.aad), .string (bs x.iv), .string (bs x.cipher), .string (bs x.tag)]) := rfl
 rw [HEV.out]
 have hL0 : Lw w ((((w.alloc (eo9 x ax cx)).alloc (Obj.cells #[la, wa] 97)).alloc (Obj.cells #[lb, wb] 97)).alloc (eoz)) w.heap.size [.int .i64 x.format, .int .i64 x.alg, .slice ax x.rcs.length cx, .string (bs x.header), .string (bs x.loose), .string (bs x.aad), .string (bs x.iv), .string (bs x.cipher), .string (bs x.tag)] la wa lb wb := by
  refine ⟨(((At.ofAlloc w #[.int .i64 x.format, .int .i64 x.alg, .slice ax x.rcs.length cx, .string (bs x.header), .string (bs x.loose), .string (bs x.aad), .string (bs x.iv), .string (bs x.cipher), .string (bs x.tag)] 27).alloc _).alloc _).alloc _, ?_, ?_, ?_, ((((Below.refl _ _).alloc (nle _) _).alloc (by simp) _).alloc (by simp; omega) _).alloc (by simp; omega) _, by simp⟩
  ·have h := ((At.ofAlloc (w.alloc (eo9 x ax cx)) #[la, wa] 97).alloc (Obj.cells #[lb, wb] 97)).alloc (eoz)
   rw [World.size_alloc] at h
   exact h
  ·have h := (At.ofAlloc ((w.alloc (eo9 x ax cx)).alloc (Obj.cells #[la, wa] 97)) #[lb, wb] 97).alloc (eoz)
   rw [World.size_alloc, World.size_alloc] at h
   exact h
  ·have h := At.ofAlloc (((w.alloc (eo9 x ax cx)).alloc (Obj.cells #[la, wa] 97)).alloc (Obj.cells #[lb, wb] 97)) #[.int .i64 0, .int .i64 0, .slice none 0 0, .string ⟨#[]⟩, .string ⟨#[]⟩, .string ⟨#[]⟩, .string ⟨#[]⟩, .string ⟨#[]⟩, .string ⟨#[]⟩] 27
   rw [World.size_alloc, World.size_alloc, World.size_alloc] at h
   exact h
 obtain ⟨B, hB⟩ : ∃ B, w.heap.size = B := ⟨_, rfl⟩
 have HBB := hid hB
 clear hF hiv hna hnb hnum hci hta hps hE
 go_enter Tryz.func44, Tryz.ntmps44
 go_upto_region 1 with fail
 obtain ⟨w0, hw0⟩ : ∃ q, (((w.alloc (eo9 x ax cx)).alloc (Obj.cells #[la, wa] 97)).alloc (Obj.cells #[lb, wb] 97)).alloc (eoz) = q := ⟨_, rfl⟩
 rw [hw0] at hL0
 try rw [hw0]
 rw [hB] at hL0
 try rw [hB]
 have HL0 := hid hL0
 clear hw0 hL0 hB
 have HVA := hid (fun (w' : World) (h : Below B w w') => HHA.out.below (by rw [HBB.out]; exact h : Below w.heap.size w w'))
 have HVB := hid (fun (w' : World) (h : Below B w w') => HHB.out.below (by rw [HBB.out]; exact h : Below w.heap.size w w'))
 have l0 := HL0.out.a.z 0 _ rfl
 have l1 := HL0.out.a.z 1 _ rfl
 have m0 := HL0.out.b.z 0 _ rfl
 have m1 := HL0.out.b.z 1 _ rfl
 go_wp2_with fail
 refine (BO.out 1 w0 (HVA.out w0 HL0.out.be) (HVB.out w0 HL0.out.be)).mono ?_
 rintro e w1 ⟨rfl, hb1⟩
 obtain ⟨o1, ho1⟩ : ∃ o, findA ⟨0, 1, []⟩ ps = o := ⟨_, rfl⟩
 rw [ho1]
 have HO1 := hid ho1
 have HL1 := hid (HL0.out.below hb1)
 obtain ⟨y1, hy1⟩ : ∃ y, up (o1.getD a0) = y := ⟨_, rfl⟩
 rw [hy1]
 have HY1 := hid hy1
 obtain ⟨k1, n1, t1⟩ := y1
 rw [show (Value.agg (rv ⟨k1, n1, t1⟩).toArray) = .agg #[.int .i64 k1, .int .u64 (n1 : Int), .string ⟨t1.toArray⟩] from rfl]
 clear hb1 ho1 hy1 l0 l1 m0 m1
 go_upto_region 2 with fail
 obtain ⟨G, hG⟩ : ∃ G, w1.heap.size = G := ⟨_, rfl⟩
 obtain ⟨w2, hw2⟩ : ∃ q, w1.alloc (Obj.cells #[.int .i64 k1, .int .u64 (n1 : Int), .string ⟨t1.toArray⟩] 60) = q := ⟨_, rfl⟩
 have HL2 : Hid (Lw w w2 B [.int .i64 x.format, .int .i64 x.alg, .slice ax x.rcs.length cx, .string (bs x.header), .string (bs x.loose), .string (bs x.aad), .string (bs x.iv), .string (bs x.cipher), .string (bs x.tag)] la wa lb wb) := by show Lw _ _ _ _ _ _ _ _; rw [← hw2]; exact HL1.out.alloc _
 have HC2 : Hid (At w2 G 0 [.int .i64 k1, .int .u64 (n1 : Int), .string ⟨t1.toArray⟩]) := by show At _ _ _ _; rw [← hw2, ← hG]; exact At.ofAlloc w1 _ 60
 have HG : Hid (B + 4 ≤ G ∧ w2.heap.size = G + 1) := ⟨by rw [← hG]; exact HL1.out.sz, by rw [← hw2, ← hG]; simp⟩
 rw [hw2]
 try rw [hG]
 clear hw2 hG HL1
 cases o1 with
 | none =>
  have hz : E = 9 := by rw [← HE.out, lastE, algP, show find 1 ps = none from HO1.out]; rfl
  have HZE := hid hz
  simp only [Option.isSome_none] at *
  obtain ⟨c0, c1, c2, c3, c4, c5, c6, c7, c8⟩ := HL2.out.x.c9
  obtain ⟨z0, z1, z2, z3, z4, z5, z6, z7, z8⟩ := HL2.out.z.c9
  obtain ⟨y0, y1, y2, y3, y4, y5, y6, y7, y8⟩ := HL2.out.z.f9
  go_wp2_with fail
  refine bodyPost_ret (results_at_two rfl _ (B + 3) _ _ rfl (fill9 HL2.out.z _ _ _ _ _ _ _ _ _) Tryz.underlying27 rfl (by kernel_rfl) _ rfl) rfl ?_
  exact ⟨x, .slice ax x.rcs.length cx, by rw [HE.out, HZE.out]; rfl, HTX.out.below (by rw [HBB.out]; exact below9 HL2.out.be (show B ≤ B + 3 by omega) _ _ _ _ _ _ _ _ _), by rw [HBB.out]; exact below9 HL2.out.be (show B ≤ B + 3 by omega) _ _ _ _ _ _ _ _ _, fun h => by rw [HE.out, HZE.out] at h; cases h⟩
 | some v1 =>
  simp only [Option.isSome_some] at *
  have hv1 : k1 = (v1.kind : Int) ∧ n1 = v1.num ∧ t1 = v1.text := by
   have h := HY1.out
   simp only [Option.getD_some] at h
   exact ⟨(congrArg Co.Ra.kind h).symm, (congrArg Co.Ra.num h).symm, (congrArg Co.Ra.text h).symm⟩
  have hnn : n1 < 18446744073709551616 := by
   obtain ⟨p, hp, hpv⟩ := findA_mem HO1.out
   rw [hv1.2.1, ← hpv]
   exact HLN.out.1 p hp
  have HV1 := hid hv1
  have RO := hid (rrow_any x.format n1 hnn w2)
  have c0 := HL2.out.x.z 0 _ rfl
  have g1 := HC2.out.z 1 _ rfl
  clear hv1 hnn
  go_wp2_with fail
  refine RO.out.mono ?_
  clear RO
  rintro e w3 ⟨rfl, hb3⟩
  obtain ⟨R, hR⟩ : ∃ R, rowD x.format n1 = R := ⟨_, rfl⟩
  rw [hR]
  have HR := hid hR
  rw [show (Value.agg (r5v R).toArray) = .agg #[.int .i64 R.alg, .int .i64 R.key, .int .i64 R.iv, .int .i64 R.tag, .int .i64 R.layer] from rfl]
  have HL3 := hid (HL2.out.below hb3)
  have HC3 := hid (HC2.out.below hb3 (by have := HG.out.2; omega))
  have HG3 : Hid (G < w3.heap.size) := by have h1 := HG.out.2; have h2 := hb3.size; show G < _; omega
  clear hb3 hR c0 g1
  go_upto_region 5 with fail
  obtain ⟨G2, hG2⟩ : ∃ G, w3.heap.size = G := ⟨_, rfl⟩
  obtain ⟨w4, hw4⟩ : ∃ q, w3.alloc (Obj.cells #[.int .i64 R.alg, .int .i64 R.key, .int .i64 R.iv, .int .i64 R.tag, .int .i64 R.layer] 137) = q := ⟨_, rfl⟩
  have HL4 : Hid (Lw w w4 B [.int .i64 x.format, .int .i64 x.alg, .slice ax x.rcs.length cx, .string (bs x.header), .string (bs x.loose), .string (bs x.aad), .string (bs x.iv), .string (bs x.cipher), .string (bs x.tag)] la wa lb wb) := by show Lw _ _ _ _ _ _ _ _; rw [← hw4]; exact HL3.out.alloc _
  have HC4 : Hid (At w4 G 0 [.int .i64 k1, .int .u64 (n1 : Int), .string ⟨t1.toArray⟩]) := by show At _ _ _ _; rw [← hw4]; exact HC3.out.alloc _
  have HD4 : Hid (At w4 G2 0 [.int .i64 R.alg, .int .i64 R.key, .int .i64 R.iv, .int .i64 R.tag, .int .i64 R.layer]) := by show At _ _ _ _; rw [← hw4, ← hG2]; exact At.ofAlloc w3 _ 137
  have HG4 : Hid (B + 4 ≤ G ∧ G < G2 ∧ w4.heap.size = G2 + 1) := ⟨HG.out.1, by rw [← hG2]; exact HG3.out, by rw [← hw4, ← hG2]; simp⟩
  rw [hw4]
  try rw [hG2]
  clear hw4 hG2 HL3 HC3 HL2 HC2
  have HAL := hid (algP_D HFF.out (show find 1 ps = some v1 from HO1.out))
  have g0 := HC4.out.z 0 _ rfl
  have r0 := HD4.out.z 0 _ rfl
  have r2 := HD4.out.z 2 _ rfl
  obtain ⟨bi, hbi⟩ : ∃ b, (R.iv == 0) = b := ⟨_, rfl⟩
  obtain ⟨bf, hbf⟩ : ∃ b, (x.format == 6) = b := ⟨_, rfl⟩
  have HBI := hid hbi
  have HBF := hid hbf
  have bad : (v1.kind ≠ 0 ∨ badD x.format v1.num = true) → E = 11 := fun h => by
   rw [← HE.out, lastE, HAL.out.1 h]; rfl
  have HBD := hid bad
  have hbd : badD x.format v1.num = (decide (R.alg = 0) || (bi != bf)) := by
   rw [badD, ← HV1.out.2.1, HR.out, ← hbi, ← hbf, beq_eq_decide, beq_eq_decide]
  have HBE := hid hbd
  clear bad hbd
  by_cases hk : k1 = 0
  case neg =>
   have hz : E = 11 := HBD.out (.inl (by have := HV1.out.1; omega))
   have HZE := hid hz
   have f1 : (k1 != 0) = true := by simpa using hk
   clear hk hz hbi hbf
   obtain ⟨c0, c1, c2, c3, c4, c5, c6, c7, c8⟩ := HL4.out.x.c9
   obtain ⟨z0, z1, z2, z3, z4, z5, z6, z7, z8⟩ := HL4.out.z.c9
   obtain ⟨y0, y1, y2, y3, y4, y5, y6, y7, y8⟩ := HL4.out.z.f9
   go_wp2_with fail
   refine bodyPost_ret (results_at_two rfl _ (B + 3) _ _ rfl (fill9 HL4.out.z _ _ _ _ _ _ _ _ _) Tryz.underlying27 rfl (by kernel_rfl) _ rfl) rfl ?_
   exact ⟨x, .slice ax x.rcs.length cx, by rw [HE.out, HZE.out]; rfl, HTX.out.below (by rw [HBB.out]; exact below9 HL4.out.be (show B ≤ B + 3 by omega) _ _ _ _ _ _ _ _ _), by rw [HBB.out]; exact below9 HL4.out.be (show B ≤ B + 3 by omega) _ _ _ _ _ _ _ _ _, fun h => by rw [HE.out, HZE.out] at h; cases h⟩
  case pos =>
  by_cases hr0 : R.alg = 0
  case pos =>
   have hz : E = 11 := HBD.out (.inr (by rw [HBE.out, dtr hr0]; rfl))
   have HZE := hid hz
   have f1 : (k1 != 0) = false := by simpa using hk
   have f2 : (R.alg == 0) = true := by simpa using hr0
   clear hk hz hbi hbf hr0
   obtain ⟨c0, c1, c2, c3, c4, c5, c6, c7, c8⟩ := HL4.out.x.c9
   obtain ⟨z0, z1, z2, z3, z4, z5, z6, z7, z8⟩ := HL4.out.z.c9
   obtain ⟨y0, y1, y2, y3, y4, y5, y6, y7, y8⟩ := HL4.out.z.f9
   go_wp2_with fail
   refine bodyPost_ret (results_at_two rfl _ (B + 3) _ _ rfl (fill9 HL4.out.z _ _ _ _ _ _ _ _ _) Tryz.underlying27 rfl (by kernel_rfl) _ rfl) rfl ?_
   exact ⟨x, .slice ax x.rcs.length cx, by rw [HE.out, HZE.out]; rfl, HTX.out.below (by rw [HBB.out]; exact below9 HL4.out.be (show B ≤ B + 3 by omega) _ _ _ _ _ _ _ _ _), by rw [HBB.out]; exact below9 HL4.out.be (show B ≤ B + 3 by omega) _ _ _ _ _ _ _ _ _, fun h => by rw [HE.out, HZE.out] at h; cases h⟩
  case neg =>
  have f1 : (k1 != 0) = false := by simpa using hk
  have f2 : (R.alg == 0) = false := by simpa using hr0
  by_cases hbb : bi = bf
  case neg =>
   have f3 : (bi == bf) = false := beq_eq_false_iff_ne.2 hbb
   have hz : E = 11 := HBD.out (.inr (by rw [HBE.out, bne, f3]; simp))
   have HZE := hid hz
   clear hk hz hr0 hbb
   obtain ⟨c0, c1, c2, c3, c4, c5, c6, c7, c8⟩ := HL4.out.x.c9
   obtain ⟨z0, z1, z2, z3, z4, z5, z6, z7, z8⟩ := HL4.out.z.c9
   obtain ⟨y0, y1, y2, y3, y4, y5, y6, y7, y8⟩ := HL4.out.z.f9
   go_wp2_with fail
   refine bodyPost_ret (results_at_two rfl _ (B + 3) _ _ rfl (fill9 HL4.out.z _ _ _ _ _ _ _ _ _) Tryz.underlying27 rfl (by kernel_rfl) _ rfl) rfl ?_
   exact ⟨x, .slice ax x.rcs.length cx, by rw [HE.out, HZE.out]; rfl, HTX.out.below (by rw [HBB.out]; exact below9 HL4.out.be (show B ≤ B + 3 by omega) _ _ _ _ _ _ _ _ _), by rw [HBB.out]; exact below9 HL4.out.be (show B ≤ B + 3 by omega) _ _ _ _ _ _ _ _ _, fun h => by rw [HE.out, HZE.out] at h; cases h⟩
  case pos =>
  have f3 : (bi == bf) = true := beq_iff_eq.2 hbb
  have hgood : algP x.format ps = (0, numF x.format v1.num) := HAL.out.2 (by have := HV1.out.1; omega) (by rw [HBE.out, dfa hr0, bne, f3]; rfl)
  have hsd := (same_D x.format HFF.out v1.num).2 (by rw [HBE.out, dfa hr0, bne, f3]; rfl)
  have hRv : rowD x.format v1.num = R := by rw [← HV1.out.2.1]; exact HR.out
  rw [hRv] at hsd
  have HGD := hid hgood
  have HSD := hid hsd
  have c0 := HL4.out.x.z 0 _ rfl
  have c1 := HL4.out.x.z 1 _ rfl
  have p1 := HL4.out.x.zy 1 _ rfl
  have hset := HL4.out.setX 1 (.int .i64 R.alg)
  have HC5 := hid (HC4.out.other B 1 (.int .i64 R.alg) (.inl (by have := HG4.out; omega)))
  have HD5 := hid (HD4.out.other B 1 (.int .i64 R.alg) (.inl (by have := HG4.out; omega)))
  clear hk hr0 hbb hgood hsd hRv
  go_upto_region 8 with fail
  obtain ⟨w5, hw5⟩ : ∃ q, w4.setCell ⟨B, 1, none⟩ (.int .i64 R.alg) = q := ⟨_, rfl⟩
  rw [hw5] at hset HC5 HD5
  try rw [hw5]
  have HL5 : Hid (Lw w w5 B [.int .i64 x.format, .int .i64 R.alg, .slice ax x.rcs.length cx, .string (bs x.header), .string (bs x.loose), .string (bs x.aad), .string (bs x.iv), .string (bs x.cipher), .string (bs x.tag)] la wa lb wb) := hset
  have HG5 : Hid (B + 4 ≤ G ∧ G < G2 ∧ w5.heap.size = G2 + 1) := ⟨HG4.out.1, HG4.out.2.1, by rw [← hw5, Co.set_size]; exact HG4.out.2.2⟩
  clear hw5 hset HL4 HC4 HD4 HG4 c0 c1 p1 g0 r0 r2 f1 f2 f3 hbi hbf
  have l0 := HL5.out.a.z 0 _ rfl
  have l1 := HL5.out.a.z 1 _ rfl
  have m0 := HL5.out.b.z 0 _ rfl
  have m1 := HL5.out.b.z 1 _ rfl
  go_wp2_with fail
  refine (BO.out 4 w5 (HVA.out w5 HL5.out.be) (HVB.out w5 HL5.out.be)).mono ?_
  rintro e w6 ⟨rfl, hb6⟩
  obtain ⟨o4, ho4⟩ : ∃ o, findA ⟨0, 4, []⟩ ps = o := ⟨_, rfl⟩
  rw [ho4]
  have HO4 := hid ho4
  have HL6 := hid (HL5.out.below hb6)
  have HC6 := hid (HC5.out.below hb6 (by have := HG5.out; omega))
  have HD6 := hid (HD5.out.below hb6 (by have := HG5.out; omega))
  have HG6 : Hid (B + 4 ≤ G ∧ G < G2 ∧ G2 < w6.heap.size) := ⟨HG5.out.1, HG5.out.2.1, by have := HG5.out.2.2; have := hb6.size; omega⟩
  obtain ⟨y4, hy4⟩ : ∃ y, up (o4.getD a0) = y := ⟨_, rfl⟩
  rw [hy4]
  have HY4 := hid hy4
  obtain ⟨k4, n4, t4⟩ := y4
  rw [show (Value.agg (rv ⟨k4, n4, t4⟩).toArray) = .agg #[.int .i64 k4, .int .u64 (n4 : Int), .string ⟨t4.toArray⟩] from rfl]
  obtain ⟨b4, hb4⟩ : ∃ b, o4.isSome = b := ⟨_, rfl⟩
  rw [hb4]
  have HB4 := hid hb4
  have g0 := HC6.out.z 0 _ rfl
  have g1 := HC6.out.z 1 _ rfl
  have g2 := HC6.out.z 2 _ rfl
  have q0 := HC6.out.zy 0 _ rfl
  have q1 := HC6.out.zy 1 _ rfl
  have q2 := HC6.out.zy 2 _ rfl
  clear hb6 ho4 hy4 hb4 l0 l1 m0 m1
  go_upto_region 9 with fail
  have hset := ((HL6.out.setG G 0 (.int .i64 k4) HG6.out.1).setG G 1 (.int .u64 (n4 : Int)) HG6.out.1).setG G 2 (.string ⟨t4.toArray⟩) HG6.out.1
  have hC7 := fillA3 HC6.out (.int .i64 k4) (.int .u64 (n4 : Int)) (.string ⟨t4.toArray⟩)
  have hD7 := ((HD6.out.other G 0 (.int .i64 k4) (.inl (by have := HG6.out; omega))).other G 1 (.int .u64 (n4 : Int)) (.inl (by have := HG6.out; omega))).other G 2 (.string ⟨t4.toArray⟩) (.inl (by have := HG6.out; omega))
  obtain ⟨w7, hw7⟩ : ∃ q, ((w6.setCell ⟨G, 0, none⟩ (.int .i64 k4)).setCell ⟨G, 1, none⟩ (.int .u64 (n4 : Int))).setCell ⟨G, 2, none⟩ (.string ⟨t4.toArray⟩) = q := ⟨_, rfl⟩
  rw [hw7] at hset hC7 hD7
  try rw [hw7]
  have HL7 := hid hset
  have HC7 := hid hC7
  have HD7 := hid hD7
  have HG7 : Hid (B + 4 ≤ G ∧ G < G2 ∧ G2 < w7.heap.size) := ⟨HG6.out.1, HG6.out.2.1, by rw [← hw7, Co.set_size, Co.set_size, Co.set_size]; exact HG6.out.2.2⟩
  clear hw7 hset hC7 hD7 HL6 HC6 HD6 g0 g1 g2 q0 q1 q2
  have HNM : Hid ((o4 = none → nameP ps = (0, [])) ∧ (∀ v, o4 = some v → ((v.kind ≠ 2 ∨ v.text.length < 1 ∨ 128 < v.text.length) → nameP ps = (9, [])) ∧ (¬ (v.kind ≠ 2 ∨ v.text.length < 1 ∨ 128 < v.text.length) → nameP ps = (0, v.text)))) := by
   refine ⟨fun h => ?_, fun v h => ⟨fun h2 => ?_, fun h2 => ?_⟩⟩
   ·rw [nameP, show find 4 ps = none from HO4.out.trans h]
   ·rw [nameP, show find 4 ps = some v from HO4.out.trans h]
    dsimp only
    rw [if_pos h2]
   ·rw [nameP, show find 4 ps = some v from HO4.out.trans h]
    dsimp only
    rw [if_neg h2]
  have g0 := HC7.out.z 0 _ rfl
  have g2 := HC7.out.z 2 _ rfl
  go_cut [70] from 53 to 70 (fun v70 wx => v70 = .bool (decide (¬ (nameP ps).1 = 0)) ∧ wx = w7 ∧ Hid ((nameP ps).1 = 0 → (nameP ps).2 = t4))
  case first =>
   cases o4 with
   | none =>
    have hn := HNM.out.1 rfl
    have hb4 : b4 = false := HB4.out.symm
    subst hb4
    have HT4 : Hid (t4 = []) := (congrArg Co.Ra.text HY4.out).symm
    have HNN : Hid (nameP ps = (0, [])) := hn
    clear hn
    go_wp2_with fail
    go_meet
    case rel => exact ⟨by rw [HNN.out]; rfl, rfl, fun _ => by rw [HNN.out, HT4.out]⟩
   | some v4 =>
    have hb4 : b4 = true := HB4.out.symm
    subst hb4
    obtain ⟨hn1, hn2⟩ := HNM.out.2 v4 rfl
    have hk4 : (v4.kind : Int) = k4 := congrArg Co.Ra.kind HY4.out
    have ht4 : v4.text = t4 := congrArg Co.Ra.text HY4.out
    rw [ht4] at hn1 hn2
    have hsz : (⟨t4.toArray⟩ : ByteArray).size = t4.length := rfl
    by_cases hk : k4 = 2
    case neg =>
     have HNN : Hid (nameP ps = (9, [])) := hn1 (.inl (by omega))
     have f1 : (k4 != 2) = true := by simpa using hk
     clear hn1 hn2 hk hk4
     go_wp2_with fail
     go_meet
     case rel => exact ⟨by rw [HNN.out]; rfl, rfl, fun h => by rw [HNN.out] at h; cases h⟩
    case pos =>
    have f1 : (k4 != 2) = false := by simpa using hk
    by_cases h1 : t4.length < 1
    case pos =>
     have HNN : Hid (nameP ps = (9, [])) := hn1 (.inr (.inl h1))
     have e1 : (t4.length : Int) < 1 := by omega
     clear hn1 hn2 hk hk4 h1
     go_wp2_with fail
     go_meet
     case rel => exact ⟨by rw [HNN.out]; rfl, rfl, fun h => by rw [HNN.out] at h; cases h⟩
    case neg =>
    have e1 : ¬ (t4.length : Int) < 1 := by omega
    by_cases h2 : 128 < t4.length
    case pos =>
     have HNN : Hid (nameP ps = (9, [])) := hn1 (.inr (.inr h2))
     have e2 : (128 : Int) < (t4.length : Int) := by omega
     clear hn1 hn2 hk hk4 h1 h2
     go_wp2_with fail
     go_meet
     case rel => exact ⟨by rw [HNN.out]; rfl, rfl, fun h => by rw [HNN.out] at h; cases h⟩
    case neg =>
     have HNN : Hid (nameP ps = (0, t4)) := hn2 (by omega)
     have e2 : ¬ (128 : Int) < (t4.length : Int) := by omega
     clear hn1 hn2 hk hk4 h1 h2
     go_wp2_with fail
     go_meet
     case rel => exact ⟨by rw [HNN.out]; rfl, rfl, fun _ => by rw [HNN.out]⟩
  case rest =>
  obtain ⟨rfl, rfl, HNT⟩ := hcut
  obtain ⟨bn, hbn⟩ : ∃ b, decide (¬ (nameP ps).1 = 0) = b := ⟨_, rfl⟩
  rw [hbn]
  have HBNM := hid hbn
  clear hbn g0 g2
  cases bn with
  | true =>
   have hz : E = 9 := by
    have h1 := of_decide_eq_true HBNM.out
    have h2 : (nameP ps).1 = 9 := by
     cases o4 with
     | none => rw [HNM.out.1 rfl] at h1; exact absurd rfl h1
     | some v4 =>
      obtain ⟨hn1, hn2⟩ := HNM.out.2 v4 rfl
      by_cases hq : v4.kind ≠ 2 ∨ v4.text.length < 1 ∨ 128 < v4.text.length
      ·rw [hn1 hq]
      ·rw [hn2 hq] at h1; exact absurd rfl h1
    rw [← HE.out, lastE, HGD.out, if_neg (by simp), if_pos h1, h2]
   have HZE := hid hz
   clear hz
   obtain ⟨c0, c1, c2, c3, c4, c5, c6, c7, c8⟩ := HL7.out.x.c9
   obtain ⟨z0, z1, z2, z3, z4, z5, z6, z7, z8⟩ := HL7.out.z.c9
   obtain ⟨y0, y1, y2, y3, y4, y5, y6, y7, y8⟩ := HL7.out.z.f9
   go_wp2_with fail
   refine bodyPost_ret (results_at_two rfl _ (B + 3) _ _ rfl (fill9 HL7.out.z _ _ _ _ _ _ _ _ _) Tryz.underlying27 rfl (by kernel_rfl) _ rfl) rfl ?_
   exact ⟨{ x with alg := R.alg }, .slice ax x.rcs.length cx, by rw [HE.out, HZE.out]; rfl, HTX.out.below (by rw [HBB.out]; exact below9 HL7.out.be (show B ≤ B + 3 by omega) _ _ _ _ _ _ _ _ _), by rw [HBB.out]; exact below9 HL7.out.be (show B ≤ B + 3 by omega) _ _ _ _ _ _ _ _ _, fun h => by rw [HE.out, HZE.out] at h; cases h⟩
  | false =>
  have HNZ : Hid ((nameP ps).1 = 0) := by have h := HBNM.out; show _ = _; simpa using h
  have g2 := HC7.out.z 2 _ rfl
  have c2 := HL7.out.x.z 2 _ rfl
  have p2 := HL7.out.x.zy 2 _ rfl
  have hLa := HL7.out.alloc (Obj.cells #[.int .i64 1, .int .i64 0, .int .i64 0, .string ⟨t4.toArray⟩, .string ⟨#[]⟩, .string ⟨#[]⟩, .int .i64 0, .string ⟨#[]⟩, .string ⟨#[]⟩] 57)
  have c2a := hLa.x.z 2 _ rfl
  have p2a := hLa.x.zy 2 _ rfl
  have hset := hLa.setX 2 (.slice (some ⟨wc.heap.size, 0, none⟩) 1 1)
  have hC8 := (HC7.out.alloc (Obj.cells #[.int .i64 1, .int .i64 0, .int .i64 0, .string ⟨t4.toArray⟩, .string ⟨#[]⟩, .string ⟨#[]⟩, .int .i64 0, .string ⟨#[]⟩, .string ⟨#[]⟩] 57)).other B 2 (.slice (some ⟨wc.heap.size, 0, none⟩) 1 1) (.inl (by have := HG7.out; omega))
  have hD8 := (HD7.out.alloc (Obj.cells #[.int .i64 1, .int .i64 0, .int .i64 0, .string ⟨t4.toArray⟩, .string ⟨#[]⟩, .string ⟨#[]⟩, .int .i64 0, .string ⟨#[]⟩, .string ⟨#[]⟩] 57)).other B 2 (.slice (some ⟨wc.heap.size, 0, none⟩) 1 1) (.inl (by have := HG7.out; omega))
  have hR8 := (At.ofAlloc wc #[.int .i64 1, .int .i64 0, .int .i64 0, .string ⟨t4.toArray⟩, .string ⟨#[]⟩, .string ⟨#[]⟩, .int .i64 0, .string ⟨#[]⟩, .string ⟨#[]⟩] 57).other B 2 (.slice (some ⟨wc.heap.size, 0, none⟩) 1 1) (.inl (by have := HL7.out.sz; omega))
  go_upto_region 12 with fail
  obtain ⟨w8, hw8⟩ : ∃ q, (wc.alloc (Obj.cells #[.int .i64 1, .int .i64 0, .int .i64 0, .string ⟨t4.toArray⟩, .string ⟨#[]⟩, .string ⟨#[]⟩, .int .i64 0, .string ⟨#[]⟩, .string ⟨#[]⟩] 57)).setCell ⟨B, 2, none⟩ (.slice (some ⟨wc.heap.size, 0, none⟩) 1 1) = q := ⟨_, rfl⟩
  obtain ⟨G3, hG3⟩ : ∃ G, wc.heap.size = G := ⟨_, rfl⟩
  have hs8 : w8.heap.size = G3 + 1 := by rw [← hw8, Co.set_size, World.size_alloc, hG3]
  rw [hw8] at hset hC8 hD8 hR8
  try rw [hw8]
  rw [hG3] at hset hR8
  try rw [hG3]
  have HL8 : Hid (Lw w w8 B [.int .i64 x.format, .int .i64 R.alg, .slice (some ⟨G3, 0, none⟩) 1 1, .string (bs x.header), .string (bs x.loose), .string (bs x.aad), .string (bs x.iv), .string (bs x.cipher), .string (bs x.tag)] la wa lb wb) := hset
  have HC8 := hid hC8
  have HD8 := hid hD8
  have HR8 : Hid (Rb w8 (B + 3) G3 t4) := ⟨hR8, by rw [hs8]; omega, by have := HL7.out.sz; omega⟩
  have HG8 : Hid (B + 4 ≤ G ∧ G < G2 ∧ G2 < G3 ∧ G3 < w8.heap.size) := ⟨HG7.out.1, HG7.out.2.1, by rw [← hG3]; exact HG7.out.2.2, by rw [hs8]; omega⟩
  clear hw8 hset hC8 hD8 hR8 hLa c2a p2a c2 p2 g2 HL7 HC7 HD7 HG7 hG3 hs8
  have HEL : Hid (E = (lenP x.format (numF x.format v1.num) ps x.cipher x.tag).1) := by
   show E = _
   rw [← HE.out, lastE, HGD.out, if_neg (by simp), if_neg (by simpa using HNZ.out)]
  have HVL : Hid (lastV x ps = { x with alg := R.alg, rcs := [⟨1, 0, 0, t4, [], [], 0, [], []⟩], iv := (lenP x.format (numF x.format v1.num) ps x.cipher x.tag).2.1, cipher := (lenP x.format (numF x.format v1.num) ps x.cipher x.tag).2.2.1, tag := (lenP x.format (numF x.format v1.num) ps x.cipher x.tag).2.2.2 }) := by
   show _ = _
   rw [lastV, HGD.out, HNT.out HNZ.out, HSD.out.1]
  have s7 : (bs x.cipher).size = x.cipher.length := rfl
  have s8 : (bs x.tag).size = x.tag.length := rfl
  have r2 := HD8.out.z 2 _ rfl
  have r3 := HD8.out.z 3 _ rfl
  obtain ⟨c0, c1, c2, c3, c4, c5, c6, c7, c8⟩ := HL8.out.x.c9
  obtain ⟨z0, z1, z2, z3, z4, z5, z6, z7, z8⟩ := HL8.out.z.c9
  obtain ⟨y0, y1, y2, y3, y4, y5, y6, y7, y8⟩ := HL8.out.z.f9
  have hbf := HBF.out
  cases bf with
  | true =>
   have hF6 : x.format = 6 := by rw [beq_iff_eq] at hbf; exact hbf
   have HF6 := hid hF6
   clear hF6
   by_cases ht : (x.tag.length : Int) = R.tag
   case neg =>
    have hz : E = 9 := by
     rw [HEL.out, lenP, if_pos HF6.out, if_pos (by rw [← HSD.out.2.2.1]; exact ht)]
    have HZE := hid hz
    have f1 : ((x.tag.length : Int) != R.tag) = true := by simpa using ht
    clear hz ht
    go_wp2_with fail
    refine bodyPost_ret (results_at_two rfl _ (B + 3) _ _ rfl (fill9 HL8.out.z _ _ _ _ _ _ _ _ _) Tryz.underlying27 rfl (by kernel_rfl) _ rfl) rfl ?_
    exact ⟨{ x with alg := R.alg, rcs := [⟨1, 0, 0, t4, [], [], 0, [], []⟩] }, .slice (some ⟨G3, 0, none⟩) 1 1, by rw [HE.out, HZE.out]; rfl, ty9 HR8.out _ _ _ _ _ _ _ _ _, by rw [HBB.out]; exact below9 HL8.out.be (show B ≤ B + 3 by omega) _ _ _ _ _ _ _ _ _, fun h => by rw [HE.out, HZE.out] at h; cases h⟩
   case pos =>
   have f1 : ((x.tag.length : Int) != R.tag) = false := by simpa using ht
   by_cases hc : 70000 < x.cipher.length
   ·have hz : E = 10 := by
     rw [HEL.out, lenP, if_pos HF6.out, if_neg (by rw [← HSD.out.2.2.1]; simpa using ht), if_pos hc]
    have HZE := hid hz
    have e1 : (70000 : Int) < (x.cipher.length : Int) := by omega
    clear hz ht hc
    go_wp2_with fail
    refine bodyPost_ret (results_at_two rfl _ (B + 3) _ _ rfl (fill9 HL8.out.z _ _ _ _ _ _ _ _ _) Tryz.underlying27 rfl (by kernel_rfl) _ rfl) rfl ?_
    exact ⟨{ x with alg := R.alg, rcs := [⟨1, 0, 0, t4, [], [], 0, [], []⟩] }, .slice (some ⟨G3, 0, none⟩) 1 1, by rw [HE.out, HZE.out]; rfl, ty9 HR8.out _ _ _ _ _ _ _ _ _, by rw [HBB.out]; exact below9 HL8.out.be (show B ≤ B + 3 by omega) _ _ _ _ _ _ _ _ _, fun h => by rw [HE.out, HZE.out] at h; cases h⟩
   ·have hlp : lenP x.format (numF x.format v1.num) ps x.cipher x.tag = (0, [], x.cipher, x.tag) := by
     rw [lenP, if_pos HF6.out, if_neg (by rw [← HSD.out.2.2.1]; simpa using ht), if_neg hc]
    have hz : E = 0 := by rw [HEL.out, hlp]
    have HZE := hid hz
    have HOK : Hid ({ x with alg := R.alg, rcs := [⟨1, 0, 0, t4, [], [], 0, [], []⟩] } = lastV x ps) := by
     show _ = _
     rw [HVL.out, hlp, ← HIV.out]
    have e1 : ¬ (70000 : Int) < (x.cipher.length : Int) := by omega
    clear hz ht hc hlp
    go_wp2_with fail
    refine bodyPost_ret (results_at_two rfl _ (B + 3) _ _ rfl (fill9 HL8.out.z _ _ _ _ _ _ _ _ _) Tryz.underlying27 rfl (by kernel_rfl) _ rfl) rfl ?_
    exact ⟨{ x with alg := R.alg, rcs := [⟨1, 0, 0, t4, [], [], 0, [], []⟩] }, .slice (some ⟨G3, 0, none⟩) 1 1, by rw [HE.out, HZE.out]; rfl, ty9 HR8.out _ _ _ _ _ _ _ _ _, by rw [HBB.out]; exact below9 HL8.out.be (show B ≤ B + 3 by omega) _ _ _ _ _ _ _ _ _, fun h => by exact HOK.out⟩
  | false =>
  have hF6 : ¬ x.format = 6 := beq_eq_false_iff_ne.1 hbf
  have HF6 := hid hF6
  clear hF6
  have l0 := HL8.out.a.z 0 _ rfl
  have l1 := HL8.out.a.z 1 _ rfl
  have m0 := HL8.out.b.z 0 _ rfl
  have m1 := HL8.out.b.z 1 _ rfl
  go_wp2_with fail
  refine (BO.out 5 w8 (HVA.out w8 HL8.out.be) (HVB.out w8 HL8.out.be)).mono ?_
  rintro e w9 ⟨rfl, hb9⟩
  clear c0 z0 y0 c1 z1 y1 c2 z2 y2 c3 z3 y3 c4 z4 y4 c5 z5 y5 c6 z6 y6 c7 z7 y7 c8 z8 y8 l0 l1 m0 m1 r2 r3 hbf
  obtain ⟨o5, ho5⟩ : ∃ o, findA ⟨0, 5, []⟩ ps = o := ⟨_, rfl⟩
  rw [ho5]
  have HO5 := hid ho5
  have HL9 := hid (HL8.out.below hb9)
  have HC9 := hid (HC8.out.below hb9 (by have := HG8.out; omega))
  have HD9 := hid (HD8.out.below hb9 (by have := HG8.out; omega))
  have HR9 := hid (HR8.out.below hb9)
  obtain ⟨y5, hy5⟩ : ∃ y, up (o5.getD a0) = y := ⟨_, rfl⟩
  rw [hy5]
  have HY5 := hid hy5
  obtain ⟨k5, n5, t5⟩ := y5
  rw [show (Value.agg (rv ⟨k5, n5, t5⟩).toArray) = .agg #[.int .i64 k5, .int .u64 (n5 : Int), .string ⟨t5.toArray⟩] from rfl]
  obtain ⟨b5, hb5⟩ : ∃ b, o5.isSome = b := ⟨_, rfl⟩
  rw [hb5]
  have HB5 := hid hb5
  have g0 := HC9.out.z 0 _ rfl
  have g1 := HC9.out.z 1 _ rfl
  have g2 := HC9.out.z 2 _ rfl
  have q0 := HC9.out.zy 0 _ rfl
  have q1 := HC9.out.zy 1 _ rfl
  have q2 := HC9.out.zy 2 _ rfl
  clear hb9 ho5 hy5 hb5
  go_upto_region 19 with fail
  have hset := ((HL9.out.setG G 0 (.int .i64 k5) HG8.out.1).setG G 1 (.int .u64 (n5 : Int)) HG8.out.1).setG G 2 (.string ⟨t5.toArray⟩) HG8.out.1
  have hC10 := fillA3 HC9.out (.int .i64 k5) (.int .u64 (n5 : Int)) (.string ⟨t5.toArray⟩)
  have hD10 := ((HD9.out.other G 0 (.int .i64 k5) (.inl (by have := HG8.out; omega))).other G 1 (.int .u64 (n5 : Int)) (.inl (by have := HG8.out; omega))).other G 2 (.string ⟨t5.toArray⟩) (.inl (by have := HG8.out; omega))
  have hR10 := ((HR9.out.set G 0 (.int .i64 k5) (by have := HG8.out; omega)).set G 1 (.int .u64 (n5 : Int)) (by have := HG8.out; omega)).set G 2 (.string ⟨t5.toArray⟩) (by have := HG8.out; omega)
  obtain ⟨w10, hw10⟩ : ∃ q, ((w9.setCell ⟨G, 0, none⟩ (.int .i64 k5)).setCell ⟨G, 1, none⟩ (.int .u64 (n5 : Int))).setCell ⟨G, 2, none⟩ (.string ⟨t5.toArray⟩) = q := ⟨_, rfl⟩
  rw [hw10] at hset hC10 hD10 hR10
  try rw [hw10]
  have HL10 := hid hset
  have HC10 := hid hC10
  have HD10 := hid hD10
  have HR10 := hid hR10
  clear hw10 hset hC10 hD10 hR10 HL9 HC9 HD9 HR9 HL8 HC8 HD8 HR8 g0 g1 g2 q0 q1 q2
  have g0 := HC10.out.z 0 _ rfl
  have g2 := HC10.out.z 2 _ rfl
  have r2 := HD10.out.z 2 _ rfl
  have r3 := HD10.out.z 3 _ rfl
  obtain ⟨c0, c1, c2, c3, c4, c5, c6, c7, c8⟩ := HL10.out.x.c9
  obtain ⟨z0, z1, z2, z3, z4, z5, z6, z7, z8⟩ := HL10.out.z.c9
  obtain ⟨y0, y1, y2, y3, y4, y5, y6, y7, y8⟩ := HL10.out.z.f9
  have s5 : (⟨t5.toArray⟩ : ByteArray).size = t5.length := rfl
  have HLP : Hid (∀ v, o5 = some v → lenP x.format (numF x.format v1.num) ps x.cipher x.tag = (if v.kind ≠ 2 ∨ (v.text.length : Int) ≠ R.iv ∨ (x.cipher.length : Int) < R.tag then (9, [], [], []) else if 70000 < x.cipher.length - R.tag.toNat ∨ R.iv = 13 ∧ 65536 ≤ x.cipher.length - R.tag.toNat then (10, [], [], []) else (0, v.text, x.cipher.take (x.cipher.length - R.tag.toNat), x.cipher.drop (x.cipher.length - R.tag.toNat)))) := by
   intro v hv
   rw [lenP, if_neg HF6.out, show find 5 ps = some v from HO5.out.trans hv, ← HSD.out.2.1, ← HSD.out.2.2.1]
  cases o5 with
  | none =>
   have hz : E = 9 := by rw [HEL.out, lenP, if_neg HF6.out, show find 5 ps = none from HO5.out]
   have HZE := hid hz
   have hb5 : b5 = false := HB5.out.symm
   subst hb5
   clear hz
   go_wp2_with fail
   refine bodyPost_ret (results_at_two rfl _ (B + 3) _ _ rfl (fill9 HL10.out.z _ _ _ _ _ _ _ _ _) Tryz.underlying27 rfl (by kernel_rfl) _ rfl) rfl ?_
   exact ⟨{ x with alg := R.alg, rcs := [⟨1, 0, 0, t4, [], [], 0, [], []⟩] }, .slice (some ⟨G3, 0, none⟩) 1 1, by rw [HE.out, HZE.out]; rfl, ty9 HR10.out _ _ _ _ _ _ _ _ _, by rw [HBB.out]; exact below9 HL10.out.be (show B ≤ B + 3 by omega) _ _ _ _ _ _ _ _ _, fun h => by rw [HE.out, HZE.out] at h; cases h⟩
  | some v5 =>
  have hb5 : b5 = true := HB5.out.symm
  subst hb5
  have hk5 : (v5.kind : Int) = k5 := congrArg Co.Ra.kind HY5.out
  have ht5 : v5.text = t5 := congrArg Co.Ra.text HY5.out
  have hlp := HLP.out v5 rfl
  rw [ht5] at hlp
  have HK5 := hid hk5
  by_cases hk : k5 = 2
  case neg =>
   have hz : E = 9 := by rw [HEL.out, hlp, if_pos (.inl (by omega))]
   have HZE := hid hz
   have f1 : (k5 != 2) = true := by simpa using hk
   clear hz hlp hk hk5 ht5
   go_wp2_with fail
   refine bodyPost_ret (results_at_two rfl _ (B + 3) _ _ rfl (fill9 HL10.out.z _ _ _ _ _ _ _ _ _) Tryz.underlying27 rfl (by kernel_rfl) _ rfl) rfl ?_
   exact ⟨{ x with alg := R.alg, rcs := [⟨1, 0, 0, t4, [], [], 0, [], []⟩] }, .slice (some ⟨G3, 0, none⟩) 1 1, by rw [HE.out, HZE.out]; rfl, ty9 HR10.out _ _ _ _ _ _ _ _ _, by rw [HBB.out]; exact below9 HL10.out.be (show B ≤ B + 3 by omega) _ _ _ _ _ _ _ _ _, fun h => by rw [HE.out, HZE.out] at h; cases h⟩
  case pos =>
  have f1 : (k5 != 2) = false := by simpa using hk
  by_cases hi : (t5.length : Int) = R.iv
  case neg =>
   have hz : E = 9 := by rw [HEL.out, hlp, if_pos (.inr (.inl hi))]
   have HZE := hid hz
   have f2 : ((t5.length : Int) != R.iv) = true := by simpa using hi
   clear hz hlp hk hk5 ht5 hi
   go_wp2_with fail
   refine bodyPost_ret (results_at_two rfl _ (B + 3) _ _ rfl (fill9 HL10.out.z _ _ _ _ _ _ _ _ _) Tryz.underlying27 rfl (by kernel_rfl) _ rfl) rfl ?_
   exact ⟨{ x with alg := R.alg, rcs := [⟨1, 0, 0, t4, [], [], 0, [], []⟩] }, .slice (some ⟨G3, 0, none⟩) 1 1, by rw [HE.out, HZE.out]; rfl, ty9 HR10.out _ _ _ _ _ _ _ _ _, by rw [HBB.out]; exact below9 HL10.out.be (show B ≤ B + 3 by omega) _ _ _ _ _ _ _ _ _, fun h => by rw [HE.out, HZE.out] at h; cases h⟩
  case pos =>
  have f2 : ((t5.length : Int) != R.iv) = false := by simpa using hi
  by_cases hct : (x.cipher.length : Int) < R.tag
  case pos =>
   have hz : E = 9 := by rw [HEL.out, hlp, if_pos (.inr (.inr hct))]
   have HZE := hid hz
   clear hz hlp hk hk5 ht5 hi
   go_wp2_with fail
   refine bodyPost_ret (results_at_two rfl _ (B + 3) _ _ rfl (fill9 HL10.out.z _ _ _ _ _ _ _ _ _) Tryz.underlying27 rfl (by kernel_rfl) _ rfl) rfl ?_
   exact ⟨{ x with alg := R.alg, rcs := [⟨1, 0, 0, t4, [], [], 0, [], []⟩] }, .slice (some ⟨G3, 0, none⟩) 1 1, by rw [HE.out, HZE.out]; rfl, ty9 HR10.out _ _ _ _ _ _ _ _ _, by rw [HBB.out]; exact below9 HL10.out.be (show B ≤ B + 3 by omega) _ _ _ _ _ _ _ _ _, fun h => by rw [HE.out, HZE.out] at h; cases h⟩
  case neg =>
  rw [if_neg (by have := HK5.out; omega)] at hlp
  have HLQ := hid hlp
  have hct' : R.tag ≤ (x.cipher.length : Int) := by omega
  obtain ⟨nn, hnn⟩ : ∃ q, x.cipher.length - R.tag.toNat = q := ⟨_, rfl⟩
  have ht0 : 0 ≤ R.tag := HSD.out.2.2.2.1
  have e1 : (x.cipher.length : Int) - R.tag = (nn : Int) := by omega
  have e2 : IntKind.i64.wrap (nn : Int) = (nn : Int) := Co.wrap_fit nn (by have := HLN.out.2.1; unfold maxLen; omega)
  have e3 : (0 : Int) ≤ (nn : Int) := by omega
  have e4 : (nn : Int) ≤ (x.cipher.length : Int) := by omega
  have e5 : nn ≤ x.cipher.length := by omega
  rw [hnn] at HLQ
  have ex8 : (bs x.cipher).extract nn x.cipher.length = bs (x.cipher.drop nn) := by
   refine tl_inj ?_
   rw [Co.tl_extract, bs_list, bs_list]
   rw [List.take_of_length_le (by rw [List.length_drop]; exact nle _)]
  have ex7 : (bs x.cipher).extract 0 nn = bs (x.cipher.take nn) := by
   refine tl_inj ?_
   rw [Co.tl_extract, bs_list, bs_list, List.drop_zero, Nat.sub_zero]
  have p6 := HL10.out.x.zy 6 _ rfl
  have p7 := HL10.out.x.zy 7 _ rfl
  have p8 := HL10.out.x.zy 8 _ rfl
  clear hlp hk hk5 hi hnn ht0 hct'
  go_upto_region 25 with fail
  have hset := ((HL10.out.setX 6 (.string ⟨t5.toArray⟩)).setX 8 (.string (bs (x.cipher.drop nn)))).setX 7 (.string (bs (x.cipher.take nn)))
  have hBG : B ≠ G2 ∧ B ≠ G3 := ⟨by have := HG8.out; omega, by have := HG8.out; omega⟩
  have hD11 := ((HD10.out.other B 6 (.string ⟨t5.toArray⟩) (.inl hBG.1)).other B 8 (.string (bs (x.cipher.drop nn))) (.inl hBG.1)).other B 7 (.string (bs (x.cipher.take nn))) (.inl hBG.1)
  have hR11 := ((HR10.out.set B 6 (.string ⟨t5.toArray⟩) hBG.2).set B 8 (.string (bs (x.cipher.drop nn))) hBG.2).set B 7 (.string (bs (x.cipher.take nn))) hBG.2
  obtain ⟨w11, hw11⟩ : ∃ q, ((w10.setCell ⟨B, 6, none⟩ (.string ⟨t5.toArray⟩)).setCell ⟨B, 8, none⟩ (.string (bs (x.cipher.drop nn)))).setCell ⟨B, 7, none⟩ (.string (bs (x.cipher.take nn))) = q := ⟨_, rfl⟩
  rw [hw11] at hset hD11 hR11
  try rw [hw11]
  have HL11 : Hid (Lw w w11 B [.int .i64 x.format, .int .i64 R.alg, .slice (some ⟨G3, 0, none⟩) 1 1, .string (bs x.header), .string (bs x.loose), .string (bs x.aad), .string (bs t5), .string (bs (x.cipher.take nn)), .string (bs (x.cipher.drop nn))] la wa lb wb) := hset
  have HR11 := hid hR11
  have HD11 := hid hD11
  clear c0 z0 y0 c1 z1 y1 c2 z2 y2 c3 z3 y3 c4 z4 y4 c5 z5 y5 c6 z6 y6 c7 z7 y7 c8 z8 y8 g0 g2 r2 r3 p6 p7 p8 ex7 ex8 hw11 hset hD11 hR11 e1 e3 e4 e5 s7 s8
  have r2 := HD11.out.z 2 _ rfl
  obtain ⟨c0, c1, c2, c3, c4, c5, c6, c7, c8⟩ := HL11.out.x.c9
  obtain ⟨z0, z1, z2, z3, z4, z5, z6, z7, z8⟩ := HL11.out.z.c9
  obtain ⟨y0, y1, y2, y3, y4, y5, y6, y7, y8⟩ := HL11.out.z.f9
  by_cases h7 : 70000 < nn
  ·have hz : E = 10 := by rw [HEL.out, HLQ.out, if_pos (.inl h7)]
   have HZE := hid hz
   have e7 : (70000 : Int) < (nn : Int) := by omega
   clear hz h7
   go_wp2_with fail
   refine bodyPost_ret (results_at_two rfl _ (B + 3) _ _ rfl (fill9 HL11.out.z _ _ _ _ _ _ _ _ _) Tryz.underlying27 rfl (by kernel_rfl) _ rfl) rfl ?_
   exact ⟨{ x with alg := R.alg, rcs := [⟨1, 0, 0, t4, [], [], 0, [], []⟩], iv := t5, cipher := x.cipher.take nn, tag := x.cipher.drop nn }, .slice (some ⟨G3, 0, none⟩) 1 1, by rw [HE.out, HZE.out]; rfl, ty9 HR11.out _ _ _ _ _ _ _ _ _, by rw [HBB.out]; exact below9 HL11.out.be (show B ≤ B + 3 by omega) _ _ _ _ _ _ _ _ _, fun h => by rw [HE.out, HZE.out] at h; cases h⟩
  have e7 : ¬ (70000 : Int) < (nn : Int) := by omega
  by_cases h6 : 65536 ≤ nn
  ·have e6 : (65536 : Int) ≤ (nn : Int) := by omega
   by_cases h13 : R.iv = 13
   ·have hz : E = 10 := by rw [HEL.out, HLQ.out, if_pos (.inr ⟨h13, h6⟩)]
    have HZE := hid hz
    have f13 : (R.iv == 13) = true := by simpa using h13
    clear hz h7 h6 h13
    go_wp2_with fail
    refine bodyPost_ret (results_at_two rfl _ (B + 3) _ _ rfl (fill9 HL11.out.z _ _ _ _ _ _ _ _ _) Tryz.underlying27 rfl (by kernel_rfl) _ rfl) rfl ?_
    exact ⟨{ x with alg := R.alg, rcs := [⟨1, 0, 0, t4, [], [], 0, [], []⟩], iv := t5, cipher := x.cipher.take nn, tag := x.cipher.drop nn }, .slice (some ⟨G3, 0, none⟩) 1 1, by rw [HE.out, HZE.out]; rfl, ty9 HR11.out _ _ _ _ _ _ _ _ _, by rw [HBB.out]; exact below9 HL11.out.be (show B ≤ B + 3 by omega) _ _ _ _ _ _ _ _ _, fun h => by rw [HE.out, HZE.out] at h; cases h⟩
   ·have hlp : lenP x.format (numF x.format v1.num) ps x.cipher x.tag = (0, t5, x.cipher.take nn, x.cipher.drop nn) := by rw [HLQ.out, if_neg (by omega)]
    have hz : E = 0 := by rw [HEL.out, hlp]
    have HZE := hid hz
    have HOK : Hid ({ x with alg := R.alg, rcs := [⟨1, 0, 0, t4, [], [], 0, [], []⟩], iv := t5, cipher := x.cipher.take nn, tag := x.cipher.drop nn } = lastV x ps) := by show _ = _; rw [HVL.out, hlp]
    have f13 : (R.iv == 13) = false := by simpa using h13
    clear hz h7 h6 h13 hlp
    go_wp2_with fail
    refine bodyPost_ret (results_at_two rfl _ (B + 3) _ _ rfl (fill9 HL11.out.z _ _ _ _ _ _ _ _ _) Tryz.underlying27 rfl (by kernel_rfl) _ rfl) rfl ?_
    exact ⟨{ x with alg := R.alg, rcs := [⟨1, 0, 0, t4, [], [], 0, [], []⟩], iv := t5, cipher := x.cipher.take nn, tag := x.cipher.drop nn }, .slice (some ⟨G3, 0, none⟩) 1 1, by rw [HE.out, HZE.out]; rfl, ty9 HR11.out _ _ _ _ _ _ _ _ _, by rw [HBB.out]; exact below9 HL11.out.be (show B ≤ B + 3 by omega) _ _ _ _ _ _ _ _ _, fun h => by exact HOK.out⟩
  ·have e6 : ¬ (65536 : Int) ≤ (nn : Int) := by omega
   have hlp : lenP x.format (numF x.format v1.num) ps x.cipher x.tag = (0, t5, x.cipher.take nn, x.cipher.drop nn) := by rw [HLQ.out, if_neg (by omega)]
   have hz : E = 0 := by rw [HEL.out, hlp]
   have HZE := hid hz
   have HOK : Hid ({ x with alg := R.alg, rcs := [⟨1, 0, 0, t4, [], [], 0, [], []⟩], iv := t5, cipher := x.cipher.take nn, tag := x.cipher.drop nn } = lastV x ps) := by show _ = _; rw [HVL.out, hlp]
   clear hz h7 h6 hlp
   go_wp2_with fail
   refine bodyPost_ret (results_at_two rfl _ (B + 3) _ _ rfl (fill9 HL11.out.z _ _ _ _ _ _ _ _ _) Tryz.underlying27 rfl (by kernel_rfl) _ rfl) rfl ?_
   exact ⟨{ x with alg := R.alg, rcs := [⟨1, 0, 0, t4, [], [], 0, [], []⟩], iv := t5, cipher := x.cipher.take nn, tag := x.cipher.drop nn }, .slice (some ⟨G3, 0, none⟩) 1 1, by rw [HE.out, HZE.out]; rfl, ty9 HR11.out _ _ _ _ _ _ _ _ _, by rw [HBB.out]; exact below9 HL11.out.be (show B ≤ B + 3 by omega) _ _ _ _ _ _ _ _ _, fun h => by exact HOK.out⟩
end Ce
end Go.Proofs.YtikgonlhdkknkaaGreatDoor
namespace Go.Proofs.YtikgonlhdkknkaaGreatDoor
open Go.RowKit
namespace Ce
open Co (Am Ra up rcells rv UT DecR decL decE enc Its holds need tell okA SrO ra0 rcell_atO ra_ne bhc)
open Dr (Rs)
theorem getD_up {l : List Am} {j : Nat} (h : j < l.length) : (l.map up).getD j ra0 = up (l.getD j a0) := by
 rw [List.getD, List.getD, List.getElem?_map, List.getElem?_eq_getElem h]
 rfl
theorem heads_len (Ps : List (List Am)) : (heads Ps).length = Ps.length := by rw [heads, List.length_map]
theorem twos_len : ∀ (l : List Am), (twos l).length ≤ l.length
 | [] => nle _
 | [_] => by simp [twos]
 | a :: b :: r => by
  have := twos_len r
  rw [twos, lco, lco, lco]
  omega
theorem heads_mem {Ps : List (List Am)} (h : ∀ P ∈ Ps, P ≠ []) {a : Am} (ha : a ∈ heads Ps) : a ∈ Ps.flatten := by
 rw [heads] at ha
 obtain ⟨P, hP, rfl⟩ := List.mem_map.1 ha
 refine List.mem_flatten.2 ⟨P, hP, ?_⟩
 have := h P hP
 cases P with
 | nil => exact absurd rfl this
 | cons a P => exact List.mem_cons_self ..
theorem Fo.ne {D : Nat} {Ps : List (List Am)} {Bs : List (List UInt8)} (h : Fo D Ps Bs) : ∀ P ∈ Ps, P ≠ [] := by
 induction h with
 | nil => intro P hP; simp at hP
 | @cons P B Ps Bs hP h ih =>
  intro Q hQ
  rcases List.mem_cons.1 hQ with rfl | hQ
  ·exact hP.ne
  ·exact ih Q hQ
theorem mapP {D : Nat} {P : List Am} {B : List UInt8} (h : Part D P B) (hk : (P.headD a0).kind = 5) : ∃ a Qs Cs, P = a :: Qs.flatten ∧ Fo D Qs Cs ∧ Qs.length = 2 * a.num ∧ prs P = twos (heads Qs) ∧ (prs P).length ≤ P.length ∧ ∀ p ∈ prs P, p.2 ∈ P := by
 cases P with
 | nil => exact absurd rfl h.ne
 | cons a r =>
  have hk' : a.kind = 5 := hk
  have hh : holds a.kind = true := by rw [hk']; rfl
  obtain ⟨Qs, Cs, hF, hr, hn, -⟩ := h.openB hh
  have hn2 : need a = 2 * a.num := by simp [need, hk']
  have hp : prs (a :: r) = twos (heads Qs) := by
   have h1 := (hF.fits []).2.2
   rw [List.append_nil] at h1
   rw [prs]
   show twos (heads (pts (hld a) r)) = _
   rw [hld_node hh, ← hn, hr, h1]
  have hle : Qs.length ≤ Qs.flatten.length := hF.len_le
  refine ⟨a, Qs, Cs, by rw [hr], hF, by rw [hn, hn2], hp, ?_, ?_⟩
  ·rw [hp, lco, hr]
   have := twos_len (heads Qs)
   rw [heads_len] at this
   omega
  ·intro p hpm
   rw [hp] at hpm
   rw [hr]
   exact List.mem_cons_of_mem _ (heads_mem hF.ne (twos_mem _ _ hpm).2)
theorem dec_ok {S : List UInt8} {d i b ro : Int} {r : Rs (List Am)} (h : DecR S d i b ro r) (h0 : decE r = 0) : ∃ l, r = .ok l := by
 cases r with
 | ok l => exact ⟨l, rfl⟩
 | no e p f =>
  cases hm : Co.mayOk d i b ro with
  | false => cases h.2 hm; cases h0
  | true => exact absurd h0 (Co.Runs.ne (h.1 hm) e p f rfl)
theorem own_sc {w : World} {T n : Nat} {v : Value} {L : List Ra} (ho : w.ownsRow T 60 3 v n (rcells L)) (hn : L.length = n) : Sc w v L := by
 subst hn
 have h := ho
 rcases ho.2 with ⟨rfl, h0⟩ | ⟨g, cap, cur, rfl, _, _, hc, _⟩
 ·exact ⟨none, 0, by rw [h0], by omega, fun hl => absurd (List.length_eq_zero_iff.1 h0) hl⟩
 ·exact ⟨some ⟨g, 0, none⟩, cap, rfl, hc, fun _ => ⟨g, 0, rfl, At.ofOwnN h, (h.lt g rfl).2⟩⟩
theorem lay3 {S : List UInt8} {l : List Am} {d : Nat} {Ps : List (List Am)} {Bs : List (List UInt8)} (h : Laid S l d Ps Bs) (ha : Apart S l d) (hk : (l.getD 2 a0).kind = 2) :
  ∃ R, l = [l.getD 0 a0, l.getD 1 a0, l.getD 2 a0] ++ (partN l 1 ++ R) ∧ R ≠ [] ∧ R.headD a0 = headN l 2 ∧ (wantN l = 4 → (headN l 2).kind = 2 → ∃ R2, R = headN l 2 :: headN l 3 :: R2) := by
 have h1w : 3 ≤ wantN l := by rw [wantN]; split <;> omega
 have hpN : ∀ j, partN l j = Ps.getD j [] := fun j => by rw [partN, h.parts]
 have hp0 := h.part ha 0 (by omega)
 have hp2 := h.part ha 2 (by omega)
 have hl2 : l.getD 2 a0 = (partN l 0).headD a0 := by
  have h9 := head_cons hp0.one.ne
  have h8 := h.eq
  have h7 : Ps.flatten = Ps.getD 0 [] ++ (Ps.tail).flatten := by
   cases Ps with
   | nil => have := h.cnt; rw [List.length_nil] at this; omega
   | cons P Ps => rfl
  rw [h7, ← hpN 0, h9] at h8
  exact (congrArg (fun x => x.getD 2 a0) h8).trans rfl
 have hb0 := (hp0.one.bytes (by rw [← hl2]; exact hk)).1
 rw [← hl2, hpN 0] at hb0
 have hn2 := hp2.one.ne
 have e := h.eq
 by_cases hw : wantN l = 3
 ·rw [getD_two (Ps := Ps) (by rw [h.cnt, hw]), hb0] at e
  refine ⟨Ps.getD 2 [], ?_, by rw [← hpN]; exact hn2, by rw [← hpN]; rfl, fun h4 => by omega⟩
  refine e.trans ?_
  rw [hpN 1]
  simp
 ·have hw4 : wantN l = 4 := by
   rw [wantN] at hw ⊢
   by_cases h16 : (l.getD 0 a0).num = 16
   ·rw [if_pos h16] at hw; exact absurd rfl hw
   ·rw [if_neg h16]
  have hp3 := h.part ha 3 (by omega)
  rw [getD_two4 (Ps := Ps) (by rw [h.cnt, hw4]), hb0] at e
  refine ⟨Ps.getD 2 [] ++ Ps.getD 3 [], ?_, ?_, ?_, fun _ hk2 => ?_⟩
  ·refine e.trans ?_
   rw [hpN 1]
   simp
  ·rw [← hpN]; intro h0; exact hn2 (List.append_eq_nil_iff.1 h0).1
  ·rw [← hpN 2, headN]
   cases hq : partN l 2 with
   | nil => exact absurd hq hn2
   | cons a r => rfl
  ·have hb2 := (hp2.one.bytes hk2).1
   have h33 := head_cons hp3.one.ne
   rw [← hpN 2, ← hpN 3, hb2, h33]
   exact ⟨_, rfl⟩
theorem at3 {l P R : List Am} {x y z : Am} (h : l = [x, y, z] ++ (P ++ R)) (hP : P ≠ []) : l.getD 3 a0 = P.headD a0 ∧ 3 < l.length := by
 cases P with
 | nil => exact absurd rfl hP
 | cons a P =>
  subst h
  exact ⟨rfl, by simp⟩
theorem getD_app {A R : List Am} (hR : R ≠ []) : (A ++ R).getD A.length a0 = R.headD a0 := by
 cases R with
 | nil => exact absurd rfl hR
 | cons a R => simp [List.getD]
theorem atP {l P R : List Am} {x y z : Am} (h : l = [x, y, z] ++ (P ++ R)) (hR : R ≠ []) : l.getD (3 + P.length) a0 = R.headD a0 ∧ 3 + P.length < l.length := by
 have h1 := List.length_pos_iff.2 hR
 have h2 : l = ([x, y, z] ++ P) ++ R := by rw [h, List.append_assoc]
 have h3 : ([x, y, z] ++ P).length = 3 + P.length := by rw [lap]; rfl
 have h4 := getD_app (A := [x, y, z] ++ P) hR
 rw [h3, ← h2] at h4
 refine ⟨h4, ?_⟩
 rw [h2, lap, h3]
 omega
theorem atP1 {l P R : List Am} {x y z u v : Am} (h : l = [x, y, z] ++ (P ++ (u :: v :: R))) : l.getD (3 + P.length + 1) a0 = v ∧ 3 + P.length + 1 < l.length := by
 have h2 : l = [x, y, z] ++ ((P ++ [u]) ++ (v :: R)) := by rw [h]; simp
 have h3 := atP h2 (by simp)
 rw [lap, show [u].length = 1 from rfl, ← Nat.add_assoc] at h3
 exact h3
theorem SrO.setS {w : World} {v : Value} {l : List Ra} {G j : Nat} {s s' : ByteArray} (u : Value) (h : SrO w v l) (h1 : w.cell? ⟨G, j + 1, none⟩ = some (.string s)) (h0 : w.cell? ⟨G, j, none⟩ = some (.string s')) : SrO (w.setCell ⟨G, j + 1, none⟩ u) v l := by
 obtain ⟨a, cap, hv, hx⟩ := h
 refine ⟨a, cap, hv, fun hl => ?_⟩
 obtain ⟨g, o, h2, h3, h4⟩ := hx hl
 refine ⟨g, o, h2, h3.other G (j + 1) u ?_, by rw [Co.set_size]; exact h4⟩
 by_cases hg : G = g
 case neg => exact .inl hg
 subst hg
 refine .inr (Decidable.byContradiction fun hn => ?_)
 rw [Co.rcells_length] at hn
 obtain ⟨i, r, hi, hr, he⟩ : ∃ i r, i < l.length ∧ r < 3 ∧ j + 1 = o + i * 3 + r := ⟨(j + 1 - o) / 3, (j + 1 - o) % 3, by omega, by omega, by omega⟩
 have hc := rcell_atO h3 i hi
 rcases (by omega : r = 0 ∨ r = 1 ∨ r = 2) with rfl | rfl | rfl
 ·have h5 := hc.cell 0 _ rfl
  rw [show o + i * 3 + 0 = j + 1 by omega, h1] at h5
  cases h5
 ·have h5 := hc.cell 1 _ rfl
  rw [show o + i * 3 + 1 = j + 1 by omega, h1] at h5
  cases h5
 ·have h5 := hc.cell 1 _ rfl
  rw [show o + i * 3 + 1 = j by omega, h0] at h5
  cases h5
theorem Hv.setS {w : World} {v : Value} {ps : List (Am × Am)} {G j : Nat} {s s' : ByteArray} (u : Value) (h : Hv w v ps) (h1 : w.cell? ⟨G, j + 1, none⟩ = some (.string s)) (h0 : w.cell? ⟨G, j, none⟩ = some (.string s')) : Hv (w.setCell ⟨G, j + 1, none⟩ u) v ps := by
 obtain ⟨vl, vv, hv, h2, h3⟩ := h
 exact ⟨vl, vv, hv, SrO.setS u h2 h1 h0, SrO.setS u h3 h1 h0⟩
theorem SrO.setL {w : World} {v : Value} {l : List Ra} {G j : Nat} {a : Option Addr} {n c : Nat} (u : Value) (h : SrO w v l) (h1 : w.cell? ⟨G, j, none⟩ = some (.slice a n c)) : SrO (w.setCell ⟨G, j, none⟩ u) v l := by
 obtain ⟨a, cap, hv, hx⟩ := h
 refine ⟨a, cap, hv, fun hl => ?_⟩
 obtain ⟨g, o, h2, h3, h4⟩ := hx hl
 refine ⟨g, o, h2, h3.other G j u ?_, by rw [Co.set_size]; exact h4⟩
 by_cases hg : G = g
 case neg => exact .inl hg
 subst hg
 refine .inr (Decidable.byContradiction fun hn => ?_)
 rw [Co.rcells_length] at hn
 obtain ⟨i, r, hi, hr, he⟩ : ∃ i r, i < l.length ∧ r < 3 ∧ j = o + i * 3 + r := ⟨(j - o) / 3, (j - o) % 3, by omega, by omega, by omega⟩
 have hc := rcell_atO h3 i hi
 rcases (by omega : r = 0 ∨ r = 1 ∨ r = 2) with rfl | rfl | rfl
 ·have h5 := hc.cell 0 _ rfl
  rw [← he, h1] at h5
  cases h5
 ·have h5 := hc.cell 1 _ rfl
  rw [← he, h1] at h5
  cases h5
 ·have h5 := hc.cell 2 _ rfl
  rw [← he, h1] at h5
  cases h5
theorem Hv.setL {w : World} {v : Value} {ps : List (Am × Am)} {G j : Nat} {a : Option Addr} {n c : Nat} (u : Value) (h : Hv w v ps) (h1 : w.cell? ⟨G, j, none⟩ = some (.slice a n c)) : Hv (w.setCell ⟨G, j, none⟩ u) v ps := by
 obtain ⟨vl, vv, hv, h2, h3⟩ := h
 exact ⟨vl, vv, hv, SrO.setL u h2 h1, SrO.setL u h3 h1⟩
theorem fill2 {w : World} {T : Nat} {z0 z1 : Value} (h : At w T 0 [z0, z1]) (v0 v1 : Value) : At ((w.setCell ⟨T, 0, none⟩ v0).setCell ⟨T, 1, none⟩ v1) T 0 [v0, v1] := (h.set 0 v0).set 1 v1
theorem Ty.fill9 {w : World} {v : Value} {l : List Rp} {T : Nat} {i0 i1 : Int} {a : Option Addr} {n c : Nat} {s3 s4 s5 s6 s7 s8 : ByteArray} (h : Ty w v l) (hz : At w T 0 [.int .i64 i0, .int .i64 i1, .slice a n c, .string s3, .string s4, .string s5, .string s6, .string s7, .string s8]) (v0 v1 v2 v3 v4 v5 v6 v7 v8 : Value) : Ty ((((((((((w.setCell ⟨T, 0, none⟩ v0).setCell ⟨T, 1, none⟩ v1).setCell ⟨T, 2, none⟩ v2).setCell ⟨T, 3, none⟩ v3).setCell ⟨T, 4, none⟩ v4).setCell ⟨T, 5, none⟩ v5).setCell ⟨T, 6, none⟩ v6).setCell ⟨T, 7, none⟩ v7).setCell ⟨T, 8, none⟩ v8)) v l := by
 obtain ⟨a, c, hv, hx⟩ := h
 refine ⟨a, c, hv, fun hl => ?_⟩
 obtain ⟨g, o, h2, h3, h4⟩ := hx hl
 have hne : T ≠ g ∨ 9 ≤ o := by
  by_cases hg : T = g
  case neg => exact .inl hg
  subst hg
  refine .inr (Decidable.byContradiction fun hn => ?_)
  cases l with
  | nil => exact absurd rfl hl
  | cons r l =>
   have c0 := h3.cell 0 (.int .i64 r.way) rfl
   have c1 := h3.cell 1 (.int .i64 r.size) rfl
   have c2 := h3.cell 2 (.int .i64 r.kind) rfl
   have z2 := hz.cell 2 _ rfl
   have z3 := hz.cell 3 _ rfl
   have z4 := hz.cell 4 _ rfl
   have z5 := hz.cell 5 _ rfl
   have z6 := hz.cell 6 _ rfl
   have z7 := hz.cell 7 _ rfl
   have z8 := hz.cell 8 _ rfl
   rcases (by omega : o = 0 ∨ o = 1 ∨ o = 2 ∨ o = 3 ∨ o = 4 ∨ o = 5 ∨ o = 6 ∨ o = 7 ∨ o = 8) with rfl | rfl | rfl | rfl | rfl | rfl | rfl | rfl | rfl
   ·cases c2.symm.trans z2
   ·cases c1.symm.trans z2
   ·cases c0.symm.trans z2
   ·cases c0.symm.trans z3
   ·cases c0.symm.trans z4
   ·cases c0.symm.trans z5
   ·cases c0.symm.trans z6
   ·cases c0.symm.trans z7
   ·cases c0.symm.trans z8
 have H : ∀ {w : World} (j : Nat) (u : Value), j < 9 → At w g o (rpcells l) → At (w.setCell ⟨T, j, none⟩ u) g o (rpcells l) := fun j u hj ha => ha.other T j u (by rcases hne with h | h; exact .inl h; exact .inr (.inl (by omega)))
 exact ⟨g, o, h2, (H 8 v8 (by decide) (H 7 v7 (by decide) (H 6 v6 (by decide) (H 5 v5 (by decide) (H 4 v4 (by decide) (H 3 v3 (by decide) (H 2 v2 (by decide) (H 1 v1 (by decide) (H 0 v0 (by decide) h3))))))))), by simp only [Co.set_size]; exact h4⟩
theorem rdE_hdE {l : List Am} {H : Rs (List Am)} {c : Int} (h0 : preE l = 0) (h1 : hdE (hdrN l) H = c) (hc : c ≠ 0) : rdE l H = c := by
 have h : itE l H = c := by rw [itE, if_neg (by simp [h0]), if_pos (by rw [h1]; exact hc), h1]
 rw [rdE, if_pos (by rw [h]; exact hc), h]
theorem rdE_posE {l : List Am} {H : Rs (List Am)} {c : Int} (h0 : preE l = 0) (h1 : hdE (hdrN l) H = 0) (h2 : posE l = c) (hc : c ≠ 0) : rdE l H = c := by
 have h : itE l H = c := by rw [itE, if_neg (by simp [h0]), if_neg (by simp [h1]), h2]
 rw [rdE, if_pos (by rw [h]; exact hc), h]
theorem rdE_labE {l : List Am} {H : Rs (List Am)} {c : Int} (h0 : preE l = 0) (h1 : hdE (hdrN l) H = 0) (h2 : posE l = 0) (h3 : labE (prs (prot (hdrN l) H)) (prs (partN l 1)) = c) (hc : c ≠ 0) : rdE l H = c := by
 have h : itE l H = 0 := by rw [itE, if_neg (by simp [h0]), if_neg (by simp [h1]), h2]
 rw [rdE, if_neg (by rw [h]; decide), if_pos (by rw [h3]; exact hc), h3]
def xL (l : List Am) : Ev := ⟨fmtN l, 0, [], hdrN l, looseN l, [], [], (headN l 2).text, tagN l⟩
theorem rdE_lastE {l : List Am} {H : Rs (List Am)} (h0 : preE l = 0) (h1 : hdE (hdrN l) H = 0) (h2 : posE l = 0) (h3 : labE (prs (prot (hdrN l) H)) (prs (partN l 1)) = 0) : rdE l H = lastE (xL l) (psN l H) ∧ (rdE l H = 0 → rdV l H = lastV (xL l) (psN l H)) := by
 have h : itE l H = 0 := by rw [itE, if_neg (by simp [h0]), if_neg (by simp [h1]), h2]
 have h4 : rdE l H = lastE (xL l) (psN l H) := by
  rw [rdE, if_neg (by rw [h]; decide), if_neg (by rw [h3]; decide)]
  rfl
 refine ⟨h4, fun h5 => ?_⟩
 rw [rdV, if_neg (by rw [h5]; decide)]
 rfl
def RetRq (l : List Am) (d i b r : Int) (w : World) (e : Ending) (w' : World) : Prop := ∃ H z v, (preE l = 0 → Hd (hdrN l) d i b r H) ∧ e = .returned (.tuple #[evv z v, .int .i64 (rdE l H)]) ∧ Ty w' v z.rcs ∧ Below w.heap.size w w' ∧ (rdE l H = 0 → z = rdV l H)
structure Jw (w0 w : World) (B : Nat) (d i b r : Int) (cx : List Value) : Prop where
 lm : At w B 0 [.int .i64 d, .int .i64 i, .int .i64 b, .int .i64 r]
 z : At w (B + 1) 0 [.int .i64 0, .int .i64 0, .slice none 0 0, .string ⟨#[]⟩, .string ⟨#[]⟩, .string ⟨#[]⟩, .string ⟨#[]⟩, .string ⟨#[]⟩, .string ⟨#[]⟩]
 x : At w (B + 2) 0 cx
 be : Below B w0 w
 sz : B + 3 ≤ w.heap.size
variable {w0 w w' : World} {B : Nat} {d i b r : Int} {cx : List Value}
theorem Jw.below (h : Jw w0 w B d i b r cx) (hb : Below w.heap.size w w') : Jw w0 w' B d i b r cx := by
 have h1 := h.sz
 have hs := hb.size
 exact ⟨h.lm.below hb (by omega), h.z.below hb (by omega), h.x.below hb (by omega), h.be.trans (hb.mono (by omega)), by omega⟩
theorem Jw.alloc (h : Jw w0 w B d i b r cx) (o : Obj) : Jw w0 (w.alloc o) B d i b r cx := h.below ((Below.refl _ _).alloc (nle _) o)
theorem Jw.setX (h : Jw w0 w B d i b r cx) (j : Nat) (u : Value) : Jw w0 (w.setCell ⟨B + 2, j, none⟩ u) B d i b r (cx.set j u) := by
 have h1 := h.x.set j u
 rw [Nat.zero_add] at h1
 exact ⟨h.lm.other (B + 2) j u (.inl (by omega)), h.z.other (B + 2) j u (.inl (by omega)), h1, h.be.setCell (p := ⟨B + 2, j, none⟩) (show B ≤ B + 2 by omega) u, by rw [Co.set_size]; exact h.sz⟩
theorem Jw.setG (h : Jw w0 w B d i b r cx) (G j : Nat) (u : Value) (hG : B + 3 ≤ G) : Jw w0 (w.setCell ⟨G, j, none⟩ u) B d i b r cx :=
 ⟨h.lm.other G j u (.inl (by omega)), h.z.other G j u (.inl (by omega)), h.x.other G j u (.inl (by omega)), h.be.setCell (p := ⟨G, j, none⟩) (show B ≤ G by omega) u, by rw [Co.set_size]; exact h.sz⟩
structure Pk (w : World) (G8 G12 : Nat) (va vb vc vd : Value) (pa pb : List (Am × Am)) : Prop where
 a : At w G8 0 [va, vb]
 b : At w G12 0 [vc, vd]
 ha : Hv w (.agg #[va, vb]) pa
 hb : Hv w (.agg #[vc, vd]) pb
 la : G8 < w.heap.size
 lb : G12 < w.heap.size
theorem Pk.below {G8 G12 : Nat} {va vb vc vd : Value} {pa pb : List (Am × Am)} (h : Pk w G8 G12 va vb vc vd pa pb) (hb : Below w.heap.size w w') : Pk w' G8 G12 va vb vc vd pa pb :=
 ⟨h.a.below hb h.la, h.b.below hb h.lb, h.ha.below hb, h.hb.below hb, nlt h.la hb.size, nlt h.lb hb.size⟩
theorem Pk.setX {G8 G12 X j : Nat} {va vb vc vd : Value} {pa pb : List (Am × Am)} {s s' : ByteArray} (h : Pk w G8 G12 va vb vc vd pa pb) (u : Value) (h1 : w.cell? ⟨X, j + 1, none⟩ = some (.string s)) (h0 : w.cell? ⟨X, j, none⟩ = some (.string s')) (h8 : X < G8) (h12 : X < G12) : Pk (w.setCell ⟨X, j + 1, none⟩ u) G8 G12 va vb vc vd pa pb :=
 ⟨h.a.other X (j + 1) u (.inl (by omega)), h.b.other X (j + 1) u (.inl (by omega)), h.ha.setS u h1 h0, h.hb.setS u h1 h0, by rw [Co.set_size]; exact h.la, by rw [Co.set_size]; exact h.lb⟩
theorem rread_any (l : List Am) (S : List UInt8) (dd : Nat) (v : Value) (w : World) (d i b r : Int) (hS : Sc w v (l.map up)) (ha : Apart S l dd) :
  Calls Tryz.prog 21 #[v, .agg #[.int .i64 d, .int .i64 i, .int .i64 b, .int .i64 r]] w (RetRq l d i b r w) := by
 have HSC := hid hS
 have HAP := hid ha
 have HK := hid (fun (x : Am) (hx : x ∈ l) => (show x.num < 18446744073709551616 ∧ x.text.length < 18446744073709551616 from ⟨(ha.ok x hx).1, (ha.ok x hx).2.1⟩))
 have hne := ha.one.ne
 obtain ⟨al, cl, rfl, hcl, hal⟩ := hS
 obtain ⟨g, o, rfl, hAt, hg⟩ := hal (by intro h; exact hne (List.map_eq_nil_iff.1 h))
 obtain ⟨n, hn⟩ : ∃ n, l.length = n := ⟨_, rfl⟩
 have hn0 : 0 < n := by rw [← hn]; exact List.length_pos_iff.2 hne
 have hl4 := ha.len
 rw [hn] at hl4
 have HN : Hid (l.length = n ∧ n ≤ 4096) := ⟨hn, hl4⟩
 rw [List.length_map, hn] at HSC ⊢
 have HC := hid (fun (w' : World) (hb : Below w.heap.size w w') (j : Nat) (hj : j < l.length) => by
  have h := (rcell_atO hAt j (by rw [List.length_map]; exact hj)).below hb hg
  rw [getD_up hj] at h
  exact h)
 obtain ⟨x, hxx⟩ : ∃ x, l.getD 0 a0 = x := ⟨_, rfl⟩
 obtain ⟨kx, hkx⟩ : ∃ t, x.kind = t := ⟨_, rfl⟩
 obtain ⟨mx, hmx⟩ : ∃ t, x.num = t := ⟨_, rfl⟩
 have HX : Hid ((l.getD 0 a0).kind = kx ∧ (l.getD 0 a0).num = mx ∧ up (l.getD 0 a0) = ⟨(kx : Int), mx, x.text⟩) := ⟨by rw [hxx, hkx], by rw [hxx, hmx], by rw [hxx, ← hkx, ← hmx]; rfl⟩
 have hJ0 : Jw w (((w.alloc (Obj.cells #[.int .i64 d, .int .i64 i, .int .i64 b, .int .i64 r] 23)).alloc (eoz)).alloc (eoz)) w.heap.size d i b r [.int .i64 0, .int .i64 0, .slice none 0 0, .string ⟨#[]⟩, .string ⟨#[]⟩, .string ⟨#[]⟩, .string ⟨#[]⟩, .string ⟨#[]⟩, .string ⟨#[]⟩] := by
  refine ⟨((At.ofAlloc w #[.int .i64 d, .int .i64 i, .int .i64 b, .int .i64 r] 23).alloc _).alloc _, ?_, ?_, (((Below.refl _ _).alloc (nle _) _).alloc (by simp) _).alloc (by simp; omega) _, by simp⟩
  ·have h := (At.ofAlloc (w.alloc (Obj.cells #[.int .i64 d, .int .i64 i, .int .i64 b, .int .i64 r] 23)) #[.int .i64 0, .int .i64 0, .slice none 0 0, .string ⟨#[]⟩, .string ⟨#[]⟩, .string ⟨#[]⟩, .string ⟨#[]⟩, .string ⟨#[]⟩, .string ⟨#[]⟩] 27).alloc (eoz)
   rw [World.size_alloc] at h
   exact h
  ·have h := At.ofAlloc ((w.alloc (Obj.cells #[.int .i64 d, .int .i64 i, .int .i64 b, .int .i64 r] 23)).alloc (eoz)) #[.int .i64 0, .int .i64 0, .slice none 0 0, .string ⟨#[]⟩, .string ⟨#[]⟩, .string ⟨#[]⟩, .string ⟨#[]⟩, .string ⟨#[]⟩, .string ⟨#[]⟩] 27
   rw [World.size_alloc, World.size_alloc] at h
   exact h
 obtain ⟨B, hB⟩ : ∃ B, w.heap.size = B := ⟨_, rfl⟩
 have HBB := hid hB
 have e0 : (0 : Int) < (n : Int) := by omega
 clear ha hal hAt hg hne hn hl4 hcl hxx hkx hmx
 go_enter Tryz.func21, Tryz.ntmps21
 go_upto_region 2 with fail
 obtain ⟨w0, hw0⟩ : ∃ q, (((w.alloc (Obj.cells #[.int .i64 d, .int .i64 i, .int .i64 b, .int .i64 r] 23)).alloc (eoz)).alloc (eoz)) = q := ⟨_, rfl⟩
 rw [hw0] at hJ0
 try rw [hw0]
 rw [hB] at hJ0
 try rw [hB]
 try rw [show B + 1 + 1 = B + 2 from rfl]
 have HJ0 := hid hJ0
 clear hw0 hJ0 hB
 have HCB := hid (fun (w' : World) (hb : Below B w w') (j : Nat) (hj : j < l.length) => HC.out w' (by rw [HBB.out]; exact hb) j hj)
 have hx := HCB.out w0 HJ0.out.be 0 (by rw [HN.out.1]; exact hn0)
 rw [Nat.zero_mul, Nat.add_zero, HX.out.2.2] at hx
 have n0 := hx.cell 0 _ rfl
 have n1 := hx.cell 1 _ rfl
 rw [Nat.add_zero] at n0
 dsimp only at n0 n1
 clear hx HC
 by_cases h6 : kx = 6
 case neg =>
  have f6b : ((kx : Int) != 6) = true := by simp; omega
  have HE : Hid (preE l = 9) := by show preE l = 9; rw [preE, HX.out.1, if_pos h6]
  have HR : Hid (rdE l (.ok []) = 9) := by show rdE l _ = 9; rw [rdE, itE, if_pos (by rw [if_pos (by rw [HE.out]; decide), HE.out]; decide), if_pos (by rw [HE.out]; decide), HE.out]
  clear h6
  obtain ⟨c0, c1, c2, c3, c4, c5, c6, c7, c8⟩ := HJ0.out.x.c9
  obtain ⟨z0, z1, z2, z3, z4, z5, z6, z7, z8⟩ := HJ0.out.z.c9
  obtain ⟨y0, y1, y2, y3, y4, y5, y6, y7, y8⟩ := HJ0.out.z.f9
  go_wp2_with fail
  refine bodyPost_ret (results_at_two rfl _ (B + 1) [.int .i64 0, .int .i64 0, .slice none 0 0, .string ⟨#[]⟩, .string ⟨#[]⟩, .string ⟨#[]⟩, .string ⟨#[]⟩, .string ⟨#[]⟩, .string ⟨#[]⟩] _ rfl (fill9 HJ0.out.z _ _ _ _ _ _ _ _ _) Tryz.underlying27 rfl (by kernel_rfl) _ rfl) rfl ?_
  exact ⟨.ok [], Ev0, .slice none 0 0, (fun h => (by rw [HE.out] at h; cases h)), by rw [HR.out]; rfl, ⟨none, 0, rfl, fun h => absurd rfl h⟩, by rw [HBB.out]; exact below9 HJ0.out.be (show B ≤ B + 1 by omega) _ _ _ _ _ _ _ _ _, fun h => by rw [HR.out] at h; cases h⟩
 subst h6
 rw [show ((6 : Nat) : Int) = (6 : Int) from rfl] at n0
 go_upto_block 0 with fail
 go_cut [7] from 22 to 32 (fun v7 wx => ∃ (F : Int) (W : Nat), v7 = .int .u64 (W : Int) ∧ Hid ((F = 5 ∧ W = 3 ∨ F = 6 ∧ W = 4) ∧ fmtN l = F ∧ wantN l = W ∧ (mx = 16 ∨ mx = 17)) ∧ Hid (Jw w wx B d i b r [.int .i64 F, .int .i64 0, .slice none 0 0, .string ⟨#[]⟩, .string ⟨#[]⟩, .string ⟨#[]⟩, .string ⟨#[]⟩, .string ⟨#[]⟩, .string ⟨#[]⟩]))
 case first =>
  by_cases h16 : mx = 16
  case pos =>
   have f16 : ((mx : Int) == 16) = true := by simp; omega
   have HW : Hid (fmtN l = 5 ∧ wantN l = 3) := ⟨by rw [fmtN, HX.out.2.1, if_pos h16], by rw [wantN, HX.out.2.1, if_pos h16]⟩
   have HMX : Hid (mx = 16 ∨ mx = 17) := .inl h16
   have HJ1 := hid (HJ0.out.setX 0 (.int .i64 5))
   have c0 := HJ0.out.x.z 0 _ rfl
   have y0 := HJ0.out.x.zy 0 _ rfl
   clear h16
   go_wp2_with fail
   go_meet
   case rel => exact ⟨5, 3, rfl, ⟨.inl ⟨rfl, rfl⟩, HW.out.1, HW.out.2, HMX.out⟩, HJ1⟩
  case neg =>
  have f16 : ((mx : Int) == 16) = false := by simp; omega
  by_cases h17 : mx = 17
  case pos =>
   have f17 : ((mx : Int) == 17) = true := by simp; omega
   have HW : Hid (fmtN l = 6 ∧ wantN l = 4) := ⟨by rw [fmtN, HX.out.2.1, if_neg h16], by rw [wantN, HX.out.2.1, if_neg h16]⟩
   have HMX : Hid (mx = 16 ∨ mx = 17) := .inr h17
   have HJ1 := hid (HJ0.out.setX 0 (.int .i64 6))
   have c0 := HJ0.out.x.z 0 _ rfl
   have y0 := HJ0.out.x.zy 0 _ rfl
   clear h16 h17
   go_wp2_with fail
   go_meet
   case rel => exact ⟨6, 4, rfl, ⟨.inr ⟨rfl, rfl⟩, HW.out.1, HW.out.2, HMX.out⟩, HJ1⟩
  case neg =>
  have f17 : ((mx : Int) == 17) = false := by simp; omega
  have HE : Hid (preE l = 11) := by show preE l = 11; rw [preE, HX.out.1, HX.out.2.1, if_neg (by decide), if_pos ⟨h16, h17⟩]
  have HR : Hid (rdE l (.ok []) = 11) := by show rdE l _ = 11; rw [rdE, itE, if_pos (by rw [if_pos (by rw [HE.out]; decide), HE.out]; decide), if_pos (by rw [HE.out]; decide), HE.out]
  clear h16 h17
  obtain ⟨c0, c1, c2, c3, c4, c5, c6, c7, c8⟩ := HJ0.out.x.c9
  obtain ⟨z0, z1, z2, z3, z4, z5, z6, z7, z8⟩ := HJ0.out.z.c9
  obtain ⟨y0, y1, y2, y3, y4, y5, y6, y7, y8⟩ := HJ0.out.z.f9
  go_wp2_with fail
  refine bodyPost_ret (results_at_two rfl _ (B + 1) [.int .i64 0, .int .i64 0, .slice none 0 0, .string ⟨#[]⟩, .string ⟨#[]⟩, .string ⟨#[]⟩, .string ⟨#[]⟩, .string ⟨#[]⟩, .string ⟨#[]⟩] _ rfl (fill9 HJ0.out.z _ _ _ _ _ _ _ _ _) Tryz.underlying27 rfl (by kernel_rfl) _ rfl) rfl ?_
  exact ⟨.ok [], Ev0, .slice none 0 0, (fun h => (by rw [HE.out] at h; cases h)), by rw [HR.out]; rfl, ⟨none, 0, rfl, fun h => absurd rfl h⟩, by rw [HBB.out]; exact below9 HJ0.out.be (show B ≤ B + 1 by omega) _ _ _ _ _ _ _ _ _, fun h => by rw [HR.out] at h; cases h⟩
 case rest =>
 obtain ⟨F, W, rfl, HFW, HJ1⟩ := hcut
 clear n0 n1
 have hi1 := two_atoms HAP.out.one (by rw [HX.out.1])
 have h1n : (1 : Int) < (n : Int) := by have := HN.out.1; omega
 obtain ⟨ky, hky⟩ : ∃ t, (l.getD 1 a0).kind = t := ⟨_, rfl⟩
 obtain ⟨my, hmy⟩ : ∃ t, (l.getD 1 a0).num = t := ⟨_, rfl⟩
 have hy := HCB.out _ HJ1.out.be 1 hi1
 rw [up, hky, hmy, Nat.one_mul] at hy
 have y0 := hy.cell 0 _ rfl
 have y1 := hy.cell 1 _ rfl
 rw [Nat.add_zero] at y0
 dsimp only at y0 y1
 have HY : Hid ((l.getD 1 a0).kind = ky ∧ (l.getD 1 a0).num = my) := ⟨hky, hmy⟩
 have HPRE : Hid (preE l = if ky ≠ 4 ∨ my ≠ W then 9 else if (l.getD 2 a0).kind ≠ 2 then 9 else 0) := by
  show preE l = _
  rw [preE, HX.out.1, HX.out.2.1, HFW.out.2.2.1, hky, hmy, if_neg (by decide), if_neg (by have := HFW.out.2.2.2; omega)]
 clear hy hky hmy hi1
 by_cases h4 : ky = 4
 case neg =>
  have f4 : ((ky : Int) != 4) = true := by simp; omega
  have HE : Hid (preE l = 9) := by show preE l = 9; rw [HPRE.out, if_pos (.inl h4)]
  have HR : Hid (rdE l (.ok []) = 9) := by show rdE l _ = 9; rw [rdE, itE, if_pos (by rw [if_pos (by rw [HE.out]; decide), HE.out]; decide), if_pos (by rw [HE.out]; decide), HE.out]
  clear h4
  obtain ⟨c0, c1, c2, c3, c4, c5, c6, c7, c8⟩ := HJ1.out.x.c9
  obtain ⟨z0, z1, z2, z3, z4, z5, z6, z7, z8⟩ := HJ1.out.z.c9
  obtain ⟨y0, y1, y2, y3, y4, y5, y6, y7, y8⟩ := HJ1.out.z.f9
  go_wp2_with fail
  refine bodyPost_ret (results_at_two rfl _ (B + 1) [.int .i64 F, .int .i64 0, .slice none 0 0, .string ⟨#[]⟩, .string ⟨#[]⟩, .string ⟨#[]⟩, .string ⟨#[]⟩, .string ⟨#[]⟩, .string ⟨#[]⟩] _ rfl (fill9 HJ1.out.z _ _ _ _ _ _ _ _ _) Tryz.underlying27 rfl (by kernel_rfl) _ rfl) rfl ?_
  exact ⟨.ok [], ⟨F, 0, [], [], [], [], [], [], []⟩, .slice none 0 0, (fun h => (by rw [HE.out] at h; cases h)), by rw [HR.out]; rfl, ⟨none, 0, rfl, fun h => absurd rfl h⟩, by rw [HBB.out]; exact below9 HJ1.out.be (show B ≤ B + 1 by omega) _ _ _ _ _ _ _ _ _, fun h => by rw [HR.out] at h; cases h⟩
 case pos =>
 have f4 : ((ky : Int) != 4) = false := by simp; omega
 by_cases h5 : my = W
 case neg =>
  have f5 : ((my : Int) != (W : Int)) = true := by simp; omega
  have HE : Hid (preE l = 9) := by show preE l = 9; rw [HPRE.out, if_pos (.inr h5)]
  have HR : Hid (rdE l (.ok []) = 9) := by show rdE l _ = 9; rw [rdE, itE, if_pos (by rw [if_pos (by rw [HE.out]; decide), HE.out]; decide), if_pos (by rw [HE.out]; decide), HE.out]
  clear h5 h4
  obtain ⟨c0, c1, c2, c3, c4, c5, c6, c7, c8⟩ := HJ1.out.x.c9
  obtain ⟨z0, z1, z2, z3, z4, z5, z6, z7, z8⟩ := HJ1.out.z.c9
  obtain ⟨y0, y1, y2, y3, y4, y5, y6, y7, y8⟩ := HJ1.out.z.f9
  go_wp2_with fail
  refine bodyPost_ret (results_at_two rfl _ (B + 1) [.int .i64 F, .int .i64 0, .slice none 0 0, .string ⟨#[]⟩, .string ⟨#[]⟩, .string ⟨#[]⟩, .string ⟨#[]⟩, .string ⟨#[]⟩, .string ⟨#[]⟩] _ rfl (fill9 HJ1.out.z _ _ _ _ _ _ _ _ _) Tryz.underlying27 rfl (by kernel_rfl) _ rfl) rfl ?_
  exact ⟨.ok [], ⟨F, 0, [], [], [], [], [], [], []⟩, .slice none 0 0, (fun h => (by rw [HE.out] at h; cases h)), by rw [HR.out]; rfl, ⟨none, 0, rfl, fun h => absurd rfl h⟩, by rw [HBB.out]; exact below9 HJ1.out.be (show B ≤ B + 1 by omega) _ _ _ _ _ _ _ _ _, fun h => by rw [HR.out] at h; cases h⟩
 case pos =>
 have f5 : ((my : Int) != (W : Int)) = false := by simp; omega
 obtain ⟨Ps, Bs, hLd⟩ := laid HAP.out.one HX.out.1 (by rw [HY.out.1, h4]) (by rw [HY.out.2, HFW.out.2.2.1, h5])
 have HLD := hid hLd
 have hl2 : 2 < l.length := by
  have h1 := congrArg List.length hLd.eq
  have h2 := hLd.fo.len_le
  have h3 := hLd.cnt
  have h4 := HFW.out.2.2.1
  have h6 : 3 ≤ W := by have := HFW.out.1; omega
  rw [lco, lco] at h1
  omega
 have h2n : (2 : Int) < (n : Int) := by have := HN.out.1; omega
 obtain ⟨kz, hkz⟩ : ∃ t, (l.getD 2 a0).kind = t := ⟨_, rfl⟩
 have hz := HCB.out _ HJ1.out.be 2 hl2
 obtain ⟨hs, hhs⟩ : ∃ t, (l.getD 2 a0).text = t := ⟨_, rfl⟩
 rw [up, hkz, hhs] at hz
 have x0 := hz.cell 0 _ rfl
 have x2 := hz.cell 2 _ rfl
 dsimp only at x0 x2
 rw [Nat.add_zero] at x0
 have HZ : Hid ((l.getD 2 a0).kind = kz ∧ hdrN l = hs) := ⟨hkz, hhs⟩
 have HHS : Hid (hs.length ≤ 262144) := by show _ ≤ _; rw [← hhs]; refine HAP.out.text ?_; rw [List.getD, List.getElem?_eq_getElem hl2]; exact List.getElem_mem _
 have HP2 : Hid (preE l = if kz ≠ 2 then 9 else 0) := by show preE l = _; rw [HPRE.out, if_neg (by omega), hkz]
 clear hz hkz hhs hl2 hLd h4 h5
 by_cases h2 : kz = 2
 case neg =>
  have f2 : ((kz : Int) != 2) = true := by simp; omega
  have HE : Hid (preE l = 9) := by show preE l = 9; rw [HP2.out, if_pos h2]
  have HR : Hid (rdE l (.ok []) = 9) := by show rdE l _ = 9; rw [rdE, itE, if_pos (by rw [if_pos (by rw [HE.out]; decide), HE.out]; decide), if_pos (by rw [HE.out]; decide), HE.out]
  clear h2
  obtain ⟨c0, c1, c2, c3, c4, c5, c6, c7, c8⟩ := HJ1.out.x.c9
  obtain ⟨z0, z1, z2, z3, z4, z5, z6, z7, z8⟩ := HJ1.out.z.c9
  obtain ⟨y0, y1, y2, y3, y4, y5, y6, y7, y8⟩ := HJ1.out.z.f9
  go_wp2_with fail
  refine bodyPost_ret (results_at_two rfl _ (B + 1) [.int .i64 F, .int .i64 0, .slice none 0 0, .string ⟨#[]⟩, .string ⟨#[]⟩, .string ⟨#[]⟩, .string ⟨#[]⟩, .string ⟨#[]⟩, .string ⟨#[]⟩] _ rfl (fill9 HJ1.out.z _ _ _ _ _ _ _ _ _) Tryz.underlying27 rfl (by kernel_rfl) _ rfl) rfl ?_
  exact ⟨.ok [], ⟨F, 0, [], [], [], [], [], [], []⟩, .slice none 0 0, (fun h => (by rw [HE.out] at h; cases h)), by rw [HR.out]; rfl, ⟨none, 0, rfl, fun h => absurd rfl h⟩, by rw [HBB.out]; exact below9 HJ1.out.be (show B ≤ B + 1 by omega) _ _ _ _ _ _ _ _ _, fun h => by rw [HR.out] at h; cases h⟩
 case pos =>
 have f2 : ((kz : Int) != 2) = false := by simp; omega
 have HPZ : Hid (preE l = 0) := by show _ = _; rw [HP2.out, if_neg (by omega)]
 obtain ⟨R, hR⟩ := lay3 HLD.out HAP.out (by rw [HZ.out.1, h2])
 have HLR := hid hR
 have c3 := HJ1.out.x.z 3 _ rfl
 have y3 := HJ1.out.x.zy 3 _ rfl
 clear hR h2
 go_upto_region 15 with fail
 obtain ⟨w2, hw2⟩ : ∃ q, wc.setCell ⟨B + 2, 3, none⟩ (.string ⟨hs.toArray⟩) = q := ⟨_, rfl⟩
 have HJ2 : Hid (Jw w w2 B d i b r [.int .i64 F, .int .i64 0, .slice none 0 0, .string (bs hs), .string ⟨#[]⟩, .string ⟨#[]⟩, .string ⟨#[]⟩, .string ⟨#[]⟩, .string ⟨#[]⟩]) := by show Jw _ _ _ _ _ _ _ _; rw [← hw2]; exact HJ1.out.setX 3 (.string (bs hs))
 rw [hw2]
 clear hw2 x0 x2 y0 y1 c3 y3 HJ1
 go_upto_region 16 with fail
 obtain ⟨G8, hG8⟩ : ∃ q, w2.heap.size = q := ⟨_, rfl⟩
 obtain ⟨w3, hw3⟩ : ∃ q, w2.alloc (Obj.cells #[.slice none 0 0, .slice none 0 0] 97) = q := ⟨_, rfl⟩
 have HJ3 : Hid (Jw w w3 B d i b r [.int .i64 F, .int .i64 0, .slice none 0 0, .string (bs hs), .string ⟨#[]⟩, .string ⟨#[]⟩, .string ⟨#[]⟩, .string ⟨#[]⟩, .string ⟨#[]⟩]) := by show Jw _ _ _ _ _ _ _ _; rw [← hw3]; exact HJ2.out.alloc _
 have HH3 : Hid (At w3 G8 0 [.slice none 0 0, .slice none 0 0]) := by show At _ _ _ _; rw [← hw3, ← hG8]; exact At.ofAlloc w2 _ 97
 have HG8 : Hid (B + 3 ≤ G8 ∧ w3.heap.size = G8 + 1) := ⟨by rw [← hG8]; exact HJ2.out.sz, by rw [← hw3, ← hG8]; simp⟩
 rw [hw3]
 try rw [hG8]
 clear hw3 hG8 HJ2
 have c3 := HJ3.out.x.z 3 _ rfl
 obtain ⟨b1, hb1⟩ : ∃ b, decide (0 < hs.length) = b := ⟨_, rfl⟩
 have z1 : (bs hs).size = hs.length := rfl
 go_upto_if 62 with fail
 have HB1N := hid hb1
 clear hb1 z1 c3
 go_cut [] from 9 to 90 (fun wx => ∃ (H : Rs (List Am)) (va vb : Value), Hid (Jw w wx B d i b r [.int .i64 F, .int .i64 0, .slice none 0 0, .string (bs hs), .string ⟨#[]⟩, .string ⟨#[]⟩, .string ⟨#[]⟩, .string ⟨#[]⟩, .string ⟨#[]⟩]) ∧ Hid (At wx G8 0 [va, vb]) ∧ Hid (Hv wx (.agg #[va, vb]) (prs (prot hs H))) ∧ Hid ((hs ≠ [] → DecR hs d i b r H) ∧ hdE hs H = 0 ∧ (prs (prot hs H)).length ≤ 4096 ∧ ∀ p ∈ prs (prot hs H), p.2.num < 18446744073709551616) ∧ Hid (G8 < wx.heap.size))
 case first =>
  cases b1
  case false =>
   have h0 : hs = [] := by have h := HB1N.out; rw [decide_eq_false_iff_not] at h; exact List.length_eq_zero_iff.1 (by omega)
   have HH0 := hid h0
   clear h0
   go_wp2_with fail
   go_meet
   case rel =>
    refine ⟨.ok [], _, _, HJ3, HH3, ?_, ?_, ?_⟩
    ·show Hv _ _ _
     rw [HH0.out]
     exact ⟨_, _, rfl, ⟨none, 0, rfl, fun h => absurd rfl h⟩, ⟨none, 0, rfl, fun h => absurd rfl h⟩⟩
    ·refine ⟨fun h => absurd HH0.out h, by rw [HH0.out]; rfl, by rw [HH0.out]; decide, fun p hp => ?_⟩
     rw [HH0.out] at hp
     exact absurd hp (List.not_mem_nil)
    ·show G8 < _
     have := HG8.out.2
     omega
  case true =>
   have h0 : hs ≠ [] := by have h := HB1N.out; rw [decide_eq_true_iff] at h; intro h2; rw [h2] at h; simp at h
   have HH0 := hid h0
   have c3 := HJ3.out.x.z 3 _ rfl
   have m0 := HJ3.out.lm.z 0 _ rfl
   have m1 := HJ3.out.lm.z 1 _ rfl
   have m2 := HJ3.out.lm.z 2 _ rfl
   have m3 := HJ3.out.lm.z 3 _ rfl
   clear h0
   go_wp2_with fail
   refine (Co.rdecode_any (bs hs) d i b r w3 (by have := HHS.out; rw [show (bs hs).size = hs.length from rfl]; omega)).mono ?_
   rintro e w4 ⟨H, hD, vH, rfl, hown, hb4⟩
   rw [show (bs hs).toList = hs from tl_mk _] at hD
   have HD := hid hD
   obtain ⟨aH, cH, rfl, -⟩ := own_form hown
   have HOW := hid hown
   have HJ4 := hid (HJ3.out.below hb4)
   have HH4 := hid (HH3.out.below hb4 (by have := HG8.out.2; omega))
   have HG4 : Hid (G8 < w4.heap.size) := by have h1 := HG8.out.2; have h2 := hb4.size; show G8 < _; omega
   obtain ⟨lH, hlH⟩ : ∃ q, decL H = q := ⟨_, rfl⟩
   obtain ⟨eH, heH⟩ : ∃ q, decE H = q := ⟨_, rfl⟩
   rw [hlH, heH]
   have HLH : Hid (decL H = lH ∧ decE H = eH) := ⟨hlH, heH⟩
   clear hlH heH hD hown hb4 c3 m0 m1 m2 m3
   go_upto_region 18 with fail
   by_cases hE : eH = 0
   case neg =>
    have f3 : (eH != 0) = true := by simpa using hE
    have HR : Hid (rdE l H = eH) := rdE_hdE HPZ.out (by rw [HZ.out.2, hdE, if_neg HH0.out, HLH.out.2, if_pos (by exact hE)]) hE
    have HNE := hid hE
    clear hE
    obtain ⟨c0, c1, c2, c3, c4, c5, c6, c7, c8⟩ := HJ4.out.x.c9
    obtain ⟨z0, z1, z2, z3, z4, z5, z6, z7, z8⟩ := HJ4.out.z.c9
    obtain ⟨y0, y1, y2, y3, y4, y5, y6, y7, y8⟩ := HJ4.out.z.f9
    go_wp2_with fail
    refine bodyPost_ret (results_at_two rfl _ (B + 1) [.int .i64 F, .int .i64 0, .slice none 0 0, .string (bs hs), .string ⟨#[]⟩, .string ⟨#[]⟩, .string ⟨#[]⟩, .string ⟨#[]⟩, .string ⟨#[]⟩] _ rfl (fill9 HJ4.out.z _ _ _ _ _ _ _ _ _) Tryz.underlying27 rfl (by kernel_rfl) _ rfl) rfl ?_
    exact ⟨H, ⟨F, 0, [], hs, [], [], [], [], []⟩, .slice none 0 0, (fun _ _ => by rw [HZ.out.2]; exact HD.out), by rw [HR.out]; rfl, ⟨none, 0, rfl, fun h => absurd rfl h⟩, by rw [HBB.out]; exact below9 HJ4.out.be (show B ≤ B + 1 by omega) _ _ _ _ _ _ _ _ _, fun h => absurd (HR.out.symm.trans h) HNE.out⟩
   case pos =>
   have f3 : (eH != 0) = false := by simpa using hE
   obtain ⟨l2, hl2⟩ := dec_ok HD.out (by rw [HLH.out.2, hE])
   obtain rfl : l2 = lH := by have h := HLH.out.1; rw [hl2] at h; exact h
   have hap := apart (by have h := HD.out; rw [hl2] at h; exact h)
   have HAH := hid hap
   have HHL : Hid (H = .ok l2) := hl2
   have hne2 := hap.one.ne
   have hlen2 : 0 < l2.length := List.length_pos_iff.2 hne2
   have s2 : SrO w4 (.slice aH l2.length cH) (l2.map up) := (own_sc (by have h := HOW.out; rw [HLH.out.1] at h; exact h) (by rw [List.length_map])).sr
   have HS2 := hid s2
   obtain ⟨a2, c2, hv2, hal2⟩ := s2
   obtain ⟨gh, oh, rfl, hAt2, hgh⟩ := hal2 (by intro h; exact hne2 (List.map_eq_nil_iff.1 h))
   rw [List.length_map] at hv2
   cases hv2
   obtain ⟨k2, hk2⟩ : ∃ t, (l2.getD 0 a0).kind = t := ⟨_, rfl⟩
   obtain ⟨m2, hm2⟩ : ∃ t, (l2.getD 0 a0).num = t := ⟨_, rfl⟩
   have hq := rcell_atO hAt2 0 (by rw [List.length_map]; exact hlen2)
   rw [getD_up hlen2, Nat.zero_mul, Nat.add_zero, up, hk2, hm2] at hq
   have q0 := hq.cell 0 _ rfl
   have q1 := hq.cell 1 _ rfl
   rw [Nat.add_zero] at q0
   dsimp only at q0 q1
   have HKM : Hid ((l2.headD a0).kind = k2 ∧ (l2.headD a0).num = m2) := by
    cases l2 with
    | nil => exact absurd rfl hne2
    | cons y t => exact ⟨hk2, hm2⟩
   have h0n : (0 : Int) < (l2.length : Int) := by omega
   clear hl2 hap hne2 hlen2 hAt2 hgh hk2 hm2 hq hal2
   have HHE : Hid (hdE hs H = if k2 ≠ 5 ∨ m2 = 0 then 9 else 0) := by
    show _ = _
    rw [hdE, if_neg HH0.out, if_neg (by rw [HLH.out.2]; simp [hE]), HLH.out.1, HKM.out.1, HKM.out.2]
   clear hE
   by_cases hk5 : k2 = 5
   case neg =>
    have f5 : ((k2 : Int) != 5) = true := by simp; omega
    have HR : Hid (rdE l H = 9) := rdE_hdE HPZ.out (by rw [HZ.out.2, HHE.out, if_pos (.inl hk5)]) (by decide)
    clear hk5
    obtain ⟨c0, c1, c2, c3, c4, c5, c6, c7, c8⟩ := HJ4.out.x.c9
    obtain ⟨z0, z1, z2, z3, z4, z5, z6, z7, z8⟩ := HJ4.out.z.c9
    obtain ⟨y0, y1, y2, y3, y4, y5, y6, y7, y8⟩ := HJ4.out.z.f9
    go_wp2_with fail
    refine bodyPost_ret (results_at_two rfl _ (B + 1) [.int .i64 F, .int .i64 0, .slice none 0 0, .string (bs hs), .string ⟨#[]⟩, .string ⟨#[]⟩, .string ⟨#[]⟩, .string ⟨#[]⟩, .string ⟨#[]⟩] _ rfl (fill9 HJ4.out.z _ _ _ _ _ _ _ _ _) Tryz.underlying27 rfl (by kernel_rfl) _ rfl) rfl ?_
    exact ⟨H, ⟨F, 0, [], hs, [], [], [], [], []⟩, .slice none 0 0, (fun _ _ => by rw [HZ.out.2]; exact HD.out), by rw [HR.out]; rfl, ⟨none, 0, rfl, fun h => absurd rfl h⟩, by rw [HBB.out]; exact below9 HJ4.out.be (show B ≤ B + 1 by omega) _ _ _ _ _ _ _ _ _, fun h => absurd (HR.out.symm.trans h) (by decide)⟩
   case pos =>
   have f5 : ((k2 : Int) != 5) = false := by simp; omega
   by_cases hm0 : m2 = 0
   case pos =>
    have f6 : ((m2 : Int) == 0) = true := by simp; omega
    have HR : Hid (rdE l H = 9) := rdE_hdE HPZ.out (by rw [HZ.out.2, HHE.out, if_pos (.inr hm0)]) (by decide)
    clear hk5 hm0
    obtain ⟨c0, c1, c2, c3, c4, c5, c6, c7, c8⟩ := HJ4.out.x.c9
    obtain ⟨z0, z1, z2, z3, z4, z5, z6, z7, z8⟩ := HJ4.out.z.c9
    obtain ⟨y0, y1, y2, y3, y4, y5, y6, y7, y8⟩ := HJ4.out.z.f9
    go_wp2_with fail
    refine bodyPost_ret (results_at_two rfl _ (B + 1) [.int .i64 F, .int .i64 0, .slice none 0 0, .string (bs hs), .string ⟨#[]⟩, .string ⟨#[]⟩, .string ⟨#[]⟩, .string ⟨#[]⟩, .string ⟨#[]⟩] _ rfl (fill9 HJ4.out.z _ _ _ _ _ _ _ _ _) Tryz.underlying27 rfl (by kernel_rfl) _ rfl) rfl ?_
    exact ⟨H, ⟨F, 0, [], hs, [], [], [], [], []⟩, .slice none 0 0, (fun _ _ => by rw [HZ.out.2]; exact HD.out), by rw [HR.out]; rfl, ⟨none, 0, rfl, fun h => absurd rfl h⟩, by rw [HBB.out]; exact below9 HJ4.out.be (show B ≤ B + 1 by omega) _ _ _ _ _ _ _ _ _, fun h => absurd (HR.out.symm.trans h) (by decide)⟩
   case neg =>
   have f6 : ((m2 : Int) == 0) = false := by simp; omega
   have HE0 : Hid (hdE hs H = 0) := by show _ = _; rw [HHE.out, if_neg (by omega)]
   obtain ⟨x2, Qs, Cs, hP2, hF2, hQn, hpr, hprl, hprm⟩ := mapP HAH.out.one (by rw [HKM.out.1, hk5])
   have hPR : prs (prot hs H) = twos (heads Qs) := by rw [prot, if_neg HH0.out, HHL.out]; exact hpr
   have HPR : Hid (hs ≠ [] → DecR hs d i b r H) := fun _ => HD.out
   have HPS : Hid ((prs (prot hs H)).length ≤ 4096 ∧ ∀ p ∈ prs (prot hs H), p.2.num < 18446744073709551616) := by
    show _ ∧ _
    rw [prot, if_neg HH0.out, HHL.out]
    exact ⟨Nat.le_trans hprl HAH.out.len, fun p hp => (HAH.out.ok _ (hprm p hp)).1⟩
   have RP := hid (fun (w' : World) (s' : SrO w' (.slice (some ⟨gh, oh, none⟩) l2.length cH) (l2.map up)) => rpairs_any (A := []) (R := []) hF2 hQn l2 (by rw [List.append_nil]; exact hP2) HAH.out.len _ w' s' (fun x hx => (HAH.out.ok x hx).1))
   clear hk5 hm0 hP2 hF2 hQn hpr hprl hprm
   go_wp2_with fail
   refine (RP.out w4 HS2.out).mono ?_
   rintro e w5 ⟨vh, rfl, hvh, hb5⟩
   rw [← hPR] at hvh
   have HV5 := hid hvh
   obtain ⟨v1, v2, rfl, ⟨a5, n5, rfl, -⟩, ⟨a6, n6, rfl, -⟩⟩ := hvh
   have HJ5 := hid (HJ4.out.below hb5)
   have HH5 := hid (HH4.out.below hb5 HG4.out)
   have HG5 : Hid (G8 < w5.heap.size) := nlt HG4.out hb5.size
   clear hb5 q0 q1 hPR
   have g0 := HH5.out.z 0 _ rfl
   have g1 := HH5.out.z 1 _ rfl
   have gf0 := HH5.out.zy 0 _ rfl
   have gf1 := HH5.out.zy 1 _ rfl
   go_wp2_with fail
   go_meet
   case rel =>
    have hv1 := Hv.setL (.slice a5 (prs (prot hs H)).length n5) HV5.out g0
    have hv2 := Hv.setL (j := 1) (.slice a6 (prs (prot hs H)).length n6) hv1 ((HH5.out.set 0 (.slice a5 (prs (prot hs H)).length n5)).cell 1 _ rfl)
    refine ⟨H, _, _, (HJ5.out.setG G8 0 _ HG8.out.1).setG G8 1 _ HG8.out.1, fill2 HH5.out _ _, ?_, ⟨HPR.out, HE0.out, HPS.out⟩, ?_⟩
    ·have h := HV5.out
     simp only [List.length_map] at hv2
     exact hv2
    ·show G8 < _
     rw [Co.set_size, Co.set_size]
     exact HG5.out
 case rest =>
 obtain ⟨H, va, vb, HJ4, HH4, HV, HHD, HG4⟩ := hcut
 have hP1 := HLD.out.part HAP.out 1 (by rw [HFW.out.2.2.1]; have := HFW.out.1; omega)
 have h33 := at3 HLR.out.1 hP1.one.ne
 have h3n : (3 : Int) < (n : Int) := by have h := h33.2; have := HN.out.1; omega
 obtain ⟨k3, hk3⟩ : ∃ t, (l.getD 3 a0).kind = t := ⟨_, rfl⟩
 have hq := HCB.out _ HJ4.out.be 3 h33.2
 rw [up, hk3] at hq
 have q0 := hq.cell 0 _ rfl
 rw [Nat.add_zero] at q0
 dsimp only at q0
 have HK3 : Hid ((headN l 1).kind = k3) := by show _ = _; rw [← hk3, h33.1]; rfl
 clear hq hk3 h33
 by_cases hk5 : k3 = 5
 case neg =>
  have f5 : ((k3 : Int) != 5) = true := by simp; omega
  have HR : Hid (rdE l H = 9) := rdE_posE HPZ.out (by rw [HZ.out.2]; exact HHD.out.2.1) (by rw [posE, HK3.out, if_pos hk5]) (by decide)
  clear hk5 hP1
  obtain ⟨c0, c1, c2, c3, c4, c5, c6, c7, c8⟩ := HJ4.out.x.c9
  obtain ⟨z0, z1, z2, z3, z4, z5, z6, z7, z8⟩ := HJ4.out.z.c9
  obtain ⟨y0, y1, y2, y3, y4, y5, y6, y7, y8⟩ := HJ4.out.z.f9
  go_wp2_with fail
  refine bodyPost_ret (results_at_two rfl _ (B + 1) [.int .i64 F, .int .i64 0, .slice none 0 0, .string (bs hs), .string ⟨#[]⟩, .string ⟨#[]⟩, .string ⟨#[]⟩, .string ⟨#[]⟩, .string ⟨#[]⟩] _ rfl (fill9 HJ4.out.z _ _ _ _ _ _ _ _ _) Tryz.underlying27 rfl (by kernel_rfl) _ rfl) rfl ?_
  exact ⟨H, ⟨F, 0, [], hs, [], [], [], [], []⟩, .slice none 0 0, (fun _ h0 => by rw [HZ.out.2] at h0 ⊢; exact HHD.out.1 h0), by rw [HR.out]; rfl, ⟨none, 0, rfl, fun h => absurd rfl h⟩, by rw [HBB.out]; exact below9 HJ4.out.be (show B ≤ B + 1 by omega) _ _ _ _ _ _ _ _ _, fun h => absurd (HR.out.symm.trans h) (by decide)⟩
 case pos =>
 have f5 : ((k3 : Int) != 5) = false := by simp; omega
 obtain ⟨x2, Qs, Cs, hP2, hF2, hQn, hpr, hprl, hprm⟩ := mapP hP1.one (by show (headN l 1).kind = 5; rw [HK3.out, hk5])
 have hll : l = [l.getD 0 a0, l.getD 1 a0, l.getD 2 a0] ++ (x2 :: (Qs.flatten ++ R)) := by have h := HLR.out.1; rw [hP2] at h; exact h
 have RP := hid (fun (w' : World) (s' : SrO w' (.slice (some ⟨g, o, none⟩) n cl) (l.map up)) => rpairs_any (A := [l.getD 0 a0, l.getD 1 a0, l.getD 2 a0]) (R := R) hF2 hQn l hll HAP.out.len _ w' s' (fun x hx => (HK.out x hx).1))
 have HPL : Hid (prs (partN l 1) = twos (heads Qs)) := hpr
 have HPB : Hid ((prs (partN l 1)).length ≤ 4096 ∧ ∀ p ∈ prs (partN l 1), p.2.num < 18446744073709551616) := ⟨Nat.le_trans hprl hP1.len, fun p hp => (hP1.ok _ (hprm p hp)).1⟩
 have RI : Hid (∀ w' : World, Sc w' (.slice (some ⟨g, o, none⟩) n cl) (l.map up) → Calls Tryz.prog 42 #[.slice (some ⟨g, o, none⟩) n cl, .int .i64 3] w' (fun e w'' => e = .returned (.tuple #[.string (bs (looseN l)), .int .i64 ((3 + (partN l 1).length : Nat) : Int)]) ∧ Below w'.heap.size w' w'')) := fun w' s' => by
  have e := HLR.out.1
  have h := ritem_any (A := [l.getD 0 a0, l.getD 1 a0, l.getD 2 a0]) (R := R) hP1.one (by rw [← e]; exact HAP.out.len) _ w' (by rw [← e]; exact s') (by rw [← e]; exact fun a ha => (HK.out a ha).1) (by rw [← e]; exact fun a ha => Nat.le_trans (HAP.out.text ha) (by decide))
  exact h
 have HP5 := hid hk5
 clear hk5 hP1 hP2 hF2 hQn hpr hprl hprm hll
 go_wp2_with fail
 refine (RP.out _ (HSC.out.below (by rw [HBB.out]; exact HJ4.out.be)).sr).mono ?_
 rintro e w5 ⟨vh, rfl, hvh, hb5⟩
 rw [← HPL.out] at hvh
 have HV5 := hid hvh
 obtain ⟨v1, v2, rfl, ⟨a5, n5, rfl, -⟩, ⟨a6, n6, rfl, -⟩⟩ := hvh
 simp only [List.length_map] at HV5
 have HJ5 := hid (HJ4.out.below hb5)
 have HH5 := hid (HH4.out.below hb5 HG4.out)
 have HVA5 := hid (HV.out.below hb5)
 have HG5 : Hid (G8 < w5.heap.size) := nlt HG4.out hb5.size
 clear hb5 q0
 obtain ⟨G12, hG12⟩ : ∃ q, w5.heap.size = q := ⟨_, rfl⟩
 obtain ⟨w6, hw6⟩ : ∃ q, w5.alloc (Obj.cells #[.slice a5 (prs (partN l 1)).length n5, .slice a6 (prs (partN l 1)).length n6] 97) = q := ⟨_, rfl⟩
 have hb6 : Below w5.heap.size w5 w6 := by rw [← hw6]; exact (Below.refl _ _).alloc (nle _) _
 have HJ6 := hid (HJ5.out.below hb6)
 have HPK6 : Hid (Pk w6 G8 G12 va vb (.slice a5 (prs (partN l 1)).length n5) (.slice a6 (prs (partN l 1)).length n6) (prs (prot hs H)) (prs (partN l 1))) := by
  refine ⟨HH5.out.below hb6 HG5.out, ?_, HVA5.out.below hb6, HV5.out.below hb6, nlt HG5.out hb6.size, ?_⟩
  ·rw [← hw6, ← hG12]; exact At.ofAlloc w5 _ 97
  ·rw [← hw6, ← hG12]; simp
 have HXG : Hid (B + 2 < G8 ∧ B + 2 < G12) := by
  show _ ∧ _
  have h1 := HG8.out.1
  have h2 := HJ5.out.sz
  omega
 clear hb6
 go_upto_region 26 with fail
 try rw [hw6]
 try rw [hG12]
 clear hw6 hG12
 obtain ⟨n7, hn7⟩ : ∃ k, (prs (partN l 1)).length = k := ⟨_, rfl⟩
 rw [hn7] at HPK6 ⊢
 obtain ⟨lo, hlo⟩ : ∃ t, looseN l = t := ⟨_, rfl⟩
 obtain ⟨p, hp⟩ : ∃ t, 3 + (partN l 1).length = t := ⟨_, rfl⟩
 rw [hlo, hp] at RI
 have HLO : Hid (looseN l = lo ∧ 3 + (partN l 1).length = p) := ⟨hlo, hp⟩
 clear hn7 hlo hp
 go_wp2_with fail
 refine (RI.out _ (HSC.out.below (by rw [HBB.out]; exact HJ6.out.be))).mono ?_
 rintro e w7 ⟨rfl, hb7⟩
 have HJ7 := hid (HJ6.out.below hb7)
 have HPK7 := hid (HPK6.out.below hb7)
 clear hb7
 have c3 := HJ7.out.x.z 3 _ rfl
 have c4 := HJ7.out.x.z 4 _ rfl
 have y4 := HJ7.out.x.zy 4 _ rfl
 have hjx := HJ7.out.setX 4 (.string (bs lo))
 have hpx := HPK7.out.setX (j := 3) (.string (bs lo)) c4 c3 HXG.out.1 HXG.out.2
 obtain ⟨w8, hw8⟩ : ∃ q, w7.setCell ⟨B + 2, 4, none⟩ (.string (bs lo)) = q := ⟨_, rfl⟩
 rw [hw8] at hjx
 rw [show (3 : Nat) + 1 = 4 from rfl, hw8] at hpx
 have HJ8 : Hid (Jw w w8 B d i b r [.int .i64 F, .int .i64 0, .slice none 0 0, .string (bs hs), .string (bs lo), .string ⟨#[]⟩, .string ⟨#[]⟩, .string ⟨#[]⟩, .string ⟨#[]⟩]) := hjx
 have HPK8 := hid hpx
 go_upto_region 28 with fail
 try rw [hw8]
 clear hw8 hjx hpx c3 c4 y4
 have hpP := atP HLR.out.1 HLR.out.2.1
 rw [HLO.out.2, HLR.out.2.2.1] at hpP
 have hpn : (p : Int) < (n : Int) := by have h := hpP.2; have := HN.out.1; omega
 have hp0 : (0 : Int) ≤ (p : Int) := by omega
 have hp9 := HCB.out _ HJ8.out.be p hpP.2
 rw [hpP.1] at hp9
 obtain ⟨k9, hk9⟩ : ∃ t, (headN l 2).kind = t := ⟨_, rfl⟩
 obtain ⟨m9, hm9⟩ : ∃ t, (headN l 2).num = t := ⟨_, rfl⟩
 obtain ⟨t9, ht9⟩ : ∃ t, (headN l 2).text = t := ⟨_, rfl⟩
 rw [up, hk9, hm9, ht9] at hp9
 have HQ9 : Hid ((headN l 2).kind = k9 ∧ (headN l 2).num = m9 ∧ (headN l 2).text = t9) := ⟨hk9, hm9, ht9⟩
 have HP9 := hid hp9
 have q0 := hp9.cell 0 _ rfl
 have q1 := hp9.cell 1 _ rfl
 rw [Nat.add_zero] at q0
 dsimp only at q0 q1
 clear hpP hk9 hm9 ht9 hp9
 go_cut [118] from 105 to 117 (fun v wx => v = .bool (decide (k9 = 7 ∧ m9 = 22)) ∧ wx = w8)
 case first =>
  by_cases h7 : k9 = 7
  case pos =>
   have f7 : ((k9 : Int) == 7) = true := by simp; omega
   by_cases h22 : m9 = 22
   case pos =>
    have f8 : ((m9 : Int) == 22) = true := by simp; omega
    go_wp2_with fail
    go_meet
    case rel => exact ⟨congrArg Value.bool (dtr ⟨h7, h22⟩).symm, rfl⟩
   case neg =>
    have f8 : ((m9 : Int) == 22) = false := by simp; omega
    go_wp2_with fail
    go_meet
    case rel => exact ⟨congrArg Value.bool (dfa (fun h => h22 h.2)).symm, rfl⟩
  case neg =>
   have f7 : ((k9 : Int) == 7) = false := by simp; omega
   go_wp2_with fail
   go_meet
   case rel => exact ⟨congrArg Value.bool (dfa (fun h => h7 h.1)).symm, rfl⟩
 case rest =>
 obtain ⟨rfl, rfl⟩ := hcut
 have HHR : Hid (preE l = 0 → Hd (hdrN l) d i b r H) := fun _ h0 => by rw [HZ.out.2] at h0 ⊢; exact HHD.out.1 h0
 have HHE : Hid (hdE (hdrN l) H = 0) := by show _ = _; rw [HZ.out.2]; exact HHD.out.2.1
 by_cases h722 : k9 = 7 ∧ m9 = 22
 case pos =>
  have f7 : decide (k9 = 7 ∧ m9 = 22) = true := dtr h722
  have HR : Hid (rdE l H = 11) := rdE_posE HPZ.out HHE.out (by rw [posE, HK3.out, HP5.out, if_neg (by decide), HQ9.out.1, HQ9.out.2.1, if_pos h722]) (by decide)
  rw [f7]
  clear h722 f7 q0 q1
  obtain ⟨c0, c1, c2, c3, c4, c5, c6, c7, c8⟩ := HJ8.out.x.c9
  obtain ⟨z0, z1, z2, z3, z4, z5, z6, z7, z8⟩ := HJ8.out.z.c9
  obtain ⟨y0, y1, y2, y3, y4, y5, y6, y7, y8⟩ := HJ8.out.z.f9
  go_wp2_with fail
  refine bodyPost_ret (results_at_two rfl _ (B + 1) [.int .i64 F, .int .i64 0, .slice none 0 0, .string (bs hs), .string (bs lo), .string ⟨#[]⟩, .string ⟨#[]⟩, .string ⟨#[]⟩, .string ⟨#[]⟩] _ rfl (fill9 HJ8.out.z _ _ _ _ _ _ _ _ _) Tryz.underlying27 rfl (by kernel_rfl) _ rfl) rfl ?_
  exact ⟨H, ⟨F, 0, [], hs, lo, [], [], [], []⟩, .slice none 0 0, (HHR.out), by rw [HR.out]; rfl, ⟨none, 0, rfl, fun h => absurd rfl h⟩, by rw [HBB.out]; exact below9 HJ8.out.be (show B ≤ B + 1 by omega) _ _ _ _ _ _ _ _ _, fun h => absurd (HR.out.symm.trans h) (by decide)⟩
 case neg =>
 have f7 : decide (k9 = 7 ∧ m9 = 22) = false := dfa h722
 rw [f7]
 have HPOS : Hid (posE l = if k9 ≠ 2 ∨ (headN l (wantN l - 1)).kind ≠ 2 then 9 else 0) := by show _ = _; rw [posE, HK3.out, HP5.out, if_neg (by decide), HQ9.out.1, HQ9.out.2.1, if_neg h722]
 clear h722 f7 q1
 obtain ⟨k10, hk10⟩ : ∃ t, (headN l 3).kind = t := ⟨_, rfl⟩
 obtain ⟨t10, ht10⟩ : ∃ t, (headN l 3).text = t := ⟨_, rfl⟩
 have HQ10 : Hid ((headN l 3).kind = k10 ∧ (headN l 3).text = t10) := ⟨hk10, ht10⟩
 have HPX : Hid (F = 6 → k9 = 2 → p + 1 < l.length ∧ ∀ w' : World, Below B w w' → At w' g (o + (p + 1) * 3) (rv (up (headN l 3)))) := fun h6 h2 => by
  obtain ⟨R2, hR2⟩ := HLR.out.2.2.2 (by rw [HFW.out.2.2.1]; have := HFW.out.1; omega) (by rw [HQ9.out.1, h2])
  have h := atP1 (show l = [l.getD 0 a0, l.getD 1 a0, l.getD 2 a0] ++ (partN l 1 ++ (headN l 2 :: headN l 3 :: R2)) by rw [← hR2]; exact HLR.out.1)
  rw [HLO.out.2] at h
  exact ⟨h.2, fun w' hb => by have h3 := HCB.out w' hb (p + 1) h.2; rw [h.1] at h3; exact h3⟩
 clear hk10 ht10
 go_upto_region 30 with fail
 go_cut [139] from 120 to 138 (fun v wx => v = .bool (decide (k9 ≠ 2 ∨ F = 6 ∧ k10 ≠ 2)) ∧ wx = wc)
 case first =>
  by_cases h2 : k9 = 2
  case neg =>
   have f9 : ((k9 : Int) != 2) = true := by simp; omega
   go_wp2_with fail
   go_meet
   case rel => exact ⟨congrArg Value.bool (dtr (.inl h2)).symm, rfl⟩
  case pos =>
  have f9 : ((k9 : Int) != 2) = false := by simp; omega
  have c0 := HJ8.out.x.z 0 _ rfl
  by_cases h6 : F = 6
  case neg =>
   have f10 : (F == 6) = false := by simpa using h6
   go_wp2_with fail
   go_meet
   case rel => exact ⟨congrArg Value.bool (dfa (fun h => by rcases h with h | h; exact h h2; exact h6 h.1)).symm, rfl⟩
  case pos =>
   have f10 : (F == 6) = true := by simpa using h6
   obtain ⟨hx1, hx2⟩ := HPX.out h6 h2
   obtain ⟨p1, hp1⟩ : ∃ q, p + 1 = q := ⟨_, rfl⟩
   rw [hp1] at hx1 hx2
   have hw1 : IntKind.i64.wrap ((p : Int) + 1) = (p1 : Int) := by
    have h := Co.wrap_fit p1 (by have := HN.out; unfold maxLen; omega)
    rw [← hp1] at h ⊢
    exact h
   have hp1n : (p1 : Int) < (n : Int) := by have := HN.out.1; omega
   have hp10 : (0 : Int) ≤ (p1 : Int) := by omega
   have hr := hx2 _ HJ8.out.be
   rw [up, HQ10.out.1] at hr
   have r0 := hr.cell 0 _ rfl
   rw [Nat.add_zero] at r0
   dsimp only at r0
   clear hx1 hx2 hr hp1
   by_cases h10 : k10 = 2
   case pos =>
    have f11 : ((k10 : Int) != 2) = false := by simp; omega
    go_wp2_with fail
    go_meet
    case rel => exact ⟨congrArg Value.bool (dfa (fun h => by rcases h with h | h; exact h h2; exact h.2 h10)).symm, rfl⟩
   case neg =>
    have f11 : ((k10 : Int) != 2) = true := by simp; omega
    go_wp2_with fail
    go_meet
    case rel => exact ⟨congrArg Value.bool (dtr (.inr ⟨h6, h10⟩)).symm, rfl⟩
 case rest =>
 obtain ⟨rfl, rfl⟩ := hcut
 clear q0
 have HPOS2 : Hid (posE l = if k9 ≠ 2 ∨ F = 6 ∧ k10 ≠ 2 then 9 else 0) := by
  show _ = _
  rw [HPOS.out]
  rcases HFW.out.1 with ⟨hF, hW⟩ | ⟨hF, hW⟩
  ·have h1 : (headN l (wantN l - 1)).kind = k9 := by rw [HFW.out.2.2.1, hW]; exact HQ9.out.1
   rw [h1]
   by_cases h2 : k9 = 2
   ·rw [if_neg (by simp [h2]), if_neg (by simp [h2]; omega)]
   ·rw [if_pos (.inl h2), if_pos (.inl h2)]
  ·have h1 : (headN l (wantN l - 1)).kind = k10 := by rw [HFW.out.2.2.1, hW]; exact HQ10.out.1
   rw [h1]
   by_cases h2 : k9 ≠ 2 ∨ k10 ≠ 2
   ·rw [if_pos h2, if_pos (by omega)]
   ·rw [if_neg h2, if_neg (by omega)]
 by_cases hbad : k9 ≠ 2 ∨ F = 6 ∧ k10 ≠ 2
 case pos =>
  have f9 : decide (k9 ≠ 2 ∨ F = 6 ∧ k10 ≠ 2) = true := dtr hbad
  have HR : Hid (rdE l H = 9) := rdE_posE HPZ.out HHE.out (by rw [HPOS2.out, if_pos hbad]) (by decide)
  rw [f9]
  clear hbad f9
  obtain ⟨c0, c1, c2, c3, c4, c5, c6, c7, c8⟩ := HJ8.out.x.c9
  obtain ⟨z0, z1, z2, z3, z4, z5, z6, z7, z8⟩ := HJ8.out.z.c9
  obtain ⟨y0, y1, y2, y3, y4, y5, y6, y7, y8⟩ := HJ8.out.z.f9
  go_wp2_with fail
  refine bodyPost_ret (results_at_two rfl _ (B + 1) [.int .i64 F, .int .i64 0, .slice none 0 0, .string (bs hs), .string (bs lo), .string ⟨#[]⟩, .string ⟨#[]⟩, .string ⟨#[]⟩, .string ⟨#[]⟩] _ rfl (fill9 HJ8.out.z _ _ _ _ _ _ _ _ _) Tryz.underlying27 rfl (by kernel_rfl) _ rfl) rfl ?_
  exact ⟨H, ⟨F, 0, [], hs, lo, [], [], [], []⟩, .slice none 0 0, (HHR.out), by rw [HR.out]; rfl, ⟨none, 0, rfl, fun h => absurd rfl h⟩, by rw [HBB.out]; exact below9 HJ8.out.be (show B ≤ B + 1 by omega) _ _ _ _ _ _ _ _ _, fun h => absurd (HR.out.symm.trans h) (by decide)⟩
 case neg =>
 have f9 : decide (k9 ≠ 2 ∨ F = 6 ∧ k10 ≠ 2) = false := dfa hbad
 rw [f9]
 have HP0 : Hid (posE l = 0) := by show _ = _; rw [HPOS2.out, if_neg hbad]
 have HK92 : Hid (k9 = 2 ∧ (F = 6 → k10 = 2)) := by show _ ∧ _; omega
 clear hbad f9
 have q2 := HP9.out.cell 2 _ rfl
 dsimp only at q2
 have c6 := HJ8.out.x.z 6 _ rfl
 have c7 := HJ8.out.x.z 7 _ rfl
 have y7 := HJ8.out.x.zy 7 _ rfl
 obtain ⟨tg, htg⟩ : ∃ t, tagN l = t := ⟨_, rfl⟩
 have HTG : Hid (tagN l = tg ∧ (F = 6 → tg = t10) ∧ (¬ F = 6 → tg = [])) := by
  refine ⟨htg, fun h => ?_, fun h => ?_⟩
  ·rw [← htg, tagN, if_pos (by rw [HFW.out.2.1, h])]; exact HQ10.out.2
  ·rw [← htg, tagN, if_neg (by rw [HFW.out.2.1]; exact h)]
 clear htg
 go_upto_region 33 with fail
 obtain ⟨w9, hw9⟩ : ∃ q, wc.setCell ⟨B + 2, 7, none⟩ (.string ⟨t9.toArray⟩) = q := ⟨_, rfl⟩
 have HJ9 : Hid (Jw w w9 B d i b r [.int .i64 F, .int .i64 0, .slice none 0 0, .string (bs hs), .string (bs lo), .string ⟨#[]⟩, .string ⟨#[]⟩, .string (bs t9), .string ⟨#[]⟩]) := by show Jw _ _ _ _ _ _ _ _; rw [← hw9]; exact HJ8.out.setX 7 (.string (bs t9))
 have HPK9 : Hid (Pk w9 G8 G12 va vb (.slice a5 n7 n5) (.slice a6 n7 n6) (prs (prot hs H)) (prs (partN l 1))) := by show Pk _ _ _ _ _ _ _ _ _; rw [← hw9]; exact HPK8.out.setX (j := 6) (.string (bs t9)) c7 c6 HXG.out.1 HXG.out.2
 try rw [hw9]
 clear hw9 q2 c6 c7 y7
 have c0 := HJ9.out.x.z 0 _ rfl
 have c7 := HJ9.out.x.z 7 _ rfl
 have c8 := HJ9.out.x.z 8 _ rfl
 have y8 := HJ9.out.x.zy 8 _ rfl
 obtain ⟨b6, hb6⟩ : ∃ b, (F == 6) = b := ⟨_, rfl⟩
 go_upto_if 149 with fail
 have HB6 := hid hb6
 clear hb6 c0
 go_cut [] from 150 to 156 (fun wx => Hid (Jw w wx B d i b r [.int .i64 F, .int .i64 0, .slice none 0 0, .string (bs hs), .string (bs lo), .string ⟨#[]⟩, .string ⟨#[]⟩, .string (bs t9), .string (bs tg)]) ∧ Hid (Pk wx G8 G12 va vb (.slice a5 n7 n5) (.slice a6 n7 n6) (prs (prot hs H)) (prs (partN l 1))))
 case first =>
  cases b6
  case false =>
   have h6 : ¬ F = 6 := by simpa using HB6.out
   have HTE := hid (HTG.out.2.2 h6)
   clear h6
   go_wp2_with fail
   go_meet
   case rel =>
    rw [HTE.out]
    exact ⟨HJ9, HPK9⟩
  case true =>
   have h6 : F = 6 := by simpa using HB6.out
   have HTE := hid (HTG.out.2.1 h6)
   obtain ⟨hx1, hx2⟩ := HPX.out h6 HK92.out.1
   obtain ⟨p1, hp1⟩ : ∃ q, p + 1 = q := ⟨_, rfl⟩
   rw [hp1] at hx1 hx2
   have hw1 : IntKind.i64.wrap ((p : Int) + 1) = (p1 : Int) := by
    have h := Co.wrap_fit p1 (by have := HN.out; unfold maxLen; omega)
    rw [← hp1] at h ⊢
    exact h
   have hp1n : (p1 : Int) < (n : Int) := by have := HN.out.1; omega
   have hp10 : (0 : Int) ≤ (p1 : Int) := by omega
   have hr := hx2 _ HJ9.out.be
   rw [up, HQ10.out.2] at hr
   have r2 := hr.cell 2 _ rfl
   dsimp only at r2
   clear hx1 hx2 hr hp1 h6
   go_wp2_with fail
   go_meet
   case rel =>
    rw [HTE.out]
    exact ⟨HJ9.out.setX 8 (.string (bs t10)), HPK9.out.setX (j := 7) (.string (bs t10)) c8 c7 HXG.out.1 HXG.out.2⟩
 case rest =>
 obtain ⟨HJT, HPT⟩ := hcut
 have RL := hid (rlabels_any (prs (prot hs H)) (prs (partN l 1)) _ _ wc HPT.out.ha HPT.out.hb (Nat.le_trans HHD.out.2.2.1 (by decide)) (Nat.le_trans HPB.out.1 (by decide)))
 obtain ⟨E2, hE2⟩ : ∃ c, labE (prs (prot hs H)) (prs (partN l 1)) = c := ⟨_, rfl⟩
 rw [hE2] at RL
 have HE2 := hid hE2
 have a0 := HPT.out.a.z 0 _ rfl
 have a1 := HPT.out.a.z 1 _ rfl
 have b0 := HPT.out.b.z 0 _ rfl
 have b1 := HPT.out.b.z 1 _ rfl
 clear hE2
 go_wp2_with fail
 refine RL.out.mono ?_
 rintro e w10 ⟨rfl, hb10⟩
 have HJ10 := hid (HJT.out.below hb10)
 have HPK10 := hid (HPT.out.below hb10)
 clear hb10 a0 a1 b0 b1
 by_cases h0 : E2 = 0
 case neg =>
  have f0 : (E2 != 0) = true := by simpa using h0
  have HR : Hid (rdE l H = E2) := rdE_labE HPZ.out HHE.out HP0.out (by rw [HZ.out.2]; exact HE2.out) h0
  have HNE := hid h0
  clear h0
  obtain ⟨c0, c1, c2, c3, c4, c5, c6, c7, c8⟩ := HJ10.out.x.c9
  obtain ⟨z0, z1, z2, z3, z4, z5, z6, z7, z8⟩ := HJ10.out.z.c9
  obtain ⟨y0, y1, y2, y3, y4, y5, y6, y7, y8⟩ := HJ10.out.z.f9
  go_wp2_with fail
  refine bodyPost_ret (results_at_two rfl _ (B + 1) [.int .i64 F, .int .i64 0, .slice none 0 0, .string (bs hs), .string (bs lo), .string ⟨#[]⟩, .string ⟨#[]⟩, .string (bs t9), .string (bs tg)] _ rfl (fill9 HJ10.out.z _ _ _ _ _ _ _ _ _) Tryz.underlying27 rfl (by kernel_rfl) _ rfl) rfl ?_
  exact ⟨H, ⟨F, 0, [], hs, lo, [], [], t9, tg⟩, .slice none 0 0, (HHR.out), by rw [HR.out]; rfl, ⟨none, 0, rfl, fun h => absurd rfl h⟩, by rw [HBB.out]; exact below9 HJ10.out.be (show B ≤ B + 1 by omega) _ _ _ _ _ _ _ _ _, fun h => absurd (HR.out.symm.trans h) HNE.out⟩
 case pos =>
 subst h0
 have hxl : xL l = ⟨F, 0, [], hs, lo, [], [], t9, tg⟩ := by rw [xL, HFW.out.2.1, HZ.out.2, HLO.out.1, HQ9.out.2.2, HTG.out.1]
 have hlst := rdE_lastE HPZ.out HHE.out HP0.out (by rw [HZ.out.2]; exact HE2.out)
 rw [hxl, psN, HZ.out.2] at hlst
 have HLS := hid hlst
 have HFF : Hid (F = 5 ∨ F = 6) := by show _ ∨ _; have := HFW.out.1; omega
 have HTX : Hid (t9.length ≤ 140737488351232 ∧ tg.length ≤ 140737488351232) := by
  have h := text_le HAP.out HPZ.out
  rw [HQ9.out.2.2, HTG.out.1] at h
  exact h
 have LS : Hid (Calls Tryz.prog 44 #[.agg #[.int .i64 F, .int .i64 0, .slice none 0 0, .string (bs hs), .string (bs lo), .string ⟨#[]⟩, .string ⟨#[]⟩, .string (bs t9), .string (bs tg)], .agg #[va, vb], .agg #[.slice a5 n7 n5, .slice a6 n7 n6]] w10 (RetLs ⟨F, 0, [], hs, lo, [], [], t9, tg⟩ (prs (prot hs H) ++ prs (partN l 1)) w10)) :=
  rlast_any ⟨F, 0, [], hs, lo, [], [], t9, tg⟩ (prs (prot hs H)) (prs (partN l 1)) (.slice none 0 0) _ _ w10 ⟨none, 0, rfl, fun h => absurd rfl h⟩ HPK10.out.ha HPK10.out.hb HFF.out rfl (Nat.le_trans HHD.out.2.2.1 (by decide)) (Nat.le_trans HPB.out.1 (by decide)) (fun p hp => by rcases List.mem_append.1 hp with h | h; exact HHD.out.2.2.2 p h; exact HPB.out.2 p h) HTX.out.1 HTX.out.2
 have a0 := HPK10.out.a.z 0 _ rfl
 have a1 := HPK10.out.a.z 1 _ rfl
 have b0 := HPK10.out.b.z 0 _ rfl
 have b1 := HPK10.out.b.z 1 _ rfl
 clear hxl hlst
 obtain ⟨c0, c1, c2, c3, c4, c5, c6, c7, c8⟩ := HJ10.out.x.c9
 obtain ⟨z0, z1, z2, z3, z4, z5, z6, z7, z8⟩ := HJ10.out.z.c9
 obtain ⟨y0, y1, y2, y3, y4, y5, y6, y7, y8⟩ := HJ10.out.z.f9
 go_wp2_with fail
 refine LS.out.mono ?_
 rintro e w11 ⟨z, vz, rfl, hT, hb11, hz⟩
 have HT11 := hid hT
 have HJ11 := hid (HJ10.out.below hb11)
 obtain ⟨az, cz, rfl, -⟩ := hT
 have HEZ : Hid (evv z (.slice az z.rcs.length cz) = .agg #[.int .i64 z.format, .int .i64 z.alg, .slice az z.rcs.length cz, .string (bs z.header), .string (bs z.loose), .string (bs z.aad), .string (bs z.iv), .string (bs z.cipher), .string (bs z.tag)]) := rfl
 rw [HEZ.out]
 obtain ⟨EL, hEL⟩ : ∃ c, lastE ⟨F, 0, [], hs, lo, [], [], t9, tg⟩ (prs (prot hs H) ++ prs (partN l 1)) = c := ⟨_, rfl⟩
 rw [hEL] at HLS hz ⊢
 have HZL := hid hz
 clear a0 a1 b0 b1 hb11 hEL hz c0 z0 y0 c1 z1 y1 c2 z2 y2 c3 z3 y3 c4 z4 y4 c5 z5 y5 c6 z6 y6 c7 z7 y7 c8 z8 y8
 obtain ⟨c0, c1, c2, c3, c4, c5, c6, c7, c8⟩ := HJ11.out.x.c9
 obtain ⟨z0, z1, z2, z3, z4, z5, z6, z7, z8⟩ := HJ11.out.z.c9
 obtain ⟨y0, y1, y2, y3, y4, y5, y6, y7, y8⟩ := HJ11.out.z.f9
 go_wp2_with fail
 refine bodyPost_ret (results_at_two rfl _ (B + 1) _ _ rfl (fill9 HJ11.out.z _ _ _ _ _ _ _ _ _) Tryz.underlying27 rfl (by kernel_rfl) _ rfl) rfl ?_
 exact ⟨H, z, .slice az z.rcs.length cz, HHR.out, by rw [HLS.out.1]; rfl, HT11.out.fill9 HJ11.out.z _ _ _ _ _ _ _ _ _, by rw [HBB.out]; exact below9 HJ11.out.be (show B ≤ B + 1 by omega) _ _ _ _ _ _ _ _ _, fun h => (HZL.out (HLS.out.1.symm.trans h)).trans (HLS.out.2 h).symm⟩
end Ce
end Go.Proofs.YtikgonlhdkknkaaGreatDoor
namespace Go.Proofs.YtikgonlhdkknkaaGreatDoor
open Go.RowKit
namespace Ce
open Co (Am Ra up rcells rv UT DecR enc Its holds tell okA)
open Dr (Rs)
theorem rreadT_any (s : ByteArray) (d i b ro : Int) (w : World) (hz : s.size ≤ 140737488351232) :
  Calls Tryz.prog 7 #[.string s, .agg #[.int .i64 d, .int .i64 i, .int .i64 b, .int .i64 ro]] w (RetRd s.toList d i b ro w) := by
 obtain ⟨B, hB⟩ : ∃ B, w.heap.size = B := ⟨_, rfl⟩
 have HBB := hid hB
 have DC := hid (fun w' => Co.rdecode_any s d i b ro w' hz)
 have hL0 := At.ofAlloc w #[.int .i64 d, .int .i64 i, .int .i64 b, .int .i64 ro] 23
 have hL1 := hL0.alloc (eoz)
 have hE1 := At.ofAlloc (w.alloc (Obj.cells #[.int .i64 d, .int .i64 i, .int .i64 b, .int .i64 ro] 23)) #[.int .i64 0, .int .i64 0, .slice none 0 0, .string ⟨#[]⟩, .string ⟨#[]⟩, .string ⟨#[]⟩, .string ⟨#[]⟩, .string ⟨#[]⟩, .string ⟨#[]⟩] 27
 have hB1 : Below B w ((w.alloc (Obj.cells #[.int .i64 d, .int .i64 i, .int .i64 b, .int .i64 ro] 23)).alloc (eoz)) := ((Below.refl B w).alloc (Nat.le_of_eq hB.symm) _).alloc (by rw [World.size_alloc]; omega) _
 rw [World.size_alloc] at hE1
 clear hL0 hz
 go_enter Tryz.func7, Tryz.ntmps7
 go_upto_region 1 with fail
 rw [hB] at hL1 hE1
 try rw [hB]
 obtain ⟨w0, hw0⟩ : ∃ x, (w.alloc (Obj.cells #[.int .i64 d, .int .i64 i, .int .i64 b, .int .i64 ro] 23)).alloc (eoz) = x := ⟨_, rfl⟩
 have HS0 : Hid (w0.heap.size = B + 2) := by show _ = _; rw [← hw0, ← hB]; simp
 rw [hw0] at hL1 hE1 hB1
 try rw [hw0]
 clear hw0 hB
 have HL0 := hid hL1
 have HE0 := hid hE1
 have HB0 := hid hB1
 clear hL1 hE1 hB1
 obtain ⟨l0, l1, l2, l3⟩ := HL0.out.c4
 go_wp2_with fail
 refine (DC.out w0).mono ?_
 rintro e w1 ⟨rr, hr, v, rfl, ho, hb1⟩
 have HR := hid hr
 have HO := hid ho
 have HB1 : Hid (Below B w w1) := HB0.out.trans (hb1.mono (by rw [HS0.out]; omega))
 have HS1 : Hid (B + 2 ≤ w1.heap.size) := by have := hb1.size; rw [HS0.out] at this; exact this
 have HL1 := hid (HL0.out.below hb1 (by rw [HS0.out]; omega))
 have HE1 := hid (HE0.out.below hb1 (by rw [HS0.out]; omega))
 obtain ⟨av, cv, rfl, hav⟩ := own_form ho
 clear hr ho hb1 hav l0 l1 l2 l3
 cases rr with
 | no c p f =>
  simp only [Co.decL, Co.decE, Co.decP, List.length_nil] at HO ⊢
  have hc : ¬ c = 0 := decE_no HR.out
  have hcb : (c != 0) = true := by simpa using hc
  clear hc
  obtain ⟨ec0, ec1, ec2, ec3, ec4, ec5, ec6, ec7, ec8⟩ := HE1.out.c9
  obtain ⟨ef0, ef1, ef2, ef3, ef4, ef5, ef6, ef7, ef8⟩ := HE1.out.f9
  go_wp2_with fail
  refine bodyPost_ret (results_at_two rfl _ (B + 1) [.int .i64 0, .int .i64 0, .slice none 0 0, .string ⟨#[]⟩, .string ⟨#[]⟩, .string ⟨#[]⟩, .string ⟨#[]⟩, .string ⟨#[]⟩, .string ⟨#[]⟩] _ rfl (fill9 HE1.out _ _ _ _ _ _ _ _ _) Tryz.underlying27 rfl (by kernel_rfl) _ rfl) rfl ?_
  exact ⟨(c, Ev0), .no HR.out, .slice none 0 0, rfl, Ty.nil _, by rw [HBB.out]; exact below9 HB1.out (Nat.le_succ _) _ _ _ _ _ _ _ _ _⟩
 | ok l =>
  simp only [Co.decL, Co.decE, Co.decP] at HO ⊢
  have hap := apart HR.out
  have RQ := hid (rread_any l s.toList d.toNat (.slice av l.length cv) w1 d i b ro (by have h := own_sc HO.out (by rw [List.length_map]); exact h) hap)
  obtain ⟨n, hn⟩ : ∃ n, l.length = n := ⟨_, rfl⟩
  obtain ⟨l0, l1, l2, l3⟩ := HL1.out.c4
  rw [hn] at RQ ⊢
  clear hap hn
  go_wp2_with fail
  refine RQ.out.mono ?_
  rintro e w2 ⟨H, z, vz, hH, rfl, hT, hb2, hzz⟩
  have HHH := hid hH
  have HT2 := hid hT
  have HZZ := hid hzz
  have HB2 : Hid (Below B w w2) := HB1.out.trans (hb2.mono (by have := HS1.out; omega))
  have HS2 : Hid (B + 2 ≤ w2.heap.size) := Nat.le_trans HS1.out hb2.size
  have HE2 := hid (HE1.out.below hb2 (by have := HS1.out; omega))
  obtain ⟨a2, c2, rfl, -⟩ := hT
  have HEV : Hid (evv z (.slice a2 z.rcs.length c2) = .agg #[.int .i64 z.format, .int .i64 z.alg, .slice a2 z.rcs.length c2, .string (bs z.header), .string (bs z.loose), .string (bs z.aad), .string (bs z.iv), .string (bs z.cipher), .string (bs z.tag)]) := rfl
  obtain ⟨E0, hE0⟩ : ∃ c, rdE l H = c := ⟨_, rfl⟩
  have HQ0 := hid hE0
  rw [HEV.out, hE0]
  clear hH hzz hb2 l0 l1 l2 l3 hE0
  obtain ⟨g, hg⟩ : ∃ g, w2.heap.size = g := ⟨_, rfl⟩
  have hA3 := At.ofAlloc w2 #[.int .i64 z.format, .int .i64 z.alg, .slice a2 z.rcs.length c2, .string (bs z.header), .string (bs z.loose), .string (bs z.aad), .string (bs z.iv), .string (bs z.cipher), .string (bs z.tag)] 27
  have hE3 := HE2.out.alloc (eo9 z a2 c2)
  have hB3 : Below B w (w2.alloc (eo9 z a2 c2)) := HB2.out.alloc (by have := HS2.out; omega) _
  have hT3 := HT2.out.below ((Below.refl w2.heap.size w2).alloc (nle _) (eo9 z a2 c2))
  go_upto_region 5 with fail
  rw [hg] at hA3
  try rw [hg]
  obtain ⟨w3, hw3⟩ : ∃ x, w2.alloc (eo9 z a2 c2) = x := ⟨_, rfl⟩
  rw [hw3] at hA3 hE3 hB3 hT3
  try rw [hw3]
  have HA3 := hid hA3
  have HE3 := hid hE3
  have HB3 := hid hB3
  have HT3 := hid hT3
  clear hw3 hg hA3 hE3 hB3 hT3
  by_cases h0 : E0 = 0
  case neg =>
   have HCN := hid h0
   have f0 : (E0 != 0) = true := by simpa using h0
   clear h0
   obtain ⟨ec0, ec1, ec2, ec3, ec4, ec5, ec6, ec7, ec8⟩ := HE3.out.c9
   obtain ⟨ef0, ef1, ef2, ef3, ef4, ef5, ef6, ef7, ef8⟩ := HE3.out.f9
   go_wp2_with fail
   refine bodyPost_ret (results_at_two rfl _ (B + 1) [.int .i64 0, .int .i64 0, .slice none 0 0, .string ⟨#[]⟩, .string ⟨#[]⟩, .string ⟨#[]⟩, .string ⟨#[]⟩, .string ⟨#[]⟩, .string ⟨#[]⟩] _ rfl (fill9 HE3.out _ _ _ _ _ _ _ _ _) Tryz.underlying27 rfl (by kernel_rfl) _ rfl) rfl ?_
   exact ⟨(rdE l H, rdV l H), Rd.of HR.out HHH.out, .slice none 0 0, by rw [rdV_no HQ0.out HCN.out, HQ0.out]; rfl, by rw [rdV_no HQ0.out HCN.out]; exact Ty.nil _, by rw [HBB.out]; exact below9 HB3.out (Nat.le_succ _) _ _ _ _ _ _ _ _ _⟩
  case pos =>
  subst h0
  obtain ⟨ec0, ec1, ec2, ec3, ec4, ec5, ec6, ec7, ec8⟩ := HE3.out.c9
  obtain ⟨ef0, ef1, ef2, ef3, ef4, ef5, ef6, ef7, ef8⟩ := HE3.out.f9
  obtain ⟨k0, k1, k2, k3, k4, k5, k6, k7, k8⟩ := HA3.out.c9
  go_wp2_with fail
  refine bodyPost_ret (results_at_two rfl _ (B + 1) _ _ rfl (fill9 HE3.out _ _ _ _ _ _ _ _ _) Tryz.underlying27 rfl (by kernel_rfl) _ rfl) rfl ?_
  have hzr := HZZ.out HQ0.out
  refine ⟨(rdE l H, rdV l H), Rd.of HR.out HHH.out, .slice a2 z.rcs.length c2, by rw [HQ0.out, ← hzr]; rfl, ?_, by rw [HBB.out]; exact below9 HB3.out (Nat.le_succ _) _ _ _ _ _ _ _ _ _⟩
  rw [← hzr]
  exact HT3.out.fill9 HE3.out _ _ _ _ _ _ _ _ _
end Ce
end Go.Proofs.YtikgonlhdkknkaaGreatDoor
