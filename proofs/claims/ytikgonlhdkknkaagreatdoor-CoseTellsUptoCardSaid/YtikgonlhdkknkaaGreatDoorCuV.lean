import Derived.Test.YtikgonlhdkknkaaGreatDoorCuA
import Derived.Test.YtikgonlhdkknkaaGreatDoorCuB
set_option maxRecDepth 100000
set_option maxHeartbeats 1600000
set_option linter.unusedVariables false
set_option linter.unusedSimpArgs false
open Go.Lib (hid)
namespace Go.Proofs.YtikgonlhdkknkaaGreatDoor
open Go.RowKit
namespace Ce
theorem bdN {B : Nat} {a w : World} (h : Below B a w) (k : Nat) : Below B a (w.drewN k) := ⟨h.os, h.tape, h.output, h.size, h.block⟩
def bs (l : List UInt8) : ByteArray := ⟨l.toArray⟩
theorem bs_list (l : List UInt8) : (bs l).toList = l := tl_mk l
theorem bs_of (s : ByteArray) : bs s.toList = s := by
 apply tl_inj
 exact bs_list _
def rpv (r : Rp) : List Value := [.int .i64 r.way, .int .i64 r.size, .int .i64 r.kind, .string (bs r.name), .string (bs r.key), .string (bs r.salt), .int .i64 r.rounds, .string (bs r.iv), .string (bs r.loose)]
def rpcells (l : List Rp) : List Value := l.flatMap rpv
theorem rpcells_append (a b : List Rp) : rpcells (a ++ b) = rpcells a ++ rpcells b := by rw [rpcells, rpcells, rpcells, List.flatMap_append]
theorem rpcells_length (l : List Rp) : (rpcells l).length = l.length * 9 := by
 induction l with
 | nil => rfl
 | cons a l ih => rw [show rpcells (a :: l) = rpv a ++ rpcells l from rfl, lap, ih, lco]; simp [rpv]; omega
theorem rpv_one (r : Rp) : ∀ u ∈ rpv r, u.oneCell' = true := by
 intro u hu
 rw [rpv] at hu
 simp only [List.mem_cons, List.mem_nil_iff, or_false] at hu
 rcases hu with rfl | rfl | rfl | rfl | rfl | rfl | rfl | rfl | rfl <;> rfl
theorem rpcells_one (l : List Rp) : ∀ u ∈ rpcells l, u.oneCell' = true := by
 intro u hu
 rw [rpcells, List.mem_flatMap] at hu
 obtain ⟨r, _, hu⟩ := hu
 exact rpv_one r u hu
theorem infoRp : (Tryz.prog.info? 57).map (fun i => (i.zero, i.size, i.bytes)) = some (some (.agg #[.int .i64 0, .int .i64 0, .int .i64 0, .string ByteArray.empty, .string ByteArray.empty, .string ByteArray.empty, .int .i64 0, .string ByteArray.empty, .string ByteArray.empty]), 9, 112) := by kernel_rfl
def Tx (n : Nat) (w : World) (v : Value) (l : List Rp) : Prop := ∃ a c, v = .slice a l.length c ∧ (l ≠ [] → ∃ g o, a = some ⟨g, o, none⟩ ∧ At w g o (rpcells l) ∧ g < w.heap.size ∧ g ≠ n)
theorem Tx.bg {n : Nat} {w w' : World} {v : Value} {l : List Rp} (h : Tx n w v l) (hb : Bg n w w') : Tx n w' v l := by
 obtain ⟨a, c, h1, h2⟩ := h
 refine ⟨a, c, h1, fun hl => ?_⟩
 obtain ⟨g, o, h3, h4, h5, h6⟩ := h2 hl
 exact ⟨g, o, h3, At.bg h4 hb h5 h6, nlt h5 hb.size, h6⟩
def Ty (w : World) (v : Value) (l : List Rp) : Prop := ∃ a c, v = .slice a l.length c ∧ (l ≠ [] → ∃ g o, a = some ⟨g, o, none⟩ ∧ At w g o (rpcells l) ∧ g < w.heap.size)
theorem Ty.below {w w' : World} {v : Value} {l : List Rp} (h : Ty w v l) (hb : Below w.heap.size w w') : Ty w' v l := by
 obtain ⟨a, c, h1, h2⟩ := h
 refine ⟨a, c, h1, fun hl => ?_⟩
 obtain ⟨g, o, h3, h4, h5⟩ := h2 hl
 exact ⟨g, o, h3, h4.below hb h5, nlt h5 hb.size⟩
theorem Ty.nil (w : World) : Ty w (.slice none 0 0) [] := ⟨none, 0, rfl, fun h => absurd rfl h⟩
theorem rp_at {w : World} {g o : Nat} {l : List Rp} (h : At w g o (rpcells l)) (i : Nat) (r : Rp) (hi : l[i]? = some r) : At w g (o + i * 9) (rpv r) := by
 obtain ⟨hlt, he⟩ := List.getElem?_eq_some_iff.1 hi
 have h1 : l = l.take i ++ ([r] ++ l.drop (i + 1)) := by rw [← he]; simp
 have h2 : rpcells l = rpcells (l.take i) ++ rpv r ++ rpcells (l.drop (i + 1)) := by
  conv => lhs; rw [h1]
  rw [rpcells_append, rpcells_append, List.append_assoc]
  simp [rpcells]
 rw [h2] at h
 have h3 := At.sub h
 rw [rpcells_length, List.length_take, Nat.min_eq_left (Nat.le_of_lt hlt)] at h3
 exact h3
def evv (x : Ev) (vT : Value) : Value := .agg #[.int .i64 x.format, .int .i64 x.alg, vT, .string (bs x.header), .string (bs x.loose), .string (bs x.aad), .string (bs x.iv), .string (bs x.cipher), .string (bs x.tag)]
abbrev eo9 (x : Ev) (a : Option Addr) (c : Nat) : Obj := Obj.cells #[.int .i64 x.format, .int .i64 x.alg, .slice a x.rcs.length c, .string (bs x.header), .string (bs x.loose), .string (bs x.aad), .string (bs x.iv), .string (bs x.cipher), .string (bs x.tag)] 27
abbrev eoz : Obj := Obj.cells #[.int .i64 0, .int .i64 0, .slice none 0 0, .string ⟨#[]⟩, .string ⟨#[]⟩, .string ⟨#[]⟩, .string ⟨#[]⟩, .string ⟨#[]⟩, .string ⟨#[]⟩] 27
def evcells (x : Ev) (vT : Value) : List Value := [.int .i64 x.format, .int .i64 x.alg, vT, .string (bs x.header), .string (bs x.loose), .string (bs x.aad), .string (bs x.iv), .string (bs x.cipher), .string (bs x.tag)]
def RetEv (x : Ev) (c : Int) (w : World) (e : Ending) (w' : World) : Prop := ∃ vT, e = .returned (.tuple #[evv x vT, .int .i64 c]) ∧ Ty w' vT x.rcs ∧ Below w.heap.size w w'
end Ce
end Go.Proofs.YtikgonlhdkknkaaGreatDoor
namespace Go.Proofs.YtikgonlhdkknkaaGreatDoor
open Go.RowKit
namespace Ce
open Co (Am Ra up rcells rv)
theorem eqN (w : World) : (binOp BinOp.eql 43 (.slice none 0 0) (.slice none 0 0)).run Tryz.prog w = .ok (.bool true) w := by kernel_rfl
theorem eqS (g o n c : Nat) (w : World) : (binOp BinOp.eql 43 (.slice (some ⟨g, o, none⟩) n c) (.slice none 0 0)).run Tryz.prog w = .ok (.bool false) w := by kernel_rfl
theorem neN (w : World) : (binOp BinOp.neq 43 (.slice none 0 0) (.slice none 0 0)).run Tryz.prog w = .ok (.bool false) w := by kernel_rfl
theorem neS (g o n c : Nat) (w : World) : (binOp BinOp.neq 43 (.slice (some ⟨g, o, none⟩) n c) (.slice none 0 0)).run Tryz.prog w = .ok (.bool true) w := by kernel_rfl
def mcells (F A : Int) (vT : Value) (h lo aa iv ci tg : ByteArray) (d i b r : Int) (vp vl vs : Value) : List Value :=
 [.int .i64 F, .int .i64 A, vT, .string h, .string lo, .string aa, .string iv, .string ci, .string tg, .int .i64 d, .int .i64 i, .int .i64 b, .int .i64 r, vp, vl, vs]
section
variable (g : Nat) (w : World) (F A : Int) (vT : Value) (h lo aa iv ci tg : ByteArray) (d i b r : Int) (vp vl vs : Value)
abbrev Mm := At w g 0 (mcells F A vT h lo aa iv ci tg d i b r vp vl vs)
end
theorem ccipher_any (g : Nat) (w : World) (F A : Int) (vT : Value) (h lo aa iv ci tg : ByteArray) (d i b r : Int) (vp vl vs : Value) (ps : List (Am × Am))
  (hM : Mm g w F A vT h lo aa iv ci tg d i b r vp vl vs) (hg : g < w.heap.size) (hp : Px g w vs ps) (hl : ps.length ≤ 100000) (hF : F = 5 ∨ F = 6) :
  Calls Tryz.prog 17 #[.pointer (some ⟨g, 0, none⟩)] w (fun e w' => e = .returned (.int .i64 (algP F ps).1) ∧ Bg g w w' ∧ ∃ A', Mm g w' F A' vT h lo aa iv ci tg d i b r vp vl vs ∧ ((algP F ps).1 = 0 → A' = (algP F ps).2)) := by
 have HM := hid hM
 have HG := hid hg
 have HFF := hid hF
 obtain ⟨E, hE⟩ : ∃ E, algP F ps = E := ⟨_, rfl⟩
 rw [hE]
 have HE := hid hE
 have FD := hid (cfind_any g g 1 vs ps w (by have := hM.cell 15 _ rfl; rwa [Nat.zero_add] at this) hp hl)
 have FO := hid (fun n w => formatOf_any n w)
 clear hp hl hE hM hg hF
 have qN := eqN
 have qS := eqS
 go_enter Tryz.func17, Tryz.ntmps17
 go_wp2_with fail
 refine FD.out.mono ?_
 rintro e w1 ⟨hn, hs, hb1⟩
 have HM1 := hid (HM.out.below hb1 HG.out)
 have HB1 : Hid (Bg g w w1) := Bg.of hb1
 have HG1 : Hid (g < w1.heap.size) := nlt HG.out hb1.size
 have HE2 := HE.out
 rw [algP] at HE2
 cases hf : find 1 ps with
 | none =>
  rw [hf] at HE2
  simp only at HE2
  rw [hn hf]
  clear hn hs hb1 hf
  go_wp2_with fail
  go_ret
  exact ⟨by rw [← HE2]; rfl, HB1.out, A, HM1.out, fun h => by rw [← HE2] at h; cases h⟩
 | some v =>
  rw [hf] at HE2
  simp only at HE2
  obtain ⟨v1, P, rfl, hW, hP, hv⟩ := hs v hf
  obtain ⟨gp, op, cp, rfl, hl1, hc1, hA1, hg1, hne1⟩ := hW
  have hx := At.headA hA1 0 (List.length_pos_iff.2 hP)
  rw [show P.getD 0 ⟨0, 0, []⟩ = v from by rw [← hv]; cases P <;> rfl] at hx
  obtain ⟨pl, hpl⟩ : ∃ n, P.length = n := ⟨_, rfl⟩
  have hpl0 : 0 < pl := by rw [← hpl]; exact List.length_pos_iff.2 hP
  rw [hpl] at hl1 ⊢
  have HN0 := hid (aIn hx (aIn hg1 hne1))
  have n0 := hx.cell 0 _ rfl
  have n1 := hx.cell 1 _ rfl
  rw [Nat.zero_mul, Nat.add_zero] at n0 n1
  try rw [Nat.add_zero] at n0
  obtain ⟨kd, hkd⟩ : ∃ t, v.kind = t := ⟨_, rfl⟩
  obtain ⟨nm, hnm⟩ : ∃ t, v.num = t := ⟨_, rfl⟩
  rw [hkd] at n0 HE2
  rw [hnm] at n1 HE2
  clear hn hs hb1 hf hx hA1 hg1 hne1 hv hP hpl hkd hnm hc1 hl1
  by_cases hk : kd = 0
  case neg =>
   rw [if_pos (.inl hk)] at HE2
   have f0 : ¬ (kd : Int) = 0 := by omega
   have f0b : ((kd : Int) != 0) = true := by simp; omega
   clear hk
   go_wp2_with fail
   go_ret
   exact ⟨by rw [← HE2]; rfl, HB1.out, A, HM1.out, fun h => by rw [← HE2] at h; cases h⟩
  case pos =>
  subst hk
  by_cases hn2 : 255 < nm
  ·rw [if_pos (.inr hn2)] at HE2
   have f1 : (255 : Int) < (nm : Int) := by omega
   clear hn2
   go_wp2_with fail
   go_ret
   exact ⟨by rw [← HE2]; rfl, HB1.out, A, HM1.out, fun h => by rw [← HE2] at h; cases h⟩
  ·rw [if_neg (by omega)] at HE2
   have f1 : ¬ (255 : Int) < (nm : Int) := by omega
   have e1 : IntKind.i64.wrap (nm : Int) = (nm : Int) := Co.wrap_fit nm (by unfold maxLen; omega)
   have m0 := HM1.out.z 0 _ rfl
   have m1 := HM1.out.z 1 _ rfl
   have z1 := HM1.out.zf 1 (by simp [mcells])
   have HM2 := hid (HM1.out.set 1 (.int .i64 (nm : Int)))
   have HB2 := hid (HB1.out.set 1 (.int .i64 (nm : Int)))
   have p0 := HM2.out.z 0 _ rfl
   have p1 := HM2.out.z 1 _ rfl
   have y1 := HM2.out.zf 1 (by simp [mcells])
   have HS2 : Hid (g < (w1.setCell ⟨g, 1, none⟩ (.int .i64 (nm : Int))).heap.size) := by show _ < _; rw [World.size_setCell]; exact HG1.out
   rcases HFF.out with rfl | rfl
   ·have h5 : ((nm : Int) + if (5 : Int) = 6 then 100 else 0) = (nm : Int) := by simp
    rw [h5] at HE2
    clear hn2 h5
    obtain ⟨fx, hfx⟩ : ∃ f, fmtOf ((nm : Int)) = f := ⟨_, rfl⟩
    have FO2 := hid (fun w => FO.out ((nm : Int)) w)
    rw [hfx] at HE2 FO2
    clear hfx
    go_upto_region 9 with fail
    obtain ⟨w2, hw2⟩ : ∃ x, w1.setCell ⟨g, 1, none⟩ (.int .i64 (nm : Int)) = x := ⟨_, rfl⟩
    rw [hw2] at HM2 HB2 HS2 ⊢
    clear hw2 m0 m1 z1 p0 p1 y1
    have p0 := HM2.out.z 0 _ rfl
    have p1 := HM2.out.z 1 _ rfl
    have HC2 := hid (aIn p0 p1)
    by_cases hfF : fx = 5
    ·subst hfF
     rw [if_neg (by simp)] at HE2
     have HE3 := hid HE2
     clear HE2
     go_region_held3 (fun w' => w'.cell? ⟨g, 0, none⟩ = some (.int .i64 5) ∧ w'.cell? ⟨g, 1, none⟩ = some (.int .i64 ((nm : Int)))) (first | exact HC3.out | exact HC2.out) (first | (go_at_call 36; refine (FO2.out _).mono ?_; rintro e w3 ⟨rfl, hb3⟩; have HM3 := hid ((HM2.out.drewN 1).below hb3 HS2.out); have HB3 := hid ((HB2.out.drew).trans (Bg.of (g := g) hb3)); have HC3 : Hid (w3.cell? ⟨g, 0, none⟩ = some (.int .i64 5) ∧ w3.cell? ⟨g, 1, none⟩ = some (.int .i64 ((nm : Int)))) := (by have h9 := HM3.out.z 0 _ rfl; have h8 := HM3.out.z 1 _ rfl; exact ⟨h9, h8⟩); clear hb3))
     all_goals
      go_wp2_with fail
      go_ret
      exact ⟨by rw [← HE3.out]; rfl, HB3.out, _, HM3.out, fun _ => by rw [← HE3.out]⟩
    ·rw [if_pos hfF] at HE2
     have HE3 := hid HE2
     have f9 : (fx != 5) = true := by simpa using hfF
     clear HE2
     go_region_held3 (fun w' => w'.cell? ⟨g, 0, none⟩ = some (.int .i64 5) ∧ w'.cell? ⟨g, 1, none⟩ = some (.int .i64 ((nm : Int)))) (first | exact HC3.out | exact HC2.out) (first | (go_at_call 36; refine (FO2.out _).mono ?_; rintro e w3 ⟨rfl, hb3⟩; have HM3 := hid ((HM2.out.drewN 1).below hb3 HS2.out); have HB3 := hid ((HB2.out.drew).trans (Bg.of (g := g) hb3)); have HC3 : Hid (w3.cell? ⟨g, 0, none⟩ = some (.int .i64 5) ∧ w3.cell? ⟨g, 1, none⟩ = some (.int .i64 ((nm : Int)))) := (by have h9 := HM3.out.z 0 _ rfl; have h8 := HM3.out.z 1 _ rfl; exact ⟨h9, h8⟩); clear hb3))
     all_goals
      go_wp2_with fail
      go_ret
      exact ⟨by rw [← HE3.out]; rfl, HB3.out, _, HM3.out, fun h => by rw [← HE3.out] at h; cases h⟩
   ·have h5 : ((nm : Int) + if (6 : Int) = 6 then 100 else 0) = (nm : Int) + 100 := by simp
    rw [h5] at HE2
    have e2 : IntKind.i64.wrap ((nm : Int) + 100) = (nm : Int) + 100 := by have := Co.wrap_fit (nm + 100) (by unfold maxLen; omega); push_cast at this; exact this
    replace HM2 := hid (HM2.out.set 1 (.int .i64 ((nm : Int) + 100)))
    replace HB2 := hid (HB2.out.set 1 (.int .i64 ((nm : Int) + 100)))
    replace HS2 : Hid (g < ((w1.setCell ⟨g, 1, none⟩ (.int .i64 (nm : Int))).setCell ⟨g, 1, none⟩ (.int .i64 ((nm : Int) + 100))).heap.size) := by show _ < _; rw [World.size_setCell]; exact HS2.out
    clear hn2 h5
    obtain ⟨fx, hfx⟩ : ∃ f, fmtOf ((nm : Int) + 100) = f := ⟨_, rfl⟩
    have FO2 := hid (fun w => FO.out ((nm : Int) + 100) w)
    rw [hfx] at HE2 FO2
    clear hfx
    go_upto_region 9 with fail
    obtain ⟨w2, hw2⟩ : ∃ x, (w1.setCell ⟨g, 1, none⟩ (.int .i64 (nm : Int))).setCell ⟨g, 1, none⟩ (.int .i64 ((nm : Int) + 100)) = x := ⟨_, rfl⟩
    rw [hw2] at HM2 HB2 HS2 ⊢
    clear hw2 m0 m1 z1 p0 p1 y1
    have p0 := HM2.out.z 0 _ rfl
    have p1 := HM2.out.z 1 _ rfl
    have HC2 := hid (aIn p0 p1)
    by_cases hfF : fx = 6
    ·subst hfF
     rw [if_neg (by simp)] at HE2
     have HE3 := hid HE2
     clear HE2
     go_region_held3 (fun w' => w'.cell? ⟨g, 0, none⟩ = some (.int .i64 6) ∧ w'.cell? ⟨g, 1, none⟩ = some (.int .i64 ((nm : Int) + 100))) (first | exact HC3.out | exact HC2.out) (first | (go_at_call 36; refine (FO2.out _).mono ?_; rintro e w3 ⟨rfl, hb3⟩; have HM3 := hid ((HM2.out.drewN 1).below hb3 HS2.out); have HB3 := hid ((HB2.out.drew).trans (Bg.of (g := g) hb3)); have HC3 : Hid (w3.cell? ⟨g, 0, none⟩ = some (.int .i64 6) ∧ w3.cell? ⟨g, 1, none⟩ = some (.int .i64 ((nm : Int) + 100))) := (by have h9 := HM3.out.z 0 _ rfl; have h8 := HM3.out.z 1 _ rfl; exact ⟨h9, h8⟩); clear hb3))
     all_goals
      go_wp2_with fail
      go_ret
      exact ⟨by rw [← HE3.out]; rfl, HB3.out, _, HM3.out, fun _ => by rw [← HE3.out]⟩
    ·rw [if_pos hfF] at HE2
     have HE3 := hid HE2
     have f9 : (fx != 6) = true := by simpa using hfF
     clear HE2
     go_region_held3 (fun w' => w'.cell? ⟨g, 0, none⟩ = some (.int .i64 6) ∧ w'.cell? ⟨g, 1, none⟩ = some (.int .i64 ((nm : Int) + 100))) (first | exact HC3.out | exact HC2.out) (first | (go_at_call 36; refine (FO2.out _).mono ?_; rintro e w3 ⟨rfl, hb3⟩; have HM3 := hid ((HM2.out.drewN 1).below hb3 HS2.out); have HB3 := hid ((HB2.out.drew).trans (Bg.of (g := g) hb3)); have HC3 : Hid (w3.cell? ⟨g, 0, none⟩ = some (.int .i64 6) ∧ w3.cell? ⟨g, 1, none⟩ = some (.int .i64 ((nm : Int) + 100))) := (by have h9 := HM3.out.z 0 _ rfl; have h8 := HM3.out.z 1 _ rfl; exact ⟨h9, h8⟩); clear hb3))
     all_goals
      go_wp2_with fail
      go_ret
      exact ⟨by rw [← HE3.out]; rfl, HB3.out, _, HM3.out, fun h => by rw [← HE3.out] at h; cases h⟩
end Ce
end Go.Proofs.YtikgonlhdkknkaaGreatDoor
namespace Go.Proofs.YtikgonlhdkknkaaGreatDoor
open Go.RowKit
namespace Ce
open Co (Am Ra up rcells rv)
theorem cname_any (g : Nat) (w : World) (F A : Int) (vT : Value) (h lo aa iv ci tg : ByteArray) (d i b r : Int) (vp vl vs : Value) (ps : List (Am × Am))
  (hM : Mm g w F A vT h lo aa iv ci tg d i b r vp vl vs) (hg : g < w.heap.size) (hp : Px g w vs ps) (hl : ps.length ≤ 100000) :
  Calls Tryz.prog 18 #[.pointer (some ⟨g, 0, none⟩)] w (fun e w' => e = .returned (.int .i64 (nameP ps).1) ∧ Bg g w w' ∧ ((nameP ps).1 = 0 → ∃ gx, w.heap.size ≤ gx ∧ Mm g w' F A (.slice (some ⟨gx, 0, none⟩) 1 1) h lo aa iv ci tg d i b r vp vl vs ∧ Tx g w' (.slice (some ⟨gx, 0, none⟩) 1 1) [⟨1, 0, 0, (nameP ps).2, [], [], 0, [], []⟩])) := by
 have HM := hid hM
 have HG := hid hg
 obtain ⟨E, hE⟩ : ∃ E, nameP ps = E := ⟨_, rfl⟩
 rw [hE]
 have HE := hid hE
 obtain ⟨B, hB⟩ : ∃ B, w.heap.size = B := ⟨_, rfl⟩
 have HBB := hid hB
 have FD := hid (fun (w' : World) h1 h2 => cfind_any g B 4 vs ps w' h1 h2 hl)
 have HP := hid hp
 have hA0 := At.ofAlloc w #[.int .i64 1, .int .i64 0, .int .i64 0, .string ⟨#[]⟩, .string ⟨#[]⟩, .string ⟨#[]⟩, .int .i64 0, .string ⟨#[]⟩, .string ⟨#[]⟩] 57
 have hB0 : Bg g w (w.alloc (Obj.cells #[.int .i64 1, .int .i64 0, .int .i64 0, .string ⟨#[]⟩, .string ⟨#[]⟩, .string ⟨#[]⟩, .int .i64 0, .string ⟨#[]⟩, .string ⟨#[]⟩] 57)) := (Bg.refl _ _).alloc _
 have hBL : Below w.heap.size w (w.alloc (Obj.cells #[.int .i64 1, .int .i64 0, .int .i64 0, .string ⟨#[]⟩, .string ⟨#[]⟩, .string ⟨#[]⟩, .int .i64 0, .string ⟨#[]⟩, .string ⟨#[]⟩] 57)) := (Below.refl _ _).alloc (nle _) _
 have hM0 := hM.alloc (Obj.cells #[.int .i64 1, .int .i64 0, .int .i64 0, .string ⟨#[]⟩, .string ⟨#[]⟩, .string ⟨#[]⟩, .int .i64 0, .string ⟨#[]⟩, .string ⟨#[]⟩] 57)
 have qN := neN
 have qS := neS
 clear hp hl hE hM hg
 go_enter Tryz.func18, Tryz.ntmps18
 go_wp2_with fail
 rw [hB] at hA0
 try rw [hB]
 clear hB
 obtain ⟨w0, hw0⟩ : ∃ x, w.alloc (Obj.cells #[.int .i64 1, .int .i64 0, .int .i64 0, .string ⟨#[]⟩, .string ⟨#[]⟩, .string ⟨#[]⟩, .int .i64 0, .string ⟨#[]⟩, .string ⟨#[]⟩] 57) = x := ⟨_, rfl⟩
 have HS0 : Hid (w0.heap.size = B + 1) := by show _ = _; rw [← hw0, ← HBB.out]; simp
 rw [hw0] at hA0 hB0 hBL hM0
 rw [hw0]
 have HA0 := hid hA0
 have HB0 := hid hB0
 have HBL := hid hBL
 clear hBL
 clear hw0 hA0 hB0
 have HGB : Hid (g < B) := by show g < B; rw [← HBB.out]; exact HG.out
 have HM0 : Hid (Mm g w0 F A vT h lo aa iv ci tg d i b r vp vl vs) := hM0
 clear hM0
 have HP0 : Hid (Px B w0 vs ps) := (HP.out.far (by rw [HBB.out]; exact nle _)).bg (Bg.of HBL.out)
 refine (FD.out _ (by have := HM0.out.cell 15 _ rfl; rwa [Nat.zero_add] at this) HP0.out).mono ?_
 rintro e w1 ⟨hn, hs, hb1⟩
 have HM1 := hid (HM0.out.below hb1 (by rw [HS0.out]; have := HGB.out; omega))
 have HA1 := hid (HA0.out.below hb1 (by rw [HS0.out]; omega))
 have HB1 : Hid (Bg g w w1) := HB0.out.trans (Bg.of hb1)
 have HS1 : Hid (B + 1 ≤ w1.heap.size) := by show _ ≤ _; rw [← HS0.out]; exact hb1.size
 have HE2 := HE.out
 rw [nameP] at HE2
 have FIN : ∀ (wa : World) (nm : ByteArray), Mm g wa F A vT h lo aa iv ci tg d i b r vp vl vs → B + 1 ≤ wa.heap.size →
   Mm g ((wa.alloc (Obj.cells #[.int .i64 1, .int .i64 0, .int .i64 0, .string nm, .string ⟨#[]⟩, .string ⟨#[]⟩, .int .i64 0, .string ⟨#[]⟩, .string ⟨#[]⟩] 57)).setCell ⟨g, 2, none⟩ (.slice (some ⟨wa.heap.size, 0, none⟩) 1 1)) F A (.slice (some ⟨wa.heap.size, 0, none⟩) 1 1) h lo aa iv ci tg d i b r vp vl vs ∧
   Tx g ((wa.alloc (Obj.cells #[.int .i64 1, .int .i64 0, .int .i64 0, .string nm, .string ⟨#[]⟩, .string ⟨#[]⟩, .int .i64 0, .string ⟨#[]⟩, .string ⟨#[]⟩] 57)).setCell ⟨g, 2, none⟩ (.slice (some ⟨wa.heap.size, 0, none⟩) 1 1)) (.slice (some ⟨wa.heap.size, 0, none⟩) 1 1) [⟨1, 0, 0, nm.toList, [], [], 0, [], []⟩] := fun wa nm hM hs => by
  have hgB := HGB.out
  refine ⟨(hM.alloc _).set 2 _, ⟨_, 1, rfl, fun _ => ⟨wa.heap.size, 0, rfl, ?_, by rw [World.size_setCell, World.size_alloc]; omega, by omega⟩⟩⟩
  rw [show rpcells [(⟨1, 0, 0, nm.toList, [], [], 0, [], []⟩ : Rp)] = [.int .i64 1, .int .i64 0, .int .i64 0, .string nm, .string ⟨#[]⟩, .string ⟨#[]⟩, .int .i64 0, .string ⟨#[]⟩, .string ⟨#[]⟩] from by
   show [_, _, _, _, _, _, _, _, _] = _
   rw [bs_of]; rfl]
  exact (At.ofAlloc wa #[.int .i64 1, .int .i64 0, .int .i64 0, .string nm, .string ⟨#[]⟩, .string ⟨#[]⟩, .int .i64 0, .string ⟨#[]⟩, .string ⟨#[]⟩] 57).other g 2 _ (Or.inl (by omega))
 have FINH := hid FIN
 clear FIN
 cases hf : find 4 ps with
 | none =>
  rw [hf] at HE2
  simp only at HE2
  rw [hn hf]
  clear hn hs hb1 hf
  obtain ⟨c0, c1, c2, c3, c4, c5, c6, c7, c8⟩ := HA1.out.c9
  have z2 := fun ob => (HM1.out.alloc ob).zf 2 (by simp [mcells])
  have d2 := fun ob => (HM1.out.alloc ob).z 2 _ rfl
  have HR := hid (FINH.out w1 ⟨#[]⟩ HM1.out HS1.out)
  have HBR := hid ((HB1.out.alloc (Obj.cells #[.int .i64 1, .int .i64 0, .int .i64 0, .string ⟨#[]⟩, .string ⟨#[]⟩, .string ⟨#[]⟩, .int .i64 0, .string ⟨#[]⟩, .string ⟨#[]⟩] 57)).set 2 (.slice (some ⟨w1.heap.size, 0, none⟩) 1 1))
  go_wp2_with fail
  go_ret
  exact ⟨by rw [← HE2]; rfl, HBR.out, fun _ => ⟨_, (by rw [HBB.out]; have := HS1.out; omega), HR.out.1, by rw [← HE2]; have h9 := HR.out.2; rw [show (⟨#[]⟩ : ByteArray).toList = [] from tl_mk []] at h9; exact h9⟩⟩
 | some v =>
  rw [hf] at HE2
  simp only at HE2
  obtain ⟨v1, P, rfl, hW, hP, hv⟩ := hs v hf
  obtain ⟨gp, op, cp, rfl, hl1, hc1, hA1, hg1, hne1⟩ := hW
  have hx := At.headA hA1 0 (List.length_pos_iff.2 hP)
  rw [show P.getD 0 ⟨0, 0, []⟩ = v from by rw [← hv]; cases P <;> rfl] at hx
  obtain ⟨pl, hpl⟩ : ∃ n, P.length = n := ⟨_, rfl⟩
  have hpl0 : 0 < pl := by rw [← hpl]; exact List.length_pos_iff.2 hP
  rw [hpl] at hl1 ⊢
  obtain ⟨kd, hkd⟩ : ∃ t, v.kind = t := ⟨_, rfl⟩
  obtain ⟨tx, htx⟩ : ∃ b : ByteArray, (⟨v.text.toArray⟩ : ByteArray) = b := ⟨_, rfl⟩
  have htl : v.text = tx.toList := by rw [← htx, tl_mk]
  have hts : v.text.length = tx.size := by rw [htl, tl_size]
  rw [hkd, htx] at hx
  rw [hkd, hts] at HE2
  have hXB := hid (aIn hx (aIn hg1 hne1))
  have n0 := hx.cell 0 _ rfl
  have n2 := hx.cell 2 _ rfl
  rw [Nat.zero_mul, Nat.add_zero] at n0 n2
  try rw [Nat.add_zero] at n0
  have a3 := HA1.out.z 3 _ rfl
  have y3 := HA1.out.zf 3 (by simp)
  have HA2 : Hid (At (w1.setCell ⟨B, 3, none⟩ (.string tx)) B 0 [.int .i64 1, .int .i64 0, .int .i64 0, .string tx, .string ⟨#[]⟩, .string ⟨#[]⟩, .int .i64 0, .string ⟨#[]⟩, .string ⟨#[]⟩]) := HA1.out.set 3 (.string tx)
  have HM2 : Hid (Mm g (w1.setCell ⟨B, 3, none⟩ (.string tx)) F A vT h lo aa iv ci tg d i b r vp vl vs) := HM1.out.other B 3 _ (Or.inl (by have := HGB.out; omega))
  have HB2 : Hid (Bg g w (w1.setCell ⟨B, 3, none⟩ (.string tx))) := HB1.out.setUp (by rw [HBB.out]; exact nle _) 3 _
  have n0' := (hx.other B 3 (.string tx) (Or.inl (Ne.symm hne1))).cell 0 _ rfl
  rw [Nat.zero_mul, Nat.add_zero] at n0'
  try rw [Nat.add_zero] at n0'
  by_cases hk : kd = 2
  case neg =>
   rw [if_pos (.inl hk)] at HE2
   have f0b : ((kd : Int) != 2) = true := by simp; omega
   have HE3 := hid HE2
   clear hk HE2 hn hs hf hx hA1 hv hP hpl hkd htx htl hts hc1 hl1 hg1 hb1
   go_wp2_with fail
   go_ret
   exact ⟨by rw [← HE3.out]; rfl, HB2.out, fun h => by rw [← HE3.out] at h; cases h⟩
  case pos =>
  subst hk
  obtain ⟨z, hz⟩ : ∃ z, tx.size = z := ⟨_, rfl⟩
  rw [hz] at HE2
  have a3' := HA2.out.z 3 _ rfl
  by_cases h1 : z < 1
  ·rw [if_pos (.inr (.inl h1))] at HE2
   have f1 : (z : Int) < 1 := by omega
   have HE3 := hid HE2
   clear h1 HE2 hn hs hf hx hA1 hv hP hpl hkd htx htl hts hc1 hl1 hg1 hb1
   go_wp2_with fail
   go_ret
   exact ⟨by rw [← HE3.out]; rfl, HB2.out, fun h => by rw [← HE3.out] at h; cases h⟩
  ·have f1 : ¬ (z : Int) < 1 := by omega
   by_cases h2 : 128 < z
   ·rw [if_pos (.inr (.inr h2))] at HE2
    have f2 : (128 : Int) < (z : Int) := by omega
    have HE3 := hid HE2
    clear h1 h2 HE2 hn hs hf hx hA1 hv hP hpl hkd htx htl hts hc1 hl1 hg1 hb1
    go_wp2_with fail
    go_ret
    exact ⟨by rw [← HE3.out]; rfl, HB2.out, fun h => by rw [← HE3.out] at h; cases h⟩
   ·rw [if_neg (by simp; omega), htl] at HE2
    have f2 : ¬ (128 : Int) < (z : Int) := by omega
    have HE3 := hid HE2
    have HS2 : Hid (B + 1 ≤ (w1.setCell ⟨B, 3, none⟩ (.string tx)).heap.size) := by show _ ≤ _; rw [World.size_setCell]; exact HS1.out
    obtain ⟨k0, k1, k2, k3, k4, k5, k6, k7, k8⟩ := HA2.out.c9
    have z2 := fun ob => (HM2.out.alloc ob).zf 2 (by simp [mcells])
    have d2 := fun ob => (HM2.out.alloc ob).z 2 _ rfl
    have HR := hid (FINH.out _ tx HM2.out HS2.out)
    have HBR := hid ((HB2.out.alloc (Obj.cells #[.int .i64 1, .int .i64 0, .int .i64 0, .string tx, .string ⟨#[]⟩, .string ⟨#[]⟩, .int .i64 0, .string ⟨#[]⟩, .string ⟨#[]⟩] 57)).set 2 (.slice (some ⟨(w1.setCell ⟨B, 3, none⟩ (.string tx)).heap.size, 0, none⟩) 1 1))
    rw [World.size_setCell] at HR HBR
    clear h1 h2 HE2 hn hs hf hx hA1 hv hP hpl hkd htx htl hts hc1 hl1 hg1 hb1
    go_wp2_with fail
    go_ret
    exact ⟨by rw [← HE3.out]; rfl, HBR.out, fun _ => ⟨_, (by rw [HBB.out]; have := HS1.out; omega), HR.out.1, by rw [← HE3.out]; exact HR.out.2⟩⟩
end Ce
end Go.Proofs.YtikgonlhdkknkaaGreatDoor
