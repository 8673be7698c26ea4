import Derived.Test.YtikgonlhdkknkaaGreatDoorCuS
import Derived.Test.YtikgonlhdkknkaaGreatDoorCeW
import Derived.Test.YtikgonlhdkknkaaGreatDoorCuD
import Derived.Test.YtikgonlhdkknkaaGreatDoorCuV
set_option maxRecDepth 100000
set_option maxHeartbeats 3200000
set_option linter.unusedVariables false
set_option linter.unusedSimpArgs false
open Go.Lib (hid)
namespace Go.Proofs.YtikgonlhdkknkaaGreatDoor
open Go.RowKit
namespace Ce
open Co (Am Ra up rcells rv okA UT DecR decE decL decP RetDec)
open Dr (Rs)
def RetRd (S : List UInt8) (d i b ro : Int) (w : World) (e : Ending) (w' : World) : Prop := ∃ y : Int × Ev, Rd S d i b ro y ∧ RetEv y.2 y.1 w e w'
theorem fmt_yes {F : Int} {ps : List (Am × Am)} (h : (algP F ps).1 = 0) : fmtOf (algP F ps).2 = F := by
 rw [algP] at h ⊢
 cases hf : find 1 ps with
 | none => rw [hf] at h; cases h
 | some v =>
  rw [hf] at h
  simp only at h ⊢
  by_cases h1 : v.kind ≠ 0 ∨ 255 < v.num
  ·rw [if_pos h1] at h; cases h
  ·rw [if_neg h1] at h ⊢
   by_cases h2 : fmtOf ((v.num : Int) + if F = 6 then 100 else 0) ≠ F
   ·rw [if_pos h2] at h; cases h
   ·rw [if_neg h2]
    simpa using h2
theorem fill9 {w : World} {T : Nat} {z0 z1 z2 z3 z4 z5 z6 z7 z8 : Value} (h : At w T 0 [z0, z1, z2, z3, z4, z5, z6, z7, z8]) (v0 v1 v2 v3 v4 v5 v6 v7 v8 : Value) : At (((((((((w.setCell ⟨T, 0, none⟩ v0).setCell ⟨T, 1, none⟩ v1).setCell ⟨T, 2, none⟩ v2).setCell ⟨T, 3, none⟩ v3).setCell ⟨T, 4, none⟩ v4).setCell ⟨T, 5, none⟩ v5).setCell ⟨T, 6, none⟩ v6).setCell ⟨T, 7, none⟩ v7).setCell ⟨T, 8, none⟩ v8) T 0 [v0, v1, v2, v3, v4, v5, v6, v7, v8] := ((((((((h.set 0 v0).set 1 v1).set 2 v2).set 3 v3).set 4 v4).set 5 v5).set 6 v6).set 7 v7).set 8 v8
theorem below9 {w0 w : World} {T B : Nat} (hb : Below B w0 w) (hT : B ≤ T) (v0 v1 v2 v3 v4 v5 v6 v7 v8 : Value) : Below B w0 (((((((((w.setCell ⟨T, 0, none⟩ v0).setCell ⟨T, 1, none⟩ v1).setCell ⟨T, 2, none⟩ v2).setCell ⟨T, 3, none⟩ v3).setCell ⟨T, 4, none⟩ v4).setCell ⟨T, 5, none⟩ v5).setCell ⟨T, 6, none⟩ v6).setCell ⟨T, 7, none⟩ v7).setCell ⟨T, 8, none⟩ v8) := ((((((((hb.setCell (p := ⟨T, 0, none⟩) hT v0).setCell (p := ⟨T, 1, none⟩) hT v1).setCell (p := ⟨T, 2, none⟩) hT v2).setCell (p := ⟨T, 3, none⟩) hT v3).setCell (p := ⟨T, 4, none⟩) hT v4).setCell (p := ⟨T, 5, none⟩) hT v5).setCell (p := ⟨T, 6, none⟩) hT v6).setCell (p := ⟨T, 7, none⟩) hT v7).setCell (p := ⟨T, 8, none⟩) hT v8
theorem bg9 {w0 w : World} {T g : Nat} (hb : Bg g w0 w) (v0 v1 v2 v3 v4 v5 v6 v7 v8 : Value) (hT : T = g) : Bg g w0 (((((((((w.setCell ⟨T, 0, none⟩ v0).setCell ⟨T, 1, none⟩ v1).setCell ⟨T, 2, none⟩ v2).setCell ⟨T, 3, none⟩ v3).setCell ⟨T, 4, none⟩ v4).setCell ⟨T, 5, none⟩ v5).setCell ⟨T, 6, none⟩ v6).setCell ⟨T, 7, none⟩ v7).setCell ⟨T, 8, none⟩ v8) := by
 subst hT
 exact ((((((((hb.set 0 v0).set 1 v1).set 2 v2).set 3 v3).set 4 v4).set 5 v5).set 6 v6).set 7 v7).set 8 v8
theorem ask0 (g : Nat) (w : World) : (Instr.index 52 (.agg #[.func (.func 16) #[.pointer (some ⟨g, 0, none⟩)] #[], .func (.func 17) #[.pointer (some ⟨g, 0, none⟩)] #[], .func (.func 18) #[.pointer (some ⟨g, 0, none⟩)] #[], .func (.func 19) #[.pointer (some ⟨g, 0, none⟩)] #[]]) (.int .i64 0)).run Tryz.prog w = .ok (.func (.func 16) #[.pointer (some ⟨g, 0, none⟩)] #[]) w := by kernel_rfl
theorem ask1 (g : Nat) (w : World) : (Instr.index 52 (.agg #[.func (.func 16) #[.pointer (some ⟨g, 0, none⟩)] #[], .func (.func 17) #[.pointer (some ⟨g, 0, none⟩)] #[], .func (.func 18) #[.pointer (some ⟨g, 0, none⟩)] #[], .func (.func 19) #[.pointer (some ⟨g, 0, none⟩)] #[]]) (.int .i64 1)).run Tryz.prog w = .ok (.func (.func 17) #[.pointer (some ⟨g, 0, none⟩)] #[]) w := by kernel_rfl
theorem ask2 (g : Nat) (w : World) : (Instr.index 52 (.agg #[.func (.func 16) #[.pointer (some ⟨g, 0, none⟩)] #[], .func (.func 17) #[.pointer (some ⟨g, 0, none⟩)] #[], .func (.func 18) #[.pointer (some ⟨g, 0, none⟩)] #[], .func (.func 19) #[.pointer (some ⟨g, 0, none⟩)] #[]]) (.int .i64 2)).run Tryz.prog w = .ok (.func (.func 18) #[.pointer (some ⟨g, 0, none⟩)] #[]) w := by kernel_rfl
theorem ask3 (g : Nat) (w : World) : (Instr.index 52 (.agg #[.func (.func 16) #[.pointer (some ⟨g, 0, none⟩)] #[], .func (.func 17) #[.pointer (some ⟨g, 0, none⟩)] #[], .func (.func 18) #[.pointer (some ⟨g, 0, none⟩)] #[], .func (.func 19) #[.pointer (some ⟨g, 0, none⟩)] #[]]) (.int .i64 3)).run Tryz.prog w = .ok (.func (.func 19) #[.pointer (some ⟨g, 0, none⟩)] #[]) w := by kernel_rfl
theorem Rd.of {S : List UInt8} {d i b ro : Int} {l : List Am} {H : Rs (List Am)} (h : DecR S d i b ro (.ok l)) (hH : preE l = 0 → Hd (hdrN l) d i b ro H) : Rd S d i b ro (rdE l H, rdV l H) := by
 by_cases hp : preE l = 0
 ·exact .all h hp (hH hp)
 ·have h1 : itE l H = preE l := by rw [itE, if_pos hp]
  have h2 : rdE l H = preE l := by rw [rdE, h1, if_pos hp]
  have h3 : rdV l H = Ev0 := by rw [rdV, if_pos (by rw [h2]; exact hp)]
  rw [h2, h3]
  exact .pre h hp
theorem rdV_no {l : List Am} {H : Rs (List Am)} {c : Int} (h : rdE l H = c) (hc : c ≠ 0) : rdV l H = Ev0 := by rw [rdV, if_pos (by rw [h]; exact hc)]
theorem ty_of {n m gx : Nat} {w w' : World} {r : Rp} (h : Tx n w (.slice (some ⟨gx, 0, none⟩) 1 1) [r]) (hb : Bg m w w') (hne : gx ≠ m) : Ty w' (.slice (some ⟨gx, 0, none⟩) 1 1) [r] := by
 obtain ⟨a, c, hv, hx⟩ := h
 obtain ⟨gy, oy, hy1, hy2, hy3, -⟩ := hx (by simp)
 subst hy1
 have h1 : (⟨gx, 0, none⟩ : Addr) = ⟨gy, oy, none⟩ := by injection hv with hv1; injection hv1
 injection h1 with h2 h3
 subst h2 h3
 exact ⟨_, 1, rfl, fun _ => ⟨gx, 0, rfl, At.bg hy2 hb hy3 hne, nlt hy3 hb.size⟩⟩
theorem text_le {S : List UInt8} {l : List Am} {d : Nat} (h : Apart S l d) (hp : preE l = 0) : (headN l 2).text.length ≤ 140737488351232 ∧ (tagN l).length ≤ 140737488351232 := by
 have hq := preE_zero hp
 obtain ⟨Ps, Bs, hL⟩ := laid h.one hq.1 hq.2.2.1 hq.2.2.2.1
 have h1 : ∀ j, j < wantN l → (headN l j).text.length ≤ 140737488351232 := fun j hj => by
  have hP := hL.part h j hj
  have h9 := head_cons hP.one.ne
  refine (hP.okL (headN l j) ?_).2.2
  show (partN l j).headD a0 ∈ partN l j
  rw [h9]
  exact List.mem_cons_self ..
 have hw : 3 ≤ wantN l := by rw [wantN]; split <;> omega
 refine ⟨h1 2 (by omega), ?_⟩
 rw [tagN]
 by_cases hf : fmtN l = 6
 ·rw [if_pos hf]
  refine h1 3 ?_
  rw [fmtN] at hf
  rw [wantN]
  split at hf
  ·omega
  ·rename_i h0; rw [if_neg h0]; omega
 ·rw [if_neg hf]; simp
theorem cread_any (s : ByteArray) (d i b ro : Int) (w : World) (hz : s.size ≤ 140737488351232) (hU : UT w.heap.size w) :
  Calls Tryz.prog 6 #[.string s, .agg #[.int .i64 d, .int .i64 i, .int .i64 b, .int .i64 ro]] w (RetRd s.toList d i b ro w) := by
 obtain ⟨B, hB⟩ : ∃ B, w.heap.size = B := ⟨_, rfl⟩
 have HBB := hid hB
 have DC := hid (fun w' hU => Co.decode_any s d i b ro w' hz hU)
 have HUT := hid hU
 have hL0 := At.ofAlloc w #[.int .i64 d, .int .i64 i, .int .i64 b, .int .i64 ro] 23
 have hL1 := hL0.alloc (eoz)
 have hE1 := At.ofAlloc (w.alloc (Obj.cells #[.int .i64 d, .int .i64 i, .int .i64 b, .int .i64 ro] 23)) #[.int .i64 0, .int .i64 0, .slice none 0 0, .string ⟨#[]⟩, .string ⟨#[]⟩, .string ⟨#[]⟩, .string ⟨#[]⟩, .string ⟨#[]⟩, .string ⟨#[]⟩] 27
 have hB1 : Below B w ((w.alloc (Obj.cells #[.int .i64 d, .int .i64 i, .int .i64 b, .int .i64 ro] 23)).alloc (eoz)) := ((Below.refl B w).alloc (Nat.le_of_eq hB.symm) _).alloc (by rw [World.size_alloc]; omega) _
 rw [World.size_alloc] at hE1
 clear hL0 hz hU
 go_enter Tryz.func6, Tryz.ntmps6
 go_upto_region 1 with fail
 rw [hB] at hL1 hE1
 try rw [hB]
 obtain ⟨w0, hw0⟩ : ∃ x, (w.alloc (Obj.cells #[.int .i64 d, .int .i64 i, .int .i64 b, .int .i64 ro] 23)).alloc (eoz) = x := ⟨_, rfl⟩
 have HS0 : Hid (w0.heap.size = B + 2) := by show _ = _; rw [← hw0, ← hB]; simp
 rw [hw0] at hL1 hE1 hB1
 try rw [hw0]
 clear hw0 hB
 have HL0 := hid hL1
 have HE0 := hid hE1
 have HB0 := hid hB1
 clear hL1 hE1 hB1
 have HU0 : Hid (UT w0.heap.size w0) := by
  have h1 : UT B w := by rw [← HBB.out]; exact HUT.out
  exact (h1.below HB0.out).mono (by rw [HS0.out]; omega)
 obtain ⟨l0, l1, l2, l3⟩ := HL0.out.c4
 go_wp2_with fail
 refine (DC.out w0 HU0.out).mono ?_
 rintro e w1 ⟨rr, hr, v, rfl, ho, hb1⟩
 have HR := hid hr
 have HO := hid ho
 have HB1 : Hid (Below B w w1) := HB0.out.trans (hb1.mono (by rw [HS0.out]; omega))
 have HS1 : Hid (B + 2 ≤ w1.heap.size) := by have := hb1.size; rw [HS0.out] at this; exact this
 have HL1 := hid (HL0.out.below hb1 (by rw [HS0.out]; omega))
 have HE1 := hid (HE0.out.below hb1 (by rw [HS0.out]; omega))
 obtain ⟨av, cv, rfl, hav⟩ := own_form ho
 have HAV := hid hav
 clear hr ho hb1 hav l0 l1 l2 l3
 cases rr with
 | no c p f =>
  simp only [Co.decL, Co.decE, Co.decP, List.length_nil] at HO HAV ⊢
  have hc : ¬ c = 0 := decE_no HR.out
  have hcb : (c != 0) = true := by simpa using hc
  clear hc
  obtain ⟨ec0, ec1, ec2, ec3, ec4, ec5, ec6, ec7, ec8⟩ := HE1.out.c9
  obtain ⟨ef0, ef1, ef2, ef3, ef4, ef5, ef6, ef7, ef8⟩ := HE1.out.f9
  go_wp2_with fail
  refine bodyPost_ret (results_at_two rfl _ (B + 1) [.int .i64 0, .int .i64 0, .slice none 0 0, .string ⟨#[]⟩, .string ⟨#[]⟩, .string ⟨#[]⟩, .string ⟨#[]⟩, .string ⟨#[]⟩, .string ⟨#[]⟩] _ rfl (fill9 HE1.out _ _ _ _ _ _ _ _ _) Tryz.underlying27 rfl (by kernel_rfl) _ rfl) rfl ?_
  exact ⟨(c, Ev0), .no HR.out, .slice none 0 0, rfl, Ty.nil _, by rw [HBB.out]; exact below9 HB1.out (Nat.le_succ _) _ _ _ _ _ _ _ _ _⟩
 | ok l =>
  simp only [Co.decL, Co.decE, Co.decP] at HO HAV ⊢
  have hap := apart HR.out
  have HAP := hid hap
  obtain ⟨gl, rfl⟩ := HAV.out (List.length_pos_iff.2 hap.one.ne)
  obtain ⟨n, hn⟩ : ∃ n, l.length = n := ⟨_, rfl⟩
  have hlt := HO.out.lt gl rfl
  have hc9 : l.length ≤ cv ∧ cv ≤ maxLen := by
   rcases HO.out.2 with ⟨h, _⟩ | ⟨q, cap, cur, h, _, _, h3, h4, _⟩
   ·cases h
   ·cases h; exact ⟨h3, h4⟩
  obtain ⟨g, hg⟩ : ∃ g, w1.heap.size = g := ⟨_, rfl⟩
  have hMm := At.ofAlloc w1 #[.int .i64 0, .int .i64 0, .slice none 0 0, .string ⟨#[]⟩, .string ⟨#[]⟩, .string ⟨#[]⟩, .string ⟨#[]⟩, .string ⟨#[]⟩, .string ⟨#[]⟩, .int .i64 d, .int .i64 i, .int .i64 b, .int .i64 ro, .slice none 0 0, .slice none 0 0, .slice none 0 0] 49
  have hWX : WX (fun k => k = g) (w1.alloc (Obj.cells #[.int .i64 0, .int .i64 0, .slice none 0 0, .string ⟨#[]⟩, .string ⟨#[]⟩, .string ⟨#[]⟩, .string ⟨#[]⟩, .string ⟨#[]⟩, .string ⟨#[]⟩, .int .i64 d, .int .i64 i, .int .i64 b, .int .i64 ro, .slice none 0 0, .slice none 0 0, .slice none 0 0] 49)) (.slice (some ⟨gl, 0, none⟩) n cv) l := ⟨gl, 0, cv, by rw [hn], hc9.1, hc9.2, (At.ofOwnN HO.out).alloc _, by rw [World.size_alloc]; omega, by show ¬ gl = g; omega⟩
  have hE2 := HE1.out.alloc (Obj.cells #[.int .i64 0, .int .i64 0, .slice none 0 0, .string ⟨#[]⟩, .string ⟨#[]⟩, .string ⟨#[]⟩, .string ⟨#[]⟩, .string ⟨#[]⟩, .string ⟨#[]⟩, .int .i64 d, .int .i64 i, .int .i64 b, .int .i64 ro, .slice none 0 0, .slice none 0 0, .slice none 0 0] 49)
  have hB2 : Below B w (w1.alloc (Obj.cells #[.int .i64 0, .int .i64 0, .slice none 0 0, .string ⟨#[]⟩, .string ⟨#[]⟩, .string ⟨#[]⟩, .string ⟨#[]⟩, .string ⟨#[]⟩, .string ⟨#[]⟩, .int .i64 d, .int .i64 i, .int .i64 b, .int .i64 ro, .slice none 0 0, .slice none 0 0, .slice none 0 0] 49)) := HB1.out.alloc (by have := HS1.out; omega) _
  obtain ⟨l0, l1, l2, l3⟩ := HL1.out.c4
  rw [hn]
  go_upto_region 5 with fail
  rw [hg] at hMm
  try rw [hg]
  obtain ⟨wm, hwm⟩ : ∃ x, w1.alloc (Obj.cells #[.int .i64 0, .int .i64 0, .slice none 0 0, .string ⟨#[]⟩, .string ⟨#[]⟩, .string ⟨#[]⟩, .string ⟨#[]⟩, .string ⟨#[]⟩, .string ⟨#[]⟩, .int .i64 d, .int .i64 i, .int .i64 b, .int .i64 ro, .slice none 0 0, .slice none 0 0, .slice none 0 0] 49) = x := ⟨_, rfl⟩
  have HGS : Hid (wm.heap.size = g + 1 ∧ B + 2 ≤ g) := ⟨by rw [← hwm, ← hg]; simp, by rw [← hg]; exact HS1.out⟩
  rw [hwm] at hMm hWX hE2 hB2
  try rw [hwm]
  have HB2 := hid hB2
  have HE2 := hid hE2
  have h1u : UT B w := by rw [← HBB.out]; exact HUT.out
  have CI := hid (citem_any g B l s.toList d.toNat _ wm d i b ro hMm (by rw [HGS.out.1]; omega) hWX hap (h1u.below hB2) (by have := HGS.out.2; omega))
  clear hwm hg hMm hWX hE2 hB2 l0 l1 l2 l3 hlt hc9 hap hn h1u
  go_wp2_with fail
  refine CI.out.mono ?_
  rintro e w3 ⟨H, hH, rfl, hB3, hok⟩
  have HHH := hid hH
  have HB3 := hid hB3
  have HBW3 : Hid (Below B w w3) := HB2.out.trans (HB3.out.to (by have := HGS.out.2; omega) (by rw [HGS.out.1]; have := HGS.out.2; omega))
  have HE3 : Hid (At w3 (B + 1) 0 [.int .i64 0, .int .i64 0, .slice none 0 0, .string ⟨#[]⟩, .string ⟨#[]⟩, .string ⟨#[]⟩, .string ⟨#[]⟩, .string ⟨#[]⟩, .string ⟨#[]⟩]) := At.bg HE2.out HB3.out (by rw [HGS.out.1]; have := HGS.out.2; omega) (by have := HGS.out.2; omega)
  have hmf : ∀ (fn : Fn) (first cap : Array Value) (w : World), (Instr.makeFunc fn first cap).run Tryz.prog w = .ok (.func fn first cap) w := fun _ _ _ _ => rfl
  have i0 := ask0 g
  have i1 := ask1 g
  have i2 := ask2 g
  have i3 := ask3 g
  obtain ⟨E0, hE0⟩ : ∃ c, itE l H = c := ⟨_, rfl⟩
  rw [hE0] at hok ⊢
  have HQ0 := hid hE0
  clear hE0 hH hB3
  by_cases h0 : E0 = 0
  case neg =>
   have HCN := hid h0
   have f0 : (E0 != 0) = true := by simpa using h0
   have f0b : (E0 == 0) = false := by simpa using h0
   have HRE : Hid (rdE l H = E0) := by show _ = _; rw [rdE, HQ0.out, if_pos h0]
   clear hok
   go_wp2_with fail
   refine wp_loop_rounds 5 ?_
   obtain ⟨ec0, ec1, ec2, ec3, ec4, ec5, ec6, ec7, ec8⟩ := HE3.out.c9
   obtain ⟨ef0, ef1, ef2, ef3, ef4, ef5, ef6, ef7, ef8⟩ := HE3.out.f9
   rw [rounds_succ]
   go_wp2_with fail
   rw [rounds_succ]
   go_wp2_with fail
   rw [rounds_succ]
   go_wp2_with fail
   rw [rounds_succ]
   go_wp2_with fail
   rw [rounds_succ]
   go_wp2_with fail
   refine bodyPost_ret (results_at_two rfl _ (B + 1) [.int .i64 0, .int .i64 0, .slice none 0 0, .string ⟨#[]⟩, .string ⟨#[]⟩, .string ⟨#[]⟩, .string ⟨#[]⟩, .string ⟨#[]⟩, .string ⟨#[]⟩] _ rfl (fill9 (HE3.out) _ _ _ _ _ _ _ _ _) Tryz.underlying27 rfl (by kernel_rfl) _ rfl) rfl ?_
   exact ⟨(rdE l H, rdV l H), Rd.of HR.out HHH.out, .slice none 0 0, by rw [HRE.out, rdV_no HRE.out HCN.out]; rfl, by rw [rdV_no HRE.out HCN.out]; exact Ty.nil _, by rw [HBB.out]; exact below9 (HBW3.out) (Nat.le_succ _) _ _ _ _ _ _ _ _ _⟩
  case pos =>
  subst h0
  obtain ⟨vp, vl, hM3, hp3, hl3⟩ := hok rfl
  have HG3 : Hid (g < w3.heap.size) := by have h1 := HB3.out.size; rw [HGS.out.1] at h1; show g < _; omega
  have HPL := hid (aIn hp3.prs_ok hl3.prs_ok)
  have C1 := hid (clabels_any g w3 (fmtN l) 0 (.slice none 0 0) (bs (hdrN l)) (bs (looseN l)) ⟨#[]⟩ ⟨#[]⟩ (bs (headN l 2).text) (bs (tagN l)) d i b ro vp vl (.slice none 0 0) (prot (hdrN l) H) (partN l 1) hM3 HG3.out hp3 hl3)
  have HTX := hid (text_le HAP.out (itE_zero HQ0.out).1)
  have HFF : Hid (fmtN l = 5 ∨ fmtN l = 6) := by
   show _ ∨ _
   rw [fmtN]
   split
   ·exact .inl rfl
   ·exact .inr rfl
  obtain ⟨E1, hE1⟩ : ∃ c, labE (prs (prot (hdrN l) H)) (prs (partN l 1)) = c := ⟨_, rfl⟩
  rw [hE1] at C1
  have HQ1 := hid hE1
  clear hok hM3 hp3 hl3 hE1
  go_wp2_with fail
  refine wp_loop_rounds 5 ?_
  rw [rounds_succ]
  go_wp2_with fail
  refine C1.out.mono ?_
  rintro e w4 ⟨rfl, hB4, hok⟩
  have HB4 := hid hB4
  have HG4 : Hid (g < w4.heap.size) := nlt HG3.out HB4.out.size
  have HBW4 : Hid (Below B w w4) := HBW3.out.trans (HB4.out.to (by have := HGS.out.2; omega) (by have := HG3.out; have := HGS.out.2; omega))
  have HE4 : Hid (At w4 (B + 1) 0 [.int .i64 0, .int .i64 0, .slice none 0 0, .string ⟨#[]⟩, .string ⟨#[]⟩, .string ⟨#[]⟩, .string ⟨#[]⟩, .string ⟨#[]⟩, .string ⟨#[]⟩]) := At.bg HE3.out HB4.out (by have := HG3.out; have := HGS.out.2; omega) (by have := HGS.out.2; omega)
  clear hB4
  by_cases h1 : E1 = 0
  case neg =>
   have HCN := hid h1
   have f0 : (E1 != 0) = true := by simpa using h1
   have f0b : (E1 == 0) = false := by simpa using h1
   have HRE : Hid (rdE l H = E1) := by show _ = _; rw [rdE, HQ0.out, HQ1.out, if_neg (by simp), if_pos h1]
   clear hok
   go_wp2_with fail
   obtain ⟨ec0, ec1, ec2, ec3, ec4, ec5, ec6, ec7, ec8⟩ := HE4.out.c9
   obtain ⟨ef0, ef1, ef2, ef3, ef4, ef5, ef6, ef7, ef8⟩ := HE4.out.f9
   rw [rounds_succ]
   go_wp2_with fail
   rw [rounds_succ]
   go_wp2_with fail
   rw [rounds_succ]
   go_wp2_with fail
   rw [rounds_succ]
   go_wp2_with fail
   refine bodyPost_ret (results_at_two rfl _ (B + 1) [.int .i64 0, .int .i64 0, .slice none 0 0, .string ⟨#[]⟩, .string ⟨#[]⟩, .string ⟨#[]⟩, .string ⟨#[]⟩, .string ⟨#[]⟩, .string ⟨#[]⟩] _ rfl (fill9 (HE4.out) _ _ _ _ _ _ _ _ _) Tryz.underlying27 rfl (by kernel_rfl) _ rfl) rfl ?_
   exact ⟨(rdE l H, rdV l H), Rd.of HR.out HHH.out, .slice none 0 0, by rw [HRE.out, rdV_no HRE.out HCN.out]; rfl, by rw [rdV_no HRE.out HCN.out]; exact Ty.nil _, by rw [HBB.out]; exact below9 (HBW4.out) (Nat.le_succ _) _ _ _ _ _ _ _ _ _⟩
  subst h1
  obtain ⟨vs4, hM4, hPx⟩ := hok rfl
  rw [show prs (prot (hdrN l) H) ++ prs (partN l 1) = psN l H from rfl] at hPx
  have hlen : (psN l H).length ≤ 100000 := by
   rw [psN, lap]
   have h1 := HPL.out.1.1
   have h2 := HPL.out.2.1
   omega
  have HLEN := hid hlen
  have HPX4 := hid hPx
  have C2 := hid (ccipher_any g w4 (fmtN l) 0 (.slice none 0 0) (bs (hdrN l)) (bs (looseN l)) ⟨#[]⟩ ⟨#[]⟩ (bs (headN l 2).text) (bs (tagN l)) d i b ro vp vl vs4 (psN l H) hM4 HG4.out hPx hlen HFF.out)
  obtain ⟨E2, hE2⟩ : ∃ c, (algP (fmtN l) (psN l H)).1 = c := ⟨_, rfl⟩
  rw [hE2] at C2
  have HQ2 := hid hE2
  clear hok hM4 hPx hlen hE2
  go_wp2_with fail
  rw [rounds_succ]
  go_wp2_with fail
  refine C2.out.mono ?_
  rintro e w5 ⟨rfl, hB5, hok⟩
  have HB5 := hid hB5
  have HG5 : Hid (g < w5.heap.size) := nlt HG4.out HB5.out.size
  have HBW5 : Hid (Below B w w5) := HBW4.out.trans (HB5.out.to (by have := HGS.out.2; omega) (by have := HG4.out; have := HGS.out.2; omega))
  have HE5 : Hid (At w5 (B + 1) 0 [.int .i64 0, .int .i64 0, .slice none 0 0, .string ⟨#[]⟩, .string ⟨#[]⟩, .string ⟨#[]⟩, .string ⟨#[]⟩, .string ⟨#[]⟩, .string ⟨#[]⟩]) := At.bg HE4.out HB5.out (by have := HG4.out; have := HGS.out.2; omega) (by have := HGS.out.2; omega)
  clear hB5
  have HPX5 := hid (HPX4.out.bg HB5.out)
  by_cases h1 : E2 = 0
  case neg =>
   have HCN := hid h1
   have f0 : (E2 != 0) = true := by simpa using h1
   have f0b : (E2 == 0) = false := by simpa using h1
   have HRE : Hid (rdE l H = E2) := by show _ = _; rw [rdE, HQ0.out, HQ1.out, if_neg (by simp), if_neg (by simp), show (algN l H).1 = E2 from HQ2.out, if_pos h1]
   clear hok
   go_wp2_with fail
   obtain ⟨ec0, ec1, ec2, ec3, ec4, ec5, ec6, ec7, ec8⟩ := HE5.out.c9
   obtain ⟨ef0, ef1, ef2, ef3, ef4, ef5, ef6, ef7, ef8⟩ := HE5.out.f9
   rw [rounds_succ]
   go_wp2_with fail
   rw [rounds_succ]
   go_wp2_with fail
   rw [rounds_succ]
   go_wp2_with fail
   refine bodyPost_ret (results_at_two rfl _ (B + 1) [.int .i64 0, .int .i64 0, .slice none 0 0, .string ⟨#[]⟩, .string ⟨#[]⟩, .string ⟨#[]⟩, .string ⟨#[]⟩, .string ⟨#[]⟩, .string ⟨#[]⟩] _ rfl (fill9 (HE5.out) _ _ _ _ _ _ _ _ _) Tryz.underlying27 rfl (by kernel_rfl) _ rfl) rfl ?_
   exact ⟨(rdE l H, rdV l H), Rd.of HR.out HHH.out, .slice none 0 0, by rw [HRE.out, rdV_no HRE.out HCN.out]; rfl, by rw [rdV_no HRE.out HCN.out]; exact Ty.nil _, by rw [HBB.out]; exact below9 (HBW5.out) (Nat.le_succ _) _ _ _ _ _ _ _ _ _⟩
  subst h1
  obtain ⟨A', hM5, hA'⟩ := hok
  have hA9 := hA' rfl
  subst hA9
  have C3 := hid (cname_any g w5 (fmtN l) (algP (fmtN l) (psN l H)).2 (.slice none 0 0) (bs (hdrN l)) (bs (looseN l)) ⟨#[]⟩ ⟨#[]⟩ (bs (headN l 2).text) (bs (tagN l)) d i b ro vp vl vs4 (psN l H) hM5 HG5.out HPX5.out HLEN.out)
  obtain ⟨AL, hAL⟩ : ∃ c, (algP (fmtN l) (psN l H)).2 = c := ⟨_, rfl⟩
  rw [hAL] at C3
  have HALQ := hid hAL
  obtain ⟨E3, hE3⟩ : ∃ c, (nameP (psN l H)).1 = c := ⟨_, rfl⟩
  rw [hE3] at C3
  have HQ3 := hid hE3
  clear hM5 hA' hAL hE3
  go_wp2_with fail
  rw [rounds_succ]
  go_wp2_with fail
  refine C3.out.mono ?_
  rintro e w6 ⟨rfl, hB6, hok⟩
  have HB6 := hid hB6
  have HG6 : Hid (g < w6.heap.size) := nlt HG5.out HB6.out.size
  have HBW6 : Hid (Below B w w6) := HBW5.out.trans (HB6.out.to (by have := HGS.out.2; omega) (by have := HG5.out; have := HGS.out.2; omega))
  have HE6 : Hid (At w6 (B + 1) 0 [.int .i64 0, .int .i64 0, .slice none 0 0, .string ⟨#[]⟩, .string ⟨#[]⟩, .string ⟨#[]⟩, .string ⟨#[]⟩, .string ⟨#[]⟩, .string ⟨#[]⟩]) := At.bg HE5.out HB6.out (by have := HG5.out; have := HGS.out.2; omega) (by have := HGS.out.2; omega)
  clear hB6
  have HPX6 := hid (HPX5.out.bg HB6.out)
  by_cases h1 : E3 = 0
  case neg =>
   have HCN := hid h1
   have f0 : (E3 != 0) = true := by simpa using h1
   have f0b : (E3 == 0) = false := by simpa using h1
   have HRE : Hid (rdE l H = E3) := by show _ = _; rw [rdE, HQ0.out, HQ1.out, if_neg (by simp), if_neg (by simp), show (algN l H).1 = 0 from HQ2.out, if_neg (by simp), HQ3.out, if_pos h1]
   clear hok
   go_wp2_with fail
   obtain ⟨ec0, ec1, ec2, ec3, ec4, ec5, ec6, ec7, ec8⟩ := HE6.out.c9
   obtain ⟨ef0, ef1, ef2, ef3, ef4, ef5, ef6, ef7, ef8⟩ := HE6.out.f9
   rw [rounds_succ]
   go_wp2_with fail
   rw [rounds_succ]
   go_wp2_with fail
   refine bodyPost_ret (results_at_two rfl _ (B + 1) [.int .i64 0, .int .i64 0, .slice none 0 0, .string ⟨#[]⟩, .string ⟨#[]⟩, .string ⟨#[]⟩, .string ⟨#[]⟩, .string ⟨#[]⟩, .string ⟨#[]⟩] _ rfl (fill9 (HE6.out) _ _ _ _ _ _ _ _ _) Tryz.underlying27 rfl (by kernel_rfl) _ rfl) rfl ?_
   exact ⟨(rdE l H, rdV l H), Rd.of HR.out HHH.out, .slice none 0 0, by rw [HRE.out, rdV_no HRE.out HCN.out]; rfl, by rw [rdV_no HRE.out HCN.out]; exact Ty.nil _, by rw [HBB.out]; exact below9 (HBW6.out) (Nat.le_succ _) _ _ _ _ _ _ _ _ _⟩
  subst h1
  obtain ⟨gx, hgx, hM6, hT6⟩ := hok rfl
  have HT6 := hid hT6
  have HGX : Hid (g < gx) := nlt HG5.out hgx
  have hcs : (bs (headN l 2).text).size ≤ 140737488351232 := by rw [← tl_size, bs_list]; exact HTX.out.1
  have hts : (bs (tagN l)).size ≤ 140737488351232 := by rw [← tl_size, bs_list]; exact HTX.out.2
  have C4 := hid (clengths_any g w6 (fmtN l) AL (.slice (some ⟨gx, 0, none⟩) 1 1) (bs (hdrN l)) (bs (looseN l)) ⟨#[]⟩ (bs (headN l 2).text) (bs (tagN l)) d i b ro vp vl vs4 (psN l H) hM6 HG6.out HPX6.out HLEN.out HFF.out (by rw [← HALQ.out]; exact fmt_yes HQ2.out) hcs hts)
  rw [bs_list, bs_list, show lenP (fmtN l) AL (psN l H) (headN l 2).text (tagN l) = lenN l H from by rw [← HALQ.out]; rfl] at C4
  obtain ⟨E4, hE4⟩ : ∃ c, (lenN l H).1 = c := ⟨_, rfl⟩
  obtain ⟨L2, hL2⟩ : ∃ c, (lenN l H).2 = c := ⟨_, rfl⟩
  unfold RetLen at C4
  rw [hE4, hL2] at C4
  have HQ4 := hid (aIn hE4 hL2)
  clear hgx hM6 hT6 hok hcs hts hE4 hL2
  go_wp2_with fail
  rw [rounds_succ]
  go_wp2_with fail
  refine C4.out.mono ?_
  rintro e w7 ⟨rfl, hB7, hok⟩
  have HB7 := hid hB7
  have HG7 : Hid (g < w7.heap.size) := nlt HG6.out HB7.out.size
  have HBW7 : Hid (Below B w w7) := HBW6.out.trans (HB7.out.to (by have := HGS.out.2; omega) (by have := HG6.out; have := HGS.out.2; omega))
  have HE7 : Hid (At w7 (B + 1) 0 [.int .i64 0, .int .i64 0, .slice none 0 0, .string ⟨#[]⟩, .string ⟨#[]⟩, .string ⟨#[]⟩, .string ⟨#[]⟩, .string ⟨#[]⟩, .string ⟨#[]⟩]) := At.bg HE6.out HB7.out (by have := HG6.out; have := HGS.out.2; omega) (by have := HGS.out.2; omega)
  clear hB7
  have HRE : Hid (rdE l H = E4) := by show _ = _; rw [rdE, HQ0.out, HQ1.out, if_neg (by simp), if_neg (by simp), show (algN l H).1 = 0 from HQ2.out, if_neg (by simp), HQ3.out, if_neg (by simp), HQ4.out.1]
  by_cases h1 : E4 = 0
  case neg =>
   have HCN := hid h1
   have f0 : (E4 != 0) = true := by simpa using h1
   have f0b : (E4 == 0) = false := by simpa using h1
   clear hok
   go_wp2_with fail
   obtain ⟨ec0, ec1, ec2, ec3, ec4, ec5, ec6, ec7, ec8⟩ := HE7.out.c9
   obtain ⟨ef0, ef1, ef2, ef3, ef4, ef5, ef6, ef7, ef8⟩ := HE7.out.f9
   rw [rounds_succ]
   go_wp2_with fail
   refine bodyPost_ret (results_at_two rfl _ (B + 1) [.int .i64 0, .int .i64 0, .slice none 0 0, .string ⟨#[]⟩, .string ⟨#[]⟩, .string ⟨#[]⟩, .string ⟨#[]⟩, .string ⟨#[]⟩, .string ⟨#[]⟩] _ rfl (fill9 (HE7.out) _ _ _ _ _ _ _ _ _) Tryz.underlying27 rfl (by kernel_rfl) _ rfl) rfl ?_
   exact ⟨(rdE l H, rdV l H), Rd.of HR.out HHH.out, .slice none 0 0, by rw [HRE.out, rdV_no HRE.out HCN.out]; rfl, by rw [rdV_no HRE.out HCN.out]; exact Ty.nil _, by rw [HBB.out]; exact below9 (HBW7.out) (Nat.le_succ _) _ _ _ _ _ _ _ _ _⟩
  subst h1
  have hM7 := hok rfl
  have HT7 := hid (HT6.out.bg HB7.out)
  have HRV : Hid (rdV l H = ⟨fmtN l, AL, [⟨1, 0, 0, (nameP (psN l H)).2, [], [], 0, [], []⟩], hdrN l, looseN l, [], L2.1, L2.2.1, L2.2.2⟩) := by
   show _ = _
   rw [rdV, if_neg (by rw [HRE.out]; simp), show (algN l H).2 = AL from HALQ.out, HQ4.out.2]
  have HM7 := hid hM7
  obtain ⟨ec0, ec1, ec2, ec3, ec4, ec5, ec6, ec7, ec8⟩ := HE7.out.c9
  obtain ⟨ef0, ef1, ef2, ef3, ef4, ef5, ef6, ef7, ef8⟩ := HE7.out.f9
  have mc0 := HM7.out.z 0 _ rfl
  have mc1 := HM7.out.z 1 _ rfl
  have mc2 := HM7.out.z 2 _ rfl
  have mc3 := HM7.out.z 3 _ rfl
  have mc4 := HM7.out.z 4 _ rfl
  have mc5 := HM7.out.z 5 _ rfl
  have mc6 := HM7.out.z 6 _ rfl
  have mc7 := HM7.out.z 7 _ rfl
  have mc8 := HM7.out.z 8 _ rfl
  clear hok hM7
  go_wp2_with fail
  rw [rounds_succ]
  go_wp2_with fail
  have HT8 := HT7.out
  have HFA := hid (fill9 HE7.out (.int .i64 (fmtN l)) (.int .i64 AL) (.slice (some ⟨gx, 0, none⟩) 1 1) (.string (bs (hdrN l))) (.string (bs (looseN l))) (.string ⟨#[]⟩) (.string (bs L2.1)) (.string (bs L2.2.1)) (.string (bs L2.2.2)))
  have HBF := hid (below9 HBW7.out (Nat.le_succ B) (.int .i64 (fmtN l)) (.int .i64 AL) (.slice (some ⟨gx, 0, none⟩) 1 1) (.string (bs (hdrN l))) (.string (bs (looseN l))) (.string ⟨#[]⟩) (.string (bs L2.1)) (.string (bs L2.2.1)) (.string (bs L2.2.2)))
  have HGF := hid (bg9 (Bg.refl (B + 1) w7) (.int .i64 (fmtN l)) (.int .i64 AL) (.slice (some ⟨gx, 0, none⟩) 1 1) (.string (bs (hdrN l))) (.string (bs (looseN l))) (.string ⟨#[]⟩) (.string (bs L2.1)) (.string (bs L2.2.1)) (.string (bs L2.2.2)) rfl)
  refine bodyPost_ret (results_at_two rfl _ (B + 1) [.int .i64 (fmtN l), .int .i64 AL, .slice (some ⟨gx, 0, none⟩) 1 1, .string (bs (hdrN l)), .string (bs (looseN l)), .string ⟨#[]⟩, .string (bs L2.1), .string (bs L2.2.1), .string (bs L2.2.2)] _ rfl HFA.out Tryz.underlying27 rfl (by kernel_rfl) _ rfl) rfl ?_
  refine ⟨(rdE l H, rdV l H), Rd.of HR.out HHH.out, .slice (some ⟨gx, 0, none⟩) 1 1, ?_, ?_, ?_⟩
  ·rw [HRE.out, HRV.out]
   unfold evv
   rfl
  ·rw [HRV.out]
   exact ty_of HT8 HGF.out (by have h1 := HGX.out; have h2 := HGS.out.2; omega)
  ·rw [HBB.out]; exact HBF.out
end Ce
end Go.Proofs.YtikgonlhdkknkaaGreatDoor
