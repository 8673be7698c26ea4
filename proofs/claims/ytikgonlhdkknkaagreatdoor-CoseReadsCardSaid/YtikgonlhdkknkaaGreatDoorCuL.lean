import Derived.Test.YtikgonlhdkknkaaGreatDoorCuX
import Derived.Test.YtikgonlhdkknkaaGreatDoorCqH
import Derived.BigQuiet
set_option maxRecDepth 100000
set_option maxHeartbeats 1600000
set_option linter.unusedVariables false
set_option linter.unusedSimpArgs false
open Go.Lib (hid)
namespace Go.Proofs.YtikgonlhdkknkaaGreatDoor
open Go.RowKit
namespace Co
open Dr (Rs Lm has lack at0S lackE lackP)
theorem gtl_getD (s : ByteArray) (k : Nat) (h : k < s.size) : s.toList.getD k 0 = s[k] := by rw [List.getD, tl_get s k h]; rfl
def rgc (s : ByteArray) (L : Lm) (ro : Int) (vo : Value) (er : Int) (pl tk fr : Nat) (en : Bool) : List Value :=
 [.string s, .int .i64 (L.depth : Int), .int .i64 (L.items : Int), .int .i64 (L.bytes : Int), .int .i64 ro, .slice none 0 0, .int .i64 er, .int .i64 (pl : Int), .int .i64 (tk : Int), .int .i64 (fr : Int), .bool en, vo]
structure Rg (w : World) (g : Nat) (s : ByteArray) (L : Lm) (ro : Int) (O : List Am) (vo : Value) (er : Int) (pl tk fr : Nat) (en : Bool) : Prop where
 at0 : At w g 0 (rgc s L ro vo er pl tk fr en)
 out : w.ownsRow (g + 1) 60 3 vo O.length (rcells (O.map up))
 lt : g < w.heap.size
section
variable {w w' : World} {g : Nat} {s : ByteArray} {L : Lm} {ro : Int} {O : List Am} {vo : Value} {er : Int} {pl tk fr : Nat} {en : Bool}
theorem Rg.drewN (h : Rg w g s L ro O vo er pl tk fr en) (k : Nat) : Rg (w.drewN k) g s L ro O vo er pl tk fr en := ⟨h.at0.drewN k, own_drewN h.out k, h.lt⟩
theorem Rg.setC (h : Rg w g s L ro O vo er pl tk fr en) (k : Nat) (v : Value) {er' : Int} {pl' tk' fr' : Nat} {en' : Bool} (he : (rgc s L ro vo er pl tk fr en).set k v = rgc s L ro vo er' pl' tk' fr' en') : Rg (w.setCell ⟨g, k, none⟩ v) g s L ro O vo er' pl' tk' fr' en' :=
 ⟨by have h1 := h.at0.set k v; rw [he, Nat.zero_add] at h1; exact h1, ownsRow_setCell_below h.out (Nat.lt_succ_self g) _, by rw [show (w.setCell ⟨g, k, none⟩ v).heap.size = w.heap.size by simp [World.setCell]]; exact h.lt⟩
theorem Rg.below (h : Rg w g s L ro O vo er pl tk fr en) (hb : Below w.heap.size w w') : Rg w' g s L ro O vo er pl tk fr en :=
 ⟨h.at0.below hb h.lt, own_below h.out hb (nle _), nlt h.lt hb.size⟩
theorem Rg.alloc (h : Rg w g s L ro O vo er pl tk fr en) (o : Obj) : Rg (w.alloc o) g s L ro O vo er pl tk fr en :=
 ⟨h.at0.alloc o, h.out.alloc o, by simp; have := h.lt; omega⟩
end
def Gok (w : World) (g : Nat) (s : ByteArray) (L : Lm) (ro : Int) (O : List Am) (fr : Nat) : Prop := ∃ vo tk, Rg w g s L ro O vo 0 0 tk fr false
def Gno (w : World) (g : Nat) (s : ByteArray) (L : Lm) (ro : Int) (c : Int) (q : Nat) (b : Bool) : Prop := ∃ O vo tk fr, Rg w g s L ro O vo c q tk fr b
theorem Gok.drewN {w : World} {g : Nat} {s : ByteArray} {L : Lm} {ro : Int} {O : List Am} {fr : Nat} (h : Gok w g s L ro O fr) (k : Nat) : Gok (w.drewN k) g s L ro O fr := by
 obtain ⟨vo, tk, h⟩ := h
 exact ⟨vo, tk, h.drewN k⟩
theorem Gok.below {w w' : World} {g : Nat} {s : ByteArray} {L : Lm} {ro : Int} {O : List Am} {fr : Nat} (h : Gok w g s L ro O fr) (hb : Below w.heap.size w w') : Gok w' g s L ro O fr := by
 obtain ⟨vo, tk, h⟩ := h
 exact ⟨vo, tk, h.below hb⟩
theorem Gok.lt {w : World} {g : Nat} {s : ByteArray} {L : Lm} {ro : Int} {O : List Am} {fr : Nat} (h : Gok w g s L ro O fr) : g < w.heap.size := by
 obtain ⟨vo, tk, h⟩ := h
 exact h.lt
def GYes (v : Value) (g : Nat) (s : ByteArray) (L : Lm) (ro : Int) (O : List Am) (fr : Nat) (w : World) (e : Ending) (w' : World) : Prop := e = .returned v ∧ Hid (Gok w' g s L ro O fr) ∧ Hid (Below g w w')
def GNay (v : Value) (g : Nat) (s : ByteArray) (L : Lm) (ro : Int) (c : Int) (q : Nat) (b : Bool) (w : World) (e : Ending) (w' : World) : Prop := e = .returned v ∧ Hid (Gno w' g s L ro c q b) ∧ Hid (Below g w w')
theorem gtake_any {w : World} {g : Nat} {s : ByteArray} {L : Lm} {ro : Int} {O : List Am} {vo : Value} {tk fr : Nat} (h : Rg w g s L ro O vo 0 0 tk fr false) (z : Int) (a : Nat) (hz : (a : Int) = z) :
  Calls Tryz.prog 91 #[.pointer (some ⟨g, 0, none⟩), .int .i64 z] w (fun e w' => e = .returned (.tuple #[]) ∧ (∃ tk', Hid (Rg w' g s L ro O vo 0 0 tk' fr false)) ∧ Hid (Below g w w')) := by
 subst hz
 have HR := hid h
 have h8 := h.at0.z 8 _ rfl
 have f8 := h.at0.froz 8 (Nat.le_of_ble_eq_true rfl)
 rw [Nat.zero_add] at f8
 clear h
 by_cases h1 : tk < a
 ·have e1 : (tk : Int) < (a : Int) := by omega
  clear h1
  go_enter Tryz.func91, Tryz.ntmps91
  go_wp2_with fail
  go_end0
  exact ⟨rfl, ⟨a, HR.out.setC 8 _ rfl⟩, (Below.refl g w).setCell (nle _) _⟩
 ·have e1 : ¬ (tk : Int) < (a : Int) := by omega
  clear h1
  go_enter Tryz.func91, Tryz.ntmps91
  go_wp2_with fail
  go_end0
  exact ⟨rfl, ⟨tk, HR.out⟩, Below.refl g w⟩
theorem gfault_any {w : World} {g : Nat} {s : ByteArray} {L : Lm} {ro : Int} {O : List Am} {vo : Value} {tk fr : Nat} {en : Bool} (h : Rg w g s L ro O vo 0 0 tk fr en) (z c : Int) (q : Nat) (hz : (q : Int) = z) :
  Calls Tryz.prog 92 #[.pointer (some ⟨g, 0, none⟩), .int .i64 z, .int .i64 c] w (GNay (.bool false) g s L ro c q en w) := by
 subst hz
 have HR := hid h
 have h6 := h.at0.z 6 _ rfl
 have f6 := h.at0.froz 6 (Nat.le_of_ble_eq_true rfl)
 have h7 := h.at0.z 7 _ rfl
 have f7 := h.at0.froz 7 (Nat.le_of_ble_eq_true rfl)
 rw [Nat.zero_add] at f6 f7
 clear h
 go_enter Tryz.func92, Tryz.ntmps92
 go_wp2_with fail
 go_ret
 exact ⟨rfl, ⟨O, vo, tk, fr, (HR.out.setC 6 (.int .i64 c) (er' := c) rfl).setC 7 _ rfl⟩, ((Below.refl g w).setCell (nle _) _).setCell (nle _) _⟩
theorem gwant_yes {w : World} {g : Nat} {s : ByteArray} {L : Lm} {ro : Int} {O : List Am} {fr : Nat} (h : Gok w g s L ro O fr) (z : Int) (p : Nat) (hz : (p : Int) = z) (h1 : p < s.size) (h2 : p < L.bytes) (hs : s.size ≤ 140737488351232) :
  Calls Tryz.prog 61 #[.pointer (some ⟨g, 0, none⟩), .int .i64 z] w (GYes (.bool true) g s L ro O fr w) := by
 subst hz
 obtain ⟨vo, tk, h⟩ := h
 have HR := hid h
 have TK := hid (gtake_any h ((p : Int) + 1) (p + 1) (by omega))
 have h0 := h.at0.z 0 _ rfl
 have h3 := h.at0.z 3 _ rfl
 have e1 : (p : Int) < (s.size : Int) := by omega
 have e2 : (p : Int) < (L.bytes : Int) := by omega
 have e3 : (p : Int) ≤ 140737488351232 := by omega
 clear h h1 h2 hs
 go_enter Tryz.func61, Tryz.ntmps61
 go_wp2_with (first | (go_at_call 91; refine TK.out.mono ?_; rintro e w1 ⟨rfl, ⟨tk', HR1⟩, HB1⟩))
 go_ret
 exact ⟨rfl, ⟨vo, tk', HR1.out⟩, HB1⟩
theorem gwant_no {w : World} {g : Nat} {s : ByteArray} {L : Lm} {ro : Int} {O : List Am} {fr : Nat} (h : Gok w g s L ro O fr) (z : Int) (p : Nat) (hz : (p : Int) = z) (h1 : ¬ (p < s.size ∧ p < L.bytes)) :
  Calls Tryz.prog 61 #[.pointer (some ⟨g, 0, none⟩), .int .i64 z] w (GNay (.bool false) g s L ro (lackE s.toList L) (lackP s.toList L) (decide (s.toList.length ≤ L.bytes)) w) := by
 subst hz
 rw [lackE, lackP, tl_size]
 obtain ⟨vo, tk, h⟩ := h
 have HR := hid h
 have TK := hid (fun w' (b : Nat) (h' : Rg w' g s L ro O vo 0 0 tk fr false) => gtake_any h' (b : Int) b rfl)
 have h0 := h.at0.z 0 _ rfl
 have h3 := h.at0.z 3 _ rfl
 obtain ⟨b, hb⟩ : ∃ n, L.bytes = n := ⟨_, rfl⟩
 rw [hb] at h1
 rw [hb]
 rw [hb] at h3
 have HN := hid (hb)
 clear h hb
 have h0q : ∀ k, (w.drewN k).cell? ⟨g, 0, none⟩ = some (.string s) := fun _ => h0
 by_cases h2 : b < s.size
 ·have e4 : (b : Int) < (s.size : Int) := by omega
  rw [if_pos h2, if_pos h2, dfa (by omega)]
  by_cases h4 : p < s.size
  ·have e1 : (p : Int) < (s.size : Int) := by omega
   have e2 : ¬ (p : Int) < (b : Int) := by omega
   clear h1 h2 h4
   go_enter Tryz.func61, Tryz.ntmps61
   go_wp2_with fail
   go_quiet (fail)
   go_wp2_with (first
    | (go_at_call 91; refine (TK.out _ b (HR.out.drewN _)).mono ?_; rintro e w1 ⟨rfl, ⟨tk1, HR1⟩, HB1⟩; have g0 := HR1.out.at0.z 0 _ rfl; have g3 := HR1.out.at0.z 3 _ rfl; have f10 := HR1.out.at0.froz 10 (Nat.le_of_ble_eq_true rfl); have g10 := HR1.out.at0.z 10 _ rfl; rw [Nat.zero_add] at f10; rw [HN.out] at g3)
    | (go_at_call 92; refine (gfault_any HR1.out _ _ b rfl).mono ?_; rintro e w2 ⟨rfl, HR2, HB2⟩))
   go_ret
   exact ⟨rfl, HR2, ((below_drewN _ _ _).trans HB1.out).trans HB2.out⟩
  ·have e1 : ¬ (p : Int) < (s.size : Int) := by omega
   clear h1 h2 h4
   go_enter Tryz.func61, Tryz.ntmps61
   go_wp2_with fail
   go_quiet (fail)
   go_wp2_with (first
    | (go_at_call 91; refine (TK.out _ b (HR.out.drewN _)).mono ?_; rintro e w1 ⟨rfl, ⟨tk1, HR1⟩, HB1⟩; have g0 := HR1.out.at0.z 0 _ rfl; have g3 := HR1.out.at0.z 3 _ rfl; have f10 := HR1.out.at0.froz 10 (Nat.le_of_ble_eq_true rfl); have g10 := HR1.out.at0.z 10 _ rfl; rw [Nat.zero_add] at f10; rw [HN.out] at g3)
    | (go_at_call 92; refine (gfault_any HR1.out _ _ b rfl).mono ?_; rintro e w2 ⟨rfl, HR2, HB2⟩))
   go_ret
   exact ⟨rfl, HR2, ((below_drewN _ _ _).trans HB1.out).trans HB2.out⟩
 ·have e4 : ¬ (b : Int) < (s.size : Int) := by omega
  rw [if_neg h2, if_neg h2, dtr (by omega)]
  have e1 : ¬ (p : Int) < (s.size : Int) := by omega
  clear h1 h2
  go_enter Tryz.func61, Tryz.ntmps61
  go_wp2_with fail
  go_quiet (fail)
  go_wp2_with (first
   | (go_at_call 91; refine (TK.out _ s.size (HR.out.drewN _)).mono ?_; rintro e w1 ⟨rfl, ⟨tk1, HR1⟩, HB1⟩; have g0 := HR1.out.at0.z 0 _ rfl; have g3 := HR1.out.at0.z 3 _ rfl; have f10 := HR1.out.at0.froz 10 (Nat.le_of_ble_eq_true rfl); have g10 := HR1.out.at0.z 10 _ rfl; rw [Nat.zero_add] at f10; rw [HN.out] at g3)
   | (go_at_call 92; refine (gfault_any (HR1.out.setC 10 (.bool true) (en' := true) rfl) _ _ s.size rfl).mono ?_; rintro e w2 ⟨rfl, HR2, HB2⟩))
  go_ret
  exact ⟨rfl, HR2, (((below_drewN _ _ _).trans HB1.out).setCell (p := ⟨g, 10, none⟩) (nle _) _).trans HB2.out⟩
theorem glack_eq {α : Type} (s : ByteArray) (L : Lm) : (lack s.toList L : Rs α) = .no (lackE s.toList L) (lackP s.toList L) (decide (s.toList.length ≤ L.bytes)) := rfl
theorem Gok.txt {w : World} {g : Nat} {s : ByteArray} {L : Lm} {ro : Int} {O : List Am} {fr : Nat} (h : Gok w g s L ro O fr) : w.cell? ⟨g, 0, none⟩ = some (.string s) := by
 obtain ⟨vo, tk, h⟩ := h
 have h0 := h.at0.z 0 _ rfl
 exact h0
theorem gfault17_any {w : World} {g : Nat} {s : ByteArray} {L : Lm} {ro : Int} {O : List Am} {vo : Value} {tk fr : Nat} {en : Bool} (h : Rg w g s L ro O vo 0 0 tk fr en) (z c : Int) (q : Nat) (hz : (q : Int) = z) :
  Calls Tryz.prog 62 #[.pointer (some ⟨g, 0, none⟩), .int .i64 z, .int .i64 c] w (GNay (.bool false) g s L ro c q en w) := by
 subst hz
 have HR := hid h
 have h6 := h.at0.z 6 _ rfl
 have f6 := h.at0.froz 6 (Nat.le_of_ble_eq_true rfl)
 have h7 := h.at0.z 7 _ rfl
 have f7 := h.at0.froz 7 (Nat.le_of_ble_eq_true rfl)
 rw [Nat.zero_add] at f6 f7
 clear h
 go_enter Tryz.func62, Tryz.ntmps62
 go_wp2_with fail
 go_ret
 exact ⟨rfl, ⟨O, vo, tk, fr, (HR.out.setC 6 (.int .i64 c) (er' := c) rfl).setC 7 _ rfl⟩, ((Below.refl g w).setCell (nle _) _).setCell (nle _) _⟩
theorem gfault17_ok {w : World} {g : Nat} {s : ByteArray} {L : Lm} {ro : Int} {O : List Am} {fr : Nat} (h : Gok w g s L ro O fr) (z c : Int) (q : Nat) (hz : (q : Int) = z) :
  Calls Tryz.prog 62 #[.pointer (some ⟨g, 0, none⟩), .int .i64 z, .int .i64 c] w (GNay (.bool false) g s L ro c q false w) := by
 obtain ⟨vo, tk, h⟩ := h
 exact gfault17_any h z c q hz
end Co
end Go.Proofs.YtikgonlhdkknkaaGreatDoor
namespace Go.Proofs.YtikgonlhdkknkaaGreatDoor
open Go.RowKit
namespace Co
open Dr (Rs Lm has lack at0S lackE lackP)
def hdR (S : List UInt8) (L : Lm) (m p : Nat) : Rs Nat :=
 if has S L p = false then lack S L
 else if L.items ≤ m then .no 10 p false
 else if headE (S.getD p 0) ≠ 0 then .no (headE (S.getD p 0)) p false
 else argR S L p
def DHead (r : Rs Nat) (p : Nat) (s : ByteArray) (L : Lm) (ro : Int) (g : Nat) (O : List Am) (fr : Nat) (w : World) (e : Ending) (w' : World) : Prop :=
 match r with
 | .ok n => GYes (.tuple #[.int .i64 (kindT (s.toList.getD p 0) : Int), .int .u64 (n : Int), .int .i64 ((p + 1 + widT (s.toList.getD p 0) : Nat) : Int), .bool true]) g s L ro O fr w e w'
 | .no c q b => GNay (.tuple #[.int .i64 0, .int .u64 0, .int .i64 0, .bool false]) g s L ro c q b w e w'
theorem Gok.opn {w : World} {g : Nat} {s : ByteArray} {L : Lm} {ro : Int} {O : List Am} {fr : Nat} (h : Gok w g s L ro O fr) : ∃ a c tk, Hid (Rg w g s L ro O (.slice a O.length c) 0 0 tk fr false) := by
 obtain ⟨vo, tk, h⟩ := h
 obtain ⟨a, c, rfl, -⟩ := own_form h.out
 exact ⟨a, c, tk, h⟩
theorem results_four {fn : Func} {t u v x : Tmp} (h : fn.results = #[.tmp t, .tmp u, .tmp v, .tmp x]) (tmps : Array Value) (P : Program) (w : World) :
  (results fn tmps).run P w = .ok (.tuple #[tmps.getD t undef, tmps.getD u undef, tmps.getD v undef, tmps.getD x undef]) w := by
 simp [results, h]
section
variable (w : World) (g : Nat) (s : ByteArray) (L : Lm) (ro : Int) (O : List Am) (fr p : Nat)
theorem ghead_lack (hR : Gok w g s L ro O fr) (h0 : ¬ (p < s.size ∧ p < L.bytes)) :
  Calls Tryz.prog 87 #[.pointer (some ⟨g, 0, none⟩), .int .i64 (p : Int)] w (DHead (lack s.toList L) p s L ro g O fr w) := by
 have W := hid (gwant_no hR (p : Int) p rfl h0)
 clear hR h0
 go_enter Tryz.func87, Tryz.ntmps87
 go_wp2_with (first | (go_at_call 61; refine W.out.mono ?_; rintro e w1 ⟨rfl, HR1, HB1⟩))
 (try simp only [Exit.inBlock, Exit.then])
 refine bodyPost_ret (results_four rfl _ _ _) rfl ?_
 exact ⟨rfl, HR1, HB1⟩
theorem ghead_items (hR : Gok w g s L ro O fr) (hz : s.size ≤ 140737488351232) (h0 : p < s.size ∧ p < L.bytes) (h2 : L.items ≤ O.length) :
  Calls Tryz.prog 87 #[.pointer (some ⟨g, 0, none⟩), .int .i64 (p : Int)] w (DHead (.no 10 p false) p s L ro g O fr w) := by
 have W := hid (gwant_yes hR (p : Int) p rfl h0.1 h0.2 hz)
 obtain ⟨m, hm⟩ : ∃ m, O.length = m := ⟨_, rfl⟩
 have HM := hid hm
 have e1 : (L.items : Int) ≤ (m : Int) := by omega
 clear hR hz h0 h2 hm
 go_enter Tryz.func87, Tryz.ntmps87
 go_wp2_with (first | (go_at_call 61; refine W.out.mono ?_; rintro e w1 ⟨rfl, HQ1, HB1⟩; obtain ⟨a1, c1, tk1, HR1⟩ := HQ1.out.opn; have g0 := HQ1.out.txt))
 have k11 := HR1.out.at0.cell 11 _ rfl
 have k2 := HR1.out.at0.cell 2 _ rfl
 rw [HM.out] at k11
 go_quiet (fail)
 go_wp2_with (first
  | (go_at_call 62; refine (gfault17_ok (HQ1.out.drewN _) _ _ p rfl).mono ?_; rintro e wf ⟨rfl, HRF, HBF⟩))
 (try simp only [Exit.inBlock, Exit.then])
 refine bodyPost_ret (results_four rfl _ _ _) rfl ?_
 exact ⟨rfl, HRF, (HB1.out.trans (below_drewN _ _ _)).trans HBF.out⟩
theorem ghead_big (hR : Gok w g s L ro O fr) (hz : s.size ≤ 140737488351232) (h0 : p < s.size ∧ p < L.bytes) (h2 : ¬ L.items ≤ O.length) (h3 : 27 < infT (s.toList.getD p 0)) :
  Calls Tryz.prog 87 #[.pointer (some ⟨g, 0, none⟩), .int .i64 (p : Int)] w (DHead (.no 9 p false) p s L ro g O fr w) := by
 have W := hid (gwant_yes hR (p : Int) p rfl h0.1 h0.2 hz)
 obtain ⟨m, hm⟩ : ∃ m, O.length = m := ⟨_, rfl⟩
 have HM := hid hm
 have e1 : ¬ (L.items : Int) ≤ (m : Int) := by omega
 have e1b : decide ((L.items : Int) ≤ (m : Int)) = false := dfa e1
 obtain ⟨t, ht⟩ : ∃ t, (s.toList.getD p 0).toNat = t := ⟨_, rfl⟩
 have ht2 : t < 256 := by rw [← ht]; exact (s.toList.getD p 0).toNat_lt
 rw [infT, ht] at h3
 have hlt : p < s.size := h0.1
 have hsp : (s[p]'hlt).toNat = t := by rw [← gtl_getD s p hlt]; exact ht
 have e10 : (p : Int) ≤ 140737488351232 := by omega
 have e2 : IntKind.i64.wrap (t : Int) = (t : Int) := wrap_fit t (by unfold maxLen; omega)
 obtain ⟨x, hx⟩ : ∃ x, t / 32 = x := ⟨_, rfl⟩
 have e3 : (t : Int) / 32 = (x : Int) := by omega
 have e4 : IntKind.i64.wrap (x : Int) = (x : Int) := wrap_fit x (by unfold maxLen; omega)
 obtain ⟨y, hy⟩ : ∃ y, t % 32 = y := ⟨_, rfl⟩
 have e5 : (t : Int) % 32 = (y : Int) := by omega
 have e6 : IntKind.i64.wrap (y : Int) = (y : Int) := wrap_fit y (by unfold maxLen; omega)
 have e7 : (27 : Int) < (y : Int) := by omega
 clear hR hz h0 h2 hm ht hx hy h3 ht2
 go_enter Tryz.func87, Tryz.ntmps87
 go_wp2_with (first | (go_at_call 61; refine W.out.mono ?_; rintro e w1 ⟨rfl, HQ1, HB1⟩; obtain ⟨a1, c1, tk1, HR1⟩ := HQ1.out.opn; have g0 := HQ1.out.txt))
 have k11 := HR1.out.at0.cell 11 _ rfl
 have k2 := HR1.out.at0.cell 2 _ rfl
 rw [HM.out] at k11
 go_quiet (fail)
 go_wp2_with (first
  | (go_at_call 62; refine (gfault17_ok (HQ1.out.drewN _) _ _ p rfl).mono ?_; rintro e wf ⟨rfl, HRF, HBF⟩))
 (try simp only [Exit.inBlock, Exit.then])
 refine bodyPost_ret (results_four rfl _ _ _) rfl ?_
 exact ⟨rfl, HRF, (HB1.out.trans (below_drewN _ _ _)).trans HBF.out⟩
-- generated from here
theorem ghead_klow (hR : Gok w g s L ro O fr) (hz : s.size ≤ 140737488351232) (h0 : p < s.size ∧ p < L.bytes) (h2 : ¬ L.items ≤ O.length) (h3 : ¬ 27 < infT (s.toList.getD p 0)) (h5 : kindT (s.toList.getD p 0) = 7) (h4 : infT (s.toList.getD p 0) < 20) :
  Calls Tryz.prog 87 #[.pointer (some ⟨g, 0, none⟩), .int .i64 (p : Int)] w (DHead (.no 11 p false) p s L ro g O fr w) := by
 have W := hid (gwant_yes hR (p : Int) p rfl h0.1 h0.2 hz)
 obtain ⟨m, hm⟩ : ∃ m, O.length = m := ⟨_, rfl⟩
 have HM := hid hm
 have e1 : ¬ (L.items : Int) ≤ (m : Int) := by omega
 have e1b : decide ((L.items : Int) ≤ (m : Int)) = false := dfa e1
 obtain ⟨t, ht⟩ : ∃ t, (s.toList.getD p 0).toNat = t := ⟨_, rfl⟩
 have ht2 : t < 256 := by rw [← ht]; exact (s.toList.getD p 0).toNat_lt
 have hlt : p < s.size := h0.1
 have hsp : (s[p]'hlt).toNat = t := by rw [← gtl_getD s p hlt]; exact ht
 have e10 : (p : Int) ≤ 140737488351232 := by omega
 have e2 : IntKind.i64.wrap (t : Int) = (t : Int) := wrap_fit t (by unfold maxLen; omega)
 obtain ⟨x, hx⟩ : ∃ x, t / 32 = x := ⟨_, rfl⟩
 have e3 : (t : Int) / 32 = (x : Int) := by omega
 have e4 : IntKind.i64.wrap (x : Int) = (x : Int) := wrap_fit x (by unfold maxLen; omega)
 obtain ⟨y, hy⟩ : ∃ y, t % 32 = y := ⟨_, rfl⟩
 have e5 : (t : Int) % 32 = (y : Int) := by omega
 have e6 : IntKind.i64.wrap (y : Int) = (y : Int) := wrap_fit y (by unfold maxLen; omega)
 have hkx : kindT (s.toList.getD p 0) = x := by rw [kindT, ht, hx]
 have hiy : infT (s.toList.getD p 0) = y := by rw [infT, ht, hy]
 rw [hiy] at h3 h4
 rw [hkx] at h5
 subst h5
 have e7 : ¬ (27 : Int) < (y : Int) := by omega
 have e7b : decide ((27 : Int) < (y : Int)) = false := dfa e7
 have e8 : (y : Int) < 20 := by omega
 clear hR hz h0 h2 hm ht hx hy ht2 hkx hiy h3 h4
 go_enter Tryz.func87, Tryz.ntmps87
 go_wp2_with (first | (go_at_call 61; refine W.out.mono ?_; rintro e w1 ⟨rfl, HQ1, HB1⟩; obtain ⟨a1, c1, tk1, HR1⟩ := HQ1.out.opn; have g0 := HQ1.out.txt))
 have k11 := HR1.out.at0.cell 11 _ rfl
 have k2 := HR1.out.at0.cell 2 _ rfl
 rw [HM.out] at k11
 have g0N : ∀ k, (w1.drewN k).cell? ⟨g, 0, none⟩ = some (.string s) := fun _ => g0
 go_quiet (fail)
 go_wp2_with (first
  | (go_at_call 62; refine (gfault17_ok (HQ1.out.drewN _) _ _ p rfl).mono ?_; rintro e wf ⟨rfl, HRF, HBF⟩))
 (try simp only [Exit.inBlock, Exit.then])
 refine bodyPost_ret (results_four rfl _ _ _) rfl ?_
 exact ⟨rfl, HRF, (HB1.out.trans (below_drewN _ _ _)).trans HBF.out⟩
theorem ghead_khigh (hR : Gok w g s L ro O fr) (hz : s.size ≤ 140737488351232) (h0 : p < s.size ∧ p < L.bytes) (h2 : ¬ L.items ≤ O.length) (h3 : ¬ 27 < infT (s.toList.getD p 0)) (h5 : kindT (s.toList.getD p 0) = 7) (h4 : 23 < infT (s.toList.getD p 0)) :
  Calls Tryz.prog 87 #[.pointer (some ⟨g, 0, none⟩), .int .i64 (p : Int)] w (DHead (.no 11 p false) p s L ro g O fr w) := by
 have W := hid (gwant_yes hR (p : Int) p rfl h0.1 h0.2 hz)
 obtain ⟨m, hm⟩ : ∃ m, O.length = m := ⟨_, rfl⟩
 have HM := hid hm
 have e1 : ¬ (L.items : Int) ≤ (m : Int) := by omega
 have e1b : decide ((L.items : Int) ≤ (m : Int)) = false := dfa e1
 obtain ⟨t, ht⟩ : ∃ t, (s.toList.getD p 0).toNat = t := ⟨_, rfl⟩
 have ht2 : t < 256 := by rw [← ht]; exact (s.toList.getD p 0).toNat_lt
 have hlt : p < s.size := h0.1
 have hsp : (s[p]'hlt).toNat = t := by rw [← gtl_getD s p hlt]; exact ht
 have e10 : (p : Int) ≤ 140737488351232 := by omega
 have e2 : IntKind.i64.wrap (t : Int) = (t : Int) := wrap_fit t (by unfold maxLen; omega)
 obtain ⟨x, hx⟩ : ∃ x, t / 32 = x := ⟨_, rfl⟩
 have e3 : (t : Int) / 32 = (x : Int) := by omega
 have e4 : IntKind.i64.wrap (x : Int) = (x : Int) := wrap_fit x (by unfold maxLen; omega)
 obtain ⟨y, hy⟩ : ∃ y, t % 32 = y := ⟨_, rfl⟩
 have e5 : (t : Int) % 32 = (y : Int) := by omega
 have e6 : IntKind.i64.wrap (y : Int) = (y : Int) := wrap_fit y (by unfold maxLen; omega)
 have hkx : kindT (s.toList.getD p 0) = x := by rw [kindT, ht, hx]
 have hiy : infT (s.toList.getD p 0) = y := by rw [infT, ht, hy]
 rw [hiy] at h3 h4
 rw [hkx] at h5
 subst h5
 have e7 : ¬ (27 : Int) < (y : Int) := by omega
 have e7b : decide ((27 : Int) < (y : Int)) = false := dfa e7
 have e8 : ¬ (y : Int) < 20 := by omega
 have e8b : decide ((y : Int) < 20) = false := dfa e8
 have e9 : (23 : Int) < (y : Int) := by omega
 clear hR hz h0 h2 hm ht hx hy ht2 hkx hiy h3 h4
 go_enter Tryz.func87, Tryz.ntmps87
 go_wp2_with (first | (go_at_call 61; refine W.out.mono ?_; rintro e w1 ⟨rfl, HQ1, HB1⟩; obtain ⟨a1, c1, tk1, HR1⟩ := HQ1.out.opn; have g0 := HQ1.out.txt))
 have k11 := HR1.out.at0.cell 11 _ rfl
 have k2 := HR1.out.at0.cell 2 _ rfl
 rw [HM.out] at k11
 have g0N : ∀ k, (w1.drewN k).cell? ⟨g, 0, none⟩ = some (.string s) := fun _ => g0
 go_quiet (fail)
 go_wp2_with (first
  | (go_at_call 62; refine (gfault17_ok (HQ1.out.drewN _) _ _ p rfl).mono ?_; rintro e wf ⟨rfl, HRF, HBF⟩))
 (try simp only [Exit.inBlock, Exit.then])
 refine bodyPost_ret (results_four rfl _ _ _) rfl ?_
 exact ⟨rfl, HRF, (HB1.out.trans (below_drewN _ _ _)).trans HBF.out⟩
theorem ghead_short7 (hR : Gok w g s L ro O fr) (hz : s.size ≤ 140737488351232) (h0 : p < s.size ∧ p < L.bytes) (h2 : ¬ L.items ≤ O.length) (h4 : infT (s.toList.getD p 0) < 24) (h5 : kindT (s.toList.getD p 0) = 7) (h6 : ¬ infT (s.toList.getD p 0) < 20) :
  Calls Tryz.prog 87 #[.pointer (some ⟨g, 0, none⟩), .int .i64 (p : Int)] w (DHead (argR s.toList L p) p s L ro g O fr w) := by
 have W := hid (gwant_yes hR (p : Int) p rfl h0.1 h0.2 hz)
 obtain ⟨m, hm⟩ : ∃ m, O.length = m := ⟨_, rfl⟩
 have HM := hid hm
 have e1 : ¬ (L.items : Int) ≤ (m : Int) := by omega
 have e1b : decide ((L.items : Int) ≤ (m : Int)) = false := dfa e1
 obtain ⟨t, ht⟩ : ∃ t, (s.toList.getD p 0).toNat = t := ⟨_, rfl⟩
 have ht2 : t < 256 := by rw [← ht]; exact (s.toList.getD p 0).toNat_lt
 have hlt : p < s.size := h0.1
 have hsp : (s[p]'hlt).toNat = t := by rw [← gtl_getD s p hlt]; exact ht
 have e10 : (p : Int) ≤ 140737488351232 := by omega
 have e2 : IntKind.i64.wrap (t : Int) = (t : Int) := wrap_fit t (by unfold maxLen; omega)
 obtain ⟨x, hx⟩ : ∃ x, t / 32 = x := ⟨_, rfl⟩
 have e3 : (t : Int) / 32 = (x : Int) := by omega
 have e4 : IntKind.i64.wrap (x : Int) = (x : Int) := wrap_fit x (by unfold maxLen; omega)
 obtain ⟨y, hy⟩ : ∃ y, t % 32 = y := ⟨_, rfl⟩
 have e5 : (t : Int) % 32 = (y : Int) := by omega
 have e6 : IntKind.i64.wrap (y : Int) = (y : Int) := wrap_fit y (by unfold maxLen; omega)
 have hkx : kindT (s.toList.getD p 0) = x := by rw [kindT, ht, hx]
 have hiy : infT (s.toList.getD p 0) = y := by rw [infT, ht, hy]
 have hw : widT (s.toList.getD p 0) = 0 := by rw [widT, if_pos h4]
 rw [argR_none L p hw]
 show Calls _ _ _ _ (GYes _ _ _ _ _ _ _ _)
 rw [hw, hkx, hiy, Nat.add_zero]
 rw [hiy] at h4
 rw [hiy] at h6
 rw [hkx] at h5
 subst h5
 have e8 : ¬ (y : Int) < 20 := by omega
 have e8b : decide ((y : Int) < 20) = false := dfa e8
 have e9 : ¬ (23 : Int) < (y : Int) := by omega
 have e9b : decide ((23 : Int) < (y : Int)) = false := dfa e9
 have e7 : ¬ (27 : Int) < (y : Int) := by omega
 have e7b : decide ((27 : Int) < (y : Int)) = false := dfa e7
 have e11 : (y : Int) < 24 := by omega
 have e12 : IntKind.u64.wrap (y : Int) = (y : Int) := u64c y (by omega)
 obtain ⟨q, hq⟩ : ∃ q, p + 1 = q := ⟨_, rfl⟩
 have e13 : (p : Int) + 1 = (q : Int) := by omega
 have e14 : IntKind.i64.wrap (q : Int) = (q : Int) := wrap_fit q (by unfold maxLen; omega)
 rw [hq]
 clear hR hz h0 h2 hm ht hx hy ht2 hkx hiy h4 h6 hw hq
 go_enter Tryz.func87, Tryz.ntmps87
 go_wp2_with (first | (go_at_call 61; refine W.out.mono ?_; rintro e w1 ⟨rfl, HQ1, HB1⟩; obtain ⟨a1, c1, tk1, HR1⟩ := HQ1.out.opn; have g0 := HQ1.out.txt))
 have k11 := HR1.out.at0.cell 11 _ rfl
 have k2 := HR1.out.at0.cell 2 _ rfl
 rw [HM.out] at k11
 have g0N : ∀ k, (w1.drewN k).cell? ⟨g, 0, none⟩ = some (.string s) := fun _ => g0
 go_quiet (fail)
 go_wp2_with fail
 (try simp only [Exit.inBlock, Exit.then])
 refine bodyPost_ret (results_four rfl _ _ _) rfl ?_
 exact ⟨rfl, HQ1.out.drewN _, HB1.out.trans (below_drewN _ _ _)⟩
theorem ghead_short (hR : Gok w g s L ro O fr) (hz : s.size ≤ 140737488351232) (h0 : p < s.size ∧ p < L.bytes) (h2 : ¬ L.items ≤ O.length) (h4 : infT (s.toList.getD p 0) < 24) (h5 : kindT (s.toList.getD p 0) ≠ 7) (h6 : True) :
  Calls Tryz.prog 87 #[.pointer (some ⟨g, 0, none⟩), .int .i64 (p : Int)] w (DHead (argR s.toList L p) p s L ro g O fr w) := by
 have W := hid (gwant_yes hR (p : Int) p rfl h0.1 h0.2 hz)
 obtain ⟨m, hm⟩ : ∃ m, O.length = m := ⟨_, rfl⟩
 have HM := hid hm
 have e1 : ¬ (L.items : Int) ≤ (m : Int) := by omega
 have e1b : decide ((L.items : Int) ≤ (m : Int)) = false := dfa e1
 obtain ⟨t, ht⟩ : ∃ t, (s.toList.getD p 0).toNat = t := ⟨_, rfl⟩
 have ht2 : t < 256 := by rw [← ht]; exact (s.toList.getD p 0).toNat_lt
 have hlt : p < s.size := h0.1
 have hsp : (s[p]'hlt).toNat = t := by rw [← gtl_getD s p hlt]; exact ht
 have e10 : (p : Int) ≤ 140737488351232 := by omega
 have e2 : IntKind.i64.wrap (t : Int) = (t : Int) := wrap_fit t (by unfold maxLen; omega)
 obtain ⟨x, hx⟩ : ∃ x, t / 32 = x := ⟨_, rfl⟩
 have e3 : (t : Int) / 32 = (x : Int) := by omega
 have e4 : IntKind.i64.wrap (x : Int) = (x : Int) := wrap_fit x (by unfold maxLen; omega)
 obtain ⟨y, hy⟩ : ∃ y, t % 32 = y := ⟨_, rfl⟩
 have e5 : (t : Int) % 32 = (y : Int) := by omega
 have e6 : IntKind.i64.wrap (y : Int) = (y : Int) := wrap_fit y (by unfold maxLen; omega)
 have hkx : kindT (s.toList.getD p 0) = x := by rw [kindT, ht, hx]
 have hiy : infT (s.toList.getD p 0) = y := by rw [infT, ht, hy]
 have hw : widT (s.toList.getD p 0) = 0 := by rw [widT, if_pos h4]
 rw [argR_none L p hw]
 show Calls _ _ _ _ (GYes _ _ _ _ _ _ _ _)
 rw [hw, hkx, hiy, Nat.add_zero]
 rw [hiy] at h4
 rw [hkx] at h5
 have e8 : ¬ (x : Int) = 7 := by omega
 have e7 : ¬ (27 : Int) < (y : Int) := by omega
 have e7b : decide ((27 : Int) < (y : Int)) = false := dfa e7
 have e11 : (y : Int) < 24 := by omega
 have e12 : IntKind.u64.wrap (y : Int) = (y : Int) := u64c y (by omega)
 obtain ⟨q, hq⟩ : ∃ q, p + 1 = q := ⟨_, rfl⟩
 have e13 : (p : Int) + 1 = (q : Int) := by omega
 have e14 : IntKind.i64.wrap (q : Int) = (q : Int) := wrap_fit q (by unfold maxLen; omega)
 rw [hq]
 clear hR hz h0 h2 hm ht hx hy ht2 hkx hiy h4 h6 hw hq
 go_enter Tryz.func87, Tryz.ntmps87
 go_wp2_with (first | (go_at_call 61; refine W.out.mono ?_; rintro e w1 ⟨rfl, HQ1, HB1⟩; obtain ⟨a1, c1, tk1, HR1⟩ := HQ1.out.opn; have g0 := HQ1.out.txt))
 have k11 := HR1.out.at0.cell 11 _ rfl
 have k2 := HR1.out.at0.cell 2 _ rfl
 rw [HM.out] at k11
 have g0N : ∀ k, (w1.drewN k).cell? ⟨g, 0, none⟩ = some (.string s) := fun _ => g0
 go_quiet (fail)
 go_wp2_with fail
 (try simp only [Exit.inBlock, Exit.then])
 refine bodyPost_ret (results_four rfl _ _ _) rfl ?_
 exact ⟨rfl, HQ1.out.drewN _, HB1.out.trans (below_drewN _ _ _)⟩
end
end Co
end Go.Proofs.YtikgonlhdkknkaaGreatDoor
namespace Go.Proofs.YtikgonlhdkknkaaGreatDoor
open Go.RowKit
namespace Co
open Dr (Rs Lm has lack at0S lackE lackP)
section
variable {w w' : World} {g : Nat} {s : ByteArray} {L : Lm} {ro : Int} {O : List Am} {fr p : Nat} {r : Rs Nat} {e : Ending}
theorem DHead.yes {n x q : Nat} (hr : r = .ok n) (hk : kindT (s.toList.getD p 0) = x) (hq : p + 1 + widT (s.toList.getD p 0) = q) (he : e = .returned (.tuple #[.int .i64 (x : Int), .int .u64 (n : Int), .int .i64 (q : Int), .bool true])) (h1 : Hid (Gok w' g s L ro O fr)) (h2 : Hid (Below g w w')) : DHead r p s L ro g O fr w e w' := by
 subst hr hk hq
 exact ⟨he, h1, h2⟩
theorem DHead.nay {c : Int} {q : Nat} {b : Bool} (hr : r = .no c q b) (he : e = .returned (.tuple #[.int .i64 0, .int .u64 0, .int .i64 0, .bool false])) (h1 : Hid (Gno w' g s L ro c q b)) (h2 : Hid (Below g w w')) : DHead r p s L ro g O fr w e w' := by
 subst hr
 exact ⟨he, h1, h2⟩
theorem argR_wide {n W : Nat} (hw : widT (s.toList.getD p 0) = W) (h0 : W = 1 ∨ W = 2 ∨ W = 4 ∨ W = 8) (hA : argB s.toList L p W = .ok n) : argR s.toList L p = if widN n = W then .ok n else .no 9 p false := by
 subst hw
 have h1 := argR_of L p (by omega) hA
 have hn := argB_lt p _ n hA
 have h2 := short_iff _ n h0 hn
 rw [h1]
 by_cases h3 : widN n = widT (s.toList.getD p 0)
 ·rw [if_pos (h2.2 h3), if_pos h3]
 ·rw [if_neg (fun h => h3 (h2.1 h)), if_neg h3]
end
section
variable (w : World) (g : Nat) (s : ByteArray) (L : Lm) (ro : Int) (O : List Am) (fr p : Nat)
theorem ghead_w (N k c : Nat) (hNk : k = 24 ∧ N = 1 ∧ c = 0 ∨ k = 25 ∧ N = 2 ∧ c = 1 ∨ k = 26 ∧ N = 4 ∧ c = 2 ∨ k = 27 ∧ N = 8 ∧ c = 3) (hR : Gok w g s L ro O fr) (hz : s.size ≤ 140737488351232) (h0 : p < s.size ∧ p < L.bytes) (h2 : ¬ L.items ≤ O.length) (h4 : infT (s.toList.getD p 0) = k) (h5 : kindT (s.toList.getD p 0) ≠ 7) :
  Calls Tryz.prog 87 #[.pointer (some ⟨g, 0, none⟩), .int .i64 (p : Int)] w (DHead (argR s.toList L p) p s L ro g O fr w) := by
 have W := hid (gwant_yes hR (p : Int) p rfl h0.1 h0.2 hz)
 obtain ⟨m, hm⟩ : ∃ m, O.length = m := ⟨_, rfl⟩
 have HM := hid hm
 have e1 : ¬ (L.items : Int) ≤ (m : Int) := by omega
 have e1b : decide ((L.items : Int) ≤ (m : Int)) = false := dfa e1
 obtain ⟨t, ht⟩ : ∃ t, (s.toList.getD p 0).toNat = t := ⟨_, rfl⟩
 have ht2 : t < 256 := by rw [← ht]; exact (s.toList.getD p 0).toNat_lt
 have hlt : p < s.size := h0.1
 have hsp : (s[p]'hlt).toNat = t := by rw [← gtl_getD s p hlt]; exact ht
 have e10 : (p : Int) ≤ 140737488351232 := by omega
 have e2 : IntKind.i64.wrap (t : Int) = (t : Int) := wrap_fit t (by unfold maxLen; omega)
 obtain ⟨x, hx⟩ : ∃ x, t / 32 = x := ⟨_, rfl⟩
 have e3 : (t : Int) / 32 = (x : Int) := by omega
 have e4 : IntKind.i64.wrap (x : Int) = (x : Int) := wrap_fit x (by unfold maxLen; omega)
 obtain ⟨y, hy⟩ : ∃ y, t % 32 = y := ⟨_, rfl⟩
 have e5 : (t : Int) % 32 = (y : Int) := by omega
 have e6 : IntKind.i64.wrap (y : Int) = (y : Int) := wrap_fit y (by unfold maxLen; omega)
 have hkx : kindT (s.toList.getD p 0) = x := by rw [kindT, ht, hx]
 have hiy : infT (s.toList.getD p 0) = y := by rw [infT, ht, hy]
 have hw : widT (s.toList.getD p 0) = N := by rw [widT, h4]; rcases hNk with ⟨rfl, rfl, rfl⟩ | ⟨rfl, rfl, rfl⟩ | ⟨rfl, rfl, rfl⟩ | ⟨rfl, rfl, rfl⟩ <;> rfl
 have HW0 := hid hw
 have HK := hid hkx
 rw [hiy] at h4
 have e5n : (t : Int) % 32 = (k : Int) := by omega
 have k1 : ¬ (27 : Int) < (k : Int) := by omega
 have k2 : ¬ (k : Int) < 24 := by omega
 have k3 : (k : Int) - 24 = (c : Int) := by omega
 have k4 : IntKind.i64.wrap (c : Int) = (c : Int) := wrap_fit c (by unfold maxLen; omega)
 have k5 : IntKind.i64.wrap (k : Int) = (k : Int) := wrap_fit k (by unfold maxLen; omega)
 have HN : Hid (N = 1 ∨ N = 2 ∨ N = 4 ∨ N = 8) := by show _ ∨ _; omega
 obtain ⟨N1, hN1⟩ : ∃ m, N + 1 = m := ⟨_, rfl⟩
 have k6 : (1 : Int) + (N : Int) = (N1 : Int) := by omega
 have k7 : IntKind.i64.wrap (N1 : Int) = (N1 : Int) := wrap_fit N1 (by unfold maxLen; omega)
 have k8 : (N : Int) + 1 = (N1 : Int) := by omega
 rw [hkx] at h5
 have e8 : ¬ (x : Int) = 7 := by omega
 clear e5 e6
 have hx8 : x < 8 := by omega
 have RH := hid (fun n (hn : n < 18446744073709551616) w => rhead_any x n hx8 hn w)
 have WY := hid (fun w' (q : Nat) (h1 : q < s.size) (h2 : q < L.bytes) (h : Gok w' g s L ro O fr) => gwant_yes h (q : Int) q rfl h1 h2 hz)
 have WN := hid (fun w' (q : Nat) (h1 : ¬ (q < s.size ∧ q < L.bytes)) (h : Gok w' g s L ro O fr) => gwant_no h (q : Int) q rfl h1)
 have HZ := hid (aIn hz hlt)
 have hix : ∀ w : World, (Instr.index 182 (.agg #[.int .i64 1, .int .i64 2, .int .i64 4, .int .i64 8]) (.int .i64 (c : Int))).run Tryz.prog w = .ok (.int .i64 (N : Int)) w := by intro w; rcases hNk with ⟨rfl, rfl, rfl⟩ | ⟨rfl, rfl, rfl⟩ | ⟨rfl, rfl, rfl⟩ | ⟨rfl, rfl, rfl⟩ <;> rfl
 clear hR hz h0 h2 hm ht hx hy ht2 hkx hiy h4 h5 hx8 hw hNk
 go_enter Tryz.func87, Tryz.ntmps87
 go_wp2_with (first | (go_at_call 61; refine W.out.mono ?_; rintro e w1 ⟨rfl, HQ1, HB1⟩; obtain ⟨a1, c1, tk1, HR1⟩ := HQ1.out.opn; have g0 := HQ1.out.txt))
 have k11 := HR1.out.at0.cell 11 _ rfl
 have k2 := HR1.out.at0.cell 2 _ rfl
 rw [HM.out] at k11
 have g0N : ∀ k, (w1.drewN k).cell? ⟨g, 0, none⟩ = some (.string s) := fun _ => g0
 go_quiet (fail)
 have HQ0 := hid (HQ1.out.drewN nq)
 have HB0 : Hid (Below g w (w1.drewN nq)) := HB1.out.trans (below_drewN _ _ _)
 obtain ⟨wq, hwq⟩ : ∃ v, w1.drewN nq = v := ⟨_, rfl⟩
 rw [hwq] at HQ0 HB0
 try rw [hwq]
 clear hwq k11 k2 g0N g0
 have g0 := HQ0.out.txt
 go_wp2_with fail
 clear g0
 go_loopw [11, 12] (fun vn vi wr => ∃ i j n : Nat, i + 1 = j ∧ vi = .int .i64 (j : Int) ∧ vn = .int .u64 (n : Int) ∧ i ≤ N ∧ Hid (argB s.toList L p i = .ok n) ∧ Hid (Gok wr g s L ro O fr) ∧ Hid (Below g w wr)) (fun _ vi _ => N + 1 - (intOf vi).toNat)
 case atStart => exact ⟨0, 1, 0, rfl, rfl, rfl, Nat.zero_le _, rfl, HQ0, HB0⟩
 case round =>
  obtain ⟨i, j, n, hj, rfl, rfl, hil, HA, HQ, HB⟩ := hrel
  clear HQ0 HB0
  have hn := argB_lt p i n HA.out
  by_cases hi : i = N
  ·rw [hi] at HA hn hj
   have e30 : ¬ (j : Int) ≤ (N : Int) := by omega
   have hn9 : n < 18446744073709551616 := nlt hn (by rcases HN.out with h | h | h | h <;> rw [h] <;> decide)
   have RH1 := hid (RH.out n hn9)
   have hA := argR_wide HW0.out HN.out HA.out
   have hz2 := hdN_length x n
   obtain ⟨wd, hwd⟩ : ∃ z, widN n = z := ⟨_, rfl⟩
   rw [hwd] at hA hz2
   by_cases hs : wd = N
   ·rw [hs, hN1] at hz2
    rw [if_pos hs] at hA
    have HA3 := hid hA
    have HZZ := hid hz2
    obtain ⟨q1, hq1⟩ : ∃ q, p + 1 = q := ⟨_, rfl⟩
    obtain ⟨q, hq⟩ : ∃ q, q1 + N = q := ⟨_, rfl⟩
    have e20 : (p : Int) + 1 = (q1 : Int) := by omega
    have e21 : IntKind.i64.wrap (q1 : Int) = (q1 : Int) := wrap_fit q1 (by have := HZ.out; unfold maxLen; omega)
    have e22 : (q1 : Int) + (N : Int) = (q : Int) := by omega
    have e23 : IntKind.i64.wrap (q : Int) = (q : Int) := wrap_fit q (by have := HZ.out; have := HN.out; unfold maxLen; omega)
    have HQq : Hid (p + 1 + widT (s.toList.getD p 0) = q) := by show _ = _; rw [HW0.out, hq1, hq]
    clear hn hn9 hz2 hA hil hq hq1 hj hwd hs hi
    go_wp2_with (first | (go_at_call 48; refine (RH1.out _).mono ?_; rintro e w2 ⟨u, rfl, hu, hb2⟩; have hus : u.size = N1 := (by rw [← tl_size, hu]; exact HZZ.out); have HQ2 := hid (HQ.out.below hb2); have HB2 : Hid (Below g w w2) := HB.out.trans (hb2.mono (Nat.le_of_lt HQ.out.lt)); clear hb2 hu))
    (try simp only [Exit.inBlock, Exit.then])
    refine bodyPost_ret (results_four rfl _ _ _) rfl ?_
    exact DHead.yes HA3.out HK.out HQq.out rfl HQ2 HB2
   ·rw [if_neg hs] at hA
    have HA3 := hid hA
    obtain ⟨z, hz⟩ : ∃ z, wd + 1 = z := ⟨_, rfl⟩
    rw [hz] at hz2
    have HZZ := hid hz2
    have e20 : ¬ (z : Int) = (N1 : Int) := by omega
    clear hn hn9 hz2 hA hil hj hwd hs hz hi
    go_wp2_with (first
     | (go_at_call 48; refine (RH1.out _).mono ?_; rintro e w2 ⟨u, rfl, hu, hb2⟩; have hus : u.size = z := (by rw [← tl_size, hu]; exact HZZ.out); have HQ2 := hid (HQ.out.below hb2); have HB2 : Hid (Below g w w2) := HB.out.trans (hb2.mono (Nat.le_of_lt HQ.out.lt)); clear hb2 hu)
     | (go_at_call 62; refine (gfault17_ok HQ2.out _ _ p rfl).mono ?_; rintro e wf ⟨rfl, HRF, HBF⟩))
    (try simp only [Exit.inBlock, Exit.then])
    refine bodyPost_ret (results_four rfl _ _ _) rfl ?_
    exact DHead.nay HA3.out rfl HRF (HB2.out.trans HBF.out)
  ·obtain ⟨q, hq⟩ : ∃ q, p + j = q := ⟨_, rfl⟩
   have hij : p + i + 1 = q := by omega
   have e20 : (p : Int) + (j : Int) = (q : Int) := by omega
   have e21 : IntKind.i64.wrap (q : Int) = (q : Int) := wrap_fit q (by have := HZ.out; have := HN.out; unfold maxLen; omega)
   have e22 : (j : Int) ≤ (N : Int) := by omega
   by_cases h1 : q < s.size ∧ q < L.bytes
   ·have WY1 := hid (WY.out _ q h1.1 h1.2 HQ.out)
    have hqs := h1.1
    obtain ⟨d, hd⟩ : ∃ d, (s.toList.getD q 0).toNat = d := ⟨_, rfl⟩
    have hd2 : d < 256 := by rw [← hd]; exact (s.toList.getD q 0).toNat_lt
    have hsq : (s[q]'hqs).toNat = d := by rw [← gtl_getD s q hqs]; exact hd
    have hn6 : n < 256 ^ 7 := nlt hn (Nat.pow_le_pow_right (by decide) (by have := HN.out; omega))
    have hn7 : n < 72057594037927936 := hn6
    obtain ⟨m1, hm1⟩ : ∃ q, n * 256 = q := ⟨_, rfl⟩
    have e23 : (n : Int) * 256 = (m1 : Int) := by omega
    have e24 : IntKind.u64.wrap (m1 : Int) = (m1 : Int) := u64c m1 (by omega)
    have e25 : IntKind.u64.wrap (d : Int) = (d : Int) := u64c d (by omega)
    obtain ⟨n2, hn2⟩ : ∃ q, m1 + d = q := ⟨_, rfl⟩
    have e26 : (m1 : Int) + (d : Int) = (n2 : Int) := by omega
    have e27 : IntKind.u64.wrap (n2 : Int) = (n2 : Int) := u64c n2 (by omega)
    obtain ⟨j2, hj2⟩ : ∃ q, j + 1 = q := ⟨_, rfl⟩
    have e28 : (j : Int) + 1 = (j2 : Int) := by omega
    have e29 : IntKind.i64.wrap (j2 : Int) = (j2 : Int) := wrap_fit j2 (by have := HN.out; unfold maxLen; omega)
    have HA4 : Hid (argB s.toList L p j = .ok n2) := by
     show _ = _
     rw [← hj, argB_next HA.out (by rw [hij]; exact has_yes s L q h1) (show at0S s.toList (p + i + 1) = d by rw [hij]; exact hd)]
     congr 1
     omega
    have HJ : Hid (j + 1 = j2 ∧ j ≤ N) := ⟨hj2, by omega⟩
    clear hn hn6 hn7 hm1 hn2 hd hd2 h1 hq hij hi hil hj hj2
    go_wp2_with (first | (go_at_call 61; refine WY1.out.mono ?_; rintro e w2 ⟨rfl, HQ2, hb2⟩; have HB2 : Hid (Below g w w2) := HB.out.trans hb2.out; have g2 := HQ2.out.txt; clear hb2))
    go_roundw
    case rel => exact ⟨j, j2, n2, HJ.out.1, rfl, rfl, HJ.out.2, HA4, HQ2, HB2⟩
    case measure => have := HJ.out; simp [intOf]; omega
   ·have WN1 := hid (WN.out _ q h1 HQ.out)
    have hA := argR_no (S := s.toList) L p (by rw [HW0.out]; exact argB_no ((argB_lack HA.out (by rw [hij]; exact has_no s L q h1)).trans (glack_eq s L)) (show i + 1 ≤ N by omega))
    have HA3 := hid hA
    clear hn h1 hq hij hi hil hj hA
    go_wp2_with (first | (go_at_call 61; refine WN1.out.mono ?_; rintro e w2 ⟨rfl, HQ2, hb2⟩; have HB2 : Hid (Below g w w2) := HB.out.trans hb2.out; clear hb2))
    (try simp only [Exit.inBlock, Exit.then])
    refine bodyPost_ret (results_four rfl _ _ _) rfl ?_
    exact DHead.nay HA3.out rfl HQ2 HB2
theorem ghead_any (hR : Gok w g s L ro O fr) (hz : s.size ≤ 140737488351232) : Calls Tryz.prog 87 #[.pointer (some ⟨g, 0, none⟩), .int .i64 (p : Int)] w (DHead (hdR s.toList L O.length p) p s L ro g O fr w) := by
 by_cases h0 : p < s.size ∧ p < L.bytes
 ·rw [hdR, if_neg (by rw [has_yes s L p h0]; decide)]
  by_cases h2 : L.items ≤ O.length
  ·rw [if_pos h2]
   exact ghead_items w g s L ro O fr p hR hz h0 h2
  ·rw [if_neg h2]
   by_cases h3 : 27 < infT (s.toList.getD p 0)
   ·have hE : headE (s.toList.getD p 0) = 9 := by rw [headE, if_pos h3]
    rw [hE, if_pos (by decide)]
    exact ghead_big w g s L ro O fr p hR hz h0 h2 h3
   ·by_cases h5 : kindT (s.toList.getD p 0) = 7
    ·by_cases h6 : infT (s.toList.getD p 0) < 20
     ·have hE : headE (s.toList.getD p 0) = 11 := by rw [headE, if_neg h3, if_pos ⟨h5, .inl h6⟩]
      rw [hE, if_pos (by decide)]
      exact ghead_klow w g s L ro O fr p hR hz h0 h2 h3 h5 h6
     ·by_cases h7 : 23 < infT (s.toList.getD p 0)
      ·have hE : headE (s.toList.getD p 0) = 11 := by rw [headE, if_neg h3, if_pos ⟨h5, .inr h7⟩]
       rw [hE, if_pos (by decide)]
       exact ghead_khigh w g s L ro O fr p hR hz h0 h2 h3 h5 h7
      ·have hE : headE (s.toList.getD p 0) = 0 := by rw [headE, if_neg h3, if_neg (fun h => by rcases h.2 with h | h; exact h6 h; exact h7 h)]
       rw [hE, if_neg (by decide)]
       exact ghead_short7 w g s L ro O fr p hR hz h0 h2 (by omega) h5 h6
    ·have hE : headE (s.toList.getD p 0) = 0 := by rw [headE, if_neg h3, if_neg (fun h => h5 h.1)]
     rw [hE, if_neg (by decide)]
     by_cases h7 : infT (s.toList.getD p 0) < 24
     ·exact ghead_short w g s L ro O fr p hR hz h0 h2 h7 h5 trivial
     ·rcases (by omega : infT (s.toList.getD p 0) = 24 ∨ infT (s.toList.getD p 0) = 25 ∨ infT (s.toList.getD p 0) = 26 ∨ infT (s.toList.getD p 0) = 27) with h | h | h | h
      ·exact ghead_w w g s L ro O fr p 1 24 0 (by decide) hR hz h0 h2 h h5
      ·exact ghead_w w g s L ro O fr p 2 25 1 (by decide) hR hz h0 h2 h h5
      ·exact ghead_w w g s L ro O fr p 4 26 2 (by decide) hR hz h0 h2 h h5
      ·exact ghead_w w g s L ro O fr p 8 27 3 (by decide) hR hz h0 h2 h h5
 ·rw [hdR, if_pos (has_no s L p h0)]
  exact ghead_lack w g s L ro O fr p hR h0
end
end Co
end Go.Proofs.YtikgonlhdkknkaaGreatDoor
