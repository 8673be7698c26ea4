/- The document's head of an item: refused, or of one byte. -/
import Derived.Test.YteanipjgpekncaaDoorCzA
import Derived.Test.YteanipjgpekncaaDoorCqH
import Derived.BigQuiet
namespace Go.Proofs.YteanipjgpekncaaDoor
open Go.RowKit
set_option linter.unusedVariables false
set_option linter.unusedSimpArgs false
namespace Cz
open Co
open Cs (lackK elK finK RunsT argB_ok)
open Dr (Rs Lm has lack at0S lackE lackP)
/-- a head: its argument, or what is wrong -/
def hdR (S : List UInt8) (L : Lm) (m p : Nat) : Rs Nat :=
  if has S L p = false then lack S L
  else if L.items ≤ m then .no 10 p false
  else if headE (S.getD p 0) ≠ 0 then .no (headE (S.getD p 0)) p false
  else argR S L p
def DHead (r : Rs Nat) (k p : Nat) (s : ByteArray) (L : Lm) (ro : Int) (g : Nat) (O : List Am) (fr : Nat) (w : World) (e : Ending) (w' : World) : Prop :=
  match r with
  | .ok n => GYes (.tuple #[.int .i64 (kindT (s.toList.getD p 0) : Int), .int .u64 (n : Int), .int .i64 ((p + 1 + widT (s.toList.getD p 0) : Nat) : Int), .bool true]) g s L ro O fr (p + 1 + widT (s.toList.getD p 0)) w e w'
  | .no c q b => GNay (.tuple #[.int .i64 0, .int .u64 0, .int .i64 0, .bool false]) g s L ro c q b k fr w e w'
theorem Gok.opn {w : World} {g : Nat} {s : ByteArray} {L : Lm} {ro : Int} {O : List Am} {fr tk : Nat} (h : Gok w g s L ro O fr tk) : ∃ a c, Hid (Rg w g s L ro O (.slice a O.length c) 0 0 tk fr false) := by
  obtain ⟨⟨vo, h⟩, -⟩ := h
  obtain ⟨a, c, rfl, -⟩ := own_form h.out
  exact ⟨a, c, h⟩
theorem results_four {fn : Func} {t u v x : Tmp} (h : fn.results = #[.tmp t, .tmp u, .tmp v, .tmp x]) (tmps : Array Value) (P : Program) (w : World) :
    (results fn tmps).run P w = .ok (.tuple #[tmps.getD t undef, tmps.getD u undef, tmps.getD v undef, tmps.getD x undef]) w := by
  simp [results, h]
section
variable (w : World) (g : Nat) (s : ByteArray) (L : Lm) (ro : Int) (O : List Am) (fr p : Nat)
set_option maxRecDepth 100000 in
set_option maxHeartbeats 1600000 in
theorem ghead_lack (hR : Gok w g s L ro O fr p) (h0 : ¬ (p < s.size ∧ p < L.bytes)) :
    Calls Tryd.prog 75 #[.pointer (some ⟨g, 0, none⟩), .int .i64 (p : Int)] w (DHead (lack s.toList L) (lackK s.toList L) p s L ro g O fr w) := by
  have W := Lib.hid (gwant_no hR (p : Int) p rfl h0)
  clear hR h0
  go_enter Tryd.func75, Tryd.ntmps75
  go_wp2_with (first | (go_at_call 52; refine W.out.mono ?_; rintro e w1 ⟨rfl, HR1, HB1⟩))
  (try simp only [Exit.inBlock, Exit.then])
  refine bodyPost_ret (results_four rfl _ _ _) rfl ?_
  exact ⟨rfl, HR1, HB1⟩
set_option maxRecDepth 100000 in
set_option maxHeartbeats 1600000 in
theorem ghead_items (hR : Gok w g s L ro O fr p) (hz : s.size ≤ 140737488351232) (h0 : p < s.size ∧ p < L.bytes) (h2 : L.items ≤ O.length) :
    Calls Tryd.prog 75 #[.pointer (some ⟨g, 0, none⟩), .int .i64 (p : Int)] w (DHead (.no 10 p false) (p + 1) p s L ro g O fr w) := by
  have W := Lib.hid (gwant_yes hR (p : Int) p rfl h0.1 h0.2 hz (Nat.le_succ p))
  obtain ⟨m, hm⟩ : ∃ m, O.length = m := ⟨_, rfl⟩
  have HM := Lib.hid hm
  have e1 : (L.items : Int) ≤ (m : Int) := by omega
  clear hR hz h0 h2 hm
  go_enter Tryd.func75, Tryd.ntmps75
  go_wp2_with (first | (go_at_call 52; refine W.out.mono ?_; rintro e w1 ⟨rfl, HQ1, HB1⟩; obtain ⟨a1, c1, HR1⟩ := HQ1.out.opn; have g0 := HQ1.out.txt))
  have k11 := HR1.out.at0.cell 11 _ rfl
  have k2 := HR1.out.at0.cell 2 _ rfl
  rw [HM.out] at k11
  go_quiet (fail)
  go_wp2_with (first
    | (go_at_call 53; refine (gfault17_ok (HQ1.out.drewN _) _ _ p rfl).mono ?_; rintro e wf ⟨rfl, HRF, HBF⟩))
  (try simp only [Exit.inBlock, Exit.then])
  refine bodyPost_ret (results_four rfl _ _ _) rfl ?_
  exact ⟨rfl, HRF, (HB1.out.trans (Co.below_drewN _ _ _)).trans HBF.out⟩
set_option maxRecDepth 100000 in
set_option maxHeartbeats 1600000 in
theorem ghead_big (hR : Gok w g s L ro O fr p) (hz : s.size ≤ 140737488351232) (h0 : p < s.size ∧ p < L.bytes) (h2 : ¬ L.items ≤ O.length) (h3 : 27 < infT (s.toList.getD p 0)) :
    Calls Tryd.prog 75 #[.pointer (some ⟨g, 0, none⟩), .int .i64 (p : Int)] w (DHead (.no 9 p false) (p + 1) p s L ro g O fr w) := by
  have W := Lib.hid (gwant_yes hR (p : Int) p rfl h0.1 h0.2 hz (Nat.le_succ p))
  obtain ⟨m, hm⟩ : ∃ m, O.length = m := ⟨_, rfl⟩
  have HM := Lib.hid hm
  have e1 : ¬ (L.items : Int) ≤ (m : Int) := by omega
  have e1b : decide ((L.items : Int) ≤ (m : Int)) = false := decide_eq_false e1
  obtain ⟨t, ht⟩ : ∃ t, (s.toList.getD p 0).toNat = t := ⟨_, rfl⟩
  have ht2 : t < 256 := by rw [← ht]; exact (s.toList.getD p 0).toNat_lt
  rw [infT, ht] at h3
  have hlt : p < s.size := h0.1
  have hsp : (s[p]'hlt).toNat = t := by rw [← gtl_getD s p hlt]; exact ht
  have e10 : (p : Int) ≤ 140737488351232 := by omega
  have e2 : IntKind.i64.wrap (t : Int) = (t : Int) := wrap_fit t (by unfold maxLen; omega)
  obtain ⟨x, hx⟩ : ∃ x, t / 32 = x := ⟨_, rfl⟩
  have e3 : (t : Int) / 32 = (x : Int) := by omega
  have e4 : IntKind.i64.wrap (x : Int) = (x : Int) := wrap_fit x (by unfold maxLen; omega)
  obtain ⟨y, hy⟩ : ∃ y, t % 32 = y := ⟨_, rfl⟩
  have e5 : (t : Int) % 32 = (y : Int) := by omega
  have e6 : IntKind.i64.wrap (y : Int) = (y : Int) := wrap_fit y (by unfold maxLen; omega)
  have e7 : (27 : Int) < (y : Int) := by omega
  clear hR hz h0 h2 hm ht hx hy h3 ht2
  go_enter Tryd.func75, Tryd.ntmps75
  go_wp2_with (first | (go_at_call 52; refine W.out.mono ?_; rintro e w1 ⟨rfl, HQ1, HB1⟩; obtain ⟨a1, c1, HR1⟩ := HQ1.out.opn; have g0 := HQ1.out.txt))
  have k11 := HR1.out.at0.cell 11 _ rfl
  have k2 := HR1.out.at0.cell 2 _ rfl
  rw [HM.out] at k11
  go_quiet (fail)
  go_wp2_with (first
    | (go_at_call 53; refine (gfault17_ok (HQ1.out.drewN _) _ _ p rfl).mono ?_; rintro e wf ⟨rfl, HRF, HBF⟩))
  (try simp only [Exit.inBlock, Exit.then])
  refine bodyPost_ret (results_four rfl _ _ _) rfl ?_
  exact ⟨rfl, HRF, (HB1.out.trans (Co.below_drewN _ _ _)).trans HBF.out⟩
-- generated from here
set_option maxRecDepth 100000 in
set_option maxHeartbeats 1600000 in
theorem ghead_klow (hR : Gok w g s L ro O fr p) (hz : s.size ≤ 140737488351232) (h0 : p < s.size ∧ p < L.bytes) (h2 : ¬ L.items ≤ O.length) (h3 : ¬ 27 < infT (s.toList.getD p 0)) (h5 : kindT (s.toList.getD p 0) = 7) (h4 : infT (s.toList.getD p 0) < 20) :
    Calls Tryd.prog 75 #[.pointer (some ⟨g, 0, none⟩), .int .i64 (p : Int)] w (DHead (.no 11 p false) (p + 1) p s L ro g O fr w) := by
  have W := Lib.hid (gwant_yes hR (p : Int) p rfl h0.1 h0.2 hz (Nat.le_succ p))
  obtain ⟨m, hm⟩ : ∃ m, O.length = m := ⟨_, rfl⟩
  have HM := Lib.hid hm
  have e1 : ¬ (L.items : Int) ≤ (m : Int) := by omega
  have e1b : decide ((L.items : Int) ≤ (m : Int)) = false := decide_eq_false e1
  obtain ⟨t, ht⟩ : ∃ t, (s.toList.getD p 0).toNat = t := ⟨_, rfl⟩
  have ht2 : t < 256 := by rw [← ht]; exact (s.toList.getD p 0).toNat_lt
  have hlt : p < s.size := h0.1
  have hsp : (s[p]'hlt).toNat = t := by rw [← gtl_getD s p hlt]; exact ht
  have e10 : (p : Int) ≤ 140737488351232 := by omega
  have e2 : IntKind.i64.wrap (t : Int) = (t : Int) := wrap_fit t (by unfold maxLen; omega)
  obtain ⟨x, hx⟩ : ∃ x, t / 32 = x := ⟨_, rfl⟩
  have e3 : (t : Int) / 32 = (x : Int) := by omega
  have e4 : IntKind.i64.wrap (x : Int) = (x : Int) := wrap_fit x (by unfold maxLen; omega)
  obtain ⟨y, hy⟩ : ∃ y, t % 32 = y := ⟨_, rfl⟩
  have e5 : (t : Int) % 32 = (y : Int) := by omega
  have e6 : IntKind.i64.wrap (y : Int) = (y : Int) := wrap_fit y (by unfold maxLen; omega)
  have hkx : kindT (s.toList.getD p 0) = x := by rw [kindT, ht, hx]
  have hiy : infT (s.toList.getD p 0) = y := by rw [infT, ht, hy]
  rw [hiy] at h3 h4
  rw [hkx] at h5
  subst h5
  have e7 : ¬ (27 : Int) < (y : Int) := by omega
  have e7b : decide ((27 : Int) < (y : Int)) = false := decide_eq_false e7
  have e8 : (y : Int) < 20 := by omega
  clear hR hz h0 h2 hm ht hx hy ht2 hkx hiy h3 h4
  go_enter Tryd.func75, Tryd.ntmps75
  go_wp2_with (first | (go_at_call 52; refine W.out.mono ?_; rintro e w1 ⟨rfl, HQ1, HB1⟩; obtain ⟨a1, c1, HR1⟩ := HQ1.out.opn; have g0 := HQ1.out.txt))
  have k11 := HR1.out.at0.cell 11 _ rfl
  have k2 := HR1.out.at0.cell 2 _ rfl
  rw [HM.out] at k11
  have g0N : ∀ k, (w1.drewN k).cell? ⟨g, 0, none⟩ = some (.string s) := fun _ => g0
  go_quiet (fail)
  go_wp2_with (first
    | (go_at_call 53; refine (gfault17_ok (HQ1.out.drewN _) _ _ p rfl).mono ?_; rintro e wf ⟨rfl, HRF, HBF⟩))
  (try simp only [Exit.inBlock, Exit.then])
  refine bodyPost_ret (results_four rfl _ _ _) rfl ?_
  exact ⟨rfl, HRF, (HB1.out.trans (Co.below_drewN _ _ _)).trans HBF.out⟩
set_option maxRecDepth 100000 in
set_option maxHeartbeats 1600000 in
theorem ghead_khigh (hR : Gok w g s L ro O fr p) (hz : s.size ≤ 140737488351232) (h0 : p < s.size ∧ p < L.bytes) (h2 : ¬ L.items ≤ O.length) (h3 : ¬ 27 < infT (s.toList.getD p 0)) (h5 : kindT (s.toList.getD p 0) = 7) (h4 : 23 < infT (s.toList.getD p 0)) :
    Calls Tryd.prog 75 #[.pointer (some ⟨g, 0, none⟩), .int .i64 (p : Int)] w (DHead (.no 11 p false) (p + 1) p s L ro g O fr w) := by
  have W := Lib.hid (gwant_yes hR (p : Int) p rfl h0.1 h0.2 hz (Nat.le_succ p))
  obtain ⟨m, hm⟩ : ∃ m, O.length = m := ⟨_, rfl⟩
  have HM := Lib.hid hm
  have e1 : ¬ (L.items : Int) ≤ (m : Int) := by omega
  have e1b : decide ((L.items : Int) ≤ (m : Int)) = false := decide_eq_false e1
  obtain ⟨t, ht⟩ : ∃ t, (s.toList.getD p 0).toNat = t := ⟨_, rfl⟩
  have ht2 : t < 256 := by rw [← ht]; exact (s.toList.getD p 0).toNat_lt
  have hlt : p < s.size := h0.1
  have hsp : (s[p]'hlt).toNat = t := by rw [← gtl_getD s p hlt]; exact ht
  have e10 : (p : Int) ≤ 140737488351232 := by omega
  have e2 : IntKind.i64.wrap (t : Int) = (t : Int) := wrap_fit t (by unfold maxLen; omega)
  obtain ⟨x, hx⟩ : ∃ x, t / 32 = x := ⟨_, rfl⟩
  have e3 : (t : Int) / 32 = (x : Int) := by omega
  have e4 : IntKind.i64.wrap (x : Int) = (x : Int) := wrap_fit x (by unfold maxLen; omega)
  obtain ⟨y, hy⟩ : ∃ y, t % 32 = y := ⟨_, rfl⟩
  have e5 : (t : Int) % 32 = (y : Int) := by omega
  have e6 : IntKind.i64.wrap (y : Int) = (y : Int) := wrap_fit y (by unfold maxLen; omega)
  have hkx : kindT (s.toList.getD p 0) = x := by rw [kindT, ht, hx]
  have hiy : infT (s.toList.getD p 0) = y := by rw [infT, ht, hy]
  rw [hiy] at h3 h4
  rw [hkx] at h5
  subst h5
  have e7 : ¬ (27 : Int) < (y : Int) := by omega
  have e7b : decide ((27 : Int) < (y : Int)) = false := decide_eq_false e7
  have e8 : ¬ (y : Int) < 20 := by omega
  have e8b : decide ((y : Int) < 20) = false := decide_eq_false e8
  have e9 : (23 : Int) < (y : Int) := by omega
  clear hR hz h0 h2 hm ht hx hy ht2 hkx hiy h3 h4
  go_enter Tryd.func75, Tryd.ntmps75
  go_wp2_with (first | (go_at_call 52; refine W.out.mono ?_; rintro e w1 ⟨rfl, HQ1, HB1⟩; obtain ⟨a1, c1, HR1⟩ := HQ1.out.opn; have g0 := HQ1.out.txt))
  have k11 := HR1.out.at0.cell 11 _ rfl
  have k2 := HR1.out.at0.cell 2 _ rfl
  rw [HM.out] at k11
  have g0N : ∀ k, (w1.drewN k).cell? ⟨g, 0, none⟩ = some (.string s) := fun _ => g0
  go_quiet (fail)
  go_wp2_with (first
    | (go_at_call 53; refine (gfault17_ok (HQ1.out.drewN _) _ _ p rfl).mono ?_; rintro e wf ⟨rfl, HRF, HBF⟩))
  (try simp only [Exit.inBlock, Exit.then])
  refine bodyPost_ret (results_four rfl _ _ _) rfl ?_
  exact ⟨rfl, HRF, (HB1.out.trans (Co.below_drewN _ _ _)).trans HBF.out⟩
set_option maxRecDepth 100000 in
set_option maxHeartbeats 1600000 in
theorem ghead_short7 (hR : Gok w g s L ro O fr p) (hz : s.size ≤ 140737488351232) (h0 : p < s.size ∧ p < L.bytes) (h2 : ¬ L.items ≤ O.length) (h4 : infT (s.toList.getD p 0) < 24) (h5 : kindT (s.toList.getD p 0) = 7) (h6 : ¬ infT (s.toList.getD p 0) < 20) :
    Calls Tryd.prog 75 #[.pointer (some ⟨g, 0, none⟩), .int .i64 (p : Int)] w (DHead (argR s.toList L p) (p + 1) p s L ro g O fr w) := by
  have W := Lib.hid (gwant_yes hR (p : Int) p rfl h0.1 h0.2 hz (Nat.le_succ p))
  obtain ⟨m, hm⟩ : ∃ m, O.length = m := ⟨_, rfl⟩
  have HM := Lib.hid hm
  have e1 : ¬ (L.items : Int) ≤ (m : Int) := by omega
  have e1b : decide ((L.items : Int) ≤ (m : Int)) = false := decide_eq_false e1
  obtain ⟨t, ht⟩ : ∃ t, (s.toList.getD p 0).toNat = t := ⟨_, rfl⟩
  have ht2 : t < 256 := by rw [← ht]; exact (s.toList.getD p 0).toNat_lt
  have hlt : p < s.size := h0.1
  have hsp : (s[p]'hlt).toNat = t := by rw [← gtl_getD s p hlt]; exact ht
  have e10 : (p : Int) ≤ 140737488351232 := by omega
  have e2 : IntKind.i64.wrap (t : Int) = (t : Int) := wrap_fit t (by unfold maxLen; omega)
  obtain ⟨x, hx⟩ : ∃ x, t / 32 = x := ⟨_, rfl⟩
  have e3 : (t : Int) / 32 = (x : Int) := by omega
  have e4 : IntKind.i64.wrap (x : Int) = (x : Int) := wrap_fit x (by unfold maxLen; omega)
  obtain ⟨y, hy⟩ : ∃ y, t % 32 = y := ⟨_, rfl⟩
  have e5 : (t : Int) % 32 = (y : Int) := by omega
  have e6 : IntKind.i64.wrap (y : Int) = (y : Int) := wrap_fit y (by unfold maxLen; omega)
  have hkx : kindT (s.toList.getD p 0) = x := by rw [kindT, ht, hx]
  have hiy : infT (s.toList.getD p 0) = y := by rw [infT, ht, hy]
  have hw : widT (s.toList.getD p 0) = 0 := by rw [widT, if_pos h4]
  rw [argR_none L p hw]
  show Calls _ _ _ _ (GYes _ _ _ _ _ _ _ _ _)
  rw [hw, hkx, hiy, Nat.add_zero]
  rw [hiy] at h4
  rw [hiy] at h6
  rw [hkx] at h5
  subst h5
  have e8 : ¬ (y : Int) < 20 := by omega
  have e8b : decide ((y : Int) < 20) = false := decide_eq_false e8
  have e9 : ¬ (23 : Int) < (y : Int) := by omega
  have e9b : decide ((23 : Int) < (y : Int)) = false := decide_eq_false e9
  have e7 : ¬ (27 : Int) < (y : Int) := by omega
  have e7b : decide ((27 : Int) < (y : Int)) = false := decide_eq_false e7
  have e11 : (y : Int) < 24 := by omega
  have e12 : IntKind.u64.wrap (y : Int) = (y : Int) := u64c y (by omega)
  obtain ⟨q, hq⟩ : ∃ q, p + 1 = q := ⟨_, rfl⟩
  have HQ9 := Lib.hid hq
  have e13 : (p : Int) + 1 = (q : Int) := by omega
  have e14 : IntKind.i64.wrap (q : Int) = (q : Int) := wrap_fit q (by unfold maxLen; omega)
  rw [hq]
  clear hR hz h0 h2 hm ht hx hy ht2 hkx hiy h4 h6 hw hq
  go_enter Tryd.func75, Tryd.ntmps75
  go_wp2_with (first | (go_at_call 52; refine W.out.mono ?_; rintro e w1 ⟨rfl, HQ1, HB1⟩; obtain ⟨a1, c1, HR1⟩ := HQ1.out.opn; have g0 := HQ1.out.txt))
  have k11 := HR1.out.at0.cell 11 _ rfl
  have k2 := HR1.out.at0.cell 2 _ rfl
  rw [HM.out] at k11
  have g0N : ∀ k, (w1.drewN k).cell? ⟨g, 0, none⟩ = some (.string s) := fun _ => g0
  go_quiet (fail)
  go_wp2_with fail
  (try simp only [Exit.inBlock, Exit.then])
  refine bodyPost_ret (results_four rfl _ _ _) rfl ?_
  exact ⟨rfl, by rw [← HQ9.out]; exact HQ1.out.drewN _, HB1.out.trans (Co.below_drewN _ _ _)⟩
set_option maxRecDepth 100000 in
set_option maxHeartbeats 1600000 in
theorem ghead_short (hR : Gok w g s L ro O fr p) (hz : s.size ≤ 140737488351232) (h0 : p < s.size ∧ p < L.bytes) (h2 : ¬ L.items ≤ O.length) (h4 : infT (s.toList.getD p 0) < 24) (h5 : kindT (s.toList.getD p 0) ≠ 7) (h6 : True) :
    Calls Tryd.prog 75 #[.pointer (some ⟨g, 0, none⟩), .int .i64 (p : Int)] w (DHead (argR s.toList L p) (p + 1) p s L ro g O fr w) := by
  have W := Lib.hid (gwant_yes hR (p : Int) p rfl h0.1 h0.2 hz (Nat.le_succ p))
  obtain ⟨m, hm⟩ : ∃ m, O.length = m := ⟨_, rfl⟩
  have HM := Lib.hid hm
  have e1 : ¬ (L.items : Int) ≤ (m : Int) := by omega
  have e1b : decide ((L.items : Int) ≤ (m : Int)) = false := decide_eq_false e1
  obtain ⟨t, ht⟩ : ∃ t, (s.toList.getD p 0).toNat = t := ⟨_, rfl⟩
  have ht2 : t < 256 := by rw [← ht]; exact (s.toList.getD p 0).toNat_lt
  have hlt : p < s.size := h0.1
  have hsp : (s[p]'hlt).toNat = t := by rw [← gtl_getD s p hlt]; exact ht
  have e10 : (p : Int) ≤ 140737488351232 := by omega
  have e2 : IntKind.i64.wrap (t : Int) = (t : Int) := wrap_fit t (by unfold maxLen; omega)
  obtain ⟨x, hx⟩ : ∃ x, t / 32 = x := ⟨_, rfl⟩
  have e3 : (t : Int) / 32 = (x : Int) := by omega
  have e4 : IntKind.i64.wrap (x : Int) = (x : Int) := wrap_fit x (by unfold maxLen; omega)
  obtain ⟨y, hy⟩ : ∃ y, t % 32 = y := ⟨_, rfl⟩
  have e5 : (t : Int) % 32 = (y : Int) := by omega
  have e6 : IntKind.i64.wrap (y : Int) = (y : Int) := wrap_fit y (by unfold maxLen; omega)
  have hkx : kindT (s.toList.getD p 0) = x := by rw [kindT, ht, hx]
  have hiy : infT (s.toList.getD p 0) = y := by rw [infT, ht, hy]
  have hw : widT (s.toList.getD p 0) = 0 := by rw [widT, if_pos h4]
  rw [argR_none L p hw]
  show Calls _ _ _ _ (GYes _ _ _ _ _ _ _ _ _)
  rw [hw, hkx, hiy, Nat.add_zero]
  rw [hiy] at h4
  rw [hkx] at h5
  have e8 : ¬ (x : Int) = 7 := by omega
  have e7 : ¬ (27 : Int) < (y : Int) := by omega
  have e7b : decide ((27 : Int) < (y : Int)) = false := decide_eq_false e7
  have e11 : (y : Int) < 24 := by omega
  have e12 : IntKind.u64.wrap (y : Int) = (y : Int) := u64c y (by omega)
  obtain ⟨q, hq⟩ : ∃ q, p + 1 = q := ⟨_, rfl⟩
  have HQ9 := Lib.hid hq
  have e13 : (p : Int) + 1 = (q : Int) := by omega
  have e14 : IntKind.i64.wrap (q : Int) = (q : Int) := wrap_fit q (by unfold maxLen; omega)
  rw [hq]
  clear hR hz h0 h2 hm ht hx hy ht2 hkx hiy h4 h6 hw hq
  go_enter Tryd.func75, Tryd.ntmps75
  go_wp2_with (first | (go_at_call 52; refine W.out.mono ?_; rintro e w1 ⟨rfl, HQ1, HB1⟩; obtain ⟨a1, c1, HR1⟩ := HQ1.out.opn; have g0 := HQ1.out.txt))
  have k11 := HR1.out.at0.cell 11 _ rfl
  have k2 := HR1.out.at0.cell 2 _ rfl
  rw [HM.out] at k11
  have g0N : ∀ k, (w1.drewN k).cell? ⟨g, 0, none⟩ = some (.string s) := fun _ => g0
  go_quiet (fail)
  go_wp2_with fail
  (try simp only [Exit.inBlock, Exit.then])
  refine bodyPost_ret (results_four rfl _ _ _) rfl ?_
  exact ⟨rfl, by rw [← HQ9.out]; exact HQ1.out.drewN _, HB1.out.trans (Co.below_drewN _ _ _)⟩
end
end Cz
end Go.Proofs.YteanipjgpekncaaDoor
