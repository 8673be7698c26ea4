/- Joined by merge.py: JrN JrO JrP JrQ. -/
import Derived.Test.YtilfidcomeandaaDoorJzB
import Derived.Test.YtilfidcomeandaaDoorJzA
import Derived.BigQuiet
namespace Go.Proofs.YtilfidcomeandaaDoor
open Go.RowKit
set_option linter.unusedVariables false
set_option linter.unusedSimpArgs false
namespace Jr
open Js
open Dr (Rs Lm has lack lackE lackP)
section
variable {w w' : World} {g : Nat} {s : ByteArray} {L : Lm} {ro : Int} {O : List Vl} {vo : Value} {er : Int} {pl tk fr : Nat} {en : Bool}
/-- the list has grown -/
theorem Rg.push (h : Rg w g s L ro O vo er pl tk fr en) {O' : List Vl} {v' : Value} (hg : w.grownBy w' vo.ownBlock) (ho : w'.ownsRow (g + 1) 61 3 v' O'.length (vcells O')) : Rg (w'.setCell ⟨g, 11, none⟩ v') g s L ro O' v' er pl tk fr en := by
  have h1 := h.at0.grown hg h.lt (fun e => by have := (h.out.lt g e).1; omega)
  have h2 := h1.set 11 v'
  rw [Nat.zero_add] at h2
  exact ⟨h2, ownsRow_setCell_below ho (Nat.lt_succ_self g) _, by rw [show (w'.setCell ⟨g, 11, none⟩ v').heap.size = w'.heap.size by simp [World.setCell]]; exact Nat.lt_of_lt_of_le h.lt hg.size⟩
/-- a value's cells -/
theorem Rg.value (h : Rg w g s L ro O vo er pl tk fr en) (i : Nat) (hi : i < O.length) : ∃ q cap, vo = .slice (some ⟨q, 0, none⟩) O.length cap ∧ g < q ∧ At w q (i * 3) (vv (O.getD i v0)) := by
  obtain ⟨a, c, hv, hg⟩ := own_form h.out
  obtain ⟨q, rfl⟩ := hg (by omega)
  have h0 := h.out
  rw [hv] at h0
  refine ⟨q, c, hv, (h0.lt q rfl).1, ?_⟩
  have h1 := value_at (At.ofOwnN h0) i hi
  rw [Nat.zero_add] at h1
  exact h1
/-- a cell of a value is stored -/
theorem Rg.setOut (h : Rg w g s L ro O vo er pl tk fr en) {q cap n : Nat} (hk : vo = .slice (some ⟨q, 0, none⟩) n cap) (hn : O.length = n) (i j : Nat) (hi : i < n) (hj : j < 3) (u : Value) (y : Vl → Vl) (hy : (vv (O.getD i v0)).set j u = vv (y (O.getD i v0))) :
    Rg (w.setCell ⟨q, i * 3 + j, none⟩ u) g s L ro (O.modify i y) vo er pl tk fr en := by
  subst hn
  have hb : vo.ownBlock = some q := by rw [hk]; rfl
  have hgk := (h.out.lt q hb).1
  have h8 := h.out
  rw [hk] at h8
  have hs := (h8.stored (i * 3 + j) u).1
  rw [vcells_set O i j u y hi hj hy, ← hk] at hs
  refine ⟨h.at0.other q _ u (Or.inl (by omega)), ?_, by rw [show (w.setCell ⟨q, i * 3 + j, none⟩ u).heap.size = w.heap.size by simp [World.setCell]]; exact h.lt⟩
  rw [List.length_modify]
  exact hs
/-- what a row of values comes to is out of the frame's sight -/
theorem Fg.vals {w0 : World} {n : Nat} {xs : List Value} (h : Fg g w0 w) (ho : w.ownsRow (g + 1) 61 3 vo n xs) (hgs : g ≤ w.heap.size) (hg : w.grownBy w' vo.ownBlock) : Fg g w0 w' := by
  refine h.trans ⟨hg.os, hg.tape, hg.output, hg.size, fun a ha hag hn => hg.block a ha (fun e => ?_), fun a ha => hg.block a (by omega) (fun e => by have := (ho.lt a e.symm).1; omega), fun a n c h1 => ⟨a, n, c, (World.cell?_of_block (hg.block g (World.block_lt_of_cell? w _ h1) (fun e => by have := (ho.lt g e.symm).1; omega))).trans h1, Nat.le_refl _⟩⟩
  obtain ⟨cur, hc⟩ := row_ty ho e.symm
  exact hn _ hc
theorem grown_set (w : World) (a : Addr) (u : Value) : w.grownBy (w.setCell a u) (some a.block) := ⟨rfl, rfl, rfl, by simp [World.setCell], fun k hk hne => Below.heap_setCell _ _ _ _ (fun e => hne (by rw [e]))⟩
theorem Fg.setOut {w0 : World} {n : Nat} {xs : List Value} {q : Nat} (h : Fg g w0 w) (ho : w.ownsRow (g + 1) 61 3 vo n xs) (hq : vo.ownBlock = some q) (hgs : g ≤ w.heap.size) (o : Nat) (u : Value) : Fg g w0 (w.setCell ⟨q, o, none⟩ u) :=
  h.vals ho hgs (by rw [hq]; exact grown_set w ⟨q, o, none⟩ u)
end
end Jr
end Go.Proofs.YtilfidcomeandaaDoor
namespace Go.Proofs.YtilfidcomeandaaDoor
open Go.RowKit
set_option linter.unusedVariables false
set_option linter.unusedSimpArgs false
namespace Jr
open Js
open Dr (Rs Lm has lack lackE lackP)
/-- behind a value -/
def after (st : St) (N : List Vl) : St := ({ st with cur := st.cur ++ N, G := bump st.G } : St).ended
def RetVal (st : St) (p : Nat) (g : Nat) (s : ByteArray) (L : Lm) (ro : Int) (O : List Vl) (w : World) (e : Ending) (w' : World) : Prop :=
  (∃ (N : List Vl) (q : Nat), p < q ∧ Cl s.toList L (after st N) q st p ∧ GYes (.tuple #[.int .i64 (q : Int), .bool true]) g s L ro (O ++ N) st.G.length q w e w') ∨
  (∃ c q b tk k, RunsT s.toList L st p (.no c q b) tk k ∧ GNay (.tuple #[.int .i64 0, .bool false]) g s L ro c q b tk k w e w')
set_option maxRecDepth 100000 in
set_option maxHeartbeats 1600000 in
theorem value_lack {w : World} {g : Nat} {s : ByteArray} {L : Lm} {ro : Int} {O : List Vl} {tk : Nat} (st : St) (hst : st.last = none) (hG : Gok w g s L ro O st.G.length tk) (p : Nat) (h1 : ¬ (p < s.size ∧ p < L.bytes)) (dp : Int) :
    Calls Tryd.prog 42 #[.pointer (some ⟨g, 0, none⟩), .int .i64 (p : Int), .int .i64 dp] w (RetVal st p g s L ro O w) := by
  have W := Lib.hid (gwant_no hG (p : Int) p rfl h1)
  have HLK : Hid (RunsT s.toList L st p (lack s.toList L) (lackK s.toList L) st.G.length) := stop_lack (has_not h1) (fun _ => hst)
  clear hG h1 hst
  go_enter Tryd.func42, Tryd.ntmps42
  go_wp2_with (go_at_call 43; refine W.out.mono ?_; rintro e w1 ⟨rfl, HG1, HB1⟩)
  exact bodyPost_ret (v := .tuple #[.int .i64 0, .bool false]) (by simp [results, Tryd.results42, go_sem]) rfl (.inr ⟨_, _, _, _, _, HLK.out, rfl, HG1, HB1⟩)
theorem neT {n c : Nat} (h : n ≠ c) : ((n : Int) != (c : Int)) = true := by rw [bne_iff_ne]; omega
set_option maxRecDepth 100000 in
set_option maxHeartbeats 3200000 in
theorem value_bad {w : World} {g : Nat} {s : ByteArray} {L : Lm} {ro : Int} {O : List Vl} {tk : Nat} (st : St) (hG : Gok w g s L ro O st.G.length tk) (p : Nat) (hs : s.size ≤ 140737488351232) (htk : tk ≤ p + 1) (hq1 : p < s.size) (hq2 : p < L.bytes) (dp : Int)
    (ha : st.act L (s.toList.getD p 0) p = .fl 9 p) (hb : begins (s.toList.getD p 0) = false) :
    Calls Tryd.prog 42 #[.pointer (some ⟨g, 0, none⟩), .int .i64 (p : Int), .int .i64 dp] w (RetVal st p g s L ro O w) := by
  have W := Lib.hid (gwant_yes hG (p : Int) p rfl hq1 hq2 hs htk)
  have HBD : Hid (RunsT s.toList L st p (.no 9 p false) (p + 1) st.G.length) := RunsT.fl (has_of hq1 hq2) ha
  have hbt := byte_at s p hq1
  obtain ⟨b, hbb⟩ : ∃ b, s.toList.getD p 0 = b := ⟨_, rfl⟩
  rw [hbb] at hb hbt
  have hd : isDigit b = false := by
    rw [begins, Bool.or_eq_false_iff] at hb
    exact hb.2
  have hn : ¬ (b = 34 ∨ b = 123 ∨ b = 91 ∨ b = 116 ∨ b = 102 ∨ b = 110 ∨ b = 45) := by
    rw [begins, Bool.or_eq_false_iff] at hb
    exact of_decide_eq_false hb.1
  have DB := Lib.hid (fun w => rdigit_any b w)
  rw [hd, ← hbt] at DB
  obtain ⟨y, hy⟩ : ∃ y, (s[p]).toNat = y := ⟨_, rfl⟩
  rw [hy] at hbt DB
  have hv : ∀ c : UInt8, ¬ b = c → y ≠ c.toNat := fun c hc e => hc (UInt8.toNat_inj.1 (by rw [← hbt, e]))
  have n1 : ((y : Int) != 34) = true := neT (hv 34 (fun h => hn (.inl h)))
  have n2 : ((y : Int) != 123) = true := neT (hv 123 (fun h => hn (.inr (.inl h))))
  have n3 : ((y : Int) != 91) = true := neT (hv 91 (fun h => hn (.inr (.inr (.inl h)))))
  have n4 : ((y : Int) != 116) = true := neT (hv 116 (fun h => hn (.inr (.inr (.inr (.inl h))))))
  have n5 : ((y : Int) != 102) = true := neT (hv 102 (fun h => hn (.inr (.inr (.inr (.inr (.inl h)))))))
  have n6 : ((y : Int) != 110) = true := neT (hv 110 (fun h => hn (.inr (.inr (.inr (.inr (.inr (.inl h))))))))
  have n7 : ((y : Int) != 45) = true := neT (hv 45 (fun h => hn (.inr (.inr (.inr (.inr (.inr (.inr h))))))))
  have e2 : (p : Int) < (s.size : Int) := by omega
  have e3 : (0 : Int) ≤ (p : Int) := by omega
  clear hG hs htk hq2 ha hb hd hn hbb hbt hv
  go_enter Tryd.func42, Tryd.ntmps42
  go_wp2_with (first
    | (go_at_call 43; refine W.out.mono ?_; rintro e w1 ⟨rfl, HG1, HB1⟩; have t0 := Gok.txt HG1.out)
    | (go_at_call 62; refine (DB.out _).mono ?_; rintro e w2 ⟨rfl, rfl⟩)
    | (go_at_call 45; refine (gfault16_ok HG1.out _ _ p rfl).mono ?_; rintro e w2 ⟨rfl, HG2, HB2⟩))
  exact bodyPost_ret (v := .tuple #[.int .i64 0, .bool false]) (by simp [results, Tryd.results42, go_sem]) rfl (.inr ⟨_, _, _, _, _, HBD.out, rfl, HG2, HB1.out.trans HB2.out⟩)
end Jr
end Go.Proofs.YtilfidcomeandaaDoor
namespace Go.Proofs.YtilfidcomeandaaDoor
open Go.RowKit
set_option linter.unusedVariables false
set_option linter.unusedSimpArgs false
namespace Jr
open Js
open Dr (Rs Lm has lack lackE lackP)
theorem last_kind (O : List Vl) (m : Nat) (k : Int) (h : O.length = m) : (O ++ [(⟨0, 0, []⟩ : Vl)]).modify m (fun v => { v with kind := k }) = O ++ [(⟨k, 0, []⟩ : Vl)] := by
  subst h
  induction O with
  | nil => rfl
  | cons x O ih => rw [List.cons_append, List.length_cons, List.modify_succ_cons, ih]; rfl
def zv : Obj := Obj.cells #[.int .i64 0, .int .i64 0, .string ByteArray.empty] 61
set_option maxRecDepth 100000 in
set_option maxHeartbeats 6400000 in
theorem value_w116 {w : World} {g : Nat} {s : ByteArray} {L : Lm} {ro : Int} {O : List Vl} {tk : Nat} (st : St) (hG : Gok w g s L ro O st.G.length tk) (p : Nat) (hs : s.size ≤ 140737488351232) (htk : tk ≤ p + 1) (hq1 : p < s.size) (hq2 : p < L.bytes) (dp : Int)
    (hc : s.toList.getD p 0 = 116) (hi : O.length < L.items) (hiL : L.items ≤ 4096) (ha : st.act L 116 p = .go (st.begin 2 (.word [114, 117, 101]))) :
    Calls Tryd.prog 42 #[.pointer (some ⟨g, 0, none⟩), .int .i64 (p : Int), .int .i64 dp] w (RetVal st p g s L ro O w) := by
  have W := Lib.hid (gwant_yes hG (p : Int) p rfl hq1 hq2 hs htk)
  obtain ⟨st1, hst1⟩ : ∃ x, st.begin 2 (.word [114, 117, 101]) = x := ⟨_, rfl⟩
  have HC1 : Hid (Cl s.toList L (wx st1 [114, 117, 101]) (p + 1) st p) := by
    have h1 : wx st1 [114, 117, 101] = st1 := by rw [← hst1]; rfl
    rw [h1]
    exact fun r t k h => RunsT.go (has_of hq1 hq2) (by rw [hc, ha, hst1]) h
  have HST : Hid (st1.ended = after st [⟨2, 0, []⟩] ∧ st1.G.length = st.G.length) := by rw [← hst1]; exact ⟨rfl, bump_length _⟩
  obtain ⟨Ws, hWs⟩ : ∃ x : ByteArray, (⟨#[116, 114, 117, 101]⟩ : ByteArray) = x := ⟨_, rfl⟩
  have hWl : Ws.toList = 116 :: [114, 117, 101] := by rw [← hWs]; exact tl_mk [116, 114, 117, 101]
  have WD := Lib.hid (fun (w' : World) (O' : List Vl) (tk : Nat) (h : Gok w' g s L ro O' st1.G.length tk) (h1 : tk ≤ p + 1) => word_any st1 116 [114, 117, 101] (by decide) (by decide) Ws hWl h p hs h1 (has_of hq1 hq2) hc)
  have hbt := byte_at s p hq1
  rw [hc] at hbt
  have e2 : (p : Int) < (s.size : Int) := by omega
  have e3 : (0 : Int) ≤ (p : Int) := by omega
  obtain ⟨m, hm⟩ : ∃ m, O.length = m := ⟨_, rfl⟩
  have e0 : ¬ (L.items : Int) ≤ (m : Int) := by omega
  have e0b : decide ((L.items : Int) ≤ (m : Int)) = false := decide_eq_false e0
  have e0c : decide (L.items ≤ m) = false := decide_eq_false (by omega)
  have e0d : ¬ L.items ≤ m := by omega
  have HM : Hid (O.length = m ∧ m ≤ 4096) := ⟨hm, by omega⟩
  obtain ⟨y, hy⟩ : ∃ y, (s[p]).toNat = y := ⟨_, rfl⟩
  rw [hy] at hbt
  have hbt2 : y = 116 := hbt
  subst hbt2
  obtain ⟨fr, hfr⟩ : ∃ n, st.G.length = n := ⟨_, rfl⟩
  have HFR := Lib.hid hfr
  rw [hfr] at W
  rw [HST.out.2, hfr] at WD
  clear hG hs htk hq2 hc ha hst1 hbt hm hi hiL hfr hWl
  go_enter Tryd.func42, Tryd.ntmps42
  go_wp2_with fail
  refine W.out.mono ?_
  rintro e w1 ⟨rfl, HG1, HF1⟩
  have t0 := Gok.txt HG1.out
  obtain ⟨⟨vo, hR⟩, htl⟩ := HG1.out
  have HTL := Lib.hid htl
  obtain ⟨aV, cV, rfl, -⟩ := own_form hR.out
  rw [HM.out.1] at hR
  have c2 := hR.at0.cell 2 _ rfl
  have c11 := hR.at0.cell 11 _ rfl
  have HR := Lib.hid hR
  clear hR htl
  go_wp2_with fail
  go_quiet (fail)
  have HR2 := Lib.hid (HR.out.drewN nq)
  have HF2 := Lib.hid (HF1.out.trans (Fg.drewN g w1 nq))
  have t2 : (w1.drewN nq).cell? ⟨g, 0, none⟩ = some (.string s) := t0
  have c112 := HR2.out.at0.cell 11 _ rfl
  generalize w1.drewN nq = w2 at *
  clear c2 c11 t0 HR HF1 HG1
  go_upto_region 23 with (at_builtin; refine wpList_append_vl rfl (.tmp 105) (.tmp 107) rfl (g + 1) (.slice aV m cV) m O rfl (by have h9 := HR2.out.out; rw [HM.out.1] at h9; exact h9.alloc _) w2.heap.size 1 (⟨0, 0, []⟩ : Vl) rfl (at_cellsW (vv_new 0) (At.ofAlloc w2 #[Value.int .i64 0, Value.int .i64 0, Value.string ByteArray.empty] 61)) (by have := HM.out.2; omega) (by have := HR2.out.lt; simp; omega) ?_; intro v3 w3 hown3 hgrow3; obtain ⟨a3, c3, hv3, hg3⟩ := own_form hown3; obtain ⟨q, hq⟩ := hg3 (Nat.succ_pos _); subst hq; subst hv3; have hAt3 := At.grown ((HR2.out.alloc zv).at0) hgrow3 (HR2.out.alloc zv).lt (fun e => by have := (HR2.out.out.lt g e).1; omega); have f113 := hAt3.froz 11 (by show 11 < 12; decide); have c113 := hAt3.cell 11 _ rfl; have HO3 := Lib.hid hown3; have HGR := Lib.hid hgrow3; clear hAt3 hown3 hgrow3)
  have HR4 : Hid (Rg (w3.setCell ⟨g, 11, none⟩ (.slice (some ⟨q, 0, none⟩) (m + 1) c3)) g s L ro (O ++ [⟨0, 0, []⟩]) (.slice (some ⟨q, 0, none⟩) (m + 1) c3) 0 0 (p + 1) fr false) := by
    have h9 := (HR2.out.alloc zv).push (O' := O ++ [⟨0, 0, []⟩]) HGR.out (by rw [List.length_append, HM.out.1]; exact HO3.out)
    exact h9
  have HF4 : Hid (Fg g w (w3.setCell ⟨g, 11, none⟩ (.slice (some ⟨q, 0, none⟩) (m + 1) c3))) := by
    have h8 := (HF2.out.alloc (Nat.le_of_lt HR2.out.lt) zv).vals (HR2.out.alloc zv).out (Nat.le_of_lt (HR2.out.alloc zv).lt) HGR.out
    exact h8.push (by have h9 := c113; rw [Nat.zero_add] at h9; exact h9) (Nat.le_succ m)
  generalize w3.setCell ⟨g, 11, none⟩ (.slice (some ⟨q, 0, none⟩) (m + 1) c3) = w4 at HR4 HF4 ⊢
  obtain ⟨q2, cap, hvq, hgq, hAq⟩ := HR4.out.value m (by rw [List.length_append, HM.out.1]; exact Nat.lt_succ_self m)
  obtain rfl : q = q2 := by injection hvq with h1 h2 h3; injection h1 with h1; injection h1
  have d0 := hAq.cell 0 _ rfl
  have fd0 := hAq.froz 0 (by show 0 < 3; decide)
  have c114 := HR4.out.at0.cell 11 _ rfl
  have e8 : (m : Int) < (m : Int) + 1 := by omega
  have HR5 := Lib.hid (HR4.out.setOut (q := q) (cap := c3) (n := m + 1) rfl (by rw [List.length_append, HM.out.1]; rfl) m 0 (Nat.lt_succ_self m) (by decide) (.int .i64 2) (fun v => { v with kind := 2 }) rfl)
  have HF5 := Lib.hid (HF4.out.setOut HR4.out.out rfl (Nat.le_of_lt HR4.out.lt) (m * 3 + 0) (.int .i64 2))
  rw [last_kind O m 2 HM.out.1] at HR5
  rw [Nat.add_zero] at HR5 HF5 d0 fd0
  clear c112 hAq hvq f113 c113 t2
  have WD5 := Lib.hid (WD.out _ _ _ ⟨⟨_, HR5.out⟩, HTL.out⟩ (Nat.le_refl _))
  go_wp2_with fail
  try rw [hWs]
  refine WD5.out.mono ?_
  rintro e w6 (⟨hcl, rfl, HG6, HF6⟩ | ⟨c, q6, b, tk6, hrun, rfl, HG6, HF6⟩)
  · have HCL := Lib.hid (Cl.trans hcl HC1.out)
    rw [HST.out.1] at HCL
    clear hcl
    go_wp2_with fail
    refine bodyPost_ret (v := .tuple #[.int .i64 ((p + [114, 117, 101].length + 1 : Nat) : Int), .bool true]) (by simp [results, Tryd.results42, go_sem]) rfl (.inl ⟨[⟨2, 0, []⟩], p + [114, 117, 101].length + 1, by omega, HCL.out, rfl, ?_, HF5.out.trans HF6.out⟩)
    rw [HST.out.2] at HG6
    exact HG6
  · have HRN := Lib.hid (HC1.out _ _ _ hrun)
    clear hrun
    rw [HST.out.2] at HG6 HRN
    go_wp2_with fail
    exact bodyPost_ret (v := .tuple #[.int .i64 0, .bool false]) (by simp [results, Tryd.results42, go_sem]) rfl (.inr ⟨_, _, _, _, _, HRN.out, rfl, HG6, HF5.out.trans HF6.out⟩)
set_option maxRecDepth 100000 in
set_option maxHeartbeats 6400000 in
theorem value_w102 {w : World} {g : Nat} {s : ByteArray} {L : Lm} {ro : Int} {O : List Vl} {tk : Nat} (st : St) (hG : Gok w g s L ro O st.G.length tk) (p : Nat) (hs : s.size ≤ 140737488351232) (htk : tk ≤ p + 1) (hq1 : p < s.size) (hq2 : p < L.bytes) (dp : Int)
    (hc : s.toList.getD p 0 = 102) (hi : O.length < L.items) (hiL : L.items ≤ 4096) (ha : st.act L 102 p = .go (st.begin 1 (.word [97, 108, 115, 101]))) :
    Calls Tryd.prog 42 #[.pointer (some ⟨g, 0, none⟩), .int .i64 (p : Int), .int .i64 dp] w (RetVal st p g s L ro O w) := by
  have W := Lib.hid (gwant_yes hG (p : Int) p rfl hq1 hq2 hs htk)
  obtain ⟨st1, hst1⟩ : ∃ x, st.begin 1 (.word [97, 108, 115, 101]) = x := ⟨_, rfl⟩
  have HC1 : Hid (Cl s.toList L (wx st1 [97, 108, 115, 101]) (p + 1) st p) := by
    have h1 : wx st1 [97, 108, 115, 101] = st1 := by rw [← hst1]; rfl
    rw [h1]
    exact fun r t k h => RunsT.go (has_of hq1 hq2) (by rw [hc, ha, hst1]) h
  have HST : Hid (st1.ended = after st [⟨1, 0, []⟩] ∧ st1.G.length = st.G.length) := by rw [← hst1]; exact ⟨rfl, bump_length _⟩
  obtain ⟨Ws, hWs⟩ : ∃ x : ByteArray, (⟨#[102, 97, 108, 115, 101]⟩ : ByteArray) = x := ⟨_, rfl⟩
  have hWl : Ws.toList = 102 :: [97, 108, 115, 101] := by rw [← hWs]; exact tl_mk [102, 97, 108, 115, 101]
  have WD := Lib.hid (fun (w' : World) (O' : List Vl) (tk : Nat) (h : Gok w' g s L ro O' st1.G.length tk) (h1 : tk ≤ p + 1) => word_any st1 102 [97, 108, 115, 101] (by decide) (by decide) Ws hWl h p hs h1 (has_of hq1 hq2) hc)
  have hbt := byte_at s p hq1
  rw [hc] at hbt
  have e2 : (p : Int) < (s.size : Int) := by omega
  have e3 : (0 : Int) ≤ (p : Int) := by omega
  obtain ⟨m, hm⟩ : ∃ m, O.length = m := ⟨_, rfl⟩
  have e0 : ¬ (L.items : Int) ≤ (m : Int) := by omega
  have e0b : decide ((L.items : Int) ≤ (m : Int)) = false := decide_eq_false e0
  have e0c : decide (L.items ≤ m) = false := decide_eq_false (by omega)
  have e0d : ¬ L.items ≤ m := by omega
  have HM : Hid (O.length = m ∧ m ≤ 4096) := ⟨hm, by omega⟩
  obtain ⟨y, hy⟩ : ∃ y, (s[p]).toNat = y := ⟨_, rfl⟩
  rw [hy] at hbt
  have hbt2 : y = 102 := hbt
  subst hbt2
  obtain ⟨fr, hfr⟩ : ∃ n, st.G.length = n := ⟨_, rfl⟩
  have HFR := Lib.hid hfr
  rw [hfr] at W
  rw [HST.out.2, hfr] at WD
  clear hG hs htk hq2 hc ha hst1 hbt hm hi hiL hfr hWl
  go_enter Tryd.func42, Tryd.ntmps42
  go_wp2_with fail
  refine W.out.mono ?_
  rintro e w1 ⟨rfl, HG1, HF1⟩
  have t0 := Gok.txt HG1.out
  obtain ⟨⟨vo, hR⟩, htl⟩ := HG1.out
  have HTL := Lib.hid htl
  obtain ⟨aV, cV, rfl, -⟩ := own_form hR.out
  rw [HM.out.1] at hR
  have c2 := hR.at0.cell 2 _ rfl
  have c11 := hR.at0.cell 11 _ rfl
  have HR := Lib.hid hR
  clear hR htl
  go_wp2_with fail
  go_quiet (fail)
  have HR2 := Lib.hid (HR.out.drewN nq)
  have HF2 := Lib.hid (HF1.out.trans (Fg.drewN g w1 nq))
  have t2 : (w1.drewN nq).cell? ⟨g, 0, none⟩ = some (.string s) := t0
  have c112 := HR2.out.at0.cell 11 _ rfl
  generalize w1.drewN nq = w2 at *
  clear c2 c11 t0 HR HF1 HG1
  go_upto_region 26 with (at_builtin; refine wpList_append_vl rfl (.tmp 105) (.tmp 107) rfl (g + 1) (.slice aV m cV) m O rfl (by have h9 := HR2.out.out; rw [HM.out.1] at h9; exact h9.alloc _) w2.heap.size 1 (⟨0, 0, []⟩ : Vl) rfl (at_cellsW (vv_new 0) (At.ofAlloc w2 #[Value.int .i64 0, Value.int .i64 0, Value.string ByteArray.empty] 61)) (by have := HM.out.2; omega) (by have := HR2.out.lt; simp; omega) ?_; intro v3 w3 hown3 hgrow3; obtain ⟨a3, c3, hv3, hg3⟩ := own_form hown3; obtain ⟨q, hq⟩ := hg3 (Nat.succ_pos _); subst hq; subst hv3; have hAt3 := At.grown ((HR2.out.alloc zv).at0) hgrow3 (HR2.out.alloc zv).lt (fun e => by have := (HR2.out.out.lt g e).1; omega); have f113 := hAt3.froz 11 (by show 11 < 12; decide); have c113 := hAt3.cell 11 _ rfl; have HO3 := Lib.hid hown3; have HGR := Lib.hid hgrow3; clear hAt3 hown3 hgrow3)
  have HR4 : Hid (Rg (w3.setCell ⟨g, 11, none⟩ (.slice (some ⟨q, 0, none⟩) (m + 1) c3)) g s L ro (O ++ [⟨0, 0, []⟩]) (.slice (some ⟨q, 0, none⟩) (m + 1) c3) 0 0 (p + 1) fr false) := by
    have h9 := (HR2.out.alloc zv).push (O' := O ++ [⟨0, 0, []⟩]) HGR.out (by rw [List.length_append, HM.out.1]; exact HO3.out)
    exact h9
  have HF4 : Hid (Fg g w (w3.setCell ⟨g, 11, none⟩ (.slice (some ⟨q, 0, none⟩) (m + 1) c3))) := by
    have h8 := (HF2.out.alloc (Nat.le_of_lt HR2.out.lt) zv).vals (HR2.out.alloc zv).out (Nat.le_of_lt (HR2.out.alloc zv).lt) HGR.out
    exact h8.push (by have h9 := c113; rw [Nat.zero_add] at h9; exact h9) (Nat.le_succ m)
  generalize w3.setCell ⟨g, 11, none⟩ (.slice (some ⟨q, 0, none⟩) (m + 1) c3) = w4 at HR4 HF4 ⊢
  obtain ⟨q2, cap, hvq, hgq, hAq⟩ := HR4.out.value m (by rw [List.length_append, HM.out.1]; exact Nat.lt_succ_self m)
  obtain rfl : q = q2 := by injection hvq with h1 h2 h3; injection h1 with h1; injection h1
  have d0 := hAq.cell 0 _ rfl
  have fd0 := hAq.froz 0 (by show 0 < 3; decide)
  have c114 := HR4.out.at0.cell 11 _ rfl
  have e8 : (m : Int) < (m : Int) + 1 := by omega
  have HR5 := Lib.hid (HR4.out.setOut (q := q) (cap := c3) (n := m + 1) rfl (by rw [List.length_append, HM.out.1]; rfl) m 0 (Nat.lt_succ_self m) (by decide) (.int .i64 1) (fun v => { v with kind := 1 }) rfl)
  have HF5 := Lib.hid (HF4.out.setOut HR4.out.out rfl (Nat.le_of_lt HR4.out.lt) (m * 3 + 0) (.int .i64 1))
  rw [last_kind O m 1 HM.out.1] at HR5
  rw [Nat.add_zero] at HR5 HF5 d0 fd0
  clear c112 hAq hvq f113 c113 t2
  have WD5 := Lib.hid (WD.out _ _ _ ⟨⟨_, HR5.out⟩, HTL.out⟩ (Nat.le_refl _))
  go_wp2_with fail
  try rw [hWs]
  refine WD5.out.mono ?_
  rintro e w6 (⟨hcl, rfl, HG6, HF6⟩ | ⟨c, q6, b, tk6, hrun, rfl, HG6, HF6⟩)
  · have HCL := Lib.hid (Cl.trans hcl HC1.out)
    rw [HST.out.1] at HCL
    clear hcl
    go_wp2_with fail
    refine bodyPost_ret (v := .tuple #[.int .i64 ((p + [97, 108, 115, 101].length + 1 : Nat) : Int), .bool true]) (by simp [results, Tryd.results42, go_sem]) rfl (.inl ⟨[⟨1, 0, []⟩], p + [97, 108, 115, 101].length + 1, by omega, HCL.out, rfl, ?_, HF5.out.trans HF6.out⟩)
    rw [HST.out.2] at HG6
    exact HG6
  · have HRN := Lib.hid (HC1.out _ _ _ hrun)
    clear hrun
    rw [HST.out.2] at HG6 HRN
    go_wp2_with fail
    exact bodyPost_ret (v := .tuple #[.int .i64 0, .bool false]) (by simp [results, Tryd.results42, go_sem]) rfl (.inr ⟨_, _, _, _, _, HRN.out, rfl, HG6, HF5.out.trans HF6.out⟩)
set_option maxRecDepth 100000 in
set_option maxHeartbeats 6400000 in
theorem value_w110 {w : World} {g : Nat} {s : ByteArray} {L : Lm} {ro : Int} {O : List Vl} {tk : Nat} (st : St) (hG : Gok w g s L ro O st.G.length tk) (p : Nat) (hs : s.size ≤ 140737488351232) (htk : tk ≤ p + 1) (hq1 : p < s.size) (hq2 : p < L.bytes) (dp : Int)
    (hc : s.toList.getD p 0 = 110) (hi : O.length < L.items) (hiL : L.items ≤ 4096) (ha : st.act L 110 p = .go (st.begin 0 (.word [117, 108, 108]))) :
    Calls Tryd.prog 42 #[.pointer (some ⟨g, 0, none⟩), .int .i64 (p : Int), .int .i64 dp] w (RetVal st p g s L ro O w) := by
  have W := Lib.hid (gwant_yes hG (p : Int) p rfl hq1 hq2 hs htk)
  obtain ⟨st1, hst1⟩ : ∃ x, st.begin 0 (.word [117, 108, 108]) = x := ⟨_, rfl⟩
  have HC1 : Hid (Cl s.toList L (wx st1 [117, 108, 108]) (p + 1) st p) := by
    have h1 : wx st1 [117, 108, 108] = st1 := by rw [← hst1]; rfl
    rw [h1]
    exact fun r t k h => RunsT.go (has_of hq1 hq2) (by rw [hc, ha, hst1]) h
  have HST : Hid (st1.ended = after st [⟨0, 0, []⟩] ∧ st1.G.length = st.G.length) := by rw [← hst1]; exact ⟨rfl, bump_length _⟩
  obtain ⟨Ws, hWs⟩ : ∃ x : ByteArray, (⟨#[110, 117, 108, 108]⟩ : ByteArray) = x := ⟨_, rfl⟩
  have hWl : Ws.toList = 110 :: [117, 108, 108] := by rw [← hWs]; exact tl_mk [110, 117, 108, 108]
  have WD := Lib.hid (fun (w' : World) (O' : List Vl) (tk : Nat) (h : Gok w' g s L ro O' st1.G.length tk) (h1 : tk ≤ p + 1) => word_any st1 110 [117, 108, 108] (by decide) (by decide) Ws hWl h p hs h1 (has_of hq1 hq2) hc)
  have hbt := byte_at s p hq1
  rw [hc] at hbt
  have e2 : (p : Int) < (s.size : Int) := by omega
  have e3 : (0 : Int) ≤ (p : Int) := by omega
  obtain ⟨m, hm⟩ : ∃ m, O.length = m := ⟨_, rfl⟩
  have e0 : ¬ (L.items : Int) ≤ (m : Int) := by omega
  have e0b : decide ((L.items : Int) ≤ (m : Int)) = false := decide_eq_false e0
  have e0c : decide (L.items ≤ m) = false := decide_eq_false (by omega)
  have e0d : ¬ L.items ≤ m := by omega
  have HM : Hid (O.length = m ∧ m ≤ 4096) := ⟨hm, by omega⟩
  obtain ⟨y, hy⟩ : ∃ y, (s[p]).toNat = y := ⟨_, rfl⟩
  rw [hy] at hbt
  have hbt2 : y = 110 := hbt
  subst hbt2
  obtain ⟨fr, hfr⟩ : ∃ n, st.G.length = n := ⟨_, rfl⟩
  have HFR := Lib.hid hfr
  rw [hfr] at W
  rw [HST.out.2, hfr] at WD
  clear hG hs htk hq2 hc ha hst1 hbt hm hi hiL hfr hWl
  go_enter Tryd.func42, Tryd.ntmps42
  go_wp2_with fail
  refine W.out.mono ?_
  rintro e w1 ⟨rfl, HG1, HF1⟩
  have t0 := Gok.txt HG1.out
  obtain ⟨⟨vo, hR⟩, htl⟩ := HG1.out
  have HTL := Lib.hid htl
  obtain ⟨aV, cV, rfl, -⟩ := own_form hR.out
  rw [HM.out.1] at hR
  have c2 := hR.at0.cell 2 _ rfl
  have c11 := hR.at0.cell 11 _ rfl
  have HR := Lib.hid hR
  clear hR htl
  go_wp2_with fail
  go_quiet (fail)
  have HR2 := Lib.hid (HR.out.drewN nq)
  have HF2 := Lib.hid (HF1.out.trans (Fg.drewN g w1 nq))
  have t2 : (w1.drewN nq).cell? ⟨g, 0, none⟩ = some (.string s) := t0
  have c112 := HR2.out.at0.cell 11 _ rfl
  generalize w1.drewN nq = w2 at *
  clear c2 c11 t0 HR HF1 HG1
  go_upto_region 29 with (at_builtin; refine wpList_append_vl rfl (.tmp 105) (.tmp 107) rfl (g + 1) (.slice aV m cV) m O rfl (by have h9 := HR2.out.out; rw [HM.out.1] at h9; exact h9.alloc _) w2.heap.size 1 (⟨0, 0, []⟩ : Vl) rfl (at_cellsW (vv_new 0) (At.ofAlloc w2 #[Value.int .i64 0, Value.int .i64 0, Value.string ByteArray.empty] 61)) (by have := HM.out.2; omega) (by have := HR2.out.lt; simp; omega) ?_; intro v3 w3 hown3 hgrow3; obtain ⟨a3, c3, hv3, hg3⟩ := own_form hown3; obtain ⟨q, hq⟩ := hg3 (Nat.succ_pos _); subst hq; subst hv3; have hAt3 := At.grown ((HR2.out.alloc zv).at0) hgrow3 (HR2.out.alloc zv).lt (fun e => by have := (HR2.out.out.lt g e).1; omega); have f113 := hAt3.froz 11 (by show 11 < 12; decide); have c113 := hAt3.cell 11 _ rfl; have HO3 := Lib.hid hown3; have HGR := Lib.hid hgrow3; clear hAt3 hown3 hgrow3)
  have HR4 : Hid (Rg (w3.setCell ⟨g, 11, none⟩ (.slice (some ⟨q, 0, none⟩) (m + 1) c3)) g s L ro (O ++ [⟨0, 0, []⟩]) (.slice (some ⟨q, 0, none⟩) (m + 1) c3) 0 0 (p + 1) fr false) := by
    have h9 := (HR2.out.alloc zv).push (O' := O ++ [⟨0, 0, []⟩]) HGR.out (by rw [List.length_append, HM.out.1]; exact HO3.out)
    exact h9
  have HF4 : Hid (Fg g w (w3.setCell ⟨g, 11, none⟩ (.slice (some ⟨q, 0, none⟩) (m + 1) c3))) := by
    have h8 := (HF2.out.alloc (Nat.le_of_lt HR2.out.lt) zv).vals (HR2.out.alloc zv).out (Nat.le_of_lt (HR2.out.alloc zv).lt) HGR.out
    exact h8.push (by have h9 := c113; rw [Nat.zero_add] at h9; exact h9) (Nat.le_succ m)
  generalize w3.setCell ⟨g, 11, none⟩ (.slice (some ⟨q, 0, none⟩) (m + 1) c3) = w4 at HR4 HF4 ⊢
  obtain ⟨q2, cap, hvq, hgq, hAq⟩ := HR4.out.value m (by rw [List.length_append, HM.out.1]; exact Nat.lt_succ_self m)
  obtain rfl : q = q2 := by injection hvq with h1 h2 h3; injection h1 with h1; injection h1
  have d0 := hAq.cell 0 _ rfl
  have fd0 := hAq.froz 0 (by show 0 < 3; decide)
  have c114 := HR4.out.at0.cell 11 _ rfl
  have e8 : (m : Int) < (m : Int) + 1 := by omega
  have HR5 := HR4
  have HF5 := HF4
  clear c112 hAq hvq f113 c113 t2
  have WD5 := Lib.hid (WD.out _ _ _ ⟨⟨_, HR5.out⟩, HTL.out⟩ (Nat.le_refl _))
  go_wp2_with fail
  try rw [hWs]
  refine WD5.out.mono ?_
  rintro e w6 (⟨hcl, rfl, HG6, HF6⟩ | ⟨c, q6, b, tk6, hrun, rfl, HG6, HF6⟩)
  · have HCL := Lib.hid (Cl.trans hcl HC1.out)
    rw [HST.out.1] at HCL
    clear hcl
    go_wp2_with fail
    refine bodyPost_ret (v := .tuple #[.int .i64 ((p + [117, 108, 108].length + 1 : Nat) : Int), .bool true]) (by simp [results, Tryd.results42, go_sem]) rfl (.inl ⟨[⟨0, 0, []⟩], p + [117, 108, 108].length + 1, by omega, HCL.out, rfl, ?_, HF5.out.trans HF6.out⟩)
    rw [HST.out.2] at HG6
    exact HG6
  · have HRN := Lib.hid (HC1.out _ _ _ hrun)
    clear hrun
    rw [HST.out.2] at HG6 HRN
    go_wp2_with fail
    exact bodyPost_ret (v := .tuple #[.int .i64 0, .bool false]) (by simp [results, Tryd.results42, go_sem]) rfl (.inr ⟨_, _, _, _, _, HRN.out, rfl, HG6, HF5.out.trans HF6.out⟩)
end Jr
end Go.Proofs.YtilfidcomeandaaDoor
namespace Go.Proofs.YtilfidcomeandaaDoor
open Go.RowKit
set_option linter.unusedVariables false
set_option linter.unusedSimpArgs false
namespace Jr
open Js
open Dr (Rs Lm has lack lackE lackP)
theorem last_get (O : List Vl) (m : Nat) (k : Int) (h : O.length = m) : (O ++ [(⟨k, 0, []⟩ : Vl)]).getD m v0 = ⟨k, 0, []⟩ := by
  subst h
  rw [List.getD, List.getElem?_append_right (Nat.le_refl _), Nat.sub_self]; rfl
theorem last_text (O : List Vl) (m : Nat) (k : Int) (x : List UInt8) (h : O.length = m) : (O ++ [(⟨k, 0, []⟩ : Vl)]).modify m (fun v => { v with text := x }) = O ++ [(⟨k, 0, x⟩ : Vl)] := by
  subst h
  induction O with
  | nil => rfl
  | cons y O ih => rw [List.cons_append, List.length_cons, List.modify_succ_cons, ih]; rfl
set_option maxRecDepth 100000 in
set_option maxHeartbeats 6400000 in
theorem value_str {w : World} {g : Nat} {s : ByteArray} {L : Lm} {ro : Int} {O : List Vl} {tk : Nat} (st : St) (hG : Gok w g s L ro O st.G.length tk) (p : Nat) (hs : s.size ≤ 140737488351232) (htk : tk ≤ p + 1) (hq1 : p < s.size) (hq2 : p < L.bytes) (dp : Int)
    (hc : s.toList.getD p 0 = 34) (hnm : st.named = none) (hL : L.bytes ≤ 262144) (hi : O.length < L.items) (hiL : L.items ≤ 4096) (ha : st.act L 34 p = .go (st.begin 4 (.str s0))) :
    Calls Tryd.prog 42 #[.pointer (some ⟨g, 0, none⟩), .int .i64 (p : Int), .int .i64 dp] w (RetVal st p g s L ro O w) := by
  have W := Lib.hid (gwant_yes hG (p : Int) p rfl hq1 hq2 hs htk)
  obtain ⟨st1, hst1⟩ : ∃ x, st.begin 4 (.str s0) = x := ⟨_, rfl⟩
  have HC1 : Hid (Cl s.toList L (sx st1 .plain []) (p + 1) st p) := by
    have h1 : sx st1 .plain [] = st1 := by rw [← hst1]; rfl
    rw [h1]
    exact fun r t k h => RunsT.go (has_of hq1 hq2) (by rw [hc, ha, hst1]) h
  have HST : Hid ((∀ Y : List UInt8, ({ sx st1 .plain Y with cur := withText Y st1.cur } : St).ended = after st [⟨4, 0, Y⟩]) ∧ st1.G.length = st.G.length ∧ st1.named = none) := by
    rw [← hst1]
    refine ⟨fun Y => ?_, bump_length _, hnm⟩
    show ({ sx (st.begin 4 (.str s0)) .plain Y with cur := withText Y (st.cur ++ [⟨4, 0, []⟩]) } : St).ended = after st [⟨4, 0, Y⟩]
    rw [withText_snoc]
    rfl
  have WD := Lib.hid (fun (w' : World) (O' : List Vl) (tk : Nat) (h : Gok w' g s L ro O' st1.G.length tk) (h1 : tk ≤ p + 2) => rtext_any st1 h p hs h1 hL (by omega))
  have hbt := byte_at s p hq1
  rw [hc] at hbt
  have e2 : (p : Int) < (s.size : Int) := by omega
  have e3 : (0 : Int) ≤ (p : Int) := by omega
  obtain ⟨m, hm⟩ : ∃ m, O.length = m := ⟨_, rfl⟩
  have e0 : ¬ (L.items : Int) ≤ (m : Int) := by omega
  have e0b : decide ((L.items : Int) ≤ (m : Int)) = false := decide_eq_false e0
  have e0c : decide (L.items ≤ m) = false := decide_eq_false (by omega)
  have e0d : ¬ L.items ≤ m := by omega
  have HM : Hid (O.length = m ∧ m ≤ 4096) := ⟨hm, by omega⟩
  obtain ⟨y, hy⟩ : ∃ y, (s[p]).toNat = y := ⟨_, rfl⟩
  rw [hy] at hbt
  have hbt2 : y = 34 := hbt
  subst hbt2
  obtain ⟨fr, hfr⟩ : ∃ n, st.G.length = n := ⟨_, rfl⟩
  have HFR := Lib.hid hfr
  rw [hfr] at W
  rw [HST.out.2.1, hfr] at WD
  clear hG hs htk hq2 hc ha hst1 hbt hm hi hiL hfr hnm hL
  go_enter Tryd.func42, Tryd.ntmps42
  go_wp2_with fail
  refine W.out.mono ?_
  rintro e w1 ⟨rfl, HG1, HF1⟩
  have t0 := Gok.txt HG1.out
  obtain ⟨⟨vo, hR⟩, htl⟩ := HG1.out
  have HTL := Lib.hid htl
  obtain ⟨aV, cV, rfl, -⟩ := own_form hR.out
  rw [HM.out.1] at hR
  have c2 := hR.at0.cell 2 _ rfl
  have c11 := hR.at0.cell 11 _ rfl
  have HR := Lib.hid hR
  clear hR htl
  go_wp2_with fail
  go_quiet (fail)
  have HR2 := Lib.hid (HR.out.drewN nq)
  have HF2 := Lib.hid (HF1.out.trans (Fg.drewN g w1 nq))
  have t2 : (w1.drewN nq).cell? ⟨g, 0, none⟩ = some (.string s) := t0
  have c112 := HR2.out.at0.cell 11 _ rfl
  generalize w1.drewN nq = w2 at *
  clear c2 c11 t0 HR HF1 HG1
  go_upto_region 18 with (at_builtin; refine wpList_append_vl rfl (.tmp 105) (.tmp 107) rfl (g + 1) (.slice aV m cV) m O rfl (by have h9 := HR2.out.out; rw [HM.out.1] at h9; exact h9.alloc _) w2.heap.size 1 (⟨0, 0, []⟩ : Vl) rfl (at_cellsW (vv_new 0) (At.ofAlloc w2 #[Value.int .i64 0, Value.int .i64 0, Value.string ByteArray.empty] 61)) (by have := HM.out.2; omega) (by have := HR2.out.lt; simp; omega) ?_; intro v3 w3 hown3 hgrow3; obtain ⟨a3, c3, hv3, hg3⟩ := own_form hown3; obtain ⟨q, hq⟩ := hg3 (Nat.succ_pos _); subst hq; subst hv3; have hAt3 := At.grown ((HR2.out.alloc zv).at0) hgrow3 (HR2.out.alloc zv).lt (fun e => by have := (HR2.out.out.lt g e).1; omega); have f113 := hAt3.froz 11 (by show 11 < 12; decide); have c113 := hAt3.cell 11 _ rfl; have HO3 := Lib.hid hown3; have HGR := Lib.hid hgrow3; clear hAt3 hown3 hgrow3)
  have HR4 : Hid (Rg (w3.setCell ⟨g, 11, none⟩ (.slice (some ⟨q, 0, none⟩) (m + 1) c3)) g s L ro (O ++ [⟨0, 0, []⟩]) (.slice (some ⟨q, 0, none⟩) (m + 1) c3) 0 0 (p + 1) fr false) := by
    have h9 := (HR2.out.alloc zv).push (O' := O ++ [⟨0, 0, []⟩]) HGR.out (by rw [List.length_append, HM.out.1]; exact HO3.out)
    exact h9
  have HF4 : Hid (Fg g w (w3.setCell ⟨g, 11, none⟩ (.slice (some ⟨q, 0, none⟩) (m + 1) c3))) := by
    have h8 := (HF2.out.alloc (Nat.le_of_lt HR2.out.lt) zv).vals (HR2.out.alloc zv).out (Nat.le_of_lt (HR2.out.alloc zv).lt) HGR.out
    exact h8.push (by have h9 := c113; rw [Nat.zero_add] at h9; exact h9) (Nat.le_succ m)
  generalize w3.setCell ⟨g, 11, none⟩ (.slice (some ⟨q, 0, none⟩) (m + 1) c3) = w4 at HR4 HF4 ⊢
  obtain ⟨q2, cap, hvq, hgq, hAq⟩ := HR4.out.value m (by rw [List.length_append, HM.out.1]; exact Nat.lt_succ_self m)
  obtain rfl : q = q2 := by injection hvq with h1 h2 h3; injection h1 with h1; injection h1
  have d0 := hAq.cell 0 _ rfl
  have fd0 := hAq.froz 0 (by show 0 < 3; decide)
  have c114 := HR4.out.at0.cell 11 _ rfl
  have e8 : (m : Int) < (m : Int) + 1 := by omega
  have HR5 := Lib.hid (HR4.out.setOut (q := q) (cap := c3) (n := m + 1) rfl (by rw [List.length_append, HM.out.1]; rfl) m 0 (Nat.lt_succ_self m) (by decide) (.int .i64 4) (fun v => { v with kind := 4 }) rfl)
  have HF5 := Lib.hid (HF4.out.setOut HR4.out.out rfl (Nat.le_of_lt HR4.out.lt) (m * 3 + 0) (.int .i64 4))
  rw [last_kind O m 4 HM.out.1] at HR5
  rw [Nat.add_zero] at HR5 HF5 d0 fd0
  clear c112 hAq hvq f113 c113 t2
  have WD5 := Lib.hid (WD.out _ _ _ ⟨⟨_, HR5.out⟩, HTL.out⟩ (Nat.le_succ _))
  go_wp2_with fail
  refine WD5.out.mono ?_
  rintro e w6 (⟨Y, q6, hpq, hhq, hbq, hYs, hcl, rfl, HG6, HF6⟩ | ⟨c, q6, b, tk6, hrun, rfl, HG6, HF6⟩)
  · rw [HST.out.2.1, HFR.out] at HG6
    have HCL : Hid (Cl s.toList L (after st [⟨4, 0, Y.toList⟩]) (q6 + 1) st p) := by
      have hact : (sx st1 .plain Y.toList).act L (s.toList.getD q6 0) q6 = .go ({ sx st1 .plain Y.toList with cur := withText Y.toList st1.cur } : St).ended := by
        rw [hbq]
        show (sx st1 .plain Y.toList).endStr Y.toList = _
        rw [St.endStr, show (sx st1 .plain Y.toList).named = none from HST.out.2.2]
        obtain ⟨nx, hd, nm, cur, G⟩ := st1
        cases (show nm = none from HST.out.2.2)
        rfl
      rw [HST.out.1] at hact
      exact Cl.trans (fun r t k h => RunsT.go hhq hact h) (Cl.trans hcl HC1.out)
    obtain ⟨⟨vo6, hR6⟩, htl6⟩ := HG6.out
    obtain ⟨q7, cap7, hv7, hgq7, hA7⟩ := hR6.value m (by rw [List.length_append, HM.out.1]; exact Nat.lt_succ_self m)
    rw [List.length_append, HM.out.1] at hv7
    have hv8 : vo6 = .slice (some ⟨q7, 0, none⟩) (m + 1) cap7 := hv7
    subst hv8
    have c116 := hR6.at0.cell 11 _ rfl
    have d2 := hA7.cell 2 _ rfl
    have fd2 := hA7.froz 2 (by show 2 < 3; decide)
    have HR7 := Lib.hid (hR6.setOut (q := q7) (cap := cap7) (n := m + 1) rfl (by rw [List.length_append, HM.out.1]; rfl) m 2 (Nat.lt_succ_self m) (by decide) (.string Y) (fun v => { v with text := Y.toList }) (by rw [last_get O m 4 HM.out.1]; show [_, _, _] = [_, _, _]; rw [show (⟨Y.toList.toArray⟩ : ByteArray) = Y from tl_inj (tl_mk _)]))
    rw [last_text O m 4 Y.toList HM.out.1] at HR7
    have HF7 := Lib.hid ((HF5.out.trans HF6.out).setOut hR6.out rfl (Nat.le_of_lt hR6.lt) (m * 3 + 2) (.string Y))
    have HTL6 := Lib.hid htl6
    have HPQ := Lib.hid hpq
    obtain ⟨q8, hq8⟩ : ∃ q, q6 + 1 = q := ⟨_, rfl⟩
    rw [hq8] at HCL HR7 HTL6 ⊢
    have HQ8 := Lib.hid hq8
    clear hpq hhq hbq hYs hcl hR6 htl6 hA7 hq8 HG6
    go_wp2_with fail
    refine bodyPost_ret (v := .tuple #[.int .i64 (q8 : Int), .bool true]) (by simp [results, Tryd.results42, go_sem]) rfl (.inl ⟨[⟨4, 0, Y.toList⟩], q8, by have := HPQ.out; have := HQ8.out; omega, HCL.out, rfl, ?_, HF7⟩)
    rw [HFR.out]
    exact ⟨⟨_, HR7.out⟩, HTL6.out⟩
  · have HRN := Lib.hid (HC1.out _ _ _ hrun)
    clear hrun
    rw [HST.out.2.1] at HG6 HRN
    obtain ⟨O6, vo6, hR6⟩ := HG6.out
    have h5 := HR5.out.at0.cell 11 _ rfl
    rw [Nat.zero_add] at h5
    obtain ⟨a6, n6, c6, h6, hn6⟩ := HF6.out.out _ _ _ h5
    have h7 := hR6.at0.cell 11 _ rfl
    rw [Nat.zero_add, h6] at h7
    have h8 : vo6 = .slice a6 n6 c6 := by injection h7 with h7; exact h7.symm
    obtain ⟨a9, c9, h9, -⟩ := own_form hR6.out
    have hl6 : O6.length = n6 := by rw [h8] at h9; injection h9 with _ h9 _; exact h9.symm
    obtain ⟨q7, cap7, hv7, hgq7, hA7⟩ := hR6.value m (by omega)
    rw [hl6] at hv7
    clear h5 h6 h7 h8 h9
    subst hv7
    have c116 := hR6.at0.cell 11 _ rfl
    have d2 := hA7.cell 2 _ rfl
    have fd2 := hA7.froz 2 (by show 2 < 3; decide)
    have e9 : (m : Int) < (n6 : Int) := by omega
    have HR7 := Lib.hid (hR6.setOut (q := q7) (cap := cap7) (n := n6) rfl hl6 m 2 (by omega) (by decide) (.string ⟨#[]⟩) (fun v => { v with text := [] }) rfl)
    have HF7 := Lib.hid ((HF5.out.trans HF6.out).setOut hR6.out rfl (Nat.le_of_lt hR6.lt) (m * 3 + 2) (.string ⟨#[]⟩))
    clear hR6 hA7 hl6 hn6 HG6
    go_wp2_with fail
    exact bodyPost_ret (v := .tuple #[.int .i64 0, .bool false]) (by simp [results, Tryd.results42, go_sem]) rfl (.inr ⟨_, _, _, _, _, HRN.out, rfl, ⟨_, _, HR7.out⟩, HF7⟩)
end Jr
end Go.Proofs.YtilfidcomeandaaDoor
