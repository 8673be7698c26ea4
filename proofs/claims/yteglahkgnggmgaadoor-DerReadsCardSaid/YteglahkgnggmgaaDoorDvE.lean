/- The document's reader: an element. -/
import Derived.Test.YteglahkgnggmgaaDoorDvD
import Derived.Test.YteglahkgnggmgaaDoorDrQ
import Derived.Test.YteglahkgnggmgaaDoorDrB
namespace Go.Proofs.YteglahkgnggmgaaDoor
open Go.RowKit
set_option linter.unusedVariables false
set_option linter.unusedSimpArgs false
open Dr
theorem Rok.opn {w : World} {g : Nat} {s : ByteArray} {L : Lm} {ro : Int} {O : List Nd} {fr : Nat} (h : Rok w g s L ro O fr) : ∃ a c tk, Hid (Rf w g s L ro O (.slice a O.length c) 0 0 tk fr false) := by
  obtain ⟨vo, tk, h⟩ := h
  obtain ⟨a, c, rfl, -⟩ := own_form h.out
  exact ⟨a, c, tk, h⟩
set_option maxRecDepth 100000 in
theorem dall_nil {w : World} {g : Nat} {s : ByteArray} {L : Lm} {ro : Int} {O : List Nd} {fr : Nat} (h : Rok w g s L ro O fr) (z : Int) : Calls Tryd.prog 69 #[.pointer (some ⟨g, 0, none⟩), .int .i64 z, .int .i64 0] w (Yes (.bool true) g s L ro O fr w) := by
  have HR := Lib.hid h
  clear h
  go_enter Tryd.func69, Tryd.ntmps69
  go_wp2_with fail
  go_ret
  exact ⟨rfl, HR, Below.refl _ _⟩
/-- all of a body is there, or not -/
def DAll (b : Bool) (g : Nat) (s : ByteArray) (L : Lm) (ro : Int) (O : List Nd) (fr : Nat) (w : World) (e : Ending) (w' : World) : Prop :=
  if b = true then Yes (.bool true) g s L ro O fr w e w' else Nay (.bool false) g s L ro (lackE s.toList L) (lackP s.toList L) (decide (s.toList.length ≤ L.bytes)) w e w'
set_option maxRecDepth 100000 in
theorem dall_any {w : World} {g : Nat} {s : ByteArray} {L : Lm} {ro : Int} {O : List Nd} {fr : Nat} (h : Rok w g s L ro O fr) (q n : Nat) (hs : s.size ≤ 140737488351232) (hq : q ≤ 140737488351232) (hn : n ≤ 140737488351232) (b : Bool) (hb : decide (¬ (n ≠ 0 ∧ has s.toList L (q + n - 1) = false)) = b) :
    Calls Tryd.prog 69 #[.pointer (some ⟨g, 0, none⟩), .int .i64 (q : Int), .int .i64 (n : Int)] w (DAll b g s L ro O fr w) := by
  by_cases h0 : n = 0
  · subst h0
    obtain rfl : b = true := by rw [← hb]; exact decide_eq_true (fun h => h.1 rfl)
    exact dall_nil h _
  · have e0 : ¬ (n : Int) = 0 := by omega
    obtain ⟨x, hx⟩ : ∃ x, q + n = x := ⟨_, rfl⟩
    obtain ⟨y, hy⟩ : ∃ y, q + n - 1 = y := ⟨_, rfl⟩
    have e1 : (q : Int) + (n : Int) = (x : Int) := by omega
    have e2 : (x : Int) - 1 = (y : Int) := by omega
    have e3 : IntKind.i64.wrap (x : Int) = (x : Int) := wrap_fit x (by unfold maxLen; omega)
    have e4 : IntKind.i64.wrap (y : Int) = (y : Int) := wrap_fit y (by unfold maxLen; omega)
    rw [hy] at hb
    by_cases h1 : y < s.size ∧ y < L.bytes
    · obtain rfl : b = true := by rw [← hb]; exact decide_eq_true (fun h => by rw [has_yes s L y h1] at h; exact absurd h.2 (by decide))
      have W := Lib.hid (dwant_yes h (y : Int) y rfl h1.1 h1.2 hs)
      clear h hb hx hy h0 h1 hq hn
      go_enter Tryd.func69, Tryd.ntmps69
      go_wp2_with (first | (go_at_call 51; refine W.out.mono ?_; rintro e w1 ⟨rfl, HR1, HB1⟩))
      go_ret
      exact ⟨rfl, HR1, HB1⟩
    · obtain rfl : b = false := by rw [← hb]; exact decide_eq_false (fun h => h ⟨h0, has_no s L y h1⟩)
      have W := Lib.hid (dwant_no h (y : Int) y rfl h1)
      clear h hb hx hy h0 h1 hq hn
      go_enter Tryd.func69, Tryd.ntmps69
      go_wp2_with (first | (go_at_call 51; refine W.out.mono ?_; rintro e w1 ⟨rfl, HR1, HB1⟩))
      go_ret
      exact ⟨rfl, HR1, HB1⟩
theorem Rf.drew {w : World} {g : Nat} {s : ByteArray} {L : Lm} {ro : Int} {O : List Nd} {vo : Value} {er : Int} {pl tk fr : Nat} {en : Bool} (h : Rf w g s L ro O vo er pl tk fr en) : Rf w.drew g s L ro O vo er pl tk fr en := h.drewN 1
/-- a node is appended to what was read -/
theorem Rf.add {w w' : World} {g : Nat} {s : ByteArray} {L : Lm} {ro : Int} {O O' : List Nd} {vo v' : Value} {er : Int} {pl tk fr : Nat} {en : Bool} (h : Rf w g s L ro O vo er pl tk fr en) (hg : w.grownBy w' vo.ownBlock) (ho : w'.ownsRow (g + 1) 63 3 v' O'.length (ncells O')) :
    Rf (w'.setCell ⟨g, 5, none⟩ v') g s L ro O' v' er pl tk fr en := by
  have hlt := h.lt
  have hne : ∀ k, vo.ownBlock = some k → g + 1 ≤ k := fun k hk => (h.out.lt k hk).1
  have h1 := h.at0.grown hg hlt (fun e => by have := hne g e; omega)
  exact ⟨h1.set 5 v', ownsRow_setCell_below ho (Nat.lt_succ_self g) _, by
    rw [show (w'.setCell ⟨g, 5, none⟩ v').heap.size = w'.heap.size by simp [World.setCell]]
    exact Nat.lt_of_lt_of_le hlt hg.size⟩
theorem Rok.opn2 {w : World} {g : Nat} {s : ByteArray} {L : Lm} {ro : Int} {O : List Nd} {fr : Nat} (h : Rok w g s L ro O fr) (h0 : 0 < O.length) : ∃ kn c tk, Hid (Rf w g s L ro O (.slice (some ⟨kn, 0, none⟩) O.length c) 0 0 tk fr false) := by
  obtain ⟨vo, tk, h⟩ := h
  obtain ⟨a, c, rfl, ha⟩ := own_form h.out
  obtain ⟨kn, rfl⟩ := ha h0
  exact ⟨kn, c, tk, h⟩
theorem head_le {G : List Fr} {x : Nat} (h : ¬ (G.head?.any fun f => decide (f.e < x)) = true) (f' : Fr) (hf : G.head? = some f') : x ≤ f'.e := by
  rw [hf] at h
  have h2 : ¬ f'.e < x := by simpa using h
  omega
/-- where the one ends in which an element stands -/
def EndOf (G : List Fr) (z : Int) : Prop := (G = [] ∧ z = -1) ∨ (∃ f G', G = f :: G' ∧ z = (f.e : Int))
/-- what an element's reading comes to -/
def DElem (s : ByteArray) (L : Lm) (ro : Int) (g : Nat) (O : List Nd) (fr : Nat) (G : List Fr) (l : List Nd) (p : Nat) (w : World) (e : Ending) (w' : World) : Prop :=
  (∃ (N : List Nd) (q : Nat), Yes (.tuple #[.int .i64 (q : Int), .bool true]) g s L ro (O ++ N) fr w e w' ∧ p + 2 ≤ q ∧ q ≤ s.size ∧ (∀ f, G.head? = some f → q ≤ f.e) ∧ ∀ r, RunsD s.toList L (.pend G (l ++ N) p q) r → RunsD s.toList L (.el G l p) r) ∨
  (∃ c q b, Nay (.tuple #[.int .i64 0, .bool false]) g s L ro c q b w e w' ∧ RunsD s.toList L (.el G l p) (.no c q b))
theorem DElem.no {s : ByteArray} {L : Lm} {ro : Int} {g : Nat} {O : List Nd} {fr : Nat} {G : List Fr} {l : List Nd} {p : Nat} {w w' : World} {e : Ending} (c : Int) (q : Nat) (b : Bool) (he : e = .returned (.tuple #[.int .i64 0, .bool false])) (h1 : Hid (Rno w' g s L ro c q b)) (h2 : Hid (Below g w w')) (hr : elS s.toList L bodyOk G l p = .no c q b) : DElem s L ro g O fr G l p w e w' :=
  .inr ⟨c, q, b, ⟨he, h1, h2⟩, Runs.elNo hr⟩
section
variable {S : List UInt8} {L : Lm} {G : List Fr} {l : List Nd} {p : Nat}
theorem elS_lack (h : has S L p = false) : elS S L bodyOk G l p = lack S L := by rw [elS, if_pos h]
theorem elS_full2 (h : has S L p = true) (h2 : L.items ≤ l.length) : elS S L bodyOk G l p = .no 10 p false := by rw [elS, if_neg (by rw [h]; decide), if_pos h2]
theorem elS_tag (h : has S L p = true) (h2 : ¬ L.items ≤ l.length) (h3 : tagE (S.getD p 0) ≠ 0) : elS S L bodyOk G l p = .no (tagE (S.getD p 0)) p false := by rw [elS, if_neg (by rw [h]; decide), if_neg h2, if_pos h3]
theorem elS_depth (h : has S L p = true) (h2 : ¬ L.items ≤ l.length) (h3 : ¬ tagE (S.getD p 0) ≠ 0) (h4 : within (S.getD p 0) = true ∧ L.depth ≤ G.length) : elS S L bodyOk G l p = .no 10 p false := by rw [elS, if_neg (by rw [h]; decide), if_neg h2, if_neg h3, if_pos h4]
section
variable (h : has S L p = true) (h2 : ¬ L.items ≤ l.length) (h3 : ¬ tagE (S.getD p 0) ≠ 0) (h4 : ¬ (within (S.getD p 0) = true ∧ L.depth ≤ G.length))
include h h2 h3 h4
theorem elS_len2 {e : Int} {q : Nat} {b : Bool} (h5 : lenR S L (p + 1) = .no e q b) : elS S L bodyOk G l p = .no e q b := by rw [elS, if_neg (by rw [h]; decide), if_neg h2, if_neg h3, if_neg h4, h5]
variable {n q : Nat} (h5 : lenR S L (p + 1) = .ok (n, q))
include h5
theorem elS_end (h6 : (G.head?.any fun f => decide (f.e < q + n)) = true) : elS S L bodyOk G l p = .no 9 p false := by rw [elS, if_neg (by rw [h]; decide), if_neg h2, if_neg h3, if_neg h4, h5]; simp only [h6, if_true]
variable (h6 : ¬ (G.head?.any fun f => decide (f.e < q + n)) = true)
include h6
theorem elS_in (h7 : within (S.getD p 0) = true) : elS S L bodyOk G l p = .ok (.loop ({ tag := S.getD p 0, node := l.length, p0 := p, e := q + n, kids := 0, last := [] } :: G) (l ++ [{ tag := S.getD p 0, kids := 0, body := [] }]) q) := by
  rw [elS, if_neg (by rw [h]; decide), if_neg h2, if_neg h3, if_neg h4, h5]
  dsimp only
  rw [if_neg h6, if_pos h7]
variable (h7 : ¬ within (S.getD p 0) = true)
include h7
theorem elS_skip (h8 : n ≠ 0 ∧ has S L (q + n - 1) = false) : elS S L bodyOk G l p = lack S L := by
  rw [elS, if_neg (by rw [h]; decide), if_neg h2, if_neg h3, if_neg h4, h5]
  dsimp only
  rw [if_neg h6, if_neg h7, if_pos h8]
variable (h8 : ¬ (n ≠ 0 ∧ has S L (q + n - 1) = false))
include h8
theorem elS_body (h9 : bodyOk (S.getD p 0) (Dr.part S q (q + n)) = false) : elS S L bodyOk G l p = .no 9 p false := by
  rw [elS, if_neg (by rw [h]; decide), if_neg h2, if_neg h3, if_neg h4, h5]
  dsimp only
  rw [if_neg h6, if_neg h7, if_neg h8, if_pos h9]
theorem elS_ok (h9 : ¬ bodyOk (S.getD p 0) (Dr.part S q (q + n)) = false) : elS S L bodyOk G l p = .ok (.pend G (l ++ [{ tag := S.getD p 0, kids := -1, body := Dr.part S q (q + n) }]) p (q + n)) := by
  rw [elS, if_neg (by rw [h]; decide), if_neg h2, if_neg h3, if_neg h4, h5]
  dsimp only
  rw [if_neg h6, if_neg h7, if_neg h8, if_neg h9]
end
end
set_option maxRecDepth 100000 in
set_option maxHeartbeats 1600000 in
theorem delem_lack (w : World) (g : Nat) (s : ByteArray) (L : Lm) (ro : Int) (O : List Nd) (fr : Nat) (G : List Fr) (l : List Nd) (p : Nat) (z : Int) (hR : Rok w g s L ro O fr) (hl : l.length = O.length) (hz : s.size ≤ 140737488351232) (hp : p ≤ s.size) (hG : EndOf G z) (hGl : G.length ≤ 1000000) (h0 : ¬ (p < s.size ∧ p < L.bytes)) :
    Calls Tryd.prog 50 #[.pointer (some ⟨g, 0, none⟩), .int .i64 (p : Int), .int .i64 (G.length : Int), .int .i64 z] w (DElem s L ro g O fr G l p w) := by
  have W := Lib.hid (dwant_no hR (p : Int) p rfl h0)
  have HE := Lib.hid (elS_lack (G := G) (l := l) (has_no s L p h0))
  clear hR hl hz hp hG hGl h0
  go_enter Tryd.func50, Tryd.ntmps50
  go_wp2_with (first | (go_at_call 51; refine W.out.mono ?_; rintro e w1 ⟨rfl, HR1, HB1⟩))
  go_ret2
  exact DElem.no _ _ _ rfl HR1 HB1 HE.out
set_option maxRecDepth 100000 in
set_option maxHeartbeats 1600000 in
theorem delem_items (w : World) (g : Nat) (s : ByteArray) (L : Lm) (ro : Int) (O : List Nd) (fr : Nat) (G : List Fr) (l : List Nd) (p : Nat) (z : Int) (hR : Rok w g s L ro O fr) (hl : l.length = O.length) (hz : s.size ≤ 140737488351232) (hp : p ≤ s.size) (hG : EndOf G z) (hGl : G.length ≤ 1000000) (h0 : p < s.size ∧ p < L.bytes) (h2 : L.items ≤ l.length) :
    Calls Tryd.prog 50 #[.pointer (some ⟨g, 0, none⟩), .int .i64 (p : Int), .int .i64 (G.length : Int), .int .i64 z] w (DElem s L ro g O fr G l p w) := by
  have W := Lib.hid (dwant_yes hR (p : Int) p rfl h0.1 h0.2 hz)
  have hh := has_yes s L p h0
  obtain ⟨m, hm⟩ : ∃ m, O.length = m := ⟨_, rfl⟩
  have HM := Lib.hid hm
  have hlm : l.length = m := hl.trans hm
  have HE := Lib.hid (elS_full2 (G := G) hh h2)
  have e1 : (L.items : Int) ≤ (m : Int) := by omega
  clear hR hl hz hp hG hGl h0 h2 hm hlm hh
  go_enter Tryd.func50, Tryd.ntmps50
  go_wp2_with (first
    | (go_at_call 51; refine W.out.mono ?_; rintro e w1 ⟨rfl, HQ1, HB1⟩; obtain ⟨a1, c1, tk1, HR1⟩ := HQ1.out.opn; have g0 := HQ1.out.txt)
    | (go_at_call 37; refine (TG.out _).mono ?_; rintro e wt ⟨rfl, rfl⟩)
    | (go_at_call 52; refine (dfault_ok (by first | exact HQ4.out.drewN _ | exact HQ4.out | exact HQ3.out | exact HQ2.out.drewN _ | exact HQ2.out | exact HQ1.out.drewN _ | exact HQ1.out) _ _ p rfl).mono ?_; rintro e wf ⟨rfl, HRF, HBF⟩)
    | (go_at_call 68; refine (LE.out _ (HQ1.out.drewN _)).mono ?_; rintro e w2 ⟨rfl, HQ2, HB2⟩)
    | (go_at_call 69; refine (AL.out _ HQ2.out).mono ?_; rintro e w3 ⟨rfl, HQ3, HB3⟩; have g3 := HQ3.out.txt)
    | (go_at_call 38; refine (BO.out _).mono ?_; rintro e w4 ⟨rfl, hb4⟩; have HQ4 := Lib.hid (HQ3.out.below hb4); have HB4 : Hid (Below g w3 w4) := hb4.mono (Nat.le_of_lt HQ3.out.lt); clear hb4)
    | (go_at_call 70; refine (IN.out _ HQ2.out).mono ?_; intro e w3 hin))
  have k5 := HR1.out.at0.cell 5 _ rfl
  have k2 := HR1.out.at0.cell 2 _ rfl
  have k1 := HR1.out.at0.cell 1 _ rfl
  rw [HM.out] at k5
  go_quiet (fail)
  go_wp2_with (first
    | (go_at_call 51; refine W.out.mono ?_; rintro e w1 ⟨rfl, HQ1, HB1⟩; obtain ⟨a1, c1, tk1, HR1⟩ := HQ1.out.opn; have g0 := HQ1.out.txt)
    | (go_at_call 37; refine (TG.out _).mono ?_; rintro e wt ⟨rfl, rfl⟩)
    | (go_at_call 52; refine (dfault_ok (by first | exact HQ4.out.drewN _ | exact HQ4.out | exact HQ3.out | exact HQ2.out.drewN _ | exact HQ2.out | exact HQ1.out.drewN _ | exact HQ1.out) _ _ p rfl).mono ?_; rintro e wf ⟨rfl, HRF, HBF⟩)
    | (go_at_call 68; refine (LE.out _ (HQ1.out.drewN _)).mono ?_; rintro e w2 ⟨rfl, HQ2, HB2⟩)
    | (go_at_call 69; refine (AL.out _ HQ2.out).mono ?_; rintro e w3 ⟨rfl, HQ3, HB3⟩; have g3 := HQ3.out.txt)
    | (go_at_call 38; refine (BO.out _).mono ?_; rintro e w4 ⟨rfl, hb4⟩; have HQ4 := Lib.hid (HQ3.out.below hb4); have HB4 : Hid (Below g w3 w4) := hb4.mono (Nat.le_of_lt HQ3.out.lt); clear hb4)
    | (go_at_call 70; refine (IN.out _ HQ2.out).mono ?_; intro e w3 hin))
  go_ret2
  exact DElem.no _ _ _ rfl HRF ((HB1.out.trans (below_drewN _ _ _)).trans HBF.out) HE.out
set_option maxRecDepth 100000 in
set_option maxHeartbeats 1600000 in
theorem delem_tag (w : World) (g : Nat) (s : ByteArray) (L : Lm) (ro : Int) (O : List Nd) (fr : Nat) (G : List Fr) (l : List Nd) (p : Nat) (z : Int) (hR : Rok w g s L ro O fr) (hl : l.length = O.length) (hz : s.size ≤ 140737488351232) (hp : p ≤ s.size) (hG : EndOf G z) (hGl : G.length ≤ 1000000) (h0 : p < s.size ∧ p < L.bytes) (h2 : ¬ L.items ≤ l.length) (h3 : tagE (s.toList.getD p 0) ≠ 0) :
    Calls Tryd.prog 50 #[.pointer (some ⟨g, 0, none⟩), .int .i64 (p : Int), .int .i64 (G.length : Int), .int .i64 z] w (DElem s L ro g O fr G l p w) := by
  have W := Lib.hid (dwant_yes hR (p : Int) p rfl h0.1 h0.2 hz)
  have hh := has_yes s L p h0
  obtain ⟨m, hm⟩ : ∃ m, O.length = m := ⟨_, rfl⟩
  have HM := Lib.hid hm
  have hlm : l.length = m := hl.trans hm
  obtain ⟨t, ht⟩ : ∃ t, (s.toList.getD p 0).toNat = t := ⟨_, rfl⟩
  have ht2 : t < 256 := by rw [← ht]; exact (s.toList.getD p 0).toNat_lt
  have hlt : p < s.size := h0.1
  have hsp : (s[p]'hlt).toNat = t := by rw [← tl_getD s p hlt]; exact ht
  obtain ⟨hte, hwi⟩ := tag_nat s p t ht
  have TG := Lib.hid (fun w => rtag_any t ht2 w)
  rw [← hte] at TG
  obtain ⟨te, hteq⟩ : ∃ te, tagE (s.toList.getD p 0) = te := ⟨_, rfl⟩
  rw [hteq] at TG
  have e1 : ¬ (L.items : Int) ≤ (m : Int) := by omega
  have e1b : decide ((L.items : Int) ≤ (m : Int)) = false := decide_eq_false e1
  have HE := Lib.hid (elS_tag (G := G) hh h2 h3)
  rw [hteq] at HE h3
  have e2 : ¬ te = 0 := h3
  clear hR hl hz hp hG hGl h0 h2 hm hlm hh ht ht2 hte hwi hteq h3
  go_enter Tryd.func50, Tryd.ntmps50
  go_wp2_with (first
    | (go_at_call 51; refine W.out.mono ?_; rintro e w1 ⟨rfl, HQ1, HB1⟩; obtain ⟨a1, c1, tk1, HR1⟩ := HQ1.out.opn; have g0 := HQ1.out.txt)
    | (go_at_call 37; refine (TG.out _).mono ?_; rintro e wt ⟨rfl, rfl⟩)
    | (go_at_call 52; refine (dfault_ok (by first | exact HQ4.out.drewN _ | exact HQ4.out | exact HQ3.out | exact HQ2.out.drewN _ | exact HQ2.out | exact HQ1.out.drewN _ | exact HQ1.out) _ _ p rfl).mono ?_; rintro e wf ⟨rfl, HRF, HBF⟩)
    | (go_at_call 68; refine (LE.out _ (HQ1.out.drewN _)).mono ?_; rintro e w2 ⟨rfl, HQ2, HB2⟩)
    | (go_at_call 69; refine (AL.out _ HQ2.out).mono ?_; rintro e w3 ⟨rfl, HQ3, HB3⟩; have g3 := HQ3.out.txt)
    | (go_at_call 38; refine (BO.out _).mono ?_; rintro e w4 ⟨rfl, hb4⟩; have HQ4 := Lib.hid (HQ3.out.below hb4); have HB4 : Hid (Below g w3 w4) := hb4.mono (Nat.le_of_lt HQ3.out.lt); clear hb4)
    | (go_at_call 70; refine (IN.out _ HQ2.out).mono ?_; intro e w3 hin))
  have k5 := HR1.out.at0.cell 5 _ rfl
  have k2 := HR1.out.at0.cell 2 _ rfl
  have k1 := HR1.out.at0.cell 1 _ rfl
  rw [HM.out] at k5
  go_quiet (fail)
  go_wp2_with (first
    | (go_at_call 51; refine W.out.mono ?_; rintro e w1 ⟨rfl, HQ1, HB1⟩; obtain ⟨a1, c1, tk1, HR1⟩ := HQ1.out.opn; have g0 := HQ1.out.txt)
    | (go_at_call 37; refine (TG.out _).mono ?_; rintro e wt ⟨rfl, rfl⟩)
    | (go_at_call 52; refine (dfault_ok (by first | exact HQ4.out.drewN _ | exact HQ4.out | exact HQ3.out | exact HQ2.out.drewN _ | exact HQ2.out | exact HQ1.out.drewN _ | exact HQ1.out) _ _ p rfl).mono ?_; rintro e wf ⟨rfl, HRF, HBF⟩)
    | (go_at_call 68; refine (LE.out _ (HQ1.out.drewN _)).mono ?_; rintro e w2 ⟨rfl, HQ2, HB2⟩)
    | (go_at_call 69; refine (AL.out _ HQ2.out).mono ?_; rintro e w3 ⟨rfl, HQ3, HB3⟩; have g3 := HQ3.out.txt)
    | (go_at_call 38; refine (BO.out _).mono ?_; rintro e w4 ⟨rfl, hb4⟩; have HQ4 := Lib.hid (HQ3.out.below hb4); have HB4 : Hid (Below g w3 w4) := hb4.mono (Nat.le_of_lt HQ3.out.lt); clear hb4)
    | (go_at_call 70; refine (IN.out _ HQ2.out).mono ?_; intro e w3 hin))
  go_ret2
  exact DElem.no _ _ _ rfl HRF ((HB1.out.trans (below_drewN _ _ _)).trans HBF.out) HE.out
set_option maxRecDepth 100000 in
set_option maxHeartbeats 1600000 in
theorem delem_depth (w : World) (g : Nat) (s : ByteArray) (L : Lm) (ro : Int) (O : List Nd) (fr : Nat) (G : List Fr) (l : List Nd) (p : Nat) (z : Int) (hR : Rok w g s L ro O fr) (hl : l.length = O.length) (hz : s.size ≤ 140737488351232) (hp : p ≤ s.size) (hG : EndOf G z) (hGl : G.length ≤ 1000000) (h0 : p < s.size ∧ p < L.bytes) (h2 : ¬ L.items ≤ l.length) (h3 : ¬ tagE (s.toList.getD p 0) ≠ 0) (hV : within (s.toList.getD p 0) = true) (h4 : L.depth ≤ G.length) :
    Calls Tryd.prog 50 #[.pointer (some ⟨g, 0, none⟩), .int .i64 (p : Int), .int .i64 (G.length : Int), .int .i64 z] w (DElem s L ro g O fr G l p w) := by
  have W := Lib.hid (dwant_yes hR (p : Int) p rfl h0.1 h0.2 hz)
  have hh := has_yes s L p h0
  obtain ⟨m, hm⟩ : ∃ m, O.length = m := ⟨_, rfl⟩
  have HM := Lib.hid hm
  have hlm : l.length = m := hl.trans hm
  obtain ⟨t, ht⟩ : ∃ t, (s.toList.getD p 0).toNat = t := ⟨_, rfl⟩
  have ht2 : t < 256 := by rw [← ht]; exact (s.toList.getD p 0).toNat_lt
  have hlt : p < s.size := h0.1
  have hsp : (s[p]'hlt).toNat = t := by rw [← tl_getD s p hlt]; exact ht
  obtain ⟨hte, hwi⟩ := tag_nat s p t ht
  have TG := Lib.hid (fun w => rtag_any t ht2 w)
  rw [← hte] at TG
  rw [Classical.not_not.1 h3] at TG
  have e1 : ¬ (L.items : Int) ≤ (m : Int) := by omega
  have e1b : decide ((L.items : Int) ≤ (m : Int)) = false := decide_eq_false e1
  obtain ⟨x, hx⟩ : ∃ x, t / 32 = x := ⟨_, rfl⟩
  have e3 : (t : Int) / 32 = (x : Int) := by omega
  have e6 : IntKind.u8.wrap (x : Int) = (x : Int) := by simp [IntKind.wrap, IntKind.bits, IntKind.signed]; omega
  have e10 : (p : Int) ≤ 140737488351232 := by omega
  obtain ⟨d, hd⟩ : ∃ d, G.length = d := ⟨_, rfl⟩
  rw [hd]
  have HE := Lib.hid (elS_depth (G := G) hh h2 h3 ⟨hV, h4⟩)
  have hy : x % 2 = 1 := by rw [hwi, decide_eq_true_iff] at hV; omega
  have e4 : (x : Int) % 2 = 1 := by omega
  have e5 : (L.depth : Int) ≤ (d : Int) := by omega
  clear hR hl hz hp hG hGl h0 h2 hm hlm hh ht ht2 hte hwi h3 hx hy hV h4 hd
  go_enter Tryd.func50, Tryd.ntmps50
  go_wp2_with (first
    | (go_at_call 51; refine W.out.mono ?_; rintro e w1 ⟨rfl, HQ1, HB1⟩; obtain ⟨a1, c1, tk1, HR1⟩ := HQ1.out.opn; have g0 := HQ1.out.txt)
    | (go_at_call 37; refine (TG.out _).mono ?_; rintro e wt ⟨rfl, rfl⟩)
    | (go_at_call 52; refine (dfault_ok (by first | exact HQ4.out.drewN _ | exact HQ4.out | exact HQ3.out | exact HQ2.out.drewN _ | exact HQ2.out | exact HQ1.out.drewN _ | exact HQ1.out) _ _ p rfl).mono ?_; rintro e wf ⟨rfl, HRF, HBF⟩)
    | (go_at_call 68; refine (LE.out _ (HQ1.out.drewN _)).mono ?_; rintro e w2 ⟨rfl, HQ2, HB2⟩)
    | (go_at_call 69; refine (AL.out _ HQ2.out).mono ?_; rintro e w3 ⟨rfl, HQ3, HB3⟩; have g3 := HQ3.out.txt)
    | (go_at_call 38; refine (BO.out _).mono ?_; rintro e w4 ⟨rfl, hb4⟩; have HQ4 := Lib.hid (HQ3.out.below hb4); have HB4 : Hid (Below g w3 w4) := hb4.mono (Nat.le_of_lt HQ3.out.lt); clear hb4)
    | (go_at_call 70; refine (IN.out _ HQ2.out).mono ?_; intro e w3 hin))
  have k5 := HR1.out.at0.cell 5 _ rfl
  have k2 := HR1.out.at0.cell 2 _ rfl
  have k1 := HR1.out.at0.cell 1 _ rfl
  rw [HM.out] at k5
  go_quiet (fail)
  go_wp2_with (first
    | (go_at_call 51; refine W.out.mono ?_; rintro e w1 ⟨rfl, HQ1, HB1⟩; obtain ⟨a1, c1, tk1, HR1⟩ := HQ1.out.opn; have g0 := HQ1.out.txt)
    | (go_at_call 37; refine (TG.out _).mono ?_; rintro e wt ⟨rfl, rfl⟩)
    | (go_at_call 52; refine (dfault_ok (by first | exact HQ4.out.drewN _ | exact HQ4.out | exact HQ3.out | exact HQ2.out.drewN _ | exact HQ2.out | exact HQ1.out.drewN _ | exact HQ1.out) _ _ p rfl).mono ?_; rintro e wf ⟨rfl, HRF, HBF⟩)
    | (go_at_call 68; refine (LE.out _ (HQ1.out.drewN _)).mono ?_; rintro e w2 ⟨rfl, HQ2, HB2⟩)
    | (go_at_call 69; refine (AL.out _ HQ2.out).mono ?_; rintro e w3 ⟨rfl, HQ3, HB3⟩; have g3 := HQ3.out.txt)
    | (go_at_call 38; refine (BO.out _).mono ?_; rintro e w4 ⟨rfl, hb4⟩; have HQ4 := Lib.hid (HQ3.out.below hb4); have HB4 : Hid (Below g w3 w4) := hb4.mono (Nat.le_of_lt HQ3.out.lt); clear hb4)
    | (go_at_call 70; refine (IN.out _ HQ2.out).mono ?_; intro e w3 hin))
  go_ret2
  exact DElem.no _ _ _ rfl HRF ((HB1.out.trans (below_drewN _ _ _)).trans HBF.out) HE.out
set_option maxRecDepth 100000 in
set_option maxHeartbeats 1600000 in
theorem delem_len_in (w : World) (g : Nat) (s : ByteArray) (L : Lm) (ro : Int) (O : List Nd) (fr : Nat) (G : List Fr) (l : List Nd) (p : Nat) (z : Int) (hR : Rok w g s L ro O fr) (hl : l.length = O.length) (hz : s.size ≤ 140737488351232) (hp : p ≤ s.size) (hG : EndOf G z) (hGl : G.length ≤ 1000000) (h0 : p < s.size ∧ p < L.bytes) (h2 : ¬ L.items ≤ l.length) (h3 : ¬ tagE (s.toList.getD p 0) ≠ 0) (h4 : ¬ (within (s.toList.getD p 0) = true ∧ L.depth ≤ G.length)) (hV : within (s.toList.getD p 0) = true) {c : Int} {q : Nat} {b : Bool} (h5 : lenR s.toList L (p + 1) = .no c q b) :
    Calls Tryd.prog 50 #[.pointer (some ⟨g, 0, none⟩), .int .i64 (p : Int), .int .i64 (G.length : Int), .int .i64 z] w (DElem s L ro g O fr G l p w) := by
  have W := Lib.hid (dwant_yes hR (p : Int) p rfl h0.1 h0.2 hz)
  have hh := has_yes s L p h0
  obtain ⟨m, hm⟩ : ∃ m, O.length = m := ⟨_, rfl⟩
  have HM := Lib.hid hm
  have hlm : l.length = m := hl.trans hm
  obtain ⟨t, ht⟩ : ∃ t, (s.toList.getD p 0).toNat = t := ⟨_, rfl⟩
  have ht2 : t < 256 := by rw [← ht]; exact (s.toList.getD p 0).toNat_lt
  have hlt : p < s.size := h0.1
  have hsp : (s[p]'hlt).toNat = t := by rw [← tl_getD s p hlt]; exact ht
  obtain ⟨hte, hwi⟩ := tag_nat s p t ht
  have TG := Lib.hid (fun w => rtag_any t ht2 w)
  rw [← hte] at TG
  rw [Classical.not_not.1 h3] at TG
  have e1 : ¬ (L.items : Int) ≤ (m : Int) := by omega
  have e1b : decide ((L.items : Int) ≤ (m : Int)) = false := decide_eq_false e1
  obtain ⟨x, hx⟩ : ∃ x, t / 32 = x := ⟨_, rfl⟩
  have e3 : (t : Int) / 32 = (x : Int) := by omega
  have e6 : IntKind.u8.wrap (x : Int) = (x : Int) := by simp [IntKind.wrap, IntKind.bits, IntKind.signed]; omega
  have e10 : (p : Int) ≤ 140737488351232 := by omega
  obtain ⟨d, hd⟩ : ∃ d, G.length = d := ⟨_, rfl⟩
  rw [hd]
  have HE := Lib.hid (elS_len2 (G := G) hh h2 h3 h4 h5)
  have LE := Lib.hid (fun w' (h' : Rok w' g s L ro O fr) => dlength_any h' ((p : Int) + 1) (p + 1) (by omega) hz (show p + 1 ≤ s.size from h0.1))
  rw [h5] at LE
  have hy : x % 2 = 1 := by rw [hwi, decide_eq_true_iff] at hV; omega
  have e4 : (x : Int) % 2 = 1 := by omega
  have e5 : ¬ (L.depth : Int) ≤ (d : Int) := by have h9 : ¬ L.depth ≤ d := fun h => h4 ⟨hV, by rw [hd]; exact h⟩; omega
  have e5b : decide ((L.depth : Int) ≤ (d : Int)) = false := decide_eq_false e5
  clear hR hl hz hp hG hGl h0 h2 hm hlm hh ht ht2 hte hwi h3 hx hy hV h4 hd h5
  go_enter Tryd.func50, Tryd.ntmps50
  go_wp2_with (first
    | (go_at_call 51; refine W.out.mono ?_; rintro e w1 ⟨rfl, HQ1, HB1⟩; obtain ⟨a1, c1, tk1, HR1⟩ := HQ1.out.opn; have g0 := HQ1.out.txt)
    | (go_at_call 37; refine (TG.out _).mono ?_; rintro e wt ⟨rfl, rfl⟩)
    | (go_at_call 52; refine (dfault_ok (by first | exact HQ4.out.drewN _ | exact HQ4.out | exact HQ3.out | exact HQ2.out.drewN _ | exact HQ2.out | exact HQ1.out.drewN _ | exact HQ1.out) _ _ p rfl).mono ?_; rintro e wf ⟨rfl, HRF, HBF⟩)
    | (go_at_call 68; refine (LE.out _ (HQ1.out.drewN _)).mono ?_; rintro e w2 ⟨rfl, HQ2, HB2⟩)
    | (go_at_call 69; refine (AL.out _ HQ2.out).mono ?_; rintro e w3 ⟨rfl, HQ3, HB3⟩; have g3 := HQ3.out.txt)
    | (go_at_call 38; refine (BO.out _).mono ?_; rintro e w4 ⟨rfl, hb4⟩; have HQ4 := Lib.hid (HQ3.out.below hb4); have HB4 : Hid (Below g w3 w4) := hb4.mono (Nat.le_of_lt HQ3.out.lt); clear hb4)
    | (go_at_call 70; refine (IN.out _ HQ2.out).mono ?_; intro e w3 hin))
  have k5 := HR1.out.at0.cell 5 _ rfl
  have k2 := HR1.out.at0.cell 2 _ rfl
  have k1 := HR1.out.at0.cell 1 _ rfl
  rw [HM.out] at k5
  go_quiet (fail)
  go_wp2_with (first
    | (go_at_call 51; refine W.out.mono ?_; rintro e w1 ⟨rfl, HQ1, HB1⟩; obtain ⟨a1, c1, tk1, HR1⟩ := HQ1.out.opn; have g0 := HQ1.out.txt)
    | (go_at_call 37; refine (TG.out _).mono ?_; rintro e wt ⟨rfl, rfl⟩)
    | (go_at_call 52; refine (dfault_ok (by first | exact HQ4.out.drewN _ | exact HQ4.out | exact HQ3.out | exact HQ2.out.drewN _ | exact HQ2.out | exact HQ1.out.drewN _ | exact HQ1.out) _ _ p rfl).mono ?_; rintro e wf ⟨rfl, HRF, HBF⟩)
    | (go_at_call 68; refine (LE.out _ (HQ1.out.drewN _)).mono ?_; rintro e w2 ⟨rfl, HQ2, HB2⟩)
    | (go_at_call 69; refine (AL.out _ HQ2.out).mono ?_; rintro e w3 ⟨rfl, HQ3, HB3⟩; have g3 := HQ3.out.txt)
    | (go_at_call 38; refine (BO.out _).mono ?_; rintro e w4 ⟨rfl, hb4⟩; have HQ4 := Lib.hid (HQ3.out.below hb4); have HB4 : Hid (Below g w3 w4) := hb4.mono (Nat.le_of_lt HQ3.out.lt); clear hb4)
    | (go_at_call 70; refine (IN.out _ HQ2.out).mono ?_; intro e w3 hin))
  go_ret2
  exact DElem.no _ _ _ rfl HQ2 ((HB1.out.trans (below_drewN _ _ _)).trans HB2.out) HE.out
set_option maxRecDepth 100000 in
set_option maxHeartbeats 1600000 in
theorem delem_len_out (w : World) (g : Nat) (s : ByteArray) (L : Lm) (ro : Int) (O : List Nd) (fr : Nat) (G : List Fr) (l : List Nd) (p : Nat) (z : Int) (hR : Rok w g s L ro O fr) (hl : l.length = O.length) (hz : s.size ≤ 140737488351232) (hp : p ≤ s.size) (hG : EndOf G z) (hGl : G.length ≤ 1000000) (h0 : p < s.size ∧ p < L.bytes) (h2 : ¬ L.items ≤ l.length) (h3 : ¬ tagE (s.toList.getD p 0) ≠ 0) (h4 : ¬ (within (s.toList.getD p 0) = true ∧ L.depth ≤ G.length)) (hV : ¬ within (s.toList.getD p 0) = true) {c : Int} {q : Nat} {b : Bool} (h5 : lenR s.toList L (p + 1) = .no c q b) :
    Calls Tryd.prog 50 #[.pointer (some ⟨g, 0, none⟩), .int .i64 (p : Int), .int .i64 (G.length : Int), .int .i64 z] w (DElem s L ro g O fr G l p w) := by
  have W := Lib.hid (dwant_yes hR (p : Int) p rfl h0.1 h0.2 hz)
  have hh := has_yes s L p h0
  obtain ⟨m, hm⟩ : ∃ m, O.length = m := ⟨_, rfl⟩
  have HM := Lib.hid hm
  have hlm : l.length = m := hl.trans hm
  obtain ⟨t, ht⟩ : ∃ t, (s.toList.getD p 0).toNat = t := ⟨_, rfl⟩
  have ht2 : t < 256 := by rw [← ht]; exact (s.toList.getD p 0).toNat_lt
  have hlt : p < s.size := h0.1
  have hsp : (s[p]'hlt).toNat = t := by rw [← tl_getD s p hlt]; exact ht
  obtain ⟨hte, hwi⟩ := tag_nat s p t ht
  have TG := Lib.hid (fun w => rtag_any t ht2 w)
  rw [← hte] at TG
  rw [Classical.not_not.1 h3] at TG
  have e1 : ¬ (L.items : Int) ≤ (m : Int) := by omega
  have e1b : decide ((L.items : Int) ≤ (m : Int)) = false := decide_eq_false e1
  obtain ⟨x, hx⟩ : ∃ x, t / 32 = x := ⟨_, rfl⟩
  have e3 : (t : Int) / 32 = (x : Int) := by omega
  have e6 : IntKind.u8.wrap (x : Int) = (x : Int) := by simp [IntKind.wrap, IntKind.bits, IntKind.signed]; omega
  have e10 : (p : Int) ≤ 140737488351232 := by omega
  obtain ⟨d, hd⟩ : ∃ d, G.length = d := ⟨_, rfl⟩
  rw [hd]
  have HE := Lib.hid (elS_len2 (G := G) hh h2 h3 h4 h5)
  have LE := Lib.hid (fun w' (h' : Rok w' g s L ro O fr) => dlength_any h' ((p : Int) + 1) (p + 1) (by omega) hz (show p + 1 ≤ s.size from h0.1))
  rw [h5] at LE
  have hy : x % 2 = 0 := by rw [hwi, decide_eq_true_iff] at hV; omega
  have e4 : (x : Int) % 2 = 0 := by omega
  clear hR hl hz hp hG hGl h0 h2 hm hlm hh ht ht2 hte hwi h3 hx hy hV h4 hd h5
  go_enter Tryd.func50, Tryd.ntmps50
  go_wp2_with (first
    | (go_at_call 51; refine W.out.mono ?_; rintro e w1 ⟨rfl, HQ1, HB1⟩; obtain ⟨a1, c1, tk1, HR1⟩ := HQ1.out.opn; have g0 := HQ1.out.txt)
    | (go_at_call 37; refine (TG.out _).mono ?_; rintro e wt ⟨rfl, rfl⟩)
    | (go_at_call 52; refine (dfault_ok (by first | exact HQ4.out.drewN _ | exact HQ4.out | exact HQ3.out | exact HQ2.out.drewN _ | exact HQ2.out | exact HQ1.out.drewN _ | exact HQ1.out) _ _ p rfl).mono ?_; rintro e wf ⟨rfl, HRF, HBF⟩)
    | (go_at_call 68; refine (LE.out _ (HQ1.out.drewN _)).mono ?_; rintro e w2 ⟨rfl, HQ2, HB2⟩)
    | (go_at_call 69; refine (AL.out _ HQ2.out).mono ?_; rintro e w3 ⟨rfl, HQ3, HB3⟩; have g3 := HQ3.out.txt)
    | (go_at_call 38; refine (BO.out _).mono ?_; rintro e w4 ⟨rfl, hb4⟩; have HQ4 := Lib.hid (HQ3.out.below hb4); have HB4 : Hid (Below g w3 w4) := hb4.mono (Nat.le_of_lt HQ3.out.lt); clear hb4)
    | (go_at_call 70; refine (IN.out _ HQ2.out).mono ?_; intro e w3 hin))
  have k5 := HR1.out.at0.cell 5 _ rfl
  have k2 := HR1.out.at0.cell 2 _ rfl
  have k1 := HR1.out.at0.cell 1 _ rfl
  rw [HM.out] at k5
  go_quiet (fail)
  go_wp2_with (first
    | (go_at_call 51; refine W.out.mono ?_; rintro e w1 ⟨rfl, HQ1, HB1⟩; obtain ⟨a1, c1, tk1, HR1⟩ := HQ1.out.opn; have g0 := HQ1.out.txt)
    | (go_at_call 37; refine (TG.out _).mono ?_; rintro e wt ⟨rfl, rfl⟩)
    | (go_at_call 52; refine (dfault_ok (by first | exact HQ4.out.drewN _ | exact HQ4.out | exact HQ3.out | exact HQ2.out.drewN _ | exact HQ2.out | exact HQ1.out.drewN _ | exact HQ1.out) _ _ p rfl).mono ?_; rintro e wf ⟨rfl, HRF, HBF⟩)
    | (go_at_call 68; refine (LE.out _ (HQ1.out.drewN _)).mono ?_; rintro e w2 ⟨rfl, HQ2, HB2⟩)
    | (go_at_call 69; refine (AL.out _ HQ2.out).mono ?_; rintro e w3 ⟨rfl, HQ3, HB3⟩; have g3 := HQ3.out.txt)
    | (go_at_call 38; refine (BO.out _).mono ?_; rintro e w4 ⟨rfl, hb4⟩; have HQ4 := Lib.hid (HQ3.out.below hb4); have HB4 : Hid (Below g w3 w4) := hb4.mono (Nat.le_of_lt HQ3.out.lt); clear hb4)
    | (go_at_call 70; refine (IN.out _ HQ2.out).mono ?_; intro e w3 hin))
  go_ret2
  exact DElem.no _ _ _ rfl HQ2 ((HB1.out.trans (below_drewN _ _ _)).trans HB2.out) HE.out
set_option maxRecDepth 100000 in
set_option maxHeartbeats 1600000 in
theorem delem_end_in (w : World) (g : Nat) (s : ByteArray) (L : Lm) (ro : Int) (O : List Nd) (fr : Nat) (G : List Fr) (l : List Nd) (p : Nat) (z : Int) (hR : Rok w g s L ro O fr) (hl : l.length = O.length) (hz : s.size ≤ 140737488351232) (hp : p ≤ s.size) (hG : EndOf G z) (hGl : G.length ≤ 1000000) (h0 : p < s.size ∧ p < L.bytes) (h2 : ¬ L.items ≤ l.length) (h3 : ¬ tagE (s.toList.getD p 0) ≠ 0) (h4 : ¬ (within (s.toList.getD p 0) = true ∧ L.depth ≤ G.length)) (hV : within (s.toList.getD p 0) = true) {n q : Nat} (h5 : lenR s.toList L (p + 1) = .ok (n, q)) (h6 : (G.head?.any fun f => decide (f.e < q + n)) = true) :
    Calls Tryd.prog 50 #[.pointer (some ⟨g, 0, none⟩), .int .i64 (p : Int), .int .i64 (G.length : Int), .int .i64 z] w (DElem s L ro g O fr G l p w) := by
  have W := Lib.hid (dwant_yes hR (p : Int) p rfl h0.1 h0.2 hz)
  have hh := has_yes s L p h0
  obtain ⟨m, hm⟩ : ∃ m, O.length = m := ⟨_, rfl⟩
  have HM := Lib.hid hm
  have hlm : l.length = m := hl.trans hm
  obtain ⟨t, ht⟩ : ∃ t, (s.toList.getD p 0).toNat = t := ⟨_, rfl⟩
  have ht2 : t < 256 := by rw [← ht]; exact (s.toList.getD p 0).toNat_lt
  have hlt : p < s.size := h0.1
  have hsp : (s[p]'hlt).toNat = t := by rw [← tl_getD s p hlt]; exact ht
  obtain ⟨hte, hwi⟩ := tag_nat s p t ht
  have TG := Lib.hid (fun w => rtag_any t ht2 w)
  rw [← hte] at TG
  rw [Classical.not_not.1 h3] at TG
  have e1 : ¬ (L.items : Int) ≤ (m : Int) := by omega
  have e1b : decide ((L.items : Int) ≤ (m : Int)) = false := decide_eq_false e1
  obtain ⟨x, hx⟩ : ∃ x, t / 32 = x := ⟨_, rfl⟩
  have e3 : (t : Int) / 32 = (x : Int) := by omega
  have e6 : IntKind.u8.wrap (x : Int) = (x : Int) := by simp [IntKind.wrap, IntKind.bits, IntKind.signed]; omega
  have e10 : (p : Int) ≤ 140737488351232 := by omega
  obtain ⟨d, hd⟩ : ∃ d, G.length = d := ⟨_, rfl⟩
  rw [hd]
  have HE := Lib.hid (elS_end (G := G) hh h2 h3 h4 h5 h6)
  have LE := Lib.hid (fun w' (h' : Rok w' g s L ro O fr) => dlength_any h' ((p : Int) + 1) (p + 1) (by omega) hz (show p + 1 ≤ s.size from h0.1))
  rw [h5] at LE
  have hpl := lenR_pl h5
  rw [tl_size] at hpl
  obtain ⟨v, hv⟩ : ∃ v, q + n = v := ⟨_, rfl⟩
  have e7 : (q : Int) + (n : Int) = (v : Int) := by omega
  have e8 : IntKind.i64.wrap (v : Int) = (v : Int) := wrap_fit v (by unfold maxLen; omega)
  obtain ⟨f, G2, rfl, rfl⟩ : ∃ f G', G = f :: G' ∧ z = (f.e : Int) := by
    rcases hG with ⟨rfl, _⟩ | h
    · exact absurd h6 (by simp)
    · exact h
  have hfe : f.e < q + n := by simpa using h6
  have e9 : (f.e : Int) < (v : Int) := by omega
  have e9b : (0 : Int) ≤ (f.e : Int) := by omega
  have hy : x % 2 = 1 := by rw [hwi, decide_eq_true_iff] at hV; omega
  have e4 : (x : Int) % 2 = 1 := by omega
  have e5 : ¬ (L.depth : Int) ≤ (d : Int) := by have h9 : ¬ L.depth ≤ d := fun h => h4 ⟨hV, by rw [hd]; exact h⟩; omega
  have e5b : decide ((L.depth : Int) ≤ (d : Int)) = false := decide_eq_false e5
  clear hR hl hz hp hGl h0 h2 hm hlm hh ht ht2 hte hwi h3 hx hy hV h4 hd h5 h6 hfe hpl hv
  go_enter Tryd.func50, Tryd.ntmps50
  go_wp2_with (first
    | (go_at_call 51; refine W.out.mono ?_; rintro e w1 ⟨rfl, HQ1, HB1⟩; obtain ⟨a1, c1, tk1, HR1⟩ := HQ1.out.opn; have g0 := HQ1.out.txt)
    | (go_at_call 37; refine (TG.out _).mono ?_; rintro e wt ⟨rfl, rfl⟩)
    | (go_at_call 52; refine (dfault_ok (by first | exact HQ4.out.drewN _ | exact HQ4.out | exact HQ3.out | exact HQ2.out.drewN _ | exact HQ2.out | exact HQ1.out.drewN _ | exact HQ1.out) _ _ p rfl).mono ?_; rintro e wf ⟨rfl, HRF, HBF⟩)
    | (go_at_call 68; refine (LE.out _ (HQ1.out.drewN _)).mono ?_; rintro e w2 ⟨rfl, HQ2, HB2⟩)
    | (go_at_call 69; refine (AL.out _ HQ2.out).mono ?_; rintro e w3 ⟨rfl, HQ3, HB3⟩; have g3 := HQ3.out.txt)
    | (go_at_call 38; refine (BO.out _).mono ?_; rintro e w4 ⟨rfl, hb4⟩; have HQ4 := Lib.hid (HQ3.out.below hb4); have HB4 : Hid (Below g w3 w4) := hb4.mono (Nat.le_of_lt HQ3.out.lt); clear hb4)
    | (go_at_call 70; refine (IN.out _ HQ2.out).mono ?_; intro e w3 hin))
  have k5 := HR1.out.at0.cell 5 _ rfl
  have k2 := HR1.out.at0.cell 2 _ rfl
  have k1 := HR1.out.at0.cell 1 _ rfl
  rw [HM.out] at k5
  go_quiet (fail)
  go_wp2_with (first
    | (go_at_call 51; refine W.out.mono ?_; rintro e w1 ⟨rfl, HQ1, HB1⟩; obtain ⟨a1, c1, tk1, HR1⟩ := HQ1.out.opn; have g0 := HQ1.out.txt)
    | (go_at_call 37; refine (TG.out _).mono ?_; rintro e wt ⟨rfl, rfl⟩)
    | (go_at_call 52; refine (dfault_ok (by first | exact HQ4.out.drewN _ | exact HQ4.out | exact HQ3.out | exact HQ2.out.drewN _ | exact HQ2.out | exact HQ1.out.drewN _ | exact HQ1.out) _ _ p rfl).mono ?_; rintro e wf ⟨rfl, HRF, HBF⟩)
    | (go_at_call 68; refine (LE.out _ (HQ1.out.drewN _)).mono ?_; rintro e w2 ⟨rfl, HQ2, HB2⟩)
    | (go_at_call 69; refine (AL.out _ HQ2.out).mono ?_; rintro e w3 ⟨rfl, HQ3, HB3⟩; have g3 := HQ3.out.txt)
    | (go_at_call 38; refine (BO.out _).mono ?_; rintro e w4 ⟨rfl, hb4⟩; have HQ4 := Lib.hid (HQ3.out.below hb4); have HB4 : Hid (Below g w3 w4) := hb4.mono (Nat.le_of_lt HQ3.out.lt); clear hb4)
    | (go_at_call 70; refine (IN.out _ HQ2.out).mono ?_; intro e w3 hin))
  go_ret2
  exact DElem.no _ _ _ rfl HRF (((HB1.out.trans (below_drewN _ _ _)).trans HB2.out).trans HBF.out) HE.out
set_option maxRecDepth 100000 in
set_option maxHeartbeats 1600000 in
theorem delem_end_out (w : World) (g : Nat) (s : ByteArray) (L : Lm) (ro : Int) (O : List Nd) (fr : Nat) (G : List Fr) (l : List Nd) (p : Nat) (z : Int) (hR : Rok w g s L ro O fr) (hl : l.length = O.length) (hz : s.size ≤ 140737488351232) (hp : p ≤ s.size) (hG : EndOf G z) (hGl : G.length ≤ 1000000) (h0 : p < s.size ∧ p < L.bytes) (h2 : ¬ L.items ≤ l.length) (h3 : ¬ tagE (s.toList.getD p 0) ≠ 0) (h4 : ¬ (within (s.toList.getD p 0) = true ∧ L.depth ≤ G.length)) (hV : ¬ within (s.toList.getD p 0) = true) {n q : Nat} (h5 : lenR s.toList L (p + 1) = .ok (n, q)) (h6 : (G.head?.any fun f => decide (f.e < q + n)) = true) :
    Calls Tryd.prog 50 #[.pointer (some ⟨g, 0, none⟩), .int .i64 (p : Int), .int .i64 (G.length : Int), .int .i64 z] w (DElem s L ro g O fr G l p w) := by
  have W := Lib.hid (dwant_yes hR (p : Int) p rfl h0.1 h0.2 hz)
  have hh := has_yes s L p h0
  obtain ⟨m, hm⟩ : ∃ m, O.length = m := ⟨_, rfl⟩
  have HM := Lib.hid hm
  have hlm : l.length = m := hl.trans hm
  obtain ⟨t, ht⟩ : ∃ t, (s.toList.getD p 0).toNat = t := ⟨_, rfl⟩
  have ht2 : t < 256 := by rw [← ht]; exact (s.toList.getD p 0).toNat_lt
  have hlt : p < s.size := h0.1
  have hsp : (s[p]'hlt).toNat = t := by rw [← tl_getD s p hlt]; exact ht
  obtain ⟨hte, hwi⟩ := tag_nat s p t ht
  have TG := Lib.hid (fun w => rtag_any t ht2 w)
  rw [← hte] at TG
  rw [Classical.not_not.1 h3] at TG
  have e1 : ¬ (L.items : Int) ≤ (m : Int) := by omega
  have e1b : decide ((L.items : Int) ≤ (m : Int)) = false := decide_eq_false e1
  obtain ⟨x, hx⟩ : ∃ x, t / 32 = x := ⟨_, rfl⟩
  have e3 : (t : Int) / 32 = (x : Int) := by omega
  have e6 : IntKind.u8.wrap (x : Int) = (x : Int) := by simp [IntKind.wrap, IntKind.bits, IntKind.signed]; omega
  have e10 : (p : Int) ≤ 140737488351232 := by omega
  obtain ⟨d, hd⟩ : ∃ d, G.length = d := ⟨_, rfl⟩
  rw [hd]
  have HE := Lib.hid (elS_end (G := G) hh h2 h3 h4 h5 h6)
  have LE := Lib.hid (fun w' (h' : Rok w' g s L ro O fr) => dlength_any h' ((p : Int) + 1) (p + 1) (by omega) hz (show p + 1 ≤ s.size from h0.1))
  rw [h5] at LE
  have hpl := lenR_pl h5
  rw [tl_size] at hpl
  obtain ⟨v, hv⟩ : ∃ v, q + n = v := ⟨_, rfl⟩
  have e7 : (q : Int) + (n : Int) = (v : Int) := by omega
  have e8 : IntKind.i64.wrap (v : Int) = (v : Int) := wrap_fit v (by unfold maxLen; omega)
  obtain ⟨f, G2, rfl, rfl⟩ : ∃ f G', G = f :: G' ∧ z = (f.e : Int) := by
    rcases hG with ⟨rfl, _⟩ | h
    · exact absurd h6 (by simp)
    · exact h
  have hfe : f.e < q + n := by simpa using h6
  have e9 : (f.e : Int) < (v : Int) := by omega
  have e9b : (0 : Int) ≤ (f.e : Int) := by omega
  have hy : x % 2 = 0 := by rw [hwi, decide_eq_true_iff] at hV; omega
  have e4 : (x : Int) % 2 = 0 := by omega
  clear hR hl hz hp hGl h0 h2 hm hlm hh ht ht2 hte hwi h3 hx hy hV h4 hd h5 h6 hfe hpl hv
  go_enter Tryd.func50, Tryd.ntmps50
  go_wp2_with (first
    | (go_at_call 51; refine W.out.mono ?_; rintro e w1 ⟨rfl, HQ1, HB1⟩; obtain ⟨a1, c1, tk1, HR1⟩ := HQ1.out.opn; have g0 := HQ1.out.txt)
    | (go_at_call 37; refine (TG.out _).mono ?_; rintro e wt ⟨rfl, rfl⟩)
    | (go_at_call 52; refine (dfault_ok (by first | exact HQ4.out.drewN _ | exact HQ4.out | exact HQ3.out | exact HQ2.out.drewN _ | exact HQ2.out | exact HQ1.out.drewN _ | exact HQ1.out) _ _ p rfl).mono ?_; rintro e wf ⟨rfl, HRF, HBF⟩)
    | (go_at_call 68; refine (LE.out _ (HQ1.out.drewN _)).mono ?_; rintro e w2 ⟨rfl, HQ2, HB2⟩)
    | (go_at_call 69; refine (AL.out _ HQ2.out).mono ?_; rintro e w3 ⟨rfl, HQ3, HB3⟩; have g3 := HQ3.out.txt)
    | (go_at_call 38; refine (BO.out _).mono ?_; rintro e w4 ⟨rfl, hb4⟩; have HQ4 := Lib.hid (HQ3.out.below hb4); have HB4 : Hid (Below g w3 w4) := hb4.mono (Nat.le_of_lt HQ3.out.lt); clear hb4)
    | (go_at_call 70; refine (IN.out _ HQ2.out).mono ?_; intro e w3 hin))
  have k5 := HR1.out.at0.cell 5 _ rfl
  have k2 := HR1.out.at0.cell 2 _ rfl
  have k1 := HR1.out.at0.cell 1 _ rfl
  rw [HM.out] at k5
  go_quiet (fail)
  go_wp2_with (first
    | (go_at_call 51; refine W.out.mono ?_; rintro e w1 ⟨rfl, HQ1, HB1⟩; obtain ⟨a1, c1, tk1, HR1⟩ := HQ1.out.opn; have g0 := HQ1.out.txt)
    | (go_at_call 37; refine (TG.out _).mono ?_; rintro e wt ⟨rfl, rfl⟩)
    | (go_at_call 52; refine (dfault_ok (by first | exact HQ4.out.drewN _ | exact HQ4.out | exact HQ3.out | exact HQ2.out.drewN _ | exact HQ2.out | exact HQ1.out.drewN _ | exact HQ1.out) _ _ p rfl).mono ?_; rintro e wf ⟨rfl, HRF, HBF⟩)
    | (go_at_call 68; refine (LE.out _ (HQ1.out.drewN _)).mono ?_; rintro e w2 ⟨rfl, HQ2, HB2⟩)
    | (go_at_call 69; refine (AL.out _ HQ2.out).mono ?_; rintro e w3 ⟨rfl, HQ3, HB3⟩; have g3 := HQ3.out.txt)
    | (go_at_call 38; refine (BO.out _).mono ?_; rintro e w4 ⟨rfl, hb4⟩; have HQ4 := Lib.hid (HQ3.out.below hb4); have HB4 : Hid (Below g w3 w4) := hb4.mono (Nat.le_of_lt HQ3.out.lt); clear hb4)
    | (go_at_call 70; refine (IN.out _ HQ2.out).mono ?_; intro e w3 hin))
  go_ret2
  exact DElem.no _ _ _ rfl HRF (((HB1.out.trans (below_drewN _ _ _)).trans HB2.out).trans HBF.out) HE.out
set_option maxRecDepth 100000 in
set_option maxHeartbeats 1600000 in
theorem delem_skipn (w : World) (g : Nat) (s : ByteArray) (L : Lm) (ro : Int) (O : List Nd) (fr : Nat) (G : List Fr) (l : List Nd) (p : Nat) (z : Int) (hR : Rok w g s L ro O fr) (hl : l.length = O.length) (hz : s.size ≤ 140737488351232) (hp : p ≤ s.size) (hG : EndOf G z) (hGl : G.length ≤ 1000000) (h0 : p < s.size ∧ p < L.bytes) (h2 : ¬ L.items ≤ l.length) (h3 : ¬ tagE (s.toList.getD p 0) ≠ 0) (h4 : ¬ (within (s.toList.getD p 0) = true ∧ L.depth ≤ G.length)) (hV : ¬ within (s.toList.getD p 0) = true) {n q : Nat} (h5 : lenR s.toList L (p + 1) = .ok (n, q)) (h6 : ¬ (G.head?.any fun f => decide (f.e < q + n)) = true) (hgn : G = []) (h8 : n ≠ 0 ∧ has s.toList L (q + n - 1) = false) :
    Calls Tryd.prog 50 #[.pointer (some ⟨g, 0, none⟩), .int .i64 (p : Int), .int .i64 (G.length : Int), .int .i64 z] w (DElem s L ro g O fr G l p w) := by
  have W := Lib.hid (dwant_yes hR (p : Int) p rfl h0.1 h0.2 hz)
  have hh := has_yes s L p h0
  obtain ⟨m, hm⟩ : ∃ m, O.length = m := ⟨_, rfl⟩
  have HM := Lib.hid hm
  have hlm : l.length = m := hl.trans hm
  obtain ⟨t, ht⟩ : ∃ t, (s.toList.getD p 0).toNat = t := ⟨_, rfl⟩
  have ht2 : t < 256 := by rw [← ht]; exact (s.toList.getD p 0).toNat_lt
  have hlt : p < s.size := h0.1
  have hsp : (s[p]'hlt).toNat = t := by rw [← tl_getD s p hlt]; exact ht
  obtain ⟨hte, hwi⟩ := tag_nat s p t ht
  have TG := Lib.hid (fun w => rtag_any t ht2 w)
  rw [← hte] at TG
  rw [Classical.not_not.1 h3] at TG
  have e1 : ¬ (L.items : Int) ≤ (m : Int) := by omega
  have e1b : decide ((L.items : Int) ≤ (m : Int)) = false := decide_eq_false e1
  obtain ⟨x, hx⟩ : ∃ x, t / 32 = x := ⟨_, rfl⟩
  have e3 : (t : Int) / 32 = (x : Int) := by omega
  have e6 : IntKind.u8.wrap (x : Int) = (x : Int) := by simp [IntKind.wrap, IntKind.bits, IntKind.signed]; omega
  have e10 : (p : Int) ≤ 140737488351232 := by omega
  obtain ⟨d, hd⟩ : ∃ d, G.length = d := ⟨_, rfl⟩
  rw [hd]
  have HE := Lib.hid (elS_skip (G := G) hh h2 h3 h4 h5 h6 hV h8)
  have LE := Lib.hid (fun w' (h' : Rok w' g s L ro O fr) => dlength_any h' ((p : Int) + 1) (p + 1) (by omega) hz (show p + 1 ≤ s.size from h0.1))
  rw [h5] at LE
  have hpl := lenR_pl h5
  rw [tl_size] at hpl
  obtain ⟨v, hv⟩ : ∃ v, q + n = v := ⟨_, rfl⟩
  have e7 : (q : Int) + (n : Int) = (v : Int) := by omega
  have e8 : IntKind.i64.wrap (v : Int) = (v : Int) := wrap_fit v (by unfold maxLen; omega)
  have hn9 : n < 4294967296 := hpl.2.2
  have AL := Lib.hid (fun w' (h' : Rok w' g s L ro O fr) => dall_any h' q n hz (by omega) (by omega) _ rfl)
  rw [show decide (¬ (n ≠ 0 ∧ has s.toList L (q + n - 1) = false)) = false from decide_eq_false (fun h => h h8)] at AL
  obtain rfl := hgn
  obtain rfl : z = -1 := by rcases hG with ⟨_, h⟩ | ⟨f, G', h, _⟩; exact h; cases h
  have hy : x % 2 = 0 := by rw [hwi, decide_eq_true_iff] at hV; omega
  have e4 : (x : Int) % 2 = 0 := by omega
  clear hR hl hz hp hG hGl h0 h2 hm hlm hh ht ht2 hte hwi h3 hx hy hV h4 hd h5 h6 hpl hv h8 hn9
  go_enter Tryd.func50, Tryd.ntmps50
  go_wp2_with (first
    | (go_at_call 51; refine W.out.mono ?_; rintro e w1 ⟨rfl, HQ1, HB1⟩; obtain ⟨a1, c1, tk1, HR1⟩ := HQ1.out.opn; have g0 := HQ1.out.txt)
    | (go_at_call 37; refine (TG.out _).mono ?_; rintro e wt ⟨rfl, rfl⟩)
    | (go_at_call 52; refine (dfault_ok (by first | exact HQ4.out.drewN _ | exact HQ4.out | exact HQ3.out | exact HQ2.out.drewN _ | exact HQ2.out | exact HQ1.out.drewN _ | exact HQ1.out) _ _ p rfl).mono ?_; rintro e wf ⟨rfl, HRF, HBF⟩)
    | (go_at_call 68; refine (LE.out _ (HQ1.out.drewN _)).mono ?_; rintro e w2 ⟨rfl, HQ2, HB2⟩)
    | (go_at_call 69; refine (AL.out _ HQ2.out).mono ?_; rintro e w3 ⟨rfl, HQ3, HB3⟩; have g3 := HQ3.out.txt)
    | (go_at_call 38; refine (BO.out _).mono ?_; rintro e w4 ⟨rfl, hb4⟩; have HQ4 := Lib.hid (HQ3.out.below hb4); have HB4 : Hid (Below g w3 w4) := hb4.mono (Nat.le_of_lt HQ3.out.lt); clear hb4)
    | (go_at_call 70; refine (IN.out _ HQ2.out).mono ?_; intro e w3 hin))
  have k5 := HR1.out.at0.cell 5 _ rfl
  have k2 := HR1.out.at0.cell 2 _ rfl
  have k1 := HR1.out.at0.cell 1 _ rfl
  rw [HM.out] at k5
  go_quiet (fail)
  go_wp2_with (first
    | (go_at_call 51; refine W.out.mono ?_; rintro e w1 ⟨rfl, HQ1, HB1⟩; obtain ⟨a1, c1, tk1, HR1⟩ := HQ1.out.opn; have g0 := HQ1.out.txt)
    | (go_at_call 37; refine (TG.out _).mono ?_; rintro e wt ⟨rfl, rfl⟩)
    | (go_at_call 52; refine (dfault_ok (by first | exact HQ4.out.drewN _ | exact HQ4.out | exact HQ3.out | exact HQ2.out.drewN _ | exact HQ2.out | exact HQ1.out.drewN _ | exact HQ1.out) _ _ p rfl).mono ?_; rintro e wf ⟨rfl, HRF, HBF⟩)
    | (go_at_call 68; refine (LE.out _ (HQ1.out.drewN _)).mono ?_; rintro e w2 ⟨rfl, HQ2, HB2⟩)
    | (go_at_call 69; refine (AL.out _ HQ2.out).mono ?_; rintro e w3 ⟨rfl, HQ3, HB3⟩)
    | (go_at_call 38; refine (BO.out _).mono ?_; rintro e w4 ⟨rfl, hb4⟩; have HQ4 := Lib.hid (HQ3.out.below hb4); have HB4 : Hid (Below g w3 w4) := hb4.mono (Nat.le_of_lt HQ3.out.lt); clear hb4)
    | (go_at_call 70; refine (IN.out _ HQ2.out).mono ?_; intro e w3 hin))
  go_ret2
  exact DElem.no _ _ _ rfl HQ3 (((HB1.out.trans (below_drewN _ _ _)).trans HB2.out).trans HB3.out) HE.out
set_option maxRecDepth 100000 in
set_option maxHeartbeats 1600000 in
theorem delem_skipc (w : World) (g : Nat) (s : ByteArray) (L : Lm) (ro : Int) (O : List Nd) (fr : Nat) (G : List Fr) (l : List Nd) (p : Nat) (z : Int) (hR : Rok w g s L ro O fr) (hl : l.length = O.length) (hz : s.size ≤ 140737488351232) (hp : p ≤ s.size) (hG : EndOf G z) (hGl : G.length ≤ 1000000) (h0 : p < s.size ∧ p < L.bytes) (h2 : ¬ L.items ≤ l.length) (h3 : ¬ tagE (s.toList.getD p 0) ≠ 0) (h4 : ¬ (within (s.toList.getD p 0) = true ∧ L.depth ≤ G.length)) (hV : ¬ within (s.toList.getD p 0) = true) {n q : Nat} (h5 : lenR s.toList L (p + 1) = .ok (n, q)) (h6 : ¬ (G.head?.any fun f => decide (f.e < q + n)) = true) (hgn : ∃ f G2, G = f :: G2) (h8 : n ≠ 0 ∧ has s.toList L (q + n - 1) = false) :
    Calls Tryd.prog 50 #[.pointer (some ⟨g, 0, none⟩), .int .i64 (p : Int), .int .i64 (G.length : Int), .int .i64 z] w (DElem s L ro g O fr G l p w) := by
  have W := Lib.hid (dwant_yes hR (p : Int) p rfl h0.1 h0.2 hz)
  have hh := has_yes s L p h0
  obtain ⟨m, hm⟩ : ∃ m, O.length = m := ⟨_, rfl⟩
  have HM := Lib.hid hm
  have hlm : l.length = m := hl.trans hm
  obtain ⟨t, ht⟩ : ∃ t, (s.toList.getD p 0).toNat = t := ⟨_, rfl⟩
  have ht2 : t < 256 := by rw [← ht]; exact (s.toList.getD p 0).toNat_lt
  have hlt : p < s.size := h0.1
  have hsp : (s[p]'hlt).toNat = t := by rw [← tl_getD s p hlt]; exact ht
  obtain ⟨hte, hwi⟩ := tag_nat s p t ht
  have TG := Lib.hid (fun w => rtag_any t ht2 w)
  rw [← hte] at TG
  rw [Classical.not_not.1 h3] at TG
  have e1 : ¬ (L.items : Int) ≤ (m : Int) := by omega
  have e1b : decide ((L.items : Int) ≤ (m : Int)) = false := decide_eq_false e1
  obtain ⟨x, hx⟩ : ∃ x, t / 32 = x := ⟨_, rfl⟩
  have e3 : (t : Int) / 32 = (x : Int) := by omega
  have e6 : IntKind.u8.wrap (x : Int) = (x : Int) := by simp [IntKind.wrap, IntKind.bits, IntKind.signed]; omega
  have e10 : (p : Int) ≤ 140737488351232 := by omega
  obtain ⟨d, hd⟩ : ∃ d, G.length = d := ⟨_, rfl⟩
  rw [hd]
  have HE := Lib.hid (elS_skip (G := G) hh h2 h3 h4 h5 h6 hV h8)
  have LE := Lib.hid (fun w' (h' : Rok w' g s L ro O fr) => dlength_any h' ((p : Int) + 1) (p + 1) (by omega) hz (show p + 1 ≤ s.size from h0.1))
  rw [h5] at LE
  have hpl := lenR_pl h5
  rw [tl_size] at hpl
  obtain ⟨v, hv⟩ : ∃ v, q + n = v := ⟨_, rfl⟩
  have e7 : (q : Int) + (n : Int) = (v : Int) := by omega
  have e8 : IntKind.i64.wrap (v : Int) = (v : Int) := wrap_fit v (by unfold maxLen; omega)
  have hn9 : n < 4294967296 := hpl.2.2
  have AL := Lib.hid (fun w' (h' : Rok w' g s L ro O fr) => dall_any h' q n hz (by omega) (by omega) _ rfl)
  rw [show decide (¬ (n ≠ 0 ∧ has s.toList L (q + n - 1) = false)) = false from decide_eq_false (fun h => h h8)] at AL
  obtain ⟨f, G2, rfl⟩ := hgn
  obtain rfl : z = (f.e : Int) := by
    rcases hG with ⟨h, _⟩ | ⟨f', G', h, h7⟩
    · cases h
    · cases h; exact h7
  have hfe : ¬ f.e < q + n := by simpa using h6
  have e9 : ¬ (f.e : Int) < (v : Int) := by omega
  have e9c : decide ((f.e : Int) < (v : Int)) = false := decide_eq_false e9
  have e9b : (0 : Int) ≤ (f.e : Int) := by omega
  have hy : x % 2 = 0 := by rw [hwi, decide_eq_true_iff] at hV; omega
  have e4 : (x : Int) % 2 = 0 := by omega
  clear hR hl hz hp hG hGl h0 h2 hm hlm hh ht ht2 hte hwi h3 hx hy hV h4 hd h5 h6 hpl hv h8 hn9 hfe
  go_enter Tryd.func50, Tryd.ntmps50
  go_wp2_with (first
    | (go_at_call 51; refine W.out.mono ?_; rintro e w1 ⟨rfl, HQ1, HB1⟩; obtain ⟨a1, c1, tk1, HR1⟩ := HQ1.out.opn; have g0 := HQ1.out.txt)
    | (go_at_call 37; refine (TG.out _).mono ?_; rintro e wt ⟨rfl, rfl⟩)
    | (go_at_call 52; refine (dfault_ok (by first | exact HQ4.out.drewN _ | exact HQ4.out | exact HQ3.out | exact HQ2.out.drewN _ | exact HQ2.out | exact HQ1.out.drewN _ | exact HQ1.out) _ _ p rfl).mono ?_; rintro e wf ⟨rfl, HRF, HBF⟩)
    | (go_at_call 68; refine (LE.out _ (HQ1.out.drewN _)).mono ?_; rintro e w2 ⟨rfl, HQ2, HB2⟩)
    | (go_at_call 69; refine (AL.out _ HQ2.out).mono ?_; rintro e w3 ⟨rfl, HQ3, HB3⟩; have g3 := HQ3.out.txt)
    | (go_at_call 38; refine (BO.out _).mono ?_; rintro e w4 ⟨rfl, hb4⟩; have HQ4 := Lib.hid (HQ3.out.below hb4); have HB4 : Hid (Below g w3 w4) := hb4.mono (Nat.le_of_lt HQ3.out.lt); clear hb4)
    | (go_at_call 70; refine (IN.out _ HQ2.out).mono ?_; intro e w3 hin))
  have k5 := HR1.out.at0.cell 5 _ rfl
  have k2 := HR1.out.at0.cell 2 _ rfl
  have k1 := HR1.out.at0.cell 1 _ rfl
  rw [HM.out] at k5
  go_quiet (fail)
  go_wp2_with (first
    | (go_at_call 51; refine W.out.mono ?_; rintro e w1 ⟨rfl, HQ1, HB1⟩; obtain ⟨a1, c1, tk1, HR1⟩ := HQ1.out.opn; have g0 := HQ1.out.txt)
    | (go_at_call 37; refine (TG.out _).mono ?_; rintro e wt ⟨rfl, rfl⟩)
    | (go_at_call 52; refine (dfault_ok (by first | exact HQ4.out.drewN _ | exact HQ4.out | exact HQ3.out | exact HQ2.out.drewN _ | exact HQ2.out | exact HQ1.out.drewN _ | exact HQ1.out) _ _ p rfl).mono ?_; rintro e wf ⟨rfl, HRF, HBF⟩)
    | (go_at_call 68; refine (LE.out _ (HQ1.out.drewN _)).mono ?_; rintro e w2 ⟨rfl, HQ2, HB2⟩)
    | (go_at_call 69; refine (AL.out _ HQ2.out).mono ?_; rintro e w3 ⟨rfl, HQ3, HB3⟩)
    | (go_at_call 38; refine (BO.out _).mono ?_; rintro e w4 ⟨rfl, hb4⟩; have HQ4 := Lib.hid (HQ3.out.below hb4); have HB4 : Hid (Below g w3 w4) := hb4.mono (Nat.le_of_lt HQ3.out.lt); clear hb4)
    | (go_at_call 70; refine (IN.out _ HQ2.out).mono ?_; intro e w3 hin))
  go_ret2
  exact DElem.no _ _ _ rfl HQ3 (((HB1.out.trans (below_drewN _ _ _)).trans HB2.out).trans HB3.out) HE.out
set_option maxRecDepth 100000 in
set_option maxHeartbeats 1600000 in
theorem delem_bodyn (w : World) (g : Nat) (s : ByteArray) (L : Lm) (ro : Int) (O : List Nd) (fr : Nat) (G : List Fr) (l : List Nd) (p : Nat) (z : Int) (hR : Rok w g s L ro O fr) (hl : l.length = O.length) (hz : s.size ≤ 140737488351232) (hp : p ≤ s.size) (hG : EndOf G z) (hGl : G.length ≤ 1000000) (h0 : p < s.size ∧ p < L.bytes) (h2 : ¬ L.items ≤ l.length) (h3 : ¬ tagE (s.toList.getD p 0) ≠ 0) (h4 : ¬ (within (s.toList.getD p 0) = true ∧ L.depth ≤ G.length)) (hV : ¬ within (s.toList.getD p 0) = true) {n q : Nat} (h5 : lenR s.toList L (p + 1) = .ok (n, q)) (h6 : ¬ (G.head?.any fun f => decide (f.e < q + n)) = true) (hgn : G = []) (h8 : ¬ (n ≠ 0 ∧ has s.toList L (q + n - 1) = false)) (h9 : bodyOk (s.toList.getD p 0) (Dr.part s.toList q (q + n)) = false) :
    Calls Tryd.prog 50 #[.pointer (some ⟨g, 0, none⟩), .int .i64 (p : Int), .int .i64 (G.length : Int), .int .i64 z] w (DElem s L ro g O fr G l p w) := by
  have W := Lib.hid (dwant_yes hR (p : Int) p rfl h0.1 h0.2 hz)
  have hh := has_yes s L p h0
  obtain ⟨m, hm⟩ : ∃ m, O.length = m := ⟨_, rfl⟩
  have HM := Lib.hid hm
  have hlm : l.length = m := hl.trans hm
  obtain ⟨t, ht⟩ : ∃ t, (s.toList.getD p 0).toNat = t := ⟨_, rfl⟩
  have ht2 : t < 256 := by rw [← ht]; exact (s.toList.getD p 0).toNat_lt
  have hlt : p < s.size := h0.1
  have hsp : (s[p]'hlt).toNat = t := by rw [← tl_getD s p hlt]; exact ht
  obtain ⟨hte, hwi⟩ := tag_nat s p t ht
  have TG := Lib.hid (fun w => rtag_any t ht2 w)
  rw [← hte] at TG
  rw [Classical.not_not.1 h3] at TG
  have e1 : ¬ (L.items : Int) ≤ (m : Int) := by omega
  have e1b : decide ((L.items : Int) ≤ (m : Int)) = false := decide_eq_false e1
  obtain ⟨x, hx⟩ : ∃ x, t / 32 = x := ⟨_, rfl⟩
  have e3 : (t : Int) / 32 = (x : Int) := by omega
  have e6 : IntKind.u8.wrap (x : Int) = (x : Int) := by simp [IntKind.wrap, IntKind.bits, IntKind.signed]; omega
  have e10 : (p : Int) ≤ 140737488351232 := by omega
  obtain ⟨d, hd⟩ : ∃ d, G.length = d := ⟨_, rfl⟩
  rw [hd]
  have HE := Lib.hid (elS_body (G := G) hh h2 h3 h4 h5 h6 hV h8 h9)
  have LE := Lib.hid (fun w' (h' : Rok w' g s L ro O fr) => dlength_any h' ((p : Int) + 1) (p + 1) (by omega) hz (show p + 1 ≤ s.size from h0.1))
  rw [h5] at LE
  have hpl := lenR_pl h5
  rw [tl_size] at hpl
  obtain ⟨v, hv⟩ : ∃ v, q + n = v := ⟨_, rfl⟩
  have e7 : (q : Int) + (n : Int) = (v : Int) := by omega
  have e8 : IntKind.i64.wrap (v : Int) = (v : Int) := wrap_fit v (by unfold maxLen; omega)
  have hn9 : n < 4294967296 := hpl.2.2
  have AL := Lib.hid (fun w' (h' : Rok w' g s L ro O fr) => dall_any h' q n hz (by omega) (by omega) _ rfl)
  rw [show decide (¬ (n ≠ 0 ∧ has s.toList L (q + n - 1) = false)) = true from decide_eq_true h8] at AL
  have hv2 : v ≤ s.size := by
    by_cases hn : n = 0
    · omega
    · have h10 : has s.toList L (q + n - 1) = true := by
        cases h11 : has s.toList L (q + n - 1) with
        | true => rfl
        | false => exact absurd ⟨hn, h11⟩ h8
      have h12 : q + n - 1 < s.toList.length ∧ q + n - 1 < L.bytes := of_decide_eq_true h10
      rw [tl_size] at h12
      omega
  have e11 : (q : Int) ≤ (v : Int) := by omega
  have e12 : (v : Int) ≤ (s.size : Int) := by omega
  have hqv : q ≤ v := by omega
  obtain ⟨u, hu⟩ : ∃ u, s.extract q v = u := ⟨_, rfl⟩
  have hul : u.toList = Dr.part s.toList q (q + n) := by rw [← hu, tl_extract, hv]; rfl
  have hus : u.size ≤ 140737488351232 := by rw [← tl_size, hul, Dr.part, List.length_take, List.length_drop, tl_size]; omega
  have BO := Lib.hid (fun w' => rbody_any t ht2 u hus w')
  have hbo : bodyOk (s.toList.getD p 0) (Dr.part s.toList q (q + n)) = bodyN t u.toList := by rw [bodyOk, ht, hul]
  rw [← hbo, h9] at BO
  obtain rfl := hgn
  obtain rfl : z = -1 := by rcases hG with ⟨_, h⟩ | ⟨f, G', h, _⟩; exact h; cases h
  have hy : x % 2 = 0 := by rw [hwi, decide_eq_true_iff] at hV; omega
  have e4 : (x : Int) % 2 = 0 := by omega
  clear hR hl hz hp hG hGl h0 h2 hm hlm hh ht ht2 hte hwi h3 hx hy hV h4 hd h5 h6 hpl hv h8 hn9 h9 hv2 hqv hul hus hbo
  go_enter Tryd.func50, Tryd.ntmps50
  go_wp2_with (first
    | (go_at_call 51; refine W.out.mono ?_; rintro e w1 ⟨rfl, HQ1, HB1⟩; obtain ⟨a1, c1, tk1, HR1⟩ := HQ1.out.opn; have g0 := HQ1.out.txt)
    | (go_at_call 37; refine (TG.out _).mono ?_; rintro e wt ⟨rfl, rfl⟩)
    | (go_at_call 52; refine (dfault_ok (by first | exact HQ4.out.drewN _ | exact HQ4.out | exact HQ3.out | exact HQ2.out.drewN _ | exact HQ2.out | exact HQ1.out.drewN _ | exact HQ1.out) _ _ p rfl).mono ?_; rintro e wf ⟨rfl, HRF, HBF⟩)
    | (go_at_call 68; refine (LE.out _ (HQ1.out.drewN _)).mono ?_; rintro e w2 ⟨rfl, HQ2, HB2⟩)
    | (go_at_call 69; refine (AL.out _ HQ2.out).mono ?_; rintro e w3 ⟨rfl, HQ3, HB3⟩; have g3 := HQ3.out.txt)
    | (go_at_call 38; refine (BO.out _).mono ?_; rintro e w4 ⟨rfl, hb4⟩; have HQ4 := Lib.hid (HQ3.out.below hb4); have HB4 : Hid (Below g w3 w4) := hb4.mono (Nat.le_of_lt HQ3.out.lt); clear hb4)
    | (go_at_call 70; refine (IN.out _ HQ2.out).mono ?_; intro e w3 hin))
  have k5 := HR1.out.at0.cell 5 _ rfl
  have k2 := HR1.out.at0.cell 2 _ rfl
  have k1 := HR1.out.at0.cell 1 _ rfl
  rw [HM.out] at k5
  go_quiet (fail)
  go_wp2_with (first
    | (go_at_call 51; refine W.out.mono ?_; rintro e w1 ⟨rfl, HQ1, HB1⟩; obtain ⟨a1, c1, tk1, HR1⟩ := HQ1.out.opn; have g0 := HQ1.out.txt)
    | (go_at_call 37; refine (TG.out _).mono ?_; rintro e wt ⟨rfl, rfl⟩)
    | (go_at_call 52; refine (dfault_ok (by first | exact HQ4.out.drewN _ | exact HQ4.out | exact HQ3.out | exact HQ2.out.drewN _ | exact HQ2.out | exact HQ1.out.drewN _ | exact HQ1.out) _ _ p rfl).mono ?_; rintro e wf ⟨rfl, HRF, HBF⟩)
    | (go_at_call 68; refine (LE.out _ (HQ1.out.drewN _)).mono ?_; rintro e w2 ⟨rfl, HQ2, HB2⟩)
    | (go_at_call 69; refine (AL.out _ HQ2.out).mono ?_; rintro e w3 ⟨rfl, HQ3, HB3⟩; have g3 := HQ3.out.txt)
    | (go_at_call 38; refine (BO.out _).mono ?_; rintro e w4 ⟨rfl, hb4⟩; have HQ4 := Lib.hid (HQ3.out.below hb4); have HB4 : Hid (Below g w3 w4) := hb4.mono (Nat.le_of_lt HQ3.out.lt); clear hb4)
    | (go_at_call 70; refine (IN.out _ HQ2.out).mono ?_; intro e w3 hin))
  go_ret2
  exact DElem.no _ _ _ rfl HRF (((((HB1.out.trans (below_drewN _ _ _)).trans HB2.out).trans HB3.out).trans HB4.out).trans HBF.out) HE.out
set_option maxRecDepth 100000 in
set_option maxHeartbeats 1600000 in
theorem delem_bodyc (w : World) (g : Nat) (s : ByteArray) (L : Lm) (ro : Int) (O : List Nd) (fr : Nat) (G : List Fr) (l : List Nd) (p : Nat) (z : Int) (hR : Rok w g s L ro O fr) (hl : l.length = O.length) (hz : s.size ≤ 140737488351232) (hp : p ≤ s.size) (hG : EndOf G z) (hGl : G.length ≤ 1000000) (h0 : p < s.size ∧ p < L.bytes) (h2 : ¬ L.items ≤ l.length) (h3 : ¬ tagE (s.toList.getD p 0) ≠ 0) (h4 : ¬ (within (s.toList.getD p 0) = true ∧ L.depth ≤ G.length)) (hV : ¬ within (s.toList.getD p 0) = true) {n q : Nat} (h5 : lenR s.toList L (p + 1) = .ok (n, q)) (h6 : ¬ (G.head?.any fun f => decide (f.e < q + n)) = true) (hgn : ∃ f G2, G = f :: G2) (h8 : ¬ (n ≠ 0 ∧ has s.toList L (q + n - 1) = false)) (h9 : bodyOk (s.toList.getD p 0) (Dr.part s.toList q (q + n)) = false) :
    Calls Tryd.prog 50 #[.pointer (some ⟨g, 0, none⟩), .int .i64 (p : Int), .int .i64 (G.length : Int), .int .i64 z] w (DElem s L ro g O fr G l p w) := by
  have W := Lib.hid (dwant_yes hR (p : Int) p rfl h0.1 h0.2 hz)
  have hh := has_yes s L p h0
  obtain ⟨m, hm⟩ : ∃ m, O.length = m := ⟨_, rfl⟩
  have HM := Lib.hid hm
  have hlm : l.length = m := hl.trans hm
  obtain ⟨t, ht⟩ : ∃ t, (s.toList.getD p 0).toNat = t := ⟨_, rfl⟩
  have ht2 : t < 256 := by rw [← ht]; exact (s.toList.getD p 0).toNat_lt
  have hlt : p < s.size := h0.1
  have hsp : (s[p]'hlt).toNat = t := by rw [← tl_getD s p hlt]; exact ht
  obtain ⟨hte, hwi⟩ := tag_nat s p t ht
  have TG := Lib.hid (fun w => rtag_any t ht2 w)
  rw [← hte] at TG
  rw [Classical.not_not.1 h3] at TG
  have e1 : ¬ (L.items : Int) ≤ (m : Int) := by omega
  have e1b : decide ((L.items : Int) ≤ (m : Int)) = false := decide_eq_false e1
  obtain ⟨x, hx⟩ : ∃ x, t / 32 = x := ⟨_, rfl⟩
  have e3 : (t : Int) / 32 = (x : Int) := by omega
  have e6 : IntKind.u8.wrap (x : Int) = (x : Int) := by simp [IntKind.wrap, IntKind.bits, IntKind.signed]; omega
  have e10 : (p : Int) ≤ 140737488351232 := by omega
  obtain ⟨d, hd⟩ : ∃ d, G.length = d := ⟨_, rfl⟩
  rw [hd]
  have HE := Lib.hid (elS_body (G := G) hh h2 h3 h4 h5 h6 hV h8 h9)
  have LE := Lib.hid (fun w' (h' : Rok w' g s L ro O fr) => dlength_any h' ((p : Int) + 1) (p + 1) (by omega) hz (show p + 1 ≤ s.size from h0.1))
  rw [h5] at LE
  have hpl := lenR_pl h5
  rw [tl_size] at hpl
  obtain ⟨v, hv⟩ : ∃ v, q + n = v := ⟨_, rfl⟩
  have e7 : (q : Int) + (n : Int) = (v : Int) := by omega
  have e8 : IntKind.i64.wrap (v : Int) = (v : Int) := wrap_fit v (by unfold maxLen; omega)
  have hn9 : n < 4294967296 := hpl.2.2
  have AL := Lib.hid (fun w' (h' : Rok w' g s L ro O fr) => dall_any h' q n hz (by omega) (by omega) _ rfl)
  rw [show decide (¬ (n ≠ 0 ∧ has s.toList L (q + n - 1) = false)) = true from decide_eq_true h8] at AL
  have hv2 : v ≤ s.size := by
    by_cases hn : n = 0
    · omega
    · have h10 : has s.toList L (q + n - 1) = true := by
        cases h11 : has s.toList L (q + n - 1) with
        | true => rfl
        | false => exact absurd ⟨hn, h11⟩ h8
      have h12 : q + n - 1 < s.toList.length ∧ q + n - 1 < L.bytes := of_decide_eq_true h10
      rw [tl_size] at h12
      omega
  have e11 : (q : Int) ≤ (v : Int) := by omega
  have e12 : (v : Int) ≤ (s.size : Int) := by omega
  have hqv : q ≤ v := by omega
  obtain ⟨u, hu⟩ : ∃ u, s.extract q v = u := ⟨_, rfl⟩
  have hul : u.toList = Dr.part s.toList q (q + n) := by rw [← hu, tl_extract, hv]; rfl
  have hus : u.size ≤ 140737488351232 := by rw [← tl_size, hul, Dr.part, List.length_take, List.length_drop, tl_size]; omega
  have BO := Lib.hid (fun w' => rbody_any t ht2 u hus w')
  have hbo : bodyOk (s.toList.getD p 0) (Dr.part s.toList q (q + n)) = bodyN t u.toList := by rw [bodyOk, ht, hul]
  rw [← hbo, h9] at BO
  obtain ⟨f, G2, rfl⟩ := hgn
  obtain rfl : z = (f.e : Int) := by
    rcases hG with ⟨h, _⟩ | ⟨f', G', h, h7⟩
    · cases h
    · cases h; exact h7
  have hfe : ¬ f.e < q + n := by simpa using h6
  have e9 : ¬ (f.e : Int) < (v : Int) := by omega
  have e9c : decide ((f.e : Int) < (v : Int)) = false := decide_eq_false e9
  have e9b : (0 : Int) ≤ (f.e : Int) := by omega
  have hy : x % 2 = 0 := by rw [hwi, decide_eq_true_iff] at hV; omega
  have e4 : (x : Int) % 2 = 0 := by omega
  clear hR hl hz hp hG hGl h0 h2 hm hlm hh ht ht2 hte hwi h3 hx hy hV h4 hd h5 h6 hpl hv h8 hn9 h9 hv2 hqv hul hus hbo hfe
  go_enter Tryd.func50, Tryd.ntmps50
  go_wp2_with (first
    | (go_at_call 51; refine W.out.mono ?_; rintro e w1 ⟨rfl, HQ1, HB1⟩; obtain ⟨a1, c1, tk1, HR1⟩ := HQ1.out.opn; have g0 := HQ1.out.txt)
    | (go_at_call 37; refine (TG.out _).mono ?_; rintro e wt ⟨rfl, rfl⟩)
    | (go_at_call 52; refine (dfault_ok (by first | exact HQ4.out.drewN _ | exact HQ4.out | exact HQ3.out | exact HQ2.out.drewN _ | exact HQ2.out | exact HQ1.out.drewN _ | exact HQ1.out) _ _ p rfl).mono ?_; rintro e wf ⟨rfl, HRF, HBF⟩)
    | (go_at_call 68; refine (LE.out _ (HQ1.out.drewN _)).mono ?_; rintro e w2 ⟨rfl, HQ2, HB2⟩)
    | (go_at_call 69; refine (AL.out _ HQ2.out).mono ?_; rintro e w3 ⟨rfl, HQ3, HB3⟩; have g3 := HQ3.out.txt)
    | (go_at_call 38; refine (BO.out _).mono ?_; rintro e w4 ⟨rfl, hb4⟩; have HQ4 := Lib.hid (HQ3.out.below hb4); have HB4 : Hid (Below g w3 w4) := hb4.mono (Nat.le_of_lt HQ3.out.lt); clear hb4)
    | (go_at_call 70; refine (IN.out _ HQ2.out).mono ?_; intro e w3 hin))
  have k5 := HR1.out.at0.cell 5 _ rfl
  have k2 := HR1.out.at0.cell 2 _ rfl
  have k1 := HR1.out.at0.cell 1 _ rfl
  rw [HM.out] at k5
  go_quiet (fail)
  go_wp2_with (first
    | (go_at_call 51; refine W.out.mono ?_; rintro e w1 ⟨rfl, HQ1, HB1⟩; obtain ⟨a1, c1, tk1, HR1⟩ := HQ1.out.opn; have g0 := HQ1.out.txt)
    | (go_at_call 37; refine (TG.out _).mono ?_; rintro e wt ⟨rfl, rfl⟩)
    | (go_at_call 52; refine (dfault_ok (by first | exact HQ4.out.drewN _ | exact HQ4.out | exact HQ3.out | exact HQ2.out.drewN _ | exact HQ2.out | exact HQ1.out.drewN _ | exact HQ1.out) _ _ p rfl).mono ?_; rintro e wf ⟨rfl, HRF, HBF⟩)
    | (go_at_call 68; refine (LE.out _ (HQ1.out.drewN _)).mono ?_; rintro e w2 ⟨rfl, HQ2, HB2⟩)
    | (go_at_call 69; refine (AL.out _ HQ2.out).mono ?_; rintro e w3 ⟨rfl, HQ3, HB3⟩; have g3 := HQ3.out.txt)
    | (go_at_call 38; refine (BO.out _).mono ?_; rintro e w4 ⟨rfl, hb4⟩; have HQ4 := Lib.hid (HQ3.out.below hb4); have HB4 : Hid (Below g w3 w4) := hb4.mono (Nat.le_of_lt HQ3.out.lt); clear hb4)
    | (go_at_call 70; refine (IN.out _ HQ2.out).mono ?_; intro e w3 hin))
  go_ret2
  exact DElem.no _ _ _ rfl HRF (((((HB1.out.trans (below_drewN _ _ _)).trans HB2.out).trans HB3.out).trans HB4.out).trans HBF.out) HE.out
end Go.Proofs.YteglahkgnggmgaaDoor
