/- Joined by merge.py: DvE DvF DvG DvH DvI. -/
import Derived.Test.YteglahkgnggmgaaDoorDvX
import Derived.Test.YteglahkgnggmgaaDoorDrQ
import Derived.Test.YteglahkgnggmgaaDoorDrB
import Derived.BigRegion
import Derived.Test.YteglahkgnggmgaaDoorDrR
import Derived.Test.YteglahkgnggmgaaDoorDrU
import Derived.Test.YteglahkgnggmgaaDoorDtX
namespace Go.Proofs.YteglahkgnggmgaaDoor
open Go.RowKit
set_option linter.unusedVariables false
set_option linter.unusedSimpArgs false
open Dr
theorem Rok.opn {w : World} {g : Nat} {s : ByteArray} {L : Lm} {ro : Int} {O : List Nd} {fr : Nat} (h : Rok w g s L ro O fr) : ∃ a c tk, Hid (Rf w g s L ro O (.slice a O.length c) 0 0 tk fr false) := by
  obtain ⟨vo, tk, h⟩ := h
  obtain ⟨a, c, rfl, -⟩ := own_form h.out
  exact ⟨a, c, tk, h⟩
set_option maxRecDepth 100000 in
theorem dall_nil {w : World} {g : Nat} {s : ByteArray} {L : Lm} {ro : Int} {O : List Nd} {fr : Nat} (h : Rok w g s L ro O fr) (z : Int) : Calls Tryd.prog 69 #[.pointer (some ⟨g, 0, none⟩), .int .i64 z, .int .i64 0] w (Yes (.bool true) g s L ro O fr w) := by
  have HR := Lib.hid h
  clear h
  go_enter Tryd.func69, Tryd.ntmps69
  go_wp2_with fail
  go_ret
  exact ⟨rfl, HR, Below.refl _ _⟩
/-- all of a body is there, or not -/
def DAll (b : Bool) (g : Nat) (s : ByteArray) (L : Lm) (ro : Int) (O : List Nd) (fr : Nat) (w : World) (e : Ending) (w' : World) : Prop :=
  if b = true then Yes (.bool true) g s L ro O fr w e w' else Nay (.bool false) g s L ro (lackE s.toList L) (lackP s.toList L) (decide (s.toList.length ≤ L.bytes)) w e w'
set_option maxRecDepth 100000 in
theorem dall_any {w : World} {g : Nat} {s : ByteArray} {L : Lm} {ro : Int} {O : List Nd} {fr : Nat} (h : Rok w g s L ro O fr) (q n : Nat) (hs : s.size ≤ 140737488351232) (hq : q ≤ 140737488351232) (hn : n ≤ 140737488351232) (b : Bool) (hb : decide (¬ (n ≠ 0 ∧ has s.toList L (q + n - 1) = false)) = b) :
    Calls Tryd.prog 69 #[.pointer (some ⟨g, 0, none⟩), .int .i64 (q : Int), .int .i64 (n : Int)] w (DAll b g s L ro O fr w) := by
  by_cases h0 : n = 0
  · subst h0
    obtain rfl : b = true := by rw [← hb]; exact decide_eq_true (fun h => h.1 rfl)
    exact dall_nil h _
  · have e0 : ¬ (n : Int) = 0 := by omega
    obtain ⟨x, hx⟩ : ∃ x, q + n = x := ⟨_, rfl⟩
    obtain ⟨y, hy⟩ : ∃ y, q + n - 1 = y := ⟨_, rfl⟩
    have e1 : (q : Int) + (n : Int) = (x : Int) := by omega
    have e2 : (x : Int) - 1 = (y : Int) := by omega
    have e3 : IntKind.i64.wrap (x : Int) = (x : Int) := wrap_fit x (by unfold maxLen; omega)
    have e4 : IntKind.i64.wrap (y : Int) = (y : Int) := wrap_fit y (by unfold maxLen; omega)
    rw [hy] at hb
    by_cases h1 : y < s.size ∧ y < L.bytes
    · obtain rfl : b = true := by rw [← hb]; exact decide_eq_true (fun h => by rw [has_yes s L y h1] at h; exact absurd h.2 (by decide))
      have W := Lib.hid (dwant_yes h (y : Int) y rfl h1.1 h1.2 hs)
      clear h hb hx hy h0 h1 hq hn
      go_enter Tryd.func69, Tryd.ntmps69
      go_wp2_with (first | (go_at_call 51; refine W.out.mono ?_; rintro e w1 ⟨rfl, HR1, HB1⟩))
      go_ret
      exact ⟨rfl, HR1, HB1⟩
    · obtain rfl : b = false := by rw [← hb]; exact decide_eq_false (fun h => h ⟨h0, has_no s L y h1⟩)
      have W := Lib.hid (dwant_no h (y : Int) y rfl h1)
      clear h hb hx hy h0 h1 hq hn
      go_enter Tryd.func69, Tryd.ntmps69
      go_wp2_with (first | (go_at_call 51; refine W.out.mono ?_; rintro e w1 ⟨rfl, HR1, HB1⟩))
      go_ret
      exact ⟨rfl, HR1, HB1⟩
theorem Rf.drew {w : World} {g : Nat} {s : ByteArray} {L : Lm} {ro : Int} {O : List Nd} {vo : Value} {er : Int} {pl tk fr : Nat} {en : Bool} (h : Rf w g s L ro O vo er pl tk fr en) : Rf w.drew g s L ro O vo er pl tk fr en := h.drewN 1
/-- a node is appended to what was read -/
theorem Rf.add {w w' : World} {g : Nat} {s : ByteArray} {L : Lm} {ro : Int} {O O' : List Nd} {vo v' : Value} {er : Int} {pl tk fr : Nat} {en : Bool} (h : Rf w g s L ro O vo er pl tk fr en) (hg : w.grownBy w' vo.ownBlock) (ho : w'.ownsRow (g + 1) 63 3 v' O'.length (ncells O')) :
    Rf (w'.setCell ⟨g, 5, none⟩ v') g s L ro O' v' er pl tk fr en := by
  have hlt := h.lt
  have hne : ∀ k, vo.ownBlock = some k → g + 1 ≤ k := fun k hk => (h.out.lt k hk).1
  have h1 := h.at0.grown hg hlt (fun e => by have := hne g e; omega)
  exact ⟨h1.set 5 v', ownsRow_setCell_below ho (Nat.lt_succ_self g) _, by
    rw [show (w'.setCell ⟨g, 5, none⟩ v').heap.size = w'.heap.size by simp [World.setCell]]
    exact Nat.lt_of_lt_of_le hlt hg.size⟩
theorem Rok.opn2 {w : World} {g : Nat} {s : ByteArray} {L : Lm} {ro : Int} {O : List Nd} {fr : Nat} (h : Rok w g s L ro O fr) (h0 : 0 < O.length) : ∃ kn c tk, Hid (Rf w g s L ro O (.slice (some ⟨kn, 0, none⟩) O.length c) 0 0 tk fr false) := by
  obtain ⟨vo, tk, h⟩ := h
  obtain ⟨a, c, rfl, ha⟩ := own_form h.out
  obtain ⟨kn, rfl⟩ := ha h0
  exact ⟨kn, c, tk, h⟩
theorem head_le {G : List Fr} {x : Nat} (h : ¬ (G.head?.any fun f => decide (f.e < x)) = true) (f' : Fr) (hf : G.head? = some f') : x ≤ f'.e := by
  rw [hf] at h
  have h2 : ¬ f'.e < x := by simpa using h
  omega
/-- where the one ends in which an element stands -/
def EndOf (G : List Fr) (z : Int) : Prop := (G = [] ∧ z = -1) ∨ (∃ f G', G = f :: G' ∧ z = (f.e : Int))
/-- what an element's reading comes to -/
def DElem (s : ByteArray) (L : Lm) (ro : Int) (g : Nat) (O : List Nd) (fr : Nat) (G : List Fr) (l : List Nd) (p : Nat) (w : World) (e : Ending) (w' : World) : Prop :=
  (∃ (N : List Nd) (q : Nat), Yes (.tuple #[.int .i64 (q : Int), .bool true]) g s L ro (O ++ N) fr w e w' ∧ p + 2 ≤ q ∧ q ≤ s.size ∧ (∀ f, G.head? = some f → q ≤ f.e) ∧ ∀ r, RunsD s.toList L (.pend G (l ++ N) p q) r → RunsD s.toList L (.el G l p) r) ∨
  (∃ c q b, Nay (.tuple #[.int .i64 0, .bool false]) g s L ro c q b w e w' ∧ RunsD s.toList L (.el G l p) (.no c q b))
theorem DElem.no {s : ByteArray} {L : Lm} {ro : Int} {g : Nat} {O : List Nd} {fr : Nat} {G : List Fr} {l : List Nd} {p : Nat} {w w' : World} {e : Ending} (c : Int) (q : Nat) (b : Bool) (he : e = .returned (.tuple #[.int .i64 0, .bool false])) (h1 : Hid (Rno w' g s L ro c q b)) (h2 : Hid (Below g w w')) (hr : elS s.toList L bodyOk G l p = .no c q b) : DElem s L ro g O fr G l p w e w' :=
  .inr ⟨c, q, b, ⟨he, h1, h2⟩, Runs.elNo hr⟩
section
variable {S : List UInt8} {L : Lm} {G : List Fr} {l : List Nd} {p : Nat}
theorem elS_lack (h : has S L p = false) : elS S L bodyOk G l p = lack S L := by rw [elS, if_pos h]
theorem elS_full2 (h : has S L p = true) (h2 : L.items ≤ l.length) : elS S L bodyOk G l p = .no 10 p false := by rw [elS, if_neg (by rw [h]; decide), if_pos h2]
theorem elS_tag (h : has S L p = true) (h2 : ¬ L.items ≤ l.length) (h3 : tagE (S.getD p 0) ≠ 0) : elS S L bodyOk G l p = .no (tagE (S.getD p 0)) p false := by rw [elS, if_neg (by rw [h]; decide), if_neg h2, if_pos h3]
theorem elS_depth (h : has S L p = true) (h2 : ¬ L.items ≤ l.length) (h3 : ¬ tagE (S.getD p 0) ≠ 0) (h4 : within (S.getD p 0) = true ∧ L.depth ≤ G.length) : elS S L bodyOk G l p = .no 10 p false := by rw [elS, if_neg (by rw [h]; decide), if_neg h2, if_neg h3, if_pos h4]
section
variable (h : has S L p = true) (h2 : ¬ L.items ≤ l.length) (h3 : ¬ tagE (S.getD p 0) ≠ 0) (h4 : ¬ (within (S.getD p 0) = true ∧ L.depth ≤ G.length))
include h h2 h3 h4
theorem elS_len2 {e : Int} {q : Nat} {b : Bool} (h5 : lenR S L (p + 1) = .no e q b) : elS S L bodyOk G l p = .no e q b := by rw [elS, if_neg (by rw [h]; decide), if_neg h2, if_neg h3, if_neg h4, h5]
variable {n q : Nat} (h5 : lenR S L (p + 1) = .ok (n, q))
include h5
theorem elS_end (h6 : (G.head?.any fun f => decide (f.e < q + n)) = true) : elS S L bodyOk G l p = .no 9 p false := by rw [elS, if_neg (by rw [h]; decide), if_neg h2, if_neg h3, if_neg h4, h5]; simp only [h6, if_true]
variable (h6 : ¬ (G.head?.any fun f => decide (f.e < q + n)) = true)
include h6
theorem elS_in (h7 : within (S.getD p 0) = true) : elS S L bodyOk G l p = .ok (.loop ({ tag := S.getD p 0, node := l.length, p0 := p, e := q + n, kids := 0, last := [] } :: G) (l ++ [{ tag := S.getD p 0, kids := 0, body := [] }]) q) := by
  rw [elS, if_neg (by rw [h]; decide), if_neg h2, if_neg h3, if_neg h4, h5]
  dsimp only
  rw [if_neg h6, if_pos h7]
variable (h7 : ¬ within (S.getD p 0) = true)
include h7
theorem elS_skip (h8 : n ≠ 0 ∧ has S L (q + n - 1) = false) : elS S L bodyOk G l p = lack S L := by
  rw [elS, if_neg (by rw [h]; decide), if_neg h2, if_neg h3, if_neg h4, h5]
  dsimp only
  rw [if_neg h6, if_neg h7, if_pos h8]
variable (h8 : ¬ (n ≠ 0 ∧ has S L (q + n - 1) = false))
include h8
theorem elS_body (h9 : bodyOk (S.getD p 0) (Dr.part S q (q + n)) = false) : elS S L bodyOk G l p = .no 9 p false := by
  rw [elS, if_neg (by rw [h]; decide), if_neg h2, if_neg h3, if_neg h4, h5]
  dsimp only
  rw [if_neg h6, if_neg h7, if_neg h8, if_pos h9]
theorem elS_ok (h9 : ¬ bodyOk (S.getD p 0) (Dr.part S q (q + n)) = false) : elS S L bodyOk G l p = .ok (.pend G (l ++ [{ tag := S.getD p 0, kids := -1, body := Dr.part S q (q + n) }]) p (q + n)) := by
  rw [elS, if_neg (by rw [h]; decide), if_neg h2, if_neg h3, if_neg h4, h5]
  dsimp only
  rw [if_neg h6, if_neg h7, if_neg h8, if_neg h9]
end
end
set_option maxRecDepth 100000 in
set_option maxHeartbeats 1600000 in
theorem delem_lack (w : World) (g : Nat) (s : ByteArray) (L : Lm) (ro : Int) (O : List Nd) (fr : Nat) (G : List Fr) (l : List Nd) (p : Nat) (z : Int) (hR : Rok w g s L ro O fr) (hl : l.length = O.length) (hz : s.size ≤ 140737488351232) (hp : p ≤ s.size) (hG : EndOf G z) (hGl : G.length ≤ 1000000) (h0 : ¬ (p < s.size ∧ p < L.bytes)) :
    Calls Tryd.prog 50 #[.pointer (some ⟨g, 0, none⟩), .int .i64 (p : Int), .int .i64 (G.length : Int), .int .i64 z] w (DElem s L ro g O fr G l p w) := by
  have W := Lib.hid (dwant_no hR (p : Int) p rfl h0)
  have HE := Lib.hid (elS_lack (G := G) (l := l) (has_no s L p h0))
  clear hR hl hz hp hG hGl h0
  go_enter Tryd.func50, Tryd.ntmps50
  go_wp2_with (first | (go_at_call 51; refine W.out.mono ?_; rintro e w1 ⟨rfl, HR1, HB1⟩))
  go_ret2
  exact DElem.no _ _ _ rfl HR1 HB1 HE.out
set_option maxRecDepth 100000 in
set_option maxHeartbeats 1600000 in
theorem delem_items (w : World) (g : Nat) (s : ByteArray) (L : Lm) (ro : Int) (O : List Nd) (fr : Nat) (G : List Fr) (l : List Nd) (p : Nat) (z : Int) (hR : Rok w g s L ro O fr) (hl : l.length = O.length) (hz : s.size ≤ 140737488351232) (hp : p ≤ s.size) (hG : EndOf G z) (hGl : G.length ≤ 1000000) (h0 : p < s.size ∧ p < L.bytes) (h2 : L.items ≤ l.length) :
    Calls Tryd.prog 50 #[.pointer (some ⟨g, 0, none⟩), .int .i64 (p : Int), .int .i64 (G.length : Int), .int .i64 z] w (DElem s L ro g O fr G l p w) := by
  have W := Lib.hid (dwant_yes hR (p : Int) p rfl h0.1 h0.2 hz)
  have hh := has_yes s L p h0
  obtain ⟨m, hm⟩ : ∃ m, O.length = m := ⟨_, rfl⟩
  have HM := Lib.hid hm
  have hlm : l.length = m := hl.trans hm
  have HE := Lib.hid (elS_full2 (G := G) hh h2)
  have e1 : (L.items : Int) ≤ (m : Int) := by omega
  clear hR hl hz hp hG hGl h0 h2 hm hlm hh
  go_enter Tryd.func50, Tryd.ntmps50
  go_wp2_with (first
    | (go_at_call 51; refine W.out.mono ?_; rintro e w1 ⟨rfl, HQ1, HB1⟩; obtain ⟨a1, c1, tk1, HR1⟩ := HQ1.out.opn; have g0 := HQ1.out.txt)
    | (go_at_call 37; refine (TG.out _).mono ?_; rintro e wt ⟨rfl, rfl⟩)
    | (go_at_call 52; refine (dfault_ok (by first | exact HQ4.out.drewN _ | exact HQ4.out | exact HQ3.out | exact HQ2.out.drewN _ | exact HQ2.out | exact HQ1.out.drewN _ | exact HQ1.out) _ _ p rfl).mono ?_; rintro e wf ⟨rfl, HRF, HBF⟩)
    | (go_at_call 68; refine (LE.out _ (HQ1.out.drewN _)).mono ?_; rintro e w2 ⟨rfl, HQ2, HB2⟩)
    | (go_at_call 69; refine (AL.out _ HQ2.out).mono ?_; rintro e w3 ⟨rfl, HQ3, HB3⟩; have g3 := HQ3.out.txt)
    | (go_at_call 38; refine (BO.out _).mono ?_; rintro e w4 ⟨rfl, hb4⟩; have HQ4 := Lib.hid (HQ3.out.below hb4); have HB4 : Hid (Below g w3 w4) := hb4.mono (Nat.le_of_lt HQ3.out.lt); clear hb4)
    | (go_at_call 70; refine (IN.out _ HQ2.out).mono ?_; intro e w3 hin))
  have k5 := HR1.out.at0.cell 5 _ rfl
  have k2 := HR1.out.at0.cell 2 _ rfl
  have k1 := HR1.out.at0.cell 1 _ rfl
  rw [HM.out] at k5
  go_quiet (fail)
  go_wp2_with (first
    | (go_at_call 51; refine W.out.mono ?_; rintro e w1 ⟨rfl, HQ1, HB1⟩; obtain ⟨a1, c1, tk1, HR1⟩ := HQ1.out.opn; have g0 := HQ1.out.txt)
    | (go_at_call 37; refine (TG.out _).mono ?_; rintro e wt ⟨rfl, rfl⟩)
    | (go_at_call 52; refine (dfault_ok (by first | exact HQ4.out.drewN _ | exact HQ4.out | exact HQ3.out | exact HQ2.out.drewN _ | exact HQ2.out | exact HQ1.out.drewN _ | exact HQ1.out) _ _ p rfl).mono ?_; rintro e wf ⟨rfl, HRF, HBF⟩)
    | (go_at_call 68; refine (LE.out _ (HQ1.out.drewN _)).mono ?_; rintro e w2 ⟨rfl, HQ2, HB2⟩)
    | (go_at_call 69; refine (AL.out _ HQ2.out).mono ?_; rintro e w3 ⟨rfl, HQ3, HB3⟩; have g3 := HQ3.out.txt)
    | (go_at_call 38; refine (BO.out _).mono ?_; rintro e w4 ⟨rfl, hb4⟩; have HQ4 := Lib.hid (HQ3.out.below hb4); have HB4 : Hid (Below g w3 w4) := hb4.mono (Nat.le_of_lt HQ3.out.lt); clear hb4)
    | (go_at_call 70; refine (IN.out _ HQ2.out).mono ?_; intro e w3 hin))
  go_ret2
  exact DElem.no _ _ _ rfl HRF ((HB1.out.trans (below_drewN _ _ _)).trans HBF.out) HE.out
set_option maxRecDepth 100000 in
set_option maxHeartbeats 1600000 in
theorem delem_tag (w : World) (g : Nat) (s : ByteArray) (L : Lm) (ro : Int) (O : List Nd) (fr : Nat) (G : List Fr) (l : List Nd) (p : Nat) (z : Int) (hR : Rok w g s L ro O fr) (hl : l.length = O.length) (hz : s.size ≤ 140737488351232) (hp : p ≤ s.size) (hG : EndOf G z) (hGl : G.length ≤ 1000000) (h0 : p < s.size ∧ p < L.bytes) (h2 : ¬ L.items ≤ l.length) (h3 : tagE (s.toList.getD p 0) ≠ 0) :
    Calls Tryd.prog 50 #[.pointer (some ⟨g, 0, none⟩), .int .i64 (p : Int), .int .i64 (G.length : Int), .int .i64 z] w (DElem s L ro g O fr G l p w) := by
  have W := Lib.hid (dwant_yes hR (p : Int) p rfl h0.1 h0.2 hz)
  have hh := has_yes s L p h0
  obtain ⟨m, hm⟩ : ∃ m, O.length = m := ⟨_, rfl⟩
  have HM := Lib.hid hm
  have hlm : l.length = m := hl.trans hm
  obtain ⟨t, ht⟩ : ∃ t, (s.toList.getD p 0).toNat = t := ⟨_, rfl⟩
  have ht2 : t < 256 := by rw [← ht]; exact (s.toList.getD p 0).toNat_lt
  have hlt : p < s.size := h0.1
  have hsp : (s[p]'hlt).toNat = t := by rw [← tl_getD s p hlt]; exact ht
  obtain ⟨hte, hwi⟩ := tag_nat s p t ht
  have TG := Lib.hid (fun w => rtag_any t ht2 w)
  rw [← hte] at TG
  obtain ⟨te, hteq⟩ : ∃ te, tagE (s.toList.getD p 0) = te := ⟨_, rfl⟩
  rw [hteq] at TG
  have e1 : ¬ (L.items : Int) ≤ (m : Int) := by omega
  have e1b : decide ((L.items : Int) ≤ (m : Int)) = false := decide_eq_false e1
  have HE := Lib.hid (elS_tag (G := G) hh h2 h3)
  rw [hteq] at HE h3
  have e2 : ¬ te = 0 := h3
  clear hR hl hz hp hG hGl h0 h2 hm hlm hh ht ht2 hte hwi hteq h3
  go_enter Tryd.func50, Tryd.ntmps50
  go_wp2_with (first
    | (go_at_call 51; refine W.out.mono ?_; rintro e w1 ⟨rfl, HQ1, HB1⟩; obtain ⟨a1, c1, tk1, HR1⟩ := HQ1.out.opn; have g0 := HQ1.out.txt)
    | (go_at_call 37; refine (TG.out _).mono ?_; rintro e wt ⟨rfl, rfl⟩)
    | (go_at_call 52; refine (dfault_ok (by first | exact HQ4.out.drewN _ | exact HQ4.out | exact HQ3.out | exact HQ2.out.drewN _ | exact HQ2.out | exact HQ1.out.drewN _ | exact HQ1.out) _ _ p rfl).mono ?_; rintro e wf ⟨rfl, HRF, HBF⟩)
    | (go_at_call 68; refine (LE.out _ (HQ1.out.drewN _)).mono ?_; rintro e w2 ⟨rfl, HQ2, HB2⟩)
    | (go_at_call 69; refine (AL.out _ HQ2.out).mono ?_; rintro e w3 ⟨rfl, HQ3, HB3⟩; have g3 := HQ3.out.txt)
    | (go_at_call 38; refine (BO.out _).mono ?_; rintro e w4 ⟨rfl, hb4⟩; have HQ4 := Lib.hid (HQ3.out.below hb4); have HB4 : Hid (Below g w3 w4) := hb4.mono (Nat.le_of_lt HQ3.out.lt); clear hb4)
    | (go_at_call 70; refine (IN.out _ HQ2.out).mono ?_; intro e w3 hin))
  have k5 := HR1.out.at0.cell 5 _ rfl
  have k2 := HR1.out.at0.cell 2 _ rfl
  have k1 := HR1.out.at0.cell 1 _ rfl
  rw [HM.out] at k5
  go_quiet (fail)
  go_wp2_with (first
    | (go_at_call 51; refine W.out.mono ?_; rintro e w1 ⟨rfl, HQ1, HB1⟩; obtain ⟨a1, c1, tk1, HR1⟩ := HQ1.out.opn; have g0 := HQ1.out.txt)
    | (go_at_call 37; refine (TG.out _).mono ?_; rintro e wt ⟨rfl, rfl⟩)
    | (go_at_call 52; refine (dfault_ok (by first | exact HQ4.out.drewN _ | exact HQ4.out | exact HQ3.out | exact HQ2.out.drewN _ | exact HQ2.out | exact HQ1.out.drewN _ | exact HQ1.out) _ _ p rfl).mono ?_; rintro e wf ⟨rfl, HRF, HBF⟩)
    | (go_at_call 68; refine (LE.out _ (HQ1.out.drewN _)).mono ?_; rintro e w2 ⟨rfl, HQ2, HB2⟩)
    | (go_at_call 69; refine (AL.out _ HQ2.out).mono ?_; rintro e w3 ⟨rfl, HQ3, HB3⟩; have g3 := HQ3.out.txt)
    | (go_at_call 38; refine (BO.out _).mono ?_; rintro e w4 ⟨rfl, hb4⟩; have HQ4 := Lib.hid (HQ3.out.below hb4); have HB4 : Hid (Below g w3 w4) := hb4.mono (Nat.le_of_lt HQ3.out.lt); clear hb4)
    | (go_at_call 70; refine (IN.out _ HQ2.out).mono ?_; intro e w3 hin))
  go_ret2
  exact DElem.no _ _ _ rfl HRF ((HB1.out.trans (below_drewN _ _ _)).trans HBF.out) HE.out
set_option maxRecDepth 100000 in
set_option maxHeartbeats 1600000 in
theorem delem_depth (w : World) (g : Nat) (s : ByteArray) (L : Lm) (ro : Int) (O : List Nd) (fr : Nat) (G : List Fr) (l : List Nd) (p : Nat) (z : Int) (hR : Rok w g s L ro O fr) (hl : l.length = O.length) (hz : s.size ≤ 140737488351232) (hp : p ≤ s.size) (hG : EndOf G z) (hGl : G.length ≤ 1000000) (h0 : p < s.size ∧ p < L.bytes) (h2 : ¬ L.items ≤ l.length) (h3 : ¬ tagE (s.toList.getD p 0) ≠ 0) (hV : within (s.toList.getD p 0) = true) (h4 : L.depth ≤ G.length) :
    Calls Tryd.prog 50 #[.pointer (some ⟨g, 0, none⟩), .int .i64 (p : Int), .int .i64 (G.length : Int), .int .i64 z] w (DElem s L ro g O fr G l p w) := by
  have W := Lib.hid (dwant_yes hR (p : Int) p rfl h0.1 h0.2 hz)
  have hh := has_yes s L p h0
  obtain ⟨m, hm⟩ : ∃ m, O.length = m := ⟨_, rfl⟩
  have HM := Lib.hid hm
  have hlm : l.length = m := hl.trans hm
  obtain ⟨t, ht⟩ : ∃ t, (s.toList.getD p 0).toNat = t := ⟨_, rfl⟩
  have ht2 : t < 256 := by rw [← ht]; exact (s.toList.getD p 0).toNat_lt
  have hlt : p < s.size := h0.1
  have hsp : (s[p]'hlt).toNat = t := by rw [← tl_getD s p hlt]; exact ht
  obtain ⟨hte, hwi⟩ := tag_nat s p t ht
  have TG := Lib.hid (fun w => rtag_any t ht2 w)
  rw [← hte] at TG
  rw [Classical.not_not.1 h3] at TG
  have e1 : ¬ (L.items : Int) ≤ (m : Int) := by omega
  have e1b : decide ((L.items : Int) ≤ (m : Int)) = false := decide_eq_false e1
  obtain ⟨x, hx⟩ : ∃ x, t / 32 = x := ⟨_, rfl⟩
  have e3 : (t : Int) / 32 = (x : Int) := by omega
  have e6 : IntKind.u8.wrap (x : Int) = (x : Int) := by simp [IntKind.wrap, IntKind.bits, IntKind.signed]; omega
  have e10 : (p : Int) ≤ 140737488351232 := by omega
  obtain ⟨d, hd⟩ : ∃ d, G.length = d := ⟨_, rfl⟩
  rw [hd]
  have HE := Lib.hid (elS_depth (G := G) hh h2 h3 ⟨hV, h4⟩)
  have hy : x % 2 = 1 := by rw [hwi, decide_eq_true_iff] at hV; omega
  have e4 : (x : Int) % 2 = 1 := by omega
  have e5 : (L.depth : Int) ≤ (d : Int) := by omega
  clear hR hl hz hp hG hGl h0 h2 hm hlm hh ht ht2 hte hwi h3 hx hy hV h4 hd
  go_enter Tryd.func50, Tryd.ntmps50
  go_wp2_with (first
    | (go_at_call 51; refine W.out.mono ?_; rintro e w1 ⟨rfl, HQ1, HB1⟩; obtain ⟨a1, c1, tk1, HR1⟩ := HQ1.out.opn; have g0 := HQ1.out.txt)
    | (go_at_call 37; refine (TG.out _).mono ?_; rintro e wt ⟨rfl, rfl⟩)
    | (go_at_call 52; refine (dfault_ok (by first | exact HQ4.out.drewN _ | exact HQ4.out | exact HQ3.out | exact HQ2.out.drewN _ | exact HQ2.out | exact HQ1.out.drewN _ | exact HQ1.out) _ _ p rfl).mono ?_; rintro e wf ⟨rfl, HRF, HBF⟩)
    | (go_at_call 68; refine (LE.out _ (HQ1.out.drewN _)).mono ?_; rintro e w2 ⟨rfl, HQ2, HB2⟩)
    | (go_at_call 69; refine (AL.out _ HQ2.out).mono ?_; rintro e w3 ⟨rfl, HQ3, HB3⟩; have g3 := HQ3.out.txt)
    | (go_at_call 38; refine (BO.out _).mono ?_; rintro e w4 ⟨rfl, hb4⟩; have HQ4 := Lib.hid (HQ3.out.below hb4); have HB4 : Hid (Below g w3 w4) := hb4.mono (Nat.le_of_lt HQ3.out.lt); clear hb4)
    | (go_at_call 70; refine (IN.out _ HQ2.out).mono ?_; intro e w3 hin))
  have k5 := HR1.out.at0.cell 5 _ rfl
  have k2 := HR1.out.at0.cell 2 _ rfl
  have k1 := HR1.out.at0.cell 1 _ rfl
  rw [HM.out] at k5
  go_quiet (fail)
  go_wp2_with (first
    | (go_at_call 51; refine W.out.mono ?_; rintro e w1 ⟨rfl, HQ1, HB1⟩; obtain ⟨a1, c1, tk1, HR1⟩ := HQ1.out.opn; have g0 := HQ1.out.txt)
    | (go_at_call 37; refine (TG.out _).mono ?_; rintro e wt ⟨rfl, rfl⟩)
    | (go_at_call 52; refine (dfault_ok (by first | exact HQ4.out.drewN _ | exact HQ4.out | exact HQ3.out | exact HQ2.out.drewN _ | exact HQ2.out | exact HQ1.out.drewN _ | exact HQ1.out) _ _ p rfl).mono ?_; rintro e wf ⟨rfl, HRF, HBF⟩)
    | (go_at_call 68; refine (LE.out _ (HQ1.out.drewN _)).mono ?_; rintro e w2 ⟨rfl, HQ2, HB2⟩)
    | (go_at_call 69; refine (AL.out _ HQ2.out).mono ?_; rintro e w3 ⟨rfl, HQ3, HB3⟩; have g3 := HQ3.out.txt)
    | (go_at_call 38; refine (BO.out _).mono ?_; rintro e w4 ⟨rfl, hb4⟩; have HQ4 := Lib.hid (HQ3.out.below hb4); have HB4 : Hid (Below g w3 w4) := hb4.mono (Nat.le_of_lt HQ3.out.lt); clear hb4)
    | (go_at_call 70; refine (IN.out _ HQ2.out).mono ?_; intro e w3 hin))
  go_ret2
  exact DElem.no _ _ _ rfl HRF ((HB1.out.trans (below_drewN _ _ _)).trans HBF.out) HE.out
set_option maxRecDepth 100000 in
set_option maxHeartbeats 1600000 in
theorem delem_len_in (w : World) (g : Nat) (s : ByteArray) (L : Lm) (ro : Int) (O : List Nd) (fr : Nat) (G : List Fr) (l : List Nd) (p : Nat) (z : Int) (hR : Rok w g s L ro O fr) (hl : l.length = O.length) (hz : s.size ≤ 140737488351232) (hp : p ≤ s.size) (hG : EndOf G z) (hGl : G.length ≤ 1000000) (h0 : p < s.size ∧ p < L.bytes) (h2 : ¬ L.items ≤ l.length) (h3 : ¬ tagE (s.toList.getD p 0) ≠ 0) (h4 : ¬ (within (s.toList.getD p 0) = true ∧ L.depth ≤ G.length)) (hV : within (s.toList.getD p 0) = true) {c : Int} {q : Nat} {b : Bool} (h5 : lenR s.toList L (p + 1) = .no c q b) :
    Calls Tryd.prog 50 #[.pointer (some ⟨g, 0, none⟩), .int .i64 (p : Int), .int .i64 (G.length : Int), .int .i64 z] w (DElem s L ro g O fr G l p w) := by
  have W := Lib.hid (dwant_yes hR (p : Int) p rfl h0.1 h0.2 hz)
  have hh := has_yes s L p h0
  obtain ⟨m, hm⟩ : ∃ m, O.length = m := ⟨_, rfl⟩
  have HM := Lib.hid hm
  have hlm : l.length = m := hl.trans hm
  obtain ⟨t, ht⟩ : ∃ t, (s.toList.getD p 0).toNat = t := ⟨_, rfl⟩
  have ht2 : t < 256 := by rw [← ht]; exact (s.toList.getD p 0).toNat_lt
  have hlt : p < s.size := h0.1
  have hsp : (s[p]'hlt).toNat = t := by rw [← tl_getD s p hlt]; exact ht
  obtain ⟨hte, hwi⟩ := tag_nat s p t ht
  have TG := Lib.hid (fun w => rtag_any t ht2 w)
  rw [← hte] at TG
  rw [Classical.not_not.1 h3] at TG
  have e1 : ¬ (L.items : Int) ≤ (m : Int) := by omega
  have e1b : decide ((L.items : Int) ≤ (m : Int)) = false := decide_eq_false e1
  obtain ⟨x, hx⟩ : ∃ x, t / 32 = x := ⟨_, rfl⟩
  have e3 : (t : Int) / 32 = (x : Int) := by omega
  have e6 : IntKind.u8.wrap (x : Int) = (x : Int) := by simp [IntKind.wrap, IntKind.bits, IntKind.signed]; omega
  have e10 : (p : Int) ≤ 140737488351232 := by omega
  obtain ⟨d, hd⟩ : ∃ d, G.length = d := ⟨_, rfl⟩
  rw [hd]
  have HE := Lib.hid (elS_len2 (G := G) hh h2 h3 h4 h5)
  have LE := Lib.hid (fun w' (h' : Rok w' g s L ro O fr) => dlength_any h' ((p : Int) + 1) (p + 1) (by omega) hz (show p + 1 ≤ s.size from h0.1))
  rw [h5] at LE
  have hy : x % 2 = 1 := by rw [hwi, decide_eq_true_iff] at hV; omega
  have e4 : (x : Int) % 2 = 1 := by omega
  have e5 : ¬ (L.depth : Int) ≤ (d : Int) := by have h9 : ¬ L.depth ≤ d := fun h => h4 ⟨hV, by rw [hd]; exact h⟩; omega
  have e5b : decide ((L.depth : Int) ≤ (d : Int)) = false := decide_eq_false e5
  clear hR hl hz hp hG hGl h0 h2 hm hlm hh ht ht2 hte hwi h3 hx hy hV h4 hd h5
  go_enter Tryd.func50, Tryd.ntmps50
  go_wp2_with (first
    | (go_at_call 51; refine W.out.mono ?_; rintro e w1 ⟨rfl, HQ1, HB1⟩; obtain ⟨a1, c1, tk1, HR1⟩ := HQ1.out.opn; have g0 := HQ1.out.txt)
    | (go_at_call 37; refine (TG.out _).mono ?_; rintro e wt ⟨rfl, rfl⟩)
    | (go_at_call 52; refine (dfault_ok (by first | exact HQ4.out.drewN _ | exact HQ4.out | exact HQ3.out | exact HQ2.out.drewN _ | exact HQ2.out | exact HQ1.out.drewN _ | exact HQ1.out) _ _ p rfl).mono ?_; rintro e wf ⟨rfl, HRF, HBF⟩)
    | (go_at_call 68; refine (LE.out _ (HQ1.out.drewN _)).mono ?_; rintro e w2 ⟨rfl, HQ2, HB2⟩)
    | (go_at_call 69; refine (AL.out _ HQ2.out).mono ?_; rintro e w3 ⟨rfl, HQ3, HB3⟩; have g3 := HQ3.out.txt)
    | (go_at_call 38; refine (BO.out _).mono ?_; rintro e w4 ⟨rfl, hb4⟩; have HQ4 := Lib.hid (HQ3.out.below hb4); have HB4 : Hid (Below g w3 w4) := hb4.mono (Nat.le_of_lt HQ3.out.lt); clear hb4)
    | (go_at_call 70; refine (IN.out _ HQ2.out).mono ?_; intro e w3 hin))
  have k5 := HR1.out.at0.cell 5 _ rfl
  have k2 := HR1.out.at0.cell 2 _ rfl
  have k1 := HR1.out.at0.cell 1 _ rfl
  rw [HM.out] at k5
  go_quiet (fail)
  go_wp2_with (first
    | (go_at_call 51; refine W.out.mono ?_; rintro e w1 ⟨rfl, HQ1, HB1⟩; obtain ⟨a1, c1, tk1, HR1⟩ := HQ1.out.opn; have g0 := HQ1.out.txt)
    | (go_at_call 37; refine (TG.out _).mono ?_; rintro e wt ⟨rfl, rfl⟩)
    | (go_at_call 52; refine (dfault_ok (by first | exact HQ4.out.drewN _ | exact HQ4.out | exact HQ3.out | exact HQ2.out.drewN _ | exact HQ2.out | exact HQ1.out.drewN _ | exact HQ1.out) _ _ p rfl).mono ?_; rintro e wf ⟨rfl, HRF, HBF⟩)
    | (go_at_call 68; refine (LE.out _ (HQ1.out.drewN _)).mono ?_; rintro e w2 ⟨rfl, HQ2, HB2⟩)
    | (go_at_call 69; refine (AL.out _ HQ2.out).mono ?_; rintro e w3 ⟨rfl, HQ3, HB3⟩; have g3 := HQ3.out.txt)
    | (go_at_call 38; refine (BO.out _).mono ?_; rintro e w4 ⟨rfl, hb4⟩; have HQ4 := Lib.hid (HQ3.out.below hb4); have HB4 : Hid (Below g w3 w4) := hb4.mono (Nat.le_of_lt HQ3.out.lt); clear hb4)
    | (go_at_call 70; refine (IN.out _ HQ2.out).mono ?_; intro e w3 hin))
  go_ret2
  exact DElem.no _ _ _ rfl HQ2 ((HB1.out.trans (below_drewN _ _ _)).trans HB2.out) HE.out
set_option maxRecDepth 100000 in
set_option maxHeartbeats 1600000 in
theorem delem_len_out (w : World) (g : Nat) (s : ByteArray) (L : Lm) (ro : Int) (O : List Nd) (fr : Nat) (G : List Fr) (l : List Nd) (p : Nat) (z : Int) (hR : Rok w g s L ro O fr) (hl : l.length = O.length) (hz : s.size ≤ 140737488351232) (hp : p ≤ s.size) (hG : EndOf G z) (hGl : G.length ≤ 1000000) (h0 : p < s.size ∧ p < L.bytes) (h2 : ¬ L.items ≤ l.length) (h3 : ¬ tagE (s.toList.getD p 0) ≠ 0) (h4 : ¬ (within (s.toList.getD p 0) = true ∧ L.depth ≤ G.length)) (hV : ¬ within (s.toList.getD p 0) = true) {c : Int} {q : Nat} {b : Bool} (h5 : lenR s.toList L (p + 1) = .no c q b) :
    Calls Tryd.prog 50 #[.pointer (some ⟨g, 0, none⟩), .int .i64 (p : Int), .int .i64 (G.length : Int), .int .i64 z] w (DElem s L ro g O fr G l p w) := by
  have W := Lib.hid (dwant_yes hR (p : Int) p rfl h0.1 h0.2 hz)
  have hh := has_yes s L p h0
  obtain ⟨m, hm⟩ : ∃ m, O.length = m := ⟨_, rfl⟩
  have HM := Lib.hid hm
  have hlm : l.length = m := hl.trans hm
  obtain ⟨t, ht⟩ : ∃ t, (s.toList.getD p 0).toNat = t := ⟨_, rfl⟩
  have ht2 : t < 256 := by rw [← ht]; exact (s.toList.getD p 0).toNat_lt
  have hlt : p < s.size := h0.1
  have hsp : (s[p]'hlt).toNat = t := by rw [← tl_getD s p hlt]; exact ht
  obtain ⟨hte, hwi⟩ := tag_nat s p t ht
  have TG := Lib.hid (fun w => rtag_any t ht2 w)
  rw [← hte] at TG
  rw [Classical.not_not.1 h3] at TG
  have e1 : ¬ (L.items : Int) ≤ (m : Int) := by omega
  have e1b : decide ((L.items : Int) ≤ (m : Int)) = false := decide_eq_false e1
  obtain ⟨x, hx⟩ : ∃ x, t / 32 = x := ⟨_, rfl⟩
  have e3 : (t : Int) / 32 = (x : Int) := by omega
  have e6 : IntKind.u8.wrap (x : Int) = (x : Int) := by simp [IntKind.wrap, IntKind.bits, IntKind.signed]; omega
  have e10 : (p : Int) ≤ 140737488351232 := by omega
  obtain ⟨d, hd⟩ : ∃ d, G.length = d := ⟨_, rfl⟩
  rw [hd]
  have HE := Lib.hid (elS_len2 (G := G) hh h2 h3 h4 h5)
  have LE := Lib.hid (fun w' (h' : Rok w' g s L ro O fr) => dlength_any h' ((p : Int) + 1) (p + 1) (by omega) hz (show p + 1 ≤ s.size from h0.1))
  rw [h5] at LE
  have hy : x % 2 = 0 := by rw [hwi, decide_eq_true_iff] at hV; omega
  have e4 : (x : Int) % 2 = 0 := by omega
  clear hR hl hz hp hG hGl h0 h2 hm hlm hh ht ht2 hte hwi h3 hx hy hV h4 hd h5
  go_enter Tryd.func50, Tryd.ntmps50
  go_wp2_with (first
    | (go_at_call 51; refine W.out.mono ?_; rintro e w1 ⟨rfl, HQ1, HB1⟩; obtain ⟨a1, c1, tk1, HR1⟩ := HQ1.out.opn; have g0 := HQ1.out.txt)
    | (go_at_call 37; refine (TG.out _).mono ?_; rintro e wt ⟨rfl, rfl⟩)
    | (go_at_call 52; refine (dfault_ok (by first | exact HQ4.out.drewN _ | exact HQ4.out | exact HQ3.out | exact HQ2.out.drewN _ | exact HQ2.out | exact HQ1.out.drewN _ | exact HQ1.out) _ _ p rfl).mono ?_; rintro e wf ⟨rfl, HRF, HBF⟩)
    | (go_at_call 68; refine (LE.out _ (HQ1.out.drewN _)).mono ?_; rintro e w2 ⟨rfl, HQ2, HB2⟩)
    | (go_at_call 69; refine (AL.out _ HQ2.out).mono ?_; rintro e w3 ⟨rfl, HQ3, HB3⟩; have g3 := HQ3.out.txt)
    | (go_at_call 38; refine (BO.out _).mono ?_; rintro e w4 ⟨rfl, hb4⟩; have HQ4 := Lib.hid (HQ3.out.below hb4); have HB4 : Hid (Below g w3 w4) := hb4.mono (Nat.le_of_lt HQ3.out.lt); clear hb4)
    | (go_at_call 70; refine (IN.out _ HQ2.out).mono ?_; intro e w3 hin))
  have k5 := HR1.out.at0.cell 5 _ rfl
  have k2 := HR1.out.at0.cell 2 _ rfl
  have k1 := HR1.out.at0.cell 1 _ rfl
  rw [HM.out] at k5
  go_quiet (fail)
  go_wp2_with (first
    | (go_at_call 51; refine W.out.mono ?_; rintro e w1 ⟨rfl, HQ1, HB1⟩; obtain ⟨a1, c1, tk1, HR1⟩ := HQ1.out.opn; have g0 := HQ1.out.txt)
    | (go_at_call 37; refine (TG.out _).mono ?_; rintro e wt ⟨rfl, rfl⟩)
    | (go_at_call 52; refine (dfault_ok (by first | exact HQ4.out.drewN _ | exact HQ4.out | exact HQ3.out | exact HQ2.out.drewN _ | exact HQ2.out | exact HQ1.out.drewN _ | exact HQ1.out) _ _ p rfl).mono ?_; rintro e wf ⟨rfl, HRF, HBF⟩)
    | (go_at_call 68; refine (LE.out _ (HQ1.out.drewN _)).mono ?_; rintro e w2 ⟨rfl, HQ2, HB2⟩)
    | (go_at_call 69; refine (AL.out _ HQ2.out).mono ?_; rintro e w3 ⟨rfl, HQ3, HB3⟩; have g3 := HQ3.out.txt)
    | (go_at_call 38; refine (BO.out _).mono ?_; rintro e w4 ⟨rfl, hb4⟩; have HQ4 := Lib.hid (HQ3.out.below hb4); have HB4 : Hid (Below g w3 w4) := hb4.mono (Nat.le_of_lt HQ3.out.lt); clear hb4)
    | (go_at_call 70; refine (IN.out _ HQ2.out).mono ?_; intro e w3 hin))
  go_ret2
  exact DElem.no _ _ _ rfl HQ2 ((HB1.out.trans (below_drewN _ _ _)).trans HB2.out) HE.out
set_option maxRecDepth 100000 in
set_option maxHeartbeats 1600000 in
theorem delem_end_in (w : World) (g : Nat) (s : ByteArray) (L : Lm) (ro : Int) (O : List Nd) (fr : Nat) (G : List Fr) (l : List Nd) (p : Nat) (z : Int) (hR : Rok w g s L ro O fr) (hl : l.length = O.length) (hz : s.size ≤ 140737488351232) (hp : p ≤ s.size) (hG : EndOf G z) (hGl : G.length ≤ 1000000) (h0 : p < s.size ∧ p < L.bytes) (h2 : ¬ L.items ≤ l.length) (h3 : ¬ tagE (s.toList.getD p 0) ≠ 0) (h4 : ¬ (within (s.toList.getD p 0) = true ∧ L.depth ≤ G.length)) (hV : within (s.toList.getD p 0) = true) {n q : Nat} (h5 : lenR s.toList L (p + 1) = .ok (n, q)) (h6 : (G.head?.any fun f => decide (f.e < q + n)) = true) :
    Calls Tryd.prog 50 #[.pointer (some ⟨g, 0, none⟩), .int .i64 (p : Int), .int .i64 (G.length : Int), .int .i64 z] w (DElem s L ro g O fr G l p w) := by
  have W := Lib.hid (dwant_yes hR (p : Int) p rfl h0.1 h0.2 hz)
  have hh := has_yes s L p h0
  obtain ⟨m, hm⟩ : ∃ m, O.length = m := ⟨_, rfl⟩
  have HM := Lib.hid hm
  have hlm : l.length = m := hl.trans hm
  obtain ⟨t, ht⟩ : ∃ t, (s.toList.getD p 0).toNat = t := ⟨_, rfl⟩
  have ht2 : t < 256 := by rw [← ht]; exact (s.toList.getD p 0).toNat_lt
  have hlt : p < s.size := h0.1
  have hsp : (s[p]'hlt).toNat = t := by rw [← tl_getD s p hlt]; exact ht
  obtain ⟨hte, hwi⟩ := tag_nat s p t ht
  have TG := Lib.hid (fun w => rtag_any t ht2 w)
  rw [← hte] at TG
  rw [Classical.not_not.1 h3] at TG
  have e1 : ¬ (L.items : Int) ≤ (m : Int) := by omega
  have e1b : decide ((L.items : Int) ≤ (m : Int)) = false := decide_eq_false e1
  obtain ⟨x, hx⟩ : ∃ x, t / 32 = x := ⟨_, rfl⟩
  have e3 : (t : Int) / 32 = (x : Int) := by omega
  have e6 : IntKind.u8.wrap (x : Int) = (x : Int) := by simp [IntKind.wrap, IntKind.bits, IntKind.signed]; omega
  have e10 : (p : Int) ≤ 140737488351232 := by omega
  obtain ⟨d, hd⟩ : ∃ d, G.length = d := ⟨_, rfl⟩
  rw [hd]
  have HE := Lib.hid (elS_end (G := G) hh h2 h3 h4 h5 h6)
  have LE := Lib.hid (fun w' (h' : Rok w' g s L ro O fr) => dlength_any h' ((p : Int) + 1) (p + 1) (by omega) hz (show p + 1 ≤ s.size from h0.1))
  rw [h5] at LE
  have hpl := lenR_pl h5
  rw [tl_size] at hpl
  obtain ⟨v, hv⟩ : ∃ v, q + n = v := ⟨_, rfl⟩
  have e7 : (q : Int) + (n : Int) = (v : Int) := by omega
  have e8 : IntKind.i64.wrap (v : Int) = (v : Int) := wrap_fit v (by unfold maxLen; omega)
  obtain ⟨f, G2, rfl, rfl⟩ : ∃ f G', G = f :: G' ∧ z = (f.e : Int) := by
    rcases hG with ⟨rfl, _⟩ | h
    · exact absurd h6 (by simp)
    · exact h
  have hfe : f.e < q + n := by simpa using h6
  have e9 : (f.e : Int) < (v : Int) := by omega
  have e9b : (0 : Int) ≤ (f.e : Int) := by omega
  have hy : x % 2 = 1 := by rw [hwi, decide_eq_true_iff] at hV; omega
  have e4 : (x : Int) % 2 = 1 := by omega
  have e5 : ¬ (L.depth : Int) ≤ (d : Int) := by have h9 : ¬ L.depth ≤ d := fun h => h4 ⟨hV, by rw [hd]; exact h⟩; omega
  have e5b : decide ((L.depth : Int) ≤ (d : Int)) = false := decide_eq_false e5
  clear hR hl hz hp hGl h0 h2 hm hlm hh ht ht2 hte hwi h3 hx hy hV h4 hd h5 h6 hfe hpl hv
  go_enter Tryd.func50, Tryd.ntmps50
  go_wp2_with (first
    | (go_at_call 51; refine W.out.mono ?_; rintro e w1 ⟨rfl, HQ1, HB1⟩; obtain ⟨a1, c1, tk1, HR1⟩ := HQ1.out.opn; have g0 := HQ1.out.txt)
    | (go_at_call 37; refine (TG.out _).mono ?_; rintro e wt ⟨rfl, rfl⟩)
    | (go_at_call 52; refine (dfault_ok (by first | exact HQ4.out.drewN _ | exact HQ4.out | exact HQ3.out | exact HQ2.out.drewN _ | exact HQ2.out | exact HQ1.out.drewN _ | exact HQ1.out) _ _ p rfl).mono ?_; rintro e wf ⟨rfl, HRF, HBF⟩)
    | (go_at_call 68; refine (LE.out _ (HQ1.out.drewN _)).mono ?_; rintro e w2 ⟨rfl, HQ2, HB2⟩)
    | (go_at_call 69; refine (AL.out _ HQ2.out).mono ?_; rintro e w3 ⟨rfl, HQ3, HB3⟩; have g3 := HQ3.out.txt)
    | (go_at_call 38; refine (BO.out _).mono ?_; rintro e w4 ⟨rfl, hb4⟩; have HQ4 := Lib.hid (HQ3.out.below hb4); have HB4 : Hid (Below g w3 w4) := hb4.mono (Nat.le_of_lt HQ3.out.lt); clear hb4)
    | (go_at_call 70; refine (IN.out _ HQ2.out).mono ?_; intro e w3 hin))
  have k5 := HR1.out.at0.cell 5 _ rfl
  have k2 := HR1.out.at0.cell 2 _ rfl
  have k1 := HR1.out.at0.cell 1 _ rfl
  rw [HM.out] at k5
  go_quiet (fail)
  go_wp2_with (first
    | (go_at_call 51; refine W.out.mono ?_; rintro e w1 ⟨rfl, HQ1, HB1⟩; obtain ⟨a1, c1, tk1, HR1⟩ := HQ1.out.opn; have g0 := HQ1.out.txt)
    | (go_at_call 37; refine (TG.out _).mono ?_; rintro e wt ⟨rfl, rfl⟩)
    | (go_at_call 52; refine (dfault_ok (by first | exact HQ4.out.drewN _ | exact HQ4.out | exact HQ3.out | exact HQ2.out.drewN _ | exact HQ2.out | exact HQ1.out.drewN _ | exact HQ1.out) _ _ p rfl).mono ?_; rintro e wf ⟨rfl, HRF, HBF⟩)
    | (go_at_call 68; refine (LE.out _ (HQ1.out.drewN _)).mono ?_; rintro e w2 ⟨rfl, HQ2, HB2⟩)
    | (go_at_call 69; refine (AL.out _ HQ2.out).mono ?_; rintro e w3 ⟨rfl, HQ3, HB3⟩; have g3 := HQ3.out.txt)
    | (go_at_call 38; refine (BO.out _).mono ?_; rintro e w4 ⟨rfl, hb4⟩; have HQ4 := Lib.hid (HQ3.out.below hb4); have HB4 : Hid (Below g w3 w4) := hb4.mono (Nat.le_of_lt HQ3.out.lt); clear hb4)
    | (go_at_call 70; refine (IN.out _ HQ2.out).mono ?_; intro e w3 hin))
  go_ret2
  exact DElem.no _ _ _ rfl HRF (((HB1.out.trans (below_drewN _ _ _)).trans HB2.out).trans HBF.out) HE.out
set_option maxRecDepth 100000 in
set_option maxHeartbeats 1600000 in
theorem delem_end_out (w : World) (g : Nat) (s : ByteArray) (L : Lm) (ro : Int) (O : List Nd) (fr : Nat) (G : List Fr) (l : List Nd) (p : Nat) (z : Int) (hR : Rok w g s L ro O fr) (hl : l.length = O.length) (hz : s.size ≤ 140737488351232) (hp : p ≤ s.size) (hG : EndOf G z) (hGl : G.length ≤ 1000000) (h0 : p < s.size ∧ p < L.bytes) (h2 : ¬ L.items ≤ l.length) (h3 : ¬ tagE (s.toList.getD p 0) ≠ 0) (h4 : ¬ (within (s.toList.getD p 0) = true ∧ L.depth ≤ G.length)) (hV : ¬ within (s.toList.getD p 0) = true) {n q : Nat} (h5 : lenR s.toList L (p + 1) = .ok (n, q)) (h6 : (G.head?.any fun f => decide (f.e < q + n)) = true) :
    Calls Tryd.prog 50 #[.pointer (some ⟨g, 0, none⟩), .int .i64 (p : Int), .int .i64 (G.length : Int), .int .i64 z] w (DElem s L ro g O fr G l p w) := by
  have W := Lib.hid (dwant_yes hR (p : Int) p rfl h0.1 h0.2 hz)
  have hh := has_yes s L p h0
  obtain ⟨m, hm⟩ : ∃ m, O.length = m := ⟨_, rfl⟩
  have HM := Lib.hid hm
  have hlm : l.length = m := hl.trans hm
  obtain ⟨t, ht⟩ : ∃ t, (s.toList.getD p 0).toNat = t := ⟨_, rfl⟩
  have ht2 : t < 256 := by rw [← ht]; exact (s.toList.getD p 0).toNat_lt
  have hlt : p < s.size := h0.1
  have hsp : (s[p]'hlt).toNat = t := by rw [← tl_getD s p hlt]; exact ht
  obtain ⟨hte, hwi⟩ := tag_nat s p t ht
  have TG := Lib.hid (fun w => rtag_any t ht2 w)
  rw [← hte] at TG
  rw [Classical.not_not.1 h3] at TG
  have e1 : ¬ (L.items : Int) ≤ (m : Int) := by omega
  have e1b : decide ((L.items : Int) ≤ (m : Int)) = false := decide_eq_false e1
  obtain ⟨x, hx⟩ : ∃ x, t / 32 = x := ⟨_, rfl⟩
  have e3 : (t : Int) / 32 = (x : Int) := by omega
  have e6 : IntKind.u8.wrap (x : Int) = (x : Int) := by simp [IntKind.wrap, IntKind.bits, IntKind.signed]; omega
  have e10 : (p : Int) ≤ 140737488351232 := by omega
  obtain ⟨d, hd⟩ : ∃ d, G.length = d := ⟨_, rfl⟩
  rw [hd]
  have HE := Lib.hid (elS_end (G := G) hh h2 h3 h4 h5 h6)
  have LE := Lib.hid (fun w' (h' : Rok w' g s L ro O fr) => dlength_any h' ((p : Int) + 1) (p + 1) (by omega) hz (show p + 1 ≤ s.size from h0.1))
  rw [h5] at LE
  have hpl := lenR_pl h5
  rw [tl_size] at hpl
  obtain ⟨v, hv⟩ : ∃ v, q + n = v := ⟨_, rfl⟩
  have e7 : (q : Int) + (n : Int) = (v : Int) := by omega
  have e8 : IntKind.i64.wrap (v : Int) = (v : Int) := wrap_fit v (by unfold maxLen; omega)
  obtain ⟨f, G2, rfl, rfl⟩ : ∃ f G', G = f :: G' ∧ z = (f.e : Int) := by
    rcases hG with ⟨rfl, _⟩ | h
    · exact absurd h6 (by simp)
    · exact h
  have hfe : f.e < q + n := by simpa using h6
  have e9 : (f.e : Int) < (v : Int) := by omega
  have e9b : (0 : Int) ≤ (f.e : Int) := by omega
  have hy : x % 2 = 0 := by rw [hwi, decide_eq_true_iff] at hV; omega
  have e4 : (x : Int) % 2 = 0 := by omega
  clear hR hl hz hp hGl h0 h2 hm hlm hh ht ht2 hte hwi h3 hx hy hV h4 hd h5 h6 hfe hpl hv
  go_enter Tryd.func50, Tryd.ntmps50
  go_wp2_with (first
    | (go_at_call 51; refine W.out.mono ?_; rintro e w1 ⟨rfl, HQ1, HB1⟩; obtain ⟨a1, c1, tk1, HR1⟩ := HQ1.out.opn; have g0 := HQ1.out.txt)
    | (go_at_call 37; refine (TG.out _).mono ?_; rintro e wt ⟨rfl, rfl⟩)
    | (go_at_call 52; refine (dfault_ok (by first | exact HQ4.out.drewN _ | exact HQ4.out | exact HQ3.out | exact HQ2.out.drewN _ | exact HQ2.out | exact HQ1.out.drewN _ | exact HQ1.out) _ _ p rfl).mono ?_; rintro e wf ⟨rfl, HRF, HBF⟩)
    | (go_at_call 68; refine (LE.out _ (HQ1.out.drewN _)).mono ?_; rintro e w2 ⟨rfl, HQ2, HB2⟩)
    | (go_at_call 69; refine (AL.out _ HQ2.out).mono ?_; rintro e w3 ⟨rfl, HQ3, HB3⟩; have g3 := HQ3.out.txt)
    | (go_at_call 38; refine (BO.out _).mono ?_; rintro e w4 ⟨rfl, hb4⟩; have HQ4 := Lib.hid (HQ3.out.below hb4); have HB4 : Hid (Below g w3 w4) := hb4.mono (Nat.le_of_lt HQ3.out.lt); clear hb4)
    | (go_at_call 70; refine (IN.out _ HQ2.out).mono ?_; intro e w3 hin))
  have k5 := HR1.out.at0.cell 5 _ rfl
  have k2 := HR1.out.at0.cell 2 _ rfl
  have k1 := HR1.out.at0.cell 1 _ rfl
  rw [HM.out] at k5
  go_quiet (fail)
  go_wp2_with (first
    | (go_at_call 51; refine W.out.mono ?_; rintro e w1 ⟨rfl, HQ1, HB1⟩; obtain ⟨a1, c1, tk1, HR1⟩ := HQ1.out.opn; have g0 := HQ1.out.txt)
    | (go_at_call 37; refine (TG.out _).mono ?_; rintro e wt ⟨rfl, rfl⟩)
    | (go_at_call 52; refine (dfault_ok (by first | exact HQ4.out.drewN _ | exact HQ4.out | exact HQ3.out | exact HQ2.out.drewN _ | exact HQ2.out | exact HQ1.out.drewN _ | exact HQ1.out) _ _ p rfl).mono ?_; rintro e wf ⟨rfl, HRF, HBF⟩)
    | (go_at_call 68; refine (LE.out _ (HQ1.out.drewN _)).mono ?_; rintro e w2 ⟨rfl, HQ2, HB2⟩)
    | (go_at_call 69; refine (AL.out _ HQ2.out).mono ?_; rintro e w3 ⟨rfl, HQ3, HB3⟩; have g3 := HQ3.out.txt)
    | (go_at_call 38; refine (BO.out _).mono ?_; rintro e w4 ⟨rfl, hb4⟩; have HQ4 := Lib.hid (HQ3.out.below hb4); have HB4 : Hid (Below g w3 w4) := hb4.mono (Nat.le_of_lt HQ3.out.lt); clear hb4)
    | (go_at_call 70; refine (IN.out _ HQ2.out).mono ?_; intro e w3 hin))
  go_ret2
  exact DElem.no _ _ _ rfl HRF (((HB1.out.trans (below_drewN _ _ _)).trans HB2.out).trans HBF.out) HE.out
set_option maxRecDepth 100000 in
set_option maxHeartbeats 1600000 in
theorem delem_skipn (w : World) (g : Nat) (s : ByteArray) (L : Lm) (ro : Int) (O : List Nd) (fr : Nat) (G : List Fr) (l : List Nd) (p : Nat) (z : Int) (hR : Rok w g s L ro O fr) (hl : l.length = O.length) (hz : s.size ≤ 140737488351232) (hp : p ≤ s.size) (hG : EndOf G z) (hGl : G.length ≤ 1000000) (h0 : p < s.size ∧ p < L.bytes) (h2 : ¬ L.items ≤ l.length) (h3 : ¬ tagE (s.toList.getD p 0) ≠ 0) (h4 : ¬ (within (s.toList.getD p 0) = true ∧ L.depth ≤ G.length)) (hV : ¬ within (s.toList.getD p 0) = true) {n q : Nat} (h5 : lenR s.toList L (p + 1) = .ok (n, q)) (h6 : ¬ (G.head?.any fun f => decide (f.e < q + n)) = true) (hgn : G = []) (h8 : n ≠ 0 ∧ has s.toList L (q + n - 1) = false) :
    Calls Tryd.prog 50 #[.pointer (some ⟨g, 0, none⟩), .int .i64 (p : Int), .int .i64 (G.length : Int), .int .i64 z] w (DElem s L ro g O fr G l p w) := by
  have W := Lib.hid (dwant_yes hR (p : Int) p rfl h0.1 h0.2 hz)
  have hh := has_yes s L p h0
  obtain ⟨m, hm⟩ : ∃ m, O.length = m := ⟨_, rfl⟩
  have HM := Lib.hid hm
  have hlm : l.length = m := hl.trans hm
  obtain ⟨t, ht⟩ : ∃ t, (s.toList.getD p 0).toNat = t := ⟨_, rfl⟩
  have ht2 : t < 256 := by rw [← ht]; exact (s.toList.getD p 0).toNat_lt
  have hlt : p < s.size := h0.1
  have hsp : (s[p]'hlt).toNat = t := by rw [← tl_getD s p hlt]; exact ht
  obtain ⟨hte, hwi⟩ := tag_nat s p t ht
  have TG := Lib.hid (fun w => rtag_any t ht2 w)
  rw [← hte] at TG
  rw [Classical.not_not.1 h3] at TG
  have e1 : ¬ (L.items : Int) ≤ (m : Int) := by omega
  have e1b : decide ((L.items : Int) ≤ (m : Int)) = false := decide_eq_false e1
  obtain ⟨x, hx⟩ : ∃ x, t / 32 = x := ⟨_, rfl⟩
  have e3 : (t : Int) / 32 = (x : Int) := by omega
  have e6 : IntKind.u8.wrap (x : Int) = (x : Int) := by simp [IntKind.wrap, IntKind.bits, IntKind.signed]; omega
  have e10 : (p : Int) ≤ 140737488351232 := by omega
  obtain ⟨d, hd⟩ : ∃ d, G.length = d := ⟨_, rfl⟩
  rw [hd]
  have HE := Lib.hid (elS_skip (G := G) hh h2 h3 h4 h5 h6 hV h8)
  have LE := Lib.hid (fun w' (h' : Rok w' g s L ro O fr) => dlength_any h' ((p : Int) + 1) (p + 1) (by omega) hz (show p + 1 ≤ s.size from h0.1))
  rw [h5] at LE
  have hpl := lenR_pl h5
  rw [tl_size] at hpl
  obtain ⟨v, hv⟩ : ∃ v, q + n = v := ⟨_, rfl⟩
  have e7 : (q : Int) + (n : Int) = (v : Int) := by omega
  have e8 : IntKind.i64.wrap (v : Int) = (v : Int) := wrap_fit v (by unfold maxLen; omega)
  have hn9 : n < 4294967296 := hpl.2.2
  have AL := Lib.hid (fun w' (h' : Rok w' g s L ro O fr) => dall_any h' q n hz (by omega) (by omega) _ rfl)
  rw [show decide (¬ (n ≠ 0 ∧ has s.toList L (q + n - 1) = false)) = false from decide_eq_false (fun h => h h8)] at AL
  obtain rfl := hgn
  obtain rfl : z = -1 := by rcases hG with ⟨_, h⟩ | ⟨f, G', h, _⟩; exact h; cases h
  have hy : x % 2 = 0 := by rw [hwi, decide_eq_true_iff] at hV; omega
  have e4 : (x : Int) % 2 = 0 := by omega
  clear hR hl hz hp hG hGl h0 h2 hm hlm hh ht ht2 hte hwi h3 hx hy hV h4 hd h5 h6 hpl hv h8 hn9
  go_enter Tryd.func50, Tryd.ntmps50
  go_wp2_with (first
    | (go_at_call 51; refine W.out.mono ?_; rintro e w1 ⟨rfl, HQ1, HB1⟩; obtain ⟨a1, c1, tk1, HR1⟩ := HQ1.out.opn; have g0 := HQ1.out.txt)
    | (go_at_call 37; refine (TG.out _).mono ?_; rintro e wt ⟨rfl, rfl⟩)
    | (go_at_call 52; refine (dfault_ok (by first | exact HQ4.out.drewN _ | exact HQ4.out | exact HQ3.out | exact HQ2.out.drewN _ | exact HQ2.out | exact HQ1.out.drewN _ | exact HQ1.out) _ _ p rfl).mono ?_; rintro e wf ⟨rfl, HRF, HBF⟩)
    | (go_at_call 68; refine (LE.out _ (HQ1.out.drewN _)).mono ?_; rintro e w2 ⟨rfl, HQ2, HB2⟩)
    | (go_at_call 69; refine (AL.out _ HQ2.out).mono ?_; rintro e w3 ⟨rfl, HQ3, HB3⟩; have g3 := HQ3.out.txt)
    | (go_at_call 38; refine (BO.out _).mono ?_; rintro e w4 ⟨rfl, hb4⟩; have HQ4 := Lib.hid (HQ3.out.below hb4); have HB4 : Hid (Below g w3 w4) := hb4.mono (Nat.le_of_lt HQ3.out.lt); clear hb4)
    | (go_at_call 70; refine (IN.out _ HQ2.out).mono ?_; intro e w3 hin))
  have k5 := HR1.out.at0.cell 5 _ rfl
  have k2 := HR1.out.at0.cell 2 _ rfl
  have k1 := HR1.out.at0.cell 1 _ rfl
  rw [HM.out] at k5
  go_quiet (fail)
  go_wp2_with (first
    | (go_at_call 51; refine W.out.mono ?_; rintro e w1 ⟨rfl, HQ1, HB1⟩; obtain ⟨a1, c1, tk1, HR1⟩ := HQ1.out.opn; have g0 := HQ1.out.txt)
    | (go_at_call 37; refine (TG.out _).mono ?_; rintro e wt ⟨rfl, rfl⟩)
    | (go_at_call 52; refine (dfault_ok (by first | exact HQ4.out.drewN _ | exact HQ4.out | exact HQ3.out | exact HQ2.out.drewN _ | exact HQ2.out | exact HQ1.out.drewN _ | exact HQ1.out) _ _ p rfl).mono ?_; rintro e wf ⟨rfl, HRF, HBF⟩)
    | (go_at_call 68; refine (LE.out _ (HQ1.out.drewN _)).mono ?_; rintro e w2 ⟨rfl, HQ2, HB2⟩)
    | (go_at_call 69; refine (AL.out _ HQ2.out).mono ?_; rintro e w3 ⟨rfl, HQ3, HB3⟩)
    | (go_at_call 38; refine (BO.out _).mono ?_; rintro e w4 ⟨rfl, hb4⟩; have HQ4 := Lib.hid (HQ3.out.below hb4); have HB4 : Hid (Below g w3 w4) := hb4.mono (Nat.le_of_lt HQ3.out.lt); clear hb4)
    | (go_at_call 70; refine (IN.out _ HQ2.out).mono ?_; intro e w3 hin))
  go_ret2
  exact DElem.no _ _ _ rfl HQ3 (((HB1.out.trans (below_drewN _ _ _)).trans HB2.out).trans HB3.out) HE.out
set_option maxRecDepth 100000 in
set_option maxHeartbeats 1600000 in
theorem delem_skipc (w : World) (g : Nat) (s : ByteArray) (L : Lm) (ro : Int) (O : List Nd) (fr : Nat) (G : List Fr) (l : List Nd) (p : Nat) (z : Int) (hR : Rok w g s L ro O fr) (hl : l.length = O.length) (hz : s.size ≤ 140737488351232) (hp : p ≤ s.size) (hG : EndOf G z) (hGl : G.length ≤ 1000000) (h0 : p < s.size ∧ p < L.bytes) (h2 : ¬ L.items ≤ l.length) (h3 : ¬ tagE (s.toList.getD p 0) ≠ 0) (h4 : ¬ (within (s.toList.getD p 0) = true ∧ L.depth ≤ G.length)) (hV : ¬ within (s.toList.getD p 0) = true) {n q : Nat} (h5 : lenR s.toList L (p + 1) = .ok (n, q)) (h6 : ¬ (G.head?.any fun f => decide (f.e < q + n)) = true) (hgn : ∃ f G2, G = f :: G2) (h8 : n ≠ 0 ∧ has s.toList L (q + n - 1) = false) :
    Calls Tryd.prog 50 #[.pointer (some ⟨g, 0, none⟩), .int .i64 (p : Int), .int .i64 (G.length : Int), .int .i64 z] w (DElem s L ro g O fr G l p w) := by
  have W := Lib.hid (dwant_yes hR (p : Int) p rfl h0.1 h0.2 hz)
  have hh := has_yes s L p h0
  obtain ⟨m, hm⟩ : ∃ m, O.length = m := ⟨_, rfl⟩
  have HM := Lib.hid hm
  have hlm : l.length = m := hl.trans hm
  obtain ⟨t, ht⟩ : ∃ t, (s.toList.getD p 0).toNat = t := ⟨_, rfl⟩
  have ht2 : t < 256 := by rw [← ht]; exact (s.toList.getD p 0).toNat_lt
  have hlt : p < s.size := h0.1
  have hsp : (s[p]'hlt).toNat = t := by rw [← tl_getD s p hlt]; exact ht
  obtain ⟨hte, hwi⟩ := tag_nat s p t ht
  have TG := Lib.hid (fun w => rtag_any t ht2 w)
  rw [← hte] at TG
  rw [Classical.not_not.1 h3] at TG
  have e1 : ¬ (L.items : Int) ≤ (m : Int) := by omega
  have e1b : decide ((L.items : Int) ≤ (m : Int)) = false := decide_eq_false e1
  obtain ⟨x, hx⟩ : ∃ x, t / 32 = x := ⟨_, rfl⟩
  have e3 : (t : Int) / 32 = (x : Int) := by omega
  have e6 : IntKind.u8.wrap (x : Int) = (x : Int) := by simp [IntKind.wrap, IntKind.bits, IntKind.signed]; omega
  have e10 : (p : Int) ≤ 140737488351232 := by omega
  obtain ⟨d, hd⟩ : ∃ d, G.length = d := ⟨_, rfl⟩
  rw [hd]
  have HE := Lib.hid (elS_skip (G := G) hh h2 h3 h4 h5 h6 hV h8)
  have LE := Lib.hid (fun w' (h' : Rok w' g s L ro O fr) => dlength_any h' ((p : Int) + 1) (p + 1) (by omega) hz (show p + 1 ≤ s.size from h0.1))
  rw [h5] at LE
  have hpl := lenR_pl h5
  rw [tl_size] at hpl
  obtain ⟨v, hv⟩ : ∃ v, q + n = v := ⟨_, rfl⟩
  have e7 : (q : Int) + (n : Int) = (v : Int) := by omega
  have e8 : IntKind.i64.wrap (v : Int) = (v : Int) := wrap_fit v (by unfold maxLen; omega)
  have hn9 : n < 4294967296 := hpl.2.2
  have AL := Lib.hid (fun w' (h' : Rok w' g s L ro O fr) => dall_any h' q n hz (by omega) (by omega) _ rfl)
  rw [show decide (¬ (n ≠ 0 ∧ has s.toList L (q + n - 1) = false)) = false from decide_eq_false (fun h => h h8)] at AL
  obtain ⟨f, G2, rfl⟩ := hgn
  obtain rfl : z = (f.e : Int) := by
    rcases hG with ⟨h, _⟩ | ⟨f', G', h, h7⟩
    · cases h
    · cases h; exact h7
  have hfe : ¬ f.e < q + n := by simpa using h6
  have e9 : ¬ (f.e : Int) < (v : Int) := by omega
  have e9c : decide ((f.e : Int) < (v : Int)) = false := decide_eq_false e9
  have e9b : (0 : Int) ≤ (f.e : Int) := by omega
  have hy : x % 2 = 0 := by rw [hwi, decide_eq_true_iff] at hV; omega
  have e4 : (x : Int) % 2 = 0 := by omega
  clear hR hl hz hp hG hGl h0 h2 hm hlm hh ht ht2 hte hwi h3 hx hy hV h4 hd h5 h6 hpl hv h8 hn9 hfe
  go_enter Tryd.func50, Tryd.ntmps50
  go_wp2_with (first
    | (go_at_call 51; refine W.out.mono ?_; rintro e w1 ⟨rfl, HQ1, HB1⟩; obtain ⟨a1, c1, tk1, HR1⟩ := HQ1.out.opn; have g0 := HQ1.out.txt)
    | (go_at_call 37; refine (TG.out _).mono ?_; rintro e wt ⟨rfl, rfl⟩)
    | (go_at_call 52; refine (dfault_ok (by first | exact HQ4.out.drewN _ | exact HQ4.out | exact HQ3.out | exact HQ2.out.drewN _ | exact HQ2.out | exact HQ1.out.drewN _ | exact HQ1.out) _ _ p rfl).mono ?_; rintro e wf ⟨rfl, HRF, HBF⟩)
    | (go_at_call 68; refine (LE.out _ (HQ1.out.drewN _)).mono ?_; rintro e w2 ⟨rfl, HQ2, HB2⟩)
    | (go_at_call 69; refine (AL.out _ HQ2.out).mono ?_; rintro e w3 ⟨rfl, HQ3, HB3⟩; have g3 := HQ3.out.txt)
    | (go_at_call 38; refine (BO.out _).mono ?_; rintro e w4 ⟨rfl, hb4⟩; have HQ4 := Lib.hid (HQ3.out.below hb4); have HB4 : Hid (Below g w3 w4) := hb4.mono (Nat.le_of_lt HQ3.out.lt); clear hb4)
    | (go_at_call 70; refine (IN.out _ HQ2.out).mono ?_; intro e w3 hin))
  have k5 := HR1.out.at0.cell 5 _ rfl
  have k2 := HR1.out.at0.cell 2 _ rfl
  have k1 := HR1.out.at0.cell 1 _ rfl
  rw [HM.out] at k5
  go_quiet (fail)
  go_wp2_with (first
    | (go_at_call 51; refine W.out.mono ?_; rintro e w1 ⟨rfl, HQ1, HB1⟩; obtain ⟨a1, c1, tk1, HR1⟩ := HQ1.out.opn; have g0 := HQ1.out.txt)
    | (go_at_call 37; refine (TG.out _).mono ?_; rintro e wt ⟨rfl, rfl⟩)
    | (go_at_call 52; refine (dfault_ok (by first | exact HQ4.out.drewN _ | exact HQ4.out | exact HQ3.out | exact HQ2.out.drewN _ | exact HQ2.out | exact HQ1.out.drewN _ | exact HQ1.out) _ _ p rfl).mono ?_; rintro e wf ⟨rfl, HRF, HBF⟩)
    | (go_at_call 68; refine (LE.out _ (HQ1.out.drewN _)).mono ?_; rintro e w2 ⟨rfl, HQ2, HB2⟩)
    | (go_at_call 69; refine (AL.out _ HQ2.out).mono ?_; rintro e w3 ⟨rfl, HQ3, HB3⟩)
    | (go_at_call 38; refine (BO.out _).mono ?_; rintro e w4 ⟨rfl, hb4⟩; have HQ4 := Lib.hid (HQ3.out.below hb4); have HB4 : Hid (Below g w3 w4) := hb4.mono (Nat.le_of_lt HQ3.out.lt); clear hb4)
    | (go_at_call 70; refine (IN.out _ HQ2.out).mono ?_; intro e w3 hin))
  go_ret2
  exact DElem.no _ _ _ rfl HQ3 (((HB1.out.trans (below_drewN _ _ _)).trans HB2.out).trans HB3.out) HE.out
set_option maxRecDepth 100000 in
set_option maxHeartbeats 1600000 in
theorem delem_bodyn (w : World) (g : Nat) (s : ByteArray) (L : Lm) (ro : Int) (O : List Nd) (fr : Nat) (G : List Fr) (l : List Nd) (p : Nat) (z : Int) (hR : Rok w g s L ro O fr) (hl : l.length = O.length) (hz : s.size ≤ 140737488351232) (hp : p ≤ s.size) (hG : EndOf G z) (hGl : G.length ≤ 1000000) (h0 : p < s.size ∧ p < L.bytes) (h2 : ¬ L.items ≤ l.length) (h3 : ¬ tagE (s.toList.getD p 0) ≠ 0) (h4 : ¬ (within (s.toList.getD p 0) = true ∧ L.depth ≤ G.length)) (hV : ¬ within (s.toList.getD p 0) = true) {n q : Nat} (h5 : lenR s.toList L (p + 1) = .ok (n, q)) (h6 : ¬ (G.head?.any fun f => decide (f.e < q + n)) = true) (hgn : G = []) (h8 : ¬ (n ≠ 0 ∧ has s.toList L (q + n - 1) = false)) (h9 : bodyOk (s.toList.getD p 0) (Dr.part s.toList q (q + n)) = false) :
    Calls Tryd.prog 50 #[.pointer (some ⟨g, 0, none⟩), .int .i64 (p : Int), .int .i64 (G.length : Int), .int .i64 z] w (DElem s L ro g O fr G l p w) := by
  have W := Lib.hid (dwant_yes hR (p : Int) p rfl h0.1 h0.2 hz)
  have hh := has_yes s L p h0
  obtain ⟨m, hm⟩ : ∃ m, O.length = m := ⟨_, rfl⟩
  have HM := Lib.hid hm
  have hlm : l.length = m := hl.trans hm
  obtain ⟨t, ht⟩ : ∃ t, (s.toList.getD p 0).toNat = t := ⟨_, rfl⟩
  have ht2 : t < 256 := by rw [← ht]; exact (s.toList.getD p 0).toNat_lt
  have hlt : p < s.size := h0.1
  have hsp : (s[p]'hlt).toNat = t := by rw [← tl_getD s p hlt]; exact ht
  obtain ⟨hte, hwi⟩ := tag_nat s p t ht
  have TG := Lib.hid (fun w => rtag_any t ht2 w)
  rw [← hte] at TG
  rw [Classical.not_not.1 h3] at TG
  have e1 : ¬ (L.items : Int) ≤ (m : Int) := by omega
  have e1b : decide ((L.items : Int) ≤ (m : Int)) = false := decide_eq_false e1
  obtain ⟨x, hx⟩ : ∃ x, t / 32 = x := ⟨_, rfl⟩
  have e3 : (t : Int) / 32 = (x : Int) := by omega
  have e6 : IntKind.u8.wrap (x : Int) = (x : Int) := by simp [IntKind.wrap, IntKind.bits, IntKind.signed]; omega
  have e10 : (p : Int) ≤ 140737488351232 := by omega
  obtain ⟨d, hd⟩ : ∃ d, G.length = d := ⟨_, rfl⟩
  rw [hd]
  have HE := Lib.hid (elS_body (G := G) hh h2 h3 h4 h5 h6 hV h8 h9)
  have LE := Lib.hid (fun w' (h' : Rok w' g s L ro O fr) => dlength_any h' ((p : Int) + 1) (p + 1) (by omega) hz (show p + 1 ≤ s.size from h0.1))
  rw [h5] at LE
  have hpl := lenR_pl h5
  rw [tl_size] at hpl
  obtain ⟨v, hv⟩ : ∃ v, q + n = v := ⟨_, rfl⟩
  have e7 : (q : Int) + (n : Int) = (v : Int) := by omega
  have e8 : IntKind.i64.wrap (v : Int) = (v : Int) := wrap_fit v (by unfold maxLen; omega)
  have hn9 : n < 4294967296 := hpl.2.2
  have AL := Lib.hid (fun w' (h' : Rok w' g s L ro O fr) => dall_any h' q n hz (by omega) (by omega) _ rfl)
  rw [show decide (¬ (n ≠ 0 ∧ has s.toList L (q + n - 1) = false)) = true from decide_eq_true h8] at AL
  have hv2 : v ≤ s.size := by
    by_cases hn : n = 0
    · omega
    · have h10 : has s.toList L (q + n - 1) = true := by
        cases h11 : has s.toList L (q + n - 1) with
        | true => rfl
        | false => exact absurd ⟨hn, h11⟩ h8
      have h12 : q + n - 1 < s.toList.length ∧ q + n - 1 < L.bytes := of_decide_eq_true h10
      rw [tl_size] at h12
      omega
  have e11 : (q : Int) ≤ (v : Int) := by omega
  have e12 : (v : Int) ≤ (s.size : Int) := by omega
  have hqv : q ≤ v := by omega
  obtain ⟨u, hu⟩ : ∃ u, s.extract q v = u := ⟨_, rfl⟩
  have hul : u.toList = Dr.part s.toList q (q + n) := by rw [← hu, tl_extract, hv]; rfl
  have hus : u.size ≤ 140737488351232 := by rw [← tl_size, hul, Dr.part, List.length_take, List.length_drop, tl_size]; omega
  have BO := Lib.hid (fun w' => rbody_any t ht2 u hus w')
  have hbo : bodyOk (s.toList.getD p 0) (Dr.part s.toList q (q + n)) = bodyN t u.toList := by rw [bodyOk, ht, hul]
  rw [← hbo, h9] at BO
  obtain rfl := hgn
  obtain rfl : z = -1 := by rcases hG with ⟨_, h⟩ | ⟨f, G', h, _⟩; exact h; cases h
  have hy : x % 2 = 0 := by rw [hwi, decide_eq_true_iff] at hV; omega
  have e4 : (x : Int) % 2 = 0 := by omega
  clear hR hl hz hp hG hGl h0 h2 hm hlm hh ht ht2 hte hwi h3 hx hy hV h4 hd h5 h6 hpl hv h8 hn9 h9 hv2 hqv hul hus hbo
  go_enter Tryd.func50, Tryd.ntmps50
  go_wp2_with (first
    | (go_at_call 51; refine W.out.mono ?_; rintro e w1 ⟨rfl, HQ1, HB1⟩; obtain ⟨a1, c1, tk1, HR1⟩ := HQ1.out.opn; have g0 := HQ1.out.txt)
    | (go_at_call 37; refine (TG.out _).mono ?_; rintro e wt ⟨rfl, rfl⟩)
    | (go_at_call 52; refine (dfault_ok (by first | exact HQ4.out.drewN _ | exact HQ4.out | exact HQ3.out | exact HQ2.out.drewN _ | exact HQ2.out | exact HQ1.out.drewN _ | exact HQ1.out) _ _ p rfl).mono ?_; rintro e wf ⟨rfl, HRF, HBF⟩)
    | (go_at_call 68; refine (LE.out _ (HQ1.out.drewN _)).mono ?_; rintro e w2 ⟨rfl, HQ2, HB2⟩)
    | (go_at_call 69; refine (AL.out _ HQ2.out).mono ?_; rintro e w3 ⟨rfl, HQ3, HB3⟩; have g3 := HQ3.out.txt)
    | (go_at_call 38; refine (BO.out _).mono ?_; rintro e w4 ⟨rfl, hb4⟩; have HQ4 := Lib.hid (HQ3.out.below hb4); have HB4 : Hid (Below g w3 w4) := hb4.mono (Nat.le_of_lt HQ3.out.lt); clear hb4)
    | (go_at_call 70; refine (IN.out _ HQ2.out).mono ?_; intro e w3 hin))
  have k5 := HR1.out.at0.cell 5 _ rfl
  have k2 := HR1.out.at0.cell 2 _ rfl
  have k1 := HR1.out.at0.cell 1 _ rfl
  rw [HM.out] at k5
  go_quiet (fail)
  go_wp2_with (first
    | (go_at_call 51; refine W.out.mono ?_; rintro e w1 ⟨rfl, HQ1, HB1⟩; obtain ⟨a1, c1, tk1, HR1⟩ := HQ1.out.opn; have g0 := HQ1.out.txt)
    | (go_at_call 37; refine (TG.out _).mono ?_; rintro e wt ⟨rfl, rfl⟩)
    | (go_at_call 52; refine (dfault_ok (by first | exact HQ4.out.drewN _ | exact HQ4.out | exact HQ3.out | exact HQ2.out.drewN _ | exact HQ2.out | exact HQ1.out.drewN _ | exact HQ1.out) _ _ p rfl).mono ?_; rintro e wf ⟨rfl, HRF, HBF⟩)
    | (go_at_call 68; refine (LE.out _ (HQ1.out.drewN _)).mono ?_; rintro e w2 ⟨rfl, HQ2, HB2⟩)
    | (go_at_call 69; refine (AL.out _ HQ2.out).mono ?_; rintro e w3 ⟨rfl, HQ3, HB3⟩; have g3 := HQ3.out.txt)
    | (go_at_call 38; refine (BO.out _).mono ?_; rintro e w4 ⟨rfl, hb4⟩; have HQ4 := Lib.hid (HQ3.out.below hb4); have HB4 : Hid (Below g w3 w4) := hb4.mono (Nat.le_of_lt HQ3.out.lt); clear hb4)
    | (go_at_call 70; refine (IN.out _ HQ2.out).mono ?_; intro e w3 hin))
  go_ret2
  exact DElem.no _ _ _ rfl HRF (((((HB1.out.trans (below_drewN _ _ _)).trans HB2.out).trans HB3.out).trans HB4.out).trans HBF.out) HE.out
set_option maxRecDepth 100000 in
set_option maxHeartbeats 1600000 in
theorem delem_bodyc (w : World) (g : Nat) (s : ByteArray) (L : Lm) (ro : Int) (O : List Nd) (fr : Nat) (G : List Fr) (l : List Nd) (p : Nat) (z : Int) (hR : Rok w g s L ro O fr) (hl : l.length = O.length) (hz : s.size ≤ 140737488351232) (hp : p ≤ s.size) (hG : EndOf G z) (hGl : G.length ≤ 1000000) (h0 : p < s.size ∧ p < L.bytes) (h2 : ¬ L.items ≤ l.length) (h3 : ¬ tagE (s.toList.getD p 0) ≠ 0) (h4 : ¬ (within (s.toList.getD p 0) = true ∧ L.depth ≤ G.length)) (hV : ¬ within (s.toList.getD p 0) = true) {n q : Nat} (h5 : lenR s.toList L (p + 1) = .ok (n, q)) (h6 : ¬ (G.head?.any fun f => decide (f.e < q + n)) = true) (hgn : ∃ f G2, G = f :: G2) (h8 : ¬ (n ≠ 0 ∧ has s.toList L (q + n - 1) = false)) (h9 : bodyOk (s.toList.getD p 0) (Dr.part s.toList q (q + n)) = false) :
    Calls Tryd.prog 50 #[.pointer (some ⟨g, 0, none⟩), .int .i64 (p : Int), .int .i64 (G.length : Int), .int .i64 z] w (DElem s L ro g O fr G l p w) := by
  have W := Lib.hid (dwant_yes hR (p : Int) p rfl h0.1 h0.2 hz)
  have hh := has_yes s L p h0
  obtain ⟨m, hm⟩ : ∃ m, O.length = m := ⟨_, rfl⟩
  have HM := Lib.hid hm
  have hlm : l.length = m := hl.trans hm
  obtain ⟨t, ht⟩ : ∃ t, (s.toList.getD p 0).toNat = t := ⟨_, rfl⟩
  have ht2 : t < 256 := by rw [← ht]; exact (s.toList.getD p 0).toNat_lt
  have hlt : p < s.size := h0.1
  have hsp : (s[p]'hlt).toNat = t := by rw [← tl_getD s p hlt]; exact ht
  obtain ⟨hte, hwi⟩ := tag_nat s p t ht
  have TG := Lib.hid (fun w => rtag_any t ht2 w)
  rw [← hte] at TG
  rw [Classical.not_not.1 h3] at TG
  have e1 : ¬ (L.items : Int) ≤ (m : Int) := by omega
  have e1b : decide ((L.items : Int) ≤ (m : Int)) = false := decide_eq_false e1
  obtain ⟨x, hx⟩ : ∃ x, t / 32 = x := ⟨_, rfl⟩
  have e3 : (t : Int) / 32 = (x : Int) := by omega
  have e6 : IntKind.u8.wrap (x : Int) = (x : Int) := by simp [IntKind.wrap, IntKind.bits, IntKind.signed]; omega
  have e10 : (p : Int) ≤ 140737488351232 := by omega
  obtain ⟨d, hd⟩ : ∃ d, G.length = d := ⟨_, rfl⟩
  rw [hd]
  have HE := Lib.hid (elS_body (G := G) hh h2 h3 h4 h5 h6 hV h8 h9)
  have LE := Lib.hid (fun w' (h' : Rok w' g s L ro O fr) => dlength_any h' ((p : Int) + 1) (p + 1) (by omega) hz (show p + 1 ≤ s.size from h0.1))
  rw [h5] at LE
  have hpl := lenR_pl h5
  rw [tl_size] at hpl
  obtain ⟨v, hv⟩ : ∃ v, q + n = v := ⟨_, rfl⟩
  have e7 : (q : Int) + (n : Int) = (v : Int) := by omega
  have e8 : IntKind.i64.wrap (v : Int) = (v : Int) := wrap_fit v (by unfold maxLen; omega)
  have hn9 : n < 4294967296 := hpl.2.2
  have AL := Lib.hid (fun w' (h' : Rok w' g s L ro O fr) => dall_any h' q n hz (by omega) (by omega) _ rfl)
  rw [show decide (¬ (n ≠ 0 ∧ has s.toList L (q + n - 1) = false)) = true from decide_eq_true h8] at AL
  have hv2 : v ≤ s.size := by
    by_cases hn : n = 0
    · omega
    · have h10 : has s.toList L (q + n - 1) = true := by
        cases h11 : has s.toList L (q + n - 1) with
        | true => rfl
        | false => exact absurd ⟨hn, h11⟩ h8
      have h12 : q + n - 1 < s.toList.length ∧ q + n - 1 < L.bytes := of_decide_eq_true h10
      rw [tl_size] at h12
      omega
  have e11 : (q : Int) ≤ (v : Int) := by omega
  have e12 : (v : Int) ≤ (s.size : Int) := by omega
  have hqv : q ≤ v := by omega
  obtain ⟨u, hu⟩ : ∃ u, s.extract q v = u := ⟨_, rfl⟩
  have hul : u.toList = Dr.part s.toList q (q + n) := by rw [← hu, tl_extract, hv]; rfl
  have hus : u.size ≤ 140737488351232 := by rw [← tl_size, hul, Dr.part, List.length_take, List.length_drop, tl_size]; omega
  have BO := Lib.hid (fun w' => rbody_any t ht2 u hus w')
  have hbo : bodyOk (s.toList.getD p 0) (Dr.part s.toList q (q + n)) = bodyN t u.toList := by rw [bodyOk, ht, hul]
  rw [← hbo, h9] at BO
  obtain ⟨f, G2, rfl⟩ := hgn
  obtain rfl : z = (f.e : Int) := by
    rcases hG with ⟨h, _⟩ | ⟨f', G', h, h7⟩
    · cases h
    · cases h; exact h7
  have hfe : ¬ f.e < q + n := by simpa using h6
  have e9 : ¬ (f.e : Int) < (v : Int) := by omega
  have e9c : decide ((f.e : Int) < (v : Int)) = false := decide_eq_false e9
  have e9b : (0 : Int) ≤ (f.e : Int) := by omega
  have hy : x % 2 = 0 := by rw [hwi, decide_eq_true_iff] at hV; omega
  have e4 : (x : Int) % 2 = 0 := by omega
  clear hR hl hz hp hG hGl h0 h2 hm hlm hh ht ht2 hte hwi h3 hx hy hV h4 hd h5 h6 hpl hv h8 hn9 h9 hv2 hqv hul hus hbo hfe
  go_enter Tryd.func50, Tryd.ntmps50
  go_wp2_with (first
    | (go_at_call 51; refine W.out.mono ?_; rintro e w1 ⟨rfl, HQ1, HB1⟩; obtain ⟨a1, c1, tk1, HR1⟩ := HQ1.out.opn; have g0 := HQ1.out.txt)
    | (go_at_call 37; refine (TG.out _).mono ?_; rintro e wt ⟨rfl, rfl⟩)
    | (go_at_call 52; refine (dfault_ok (by first | exact HQ4.out.drewN _ | exact HQ4.out | exact HQ3.out | exact HQ2.out.drewN _ | exact HQ2.out | exact HQ1.out.drewN _ | exact HQ1.out) _ _ p rfl).mono ?_; rintro e wf ⟨rfl, HRF, HBF⟩)
    | (go_at_call 68; refine (LE.out _ (HQ1.out.drewN _)).mono ?_; rintro e w2 ⟨rfl, HQ2, HB2⟩)
    | (go_at_call 69; refine (AL.out _ HQ2.out).mono ?_; rintro e w3 ⟨rfl, HQ3, HB3⟩; have g3 := HQ3.out.txt)
    | (go_at_call 38; refine (BO.out _).mono ?_; rintro e w4 ⟨rfl, hb4⟩; have HQ4 := Lib.hid (HQ3.out.below hb4); have HB4 : Hid (Below g w3 w4) := hb4.mono (Nat.le_of_lt HQ3.out.lt); clear hb4)
    | (go_at_call 70; refine (IN.out _ HQ2.out).mono ?_; intro e w3 hin))
  have k5 := HR1.out.at0.cell 5 _ rfl
  have k2 := HR1.out.at0.cell 2 _ rfl
  have k1 := HR1.out.at0.cell 1 _ rfl
  rw [HM.out] at k5
  go_quiet (fail)
  go_wp2_with (first
    | (go_at_call 51; refine W.out.mono ?_; rintro e w1 ⟨rfl, HQ1, HB1⟩; obtain ⟨a1, c1, tk1, HR1⟩ := HQ1.out.opn; have g0 := HQ1.out.txt)
    | (go_at_call 37; refine (TG.out _).mono ?_; rintro e wt ⟨rfl, rfl⟩)
    | (go_at_call 52; refine (dfault_ok (by first | exact HQ4.out.drewN _ | exact HQ4.out | exact HQ3.out | exact HQ2.out.drewN _ | exact HQ2.out | exact HQ1.out.drewN _ | exact HQ1.out) _ _ p rfl).mono ?_; rintro e wf ⟨rfl, HRF, HBF⟩)
    | (go_at_call 68; refine (LE.out _ (HQ1.out.drewN _)).mono ?_; rintro e w2 ⟨rfl, HQ2, HB2⟩)
    | (go_at_call 69; refine (AL.out _ HQ2.out).mono ?_; rintro e w3 ⟨rfl, HQ3, HB3⟩; have g3 := HQ3.out.txt)
    | (go_at_call 38; refine (BO.out _).mono ?_; rintro e w4 ⟨rfl, hb4⟩; have HQ4 := Lib.hid (HQ3.out.below hb4); have HB4 : Hid (Below g w3 w4) := hb4.mono (Nat.le_of_lt HQ3.out.lt); clear hb4)
    | (go_at_call 70; refine (IN.out _ HQ2.out).mono ?_; intro e w3 hin))
  go_ret2
  exact DElem.no _ _ _ rfl HRF (((((HB1.out.trans (below_drewN _ _ _)).trans HB2.out).trans HB3.out).trans HB4.out).trans HBF.out) HE.out
end Go.Proofs.YteglahkgnggmgaaDoor
namespace Go.Proofs.YteglahkgnggmgaaDoor
open Go.RowKit
set_option linter.unusedVariables false
set_option linter.unusedSimpArgs false
open Dr
set_option maxRecDepth 100000 in
set_option maxHeartbeats 1600000 in
theorem delem_okn (w : World) (g : Nat) (s : ByteArray) (L : Lm) (ro : Int) (O : List Nd) (fr : Nat) (G : List Fr) (l : List Nd) (p : Nat) (z : Int) (hR : Rok w g s L ro O fr) (hl : l.length = O.length) (hz : s.size ≤ 140737488351232) (hp : p ≤ s.size) (hG : EndOf G z) (hGl : G.length ≤ 1000000) (h0 : p < s.size ∧ p < L.bytes) (h2 : ¬ L.items ≤ l.length) (h3 : ¬ tagE (s.toList.getD p 0) ≠ 0) (h4 : ¬ (within (s.toList.getD p 0) = true ∧ L.depth ≤ G.length)) (hV : ¬ within (s.toList.getD p 0) = true) {n q : Nat} (h5 : lenR s.toList L (p + 1) = .ok (n, q)) (h6 : ¬ (G.head?.any fun f => decide (f.e < q + n)) = true) (hgn : G = []) (h8 : ¬ (n ≠ 0 ∧ has s.toList L (q + n - 1) = false)) (h9 : ¬ bodyOk (s.toList.getD p 0) (Dr.part s.toList q (q + n)) = false) (hLi : L.items ≤ 4096) :
    Calls Tryd.prog 50 #[.pointer (some ⟨g, 0, none⟩), .int .i64 (p : Int), .int .i64 (G.length : Int), .int .i64 z] w (DElem s L ro g O fr G l p w) := by
  have W := Lib.hid (dwant_yes hR (p : Int) p rfl h0.1 h0.2 hz)
  have hh := has_yes s L p h0
  obtain ⟨m, hm⟩ : ∃ m, O.length = m := ⟨_, rfl⟩
  have HM := Lib.hid hm
  have hlm : l.length = m := hl.trans hm
  obtain ⟨t, ht⟩ : ∃ t, (s.toList.getD p 0).toNat = t := ⟨_, rfl⟩
  have ht2 : t < 256 := by rw [← ht]; exact (s.toList.getD p 0).toNat_lt
  have hlt : p < s.size := h0.1
  have hsp : (s[p]'hlt).toNat = t := by rw [← tl_getD s p hlt]; exact ht
  obtain ⟨hte, hwi⟩ := tag_nat s p t ht
  have TG := Lib.hid (fun w => rtag_any t ht2 w)
  rw [← hte] at TG
  rw [Classical.not_not.1 h3] at TG
  have e1 : ¬ (L.items : Int) ≤ (m : Int) := by omega
  have e1b : decide ((L.items : Int) ≤ (m : Int)) = false := decide_eq_false e1
  obtain ⟨x, hx⟩ : ∃ x, t / 32 = x := ⟨_, rfl⟩
  have e3 : (t : Int) / 32 = (x : Int) := by omega
  have e6 : IntKind.u8.wrap (x : Int) = (x : Int) := by simp [IntKind.wrap, IntKind.bits, IntKind.signed]; omega
  have e10 : (p : Int) ≤ 140737488351232 := by omega
  obtain ⟨d, hd⟩ : ∃ d, G.length = d := ⟨_, rfl⟩
  rw [hd]
  have HE := Lib.hid (elS_ok (G := G) hh h2 h3 h4 h5 h6 hV h8 h9)
  have LE := Lib.hid (fun w' (h' : Rok w' g s L ro O fr) => dlength_any h' ((p : Int) + 1) (p + 1) (by omega) hz (show p + 1 ≤ s.size from h0.1))
  rw [h5] at LE
  have hpl := lenR_pl h5
  rw [tl_size] at hpl
  obtain ⟨v, hv⟩ : ∃ v, q + n = v := ⟨_, rfl⟩
  have e7 : (q : Int) + (n : Int) = (v : Int) := by omega
  have e8 : IntKind.i64.wrap (v : Int) = (v : Int) := wrap_fit v (by unfold maxLen; omega)
  have hn9 : n < 4294967296 := hpl.2.2
  have AL := Lib.hid (fun w' (h' : Rok w' g s L ro O fr) => dall_any h' q n hz (by omega) (by omega) _ rfl)
  rw [show decide (¬ (n ≠ 0 ∧ has s.toList L (q + n - 1) = false)) = true from decide_eq_true h8] at AL
  have hv2 : v ≤ s.size := by
    by_cases hn : n = 0
    · omega
    · have h10 : has s.toList L (q + n - 1) = true := by
        cases h11 : has s.toList L (q + n - 1) with
        | true => rfl
        | false => exact absurd ⟨hn, h11⟩ h8
      have h12 : q + n - 1 < s.toList.length ∧ q + n - 1 < L.bytes := of_decide_eq_true h10
      rw [tl_size] at h12
      omega
  have e11 : (q : Int) ≤ (v : Int) := by omega
  have e12 : (v : Int) ≤ (s.size : Int) := by omega
  have hqv : q ≤ v := by omega
  obtain ⟨u, hu⟩ : ∃ u, s.extract q v = u := ⟨_, rfl⟩
  have hul : u.toList = Dr.part s.toList q (q + n) := by rw [← hu, tl_extract, hv]; rfl
  have hus : u.size ≤ 140737488351232 := by rw [← tl_size, hul, Dr.part, List.length_take, List.length_drop, tl_size]; omega
  have BO := Lib.hid (fun w' => rbody_any t ht2 u hus w')
  have hbo : bodyOk (s.toList.getD p 0) (Dr.part s.toList q (q + n)) = bodyN t u.toList := by rw [bodyOk, ht, hul]
  have h9' : bodyOk (s.toList.getD p 0) (Dr.part s.toList q (q + n)) = true := by cases h13 : bodyOk (s.toList.getD p 0) (Dr.part s.toList q (q + n)) with | true => rfl | false => exact absurd h13 h9
  rw [← hbo, h9'] at BO
  have HNV : Hid (nv ({ tag := s.toList.getD p 0, kids := -1, body := Dr.part s.toList q (q + n) } : Nd) = (#[Value.int .u8 (t : Int), Value.int .i64 (-1), Value.string u]).toList) := by
    show nv _ = _
    simp only [nv, ht, ← hul]
    rw [Lib.toList_data]
  have HFIN := Lib.hid (And.intro hpl (And.intro hv hv2))
  have HEB := Lib.hid (show ∀ f', G.head? = some f' → v ≤ f'.e from fun f' hf => by rw [← hv]; exact head_le h6 f' hf)
  have HMI : Hid (m ≤ 4096) := by show m ≤ 4096; omega
  obtain rfl := hgn
  obtain rfl : z = -1 := by rcases hG with ⟨_, h⟩ | ⟨f, G', h, _⟩; exact h; cases h
  have hy : x % 2 = 0 := by rw [hwi, decide_eq_true_iff] at hV; omega
  have e4 : (x : Int) % 2 = 0 := by omega
  clear hR hl hz hp hG hGl h0 h2 hm hlm hh ht ht2 hte hwi h3 hx hy hV h4 hd h5 h6 hpl hv h8 hn9 h9 h9' hv2 hqv hul hus hbo hLi
  go_enter Tryd.func50, Tryd.ntmps50
  go_wp2_with (first
    | (go_at_call 51; refine W.out.mono ?_; rintro e w1 ⟨rfl, HQ1, HB1⟩; obtain ⟨a1, c1, tk1, HR1⟩ := HQ1.out.opn; have g0 := HQ1.out.txt)
    | (go_at_call 37; refine (TG.out _).mono ?_; rintro e wt ⟨rfl, rfl⟩)
    | (go_at_call 52; refine (dfault_ok (by first | exact HQ4.out.drewN _ | exact HQ4.out | exact HQ3.out | exact HQ2.out.drewN _ | exact HQ2.out | exact HQ1.out.drewN _ | exact HQ1.out) _ _ p rfl).mono ?_; rintro e wf ⟨rfl, HRF, HBF⟩)
    | (go_at_call 68; refine (LE.out _ (HQ1.out.drewN _)).mono ?_; rintro e w2 ⟨rfl, HQ2, HB2⟩)
    | (go_at_call 69; refine (AL.out _ HQ2.out).mono ?_; rintro e w3 ⟨rfl, HQ3, HB3⟩; have g3 := HQ3.out.txt)
    | (go_at_call 38; refine (BO.out _).mono ?_; rintro e w4 ⟨rfl, hb4⟩; have HQ4 := Lib.hid (HQ3.out.below hb4); have HB4 : Hid (Below g w3 w4) := hb4.mono (Nat.le_of_lt HQ3.out.lt); clear hb4)
    | (go_at_call 70; refine (IN.out _ HQ2.out).mono ?_; intro e w3 hin))
  have k5 := HR1.out.at0.cell 5 _ rfl
  have k2 := HR1.out.at0.cell 2 _ rfl
  have k1 := HR1.out.at0.cell 1 _ rfl
  rw [HM.out] at k5
  go_quiet (fail)
  go_wp2_with (first
    | (go_at_call 51; refine W.out.mono ?_; rintro e w1 ⟨rfl, HQ1, HB1⟩; obtain ⟨a1, c1, tk1, HR1⟩ := HQ1.out.opn; have g0 := HQ1.out.txt)
    | (go_at_call 37; refine (TG.out _).mono ?_; rintro e wt ⟨rfl, rfl⟩)
    | (go_at_call 52; refine (dfault_ok (by first | exact HQ4.out.drewN _ | exact HQ4.out | exact HQ3.out | exact HQ2.out.drewN _ | exact HQ2.out | exact HQ1.out.drewN _ | exact HQ1.out) _ _ p rfl).mono ?_; rintro e wf ⟨rfl, HRF, HBF⟩)
    | (go_at_call 68; refine (LE.out _ (HQ1.out.drewN _)).mono ?_; rintro e w2 ⟨rfl, HQ2, HB2⟩)
    | (go_at_call 69; refine (AL.out _ HQ2.out).mono ?_; rintro e w3 ⟨rfl, HQ3, HB3⟩; have g3 := HQ3.out.txt)
    | (go_at_call 38; refine (BO.out _).mono ?_; rintro e w4 ⟨rfl, hb4⟩; have HQ4 := Lib.hid (HQ3.out.below hb4); have HB4 : Hid (Below g w3 w4) := hb4.mono (Nat.le_of_lt HQ3.out.lt); clear hb4)
    | (go_at_call 70; refine (IN.out _ HQ2.out).mono ?_; intro e w3 hin))
  obtain ⟨a4, c4, tk4, HR4⟩ := HQ4.out.opn
  rw [HM.out] at HR4
  have k0 := HR4.out.at0.cell 0 _ rfl
  have k5 := HR4.out.at0.cell 5 _ rfl
  rw [Nat.zero_add] at k0
  have k0A : ∀ (ob : Obj), (w4.alloc ob).cell? ⟨g, 0, none⟩ = some (.string s) := fun ob => by have h := (HR4.out.at0.alloc ob).cell 0 _ rfl; rw [Nat.zero_add] at h; exact h
  have k5A : ∀ (ob : Obj), (w4.alloc ob).cell? ⟨g, 5, none⟩ = some (.slice a4 m c4) := fun ob => (HR4.out.at0.alloc ob).cell 5 _ rfl
  go_region_law (first
    | (refine step_append_nd rfl (.tmp 113) (.tmp 125) rfl (g + 1) (.slice a4 m c4) m O ?_ (by have h := (HR4.out.alloc (Obj.cells #[Value.int .u8 (t : Int), Value.int .i64 (-1), Value.string u] 63)).drew.out; rw [HM.out] at h; exact h) w4.heap.size 1 ({ tag := s.toList.getD p 0, kids := -1, body := Dr.part s.toList q (q + n) } : Nd) ?_ (nd_cells2 HNV.out (At.ofAlloc w4 #[Value.int .u8 (t : Int), Value.int .i64 (-1), Value.string u] 63)) (by have := HMI.out; omega) (by have := HR4.out.lt; simp; omega) ?_; (focus simp [Act.eval, Act.put]); (focus simp [Act.eval, Act.put]); intro v6 w6 hown6 hgrow6; obtain ⟨a6, c6, rfl, -⟩ := own_form hown6; have HX := Lib.hid ((HR4.out.alloc (Obj.cells #[Value.int .u8 (t : Int), Value.int .i64 (-1), Value.string u] 63)).drew); have hAt6 := At.grown HX.out.at0 hgrow6 HX.out.lt (fun e => by have := (HX.out.out.lt g e).1; omega); have hf6 := hAt6.froz 5 (Nat.le_of_ble_eq_true rfl); have hc6 := hAt6.cell 5 _ rfl; have HR6 := Lib.hid (Rf.add (O' := O ++ [({ tag := s.toList.getD p 0, kids := -1, body := Dr.part s.toList q (q + n) } : Nd)]) HX.out hgrow6 (by rw [List.length_append, HM.out]; exact hown6)); have HB6 : Hid (Below g w4 (w6.setCell ⟨g, 5, none⟩ (.slice a6 (m + 1) c6))) := ((((Below.refl g w4).alloc (Nat.le_of_lt HR4.out.lt) _).drew.grown hgrow6 (Nat.le_of_lt HX.out.lt) (fun k hk => by have := (HX.out.out.lt k hk).1; omega)).setCell (p := ⟨g, 5, none⟩) (Nat.le_refl _) (.slice a6 (m + 1) c6)); clear hAt6 hgrow6 hown6))
  all_goals
    go_wp2_with fail
    go_ret2
    refine .inl ⟨[({ tag := s.toList.getD p 0, kids := -1, body := Dr.part s.toList q (q + n) } : Nd)], v, ⟨rfl, ⟨_, _, HR6.out⟩, ((((HB1.out.trans (below_drewN _ _ _)).trans HB2.out).trans HB3.out).trans HB4.out).trans HB6.out⟩, by have := HFIN.out.1; have := HFIN.out.2; omega, HFIN.out.2.2, HEB.out, fun r hr => Runs.el HE.out ?_⟩
    rw [← HFIN.out.2.1] at hr
    exact hr
set_option maxRecDepth 100000 in
set_option maxHeartbeats 1600000 in
theorem delem_okc (w : World) (g : Nat) (s : ByteArray) (L : Lm) (ro : Int) (O : List Nd) (fr : Nat) (G : List Fr) (l : List Nd) (p : Nat) (z : Int) (hR : Rok w g s L ro O fr) (hl : l.length = O.length) (hz : s.size ≤ 140737488351232) (hp : p ≤ s.size) (hG : EndOf G z) (hGl : G.length ≤ 1000000) (h0 : p < s.size ∧ p < L.bytes) (h2 : ¬ L.items ≤ l.length) (h3 : ¬ tagE (s.toList.getD p 0) ≠ 0) (h4 : ¬ (within (s.toList.getD p 0) = true ∧ L.depth ≤ G.length)) (hV : ¬ within (s.toList.getD p 0) = true) {n q : Nat} (h5 : lenR s.toList L (p + 1) = .ok (n, q)) (h6 : ¬ (G.head?.any fun f => decide (f.e < q + n)) = true) (hgn : ∃ f G2, G = f :: G2) (h8 : ¬ (n ≠ 0 ∧ has s.toList L (q + n - 1) = false)) (h9 : ¬ bodyOk (s.toList.getD p 0) (Dr.part s.toList q (q + n)) = false) (hLi : L.items ≤ 4096) :
    Calls Tryd.prog 50 #[.pointer (some ⟨g, 0, none⟩), .int .i64 (p : Int), .int .i64 (G.length : Int), .int .i64 z] w (DElem s L ro g O fr G l p w) := by
  have W := Lib.hid (dwant_yes hR (p : Int) p rfl h0.1 h0.2 hz)
  have hh := has_yes s L p h0
  obtain ⟨m, hm⟩ : ∃ m, O.length = m := ⟨_, rfl⟩
  have HM := Lib.hid hm
  have hlm : l.length = m := hl.trans hm
  obtain ⟨t, ht⟩ : ∃ t, (s.toList.getD p 0).toNat = t := ⟨_, rfl⟩
  have ht2 : t < 256 := by rw [← ht]; exact (s.toList.getD p 0).toNat_lt
  have hlt : p < s.size := h0.1
  have hsp : (s[p]'hlt).toNat = t := by rw [← tl_getD s p hlt]; exact ht
  obtain ⟨hte, hwi⟩ := tag_nat s p t ht
  have TG := Lib.hid (fun w => rtag_any t ht2 w)
  rw [← hte] at TG
  rw [Classical.not_not.1 h3] at TG
  have e1 : ¬ (L.items : Int) ≤ (m : Int) := by omega
  have e1b : decide ((L.items : Int) ≤ (m : Int)) = false := decide_eq_false e1
  obtain ⟨x, hx⟩ : ∃ x, t / 32 = x := ⟨_, rfl⟩
  have e3 : (t : Int) / 32 = (x : Int) := by omega
  have e6 : IntKind.u8.wrap (x : Int) = (x : Int) := by simp [IntKind.wrap, IntKind.bits, IntKind.signed]; omega
  have e10 : (p : Int) ≤ 140737488351232 := by omega
  obtain ⟨d, hd⟩ : ∃ d, G.length = d := ⟨_, rfl⟩
  rw [hd]
  have HE := Lib.hid (elS_ok (G := G) hh h2 h3 h4 h5 h6 hV h8 h9)
  have LE := Lib.hid (fun w' (h' : Rok w' g s L ro O fr) => dlength_any h' ((p : Int) + 1) (p + 1) (by omega) hz (show p + 1 ≤ s.size from h0.1))
  rw [h5] at LE
  have hpl := lenR_pl h5
  rw [tl_size] at hpl
  obtain ⟨v, hv⟩ : ∃ v, q + n = v := ⟨_, rfl⟩
  have e7 : (q : Int) + (n : Int) = (v : Int) := by omega
  have e8 : IntKind.i64.wrap (v : Int) = (v : Int) := wrap_fit v (by unfold maxLen; omega)
  have hn9 : n < 4294967296 := hpl.2.2
  have AL := Lib.hid (fun w' (h' : Rok w' g s L ro O fr) => dall_any h' q n hz (by omega) (by omega) _ rfl)
  rw [show decide (¬ (n ≠ 0 ∧ has s.toList L (q + n - 1) = false)) = true from decide_eq_true h8] at AL
  have hv2 : v ≤ s.size := by
    by_cases hn : n = 0
    · omega
    · have h10 : has s.toList L (q + n - 1) = true := by
        cases h11 : has s.toList L (q + n - 1) with
        | true => rfl
        | false => exact absurd ⟨hn, h11⟩ h8
      have h12 : q + n - 1 < s.toList.length ∧ q + n - 1 < L.bytes := of_decide_eq_true h10
      rw [tl_size] at h12
      omega
  have e11 : (q : Int) ≤ (v : Int) := by omega
  have e12 : (v : Int) ≤ (s.size : Int) := by omega
  have hqv : q ≤ v := by omega
  obtain ⟨u, hu⟩ : ∃ u, s.extract q v = u := ⟨_, rfl⟩
  have hul : u.toList = Dr.part s.toList q (q + n) := by rw [← hu, tl_extract, hv]; rfl
  have hus : u.size ≤ 140737488351232 := by rw [← tl_size, hul, Dr.part, List.length_take, List.length_drop, tl_size]; omega
  have BO := Lib.hid (fun w' => rbody_any t ht2 u hus w')
  have hbo : bodyOk (s.toList.getD p 0) (Dr.part s.toList q (q + n)) = bodyN t u.toList := by rw [bodyOk, ht, hul]
  have h9' : bodyOk (s.toList.getD p 0) (Dr.part s.toList q (q + n)) = true := by cases h13 : bodyOk (s.toList.getD p 0) (Dr.part s.toList q (q + n)) with | true => rfl | false => exact absurd h13 h9
  rw [← hbo, h9'] at BO
  have HNV : Hid (nv ({ tag := s.toList.getD p 0, kids := -1, body := Dr.part s.toList q (q + n) } : Nd) = (#[Value.int .u8 (t : Int), Value.int .i64 (-1), Value.string u]).toList) := by
    show nv _ = _
    simp only [nv, ht, ← hul]
    rw [Lib.toList_data]
  have HFIN := Lib.hid (And.intro hpl (And.intro hv hv2))
  have HEB := Lib.hid (show ∀ f', G.head? = some f' → v ≤ f'.e from fun f' hf => by rw [← hv]; exact head_le h6 f' hf)
  have HMI : Hid (m ≤ 4096) := by show m ≤ 4096; omega
  obtain ⟨f, G2, rfl⟩ := hgn
  obtain rfl : z = (f.e : Int) := by
    rcases hG with ⟨h, _⟩ | ⟨f', G', h, h7⟩
    · cases h
    · cases h; exact h7
  have hfe : ¬ f.e < q + n := by simpa using h6
  have e9 : ¬ (f.e : Int) < (v : Int) := by omega
  have e9c : decide ((f.e : Int) < (v : Int)) = false := decide_eq_false e9
  have e9b : (0 : Int) ≤ (f.e : Int) := by omega
  have hy : x % 2 = 0 := by rw [hwi, decide_eq_true_iff] at hV; omega
  have e4 : (x : Int) % 2 = 0 := by omega
  clear hR hl hz hp hG hGl h0 h2 hm hlm hh ht ht2 hte hwi h3 hx hy hV h4 hd h5 h6 hpl hv h8 hn9 h9 h9' hv2 hqv hul hus hbo hLi hfe
  go_enter Tryd.func50, Tryd.ntmps50
  go_wp2_with (first
    | (go_at_call 51; refine W.out.mono ?_; rintro e w1 ⟨rfl, HQ1, HB1⟩; obtain ⟨a1, c1, tk1, HR1⟩ := HQ1.out.opn; have g0 := HQ1.out.txt)
    | (go_at_call 37; refine (TG.out _).mono ?_; rintro e wt ⟨rfl, rfl⟩)
    | (go_at_call 52; refine (dfault_ok (by first | exact HQ4.out.drewN _ | exact HQ4.out | exact HQ3.out | exact HQ2.out.drewN _ | exact HQ2.out | exact HQ1.out.drewN _ | exact HQ1.out) _ _ p rfl).mono ?_; rintro e wf ⟨rfl, HRF, HBF⟩)
    | (go_at_call 68; refine (LE.out _ (HQ1.out.drewN _)).mono ?_; rintro e w2 ⟨rfl, HQ2, HB2⟩)
    | (go_at_call 69; refine (AL.out _ HQ2.out).mono ?_; rintro e w3 ⟨rfl, HQ3, HB3⟩; have g3 := HQ3.out.txt)
    | (go_at_call 38; refine (BO.out _).mono ?_; rintro e w4 ⟨rfl, hb4⟩; have HQ4 := Lib.hid (HQ3.out.below hb4); have HB4 : Hid (Below g w3 w4) := hb4.mono (Nat.le_of_lt HQ3.out.lt); clear hb4)
    | (go_at_call 70; refine (IN.out _ HQ2.out).mono ?_; intro e w3 hin))
  have k5 := HR1.out.at0.cell 5 _ rfl
  have k2 := HR1.out.at0.cell 2 _ rfl
  have k1 := HR1.out.at0.cell 1 _ rfl
  rw [HM.out] at k5
  go_quiet (fail)
  go_wp2_with (first
    | (go_at_call 51; refine W.out.mono ?_; rintro e w1 ⟨rfl, HQ1, HB1⟩; obtain ⟨a1, c1, tk1, HR1⟩ := HQ1.out.opn; have g0 := HQ1.out.txt)
    | (go_at_call 37; refine (TG.out _).mono ?_; rintro e wt ⟨rfl, rfl⟩)
    | (go_at_call 52; refine (dfault_ok (by first | exact HQ4.out.drewN _ | exact HQ4.out | exact HQ3.out | exact HQ2.out.drewN _ | exact HQ2.out | exact HQ1.out.drewN _ | exact HQ1.out) _ _ p rfl).mono ?_; rintro e wf ⟨rfl, HRF, HBF⟩)
    | (go_at_call 68; refine (LE.out _ (HQ1.out.drewN _)).mono ?_; rintro e w2 ⟨rfl, HQ2, HB2⟩)
    | (go_at_call 69; refine (AL.out _ HQ2.out).mono ?_; rintro e w3 ⟨rfl, HQ3, HB3⟩; have g3 := HQ3.out.txt)
    | (go_at_call 38; refine (BO.out _).mono ?_; rintro e w4 ⟨rfl, hb4⟩; have HQ4 := Lib.hid (HQ3.out.below hb4); have HB4 : Hid (Below g w3 w4) := hb4.mono (Nat.le_of_lt HQ3.out.lt); clear hb4)
    | (go_at_call 70; refine (IN.out _ HQ2.out).mono ?_; intro e w3 hin))
  obtain ⟨a4, c4, tk4, HR4⟩ := HQ4.out.opn
  rw [HM.out] at HR4
  have k0 := HR4.out.at0.cell 0 _ rfl
  have k5 := HR4.out.at0.cell 5 _ rfl
  rw [Nat.zero_add] at k0
  have k0A : ∀ (ob : Obj), (w4.alloc ob).cell? ⟨g, 0, none⟩ = some (.string s) := fun ob => by have h := (HR4.out.at0.alloc ob).cell 0 _ rfl; rw [Nat.zero_add] at h; exact h
  have k5A : ∀ (ob : Obj), (w4.alloc ob).cell? ⟨g, 5, none⟩ = some (.slice a4 m c4) := fun ob => (HR4.out.at0.alloc ob).cell 5 _ rfl
  go_region_law (first
    | (refine step_append_nd rfl (.tmp 113) (.tmp 125) rfl (g + 1) (.slice a4 m c4) m O ?_ (by have h := (HR4.out.alloc (Obj.cells #[Value.int .u8 (t : Int), Value.int .i64 (-1), Value.string u] 63)).drew.out; rw [HM.out] at h; exact h) w4.heap.size 1 ({ tag := s.toList.getD p 0, kids := -1, body := Dr.part s.toList q (q + n) } : Nd) ?_ (nd_cells2 HNV.out (At.ofAlloc w4 #[Value.int .u8 (t : Int), Value.int .i64 (-1), Value.string u] 63)) (by have := HMI.out; omega) (by have := HR4.out.lt; simp; omega) ?_; (focus simp [Act.eval, Act.put]); (focus simp [Act.eval, Act.put]); intro v6 w6 hown6 hgrow6; obtain ⟨a6, c6, rfl, -⟩ := own_form hown6; have HX := Lib.hid ((HR4.out.alloc (Obj.cells #[Value.int .u8 (t : Int), Value.int .i64 (-1), Value.string u] 63)).drew); have hAt6 := At.grown HX.out.at0 hgrow6 HX.out.lt (fun e => by have := (HX.out.out.lt g e).1; omega); have hf6 := hAt6.froz 5 (Nat.le_of_ble_eq_true rfl); have hc6 := hAt6.cell 5 _ rfl; have HR6 := Lib.hid (Rf.add (O' := O ++ [({ tag := s.toList.getD p 0, kids := -1, body := Dr.part s.toList q (q + n) } : Nd)]) HX.out hgrow6 (by rw [List.length_append, HM.out]; exact hown6)); have HB6 : Hid (Below g w4 (w6.setCell ⟨g, 5, none⟩ (.slice a6 (m + 1) c6))) := ((((Below.refl g w4).alloc (Nat.le_of_lt HR4.out.lt) _).drew.grown hgrow6 (Nat.le_of_lt HX.out.lt) (fun k hk => by have := (HX.out.out.lt k hk).1; omega)).setCell (p := ⟨g, 5, none⟩) (Nat.le_refl _) (.slice a6 (m + 1) c6)); clear hAt6 hgrow6 hown6))
  all_goals
    go_wp2_with fail
    go_ret2
    refine .inl ⟨[({ tag := s.toList.getD p 0, kids := -1, body := Dr.part s.toList q (q + n) } : Nd)], v, ⟨rfl, ⟨_, _, HR6.out⟩, ((((HB1.out.trans (below_drewN _ _ _)).trans HB2.out).trans HB3.out).trans HB4.out).trans HB6.out⟩, by have := HFIN.out.1; have := HFIN.out.2; omega, HFIN.out.2.2, HEB.out, fun r hr => Runs.el HE.out ?_⟩
    rw [← HFIN.out.2.1] at hr
    exact hr
end Go.Proofs.YteglahkgnggmgaaDoor
namespace Go.Proofs.YteglahkgnggmgaaDoor
open Go.RowKit
set_option linter.unusedVariables false
set_option linter.unusedSimpArgs false
open Dr
theorem mod_mid (O N : List Nd) (x : Nd) (z : Int) : (O ++ x :: N).modify O.length (fun n => { n with kids := z }) = O ++ { x with kids := z } :: N := by
  induction O with
  | nil => rfl
  | cons a O ih => rw [List.cons_append, List.length_cons, List.modify_succ_cons, ih]; rfl
theorem ncells_mid (O R : List Nd) (x : Nd) : (ncells (O ++ x :: R))[O.length * 3 + 1]? = some (.int .i64 x.kids) := by
  rw [ncells_append, List.getElem?_append_right (by rw [ncells_length]; omega), ncells_length, show O.length * 3 + 1 - 3 * O.length = 1 by omega]
  rfl
/-- a node's number of kids is written -/
theorem Rf.kids {w : World} {g : Nat} {s : ByteArray} {L : Lm} {ro : Int} {O : List Nd} {kn cap : Nat} {er : Int} {pl tk fr : Nat} {en : Bool} (h : Rf w g s L ro O (.slice (some ⟨kn, 0, none⟩) O.length cap) er pl tk fr en) (i : Nat) (hi : i < O.length) (z : Int) :
    Rf (w.setCell ⟨kn, i * 3 + 1, none⟩ (.int .i64 z)) g s L ro (O.modify i fun n => { n with kids := z }) (.slice (some ⟨kn, 0, none⟩) O.length cap) er pl tk fr en := by
  have hgk := (h.out.lt kn rfl).1
  have hs := (h.out.stored (i * 3 + 1) (.int .i64 z)).1
  rw [← ncells_modify z O i hi] at hs
  refine ⟨h.at0.other kn (i * 3 + 1) _ (Or.inl (by omega)), by rw [List.length_modify]; exact hs, by rw [show (w.setCell ⟨kn, i * 3 + 1, none⟩ (.int .i64 z)).heap.size = w.heap.size by simp [World.setCell]]; exact h.lt⟩
/-- an element is read, whatever stands around it, if few enough bytes follow -/
def ElAll (m : Nat) (s : ByteArray) (L : Lm) (ro : Int) (g : Nat) : Prop :=
  ∀ (w : World) (O : List Nd) (G : List Fr) (l : List Nd) (p : Nat) (z zd : Int), s.size - p < m → Rok w g s L ro O G.length → l.length = O.length → p ≤ s.size → EndOf G z → G.length ≤ 1000 → (G.length : Int) = zd →
    Calls Tryd.prog 50 #[.pointer (some ⟨g, 0, none⟩), .int .i64 (p : Int), .int .i64 zd, .int .i64 z] w (DElem s L ro g O G.length G l p w)
def fr0 (t : UInt8) (node p0 e k : Nat) (lb : ByteArray) : Fr := { tag := t, node := node, p0 := p0, e := e, kids := k, last := lb.toList }
def DIns (s : ByteArray) (L : Lm) (ro : Int) (g : Nat) (O : List Nd) (fr : Nat) (G : List Fr) (l : List Nd) (t : UInt8) (p0 e1 q : Nat) (w : World) (e : Ending) (w' : World) : Prop :=
  (∃ (N : List Nd) (k : Nat), Yes (.tuple #[.int .i64 (e1 : Int), .bool true]) g s L ro (O ++ ⟨t, (k : Int), []⟩ :: N) fr w e w' ∧ e1 ≤ s.size ∧ ∀ r, RunsD s.toList L (.pend G (l ++ ⟨t, (k : Int), []⟩ :: N) p0 e1) r → RunsD s.toList L (.loop (fr0 t l.length p0 e1 0 ByteArray.empty :: G) (l ++ [⟨t, 0, []⟩]) q) r) ∨
  (∃ c x b, Nay (.tuple #[.int .i64 0, .bool false]) g s L ro c x b w e w' ∧ RunsD s.toList L (.loop (fr0 t l.length p0 e1 0 ByteArray.empty :: G) (l ++ [⟨t, 0, []⟩]) q) (.no c x b))
set_option maxRecDepth 100000 in
set_option maxHeartbeats 1600000 in
theorem inside_any (m : Nat) (s : ByteArray) (L : Lm) (ro : Int) (g : Nat) (EL : ElAll m s L ro g) (hz : s.size ≤ 140737488351232) (w : World) (O : List Nd) (G : List Fr) (l : List Nd) (t8 : UInt8) (t : Nat) (ht : t8.toNat = t) (p0 q e1 : Nat)
    (hR : Rok w g s L ro O G.length) (hl : l.length = O.length) (hq : q ≤ s.size) (hqe : q ≤ e1) (he : e1 ≤ 140737488351232 + 4294967296) (hm : s.size - q < m) (hO : O.length ≤ 4096) (hG : G.length ≤ 999) :
    Calls Tryd.prog 70 #[.pointer (some ⟨g, 0, none⟩), .int .u8 (t : Int), .int .i64 (q : Int), .int .i64 (e1 : Int), .int .i64 (G.length : Int)] w (DIns s L ro g O G.length G l t8 p0 e1 q w) := by
  obtain ⟨a0, c0, tk0, HR⟩ := hR.opn
  obtain ⟨n0, hn0⟩ : ∃ n, O.length = n := ⟨_, rfl⟩
  obtain ⟨gl, hgl⟩ : ∃ n, G.length = n := ⟨_, rfl⟩
  have HN0 := Lib.hid (And.intro hn0 (And.intro hl hgl))
  rw [hn0, hgl] at HR
  rw [hgl]
  have HEL := Lib.hid EL
  have HH := Lib.hid (And.intro hq (And.intro hqe (And.intro he (And.intro hm (And.intro hO (And.intro hG hz))))))
  have HT := Lib.hid ht
  have k5 := HR.out.at0.cell 5 _ rfl
  have k9 := HR.out.at0.cell 9 _ rfl
  obtain ⟨gk, hgk⟩ : ∃ k, gl + 1 = k := ⟨_, rfl⟩
  have e9 : (gl : Int) + 1 = (gk : Int) := by omega
  have e9w : IntKind.i64.wrap (gk : Int) = (gk : Int) := wrap_fit gk (by unfold maxLen; omega)
  have HGK := Lib.hid hgk
  have HNV : Hid (nv (⟨t8, 0, []⟩ : Nd) = (#[Value.int .u8 (t : Int), Value.int .i64 0, Value.string ByteArray.empty]).toList) := by
    show nv _ = _
    simp only [nv, ht]
    rfl
  clear EL ht hl hq hqe he hm hO hG hn0 hgl hgk hR
  go_enter Tryd.func70, Tryd.ntmps70
  go_wp2_with (at_builtin; refine wpList_append_nd rfl (.tmp 26) (.tmp 29) rfl (g + 1) _ n0 O rfl (by have h := (HR.out.alloc (Obj.cells #[Value.int .u8 (t : Int), Value.int .i64 0, Value.string ByteArray.empty] 63)).out; rw [HN0.out.1] at h; exact h) w.heap.size 1 (⟨t8, 0, []⟩ : Nd) rfl (nd_cells2 HNV.out (At.ofAlloc w #[Value.int .u8 (t : Int), Value.int .i64 0, Value.string ByteArray.empty] 63)) (by have := HH.out.2.2.2.2.1; have := HN0.out.1; omega) (by have := HR.out.lt; simp; omega) ?_; intro v1 w1 hown1 hgrow1; obtain ⟨a1, c1, rfl, -⟩ := own_form hown1; have HX := Lib.hid (HR.out.alloc (Obj.cells #[Value.int .u8 (t : Int), Value.int .i64 0, Value.string ByteArray.empty] 63)); have hAt1 := At.grown HX.out.at0 hgrow1 HX.out.lt (fun e => by have := (HX.out.out.lt g e).1; omega); have hf1 := hAt1.froz 5 (Nat.le_of_ble_eq_true rfl); have hc1 := hAt1.cell 5 _ rfl; have hf19 := hAt1.froz 9 (Nat.le_of_ble_eq_true rfl); have hc19 := hAt1.cell 9 _ rfl; have HR1 := Lib.hid (Rf.add (O' := O ++ [(⟨t8, 0, []⟩ : Nd)]) HX.out hgrow1 (by rw [List.length_append, HN0.out.1]; exact hown1)); have HB1 : Hid (Below g w (w1.setCell ⟨g, 5, none⟩ (.slice a1 (n0 + 1) c1))) := ((((Below.refl g w).alloc (Nat.le_of_lt HR.out.lt) _).grown hgrow1 (Nat.le_of_lt HX.out.lt) (fun k hk => by have := (HX.out.out.lt k hk).1; omega)).setCell (p := ⟨g, 5, none⟩) (Nat.le_refl _) (.slice a1 (n0 + 1) c1)); clear hAt1 hgrow1 hown1)
  have HR2 : Hid (Rok ((w1.setCell ⟨g, 5, none⟩ (.slice a1 (n0 + 1) c1)).setCell ⟨g, 9, none⟩ (.int .i64 (gk : Int))) g s L ro (O ++ [(⟨t8, 0, []⟩ : Nd)]) gk) := ⟨_, _, HR1.out.setC 9 _ (fr' := gk) rfl⟩
  have HB2 : Hid (Below g w ((w1.setCell ⟨g, 5, none⟩ (.slice a1 (n0 + 1) c1)).setCell ⟨g, 9, none⟩ (.int .i64 (gk : Int)))) := HB1.out.setCell (p := ⟨g, 9, none⟩) (Nat.le_refl _) _
  clear hc1 hf1 hc19 hf19 k5 k9
  go_loopw [2, 13] (fun va vl wr => ∃ (a k : Nat) (N : List Nd) (lb : ByteArray), va = .int .i64 (a : Int) ∧ vl = .string lb ∧ a ≤ e1 ∧ a ≤ s.size ∧ q ≤ a ∧ k ≤ a ∧ (k = 0 → lb.toList = []) ∧ Hid (Rok wr g s L ro (O ++ ⟨t8, (k : Int), []⟩ :: N) gk) ∧ Hid (Below g w wr) ∧ Hid (∀ r, RunsD s.toList L (.loop (fr0 t8 l.length p0 e1 k lb :: G) (l ++ ⟨t8, 0, []⟩ :: N) a) r → RunsD s.toList L (.loop (fr0 t8 l.length p0 e1 0 ByteArray.empty :: G) (l ++ [⟨t8, 0, []⟩]) q) r)) (fun va _ _ => e1 - (intOf va).toNat)
  case atStart => exact ⟨q, 0, [], ByteArray.empty, rfl, rfl, HH.out.2.1, HH.out.1, Nat.le_refl _, Nat.zero_le _, fun _ => tl_empty, HR2, HB2, fun r hr => hr⟩
  case round =>
    obtain ⟨a, k, N, lb, rfl, rfl, ha1, ha2, ha3, ha4, hk0, HRr, HBr, HRun⟩ := hrel
    have HA := Lib.hid (And.intro ha1 (And.intro ha2 (And.intro ha3 (And.intro ha4 hk0))))
    by_cases h1 : a < e1
    · have e2 : (a : Int) < (e1 : Int) := by omega
      have hs1 : loopS (fr0 t8 l.length p0 e1 k lb) G (l ++ ⟨t8, 0, []⟩ :: N) a = .el (fr0 t8 l.length p0 e1 k lb :: G) (l ++ ⟨t8, 0, []⟩ :: N) a := by rw [loopS, if_pos (show a < (fr0 t8 l.length p0 e1 k lb).e from h1)]
      have HRun2 : Hid (∀ r, RunsD s.toList L (.el (fr0 t8 l.length p0 e1 k lb :: G) (l ++ ⟨t8, 0, []⟩ :: N) a) r → RunsD s.toList L (.loop (fr0 t8 l.length p0 e1 0 ByteArray.empty :: G) (l ++ [⟨t8, 0, []⟩]) q) r) := fun r hr => HRun.out r (Runs.loop (by rw [hs1]; exact hr))
      have EC := Lib.hid (HEL.out wr (O ++ ⟨t8, (k : Int), []⟩ :: N) (fr0 t8 l.length p0 e1 k lb :: G) (l ++ ⟨t8, 0, []⟩ :: N) a (e1 : Int) (gk : Int) (by have := HH.out.2.2.2.1; have := HA.out; omega) (by rw [List.length_cons, HN0.out.2.2, HGK.out]; exact HRr.out) (by rw [List.length_append, List.length_append, HN0.out.2.1]; rfl) ha2 (.inr ⟨_, _, rfl, rfl⟩) (by rw [List.length_cons]; have := HH.out.2.2.2.2.2.1; omega) (by rw [List.length_cons, HN0.out.2.2, HGK.out]))
      rw [List.length_cons, HN0.out.2.2, HGK.out] at EC
      have HI := Lib.hid h1
      clear ha1 ha2 ha3 ha4 hk0 h1 hs1
      go_wp2_with fail
      refine EC.out.mono ?_
      rintro e w2 (⟨N2, q2, ⟨rfl, HR3, HB3⟩, h4, h5, h6, HR4⟩ | ⟨c2, x2, b2, ⟨rfl, HR3, HB3⟩, HR4⟩)
      · obtain ⟨M, hM⟩ : ∃ M, O.length + 1 + N.length + N2.length = M := ⟨_, rfl⟩
        have hlen : (O ++ (⟨t8, (k : Int), []⟩ : Nd) :: N ++ N2).length = M := by simp only [List.length_append, List.length_cons]; omega
        obtain ⟨kn, c3, tk3, HQ3⟩ := HR3.out.opn2 (by rw [hlen]; omega)
        have hap : O ++ (⟨t8, (k : Int), []⟩ : Nd) :: N ++ N2 = O ++ (⟨t8, (k : Int), []⟩ : Nd) :: (N ++ N2) := by simp
        obtain ⟨kq, hkq⟩ : ∃ kq, k + 1 = kq := ⟨_, rfl⟩
        have e20 : (k : Int) + 1 = (kq : Int) := by omega
        have e21 : IntKind.i64.wrap (kq : Int) = (kq : Int) := wrap_fit kq (by have := HA.out; have := HH.out.2.2.2.2.2.2; unfold maxLen; omega)
        have hM0 : n0 < M := by have := HN0.out.1; omega
        have HK4 := Lib.hid (HQ3.out.kids n0 (by rw [hlen]; have := HN0.out.1; omega) (kq : Int))
        rw [hap, ← HN0.out.1, mod_mid, ← hap] at HK4
        rw [HN0.out.1, hlen] at HK4
        rw [hlen] at HQ3
        have k5 := HQ3.out.at0.cell 5 _ rfl
        have k0 := HQ3.out.at0.cell 0 _ rfl
        rw [Nat.zero_add] at k0
        have hAn := At.ofOwnN (by have h := HQ3.out.out; rw [← hlen] at h; exact h)
        have hnd : (ncells (O ++ (⟨t8, (k : Int), []⟩ : Nd) :: N ++ N2))[n0 * 3 + 1]? = some (.int .i64 (k : Int)) := by
          rw [hap, ← HN0.out.1]
          exact ncells_mid O (N ++ N2) ⟨t8, (k : Int), []⟩
        have hn1 := hAn.cell (n0 * 3 + 1) _ hnd
        have hnf := (hAn (n0 * 3 + 1) _ hnd).2
        rw [Nat.zero_add] at hn1 hnf
        have hgk := HQ3.out.out.lt kn rfl
        have HR5 : Hid (Rf (w2.setCell ⟨kn, n0 * 3 + 1, none⟩ (.int .i64 (kq : Int))).drew g s L ro (O ++ (⟨t8, (kq : Int), []⟩ : Nd) :: (N ++ N2)) (.slice (some ⟨kn, 0, none⟩) M c3) 0 0 tk3 gk false) := HK4.out.drew
        have HB5 : Hid (Below g w (w2.setCell ⟨kn, n0 * 3 + 1, none⟩ (.int .i64 (kq : Int))).drew) := ((HBr.out.trans HB3.out).setCell (p := ⟨kn, n0 * 3 + 1, none⟩) (by show g ≤ kn; omega) _).drew
        obtain ⟨w5, hw5⟩ : ∃ x, (w2.setCell ⟨kn, n0 * 3 + 1, none⟩ (.int .i64 (kq : Int))).drew = x := ⟨_, rfl⟩
        rw [hw5] at HR5 HB5
        have HW5 := Lib.hid hw5
        obtain ⟨u, hu⟩ : ∃ u, s.extract a q2 = u := ⟨_, rfl⟩
        have hul : u.toList = Dr.part s.toList a q2 := by rw [← hu, tl_extract]; rfl
        have e22 : (a : Int) ≤ (q2 : Int) := by omega
        have e23 : (q2 : Int) ≤ (s.size : Int) := by omega
        have e24 : a ≤ q2 := by omega
        have e25 : q2 ≤ s.size := h5
        obtain ⟨cb, hcb⟩ : ∃ cb, Op.bytesLess u.toList lb.toList = cb := ⟨_, rfl⟩
        have hyes : (t8 = 0x31 ∧ cb = true) → RunsD s.toList L (.pend (fr0 t8 l.length p0 e1 k lb :: G) (l ++ (⟨t8, 0, []⟩ : Nd) :: N ++ N2) a q2) (.no 9 a false) := fun h => Runs.pendNo (by
          rw [pendS, if_pos]
          refine ⟨h.1, ?_, by rw [← hul]; show Op.bytesLess u.toList lb.toList = true; rw [hcb]; exact h.2⟩
          show 0 < k
          refine Nat.pos_of_ne_zero fun h0 => ?_
          rw [HA.out.2.2.2.2 h0, h.2] at hcb
          cases hq : u.toList with
          | nil => rw [hq] at hcb; cases hcb
          | cons x y => rw [hq] at hcb; cases hcb)
        have hno : ¬ (t8 = 0x31 ∧ cb = true) → ∀ r, RunsD s.toList L (.loop (fr0 t8 l.length p0 e1 kq u :: G) (l ++ (⟨t8, 0, []⟩ : Nd) :: (N ++ N2)) q2) r → RunsD s.toList L (.pend (fr0 t8 l.length p0 e1 k lb :: G) (l ++ (⟨t8, 0, []⟩ : Nd) :: N ++ N2) a q2) r := fun h r hr => Runs.pend (s := .loop (fr0 t8 l.length p0 e1 kq u :: G) (l ++ (⟨t8, 0, []⟩ : Nd) :: N ++ N2) q2) (by
          rw [pendS, if_neg (by
            rintro ⟨h7, _, h8⟩
            refine h ⟨h7, ?_⟩
            rw [← hcb, hul]
            exact h8), ← hul, ← hkq]
          rfl) (by rw [show l ++ (⟨t8, 0, []⟩ : Nd) :: N ++ N2 = l ++ (⟨t8, 0, []⟩ : Nd) :: (N ++ N2) by simp]; exact hr)
        clear hnd hAn hgk
        go_wp2_with fail
        go_region
        try rw [hw5]
        clear k5 k0 hn1 hnf hw5
        have k0 := HR5.out.at0.cell 0 _ rfl
        rw [Nat.zero_add] at k0
        have HNX : Hid (q2 ≤ e1 ∧ q2 ≤ s.size ∧ q ≤ q2 ∧ kq ≤ q2 ∧ (kq = 0 → u.toList = []) ∧ a < q2) := ⟨h6 _ rfl, h5, by have := HA.out; omega, by have := HA.out; omega, fun h => by omega, by omega⟩
        have hR4 := Lib.hid HR4
        have HRX : Hid (Rok w5 g s L ro (O ++ (⟨t8, (kq : Int), []⟩ : Nd) :: (N ++ N2)) gk) := ⟨_, _, HR5.out⟩
        by_cases ht9 : t = 49
        · have h9 : t8 = 0x31 := by rw [← UInt8.toNat_inj, HT.out, ht9]; rfl
          subst ht9
          cases cb with
          | true =>
            have HY := Lib.hid (HRun2.out _ (HR4 _ (hyes ⟨h9, rfl⟩)))
            clear hyes hno h4 h5 h6 HR4 hlen hap hM hM0 hkq hul h9 hR4
            go_wp2_with (first | (go_at_call 52; refine (dfault_ok HRX.out _ _ a rfl).mono ?_; rintro e w6 ⟨rfl, HR6, HB6⟩))
            go_ret2
            exact .inr ⟨_, _, _, ⟨rfl, HR6, HB5.out.trans HB6.out⟩, HY.out⟩
          | false =>
            have HY := Lib.hid (fun r hr => HRun2.out r (HR4 r (hno (by rintro ⟨_, h⟩; cases h) r hr)))
            clear hyes hno h4 h5 h6 HR4 hlen hap hM hM0 hkq hul h9 hR4
            go_wp2_with fail
            go_roundw
            case rel => exact ⟨q2, kq, N ++ N2, u, rfl, rfl, HNX.out.1, HNX.out.2.1, HNX.out.2.2.1, HNX.out.2.2.2.1, HNX.out.2.2.2.2.1, HRX, HB5, HY⟩
            case measure => have := HNX.out; simp [intOf]; omega
        · have h9 : ¬ t8 = 0x31 := fun h => ht9 (by rw [← HT.out, h]; rfl)
          have e30 : ¬ (t : Int) = 49 := by omega
          have e31 : ((t : Int) == 49) = false := by rw [beq_eq_false_iff_ne]; exact e30
          have HY := Lib.hid (fun r hr => HRun2.out r (HR4 r (hno (by rintro ⟨h, _⟩; exact h9 h) r hr)))
          clear hyes hno h4 h5 h6 HR4 hlen hap hM hM0 hkq hul h9 hR4
          go_wp2_with fail
          go_roundw
          case rel => exact ⟨q2, kq, N ++ N2, u, rfl, rfl, HNX.out.1, HNX.out.2.1, HNX.out.2.2.1, HNX.out.2.2.2.1, HNX.out.2.2.2.2.1, HRX, HB5, HY⟩
          case measure => have := HNX.out; simp [intOf]; omega
      · go_wp2_with fail
        go_ret2
        exact .inr ⟨c2, x2, b2, ⟨rfl, HR3, HBr.out.trans HB3.out⟩, HRun2.out _ HR4⟩
    · obtain rfl : a = e1 := by omega
      have e2 : ¬ (a : Int) < (a : Int) := by omega
      have hs1 : loopS (fr0 t8 l.length p0 a k lb) G (l ++ ⟨t8, 0, []⟩ :: N) a = .pend G (l ++ ⟨t8, (k : Int), []⟩ :: N) p0 a := by
        rw [loopS, if_neg (show ¬ a < (fr0 t8 l.length p0 a k lb).e from h1)]
        show St.pend G ((l ++ (⟨t8, 0, []⟩ : Nd) :: N).modify l.length (fun n => { n with kids := (k : Int) })) p0 a = _
        rw [mod_mid]
      have HRun2 : Hid (∀ r, RunsD s.toList L (.pend G (l ++ ⟨t8, (k : Int), []⟩ :: N) p0 a) r → RunsD s.toList L (.loop (fr0 t8 l.length p0 a 0 ByteArray.empty :: G) (l ++ [⟨t8, 0, []⟩]) q) r) := fun r hr => HRun.out r (Runs.loop (by rw [hs1]; exact hr))
      obtain ⟨a5, c5, tk5, HR5⟩ := HRr.out.opn
      have k9 := HR5.out.at0.cell 9 _ rfl
      have f9 := HR5.out.at0.froz 9 (Nat.le_of_ble_eq_true rfl)
      have e10 : (gk : Int) - 1 = (gl : Int) := by have := HGK.out; omega
      have e11 : IntKind.i64.wrap (gl : Int) = (gl : Int) := wrap_fit gl (by have := HH.out.2.2.2.2.2.1; have := HN0.out.2.2; unfold maxLen; omega)
      clear ha1 ha2 ha3 ha4 hk0 h1 hs1
      go_wp2_with fail
      go_ret2
      exact .inl ⟨N, k, ⟨rfl, ⟨_, _, HR5.out.setC 9 _ (fr' := gl) rfl⟩, HBr.out.setCell (p := ⟨g, 9, none⟩) (Nat.le_refl _) _⟩, HA.out.2.1, HRun2.out⟩
end Go.Proofs.YteglahkgnggmgaaDoor
namespace Go.Proofs.YteglahkgnggmgaaDoor
open Go.RowKit
set_option linter.unusedVariables false
set_option linter.unusedSimpArgs false
open Dr
set_option maxRecDepth 100000 in
set_option maxHeartbeats 1600000 in
theorem delem_inn (w : World) (g : Nat) (s : ByteArray) (L : Lm) (ro : Int) (O : List Nd) (fr : Nat) (G : List Fr) (l : List Nd) (p : Nat) (z : Int) (hR : Rok w g s L ro O fr) (hl : l.length = O.length) (hz : s.size ≤ 140737488351232) (hp : p ≤ s.size) (hG : EndOf G z) (hGl : G.length ≤ 1000000) (h0 : p < s.size ∧ p < L.bytes) (h2 : ¬ L.items ≤ l.length) (h3 : ¬ tagE (s.toList.getD p 0) ≠ 0) (h4 : ¬ (within (s.toList.getD p 0) = true ∧ L.depth ≤ G.length)) (hV : within (s.toList.getD p 0) = true) {n q : Nat} (h5 : lenR s.toList L (p + 1) = .ok (n, q)) (h6 : ¬ (G.head?.any fun f => decide (f.e < q + n)) = true) (hgn : G = []) (hLi : L.items ≤ 4096) (hLd : L.depth ≤ 32) (mm : Nat) (EL : ElAll mm s L ro g) (hmm : s.size - p < mm + 1) (hfr : fr = G.length) :
    Calls Tryd.prog 50 #[.pointer (some ⟨g, 0, none⟩), .int .i64 (p : Int), .int .i64 (G.length : Int), .int .i64 z] w (DElem s L ro g O fr G l p w) := by
  have W := Lib.hid (dwant_yes hR (p : Int) p rfl h0.1 h0.2 hz)
  have hh := has_yes s L p h0
  obtain ⟨m, hm⟩ : ∃ m, O.length = m := ⟨_, rfl⟩
  have HM := Lib.hid hm
  have hlm : l.length = m := hl.trans hm
  obtain ⟨t, ht⟩ : ∃ t, (s.toList.getD p 0).toNat = t := ⟨_, rfl⟩
  have ht2 : t < 256 := by rw [← ht]; exact (s.toList.getD p 0).toNat_lt
  have hlt : p < s.size := h0.1
  have hsp : (s[p]'hlt).toNat = t := by rw [← tl_getD s p hlt]; exact ht
  obtain ⟨hte, hwi⟩ := tag_nat s p t ht
  have TG := Lib.hid (fun w => rtag_any t ht2 w)
  rw [← hte] at TG
  rw [Classical.not_not.1 h3] at TG
  have e1 : ¬ (L.items : Int) ≤ (m : Int) := by omega
  have e1b : decide ((L.items : Int) ≤ (m : Int)) = false := decide_eq_false e1
  obtain ⟨x, hx⟩ : ∃ x, t / 32 = x := ⟨_, rfl⟩
  have e3 : (t : Int) / 32 = (x : Int) := by omega
  have e6 : IntKind.u8.wrap (x : Int) = (x : Int) := by simp [IntKind.wrap, IntKind.bits, IntKind.signed]; omega
  have e10 : (p : Int) ≤ 140737488351232 := by omega
  obtain ⟨d, hd⟩ : ∃ d, G.length = d := ⟨_, rfl⟩
  rw [hd]
  have LE := Lib.hid (fun w' (h' : Rok w' g s L ro O fr) => dlength_any h' ((p : Int) + 1) (p + 1) (by omega) hz (show p + 1 ≤ s.size from h0.1))
  rw [h5] at LE
  have hpl := lenR_pl h5
  rw [tl_size] at hpl
  obtain ⟨v, hv⟩ : ∃ v, q + n = v := ⟨_, rfl⟩
  have e7 : (q : Int) + (n : Int) = (v : Int) := by omega
  have e8 : IntKind.i64.wrap (v : Int) = (v : Int) := wrap_fit v (by unfold maxLen; omega)
  have HE := elS_in (G := G) hh h2 h3 h4 h5 h6 hV
  have hGd : G.length ≤ 999 := by
    have h9 : ¬ L.depth ≤ G.length := fun h => h4 ⟨hV, h⟩
    omega
  have hfd : d = fr := (hfr.trans hd).symm
  subst hfd
  have IN := Lib.hid (fun w' (h' : Rok w' g s L ro O G.length) => inside_any mm s L ro g EL hz w' O G l (s.toList.getD p 0) t ht p q v h' hl (by omega) (by omega) (by omega) (by omega) (by omega) hGd)
  rw [hd] at IN
  have HEB := Lib.hid (show ∀ f', G.head? = some f' → v ≤ f'.e from fun f' hf => by rw [← hv]; exact head_le h6 f' hf)
  have hf0 : ({ tag := s.toList.getD p 0, node := l.length, p0 := p, e := q + n, kids := 0, last := [] } : Fr) = fr0 (s.toList.getD p 0) l.length p v 0 ByteArray.empty := by rw [fr0, tl_empty, hv]
  rw [hf0] at HE
  have HEE := Lib.hid HE
  have HFIN := Lib.hid (And.intro hpl hv)
  subst hgn
  obtain rfl : z = -1 := by rcases hG with ⟨_, h⟩ | ⟨f, G', h, _⟩; exact h; cases h
  have hy : x % 2 = 1 := by rw [hwi, decide_eq_true_iff] at hV; omega
  have e4 : (x : Int) % 2 = 1 := by omega
  have e5 : ¬ (L.depth : Int) ≤ (d : Int) := by have h9 : ¬ L.depth ≤ d := fun h => h4 ⟨hV, by rw [hd]; exact h⟩; omega
  have e5b : decide ((L.depth : Int) ≤ (d : Int)) = false := decide_eq_false e5
  clear hR hl hz hp hG hGl h0 h2 hm hlm hh ht ht2 hte hwi h3 hx hy hV h4 h5 h6 hpl hv hLi hLd EL hmm hf0 HE hGd hfr
  go_enter Tryd.func50, Tryd.ntmps50
  go_wp2_with (first
    | (go_at_call 51; refine W.out.mono ?_; rintro e w1 ⟨rfl, HQ1, HB1⟩; obtain ⟨a1, c1, tk1, HR1⟩ := HQ1.out.opn; have g0 := HQ1.out.txt)
    | (go_at_call 37; refine (TG.out _).mono ?_; rintro e wt ⟨rfl, rfl⟩)
    | (go_at_call 52; refine (dfault_ok (by first | exact HQ4.out.drewN _ | exact HQ4.out | exact HQ3.out | exact HQ2.out.drewN _ | exact HQ2.out | exact HQ1.out.drewN _ | exact HQ1.out) _ _ p rfl).mono ?_; rintro e wf ⟨rfl, HRF, HBF⟩)
    | (go_at_call 68; refine (LE.out _ (HQ1.out.drewN _)).mono ?_; rintro e w2 ⟨rfl, HQ2, HB2⟩)
    | (go_at_call 69; refine (AL.out _ HQ2.out).mono ?_; rintro e w3 ⟨rfl, HQ3, HB3⟩; have g3 := HQ3.out.txt)
    | (go_at_call 38; refine (BO.out _).mono ?_; rintro e w4 ⟨rfl, hb4⟩; have HQ4 := Lib.hid (HQ3.out.below hb4); have HB4 : Hid (Below g w3 w4) := hb4.mono (Nat.le_of_lt HQ3.out.lt); clear hb4)
   )
  have k5 := HR1.out.at0.cell 5 _ rfl
  have k2 := HR1.out.at0.cell 2 _ rfl
  have k1 := HR1.out.at0.cell 1 _ rfl
  rw [HM.out] at k5
  go_quiet (fail)
  go_wp2_with (first
    | (go_at_call 51; refine W.out.mono ?_; rintro e w1 ⟨rfl, HQ1, HB1⟩; obtain ⟨a1, c1, tk1, HR1⟩ := HQ1.out.opn; have g0 := HQ1.out.txt)
    | (go_at_call 37; refine (TG.out _).mono ?_; rintro e wt ⟨rfl, rfl⟩)
    | (go_at_call 52; refine (dfault_ok (by first | exact HQ4.out.drewN _ | exact HQ4.out | exact HQ3.out | exact HQ2.out.drewN _ | exact HQ2.out | exact HQ1.out.drewN _ | exact HQ1.out) _ _ p rfl).mono ?_; rintro e wf ⟨rfl, HRF, HBF⟩)
    | (go_at_call 68; refine (LE.out _ (HQ1.out.drewN _)).mono ?_; rintro e w2 ⟨rfl, HQ2, HB2⟩)
    | (go_at_call 69; refine (AL.out _ HQ2.out).mono ?_; rintro e w3 ⟨rfl, HQ3, HB3⟩; have g3 := HQ3.out.txt)
    | (go_at_call 38; refine (BO.out _).mono ?_; rintro e w4 ⟨rfl, hb4⟩; have HQ4 := Lib.hid (HQ3.out.below hb4); have HB4 : Hid (Below g w3 w4) := hb4.mono (Nat.le_of_lt HQ3.out.lt); clear hb4))
  refine (IN.out _ HQ2.out).mono ?_
  rintro e w3 (⟨N, k, ⟨rfl, HR3, HB3⟩, h31, h32⟩ | ⟨c3, x3, b3, ⟨rfl, HR3, HB3⟩, h32⟩)
  · go_wp2_with fail
    go_ret2
    exact .inl ⟨⟨s.toList.getD p 0, (k : Int), []⟩ :: N, v, ⟨rfl, HR3, ((HB1.out.trans (below_drewN _ _ _)).trans HB2.out).trans HB3.out⟩, by have := HFIN.out.1; have := HFIN.out.2; omega, h31, HEB.out, fun r hr => Runs.el HEE.out (h32 r hr)⟩
  · go_wp2_with fail
    go_ret2
    exact .inr ⟨c3, x3, b3, ⟨rfl, HR3, ((HB1.out.trans (below_drewN _ _ _)).trans HB2.out).trans HB3.out⟩, Runs.el HEE.out h32⟩
set_option maxRecDepth 100000 in
set_option maxHeartbeats 1600000 in
theorem delem_inc (w : World) (g : Nat) (s : ByteArray) (L : Lm) (ro : Int) (O : List Nd) (fr : Nat) (G : List Fr) (l : List Nd) (p : Nat) (z : Int) (hR : Rok w g s L ro O fr) (hl : l.length = O.length) (hz : s.size ≤ 140737488351232) (hp : p ≤ s.size) (hG : EndOf G z) (hGl : G.length ≤ 1000000) (h0 : p < s.size ∧ p < L.bytes) (h2 : ¬ L.items ≤ l.length) (h3 : ¬ tagE (s.toList.getD p 0) ≠ 0) (h4 : ¬ (within (s.toList.getD p 0) = true ∧ L.depth ≤ G.length)) (hV : within (s.toList.getD p 0) = true) {n q : Nat} (h5 : lenR s.toList L (p + 1) = .ok (n, q)) (h6 : ¬ (G.head?.any fun f => decide (f.e < q + n)) = true) (hgn : ∃ f G2, G = f :: G2) (hLi : L.items ≤ 4096) (hLd : L.depth ≤ 32) (mm : Nat) (EL : ElAll mm s L ro g) (hmm : s.size - p < mm + 1) (hfr : fr = G.length) :
    Calls Tryd.prog 50 #[.pointer (some ⟨g, 0, none⟩), .int .i64 (p : Int), .int .i64 (G.length : Int), .int .i64 z] w (DElem s L ro g O fr G l p w) := by
  have W := Lib.hid (dwant_yes hR (p : Int) p rfl h0.1 h0.2 hz)
  have hh := has_yes s L p h0
  obtain ⟨m, hm⟩ : ∃ m, O.length = m := ⟨_, rfl⟩
  have HM := Lib.hid hm
  have hlm : l.length = m := hl.trans hm
  obtain ⟨t, ht⟩ : ∃ t, (s.toList.getD p 0).toNat = t := ⟨_, rfl⟩
  have ht2 : t < 256 := by rw [← ht]; exact (s.toList.getD p 0).toNat_lt
  have hlt : p < s.size := h0.1
  have hsp : (s[p]'hlt).toNat = t := by rw [← tl_getD s p hlt]; exact ht
  obtain ⟨hte, hwi⟩ := tag_nat s p t ht
  have TG := Lib.hid (fun w => rtag_any t ht2 w)
  rw [← hte] at TG
  rw [Classical.not_not.1 h3] at TG
  have e1 : ¬ (L.items : Int) ≤ (m : Int) := by omega
  have e1b : decide ((L.items : Int) ≤ (m : Int)) = false := decide_eq_false e1
  obtain ⟨x, hx⟩ : ∃ x, t / 32 = x := ⟨_, rfl⟩
  have e3 : (t : Int) / 32 = (x : Int) := by omega
  have e6 : IntKind.u8.wrap (x : Int) = (x : Int) := by simp [IntKind.wrap, IntKind.bits, IntKind.signed]; omega
  have e10 : (p : Int) ≤ 140737488351232 := by omega
  obtain ⟨d, hd⟩ : ∃ d, G.length = d := ⟨_, rfl⟩
  rw [hd]
  have LE := Lib.hid (fun w' (h' : Rok w' g s L ro O fr) => dlength_any h' ((p : Int) + 1) (p + 1) (by omega) hz (show p + 1 ≤ s.size from h0.1))
  rw [h5] at LE
  have hpl := lenR_pl h5
  rw [tl_size] at hpl
  obtain ⟨v, hv⟩ : ∃ v, q + n = v := ⟨_, rfl⟩
  have e7 : (q : Int) + (n : Int) = (v : Int) := by omega
  have e8 : IntKind.i64.wrap (v : Int) = (v : Int) := wrap_fit v (by unfold maxLen; omega)
  have HE := elS_in (G := G) hh h2 h3 h4 h5 h6 hV
  have hGd : G.length ≤ 999 := by
    have h9 : ¬ L.depth ≤ G.length := fun h => h4 ⟨hV, h⟩
    omega
  have hfd : d = fr := (hfr.trans hd).symm
  subst hfd
  have IN := Lib.hid (fun w' (h' : Rok w' g s L ro O G.length) => inside_any mm s L ro g EL hz w' O G l (s.toList.getD p 0) t ht p q v h' hl (by omega) (by omega) (by omega) (by omega) (by omega) hGd)
  rw [hd] at IN
  have HEB := Lib.hid (show ∀ f', G.head? = some f' → v ≤ f'.e from fun f' hf => by rw [← hv]; exact head_le h6 f' hf)
  have hf0 : ({ tag := s.toList.getD p 0, node := l.length, p0 := p, e := q + n, kids := 0, last := [] } : Fr) = fr0 (s.toList.getD p 0) l.length p v 0 ByteArray.empty := by rw [fr0, tl_empty, hv]
  rw [hf0] at HE
  have HEE := Lib.hid HE
  have HFIN := Lib.hid (And.intro hpl hv)
  obtain ⟨f, G2, rfl⟩ := hgn
  obtain rfl : z = (f.e : Int) := by
    rcases hG with ⟨h, _⟩ | ⟨f', G', h, h7⟩
    · cases h
    · cases h; exact h7
  have hfe : ¬ f.e < q + n := by simpa using h6
  have e9 : ¬ (f.e : Int) < (v : Int) := by omega
  have e9c : decide ((f.e : Int) < (v : Int)) = false := decide_eq_false e9
  have e9b : (0 : Int) ≤ (f.e : Int) := by omega
  have hy : x % 2 = 1 := by rw [hwi, decide_eq_true_iff] at hV; omega
  have e4 : (x : Int) % 2 = 1 := by omega
  have e5 : ¬ (L.depth : Int) ≤ (d : Int) := by have h9 : ¬ L.depth ≤ d := fun h => h4 ⟨hV, by rw [hd]; exact h⟩; omega
  have e5b : decide ((L.depth : Int) ≤ (d : Int)) = false := decide_eq_false e5
  clear hR hl hz hp hG hGl h0 h2 hm hlm hh ht ht2 hte hwi h3 hx hy hV h4 h5 h6 hpl hv hLi hLd EL hmm hf0 HE hGd hfr hfe
  go_enter Tryd.func50, Tryd.ntmps50
  go_wp2_with (first
    | (go_at_call 51; refine W.out.mono ?_; rintro e w1 ⟨rfl, HQ1, HB1⟩; obtain ⟨a1, c1, tk1, HR1⟩ := HQ1.out.opn; have g0 := HQ1.out.txt)
    | (go_at_call 37; refine (TG.out _).mono ?_; rintro e wt ⟨rfl, rfl⟩)
    | (go_at_call 52; refine (dfault_ok (by first | exact HQ4.out.drewN _ | exact HQ4.out | exact HQ3.out | exact HQ2.out.drewN _ | exact HQ2.out | exact HQ1.out.drewN _ | exact HQ1.out) _ _ p rfl).mono ?_; rintro e wf ⟨rfl, HRF, HBF⟩)
    | (go_at_call 68; refine (LE.out _ (HQ1.out.drewN _)).mono ?_; rintro e w2 ⟨rfl, HQ2, HB2⟩)
    | (go_at_call 69; refine (AL.out _ HQ2.out).mono ?_; rintro e w3 ⟨rfl, HQ3, HB3⟩; have g3 := HQ3.out.txt)
    | (go_at_call 38; refine (BO.out _).mono ?_; rintro e w4 ⟨rfl, hb4⟩; have HQ4 := Lib.hid (HQ3.out.below hb4); have HB4 : Hid (Below g w3 w4) := hb4.mono (Nat.le_of_lt HQ3.out.lt); clear hb4)
   )
  have k5 := HR1.out.at0.cell 5 _ rfl
  have k2 := HR1.out.at0.cell 2 _ rfl
  have k1 := HR1.out.at0.cell 1 _ rfl
  rw [HM.out] at k5
  go_quiet (fail)
  go_wp2_with (first
    | (go_at_call 51; refine W.out.mono ?_; rintro e w1 ⟨rfl, HQ1, HB1⟩; obtain ⟨a1, c1, tk1, HR1⟩ := HQ1.out.opn; have g0 := HQ1.out.txt)
    | (go_at_call 37; refine (TG.out _).mono ?_; rintro e wt ⟨rfl, rfl⟩)
    | (go_at_call 52; refine (dfault_ok (by first | exact HQ4.out.drewN _ | exact HQ4.out | exact HQ3.out | exact HQ2.out.drewN _ | exact HQ2.out | exact HQ1.out.drewN _ | exact HQ1.out) _ _ p rfl).mono ?_; rintro e wf ⟨rfl, HRF, HBF⟩)
    | (go_at_call 68; refine (LE.out _ (HQ1.out.drewN _)).mono ?_; rintro e w2 ⟨rfl, HQ2, HB2⟩)
    | (go_at_call 69; refine (AL.out _ HQ2.out).mono ?_; rintro e w3 ⟨rfl, HQ3, HB3⟩; have g3 := HQ3.out.txt)
    | (go_at_call 38; refine (BO.out _).mono ?_; rintro e w4 ⟨rfl, hb4⟩; have HQ4 := Lib.hid (HQ3.out.below hb4); have HB4 : Hid (Below g w3 w4) := hb4.mono (Nat.le_of_lt HQ3.out.lt); clear hb4))
  refine (IN.out _ HQ2.out).mono ?_
  rintro e w3 (⟨N, k, ⟨rfl, HR3, HB3⟩, h31, h32⟩ | ⟨c3, x3, b3, ⟨rfl, HR3, HB3⟩, h32⟩)
  · go_wp2_with fail
    go_ret2
    exact .inl ⟨⟨s.toList.getD p 0, (k : Int), []⟩ :: N, v, ⟨rfl, HR3, ((HB1.out.trans (below_drewN _ _ _)).trans HB2.out).trans HB3.out⟩, by have := HFIN.out.1; have := HFIN.out.2; omega, h31, HEB.out, fun r hr => Runs.el HEE.out (h32 r hr)⟩
  · go_wp2_with fail
    go_ret2
    exact .inr ⟨c3, x3, b3, ⟨rfl, HR3, ((HB1.out.trans (below_drewN _ _ _)).trans HB2.out).trans HB3.out⟩, Runs.el HEE.out h32⟩
theorem nil_or (G : List Fr) : G = [] ∨ ∃ f G2, G = f :: G2 := by
  cases G with
  | nil => exact .inl rfl
  | cons f G => exact .inr ⟨f, G, rfl⟩
theorem element_all (s : ByteArray) (L : Lm) (ro : Int) (g : Nat) (hz : s.size ≤ 140737488351232) (hLi : L.items ≤ 4096) (hLd : L.depth ≤ 32) : ∀ m, ElAll m s L ro g
  | 0 => fun w O G l p z zd hm => absurd hm (by omega)
  | m + 1 => fun w O G l p z zd hm hR hl hp hG hGl hd => by
    subst hd
    have hGl' : G.length ≤ 1000000 := by omega
    by_cases h0 : p < s.size ∧ p < L.bytes
    · by_cases h2 : L.items ≤ l.length
      · exact delem_items w g s L ro O G.length G l p z hR hl hz hp hG hGl' h0 h2
      · by_cases h3 : tagE (s.toList.getD p 0) ≠ 0
        · exact delem_tag w g s L ro O G.length G l p z hR hl hz hp hG hGl' h0 h2 h3
        · by_cases h4 : within (s.toList.getD p 0) = true ∧ L.depth ≤ G.length
          · exact delem_depth w g s L ro O G.length G l p z hR hl hz hp hG hGl' h0 h2 h3 h4.1 h4.2
          · cases h5 : lenR s.toList L (p + 1) with
            | no c q b =>
              by_cases hV : within (s.toList.getD p 0) = true
              · exact delem_len_in w g s L ro O G.length G l p z hR hl hz hp hG hGl' h0 h2 h3 h4 hV h5
              · exact delem_len_out w g s L ro O G.length G l p z hR hl hz hp hG hGl' h0 h2 h3 h4 hV h5
            | ok x =>
              obtain ⟨n, q⟩ := x
              by_cases h6 : (G.head?.any fun f => decide (f.e < q + n)) = true
              · by_cases hV : within (s.toList.getD p 0) = true
                · exact delem_end_in w g s L ro O G.length G l p z hR hl hz hp hG hGl' h0 h2 h3 h4 hV h5 h6
                · exact delem_end_out w g s L ro O G.length G l p z hR hl hz hp hG hGl' h0 h2 h3 h4 hV h5 h6
              · by_cases hV : within (s.toList.getD p 0) = true
                · rcases nil_or G with hgn | hgn
                  · exact delem_inn w g s L ro O G.length G l p z hR hl hz hp hG hGl' h0 h2 h3 h4 hV h5 h6 hgn hLi hLd m (element_all s L ro g hz hLi hLd m) hm rfl
                  · exact delem_inc w g s L ro O G.length G l p z hR hl hz hp hG hGl' h0 h2 h3 h4 hV h5 h6 hgn hLi hLd m (element_all s L ro g hz hLi hLd m) hm rfl
                · by_cases h8 : n ≠ 0 ∧ has s.toList L (q + n - 1) = false
                  · rcases nil_or G with hgn | hgn
                    · exact delem_skipn w g s L ro O G.length G l p z hR hl hz hp hG hGl' h0 h2 h3 h4 hV h5 h6 hgn h8
                    · exact delem_skipc w g s L ro O G.length G l p z hR hl hz hp hG hGl' h0 h2 h3 h4 hV h5 h6 hgn h8
                  · by_cases h9 : bodyOk (s.toList.getD p 0) (Dr.part s.toList q (q + n)) = false
                    · rcases nil_or G with hgn | hgn
                      · exact delem_bodyn w g s L ro O G.length G l p z hR hl hz hp hG hGl' h0 h2 h3 h4 hV h5 h6 hgn h8 h9
                      · exact delem_bodyc w g s L ro O G.length G l p z hR hl hz hp hG hGl' h0 h2 h3 h4 hV h5 h6 hgn h8 h9
                    · rcases nil_or G with hgn | hgn
                      · exact delem_okn w g s L ro O G.length G l p z hR hl hz hp hG hGl' h0 h2 h3 h4 hV h5 h6 hgn h8 h9 hLi
                      · exact delem_okc w g s L ro O G.length G l p z hR hl hz hp hG hGl' h0 h2 h3 h4 hV h5 h6 hgn h8 h9 hLi
    · exact delem_lack w g s L ro O G.length G l p z hR hl hz hp hG hGl' h0
end Go.Proofs.YteglahkgnggmgaaDoor
namespace Go.Proofs.YteglahkgnggmgaaDoor
open Go.RowKit
set_option linter.unusedVariables false
set_option linter.unusedSimpArgs false
open Dr
/-- the reader, behind all of its reading -/
def RdEnd (s : ByteArray) (L : Lm) (ro : Int) (r : Rs (List Nd)) (g : Nat) (w : World) : Prop :=
  match r with
  | .ok l => ∃ vo tk fr, Rf w g s L ro l vo 0 0 tk fr false
  | .no c q b => ∃ tk fr, Rf w g s L ro [] (.slice none 0 0) c q tk fr b
def RetRd (s : ByteArray) (L : Lm) (ro : Int) (w : World) (e : Ending) (w' : World) : Prop :=
  ∃ r g, RunsD s.toList L (.el [] [] 0) r ∧ e = .returned (.pointer (some ⟨g, 0, none⟩)) ∧ w.heap.size ≤ g ∧ Hid (RdEnd s L ro r g w') ∧ Hid (Below w.heap.size w w')
theorem Rf.nilOut {w : World} {g : Nat} {s : ByteArray} {L : Lm} {ro : Int} {O : List Nd} {vo : Value} {er : Int} {pl tk fr : Nat} {en : Bool} (h : Rf w g s L ro O vo er pl tk fr en) : Rf (w.setCell ⟨g, 5, none⟩ (.slice none 0 0)) g s L ro [] (.slice none 0 0) er pl tk fr en :=
  ⟨h.at0.set 5 _, World.ownsRow_nil _ _ _ _, by rw [show (w.setCell ⟨g, 5, none⟩ (.slice none 0 0)).heap.size = w.heap.size by simp [World.setCell]]; exact h.lt⟩
set_option maxRecDepth 100000 in
set_option maxHeartbeats 1600000 in
theorem rread_any (s : ByteArray) (L : Lm) (d i b ro : Int) (hd : (L.depth : Int) = d) (hi : (L.items : Int) = i) (hb : (L.bytes : Int) = b) (hLi : L.items ≤ 4096) (hLd : L.depth ≤ 32) (hz : s.size ≤ 140737488351232) (w : World) :
    Calls Tryd.prog 32 #[.string s, .agg #[.int .i64 d, .int .i64 i, .int .i64 b, .int .i64 ro]] w (RetRd s L ro w) := by
  have HB0 : Hid (Below w.heap.size w ((w.alloc (Obj.cells #[.int .i64 d, .int .i64 i, .int .i64 b, .int .i64 ro] 23)).alloc (Obj.cells #[.string s, .int .i64 d, .int .i64 i, .int .i64 b, .int .i64 ro, .slice none 0 0, .int .i64 0, .int .i64 0, .int .i64 0, .int .i64 0, .bool false] 75))) := ((Below.refl _ _).alloc (Nat.le_refl _) _).alloc (by simp) _
  have HR0 : Hid (Rok ((w.alloc (Obj.cells #[.int .i64 d, .int .i64 i, .int .i64 b, .int .i64 ro] 23)).alloc (Obj.cells #[.string s, .int .i64 d, .int .i64 i, .int .i64 b, .int .i64 ro, .slice none 0 0, .int .i64 0, .int .i64 0, .int .i64 0, .int .i64 0, .bool false] 75)) (w.heap.size + 1) s L ro [] ([] : List Fr).length) := by
    refine ⟨.slice none 0 0, 0, ?_, World.ownsRow_nil _ _ _ _, by simp⟩
    have h := At.ofAlloc (w.alloc (Obj.cells #[.int .i64 d, .int .i64 i, .int .i64 b, .int .i64 ro] 23)) #[.string s, .int .i64 d, .int .i64 i, .int .i64 b, .int .i64 ro, .slice none 0 0, .int .i64 0, .int .i64 0, .int .i64 0, .int .i64 0, .bool false] 75
    rw [show (w.alloc (Obj.cells #[.int .i64 d, .int .i64 i, .int .i64 b, .int .i64 ro] 23)).heap.size = w.heap.size + 1 by simp] at h
    rw [rfc, hd, hi, hb]
    exact h
  have EL := Lib.hid (element_all s L ro (w.heap.size + 1) hz hLi hLd (s.size + 1))
  have HZ := Lib.hid hz
  clear hd hi hb hLi hLd hz
  go_enter Tryd.func32, Tryd.ntmps32
  go_wp2_with fail
  refine (EL.out _ [] [] [] 0 (-1) 0 (by omega) HR0.out rfl (Nat.zero_le _) (.inl ⟨rfl, rfl⟩) (by simp) rfl).mono ?_
  obtain ⟨g, hg⟩ : ∃ g, w.heap.size + 1 = g := ⟨_, rfl⟩
  have HG := Lib.hid hg
  rw [hg]
  clear hg
  rintro e w1 (⟨N, q, ⟨rfl, HR1, HB1⟩, h4, h5, -, h6⟩ | ⟨c, x, b2, ⟨rfl, HR1, HB1⟩, h6⟩)
  · rw [List.nil_append] at HR1
    have hfin : RunsD s.toList L (.el [] [] 0) (fin s.toList L N q) := h6 _ (Runs.pend (s := .loop [] N q) rfl Runs.fin)
    have HBw : Hid (Below w.heap.size w w1) := HB0.out.trans (HB1.out.mono (by have := HG.out; omega))
    have hgw : Hid (w.heap.size ≤ g) := by have := HG.out; show w.heap.size ≤ g; omega
    by_cases h1 : q < s.size
    · have e1 : (q : Int) < (s.size : Int) := by omega
      rw [fin, if_pos (by rw [tl_size]; exact h1)] at hfin
      by_cases h2 : q < L.bytes
      · rw [if_pos (has_yes s L q ⟨h1, h2⟩)] at hfin
        have HF := Lib.hid hfin
        have W := Lib.hid (dwant_yes HR1.out (q : Int) q rfl h1 h2 HZ.out)
        clear h4 h5 h6 hfin h1 h2
        go_wp2_with (first
          | (go_at_call 51; refine W.out.mono ?_; rintro e w2 ⟨rfl, HR2, HB2⟩)
          | (go_at_call 52; refine (dfault_ok HR2.out _ _ q rfl).mono ?_; rintro e w3 ⟨rfl, HRq, HB3⟩; obtain ⟨O, vo, tk, fr, HR3⟩ := HRq.out; have HR3 := Lib.hid HR3; have k6 := HR3.out.at0.cell 6 _ rfl; have k5 := HR3.out.at0.cell 5 _ rfl; have f5 := HR3.out.at0.froz 5 (Nat.le_of_ble_eq_true rfl)))
        go_ret
        exact ⟨.no 9 q false, g, HF.out, rfl, hgw.out, ⟨_, _, HR3.out.nilOut⟩, ((HBw.out.trans (HB2.out.mono hgw.out)).trans (HB3.out.mono hgw.out)).setCell (p := ⟨g, 5, none⟩) hgw.out _⟩
      · rw [if_neg (by rw [has_no s L q (fun h => h2 h.2)]; decide)] at hfin
        have HF := Lib.hid hfin
        have W := Lib.hid (dwant_no HR1.out (q : Int) q rfl (fun h => h2 h.2))
        have hl0 : ¬ lackE s.toList L = 0 := by rw [lackE]; split <;> decide
        obtain ⟨le, hle⟩ : ∃ x, lackE s.toList L = x := ⟨_, rfl⟩
        rw [hle] at W hl0
        rw [dlack_eq, hle] at HF
        clear h4 h5 h6 hfin h1 h2 hle
        go_wp2_with (first
          | (go_at_call 51; refine W.out.mono ?_; rintro e w2 ⟨rfl, HRq, HB2⟩; obtain ⟨O, vo, tk, fr, HR3⟩ := HRq.out; have HR3 := Lib.hid HR3; have k6 := HR3.out.at0.cell 6 _ rfl; have k5 := HR3.out.at0.cell 5 _ rfl; have f5 := HR3.out.at0.froz 5 (Nat.le_of_ble_eq_true rfl)))
        go_ret
        exact ⟨.no le _ _, g, HF.out, rfl, hgw.out, ⟨_, _, HR3.out.nilOut⟩, (HBw.out.trans (HB2.out.mono hgw.out)).setCell (p := ⟨g, 5, none⟩) hgw.out _⟩
    · have e1 : ¬ (q : Int) < (s.size : Int) := by omega
      rw [fin, if_neg (by rw [tl_size]; exact h1)] at hfin
      have HF := Lib.hid hfin
      obtain ⟨vo, tk, HR3⟩ := HR1.out
      have k6 := HR3.at0.cell 6 _ rfl
      have HR3 := Lib.hid HR3
      clear h4 h5 h6 hfin h1
      go_wp2_with fail
      go_ret
      exact ⟨.ok N, g, HF.out, rfl, hgw.out, ⟨_, _, _, HR3.out⟩, HBw⟩
  · have hc : ¬ c = 0 := Runs.ne h6 _ _ _ rfl
    obtain ⟨O, vo, tk, fr, HRF⟩ := HR1.out
    have HRF := Lib.hid HRF
    have k6 := HRF.out.at0.cell 6 _ rfl
    have k5 := HRF.out.at0.cell 5 _ rfl
    have f5 := HRF.out.at0.froz 5 (Nat.le_of_ble_eq_true rfl)
    go_wp2_with fail
    go_ret
    exact ⟨.no c x b2, g, h6, rfl, by have := HG.out; omega, ⟨_, _, HRF.out.nilOut⟩, (HB0.out.trans (HB1.out.mono (by have := HG.out; omega))).setCell (p := ⟨g, 5, none⟩) (by have := HG.out; show w.heap.size ≤ g; omega) _⟩
set_option maxRecDepth 100000 in
set_option maxHeartbeats 1600000 in
theorem rdecode_any (s : ByteArray) (d i b ro : Int) (w : World) (hz : s.size ≤ 140737488351232) :
    Calls Tryd.prog 15 #[.string s, .agg #[.int .i64 d, .int .i64 i, .int .i64 b, .int .i64 ro]] w (RetDec s d i b ro w) := by
  have M := Lib.hid (fun w => rmay_any d i b ro w)
  have HL := Lib.hid (At.ofAlloc w #[.int .i64 d, .int .i64 i, .int .i64 b, .int .i64 ro] 23)
  have HB0 : Hid (Below w.heap.size w (w.alloc (Obj.cells #[.int .i64 d, .int .i64 i, .int .i64 b, .int .i64 ro] 23))) := (Below.refl _ _).alloc (Nat.le_refl _) _
  cases hm : mayOk d i b ro with
  | false =>
    rw [hm] at M
    have HM := Lib.hid hm
    clear hm hz
    go_enter Tryd.func15, Tryd.ntmps15
    go_wp2_with (first | (go_at_call 24; refine (M.out _).mono ?_; rintro e w1 ⟨rfl, hb1⟩))
    go_ret3
    exact ⟨.no 2 0 false, ⟨fun h => (by rw [HM.out] at h; cases h), fun _ => rfl⟩, _, rfl, World.ownsRow_nil _ _ _ _, HB0.out.trans (hb1.mono HB0.out.size)⟩
  | true =>
    rw [hm] at M
    have HM := Lib.hid hm
    have hy := mayOk_yes hm
    have RD := Lib.hid (fun w' => rread_any s (limL d i b) d i b ro (by show ((d.toNat : Nat) : Int) = d; omega) (by show ((i.toNat : Nat) : Int) = i; omega) (by show ((b.toNat : Nat) : Int) = b; omega) (by show i.toNat ≤ 4096; omega) (by show d.toNat ≤ 32; omega) hz w')
    obtain ⟨B, hB⟩ : ∃ B, w.heap.size = B := ⟨_, rfl⟩
    rw [hB] at HL
    have HBB := Lib.hid hB
    clear hm hz hy
    go_enter Tryd.func15, Tryd.ntmps15
    go_wp2_with fail
    try rw [hB]
    clear hB
    obtain ⟨w0, hw0⟩ : ∃ x, w.alloc (Obj.cells #[.int .i64 d, .int .i64 i, .int .i64 b, .int .i64 ro] 23) = x := ⟨_, rfl⟩
    rw [hw0] at HL HB0
    rw [hw0]
    clear hw0
    refine (M.out _).mono ?_
    rintro e w1 ⟨rfl, hb1⟩
    have HB1 : Hid (Below w.heap.size w w1) := HB0.out.trans (hb1.mono HB0.out.size)
    have hlt := HL.out.lt (by simp)
    have HL1 := HL.out.below hb1 hlt
    have l0 := HL1.cell 0 _ rfl
    have l1 := HL1.cell 1 _ rfl
    have l2 := HL1.cell 2 _ rfl
    have l3 := HL1.cell 3 _ rfl
    rw [Nat.zero_add] at l0 l1 l2 l3
    clear hb1 HL1 hlt
    go_wp2_with fail
    refine (RD.out _).mono ?_
    rintro e w2 ⟨r, g, hr, rfl, hg, HE, hb2⟩
    have HB2 : Hid (Below w.heap.size w w2) := HB1.out.trans (hb2.out.mono HB1.out.size)
    have HG : Hid (w.heap.size ≤ g) := Nat.le_trans HB1.out.size hg
    have HR := Lib.hid hr
    clear l0 l1 l2 l3 hb2 hr hg
    cases r with
    | no c q b2 =>
      obtain ⟨tk, fr, HR3⟩ := HE.out
      have k5 := HR3.at0.cell 5 _ rfl
      have k6 := HR3.at0.cell 6 _ rfl
      have k7 := HR3.at0.cell 7 _ rfl
      clear HR3
      go_wp2_with fail
      go_quiet (fail)
      go_wp2_with fail
      go_ret3
      exact ⟨.no c q b2, ⟨fun _ => HR.out, fun h => (by rw [HM.out] at h; cases h)⟩, _, rfl, World.ownsRow_nil _ _ _ _, HB2.out.trans (below_drewN _ _ _)⟩
    | ok l =>
      obtain ⟨vo, tk, fr, HR3⟩ := HE.out
      have k5 := HR3.at0.cell 5 _ rfl
      have k6 := HR3.at0.cell 6 _ rfl
      have k7 := HR3.at0.cell 7 _ rfl
      have HO := Lib.hid HR3.out
      clear HR3
      go_wp2_with fail
      go_quiet (fail)
      go_wp2_with fail
      go_ret3
      exact ⟨.ok l, ⟨fun _ => HR.out, fun h => (by rw [HM.out] at h; cases h)⟩, _, rfl, own_base (own_drewN HO.out _) (Nat.le_succ_of_le HG.out), HB2.out.trans (below_drewN _ _ _)⟩
end Go.Proofs.YteglahkgnggmgaaDoor
