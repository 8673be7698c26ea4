/- The document's reader: any element. -/
import Derived.Test.YteglahkgnggmgaaDoorDvG
namespace Go.Proofs.YteglahkgnggmgaaDoor
open Go.RowKit
set_option linter.unusedVariables false
set_option linter.unusedSimpArgs false
open Dr
set_option maxRecDepth 100000 in
set_option maxHeartbeats 1600000 in
theorem delem_inn (w : World) (g : Nat) (s : ByteArray) (L : Lm) (ro : Int) (O : List Nd) (fr : Nat) (G : List Fr) (l : List Nd) (p : Nat) (z : Int) (hR : Rok w g s L ro O fr) (hl : l.length = O.length) (hz : s.size ≤ 140737488351232) (hp : p ≤ s.size) (hG : EndOf G z) (hGl : G.length ≤ 1000000) (h0 : p < s.size ∧ p < L.bytes) (h2 : ¬ L.items ≤ l.length) (h3 : ¬ tagE (s.toList.getD p 0) ≠ 0) (h4 : ¬ (within (s.toList.getD p 0) = true ∧ L.depth ≤ G.length)) (hV : within (s.toList.getD p 0) = true) {n q : Nat} (h5 : lenR s.toList L (p + 1) = .ok (n, q)) (h6 : ¬ (G.head?.any fun f => decide (f.e < q + n)) = true) (hgn : G = []) (hLi : L.items ≤ 4096) (hLd : L.depth ≤ 32) (mm : Nat) (EL : ElAll mm s L ro g) (hmm : s.size - p < mm + 1) (hfr : fr = G.length) :
    Calls Tryd.prog 50 #[.pointer (some ⟨g, 0, none⟩), .int .i64 (p : Int), .int .i64 (G.length : Int), .int .i64 z] w (DElem s L ro g O fr G l p w) := by
  have W := Lib.hid (dwant_yes hR (p : Int) p rfl h0.1 h0.2 hz)
  have hh := has_yes s L p h0
  obtain ⟨m, hm⟩ : ∃ m, O.length = m := ⟨_, rfl⟩
  have HM := Lib.hid hm
  have hlm : l.length = m := hl.trans hm
  obtain ⟨t, ht⟩ : ∃ t, (s.toList.getD p 0).toNat = t := ⟨_, rfl⟩
  have ht2 : t < 256 := by rw [← ht]; exact (s.toList.getD p 0).toNat_lt
  have hlt : p < s.size := h0.1
  have hsp : (s[p]'hlt).toNat = t := by rw [← tl_getD s p hlt]; exact ht
  obtain ⟨hte, hwi⟩ := tag_nat s p t ht
  have TG := Lib.hid (fun w => rtag_any t ht2 w)
  rw [← hte] at TG
  rw [Classical.not_not.1 h3] at TG
  have e1 : ¬ (L.items : Int) ≤ (m : Int) := by omega
  have e1b : decide ((L.items : Int) ≤ (m : Int)) = false := decide_eq_false e1
  obtain ⟨x, hx⟩ : ∃ x, t / 32 = x := ⟨_, rfl⟩
  have e3 : (t : Int) / 32 = (x : Int) := by omega
  have e6 : IntKind.u8.wrap (x : Int) = (x : Int) := by simp [IntKind.wrap, IntKind.bits, IntKind.signed]; omega
  have e10 : (p : Int) ≤ 140737488351232 := by omega
  obtain ⟨d, hd⟩ : ∃ d, G.length = d := ⟨_, rfl⟩
  rw [hd]
  have LE := Lib.hid (fun w' (h' : Rok w' g s L ro O fr) => dlength_any h' ((p : Int) + 1) (p + 1) (by omega) hz (show p + 1 ≤ s.size from h0.1))
  rw [h5] at LE
  have hpl := lenR_pl h5
  rw [tl_size] at hpl
  obtain ⟨v, hv⟩ : ∃ v, q + n = v := ⟨_, rfl⟩
  have e7 : (q : Int) + (n : Int) = (v : Int) := by omega
  have e8 : IntKind.i64.wrap (v : Int) = (v : Int) := wrap_fit v (by unfold maxLen; omega)
  have HE := elS_in (G := G) hh h2 h3 h4 h5 h6 hV
  have hGd : G.length ≤ 999 := by
    have h9 : ¬ L.depth ≤ G.length := fun h => h4 ⟨hV, h⟩
    omega
  have hfd : d = fr := (hfr.trans hd).symm
  subst hfd
  have IN := Lib.hid (fun w' (h' : Rok w' g s L ro O G.length) => inside_any mm s L ro g EL hz w' O G l (s.toList.getD p 0) t ht p q v h' hl (by omega) (by omega) (by omega) (by omega) (by omega) hGd)
  rw [hd] at IN
  have HEB := Lib.hid (show ∀ f', G.head? = some f' → v ≤ f'.e from fun f' hf => by rw [← hv]; exact head_le h6 f' hf)
  have hf0 : ({ tag := s.toList.getD p 0, node := l.length, p0 := p, e := q + n, kids := 0, last := [] } : Fr) = fr0 (s.toList.getD p 0) l.length p v 0 ByteArray.empty := by rw [fr0, tl_empty, hv]
  rw [hf0] at HE
  have HEE := Lib.hid HE
  have HFIN := Lib.hid (And.intro hpl hv)
  subst hgn
  obtain rfl : z = -1 := by rcases hG with ⟨_, h⟩ | ⟨f, G', h, _⟩; exact h; cases h
  have hy : x % 2 = 1 := by rw [hwi, decide_eq_true_iff] at hV; omega
  have e4 : (x : Int) % 2 = 1 := by omega
  have e5 : ¬ (L.depth : Int) ≤ (d : Int) := by have h9 : ¬ L.depth ≤ d := fun h => h4 ⟨hV, by rw [hd]; exact h⟩; omega
  have e5b : decide ((L.depth : Int) ≤ (d : Int)) = false := decide_eq_false e5
  clear hR hl hz hp hG hGl h0 h2 hm hlm hh ht ht2 hte hwi h3 hx hy hV h4 h5 h6 hpl hv hLi hLd EL hmm hf0 HE hGd hfr
  go_enter Tryd.func50, Tryd.ntmps50
  go_wp2_with (first
    | (go_at_call 51; refine W.out.mono ?_; rintro e w1 ⟨rfl, HQ1, HB1⟩; obtain ⟨a1, c1, tk1, HR1⟩ := HQ1.out.opn; have g0 := HQ1.out.txt)
    | (go_at_call 37; refine (TG.out _).mono ?_; rintro e wt ⟨rfl, rfl⟩)
    | (go_at_call 52; refine (dfault_ok (by first | exact HQ4.out.drewN _ | exact HQ4.out | exact HQ3.out | exact HQ2.out.drewN _ | exact HQ2.out | exact HQ1.out.drewN _ | exact HQ1.out) _ _ p rfl).mono ?_; rintro e wf ⟨rfl, HRF, HBF⟩)
    | (go_at_call 68; refine (LE.out _ (HQ1.out.drewN _)).mono ?_; rintro e w2 ⟨rfl, HQ2, HB2⟩)
    | (go_at_call 69; refine (AL.out _ HQ2.out).mono ?_; rintro e w3 ⟨rfl, HQ3, HB3⟩; have g3 := HQ3.out.txt)
    | (go_at_call 38; refine (BO.out _).mono ?_; rintro e w4 ⟨rfl, hb4⟩; have HQ4 := Lib.hid (HQ3.out.below hb4); have HB4 : Hid (Below g w3 w4) := hb4.mono (Nat.le_of_lt HQ3.out.lt); clear hb4)
   )
  have k5 := HR1.out.at0.cell 5 _ rfl
  have k2 := HR1.out.at0.cell 2 _ rfl
  have k1 := HR1.out.at0.cell 1 _ rfl
  rw [HM.out] at k5
  go_quiet (fail)
  go_wp2_with (first
    | (go_at_call 51; refine W.out.mono ?_; rintro e w1 ⟨rfl, HQ1, HB1⟩; obtain ⟨a1, c1, tk1, HR1⟩ := HQ1.out.opn; have g0 := HQ1.out.txt)
    | (go_at_call 37; refine (TG.out _).mono ?_; rintro e wt ⟨rfl, rfl⟩)
    | (go_at_call 52; refine (dfault_ok (by first | exact HQ4.out.drewN _ | exact HQ4.out | exact HQ3.out | exact HQ2.out.drewN _ | exact HQ2.out | exact HQ1.out.drewN _ | exact HQ1.out) _ _ p rfl).mono ?_; rintro e wf ⟨rfl, HRF, HBF⟩)
    | (go_at_call 68; refine (LE.out _ (HQ1.out.drewN _)).mono ?_; rintro e w2 ⟨rfl, HQ2, HB2⟩)
    | (go_at_call 69; refine (AL.out _ HQ2.out).mono ?_; rintro e w3 ⟨rfl, HQ3, HB3⟩; have g3 := HQ3.out.txt)
    | (go_at_call 38; refine (BO.out _).mono ?_; rintro e w4 ⟨rfl, hb4⟩; have HQ4 := Lib.hid (HQ3.out.below hb4); have HB4 : Hid (Below g w3 w4) := hb4.mono (Nat.le_of_lt HQ3.out.lt); clear hb4))
  refine (IN.out _ HQ2.out).mono ?_
  rintro e w3 (⟨N, k, ⟨rfl, HR3, HB3⟩, h31, h32⟩ | ⟨c3, x3, b3, ⟨rfl, HR3, HB3⟩, h32⟩)
  · go_wp2_with fail
    go_ret2
    exact .inl ⟨⟨s.toList.getD p 0, (k : Int), []⟩ :: N, v, ⟨rfl, HR3, ((HB1.out.trans (below_drewN _ _ _)).trans HB2.out).trans HB3.out⟩, by have := HFIN.out.1; have := HFIN.out.2; omega, h31, HEB.out, fun r hr => Runs.el HEE.out (h32 r hr)⟩
  · go_wp2_with fail
    go_ret2
    exact .inr ⟨c3, x3, b3, ⟨rfl, HR3, ((HB1.out.trans (below_drewN _ _ _)).trans HB2.out).trans HB3.out⟩, Runs.el HEE.out h32⟩
set_option maxRecDepth 100000 in
set_option maxHeartbeats 1600000 in
theorem delem_inc (w : World) (g : Nat) (s : ByteArray) (L : Lm) (ro : Int) (O : List Nd) (fr : Nat) (G : List Fr) (l : List Nd) (p : Nat) (z : Int) (hR : Rok w g s L ro O fr) (hl : l.length = O.length) (hz : s.size ≤ 140737488351232) (hp : p ≤ s.size) (hG : EndOf G z) (hGl : G.length ≤ 1000000) (h0 : p < s.size ∧ p < L.bytes) (h2 : ¬ L.items ≤ l.length) (h3 : ¬ tagE (s.toList.getD p 0) ≠ 0) (h4 : ¬ (within (s.toList.getD p 0) = true ∧ L.depth ≤ G.length)) (hV : within (s.toList.getD p 0) = true) {n q : Nat} (h5 : lenR s.toList L (p + 1) = .ok (n, q)) (h6 : ¬ (G.head?.any fun f => decide (f.e < q + n)) = true) (hgn : ∃ f G2, G = f :: G2) (hLi : L.items ≤ 4096) (hLd : L.depth ≤ 32) (mm : Nat) (EL : ElAll mm s L ro g) (hmm : s.size - p < mm + 1) (hfr : fr = G.length) :
    Calls Tryd.prog 50 #[.pointer (some ⟨g, 0, none⟩), .int .i64 (p : Int), .int .i64 (G.length : Int), .int .i64 z] w (DElem s L ro g O fr G l p w) := by
  have W := Lib.hid (dwant_yes hR (p : Int) p rfl h0.1 h0.2 hz)
  have hh := has_yes s L p h0
  obtain ⟨m, hm⟩ : ∃ m, O.length = m := ⟨_, rfl⟩
  have HM := Lib.hid hm
  have hlm : l.length = m := hl.trans hm
  obtain ⟨t, ht⟩ : ∃ t, (s.toList.getD p 0).toNat = t := ⟨_, rfl⟩
  have ht2 : t < 256 := by rw [← ht]; exact (s.toList.getD p 0).toNat_lt
  have hlt : p < s.size := h0.1
  have hsp : (s[p]'hlt).toNat = t := by rw [← tl_getD s p hlt]; exact ht
  obtain ⟨hte, hwi⟩ := tag_nat s p t ht
  have TG := Lib.hid (fun w => rtag_any t ht2 w)
  rw [← hte] at TG
  rw [Classical.not_not.1 h3] at TG
  have e1 : ¬ (L.items : Int) ≤ (m : Int) := by omega
  have e1b : decide ((L.items : Int) ≤ (m : Int)) = false := decide_eq_false e1
  obtain ⟨x, hx⟩ : ∃ x, t / 32 = x := ⟨_, rfl⟩
  have e3 : (t : Int) / 32 = (x : Int) := by omega
  have e6 : IntKind.u8.wrap (x : Int) = (x : Int) := by simp [IntKind.wrap, IntKind.bits, IntKind.signed]; omega
  have e10 : (p : Int) ≤ 140737488351232 := by omega
  obtain ⟨d, hd⟩ : ∃ d, G.length = d := ⟨_, rfl⟩
  rw [hd]
  have LE := Lib.hid (fun w' (h' : Rok w' g s L ro O fr) => dlength_any h' ((p : Int) + 1) (p + 1) (by omega) hz (show p + 1 ≤ s.size from h0.1))
  rw [h5] at LE
  have hpl := lenR_pl h5
  rw [tl_size] at hpl
  obtain ⟨v, hv⟩ : ∃ v, q + n = v := ⟨_, rfl⟩
  have e7 : (q : Int) + (n : Int) = (v : Int) := by omega
  have e8 : IntKind.i64.wrap (v : Int) = (v : Int) := wrap_fit v (by unfold maxLen; omega)
  have HE := elS_in (G := G) hh h2 h3 h4 h5 h6 hV
  have hGd : G.length ≤ 999 := by
    have h9 : ¬ L.depth ≤ G.length := fun h => h4 ⟨hV, h⟩
    omega
  have hfd : d = fr := (hfr.trans hd).symm
  subst hfd
  have IN := Lib.hid (fun w' (h' : Rok w' g s L ro O G.length) => inside_any mm s L ro g EL hz w' O G l (s.toList.getD p 0) t ht p q v h' hl (by omega) (by omega) (by omega) (by omega) (by omega) hGd)
  rw [hd] at IN
  have HEB := Lib.hid (show ∀ f', G.head? = some f' → v ≤ f'.e from fun f' hf => by rw [← hv]; exact head_le h6 f' hf)
  have hf0 : ({ tag := s.toList.getD p 0, node := l.length, p0 := p, e := q + n, kids := 0, last := [] } : Fr) = fr0 (s.toList.getD p 0) l.length p v 0 ByteArray.empty := by rw [fr0, tl_empty, hv]
  rw [hf0] at HE
  have HEE := Lib.hid HE
  have HFIN := Lib.hid (And.intro hpl hv)
  obtain ⟨f, G2, rfl⟩ := hgn
  obtain rfl : z = (f.e : Int) := by
    rcases hG with ⟨h, _⟩ | ⟨f', G', h, h7⟩
    · cases h
    · cases h; exact h7
  have hfe : ¬ f.e < q + n := by simpa using h6
  have e9 : ¬ (f.e : Int) < (v : Int) := by omega
  have e9c : decide ((f.e : Int) < (v : Int)) = false := decide_eq_false e9
  have e9b : (0 : Int) ≤ (f.e : Int) := by omega
  have hy : x % 2 = 1 := by rw [hwi, decide_eq_true_iff] at hV; omega
  have e4 : (x : Int) % 2 = 1 := by omega
  have e5 : ¬ (L.depth : Int) ≤ (d : Int) := by have h9 : ¬ L.depth ≤ d := fun h => h4 ⟨hV, by rw [hd]; exact h⟩; omega
  have e5b : decide ((L.depth : Int) ≤ (d : Int)) = false := decide_eq_false e5
  clear hR hl hz hp hG hGl h0 h2 hm hlm hh ht ht2 hte hwi h3 hx hy hV h4 h5 h6 hpl hv hLi hLd EL hmm hf0 HE hGd hfr hfe
  go_enter Tryd.func50, Tryd.ntmps50
  go_wp2_with (first
    | (go_at_call 51; refine W.out.mono ?_; rintro e w1 ⟨rfl, HQ1, HB1⟩; obtain ⟨a1, c1, tk1, HR1⟩ := HQ1.out.opn; have g0 := HQ1.out.txt)
    | (go_at_call 37; refine (TG.out _).mono ?_; rintro e wt ⟨rfl, rfl⟩)
    | (go_at_call 52; refine (dfault_ok (by first | exact HQ4.out.drewN _ | exact HQ4.out | exact HQ3.out | exact HQ2.out.drewN _ | exact HQ2.out | exact HQ1.out.drewN _ | exact HQ1.out) _ _ p rfl).mono ?_; rintro e wf ⟨rfl, HRF, HBF⟩)
    | (go_at_call 68; refine (LE.out _ (HQ1.out.drewN _)).mono ?_; rintro e w2 ⟨rfl, HQ2, HB2⟩)
    | (go_at_call 69; refine (AL.out _ HQ2.out).mono ?_; rintro e w3 ⟨rfl, HQ3, HB3⟩; have g3 := HQ3.out.txt)
    | (go_at_call 38; refine (BO.out _).mono ?_; rintro e w4 ⟨rfl, hb4⟩; have HQ4 := Lib.hid (HQ3.out.below hb4); have HB4 : Hid (Below g w3 w4) := hb4.mono (Nat.le_of_lt HQ3.out.lt); clear hb4)
   )
  have k5 := HR1.out.at0.cell 5 _ rfl
  have k2 := HR1.out.at0.cell 2 _ rfl
  have k1 := HR1.out.at0.cell 1 _ rfl
  rw [HM.out] at k5
  go_quiet (fail)
  go_wp2_with (first
    | (go_at_call 51; refine W.out.mono ?_; rintro e w1 ⟨rfl, HQ1, HB1⟩; obtain ⟨a1, c1, tk1, HR1⟩ := HQ1.out.opn; have g0 := HQ1.out.txt)
    | (go_at_call 37; refine (TG.out _).mono ?_; rintro e wt ⟨rfl, rfl⟩)
    | (go_at_call 52; refine (dfault_ok (by first | exact HQ4.out.drewN _ | exact HQ4.out | exact HQ3.out | exact HQ2.out.drewN _ | exact HQ2.out | exact HQ1.out.drewN _ | exact HQ1.out) _ _ p rfl).mono ?_; rintro e wf ⟨rfl, HRF, HBF⟩)
    | (go_at_call 68; refine (LE.out _ (HQ1.out.drewN _)).mono ?_; rintro e w2 ⟨rfl, HQ2, HB2⟩)
    | (go_at_call 69; refine (AL.out _ HQ2.out).mono ?_; rintro e w3 ⟨rfl, HQ3, HB3⟩; have g3 := HQ3.out.txt)
    | (go_at_call 38; refine (BO.out _).mono ?_; rintro e w4 ⟨rfl, hb4⟩; have HQ4 := Lib.hid (HQ3.out.below hb4); have HB4 : Hid (Below g w3 w4) := hb4.mono (Nat.le_of_lt HQ3.out.lt); clear hb4))
  refine (IN.out _ HQ2.out).mono ?_
  rintro e w3 (⟨N, k, ⟨rfl, HR3, HB3⟩, h31, h32⟩ | ⟨c3, x3, b3, ⟨rfl, HR3, HB3⟩, h32⟩)
  · go_wp2_with fail
    go_ret2
    exact .inl ⟨⟨s.toList.getD p 0, (k : Int), []⟩ :: N, v, ⟨rfl, HR3, ((HB1.out.trans (below_drewN _ _ _)).trans HB2.out).trans HB3.out⟩, by have := HFIN.out.1; have := HFIN.out.2; omega, h31, HEB.out, fun r hr => Runs.el HEE.out (h32 r hr)⟩
  · go_wp2_with fail
    go_ret2
    exact .inr ⟨c3, x3, b3, ⟨rfl, HR3, ((HB1.out.trans (below_drewN _ _ _)).trans HB2.out).trans HB3.out⟩, Runs.el HEE.out h32⟩
theorem nil_or (G : List Fr) : G = [] ∨ ∃ f G2, G = f :: G2 := by
  cases G with
  | nil => exact .inl rfl
  | cons f G => exact .inr ⟨f, G, rfl⟩
theorem element_all (s : ByteArray) (L : Lm) (ro : Int) (g : Nat) (hz : s.size ≤ 140737488351232) (hLi : L.items ≤ 4096) (hLd : L.depth ≤ 32) : ∀ m, ElAll m s L ro g
  | 0 => fun w O G l p z zd hm => absurd hm (by omega)
  | m + 1 => fun w O G l p z zd hm hR hl hp hG hGl hd => by
    subst hd
    have hGl' : G.length ≤ 1000000 := by omega
    by_cases h0 : p < s.size ∧ p < L.bytes
    · by_cases h2 : L.items ≤ l.length
      · exact delem_items w g s L ro O G.length G l p z hR hl hz hp hG hGl' h0 h2
      · by_cases h3 : tagE (s.toList.getD p 0) ≠ 0
        · exact delem_tag w g s L ro O G.length G l p z hR hl hz hp hG hGl' h0 h2 h3
        · by_cases h4 : within (s.toList.getD p 0) = true ∧ L.depth ≤ G.length
          · exact delem_depth w g s L ro O G.length G l p z hR hl hz hp hG hGl' h0 h2 h3 h4.1 h4.2
          · cases h5 : lenR s.toList L (p + 1) with
            | no c q b =>
              by_cases hV : within (s.toList.getD p 0) = true
              · exact delem_len_in w g s L ro O G.length G l p z hR hl hz hp hG hGl' h0 h2 h3 h4 hV h5
              · exact delem_len_out w g s L ro O G.length G l p z hR hl hz hp hG hGl' h0 h2 h3 h4 hV h5
            | ok x =>
              obtain ⟨n, q⟩ := x
              by_cases h6 : (G.head?.any fun f => decide (f.e < q + n)) = true
              · by_cases hV : within (s.toList.getD p 0) = true
                · exact delem_end_in w g s L ro O G.length G l p z hR hl hz hp hG hGl' h0 h2 h3 h4 hV h5 h6
                · exact delem_end_out w g s L ro O G.length G l p z hR hl hz hp hG hGl' h0 h2 h3 h4 hV h5 h6
              · by_cases hV : within (s.toList.getD p 0) = true
                · rcases nil_or G with hgn | hgn
                  · exact delem_inn w g s L ro O G.length G l p z hR hl hz hp hG hGl' h0 h2 h3 h4 hV h5 h6 hgn hLi hLd m (element_all s L ro g hz hLi hLd m) hm rfl
                  · exact delem_inc w g s L ro O G.length G l p z hR hl hz hp hG hGl' h0 h2 h3 h4 hV h5 h6 hgn hLi hLd m (element_all s L ro g hz hLi hLd m) hm rfl
                · by_cases h8 : n ≠ 0 ∧ has s.toList L (q + n - 1) = false
                  · rcases nil_or G with hgn | hgn
                    · exact delem_skipn w g s L ro O G.length G l p z hR hl hz hp hG hGl' h0 h2 h3 h4 hV h5 h6 hgn h8
                    · exact delem_skipc w g s L ro O G.length G l p z hR hl hz hp hG hGl' h0 h2 h3 h4 hV h5 h6 hgn h8
                  · by_cases h9 : bodyOk (s.toList.getD p 0) (Dr.part s.toList q (q + n)) = false
                    · rcases nil_or G with hgn | hgn
                      · exact delem_bodyn w g s L ro O G.length G l p z hR hl hz hp hG hGl' h0 h2 h3 h4 hV h5 h6 hgn h8 h9
                      · exact delem_bodyc w g s L ro O G.length G l p z hR hl hz hp hG hGl' h0 h2 h3 h4 hV h5 h6 hgn h8 h9
                    · rcases nil_or G with hgn | hgn
                      · exact delem_okn w g s L ro O G.length G l p z hR hl hz hp hG hGl' h0 h2 h3 h4 hV h5 h6 hgn h8 h9 hLi
                      · exact delem_okc w g s L ro O G.length G l p z hR hl hz hp hG hGl' h0 h2 h3 h4 hV h5 h6 hgn h8 h9 hLi
    · exact delem_lack w g s L ro O G.length G l p z hR hl hz hp hG hGl' h0
end Go.Proofs.YteglahkgnggmgaaDoor
