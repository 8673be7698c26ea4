/- An element is begun: the walk. -/
import Derived.Test.YteglahkgnggmgaaDoorDrM
namespace Go.Proofs.YteglahkgnggmgaaDoor
open Go.RowKit
set_option linter.unusedVariables false
set_option linter.unusedSimpArgs false
open Dr
theorem fr_cells2 {w : World} {k : Nat} {y : Fr} {cs : List Value} (hq : fv y = cs) (h : At w k 0 cs) : ∀ j u, (fv y)[j]? = some u → w.cell? ((⟨k, 0, none⟩ : Addr).add j) = some u := fr_cells (by rw [hq]; exact h)
theorem nd_cells2 {w : World} {k : Nat} {y : Nd} {cs : List Value} (hq : nv y = cs) (h : At w k 0 cs) : ∀ j u, (nv y)[j]? = some u → w.cell? ((⟨k, 0, none⟩ : Addr).add j) = some u := nd_cells (by rw [hq]; exact h)
set_option maxRecDepth 100000 in
set_option maxHeartbeats 800000 in
theorem element_inn (w : World) (g : Nat) (s : ByteArray) (L : Lm) (p : Nat) (l : List Nd) (G : List Fr) (vn vs : Value) (ro : Int) (hyp : ElHyp w g s L p l G vn vs ro) (h0 : p < s.size ∧ p < L.bytes) (t : Nat) (ht : (s.toList.getD p 0).toNat = t) (h2 : ¬ L.items ≤ l.length) (h3 : ¬ tagE (s.toList.getD p 0) ≠ 0) (h4 : ¬ (within (s.toList.getD p 0) = true ∧ L.depth ≤ G.length)) (hV : within (s.toList.getD p 0) = true) (n q : Nat) (h5 : lenR s.toList L (p + 1) = .ok (n, q)) (hG : G = []) (h6 : ¬ (G.head?.any fun f => decide (f.e < q + n)) = true) :
    Calls Tryd.prog 44 #[.pointer (some ⟨g, 0, none⟩)] w (RsAll (elT s.toList L G l p) g s L ro w) := by
  obtain ⟨RR, hRR⟩ : ∃ R, elT s.toList L G l p = R := ⟨_, rfl⟩
  rw [hRR]
  obtain ⟨hR, hch, hp, hz, hLi, hLd, hLb, hU⟩ := hyp
  have F := Lib.hid (fun c p w => fail_any c p w)
  have HR := Lib.hid hR
  have N := Lib.hid (next_yes hR h0.1 h0.2 hz t ht)
  have hh := has_yes s L p h0
  have ht2 : t < 256 := by rw [← ht]; exact (s.toList.getD p 0).toNat_lt
  obtain ⟨hte, hwi⟩ := tag_nat s p t ht
  obtain ⟨m, hm⟩ : ∃ m, l.length = m := ⟨_, rfl⟩
  obtain ⟨gl, hgl⟩ : ∃ gl, G.length = gl := ⟨_, rfl⟩
  have AS := Lib.hid (fun w => ask_any t ht2 w)
  rw [← hte] at AS
  have LE := Lib.hid (fun vn vs w' (hR' : Rd w' g s L (p + 1) l G vn vs ro) => length_yes hR' hz (show p + 1 ≤ s.size from h0.1) h5)
  have hw1 : t / 32 % 2 = 1 := by have h9 := hV; rw [hwi, decide_eq_true_iff] at h9; exact h9
  have WI1 : Hid (∀ w, Calls Tryd.prog 55 #[.int .u8 (t : Int)] w (RetVal (.bool true) w)) := fun w => (fun i hi w => within_any t i ht2 hi w) 1 hw1 w
  have e5 : ¬ (L.depth : Int) ≤ (gl : Int) := by have h9 : ¬ L.depth ≤ gl := fun h => h4 ⟨hV, by rw [hgl]; exact h⟩; omega
  have e5b : decide ((L.depth : Int) ≤ (gl : Int)) = false := decide_eq_false e5
  rw [elT_in hh h2 h3 h4 h5 h6 hV] at hRR
  subst hG
  obtain ⟨an, cn, rfl, -⟩ := own_form hR.nodes
  obtain ⟨as_, cs, rfl, -⟩ := own_form hR.stack
  obtain rfl : gl = 0 := hgl.symm
  rw [hm] at HR
  have HM := Lib.hid hm
  have HGL := Lib.hid hgl
  have e1 : ¬ (L.items : Int) ≤ (m : Int) := by omega
  have e1b : decide ((L.items : Int) ≤ (m : Int)) = false := decide_eq_false e1
  rw [Classical.not_not.1 h3] at AS
  have WI := Lib.hid (fun i hi w => within_any t i ht2 hi w)
  have hpl := lenR_pl h5
  rw [tl_size] at hpl
  have e6 : (q : Int) ≤ 140737488351232 := by omega
  have e7 : (n : Int) ≤ 140737488351232 := by omega
  have HIT := Lib.hid (And.intro h2 (And.intro hLi (And.intro hLd hLb)))
  have HFV : Hid (fv { tag := s.toList.getD p 0, node := m, p0 := p, e := q + n, kids := 0, last := [] } = (#[Value.int .i64 (m : Int), Value.int .i64 (p : Int), Value.int .i64 ((q : Int) + (n : Int)), Value.int .i64 0, Value.string ByteArray.empty]).toList) := by
    show fv { tag := s.toList.getD p 0, node := m, p0 := p, e := q + n, kids := 0, last := [] } = _
    simp only [fv, Int.natCast_add]
    congr 5
    split <;> rfl
  have HRR := Lib.hid hRR
  have HT := Lib.hid ht
  clear hRR
  clear hch hp hz hLi hLd hLb hU h0 hte hwi hh h2 h3 h4 hV hw1 h5 h6 hm hgl ht ht2 hpl hR
  go_enter Tryd.func44, Tryd.ntmps44
  go_wp2_with (first
    | (go_at_call 45; refine (place_yes (by first | exact HR2.out | exact HR1.out | exact HR.out)).mono ?_; rintro e wp ⟨rfl, rfl⟩)
    | (go_at_call 48; refine N.out.mono ?_; rintro e w1 ⟨rfl, HR1, HB1⟩)
    | (go_at_call 49; refine (F.out _ _ _).mono ?_; rintro e wf ⟨rfl, rfl⟩)
    | (go_at_call 54; refine (AS.out _).mono ?_; rintro e wa ⟨rfl, rfl⟩)
    | (go_at_call 55; refine (WI.out _).mono ?_; rintro e wi ⟨rfl, rfl⟩)
    | (go_at_call 63; refine (LE.out _ _ _ _ (HR1.out.drewN _)).mono ?_; rw [HLE.out]; rintro e w2 ⟨rfl, HR2, HB2⟩))
  have hc4 := HR1.out.at0.cell 4 _ rfl
  have hc7 := HR1.out.at0.cell 7 _ rfl
  have hc3 := HR1.out.at0.cell 3 _ rfl
  have hc8 := HR1.out.at0.cell 8 _ rfl
  rw [HM.out] at hc7
  go_quiet (fail)
  go_wp2_with (first
    | (go_at_call 45; refine (place_yes (by first | exact HR2.out | exact HR1.out | exact HR.out)).mono ?_; rintro e wp ⟨rfl, rfl⟩)
    | (go_at_call 48; refine N.out.mono ?_; rintro e w1 ⟨rfl, HR1, HB1⟩)
    | (go_at_call 49; refine (F.out _ _ _).mono ?_; rintro e wf ⟨rfl, rfl⟩)
    | (go_at_call 54; refine (AS.out _).mono ?_; rintro e wa ⟨rfl, rfl⟩)
    | (go_at_call 55; refine (WI.out _).mono ?_; rintro e wi ⟨rfl, rfl⟩)
    | (go_at_call 63; refine (LE.out _ _ _ _ (HR1.out.drewN _)).mono ?_; rw [HLE.out]; rintro e w2 ⟨rfl, HR2, HB2⟩))
  go_quiet (first | (go_at_call 55; exact (WI1.out _).mono fun _ _ h => ⟨h.1, _, h.2.symm⟩))
  clear hc4 hc7 hc3 hc8
  go_wp2_with (first
    | (go_at_call 63; refine (LE.out _ _ _ (HR1.out.drewN _)).mono ?_; rintro e w2 ⟨rfl, HR2, HB2⟩)
    | (go_at_call 45; refine (place_yes HR2.out).mono ?_; rintro e wp ⟨rfl, rfl⟩))
  have hc7 := HR2.out.at0.cell 7 _ rfl
  have hc8 := HR2.out.at0.cell 8 _ rfl
  rw [HM.out] at hc7
  go_quiet (fail)
  obtain ⟨vS, hvS⟩ : ∃ v, w2.cell? ⟨g, 0 + 8, none⟩ = some v := ⟨_, hc8⟩
  have HRS : Hid (Rd w2 g s L q l [] (.slice an l.length cn) vS ro) := by
    have h1 := HR2.out
    have h2 := h1.at0.cell 8 _ rfl
    rw [hvS] at h2
    obtain rfl := Option.some.inj h2
    exact h1
  have hA7 : ∀ (k : Nat) (ob : Obj), ((w2.drewN k).alloc ob).cell? ⟨g, 7, none⟩ = some (.slice an m cn) := fun k ob => by
    have := (((HR2.out.drewN k).alloc ob).at0).cell 7 _ rfl
    rw [HM.out] at this
    exact this
  have hA8 : ∀ (k : Nat) (ob : Obj), ((w2.drewN k).alloc ob).cell? ⟨g, 8, none⟩ = some vS := fun k ob => (((HRS.out.drewN k).alloc ob).at0).cell 8 _ rfl
  clear hc8
  go_wp2_with (first | (go_at_call 55; refine (WI1.out _).mono ?_; rintro e wi ⟨rfl, rfl⟩))
  go_cut [] from 88 to 104 (fun wx => ∃ vS', Rd wx g s L q l ({ tag := s.toList.getD p 0, node := m, p0 := p, e := q + n, kids := 0, last := [] } :: []) (.slice an l.length cn) vS' ro ∧ Below g w2 wx)
  case first =>
    go_wp2_with fail
    go_region_law (refine step_append_fr rfl (.tmp 92) (.tmp 101) rfl (g + 1) _ 0 [] rfl ((own_drewN HRS.out.stack _).alloc _) _ 1 { tag := s.toList.getD p 0, node := m, p0 := p, e := q + n, kids := 0, last := [] } rfl (fr_cells2 HFV.out (At.ofAlloc _ #[Value.int .i64 (m : Int), Value.int .i64 (p : Int), Value.int .i64 ((q : Int) + (n : Int)), Value.int .i64 0, Value.string ByteArray.empty] 91)) (by omega) (by have := HR2.out.lt; simp; omega) ?_; intro v' w3 hown3 hgrow3; obtain ⟨a3, c3, hv3, -⟩ := own_form hown3; subst hv3; have hAt3 := At.grown (((HRS.out.drewN _).alloc _).at0) hgrow3 ((HRS.out.drewN _).alloc _).lt (fun e => by have := (HRS.out.stack.lt g e).1; omega); have hf83 := hAt3.froz 8 (by simp); have hc83 := hAt3.cell 8 _ rfl; have HR3 := Lib.hid (Rd.addFrame (G' := { tag := s.toList.getD p 0, node := m, p0 := p, e := q + n, kids := 0, last := [] } :: []) ((HRS.out.drewN _).alloc _) hgrow3 hown3); have HB3 := Lib.hid ((((below_drewN g w2 _).alloc (Nat.le_of_lt HR2.out.lt) _).grown hgrow3 (by have := HR2.out.lt; simp; omega) (fun k hk => by have := (HRS.out.stack.lt k hk).1; omega)).setCell (p := ⟨g, 8, none⟩) (Nat.le_refl _) (.slice a3 (0 + 1) c3)); clear hAt3 hgrow3 hown3)
    all_goals
      go_wp2_with fail
      go_meet
      case rel => first | exact ⟨_, HR3.out, HB3.out⟩ | (have h3 := HR3.out; have h4 := HB3.out; rw [HGN.out] at h3 h4; exact ⟨_, h3, h4⟩)
  case rest =>
    obtain ⟨vS2, hR4, hB4⟩ := hcut
    obtain ⟨vN, hvN⟩ : ∃ v, wc.cell? ⟨g, 7, none⟩ = some v := ⟨_, hR4.at0.cell 7 _ rfl⟩
    have HR4 : Hid (Rd wc g s L q l ({ tag := s.toList.getD p 0, node := m, p0 := p, e := q + n, kids := 0, last := [] } :: []) vN vS2 ro) := by
      have h2 := hR4.at0.cell 7 _ rfl
      have h3 : wc.cell? ⟨g, 0 + 7, none⟩ = some vN := hvN
      rw [h3] at h2
      obtain rfl := Option.some.inj h2
      exact hR4
    have HB4 := Lib.hid hB4
    have HNV : Hid (nv ({ tag := s.toList.getD p 0, kids := 0, body := [] } : Nd) = (#[Value.int .u8 (t : Int), Value.int .i64 0, Value.string ByteArray.empty]).toList) := by
      show nv ({ tag := s.toList.getD p 0, kids := 0, body := [] } : Nd) = _
      rw [nv, HT.out]
      rfl
    have hf7 : wc.frozen? ⟨g, 7, none⟩ = false := HR4.out.at0.froz 7 (by simp)
    clear hA7 hA8 HRS hvS hR4 hB4 hc7
    go_wp2_with (at_builtin; refine wpList_append_nd rfl (.tmp 109) (.tmp 112) rfl (g + 1) _ l.length l rfl (HR4.out.nodes.alloc _) wc.heap.size 1 ({ tag := s.toList.getD p 0, kids := 0, body := [] } : Nd) rfl (nd_cells2 HNV.out (At.ofAlloc wc #[Value.int .u8 (t : Int), Value.int .i64 0, Value.string ByteArray.empty] 63)) (by have := HIT.out; omega) (by have := HR4.out.lt; simp; omega) ?_; intro v5 w5 hown5 hgrow5; obtain ⟨a5, c5, hv5, -⟩ := own_form hown5; subst hv5; have hAt5 := At.grown ((HR4.out.alloc _).at0) hgrow5 (HR4.out.alloc _).lt (fun e => by have := (HR4.out.nodes.lt g e).1; omega); have hf75 := hAt5.froz 7 (by simp); have hc75 := hAt5.cell 7 _ rfl; have HR5 := Lib.hid (Rd.addNode (l' := l ++ [({ tag := s.toList.getD p 0, kids := 0, body := [] } : Nd)]) (HR4.out.alloc _) hgrow5 (by rw [List.length_append]; exact hown5)); have HB5 := Lib.hid ((((Below.refl g wc).alloc (Nat.le_of_lt HR4.out.lt) _).grown hgrow5 (by have := HR4.out.lt; simp; omega) (fun k hk => by have := (HR4.out.nodes.lt k hk).1; omega)).setCell (p := ⟨g, 7, none⟩) (Nat.le_refl _) (.slice a5 (l.length + 1) c5)); clear hAt5 hgrow5 hown5)
    first | go_end0 | refine bodyPost_ret (results_none rfl _ _ _) rfl ?_
    rw [← HRR.out]
    have hm9 := HM.out
    subst hm9
    exact ⟨rfl, ⟨_, _, HR5⟩, (((HB1.out.trans (below_drewN _ _ _)).trans HB2.out).trans HB4.out).trans HB5.out⟩
set_option maxRecDepth 100000 in
set_option maxHeartbeats 800000 in
theorem element_inc (w : World) (g : Nat) (s : ByteArray) (L : Lm) (p : Nat) (l : List Nd) (G : List Fr) (vn vs : Value) (ro : Int) (hyp : ElHyp w g s L p l G vn vs ro) (h0 : p < s.size ∧ p < L.bytes) (t : Nat) (ht : (s.toList.getD p 0).toNat = t) (h2 : ¬ L.items ≤ l.length) (h3 : ¬ tagE (s.toList.getD p 0) ≠ 0) (h4 : ¬ (within (s.toList.getD p 0) = true ∧ L.depth ≤ G.length)) (hV : within (s.toList.getD p 0) = true) (n q : Nat) (h5 : lenR s.toList L (p + 1) = .ok (n, q)) (hG : ∃ f G2, G = f :: G2) (h6 : ¬ (G.head?.any fun f => decide (f.e < q + n)) = true) :
    Calls Tryd.prog 44 #[.pointer (some ⟨g, 0, none⟩)] w (RsAll (elT s.toList L G l p) g s L ro w) := by
  obtain ⟨RR, hRR⟩ : ∃ R, elT s.toList L G l p = R := ⟨_, rfl⟩
  rw [hRR]
  obtain ⟨hR, hch, hp, hz, hLi, hLd, hLb, hU⟩ := hyp
  have F := Lib.hid (fun c p w => fail_any c p w)
  have HR := Lib.hid hR
  have N := Lib.hid (next_yes hR h0.1 h0.2 hz t ht)
  have hh := has_yes s L p h0
  have ht2 : t < 256 := by rw [← ht]; exact (s.toList.getD p 0).toNat_lt
  obtain ⟨hte, hwi⟩ := tag_nat s p t ht
  obtain ⟨m, hm⟩ : ∃ m, l.length = m := ⟨_, rfl⟩
  obtain ⟨gl, hgl⟩ : ∃ gl, G.length = gl := ⟨_, rfl⟩
  have AS := Lib.hid (fun w => ask_any t ht2 w)
  rw [← hte] at AS
  have LE := Lib.hid (fun vn vs w' (hR' : Rd w' g s L (p + 1) l G vn vs ro) => length_yes hR' hz (show p + 1 ≤ s.size from h0.1) h5)
  have hw1 : t / 32 % 2 = 1 := by have h9 := hV; rw [hwi, decide_eq_true_iff] at h9; exact h9
  have WI1 : Hid (∀ w, Calls Tryd.prog 55 #[.int .u8 (t : Int)] w (RetVal (.bool true) w)) := fun w => (fun i hi w => within_any t i ht2 hi w) 1 hw1 w
  have e5 : ¬ (L.depth : Int) ≤ (gl : Int) := by have h9 : ¬ L.depth ≤ gl := fun h => h4 ⟨hV, by rw [hgl]; exact h⟩; omega
  have e5b : decide ((L.depth : Int) ≤ (gl : Int)) = false := decide_eq_false e5
  rw [elT_in hh h2 h3 h4 h5 h6 hV] at hRR
  obtain ⟨f, G, rfl⟩ := hG
  obtain ⟨an, cn, rfl, -⟩ := own_form hR.nodes
  obtain ⟨k, cap, rfl, hgk, -⟩ := hR.top
  obtain ⟨gn, hgn⟩ : ∃ gn, G.length = gn := ⟨_, rfl⟩
  obtain rfl : gl = gn + 1 := by rw [← hgl, List.length_cons, hgn]
  have e4 : IntKind.i64.wrap (gn : Int) = (gn : Int) := wrap_fit gn (by have := own_fit hR.stack; rw [List.length_cons, hgn] at this; omega)
  have e4b : (gn : Int) < (gn : Int) + 1 := by omega
  rw [hm] at HR
  have HM := Lib.hid hm
  have HGL := Lib.hid hgl
  have HGN := Lib.hid hgn
  have e5c : ¬ (L.depth : Int) ≤ (gn : Int) + 1 := by omega
  have e5d : decide ((L.depth : Int) ≤ (gn : Int) + 1) = false := decide_eq_false e5c
  clear e5 e5b
  have e1 : ¬ (L.items : Int) ≤ (m : Int) := by omega
  have e1b : decide ((L.items : Int) ≤ (m : Int)) = false := decide_eq_false e1
  rw [Classical.not_not.1 h3] at AS
  have WI := Lib.hid (fun i hi w => within_any t i ht2 hi w)
  have hpl := lenR_pl h5
  rw [tl_size] at hpl
  have e6 : (q : Int) ≤ 140737488351232 := by omega
  have e7 : (n : Int) ≤ 140737488351232 := by omega
  have e8 : ¬ (f.e : Int) < (q : Int) + (n : Int) := by simp only [List.head?_cons, Option.any_some, decide_eq_true_iff] at h6; omega
  have e8b : decide ((f.e : Int) < (q : Int) + (n : Int)) = false := decide_eq_false e8
  have HIT := Lib.hid (And.intro h2 (And.intro hLi (And.intro hLd hLb)))
  have HFV : Hid (fv { tag := s.toList.getD p 0, node := m, p0 := p, e := q + n, kids := 0, last := [] } = (#[Value.int .i64 (m : Int), Value.int .i64 (p : Int), Value.int .i64 ((q : Int) + (n : Int)), Value.int .i64 0, Value.string ByteArray.empty]).toList) := by
    show fv { tag := s.toList.getD p 0, node := m, p0 := p, e := q + n, kids := 0, last := [] } = _
    simp only [fv, Int.natCast_add]
    congr 5
    split <;> rfl
  have HRR := Lib.hid hRR
  have HT := Lib.hid ht
  clear hRR
  clear hch hp hz hLi hLd hLb hU h0 hte hwi hh h2 h3 h4 hV hw1 h5 h6 hm hgl ht ht2 hpl hR
  go_enter Tryd.func44, Tryd.ntmps44
  go_wp2_with (first
    | (go_at_call 45; refine (place_yes (by first | exact HR2.out | exact HR1.out | exact HR.out)).mono ?_; rintro e wp ⟨rfl, rfl⟩)
    | (go_at_call 48; refine N.out.mono ?_; rintro e w1 ⟨rfl, HR1, HB1⟩)
    | (go_at_call 49; refine (F.out _ _ _).mono ?_; rintro e wf ⟨rfl, rfl⟩)
    | (go_at_call 54; refine (AS.out _).mono ?_; rintro e wa ⟨rfl, rfl⟩)
    | (go_at_call 55; refine (WI.out _).mono ?_; rintro e wi ⟨rfl, rfl⟩)
    | (go_at_call 63; refine (LE.out _ _ _ _ (HR1.out.drewN _)).mono ?_; rw [HLE.out]; rintro e w2 ⟨rfl, HR2, HB2⟩))
  have hc4 := HR1.out.at0.cell 4 _ rfl
  have hc7 := HR1.out.at0.cell 7 _ rfl
  have hc3 := HR1.out.at0.cell 3 _ rfl
  have hc8 := HR1.out.at0.cell 8 _ rfl
  rw [HM.out] at hc7
  rw [HGN.out] at hc8
  go_quiet (fail)
  go_wp2_with (first
    | (go_at_call 45; refine (place_yes (by first | exact HR2.out | exact HR1.out | exact HR.out)).mono ?_; rintro e wp ⟨rfl, rfl⟩)
    | (go_at_call 48; refine N.out.mono ?_; rintro e w1 ⟨rfl, HR1, HB1⟩)
    | (go_at_call 49; refine (F.out _ _ _).mono ?_; rintro e wf ⟨rfl, rfl⟩)
    | (go_at_call 54; refine (AS.out _).mono ?_; rintro e wa ⟨rfl, rfl⟩)
    | (go_at_call 55; refine (WI.out _).mono ?_; rintro e wi ⟨rfl, rfl⟩)
    | (go_at_call 63; refine (LE.out _ _ _ _ (HR1.out.drewN _)).mono ?_; rw [HLE.out]; rintro e w2 ⟨rfl, HR2, HB2⟩))
  go_quiet (first | (go_at_call 55; exact (WI1.out _).mono fun _ _ h => ⟨h.1, _, h.2.symm⟩))
  clear hc4 hc7 hc3 hc8
  go_wp2_with (first
    | (go_at_call 63; refine (LE.out _ _ _ (HR1.out.drewN _)).mono ?_; rintro e w2 ⟨rfl, HR2, HB2⟩)
    | (go_at_call 45; refine (place_yes HR2.out).mono ?_; rintro e wp ⟨rfl, rfl⟩))
  have hc7 := HR2.out.at0.cell 7 _ rfl
  have hc8 := HR2.out.at0.cell 8 _ rfl
  rw [HM.out] at hc7
  rw [HGN.out] at hc8
  obtain ⟨k2, cap2, hv2, -, hAt2⟩ := HR2.out.top
  obtain ⟨rfl, rfl⟩ : k2 = k ∧ cap2 = cap := by cases hv2; exact ⟨rfl, rfl⟩
  rw [HGN.out] at hAt2
  have ht2 := hAt2.cell 2 _ rfl
  clear hAt2 hv2
  go_quiet (fail)
  obtain ⟨vS, hvS⟩ : ∃ v, w2.cell? ⟨g, 0 + 8, none⟩ = some v := ⟨_, hc8⟩
  have HRS : Hid (Rd w2 g s L q l (f :: G) (.slice an l.length cn) vS ro) := by
    have h1 := HR2.out
    have h2 := h1.at0.cell 8 _ rfl
    rw [hvS] at h2
    obtain rfl := Option.some.inj h2
    exact h1
  have hA7 : ∀ (k : Nat) (ob : Obj), ((w2.drewN k).alloc ob).cell? ⟨g, 7, none⟩ = some (.slice an m cn) := fun k ob => by
    have := (((HR2.out.drewN k).alloc ob).at0).cell 7 _ rfl
    rw [HM.out] at this
    exact this
  have hA8 : ∀ (k : Nat) (ob : Obj), ((w2.drewN k).alloc ob).cell? ⟨g, 8, none⟩ = some vS := fun k ob => (((HRS.out.drewN k).alloc ob).at0).cell 8 _ rfl
  clear hc8
  go_wp2_with (first | (go_at_call 55; refine (WI1.out _).mono ?_; rintro e wi ⟨rfl, rfl⟩))
  go_cut [] from 88 to 104 (fun wx => ∃ vS', Rd wx g s L q l ({ tag := s.toList.getD p 0, node := m, p0 := p, e := q + n, kids := 0, last := [] } :: (f :: G)) (.slice an l.length cn) vS' ro ∧ Below g w2 wx)
  case first =>
    go_wp2_with fail
    go_region_law (refine step_append_fr rfl (.tmp 92) (.tmp 101) rfl (g + 1) _ (G.length + 1) (f :: G) rfl ((own_drewN HRS.out.stack _).alloc _) _ 1 { tag := s.toList.getD p 0, node := m, p0 := p, e := q + n, kids := 0, last := [] } rfl (fr_cells2 HFV.out (At.ofAlloc _ #[Value.int .i64 (m : Int), Value.int .i64 (p : Int), Value.int .i64 ((q : Int) + (n : Int)), Value.int .i64 0, Value.string ByteArray.empty] 91)) (by have := HIT.out; have := HGN.out; omega) (by have := HR2.out.lt; simp; omega) ?_; intro v' w3 hown3 hgrow3; obtain ⟨a3, c3, hv3, -⟩ := own_form hown3; subst hv3; have hAt3 := At.grown (((HRS.out.drewN _).alloc _).at0) hgrow3 ((HRS.out.drewN _).alloc _).lt (fun e => by have := (HRS.out.stack.lt g e).1; omega); have hf83 := hAt3.froz 8 (by simp); have hc83 := hAt3.cell 8 _ rfl; have HR3 := Lib.hid (Rd.addFrame (G' := { tag := s.toList.getD p 0, node := m, p0 := p, e := q + n, kids := 0, last := [] } :: (f :: G)) ((HRS.out.drewN _).alloc _) hgrow3 hown3); have HB3 := Lib.hid ((((below_drewN g w2 _).alloc (Nat.le_of_lt HR2.out.lt) _).grown hgrow3 (by have := HR2.out.lt; simp; omega) (fun k hk => by have := (HRS.out.stack.lt k hk).1; omega)).setCell (p := ⟨g, 8, none⟩) (Nat.le_refl _) (.slice a3 ((G.length + 1) + 1) c3)); clear hAt3 hgrow3 hown3)
    all_goals
      go_wp2_with fail
      go_meet
      case rel => first | exact ⟨_, HR3.out, HB3.out⟩ | (have h3 := HR3.out; have h4 := HB3.out; rw [HGN.out] at h3 h4; exact ⟨_, h3, h4⟩)
  case rest =>
    obtain ⟨vS2, hR4, hB4⟩ := hcut
    obtain ⟨vN, hvN⟩ : ∃ v, wc.cell? ⟨g, 7, none⟩ = some v := ⟨_, hR4.at0.cell 7 _ rfl⟩
    have HR4 : Hid (Rd wc g s L q l ({ tag := s.toList.getD p 0, node := m, p0 := p, e := q + n, kids := 0, last := [] } :: (f :: G)) vN vS2 ro) := by
      have h2 := hR4.at0.cell 7 _ rfl
      have h3 : wc.cell? ⟨g, 0 + 7, none⟩ = some vN := hvN
      rw [h3] at h2
      obtain rfl := Option.some.inj h2
      exact hR4
    have HB4 := Lib.hid hB4
    have HNV : Hid (nv ({ tag := s.toList.getD p 0, kids := 0, body := [] } : Nd) = (#[Value.int .u8 (t : Int), Value.int .i64 0, Value.string ByteArray.empty]).toList) := by
      show nv ({ tag := s.toList.getD p 0, kids := 0, body := [] } : Nd) = _
      rw [nv, HT.out]
      rfl
    have hf7 : wc.frozen? ⟨g, 7, none⟩ = false := HR4.out.at0.froz 7 (by simp)
    clear hA7 hA8 HRS hvS hR4 hB4 hc7
    go_wp2_with (at_builtin; refine wpList_append_nd rfl (.tmp 109) (.tmp 112) rfl (g + 1) _ l.length l rfl (HR4.out.nodes.alloc _) wc.heap.size 1 ({ tag := s.toList.getD p 0, kids := 0, body := [] } : Nd) rfl (nd_cells2 HNV.out (At.ofAlloc wc #[Value.int .u8 (t : Int), Value.int .i64 0, Value.string ByteArray.empty] 63)) (by have := HIT.out; omega) (by have := HR4.out.lt; simp; omega) ?_; intro v5 w5 hown5 hgrow5; obtain ⟨a5, c5, hv5, -⟩ := own_form hown5; subst hv5; have hAt5 := At.grown ((HR4.out.alloc _).at0) hgrow5 (HR4.out.alloc _).lt (fun e => by have := (HR4.out.nodes.lt g e).1; omega); have hf75 := hAt5.froz 7 (by simp); have hc75 := hAt5.cell 7 _ rfl; have HR5 := Lib.hid (Rd.addNode (l' := l ++ [({ tag := s.toList.getD p 0, kids := 0, body := [] } : Nd)]) (HR4.out.alloc _) hgrow5 (by rw [List.length_append]; exact hown5)); have HB5 := Lib.hid ((((Below.refl g wc).alloc (Nat.le_of_lt HR4.out.lt) _).grown hgrow5 (by have := HR4.out.lt; simp; omega) (fun k hk => by have := (HR4.out.nodes.lt k hk).1; omega)).setCell (p := ⟨g, 7, none⟩) (Nat.le_refl _) (.slice a5 (l.length + 1) c5)); clear hAt5 hgrow5 hown5)
    first | go_end0 | refine bodyPost_ret (results_none rfl _ _ _) rfl ?_
    rw [← HRR.out]
    have hm9 := HM.out
    subst hm9
    exact ⟨rfl, ⟨_, _, HR5⟩, (((HB1.out.trans (below_drewN _ _ _)).trans HB2.out).trans HB4.out).trans HB5.out⟩
end Go.Proofs.YteglahkgnggmgaaDoor
