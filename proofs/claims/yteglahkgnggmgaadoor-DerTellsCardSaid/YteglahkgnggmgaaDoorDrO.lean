/- An element without elements is read: the walk. -/
import Derived.Test.YteglahkgnggmgaaDoorDrN
namespace Go.Proofs.YteglahkgnggmgaaDoor
open Go.RowKit
set_option linter.unusedVariables false
set_option linter.unusedSimpArgs false
open Dr
set_option maxRecDepth 100000 in
theorem clone_any (s : ByteArray) (w : World) (h : s.size ≤ 281474976710656) : Calls Tryd.prog 64 #[.string s] w (fun e w' => e = .returned (.string s) ∧ Hid (Below w.heap.size w w')) := by
  have C := Lib.hid (fun w => Sstringslite_Clone s w h)
  clear h
  go_enter Tryd.func64, Tryd.ntmps64
  go_wp2_with (go_at_call 80; refine (C.out _).mono ?_; rintro e w1 ⟨rfl, hb⟩)
  go_ret
  exact ⟨rfl, hb⟩
theorem RsEnd.cases {r : Rs St} {g : Nat} {s : ByteArray} {L : Lm} {vn vs : Value} {ro : Int} {w0 w1 : World} {e : Ending} {w2 : World} (h : RsEnd r g s L vn vs ro w1 e w2) (hb : Below g w0 w1) :
    (e = .returned (.tuple #[]) ∧ RsAll r g s L ro w0 (.returned (.tuple #[])) w2) ∨ (∃ ps, e = .panicked ps ∧ RsAll r g s L ro w0 (.panicked ps) w2) := by
  match r, h with
  | .ok (.loop G l p), h => exact Or.inl ⟨h.1, rfl, ⟨_, _, h.2.1⟩, hb.trans h.2.2.out⟩
  | .no c q b, h => exact Or.inr ⟨_, h.1, rfl, hb.trans h.2⟩
theorem Rd.hideN {w : World} {g : Nat} {s : ByteArray} {L : Lm} {p : Nat} {l : List Nd} {G : List Fr} {vn vs : Value} {ro : Int} (h : Rd w g s L p l G vn vs ro) : ∃ vN, w.cell? ⟨g, 7, none⟩ = some vN ∧ w.frozen? ⟨g, 7, none⟩ = false ∧ Hid (Rd w g s L p l G vN vs ro) :=
  ⟨vn, h.at0.cell 7 _ rfl, h.at0.froz 7 (by simp), h⟩
theorem fits_iff {s : ByteArray} {L : Lm} {q n : Nat} (h1 : q ≤ s.size) (h2 : q ≤ L.bytes) : (n ≠ 0 ∧ has s.toList L (q + n - 1) = false) ↔ ¬ (q + n ≤ s.size ∧ q + n ≤ L.bytes) := by
  rw [has, decide_eq_false_iff_not, tl_size]
  omega
set_option maxRecDepth 100000 in
set_option maxHeartbeats 800000 in
theorem element_skipn (w : World) (g : Nat) (s : ByteArray) (L : Lm) (p : Nat) (l : List Nd) (G : List Fr) (vn vs : Value) (ro : Int) (hyp : ElHyp w g s L p l G vn vs ro) (h0 : p < s.size ∧ p < L.bytes) (t : Nat) (ht : (s.toList.getD p 0).toNat = t) (h2 : ¬ L.items ≤ l.length) (h3 : ¬ tagE (s.toList.getD p 0) ≠ 0) (h4 : ¬ (within (s.toList.getD p 0) = true ∧ L.depth ≤ G.length)) (hV : ¬ within (s.toList.getD p 0) = true) (n q : Nat) (h5 : lenR s.toList L (p + 1) = .ok (n, q)) (hG : G = []) (h6 : ¬ (G.head?.any fun f => decide (f.e < q + n)) = true) (h8 : n ≠ 0 ∧ has s.toList L (q + n - 1) = false) :
    Calls Tryd.prog 44 #[.pointer (some ⟨g, 0, none⟩)] w (RsAll (elT s.toList L G l p) g s L ro w) := by
  obtain ⟨RR, hRR⟩ : ∃ R, elT s.toList L G l p = R := ⟨_, rfl⟩
  rw [hRR]
  obtain ⟨hR, hch, hp, hz, hLi, hLd, hLb, hU⟩ := hyp
  have F := Lib.hid (fun c p w => fail_any c p w)
  have HR := Lib.hid hR
  have N := Lib.hid (next_yes hR h0.1 h0.2 hz t ht)
  have hh := has_yes s L p h0
  have ht2 : t < 256 := by rw [← ht]; exact (s.toList.getD p 0).toNat_lt
  obtain ⟨hte, hwi⟩ := tag_nat s p t ht
  obtain ⟨m, hm⟩ : ∃ m, l.length = m := ⟨_, rfl⟩
  obtain ⟨gl, hgl⟩ : ∃ gl, G.length = gl := ⟨_, rfl⟩
  have AS := Lib.hid (fun w => ask_any t ht2 w)
  rw [← hte] at AS
  have LE := Lib.hid (fun vn vs w' (hR' : Rd w' g s L (p + 1) l G vn vs ro) => length_yes hR' hz (show p + 1 ≤ s.size from h0.1) h5)
  have hw1 : t / 32 % 2 = 0 := by have h9 : ¬ within (s.toList.getD p 0) = true := hV; rw [hwi, decide_eq_true_iff] at h9; omega
  have WI1 : Hid (∀ w, Calls Tryd.prog 55 #[.int .u8 (t : Int)] w (RetVal (.bool false) w)) := fun w => (fun i hi w => within_any t i ht2 hi w) 0 hw1 w
  have hpl0 := lenR_pl h5
  have hpb := lenR_pb h5
  rw [tl_size] at hpl0
  have hfit := fits_iff (n := n) hpl0.2.1 hpb
  rw [elT_skip hh h2 h3 h4 h5 h6 hV h8, lack_eq] at hRR
  subst hG
  obtain ⟨an, cn, rfl, -⟩ := own_form hR.nodes
  obtain ⟨as_, cs, rfl, -⟩ := own_form hR.stack
  obtain rfl : gl = 0 := hgl.symm
  rw [hm] at HR
  have HM := Lib.hid hm
  have HGL := Lib.hid hgl
  have e1 : ¬ (L.items : Int) ≤ (m : Int) := by omega
  have e1b : decide ((L.items : Int) ≤ (m : Int)) = false := decide_eq_false e1
  rw [Classical.not_not.1 h3] at AS
  have WI := Lib.hid (fun i hi w => within_any t i ht2 hi w)
  have hpl := lenR_pl h5
  rw [tl_size] at hpl
  have e6 : (q : Int) ≤ 140737488351232 := by omega
  have e7 : (n : Int) ≤ 140737488351232 := by omega
  have HRR := Lib.hid hRR
  have HPB := Lib.hid (And.intro hpl0 hpb)
  have HNF := Lib.hid (hfit.1 h8)
  clear hRR hpl0 hpb hfit
  clear hch hp hz hLi hLd hLb hU h0 hte hwi hh h2 h3 h4 hV hw1 h5 h6 h8 hm hgl ht ht2 hpl hR
  go_enter Tryd.func44, Tryd.ntmps44
  go_wp2_with (first
    | (go_at_call 45; refine (place_yes (by first | exact HR2.out | exact HR1.out | exact HR.out)).mono ?_; rintro e wp ⟨rfl, rfl⟩)
    | (go_at_call 48; refine N.out.mono ?_; rintro e w1 ⟨rfl, HR1, HB1⟩)
    | (go_at_call 49; refine (F.out _ _ _).mono ?_; rintro e wf ⟨rfl, rfl⟩)
    | (go_at_call 54; refine (AS.out _).mono ?_; rintro e wa ⟨rfl, rfl⟩)
    | (go_at_call 55; refine (WI.out _).mono ?_; rintro e wi ⟨rfl, rfl⟩)
    | (go_at_call 63; refine (LE.out _ _ _ _ (HR1.out.drewN _)).mono ?_; rw [HLE.out]; rintro e w2 ⟨rfl, HR2, HB2⟩))
  have hc4 := HR1.out.at0.cell 4 _ rfl
  have hc7 := HR1.out.at0.cell 7 _ rfl
  have hc3 := HR1.out.at0.cell 3 _ rfl
  have hc8 := HR1.out.at0.cell 8 _ rfl
  rw [HM.out] at hc7
  go_quiet (fail)
  go_wp2_with (first
    | (go_at_call 45; refine (place_yes (by first | exact HR2.out | exact HR1.out | exact HR.out)).mono ?_; rintro e wp ⟨rfl, rfl⟩)
    | (go_at_call 48; refine N.out.mono ?_; rintro e w1 ⟨rfl, HR1, HB1⟩)
    | (go_at_call 49; refine (F.out _ _ _).mono ?_; rintro e wf ⟨rfl, rfl⟩)
    | (go_at_call 54; refine (AS.out _).mono ?_; rintro e wa ⟨rfl, rfl⟩)
    | (go_at_call 55; refine (WI.out _).mono ?_; rintro e wi ⟨rfl, rfl⟩)
    | (go_at_call 63; refine (LE.out _ _ _ _ (HR1.out.drewN _)).mono ?_; rw [HLE.out]; rintro e w2 ⟨rfl, HR2, HB2⟩))
  go_quiet (first | (go_at_call 55; exact (WI1.out _).mono fun _ _ h => ⟨h.1, _, h.2.symm⟩))
  clear hc4 hc7 hc3 hc8
  go_wp2_with (first
    | (go_at_call 63; refine (LE.out _ _ _ (HR1.out.drewN _)).mono ?_; rintro e w2 ⟨rfl, HR2, HB2⟩)
    | (go_at_call 45; refine (place_yes HR2.out).mono ?_; rintro e wp ⟨rfl, rfl⟩))
  have hc7 := HR2.out.at0.cell 7 _ rfl
  have hc8 := HR2.out.at0.cell 8 _ rfl
  rw [HM.out] at hc7
  go_quiet (fail)
  go_wp2_with (first
    | (go_at_call 55; refine (WI1.out _).mono ?_; rintro e wi ⟨rfl, rfl⟩)
    | (go_at_call 65; refine (skip_lack (HR2.out.drewN _) (q + n) HNF.out _ (Int.natCast_add q n)).mono ?_; rintro e w3 ⟨rfl, hb3⟩))
  rw [← HRR.out]
  exact ⟨rfl, rfl, (((HB1.out.trans (below_drewN _ _ _)).trans HB2.out).trans (below_drewN _ _ _)).trans hb3⟩
set_option maxRecDepth 100000 in
set_option maxHeartbeats 800000 in
theorem element_skipc (w : World) (g : Nat) (s : ByteArray) (L : Lm) (p : Nat) (l : List Nd) (G : List Fr) (vn vs : Value) (ro : Int) (hyp : ElHyp w g s L p l G vn vs ro) (h0 : p < s.size ∧ p < L.bytes) (t : Nat) (ht : (s.toList.getD p 0).toNat = t) (h2 : ¬ L.items ≤ l.length) (h3 : ¬ tagE (s.toList.getD p 0) ≠ 0) (h4 : ¬ (within (s.toList.getD p 0) = true ∧ L.depth ≤ G.length)) (hV : ¬ within (s.toList.getD p 0) = true) (n q : Nat) (h5 : lenR s.toList L (p + 1) = .ok (n, q)) (hG : ∃ f G2, G = f :: G2) (h6 : ¬ (G.head?.any fun f => decide (f.e < q + n)) = true) (h8 : n ≠ 0 ∧ has s.toList L (q + n - 1) = false) :
    Calls Tryd.prog 44 #[.pointer (some ⟨g, 0, none⟩)] w (RsAll (elT s.toList L G l p) g s L ro w) := by
  obtain ⟨RR, hRR⟩ : ∃ R, elT s.toList L G l p = R := ⟨_, rfl⟩
  rw [hRR]
  obtain ⟨hR, hch, hp, hz, hLi, hLd, hLb, hU⟩ := hyp
  have F := Lib.hid (fun c p w => fail_any c p w)
  have HR := Lib.hid hR
  have N := Lib.hid (next_yes hR h0.1 h0.2 hz t ht)
  have hh := has_yes s L p h0
  have ht2 : t < 256 := by rw [← ht]; exact (s.toList.getD p 0).toNat_lt
  obtain ⟨hte, hwi⟩ := tag_nat s p t ht
  obtain ⟨m, hm⟩ : ∃ m, l.length = m := ⟨_, rfl⟩
  obtain ⟨gl, hgl⟩ : ∃ gl, G.length = gl := ⟨_, rfl⟩
  have AS := Lib.hid (fun w => ask_any t ht2 w)
  rw [← hte] at AS
  have LE := Lib.hid (fun vn vs w' (hR' : Rd w' g s L (p + 1) l G vn vs ro) => length_yes hR' hz (show p + 1 ≤ s.size from h0.1) h5)
  have hw1 : t / 32 % 2 = 0 := by have h9 : ¬ within (s.toList.getD p 0) = true := hV; rw [hwi, decide_eq_true_iff] at h9; omega
  have WI1 : Hid (∀ w, Calls Tryd.prog 55 #[.int .u8 (t : Int)] w (RetVal (.bool false) w)) := fun w => (fun i hi w => within_any t i ht2 hi w) 0 hw1 w
  have hpl0 := lenR_pl h5
  have hpb := lenR_pb h5
  rw [tl_size] at hpl0
  have hfit := fits_iff (n := n) hpl0.2.1 hpb
  rw [elT_skip hh h2 h3 h4 h5 h6 hV h8, lack_eq] at hRR
  obtain ⟨f, G, rfl⟩ := hG
  obtain ⟨an, cn, rfl, -⟩ := own_form hR.nodes
  obtain ⟨k, cap, rfl, hgk, -⟩ := hR.top
  obtain ⟨gn, hgn⟩ : ∃ gn, G.length = gn := ⟨_, rfl⟩
  obtain rfl : gl = gn + 1 := by rw [← hgl, List.length_cons, hgn]
  have e4 : IntKind.i64.wrap (gn : Int) = (gn : Int) := wrap_fit gn (by have := own_fit hR.stack; rw [List.length_cons, hgn] at this; omega)
  have e4b : (gn : Int) < (gn : Int) + 1 := by omega
  rw [hm] at HR
  have HM := Lib.hid hm
  have HGL := Lib.hid hgl
  have HGN := Lib.hid hgn
  have e1 : ¬ (L.items : Int) ≤ (m : Int) := by omega
  have e1b : decide ((L.items : Int) ≤ (m : Int)) = false := decide_eq_false e1
  rw [Classical.not_not.1 h3] at AS
  have WI := Lib.hid (fun i hi w => within_any t i ht2 hi w)
  have hpl := lenR_pl h5
  rw [tl_size] at hpl
  have e6 : (q : Int) ≤ 140737488351232 := by omega
  have e7 : (n : Int) ≤ 140737488351232 := by omega
  have e8 : ¬ (f.e : Int) < (q : Int) + (n : Int) := by simp only [List.head?_cons, Option.any_some, decide_eq_true_iff] at h6; omega
  have e8b : decide ((f.e : Int) < (q : Int) + (n : Int)) = false := decide_eq_false e8
  have HRR := Lib.hid hRR
  have HPB := Lib.hid (And.intro hpl0 hpb)
  have HNF := Lib.hid (hfit.1 h8)
  clear hRR hpl0 hpb hfit
  clear hch hp hz hLi hLd hLb hU h0 hte hwi hh h2 h3 h4 hV hw1 h5 h6 h8 hm hgl ht ht2 hpl hR
  go_enter Tryd.func44, Tryd.ntmps44
  go_wp2_with (first
    | (go_at_call 45; refine (place_yes (by first | exact HR2.out | exact HR1.out | exact HR.out)).mono ?_; rintro e wp ⟨rfl, rfl⟩)
    | (go_at_call 48; refine N.out.mono ?_; rintro e w1 ⟨rfl, HR1, HB1⟩)
    | (go_at_call 49; refine (F.out _ _ _).mono ?_; rintro e wf ⟨rfl, rfl⟩)
    | (go_at_call 54; refine (AS.out _).mono ?_; rintro e wa ⟨rfl, rfl⟩)
    | (go_at_call 55; refine (WI.out _).mono ?_; rintro e wi ⟨rfl, rfl⟩)
    | (go_at_call 63; refine (LE.out _ _ _ _ (HR1.out.drewN _)).mono ?_; rw [HLE.out]; rintro e w2 ⟨rfl, HR2, HB2⟩))
  have hc4 := HR1.out.at0.cell 4 _ rfl
  have hc7 := HR1.out.at0.cell 7 _ rfl
  have hc3 := HR1.out.at0.cell 3 _ rfl
  have hc8 := HR1.out.at0.cell 8 _ rfl
  rw [HM.out] at hc7
  rw [HGN.out] at hc8
  go_quiet (fail)
  go_wp2_with (first
    | (go_at_call 45; refine (place_yes (by first | exact HR2.out | exact HR1.out | exact HR.out)).mono ?_; rintro e wp ⟨rfl, rfl⟩)
    | (go_at_call 48; refine N.out.mono ?_; rintro e w1 ⟨rfl, HR1, HB1⟩)
    | (go_at_call 49; refine (F.out _ _ _).mono ?_; rintro e wf ⟨rfl, rfl⟩)
    | (go_at_call 54; refine (AS.out _).mono ?_; rintro e wa ⟨rfl, rfl⟩)
    | (go_at_call 55; refine (WI.out _).mono ?_; rintro e wi ⟨rfl, rfl⟩)
    | (go_at_call 63; refine (LE.out _ _ _ _ (HR1.out.drewN _)).mono ?_; rw [HLE.out]; rintro e w2 ⟨rfl, HR2, HB2⟩))
  go_quiet (first | (go_at_call 55; exact (WI1.out _).mono fun _ _ h => ⟨h.1, _, h.2.symm⟩))
  clear hc4 hc7 hc3 hc8
  go_wp2_with (first
    | (go_at_call 63; refine (LE.out _ _ _ (HR1.out.drewN _)).mono ?_; rintro e w2 ⟨rfl, HR2, HB2⟩)
    | (go_at_call 45; refine (place_yes HR2.out).mono ?_; rintro e wp ⟨rfl, rfl⟩))
  have hc7 := HR2.out.at0.cell 7 _ rfl
  have hc8 := HR2.out.at0.cell 8 _ rfl
  rw [HM.out] at hc7
  rw [HGN.out] at hc8
  obtain ⟨k2, cap2, hv2, -, hAt2⟩ := HR2.out.top
  obtain ⟨rfl, rfl⟩ : k2 = k ∧ cap2 = cap := by cases hv2; exact ⟨rfl, rfl⟩
  rw [HGN.out] at hAt2
  have ht2 := hAt2.cell 2 _ rfl
  clear hAt2 hv2
  go_quiet (fail)
  go_wp2_with (first
    | (go_at_call 55; refine (WI1.out _).mono ?_; rintro e wi ⟨rfl, rfl⟩)
    | (go_at_call 65; refine (skip_lack (HR2.out.drewN _) (q + n) HNF.out _ (Int.natCast_add q n)).mono ?_; rintro e w3 ⟨rfl, hb3⟩))
  rw [← HRR.out]
  exact ⟨rfl, rfl, (((HB1.out.trans (below_drewN _ _ _)).trans HB2.out).trans (below_drewN _ _ _)).trans hb3⟩
set_option maxRecDepth 100000 in
set_option maxHeartbeats 800000 in
theorem element_bodyn (w : World) (g : Nat) (s : ByteArray) (L : Lm) (p : Nat) (l : List Nd) (G : List Fr) (vn vs : Value) (ro : Int) (hyp : ElHyp w g s L p l G vn vs ro) (h0 : p < s.size ∧ p < L.bytes) (t : Nat) (ht : (s.toList.getD p 0).toNat = t) (h2 : ¬ L.items ≤ l.length) (h3 : ¬ tagE (s.toList.getD p 0) ≠ 0) (h4 : ¬ (within (s.toList.getD p 0) = true ∧ L.depth ≤ G.length)) (hV : ¬ within (s.toList.getD p 0) = true) (n q : Nat) (h5 : lenR s.toList L (p + 1) = .ok (n, q)) (hG : G = []) (h6 : ¬ (G.head?.any fun f => decide (f.e < q + n)) = true) (h8 : ¬ (n ≠ 0 ∧ has s.toList L (q + n - 1) = false)) (h9 : bodyOk (s.toList.getD p 0) (Dr.part s.toList q (q + n)) = false) :
    Calls Tryd.prog 44 #[.pointer (some ⟨g, 0, none⟩)] w (RsAll (elT s.toList L G l p) g s L ro w) := by
  obtain ⟨RR, hRR⟩ : ∃ R, elT s.toList L G l p = R := ⟨_, rfl⟩
  rw [hRR]
  obtain ⟨hR, hch, hp, hz, hLi, hLd, hLb, hU⟩ := hyp
  have F := Lib.hid (fun c p w => fail_any c p w)
  have HR := Lib.hid hR
  have N := Lib.hid (next_yes hR h0.1 h0.2 hz t ht)
  have hh := has_yes s L p h0
  have ht2 : t < 256 := by rw [← ht]; exact (s.toList.getD p 0).toNat_lt
  obtain ⟨hte, hwi⟩ := tag_nat s p t ht
  obtain ⟨m, hm⟩ : ∃ m, l.length = m := ⟨_, rfl⟩
  obtain ⟨gl, hgl⟩ : ∃ gl, G.length = gl := ⟨_, rfl⟩
  have AS := Lib.hid (fun w => ask_any t ht2 w)
  rw [← hte] at AS
  have LE := Lib.hid (fun vn vs w' (hR' : Rd w' g s L (p + 1) l G vn vs ro) => length_yes hR' hz (show p + 1 ≤ s.size from h0.1) h5)
  have hw1 : t / 32 % 2 = 0 := by have h9 : ¬ within (s.toList.getD p 0) = true := hV; rw [hwi, decide_eq_true_iff] at h9; omega
  have WI1 : Hid (∀ w, Calls Tryd.prog 55 #[.int .u8 (t : Int)] w (RetVal (.bool false) w)) := fun w => (fun i hi w => within_any t i ht2 hi w) 0 hw1 w
  have hpl0 := lenR_pl h5
  have hpb := lenR_pb h5
  rw [tl_size] at hpl0
  have hfit := fits_iff (n := n) hpl0.2.1 hpb
  rw [elT_body hh h2 h3 h4 h5 h6 hV h8 h9] at hRR
  subst hG
  obtain ⟨an, cn, rfl, -⟩ := own_form hR.nodes
  obtain ⟨as_, cs, rfl, -⟩ := own_form hR.stack
  obtain rfl : gl = 0 := hgl.symm
  rw [hm] at HR
  have HM := Lib.hid hm
  have HGL := Lib.hid hgl
  have e1 : ¬ (L.items : Int) ≤ (m : Int) := by omega
  have e1b : decide ((L.items : Int) ≤ (m : Int)) = false := decide_eq_false e1
  rw [Classical.not_not.1 h3] at AS
  have WI := Lib.hid (fun i hi w => within_any t i ht2 hi w)
  have hpl := lenR_pl h5
  rw [tl_size] at hpl
  have e6 : (q : Int) ≤ 140737488351232 := by omega
  have e7 : (n : Int) ≤ 140737488351232 := by omega
  have HRR := Lib.hid hRR
  have HPB := Lib.hid (And.intro hpl0 hpb)
  obtain ⟨u, hu⟩ : ∃ u, s.extract q (q + n) = u := ⟨_, rfl⟩
  have hul : u.toList = Dr.part s.toList q (q + n) := by rw [← hu, tl_extract]; rfl
  have hus : u.size ≤ 140737488351232 := by
    rw [← tl_size, hul, Dr.part, List.length_take, List.length_drop, tl_size]
    omega
  have h10 : q + n ≤ s.size ∧ q + n ≤ L.bytes := Classical.not_not.1 fun h => h8 (hfit.2 h)
  have HSK := Lib.hid (And.intro h10 hu)
  have HUS := Lib.hid hus
  have HUT := Lib.hid hU
  have RI := Lib.hid (fun w hU => right_any t u hus w hU)
  have CL := Lib.hid (fun w => clone_any u w (by omega))
  have hbo : bodyOk (s.toList.getD p 0) (Dr.part s.toList q (q + n)) = bodyN t u.toList := by rw [bodyOk, ht, hul]
  have HUL := Lib.hid hul
  rw [hbo] at h9
  have HBN := Lib.hid h9
  clear hbo h9 hul hus h10 hu
  clear hRR hpl0 hpb hfit
  clear hch hp hz hLi hLd hLb hU h0 hte hwi hh h2 h3 h4 hV hw1 h5 h6 h8 hm hgl ht ht2 hpl hR
  go_enter Tryd.func44, Tryd.ntmps44
  go_wp2_with (first
    | (go_at_call 45; refine (place_yes (by first | exact HR2.out | exact HR1.out | exact HR.out)).mono ?_; rintro e wp ⟨rfl, rfl⟩)
    | (go_at_call 48; refine N.out.mono ?_; rintro e w1 ⟨rfl, HR1, HB1⟩)
    | (go_at_call 49; refine (F.out _ _ _).mono ?_; rintro e wf ⟨rfl, rfl⟩)
    | (go_at_call 54; refine (AS.out _).mono ?_; rintro e wa ⟨rfl, rfl⟩)
    | (go_at_call 55; refine (WI.out _).mono ?_; rintro e wi ⟨rfl, rfl⟩)
    | (go_at_call 63; refine (LE.out _ _ _ _ (HR1.out.drewN _)).mono ?_; rw [HLE.out]; rintro e w2 ⟨rfl, HR2, HB2⟩))
  have hc4 := HR1.out.at0.cell 4 _ rfl
  have hc7 := HR1.out.at0.cell 7 _ rfl
  have hc3 := HR1.out.at0.cell 3 _ rfl
  have hc8 := HR1.out.at0.cell 8 _ rfl
  rw [HM.out] at hc7
  go_quiet (fail)
  go_wp2_with (first
    | (go_at_call 45; refine (place_yes (by first | exact HR2.out | exact HR1.out | exact HR.out)).mono ?_; rintro e wp ⟨rfl, rfl⟩)
    | (go_at_call 48; refine N.out.mono ?_; rintro e w1 ⟨rfl, HR1, HB1⟩)
    | (go_at_call 49; refine (F.out _ _ _).mono ?_; rintro e wf ⟨rfl, rfl⟩)
    | (go_at_call 54; refine (AS.out _).mono ?_; rintro e wa ⟨rfl, rfl⟩)
    | (go_at_call 55; refine (WI.out _).mono ?_; rintro e wi ⟨rfl, rfl⟩)
    | (go_at_call 63; refine (LE.out _ _ _ _ (HR1.out.drewN _)).mono ?_; rw [HLE.out]; rintro e w2 ⟨rfl, HR2, HB2⟩))
  go_quiet (first | (go_at_call 55; exact (WI1.out _).mono fun _ _ h => ⟨h.1, _, h.2.symm⟩))
  clear hc4 hc7 hc3 hc8
  go_wp2_with (first
    | (go_at_call 63; refine (LE.out _ _ _ (HR1.out.drewN _)).mono ?_; rintro e w2 ⟨rfl, HR2, HB2⟩)
    | (go_at_call 45; refine (place_yes HR2.out).mono ?_; rintro e wp ⟨rfl, rfl⟩))
  have hc7 := HR2.out.at0.cell 7 _ rfl
  have hc8 := HR2.out.at0.cell 8 _ rfl
  rw [HM.out] at hc7
  go_quiet (fail)
  go_wp2_with (first
    | (go_at_call 55; refine (WI1.out _).mono ?_; rintro e wi ⟨rfl, rfl⟩)
    | (go_at_call 65; refine (skip_yes (HR2.out.drewN _) (q + n) (Nat.le_add_right _ _) HSK.out.1.1 HSK.out.1.2 _ (Int.natCast_add q n) u HSK.out.2).mono ?_; rintro e w3 ⟨rfl, HR3, HB3⟩)
    | (go_at_call 64; refine (CL.out _).mono ?_; rintro e w4 ⟨rfl, HC4⟩; have HR4 := Lib.hid (HR3.out.below HC4.out); have HB4 := Lib.hid (HB3.out.trans (HC4.out.mono (Nat.le_of_lt HR3.out.lt))))
    | (go_at_call 56; refine (RI.out _ (HUT.out.below (((HB1.out.trans (below_drewN _ _ _)).trans HB2.out).trans ((below_drewN _ _ _).trans HB4.out))).1).mono ?_; rw [HBN.out]; rintro e w5 ⟨rfl, HC5⟩; have HR5 := Lib.hid (HR4.out.below HC5); have HB5 := Lib.hid (HB4.out.trans (HC5.mono (Nat.le_of_lt HR4.out.lt))); clear HC5)
    | (go_at_call 49; refine (F.out _ _ _).mono ?_; rintro e wf ⟨rfl, rfl⟩))
  rw [← HRR.out]
  exact ⟨rfl, rfl, (((HB1.out.trans (below_drewN _ _ _)).trans HB2.out).trans (below_drewN _ _ _)).trans HB5.out⟩
set_option maxRecDepth 100000 in
set_option maxHeartbeats 800000 in
theorem element_bodyc (w : World) (g : Nat) (s : ByteArray) (L : Lm) (p : Nat) (l : List Nd) (G : List Fr) (vn vs : Value) (ro : Int) (hyp : ElHyp w g s L p l G vn vs ro) (h0 : p < s.size ∧ p < L.bytes) (t : Nat) (ht : (s.toList.getD p 0).toNat = t) (h2 : ¬ L.items ≤ l.length) (h3 : ¬ tagE (s.toList.getD p 0) ≠ 0) (h4 : ¬ (within (s.toList.getD p 0) = true ∧ L.depth ≤ G.length)) (hV : ¬ within (s.toList.getD p 0) = true) (n q : Nat) (h5 : lenR s.toList L (p + 1) = .ok (n, q)) (hG : ∃ f G2, G = f :: G2) (h6 : ¬ (G.head?.any fun f => decide (f.e < q + n)) = true) (h8 : ¬ (n ≠ 0 ∧ has s.toList L (q + n - 1) = false)) (h9 : bodyOk (s.toList.getD p 0) (Dr.part s.toList q (q + n)) = false) :
    Calls Tryd.prog 44 #[.pointer (some ⟨g, 0, none⟩)] w (RsAll (elT s.toList L G l p) g s L ro w) := by
  obtain ⟨RR, hRR⟩ : ∃ R, elT s.toList L G l p = R := ⟨_, rfl⟩
  rw [hRR]
  obtain ⟨hR, hch, hp, hz, hLi, hLd, hLb, hU⟩ := hyp
  have F := Lib.hid (fun c p w => fail_any c p w)
  have HR := Lib.hid hR
  have N := Lib.hid (next_yes hR h0.1 h0.2 hz t ht)
  have hh := has_yes s L p h0
  have ht2 : t < 256 := by rw [← ht]; exact (s.toList.getD p 0).toNat_lt
  obtain ⟨hte, hwi⟩ := tag_nat s p t ht
  obtain ⟨m, hm⟩ : ∃ m, l.length = m := ⟨_, rfl⟩
  obtain ⟨gl, hgl⟩ : ∃ gl, G.length = gl := ⟨_, rfl⟩
  have AS := Lib.hid (fun w => ask_any t ht2 w)
  rw [← hte] at AS
  have LE := Lib.hid (fun vn vs w' (hR' : Rd w' g s L (p + 1) l G vn vs ro) => length_yes hR' hz (show p + 1 ≤ s.size from h0.1) h5)
  have hw1 : t / 32 % 2 = 0 := by have h9 : ¬ within (s.toList.getD p 0) = true := hV; rw [hwi, decide_eq_true_iff] at h9; omega
  have WI1 : Hid (∀ w, Calls Tryd.prog 55 #[.int .u8 (t : Int)] w (RetVal (.bool false) w)) := fun w => (fun i hi w => within_any t i ht2 hi w) 0 hw1 w
  have hpl0 := lenR_pl h5
  have hpb := lenR_pb h5
  rw [tl_size] at hpl0
  have hfit := fits_iff (n := n) hpl0.2.1 hpb
  rw [elT_body hh h2 h3 h4 h5 h6 hV h8 h9] at hRR
  obtain ⟨f, G, rfl⟩ := hG
  obtain ⟨an, cn, rfl, -⟩ := own_form hR.nodes
  obtain ⟨k, cap, rfl, hgk, -⟩ := hR.top
  obtain ⟨gn, hgn⟩ : ∃ gn, G.length = gn := ⟨_, rfl⟩
  obtain rfl : gl = gn + 1 := by rw [← hgl, List.length_cons, hgn]
  have e4 : IntKind.i64.wrap (gn : Int) = (gn : Int) := wrap_fit gn (by have := own_fit hR.stack; rw [List.length_cons, hgn] at this; omega)
  have e4b : (gn : Int) < (gn : Int) + 1 := by omega
  rw [hm] at HR
  have HM := Lib.hid hm
  have HGL := Lib.hid hgl
  have HGN := Lib.hid hgn
  have e1 : ¬ (L.items : Int) ≤ (m : Int) := by omega
  have e1b : decide ((L.items : Int) ≤ (m : Int)) = false := decide_eq_false e1
  rw [Classical.not_not.1 h3] at AS
  have WI := Lib.hid (fun i hi w => within_any t i ht2 hi w)
  have hpl := lenR_pl h5
  rw [tl_size] at hpl
  have e6 : (q : Int) ≤ 140737488351232 := by omega
  have e7 : (n : Int) ≤ 140737488351232 := by omega
  have e8 : ¬ (f.e : Int) < (q : Int) + (n : Int) := by simp only [List.head?_cons, Option.any_some, decide_eq_true_iff] at h6; omega
  have e8b : decide ((f.e : Int) < (q : Int) + (n : Int)) = false := decide_eq_false e8
  have HRR := Lib.hid hRR
  have HPB := Lib.hid (And.intro hpl0 hpb)
  obtain ⟨u, hu⟩ : ∃ u, s.extract q (q + n) = u := ⟨_, rfl⟩
  have hul : u.toList = Dr.part s.toList q (q + n) := by rw [← hu, tl_extract]; rfl
  have hus : u.size ≤ 140737488351232 := by
    rw [← tl_size, hul, Dr.part, List.length_take, List.length_drop, tl_size]
    omega
  have h10 : q + n ≤ s.size ∧ q + n ≤ L.bytes := Classical.not_not.1 fun h => h8 (hfit.2 h)
  have HSK := Lib.hid (And.intro h10 hu)
  have HUS := Lib.hid hus
  have HUT := Lib.hid hU
  have RI := Lib.hid (fun w hU => right_any t u hus w hU)
  have CL := Lib.hid (fun w => clone_any u w (by omega))
  have hbo : bodyOk (s.toList.getD p 0) (Dr.part s.toList q (q + n)) = bodyN t u.toList := by rw [bodyOk, ht, hul]
  have HUL := Lib.hid hul
  rw [hbo] at h9
  have HBN := Lib.hid h9
  clear hbo h9 hul hus h10 hu
  clear hRR hpl0 hpb hfit
  clear hch hp hz hLi hLd hLb hU h0 hte hwi hh h2 h3 h4 hV hw1 h5 h6 h8 hm hgl ht ht2 hpl hR
  go_enter Tryd.func44, Tryd.ntmps44
  go_wp2_with (first
    | (go_at_call 45; refine (place_yes (by first | exact HR2.out | exact HR1.out | exact HR.out)).mono ?_; rintro e wp ⟨rfl, rfl⟩)
    | (go_at_call 48; refine N.out.mono ?_; rintro e w1 ⟨rfl, HR1, HB1⟩)
    | (go_at_call 49; refine (F.out _ _ _).mono ?_; rintro e wf ⟨rfl, rfl⟩)
    | (go_at_call 54; refine (AS.out _).mono ?_; rintro e wa ⟨rfl, rfl⟩)
    | (go_at_call 55; refine (WI.out _).mono ?_; rintro e wi ⟨rfl, rfl⟩)
    | (go_at_call 63; refine (LE.out _ _ _ _ (HR1.out.drewN _)).mono ?_; rw [HLE.out]; rintro e w2 ⟨rfl, HR2, HB2⟩))
  have hc4 := HR1.out.at0.cell 4 _ rfl
  have hc7 := HR1.out.at0.cell 7 _ rfl
  have hc3 := HR1.out.at0.cell 3 _ rfl
  have hc8 := HR1.out.at0.cell 8 _ rfl
  rw [HM.out] at hc7
  rw [HGN.out] at hc8
  go_quiet (fail)
  go_wp2_with (first
    | (go_at_call 45; refine (place_yes (by first | exact HR2.out | exact HR1.out | exact HR.out)).mono ?_; rintro e wp ⟨rfl, rfl⟩)
    | (go_at_call 48; refine N.out.mono ?_; rintro e w1 ⟨rfl, HR1, HB1⟩)
    | (go_at_call 49; refine (F.out _ _ _).mono ?_; rintro e wf ⟨rfl, rfl⟩)
    | (go_at_call 54; refine (AS.out _).mono ?_; rintro e wa ⟨rfl, rfl⟩)
    | (go_at_call 55; refine (WI.out _).mono ?_; rintro e wi ⟨rfl, rfl⟩)
    | (go_at_call 63; refine (LE.out _ _ _ _ (HR1.out.drewN _)).mono ?_; rw [HLE.out]; rintro e w2 ⟨rfl, HR2, HB2⟩))
  go_quiet (first | (go_at_call 55; exact (WI1.out _).mono fun _ _ h => ⟨h.1, _, h.2.symm⟩))
  clear hc4 hc7 hc3 hc8
  go_wp2_with (first
    | (go_at_call 63; refine (LE.out _ _ _ (HR1.out.drewN _)).mono ?_; rintro e w2 ⟨rfl, HR2, HB2⟩)
    | (go_at_call 45; refine (place_yes HR2.out).mono ?_; rintro e wp ⟨rfl, rfl⟩))
  have hc7 := HR2.out.at0.cell 7 _ rfl
  have hc8 := HR2.out.at0.cell 8 _ rfl
  rw [HM.out] at hc7
  rw [HGN.out] at hc8
  obtain ⟨k2, cap2, hv2, -, hAt2⟩ := HR2.out.top
  obtain ⟨rfl, rfl⟩ : k2 = k ∧ cap2 = cap := by cases hv2; exact ⟨rfl, rfl⟩
  rw [HGN.out] at hAt2
  have ht2 := hAt2.cell 2 _ rfl
  clear hAt2 hv2
  go_quiet (fail)
  go_wp2_with (first
    | (go_at_call 55; refine (WI1.out _).mono ?_; rintro e wi ⟨rfl, rfl⟩)
    | (go_at_call 65; refine (skip_yes (HR2.out.drewN _) (q + n) (Nat.le_add_right _ _) HSK.out.1.1 HSK.out.1.2 _ (Int.natCast_add q n) u HSK.out.2).mono ?_; rintro e w3 ⟨rfl, HR3, HB3⟩)
    | (go_at_call 64; refine (CL.out _).mono ?_; rintro e w4 ⟨rfl, HC4⟩; have HR4 := Lib.hid (HR3.out.below HC4.out); have HB4 := Lib.hid (HB3.out.trans (HC4.out.mono (Nat.le_of_lt HR3.out.lt))))
    | (go_at_call 56; refine (RI.out _ (HUT.out.below (((HB1.out.trans (below_drewN _ _ _)).trans HB2.out).trans ((below_drewN _ _ _).trans HB4.out))).1).mono ?_; rw [HBN.out]; rintro e w5 ⟨rfl, HC5⟩; have HR5 := Lib.hid (HR4.out.below HC5); have HB5 := Lib.hid (HB4.out.trans (HC5.mono (Nat.le_of_lt HR4.out.lt))); clear HC5)
    | (go_at_call 49; refine (F.out _ _ _).mono ?_; rintro e wf ⟨rfl, rfl⟩))
  rw [← HRR.out]
  exact ⟨rfl, rfl, (((HB1.out.trans (below_drewN _ _ _)).trans HB2.out).trans (below_drewN _ _ _)).trans HB5.out⟩
set_option maxRecDepth 100000 in
set_option maxHeartbeats 800000 in
theorem element_okn (w : World) (g : Nat) (s : ByteArray) (L : Lm) (p : Nat) (l : List Nd) (G : List Fr) (vn vs : Value) (ro : Int) (hyp : ElHyp w g s L p l G vn vs ro) (h0 : p < s.size ∧ p < L.bytes) (t : Nat) (ht : (s.toList.getD p 0).toNat = t) (h2 : ¬ L.items ≤ l.length) (h3 : ¬ tagE (s.toList.getD p 0) ≠ 0) (h4 : ¬ (within (s.toList.getD p 0) = true ∧ L.depth ≤ G.length)) (hV : ¬ within (s.toList.getD p 0) = true) (n q : Nat) (h5 : lenR s.toList L (p + 1) = .ok (n, q)) (hG : G = []) (h6 : ¬ (G.head?.any fun f => decide (f.e < q + n)) = true) (h8 : ¬ (n ≠ 0 ∧ has s.toList L (q + n - 1) = false)) (h9 : ¬ bodyOk (s.toList.getD p 0) (Dr.part s.toList q (q + n)) = false) :
    Calls Tryd.prog 44 #[.pointer (some ⟨g, 0, none⟩)] w (RsAll (elT s.toList L G l p) g s L ro w) := by
  obtain ⟨RR, hRR⟩ : ∃ R, elT s.toList L G l p = R := ⟨_, rfl⟩
  rw [hRR]
  obtain ⟨hR, hch, hp, hz, hLi, hLd, hLb, hU⟩ := hyp
  have F := Lib.hid (fun c p w => fail_any c p w)
  have HR := Lib.hid hR
  have N := Lib.hid (next_yes hR h0.1 h0.2 hz t ht)
  have hh := has_yes s L p h0
  have ht2 : t < 256 := by rw [← ht]; exact (s.toList.getD p 0).toNat_lt
  obtain ⟨hte, hwi⟩ := tag_nat s p t ht
  obtain ⟨m, hm⟩ : ∃ m, l.length = m := ⟨_, rfl⟩
  obtain ⟨gl, hgl⟩ : ∃ gl, G.length = gl := ⟨_, rfl⟩
  have AS := Lib.hid (fun w => ask_any t ht2 w)
  rw [← hte] at AS
  have LE := Lib.hid (fun vn vs w' (hR' : Rd w' g s L (p + 1) l G vn vs ro) => length_yes hR' hz (show p + 1 ≤ s.size from h0.1) h5)
  have hw1 : t / 32 % 2 = 0 := by have h9 : ¬ within (s.toList.getD p 0) = true := hV; rw [hwi, decide_eq_true_iff] at h9; omega
  have WI1 : Hid (∀ w, Calls Tryd.prog 55 #[.int .u8 (t : Int)] w (RetVal (.bool false) w)) := fun w => (fun i hi w => within_any t i ht2 hi w) 0 hw1 w
  have hpl0 := lenR_pl h5
  have hpb := lenR_pb h5
  rw [tl_size] at hpl0
  have hfit := fits_iff (n := n) hpl0.2.1 hpb
  rw [elT_ok hh h2 h3 h4 h5 h6 hV h8 h9] at hRR
  subst hG
  obtain ⟨an, cn, rfl, -⟩ := own_form hR.nodes
  obtain ⟨as_, cs, rfl, -⟩ := own_form hR.stack
  obtain rfl : gl = 0 := hgl.symm
  rw [hm] at HR
  have HM := Lib.hid hm
  have HGL := Lib.hid hgl
  have e1 : ¬ (L.items : Int) ≤ (m : Int) := by omega
  have e1b : decide ((L.items : Int) ≤ (m : Int)) = false := decide_eq_false e1
  rw [Classical.not_not.1 h3] at AS
  have WI := Lib.hid (fun i hi w => within_any t i ht2 hi w)
  have hpl := lenR_pl h5
  rw [tl_size] at hpl
  have e6 : (q : Int) ≤ 140737488351232 := by omega
  have e7 : (n : Int) ≤ 140737488351232 := by omega
  have HRR := Lib.hid hRR
  have HPB := Lib.hid (And.intro hpl0 hpb)
  obtain ⟨u, hu⟩ : ∃ u, s.extract q (q + n) = u := ⟨_, rfl⟩
  have hul : u.toList = Dr.part s.toList q (q + n) := by rw [← hu, tl_extract]; rfl
  have hus : u.size ≤ 140737488351232 := by
    rw [← tl_size, hul, Dr.part, List.length_take, List.length_drop, tl_size]
    omega
  have h10 : q + n ≤ s.size ∧ q + n ≤ L.bytes := Classical.not_not.1 fun h => h8 (hfit.2 h)
  have HSK := Lib.hid (And.intro h10 hu)
  have HUS := Lib.hid hus
  have HUT := Lib.hid hU
  have RI := Lib.hid (fun w hU => right_any t u hus w hU)
  have CL := Lib.hid (fun w => clone_any u w (by omega))
  have hbo : bodyOk (s.toList.getD p 0) (Dr.part s.toList q (q + n)) = bodyN t u.toList := by rw [bodyOk, ht, hul]
  have HUL := Lib.hid hul
  rw [hbo, Bool.not_eq_false] at h9
  have HBN := Lib.hid h9
  have HIT := Lib.hid (And.intro h2 hLi)
  have HCH := Lib.hid hch
  have HZ := Lib.hid hz
  have HNV : Hid (nv ({ tag := s.toList.getD p 0, kids := -1, body := Dr.part s.toList q (q + n) } : Nd) = (#[Value.int .u8 (t : Int), Value.int .i64 (-1), Value.string u]).toList) := by
    show nv ({ tag := s.toList.getD p 0, kids := -1, body := Dr.part s.toList q (q + n) } : Nd) = _
    rw [nv, ht, ← hul, tl_arr]
  clear hbo h9 hul hus h10 hu
  clear hRR hpl0 hpb hfit
  clear hch hp hz hLi hLd hLb hU h0 hte hwi hh h2 h3 h4 hV hw1 h5 h6 h8 hm hgl ht ht2 hpl hR
  go_enter Tryd.func44, Tryd.ntmps44
  go_wp2_with (first
    | (go_at_call 45; refine (place_yes (by first | exact HR2.out | exact HR1.out | exact HR.out)).mono ?_; rintro e wp ⟨rfl, rfl⟩)
    | (go_at_call 48; refine N.out.mono ?_; rintro e w1 ⟨rfl, HR1, HB1⟩)
    | (go_at_call 49; refine (F.out _ _ _).mono ?_; rintro e wf ⟨rfl, rfl⟩)
    | (go_at_call 54; refine (AS.out _).mono ?_; rintro e wa ⟨rfl, rfl⟩)
    | (go_at_call 55; refine (WI.out _).mono ?_; rintro e wi ⟨rfl, rfl⟩)
    | (go_at_call 63; refine (LE.out _ _ _ _ (HR1.out.drewN _)).mono ?_; rw [HLE.out]; rintro e w2 ⟨rfl, HR2, HB2⟩))
  have hc4 := HR1.out.at0.cell 4 _ rfl
  have hc7 := HR1.out.at0.cell 7 _ rfl
  have hc3 := HR1.out.at0.cell 3 _ rfl
  have hc8 := HR1.out.at0.cell 8 _ rfl
  rw [HM.out] at hc7
  go_quiet (fail)
  go_wp2_with (first
    | (go_at_call 45; refine (place_yes (by first | exact HR2.out | exact HR1.out | exact HR.out)).mono ?_; rintro e wp ⟨rfl, rfl⟩)
    | (go_at_call 48; refine N.out.mono ?_; rintro e w1 ⟨rfl, HR1, HB1⟩)
    | (go_at_call 49; refine (F.out _ _ _).mono ?_; rintro e wf ⟨rfl, rfl⟩)
    | (go_at_call 54; refine (AS.out _).mono ?_; rintro e wa ⟨rfl, rfl⟩)
    | (go_at_call 55; refine (WI.out _).mono ?_; rintro e wi ⟨rfl, rfl⟩)
    | (go_at_call 63; refine (LE.out _ _ _ _ (HR1.out.drewN _)).mono ?_; rw [HLE.out]; rintro e w2 ⟨rfl, HR2, HB2⟩))
  go_quiet (first | (go_at_call 55; exact (WI1.out _).mono fun _ _ h => ⟨h.1, _, h.2.symm⟩))
  clear hc4 hc7 hc3 hc8
  go_wp2_with (first
    | (go_at_call 63; refine (LE.out _ _ _ (HR1.out.drewN _)).mono ?_; rintro e w2 ⟨rfl, HR2, HB2⟩)
    | (go_at_call 45; refine (place_yes HR2.out).mono ?_; rintro e wp ⟨rfl, rfl⟩))
  have hc7 := HR2.out.at0.cell 7 _ rfl
  have hc8 := HR2.out.at0.cell 8 _ rfl
  rw [HM.out] at hc7
  go_quiet (fail)
  go_wp2_with (first
    | (go_at_call 55; refine (WI1.out _).mono ?_; rintro e wi ⟨rfl, rfl⟩)
    | (go_at_call 65; refine (skip_yes (HR2.out.drewN _) (q + n) (Nat.le_add_right _ _) HSK.out.1.1 HSK.out.1.2 _ (Int.natCast_add q n) u HSK.out.2).mono ?_; rintro e w3 ⟨rfl, HR3, HB3⟩)
    | (go_at_call 64; refine (CL.out _).mono ?_; rintro e w4 ⟨rfl, HC4⟩; have HR4 := Lib.hid (HR3.out.below HC4.out); have HB4 := Lib.hid (HB3.out.trans (HC4.out.mono (Nat.le_of_lt HR3.out.lt))))
    | (go_at_call 56; refine (RI.out _ (HUT.out.below (((HB1.out.trans (below_drewN _ _ _)).trans HB2.out).trans ((below_drewN _ _ _).trans HB4.out))).1).mono ?_; rw [HBN.out]; rintro e w5 ⟨rfl, HC5⟩; have HR5 := Lib.hid (HR4.out.below HC5); have HB5 := Lib.hid (HB4.out.trans (HC5.mono (Nat.le_of_lt HR4.out.lt))); clear HC5; obtain ⟨vN, hvN, hf7, HR6⟩ := HR5.out.hideN)
    | (at_builtin; refine wpList_append_nd rfl (.tmp 132) (.tmp 136) rfl (g + 1) _ l.length l rfl (HR6.out.nodes.alloc _) w5.heap.size 1 ({ tag := s.toList.getD p 0, kids := -1, body := Dr.part s.toList q (q + n) } : Nd) rfl (nd_cells2 HNV.out (At.ofAlloc w5 #[Value.int .u8 (t : Int), Value.int .i64 (-1), Value.string u] 63)) (by have := HIT.out; omega) (by have := HR6.out.lt; simp; omega) ?_; intro v6 w6 hown6 hgrow6; obtain ⟨a6, c6, hv6, -⟩ := own_form hown6; subst hv6; have hAt6 := At.grown ((HR6.out.alloc _).at0) hgrow6 (HR6.out.alloc _).lt (fun e => by have := (HR6.out.nodes.lt g e).1; omega); have hf76 := hAt6.froz 7 (by simp); have hc76 := hAt6.cell 7 _ rfl; have HR7 := Lib.hid (Rd.addNode (l' := l ++ [({ tag := s.toList.getD p 0, kids := -1, body := Dr.part s.toList q (q + n) } : Nd)]) (HR6.out.alloc _) hgrow6 (by rw [List.length_append]; exact hown6)); have HB7 := Lib.hid (HB5.out.trans ((((Below.refl g w5).alloc (Nat.le_of_lt HR6.out.lt) _).grown hgrow6 (by have := HR6.out.lt; simp; omega) (fun k hk => by have := (HR6.out.nodes.lt k hk).1; omega)).setCell (p := ⟨g, 7, none⟩) (Nat.le_refl _) (.slice a6 (l.length + 1) c6))); clear hAt6 hgrow6 hown6)
    | (go_at_call 49; refine (F.out _ _ _).mono ?_; rintro e wf ⟨rfl, rfl⟩))
  refine (ended_any _ g s L p (q + n) _ _ _ _ ro HR7.out (HCH.out.append _) (by have := HPB.out; omega) HSK.out.1.1 HZ.out).mono ?_
  intro e w8 h8
  rw [HRR.out] at h8
  rcases RsEnd.cases h8 ((((HB1.out.trans (below_drewN _ _ _)).trans HB2.out).trans (below_drewN _ _ _)).trans HB7.out) with ⟨rfl, h9⟩ | ⟨ps, rfl, h9⟩
  · have H9 := Lib.hid h9
    clear h8 h9
    go_wp2_with fail
    first | go_end0 | refine bodyPost_ret (results_none rfl _ _ _) rfl ?_
    exact H9.out
  · exact ⟨rfl, h9⟩
set_option maxRecDepth 100000 in
set_option maxHeartbeats 800000 in
theorem element_okc (w : World) (g : Nat) (s : ByteArray) (L : Lm) (p : Nat) (l : List Nd) (G : List Fr) (vn vs : Value) (ro : Int) (hyp : ElHyp w g s L p l G vn vs ro) (h0 : p < s.size ∧ p < L.bytes) (t : Nat) (ht : (s.toList.getD p 0).toNat = t) (h2 : ¬ L.items ≤ l.length) (h3 : ¬ tagE (s.toList.getD p 0) ≠ 0) (h4 : ¬ (within (s.toList.getD p 0) = true ∧ L.depth ≤ G.length)) (hV : ¬ within (s.toList.getD p 0) = true) (n q : Nat) (h5 : lenR s.toList L (p + 1) = .ok (n, q)) (hG : ∃ f G2, G = f :: G2) (h6 : ¬ (G.head?.any fun f => decide (f.e < q + n)) = true) (h8 : ¬ (n ≠ 0 ∧ has s.toList L (q + n - 1) = false)) (h9 : ¬ bodyOk (s.toList.getD p 0) (Dr.part s.toList q (q + n)) = false) :
    Calls Tryd.prog 44 #[.pointer (some ⟨g, 0, none⟩)] w (RsAll (elT s.toList L G l p) g s L ro w) := by
  obtain ⟨RR, hRR⟩ : ∃ R, elT s.toList L G l p = R := ⟨_, rfl⟩
  rw [hRR]
  obtain ⟨hR, hch, hp, hz, hLi, hLd, hLb, hU⟩ := hyp
  have F := Lib.hid (fun c p w => fail_any c p w)
  have HR := Lib.hid hR
  have N := Lib.hid (next_yes hR h0.1 h0.2 hz t ht)
  have hh := has_yes s L p h0
  have ht2 : t < 256 := by rw [← ht]; exact (s.toList.getD p 0).toNat_lt
  obtain ⟨hte, hwi⟩ := tag_nat s p t ht
  obtain ⟨m, hm⟩ : ∃ m, l.length = m := ⟨_, rfl⟩
  obtain ⟨gl, hgl⟩ : ∃ gl, G.length = gl := ⟨_, rfl⟩
  have AS := Lib.hid (fun w => ask_any t ht2 w)
  rw [← hte] at AS
  have LE := Lib.hid (fun vn vs w' (hR' : Rd w' g s L (p + 1) l G vn vs ro) => length_yes hR' hz (show p + 1 ≤ s.size from h0.1) h5)
  have hw1 : t / 32 % 2 = 0 := by have h9 : ¬ within (s.toList.getD p 0) = true := hV; rw [hwi, decide_eq_true_iff] at h9; omega
  have WI1 : Hid (∀ w, Calls Tryd.prog 55 #[.int .u8 (t : Int)] w (RetVal (.bool false) w)) := fun w => (fun i hi w => within_any t i ht2 hi w) 0 hw1 w
  have hpl0 := lenR_pl h5
  have hpb := lenR_pb h5
  rw [tl_size] at hpl0
  have hfit := fits_iff (n := n) hpl0.2.1 hpb
  rw [elT_ok hh h2 h3 h4 h5 h6 hV h8 h9] at hRR
  obtain ⟨f, G, rfl⟩ := hG
  obtain ⟨an, cn, rfl, -⟩ := own_form hR.nodes
  obtain ⟨k, cap, rfl, hgk, -⟩ := hR.top
  obtain ⟨gn, hgn⟩ : ∃ gn, G.length = gn := ⟨_, rfl⟩
  obtain rfl : gl = gn + 1 := by rw [← hgl, List.length_cons, hgn]
  have e4 : IntKind.i64.wrap (gn : Int) = (gn : Int) := wrap_fit gn (by have := own_fit hR.stack; rw [List.length_cons, hgn] at this; omega)
  have e4b : (gn : Int) < (gn : Int) + 1 := by omega
  rw [hm] at HR
  have HM := Lib.hid hm
  have HGL := Lib.hid hgl
  have HGN := Lib.hid hgn
  have e1 : ¬ (L.items : Int) ≤ (m : Int) := by omega
  have e1b : decide ((L.items : Int) ≤ (m : Int)) = false := decide_eq_false e1
  rw [Classical.not_not.1 h3] at AS
  have WI := Lib.hid (fun i hi w => within_any t i ht2 hi w)
  have hpl := lenR_pl h5
  rw [tl_size] at hpl
  have e6 : (q : Int) ≤ 140737488351232 := by omega
  have e7 : (n : Int) ≤ 140737488351232 := by omega
  have e8 : ¬ (f.e : Int) < (q : Int) + (n : Int) := by simp only [List.head?_cons, Option.any_some, decide_eq_true_iff] at h6; omega
  have e8b : decide ((f.e : Int) < (q : Int) + (n : Int)) = false := decide_eq_false e8
  have HRR := Lib.hid hRR
  have HPB := Lib.hid (And.intro hpl0 hpb)
  obtain ⟨u, hu⟩ : ∃ u, s.extract q (q + n) = u := ⟨_, rfl⟩
  have hul : u.toList = Dr.part s.toList q (q + n) := by rw [← hu, tl_extract]; rfl
  have hus : u.size ≤ 140737488351232 := by
    rw [← tl_size, hul, Dr.part, List.length_take, List.length_drop, tl_size]
    omega
  have h10 : q + n ≤ s.size ∧ q + n ≤ L.bytes := Classical.not_not.1 fun h => h8 (hfit.2 h)
  have HSK := Lib.hid (And.intro h10 hu)
  have HUS := Lib.hid hus
  have HUT := Lib.hid hU
  have RI := Lib.hid (fun w hU => right_any t u hus w hU)
  have CL := Lib.hid (fun w => clone_any u w (by omega))
  have hbo : bodyOk (s.toList.getD p 0) (Dr.part s.toList q (q + n)) = bodyN t u.toList := by rw [bodyOk, ht, hul]
  have HUL := Lib.hid hul
  rw [hbo, Bool.not_eq_false] at h9
  have HBN := Lib.hid h9
  have HIT := Lib.hid (And.intro h2 hLi)
  have HCH := Lib.hid hch
  have HZ := Lib.hid hz
  have HNV : Hid (nv ({ tag := s.toList.getD p 0, kids := -1, body := Dr.part s.toList q (q + n) } : Nd) = (#[Value.int .u8 (t : Int), Value.int .i64 (-1), Value.string u]).toList) := by
    show nv ({ tag := s.toList.getD p 0, kids := -1, body := Dr.part s.toList q (q + n) } : Nd) = _
    rw [nv, ht, ← hul, tl_arr]
  clear hbo h9 hul hus h10 hu
  clear hRR hpl0 hpb hfit
  clear hch hp hz hLi hLd hLb hU h0 hte hwi hh h2 h3 h4 hV hw1 h5 h6 h8 hm hgl ht ht2 hpl hR
  go_enter Tryd.func44, Tryd.ntmps44
  go_wp2_with (first
    | (go_at_call 45; refine (place_yes (by first | exact HR2.out | exact HR1.out | exact HR.out)).mono ?_; rintro e wp ⟨rfl, rfl⟩)
    | (go_at_call 48; refine N.out.mono ?_; rintro e w1 ⟨rfl, HR1, HB1⟩)
    | (go_at_call 49; refine (F.out _ _ _).mono ?_; rintro e wf ⟨rfl, rfl⟩)
    | (go_at_call 54; refine (AS.out _).mono ?_; rintro e wa ⟨rfl, rfl⟩)
    | (go_at_call 55; refine (WI.out _).mono ?_; rintro e wi ⟨rfl, rfl⟩)
    | (go_at_call 63; refine (LE.out _ _ _ _ (HR1.out.drewN _)).mono ?_; rw [HLE.out]; rintro e w2 ⟨rfl, HR2, HB2⟩))
  have hc4 := HR1.out.at0.cell 4 _ rfl
  have hc7 := HR1.out.at0.cell 7 _ rfl
  have hc3 := HR1.out.at0.cell 3 _ rfl
  have hc8 := HR1.out.at0.cell 8 _ rfl
  rw [HM.out] at hc7
  rw [HGN.out] at hc8
  go_quiet (fail)
  go_wp2_with (first
    | (go_at_call 45; refine (place_yes (by first | exact HR2.out | exact HR1.out | exact HR.out)).mono ?_; rintro e wp ⟨rfl, rfl⟩)
    | (go_at_call 48; refine N.out.mono ?_; rintro e w1 ⟨rfl, HR1, HB1⟩)
    | (go_at_call 49; refine (F.out _ _ _).mono ?_; rintro e wf ⟨rfl, rfl⟩)
    | (go_at_call 54; refine (AS.out _).mono ?_; rintro e wa ⟨rfl, rfl⟩)
    | (go_at_call 55; refine (WI.out _).mono ?_; rintro e wi ⟨rfl, rfl⟩)
    | (go_at_call 63; refine (LE.out _ _ _ _ (HR1.out.drewN _)).mono ?_; rw [HLE.out]; rintro e w2 ⟨rfl, HR2, HB2⟩))
  go_quiet (first | (go_at_call 55; exact (WI1.out _).mono fun _ _ h => ⟨h.1, _, h.2.symm⟩))
  clear hc4 hc7 hc3 hc8
  go_wp2_with (first
    | (go_at_call 63; refine (LE.out _ _ _ (HR1.out.drewN _)).mono ?_; rintro e w2 ⟨rfl, HR2, HB2⟩)
    | (go_at_call 45; refine (place_yes HR2.out).mono ?_; rintro e wp ⟨rfl, rfl⟩))
  have hc7 := HR2.out.at0.cell 7 _ rfl
  have hc8 := HR2.out.at0.cell 8 _ rfl
  rw [HM.out] at hc7
  rw [HGN.out] at hc8
  obtain ⟨k2, cap2, hv2, -, hAt2⟩ := HR2.out.top
  obtain ⟨rfl, rfl⟩ : k2 = k ∧ cap2 = cap := by cases hv2; exact ⟨rfl, rfl⟩
  rw [HGN.out] at hAt2
  have ht2 := hAt2.cell 2 _ rfl
  clear hAt2 hv2
  go_quiet (fail)
  go_wp2_with (first
    | (go_at_call 55; refine (WI1.out _).mono ?_; rintro e wi ⟨rfl, rfl⟩)
    | (go_at_call 65; refine (skip_yes (HR2.out.drewN _) (q + n) (Nat.le_add_right _ _) HSK.out.1.1 HSK.out.1.2 _ (Int.natCast_add q n) u HSK.out.2).mono ?_; rintro e w3 ⟨rfl, HR3, HB3⟩)
    | (go_at_call 64; refine (CL.out _).mono ?_; rintro e w4 ⟨rfl, HC4⟩; have HR4 := Lib.hid (HR3.out.below HC4.out); have HB4 := Lib.hid (HB3.out.trans (HC4.out.mono (Nat.le_of_lt HR3.out.lt))))
    | (go_at_call 56; refine (RI.out _ (HUT.out.below (((HB1.out.trans (below_drewN _ _ _)).trans HB2.out).trans ((below_drewN _ _ _).trans HB4.out))).1).mono ?_; rw [HBN.out]; rintro e w5 ⟨rfl, HC5⟩; have HR5 := Lib.hid (HR4.out.below HC5); have HB5 := Lib.hid (HB4.out.trans (HC5.mono (Nat.le_of_lt HR4.out.lt))); clear HC5; obtain ⟨vN, hvN, hf7, HR6⟩ := HR5.out.hideN)
    | (at_builtin; refine wpList_append_nd rfl (.tmp 132) (.tmp 136) rfl (g + 1) _ l.length l rfl (HR6.out.nodes.alloc _) w5.heap.size 1 ({ tag := s.toList.getD p 0, kids := -1, body := Dr.part s.toList q (q + n) } : Nd) rfl (nd_cells2 HNV.out (At.ofAlloc w5 #[Value.int .u8 (t : Int), Value.int .i64 (-1), Value.string u] 63)) (by have := HIT.out; omega) (by have := HR6.out.lt; simp; omega) ?_; intro v6 w6 hown6 hgrow6; obtain ⟨a6, c6, hv6, -⟩ := own_form hown6; subst hv6; have hAt6 := At.grown ((HR6.out.alloc _).at0) hgrow6 (HR6.out.alloc _).lt (fun e => by have := (HR6.out.nodes.lt g e).1; omega); have hf76 := hAt6.froz 7 (by simp); have hc76 := hAt6.cell 7 _ rfl; have HR7 := Lib.hid (Rd.addNode (l' := l ++ [({ tag := s.toList.getD p 0, kids := -1, body := Dr.part s.toList q (q + n) } : Nd)]) (HR6.out.alloc _) hgrow6 (by rw [List.length_append]; exact hown6)); have HB7 := Lib.hid (HB5.out.trans ((((Below.refl g w5).alloc (Nat.le_of_lt HR6.out.lt) _).grown hgrow6 (by have := HR6.out.lt; simp; omega) (fun k hk => by have := (HR6.out.nodes.lt k hk).1; omega)).setCell (p := ⟨g, 7, none⟩) (Nat.le_refl _) (.slice a6 (l.length + 1) c6))); clear hAt6 hgrow6 hown6)
    | (go_at_call 49; refine (F.out _ _ _).mono ?_; rintro e wf ⟨rfl, rfl⟩))
  refine (ended_any _ g s L p (q + n) _ _ _ _ ro HR7.out (HCH.out.append _) (by have := HPB.out; omega) HSK.out.1.1 HZ.out).mono ?_
  intro e w8 h8
  rw [HRR.out] at h8
  rcases RsEnd.cases h8 ((((HB1.out.trans (below_drewN _ _ _)).trans HB2.out).trans (below_drewN _ _ _)).trans HB7.out) with ⟨rfl, h9⟩ | ⟨ps, rfl, h9⟩
  · have H9 := Lib.hid h9
    clear h8 h9
    go_wp2_with fail
    first | go_end0 | refine bodyPost_ret (results_none rfl _ _ _) rfl ?_
    exact H9.out
  · exact ⟨rfl, h9⟩
theorem element_any (w : World) (g : Nat) (s : ByteArray) (L : Lm) (p : Nat) (l : List Nd) (G : List Fr) (vn vs : Value) (ro : Int) (hyp : ElHyp w g s L p l G vn vs ro) :
    Calls Tryd.prog 44 #[.pointer (some ⟨g, 0, none⟩)] w (RsAll (elT s.toList L G l p) g s L ro w) := by
  by_cases h0 : p < s.size ∧ p < L.bytes
  · obtain ⟨t, ht⟩ : ∃ t, (s.toList.getD p 0).toNat = t := ⟨_, rfl⟩
    by_cases h2 : L.items ≤ l.length
    · exact element_items w g s L p l G vn vs ro hyp h0 t ht h2
    by_cases h3 : tagE (s.toList.getD p 0) ≠ 0
    · exact element_tag w g s L p l G vn vs ro hyp h0 t ht h2 h3
    by_cases h4 : within (s.toList.getD p 0) = true ∧ L.depth ≤ G.length
    · exact element_depth w g s L p l G vn vs ro hyp h0 t ht h2 h3 h4
    have hGG : G = [] ∨ ∃ f G2, G = f :: G2 := by
      cases G with
      | nil => exact Or.inl rfl
      | cons f G => exact Or.inr ⟨f, G, rfl⟩
    by_cases hV : within (s.toList.getD p 0) = true
    · cases h5 : lenR s.toList L (p + 1) with
      | no c q b => exact element_len1 w g s L p l G vn vs ro hyp h0 t ht h2 h3 h4 hV c q b h5
      | ok x =>
        obtain ⟨n, q⟩ := x
        by_cases h6 : (G.head?.any fun f => decide (f.e < q + n)) = true
        · refine element_end1 w g s L p l G vn vs ro hyp h0 t ht h2 h3 h4 hV n q h5 (hGG.resolve_left fun h => by subst h; cases h6) h6
        · rcases hGG with hG | hG
          · exact element_inn w g s L p l G vn vs ro hyp h0 t ht h2 h3 h4 hV n q h5 hG h6
          · exact element_inc w g s L p l G vn vs ro hyp h0 t ht h2 h3 h4 hV n q h5 hG h6
    · cases h5 : lenR s.toList L (p + 1) with
      | no c q b => exact element_len0 w g s L p l G vn vs ro hyp h0 t ht h2 h3 h4 hV c q b h5
      | ok x =>
        obtain ⟨n, q⟩ := x
        by_cases h6 : (G.head?.any fun f => decide (f.e < q + n)) = true
        · refine element_end0 w g s L p l G vn vs ro hyp h0 t ht h2 h3 h4 hV n q h5 (hGG.resolve_left fun h => by subst h; cases h6) h6
        · by_cases h8 : n ≠ 0 ∧ has s.toList L (q + n - 1) = false
          · rcases hGG with hG | hG
            · exact element_skipn w g s L p l G vn vs ro hyp h0 t ht h2 h3 h4 hV n q h5 hG h6 h8
            · exact element_skipc w g s L p l G vn vs ro hyp h0 t ht h2 h3 h4 hV n q h5 hG h6 h8
          · by_cases h9 : bodyOk (s.toList.getD p 0) (Dr.part s.toList q (q + n)) = false
            · rcases hGG with hG | hG
              · exact element_bodyn w g s L p l G vn vs ro hyp h0 t ht h2 h3 h4 hV n q h5 hG h6 h8 h9
              · exact element_bodyc w g s L p l G vn vs ro hyp h0 t ht h2 h3 h4 hV n q h5 hG h6 h8 h9
            · rcases hGG with hG | hG
              · exact element_okn w g s L p l G vn vs ro hyp h0 t ht h2 h3 h4 hV n q h5 hG h6 h8 h9
              · exact element_okc w g s L p l G vn vs ro hyp h0 t ht h2 h3 h4 hV n q h5 hG h6 h8 h9
  · exact element_lack w g s L p l G vn vs ro hyp h0
end Go.Proofs.YteglahkgnggmgaaDoor
