/- The document's reader: an element that is read. -/
import Derived.Test.YteglahkgnggmgaaDoorDvE
import Derived.BigRegion
namespace Go.Proofs.YteglahkgnggmgaaDoor
open Go.RowKit
set_option linter.unusedVariables false
set_option linter.unusedSimpArgs false
open Dr
set_option maxRecDepth 100000 in
set_option maxHeartbeats 1600000 in
theorem delem_okn (w : World) (g : Nat) (s : ByteArray) (L : Lm) (ro : Int) (O : List Nd) (fr : Nat) (G : List Fr) (l : List Nd) (p : Nat) (z : Int) (hR : Rok w g s L ro O fr) (hl : l.length = O.length) (hz : s.size ≤ 140737488351232) (hp : p ≤ s.size) (hG : EndOf G z) (hGl : G.length ≤ 1000000) (h0 : p < s.size ∧ p < L.bytes) (h2 : ¬ L.items ≤ l.length) (h3 : ¬ tagE (s.toList.getD p 0) ≠ 0) (h4 : ¬ (within (s.toList.getD p 0) = true ∧ L.depth ≤ G.length)) (hV : ¬ within (s.toList.getD p 0) = true) {n q : Nat} (h5 : lenR s.toList L (p + 1) = .ok (n, q)) (h6 : ¬ (G.head?.any fun f => decide (f.e < q + n)) = true) (hgn : G = []) (h8 : ¬ (n ≠ 0 ∧ has s.toList L (q + n - 1) = false)) (h9 : ¬ bodyOk (s.toList.getD p 0) (Dr.part s.toList q (q + n)) = false) (hLi : L.items ≤ 4096) :
    Calls Tryd.prog 50 #[.pointer (some ⟨g, 0, none⟩), .int .i64 (p : Int), .int .i64 (G.length : Int), .int .i64 z] w (DElem s L ro g O fr G l p w) := by
  have W := Lib.hid (dwant_yes hR (p : Int) p rfl h0.1 h0.2 hz)
  have hh := has_yes s L p h0
  obtain ⟨m, hm⟩ : ∃ m, O.length = m := ⟨_, rfl⟩
  have HM := Lib.hid hm
  have hlm : l.length = m := hl.trans hm
  obtain ⟨t, ht⟩ : ∃ t, (s.toList.getD p 0).toNat = t := ⟨_, rfl⟩
  have ht2 : t < 256 := by rw [← ht]; exact (s.toList.getD p 0).toNat_lt
  have hlt : p < s.size := h0.1
  have hsp : (s[p]'hlt).toNat = t := by rw [← tl_getD s p hlt]; exact ht
  obtain ⟨hte, hwi⟩ := tag_nat s p t ht
  have TG := Lib.hid (fun w => rtag_any t ht2 w)
  rw [← hte] at TG
  rw [Classical.not_not.1 h3] at TG
  have e1 : ¬ (L.items : Int) ≤ (m : Int) := by omega
  have e1b : decide ((L.items : Int) ≤ (m : Int)) = false := decide_eq_false e1
  obtain ⟨x, hx⟩ : ∃ x, t / 32 = x := ⟨_, rfl⟩
  have e3 : (t : Int) / 32 = (x : Int) := by omega
  have e6 : IntKind.u8.wrap (x : Int) = (x : Int) := by simp [IntKind.wrap, IntKind.bits, IntKind.signed]; omega
  have e10 : (p : Int) ≤ 140737488351232 := by omega
  obtain ⟨d, hd⟩ : ∃ d, G.length = d := ⟨_, rfl⟩
  rw [hd]
  have HE := Lib.hid (elS_ok (G := G) hh h2 h3 h4 h5 h6 hV h8 h9)
  have LE := Lib.hid (fun w' (h' : Rok w' g s L ro O fr) => dlength_any h' ((p : Int) + 1) (p + 1) (by omega) hz (show p + 1 ≤ s.size from h0.1))
  rw [h5] at LE
  have hpl := lenR_pl h5
  rw [tl_size] at hpl
  obtain ⟨v, hv⟩ : ∃ v, q + n = v := ⟨_, rfl⟩
  have e7 : (q : Int) + (n : Int) = (v : Int) := by omega
  have e8 : IntKind.i64.wrap (v : Int) = (v : Int) := wrap_fit v (by unfold maxLen; omega)
  have hn9 : n < 4294967296 := hpl.2.2
  have AL := Lib.hid (fun w' (h' : Rok w' g s L ro O fr) => dall_any h' q n hz (by omega) (by omega) _ rfl)
  rw [show decide (¬ (n ≠ 0 ∧ has s.toList L (q + n - 1) = false)) = true from decide_eq_true h8] at AL
  have hv2 : v ≤ s.size := by
    by_cases hn : n = 0
    · omega
    · have h10 : has s.toList L (q + n - 1) = true := by
        cases h11 : has s.toList L (q + n - 1) with
        | true => rfl
        | false => exact absurd ⟨hn, h11⟩ h8
      have h12 : q + n - 1 < s.toList.length ∧ q + n - 1 < L.bytes := of_decide_eq_true h10
      rw [tl_size] at h12
      omega
  have e11 : (q : Int) ≤ (v : Int) := by omega
  have e12 : (v : Int) ≤ (s.size : Int) := by omega
  have hqv : q ≤ v := by omega
  obtain ⟨u, hu⟩ : ∃ u, s.extract q v = u := ⟨_, rfl⟩
  have hul : u.toList = Dr.part s.toList q (q + n) := by rw [← hu, tl_extract, hv]; rfl
  have hus : u.size ≤ 140737488351232 := by rw [← tl_size, hul, Dr.part, List.length_take, List.length_drop, tl_size]; omega
  have BO := Lib.hid (fun w' => rbody_any t ht2 u hus w')
  have hbo : bodyOk (s.toList.getD p 0) (Dr.part s.toList q (q + n)) = bodyN t u.toList := by rw [bodyOk, ht, hul]
  have h9' : bodyOk (s.toList.getD p 0) (Dr.part s.toList q (q + n)) = true := by cases h13 : bodyOk (s.toList.getD p 0) (Dr.part s.toList q (q + n)) with | true => rfl | false => exact absurd h13 h9
  rw [← hbo, h9'] at BO
  have HNV : Hid (nv ({ tag := s.toList.getD p 0, kids := -1, body := Dr.part s.toList q (q + n) } : Nd) = (#[Value.int .u8 (t : Int), Value.int .i64 (-1), Value.string u]).toList) := by
    show nv _ = _
    simp only [nv, ht, ← hul]
    rw [Lib.toList_data]
  have HFIN := Lib.hid (And.intro hpl (And.intro hv hv2))
  have HEB := Lib.hid (show ∀ f', G.head? = some f' → v ≤ f'.e from fun f' hf => by rw [← hv]; exact head_le h6 f' hf)
  have HMI : Hid (m ≤ 4096) := by show m ≤ 4096; omega
  obtain rfl := hgn
  obtain rfl : z = -1 := by rcases hG with ⟨_, h⟩ | ⟨f, G', h, _⟩; exact h; cases h
  have hy : x % 2 = 0 := by rw [hwi, decide_eq_true_iff] at hV; omega
  have e4 : (x : Int) % 2 = 0 := by omega
  clear hR hl hz hp hG hGl h0 h2 hm hlm hh ht ht2 hte hwi h3 hx hy hV h4 hd h5 h6 hpl hv h8 hn9 h9 h9' hv2 hqv hul hus hbo hLi
  go_enter Tryd.func50, Tryd.ntmps50
  go_wp2_with (first
    | (go_at_call 51; refine W.out.mono ?_; rintro e w1 ⟨rfl, HQ1, HB1⟩; obtain ⟨a1, c1, tk1, HR1⟩ := HQ1.out.opn; have g0 := HQ1.out.txt)
    | (go_at_call 37; refine (TG.out _).mono ?_; rintro e wt ⟨rfl, rfl⟩)
    | (go_at_call 52; refine (dfault_ok (by first | exact HQ4.out.drewN _ | exact HQ4.out | exact HQ3.out | exact HQ2.out.drewN _ | exact HQ2.out | exact HQ1.out.drewN _ | exact HQ1.out) _ _ p rfl).mono ?_; rintro e wf ⟨rfl, HRF, HBF⟩)
    | (go_at_call 68; refine (LE.out _ (HQ1.out.drewN _)).mono ?_; rintro e w2 ⟨rfl, HQ2, HB2⟩)
    | (go_at_call 69; refine (AL.out _ HQ2.out).mono ?_; rintro e w3 ⟨rfl, HQ3, HB3⟩; have g3 := HQ3.out.txt)
    | (go_at_call 38; refine (BO.out _).mono ?_; rintro e w4 ⟨rfl, hb4⟩; have HQ4 := Lib.hid (HQ3.out.below hb4); have HB4 : Hid (Below g w3 w4) := hb4.mono (Nat.le_of_lt HQ3.out.lt); clear hb4)
    | (go_at_call 70; refine (IN.out _ HQ2.out).mono ?_; intro e w3 hin))
  have k5 := HR1.out.at0.cell 5 _ rfl
  have k2 := HR1.out.at0.cell 2 _ rfl
  have k1 := HR1.out.at0.cell 1 _ rfl
  rw [HM.out] at k5
  go_quiet (fail)
  go_wp2_with (first
    | (go_at_call 51; refine W.out.mono ?_; rintro e w1 ⟨rfl, HQ1, HB1⟩; obtain ⟨a1, c1, tk1, HR1⟩ := HQ1.out.opn; have g0 := HQ1.out.txt)
    | (go_at_call 37; refine (TG.out _).mono ?_; rintro e wt ⟨rfl, rfl⟩)
    | (go_at_call 52; refine (dfault_ok (by first | exact HQ4.out.drewN _ | exact HQ4.out | exact HQ3.out | exact HQ2.out.drewN _ | exact HQ2.out | exact HQ1.out.drewN _ | exact HQ1.out) _ _ p rfl).mono ?_; rintro e wf ⟨rfl, HRF, HBF⟩)
    | (go_at_call 68; refine (LE.out _ (HQ1.out.drewN _)).mono ?_; rintro e w2 ⟨rfl, HQ2, HB2⟩)
    | (go_at_call 69; refine (AL.out _ HQ2.out).mono ?_; rintro e w3 ⟨rfl, HQ3, HB3⟩; have g3 := HQ3.out.txt)
    | (go_at_call 38; refine (BO.out _).mono ?_; rintro e w4 ⟨rfl, hb4⟩; have HQ4 := Lib.hid (HQ3.out.below hb4); have HB4 : Hid (Below g w3 w4) := hb4.mono (Nat.le_of_lt HQ3.out.lt); clear hb4)
    | (go_at_call 70; refine (IN.out _ HQ2.out).mono ?_; intro e w3 hin))
  obtain ⟨a4, c4, tk4, HR4⟩ := HQ4.out.opn
  rw [HM.out] at HR4
  have k0 := HR4.out.at0.cell 0 _ rfl
  have k5 := HR4.out.at0.cell 5 _ rfl
  rw [Nat.zero_add] at k0
  have k0A : ∀ (ob : Obj), (w4.alloc ob).cell? ⟨g, 0, none⟩ = some (.string s) := fun ob => by have h := (HR4.out.at0.alloc ob).cell 0 _ rfl; rw [Nat.zero_add] at h; exact h
  have k5A : ∀ (ob : Obj), (w4.alloc ob).cell? ⟨g, 5, none⟩ = some (.slice a4 m c4) := fun ob => (HR4.out.at0.alloc ob).cell 5 _ rfl
  go_region_law (first
    | (refine step_append_nd rfl (.tmp 113) (.tmp 125) rfl (g + 1) (.slice a4 m c4) m O ?_ (by have h := (HR4.out.alloc (Obj.cells #[Value.int .u8 (t : Int), Value.int .i64 (-1), Value.string u] 63)).drew.out; rw [HM.out] at h; exact h) w4.heap.size 1 ({ tag := s.toList.getD p 0, kids := -1, body := Dr.part s.toList q (q + n) } : Nd) ?_ (nd_cells2 HNV.out (At.ofAlloc w4 #[Value.int .u8 (t : Int), Value.int .i64 (-1), Value.string u] 63)) (by have := HMI.out; omega) (by have := HR4.out.lt; simp; omega) ?_; (focus simp [Act.eval, Act.put]); (focus simp [Act.eval, Act.put]); intro v6 w6 hown6 hgrow6; obtain ⟨a6, c6, rfl, -⟩ := own_form hown6; have HX := Lib.hid ((HR4.out.alloc (Obj.cells #[Value.int .u8 (t : Int), Value.int .i64 (-1), Value.string u] 63)).drew); have hAt6 := At.grown HX.out.at0 hgrow6 HX.out.lt (fun e => by have := (HX.out.out.lt g e).1; omega); have hf6 := hAt6.froz 5 (Nat.le_of_ble_eq_true rfl); have hc6 := hAt6.cell 5 _ rfl; have HR6 := Lib.hid (Rf.add (O' := O ++ [({ tag := s.toList.getD p 0, kids := -1, body := Dr.part s.toList q (q + n) } : Nd)]) HX.out hgrow6 (by rw [List.length_append, HM.out]; exact hown6)); have HB6 : Hid (Below g w4 (w6.setCell ⟨g, 5, none⟩ (.slice a6 (m + 1) c6))) := ((((Below.refl g w4).alloc (Nat.le_of_lt HR4.out.lt) _).drew.grown hgrow6 (Nat.le_of_lt HX.out.lt) (fun k hk => by have := (HX.out.out.lt k hk).1; omega)).setCell (p := ⟨g, 5, none⟩) (Nat.le_refl _) (.slice a6 (m + 1) c6)); clear hAt6 hgrow6 hown6))
  all_goals
    go_wp2_with fail
    go_ret2
    refine .inl ⟨[({ tag := s.toList.getD p 0, kids := -1, body := Dr.part s.toList q (q + n) } : Nd)], v, ⟨rfl, ⟨_, _, HR6.out⟩, ((((HB1.out.trans (below_drewN _ _ _)).trans HB2.out).trans HB3.out).trans HB4.out).trans HB6.out⟩, by have := HFIN.out.1; have := HFIN.out.2; omega, HFIN.out.2.2, HEB.out, fun r hr => Runs.el HE.out ?_⟩
    rw [← HFIN.out.2.1] at hr
    exact hr
set_option maxRecDepth 100000 in
set_option maxHeartbeats 1600000 in
theorem delem_okc (w : World) (g : Nat) (s : ByteArray) (L : Lm) (ro : Int) (O : List Nd) (fr : Nat) (G : List Fr) (l : List Nd) (p : Nat) (z : Int) (hR : Rok w g s L ro O fr) (hl : l.length = O.length) (hz : s.size ≤ 140737488351232) (hp : p ≤ s.size) (hG : EndOf G z) (hGl : G.length ≤ 1000000) (h0 : p < s.size ∧ p < L.bytes) (h2 : ¬ L.items ≤ l.length) (h3 : ¬ tagE (s.toList.getD p 0) ≠ 0) (h4 : ¬ (within (s.toList.getD p 0) = true ∧ L.depth ≤ G.length)) (hV : ¬ within (s.toList.getD p 0) = true) {n q : Nat} (h5 : lenR s.toList L (p + 1) = .ok (n, q)) (h6 : ¬ (G.head?.any fun f => decide (f.e < q + n)) = true) (hgn : ∃ f G2, G = f :: G2) (h8 : ¬ (n ≠ 0 ∧ has s.toList L (q + n - 1) = false)) (h9 : ¬ bodyOk (s.toList.getD p 0) (Dr.part s.toList q (q + n)) = false) (hLi : L.items ≤ 4096) :
    Calls Tryd.prog 50 #[.pointer (some ⟨g, 0, none⟩), .int .i64 (p : Int), .int .i64 (G.length : Int), .int .i64 z] w (DElem s L ro g O fr G l p w) := by
  have W := Lib.hid (dwant_yes hR (p : Int) p rfl h0.1 h0.2 hz)
  have hh := has_yes s L p h0
  obtain ⟨m, hm⟩ : ∃ m, O.length = m := ⟨_, rfl⟩
  have HM := Lib.hid hm
  have hlm : l.length = m := hl.trans hm
  obtain ⟨t, ht⟩ : ∃ t, (s.toList.getD p 0).toNat = t := ⟨_, rfl⟩
  have ht2 : t < 256 := by rw [← ht]; exact (s.toList.getD p 0).toNat_lt
  have hlt : p < s.size := h0.1
  have hsp : (s[p]'hlt).toNat = t := by rw [← tl_getD s p hlt]; exact ht
  obtain ⟨hte, hwi⟩ := tag_nat s p t ht
  have TG := Lib.hid (fun w => rtag_any t ht2 w)
  rw [← hte] at TG
  rw [Classical.not_not.1 h3] at TG
  have e1 : ¬ (L.items : Int) ≤ (m : Int) := by omega
  have e1b : decide ((L.items : Int) ≤ (m : Int)) = false := decide_eq_false e1
  obtain ⟨x, hx⟩ : ∃ x, t / 32 = x := ⟨_, rfl⟩
  have e3 : (t : Int) / 32 = (x : Int) := by omega
  have e6 : IntKind.u8.wrap (x : Int) = (x : Int) := by simp [IntKind.wrap, IntKind.bits, IntKind.signed]; omega
  have e10 : (p : Int) ≤ 140737488351232 := by omega
  obtain ⟨d, hd⟩ : ∃ d, G.length = d := ⟨_, rfl⟩
  rw [hd]
  have HE := Lib.hid (elS_ok (G := G) hh h2 h3 h4 h5 h6 hV h8 h9)
  have LE := Lib.hid (fun w' (h' : Rok w' g s L ro O fr) => dlength_any h' ((p : Int) + 1) (p + 1) (by omega) hz (show p + 1 ≤ s.size from h0.1))
  rw [h5] at LE
  have hpl := lenR_pl h5
  rw [tl_size] at hpl
  obtain ⟨v, hv⟩ : ∃ v, q + n = v := ⟨_, rfl⟩
  have e7 : (q : Int) + (n : Int) = (v : Int) := by omega
  have e8 : IntKind.i64.wrap (v : Int) = (v : Int) := wrap_fit v (by unfold maxLen; omega)
  have hn9 : n < 4294967296 := hpl.2.2
  have AL := Lib.hid (fun w' (h' : Rok w' g s L ro O fr) => dall_any h' q n hz (by omega) (by omega) _ rfl)
  rw [show decide (¬ (n ≠ 0 ∧ has s.toList L (q + n - 1) = false)) = true from decide_eq_true h8] at AL
  have hv2 : v ≤ s.size := by
    by_cases hn : n = 0
    · omega
    · have h10 : has s.toList L (q + n - 1) = true := by
        cases h11 : has s.toList L (q + n - 1) with
        | true => rfl
        | false => exact absurd ⟨hn, h11⟩ h8
      have h12 : q + n - 1 < s.toList.length ∧ q + n - 1 < L.bytes := of_decide_eq_true h10
      rw [tl_size] at h12
      omega
  have e11 : (q : Int) ≤ (v : Int) := by omega
  have e12 : (v : Int) ≤ (s.size : Int) := by omega
  have hqv : q ≤ v := by omega
  obtain ⟨u, hu⟩ : ∃ u, s.extract q v = u := ⟨_, rfl⟩
  have hul : u.toList = Dr.part s.toList q (q + n) := by rw [← hu, tl_extract, hv]; rfl
  have hus : u.size ≤ 140737488351232 := by rw [← tl_size, hul, Dr.part, List.length_take, List.length_drop, tl_size]; omega
  have BO := Lib.hid (fun w' => rbody_any t ht2 u hus w')
  have hbo : bodyOk (s.toList.getD p 0) (Dr.part s.toList q (q + n)) = bodyN t u.toList := by rw [bodyOk, ht, hul]
  have h9' : bodyOk (s.toList.getD p 0) (Dr.part s.toList q (q + n)) = true := by cases h13 : bodyOk (s.toList.getD p 0) (Dr.part s.toList q (q + n)) with | true => rfl | false => exact absurd h13 h9
  rw [← hbo, h9'] at BO
  have HNV : Hid (nv ({ tag := s.toList.getD p 0, kids := -1, body := Dr.part s.toList q (q + n) } : Nd) = (#[Value.int .u8 (t : Int), Value.int .i64 (-1), Value.string u]).toList) := by
    show nv _ = _
    simp only [nv, ht, ← hul]
    rw [Lib.toList_data]
  have HFIN := Lib.hid (And.intro hpl (And.intro hv hv2))
  have HEB := Lib.hid (show ∀ f', G.head? = some f' → v ≤ f'.e from fun f' hf => by rw [← hv]; exact head_le h6 f' hf)
  have HMI : Hid (m ≤ 4096) := by show m ≤ 4096; omega
  obtain ⟨f, G2, rfl⟩ := hgn
  obtain rfl : z = (f.e : Int) := by
    rcases hG with ⟨h, _⟩ | ⟨f', G', h, h7⟩
    · cases h
    · cases h; exact h7
  have hfe : ¬ f.e < q + n := by simpa using h6
  have e9 : ¬ (f.e : Int) < (v : Int) := by omega
  have e9c : decide ((f.e : Int) < (v : Int)) = false := decide_eq_false e9
  have e9b : (0 : Int) ≤ (f.e : Int) := by omega
  have hy : x % 2 = 0 := by rw [hwi, decide_eq_true_iff] at hV; omega
  have e4 : (x : Int) % 2 = 0 := by omega
  clear hR hl hz hp hG hGl h0 h2 hm hlm hh ht ht2 hte hwi h3 hx hy hV h4 hd h5 h6 hpl hv h8 hn9 h9 h9' hv2 hqv hul hus hbo hLi hfe
  go_enter Tryd.func50, Tryd.ntmps50
  go_wp2_with (first
    | (go_at_call 51; refine W.out.mono ?_; rintro e w1 ⟨rfl, HQ1, HB1⟩; obtain ⟨a1, c1, tk1, HR1⟩ := HQ1.out.opn; have g0 := HQ1.out.txt)
    | (go_at_call 37; refine (TG.out _).mono ?_; rintro e wt ⟨rfl, rfl⟩)
    | (go_at_call 52; refine (dfault_ok (by first | exact HQ4.out.drewN _ | exact HQ4.out | exact HQ3.out | exact HQ2.out.drewN _ | exact HQ2.out | exact HQ1.out.drewN _ | exact HQ1.out) _ _ p rfl).mono ?_; rintro e wf ⟨rfl, HRF, HBF⟩)
    | (go_at_call 68; refine (LE.out _ (HQ1.out.drewN _)).mono ?_; rintro e w2 ⟨rfl, HQ2, HB2⟩)
    | (go_at_call 69; refine (AL.out _ HQ2.out).mono ?_; rintro e w3 ⟨rfl, HQ3, HB3⟩; have g3 := HQ3.out.txt)
    | (go_at_call 38; refine (BO.out _).mono ?_; rintro e w4 ⟨rfl, hb4⟩; have HQ4 := Lib.hid (HQ3.out.below hb4); have HB4 : Hid (Below g w3 w4) := hb4.mono (Nat.le_of_lt HQ3.out.lt); clear hb4)
    | (go_at_call 70; refine (IN.out _ HQ2.out).mono ?_; intro e w3 hin))
  have k5 := HR1.out.at0.cell 5 _ rfl
  have k2 := HR1.out.at0.cell 2 _ rfl
  have k1 := HR1.out.at0.cell 1 _ rfl
  rw [HM.out] at k5
  go_quiet (fail)
  go_wp2_with (first
    | (go_at_call 51; refine W.out.mono ?_; rintro e w1 ⟨rfl, HQ1, HB1⟩; obtain ⟨a1, c1, tk1, HR1⟩ := HQ1.out.opn; have g0 := HQ1.out.txt)
    | (go_at_call 37; refine (TG.out _).mono ?_; rintro e wt ⟨rfl, rfl⟩)
    | (go_at_call 52; refine (dfault_ok (by first | exact HQ4.out.drewN _ | exact HQ4.out | exact HQ3.out | exact HQ2.out.drewN _ | exact HQ2.out | exact HQ1.out.drewN _ | exact HQ1.out) _ _ p rfl).mono ?_; rintro e wf ⟨rfl, HRF, HBF⟩)
    | (go_at_call 68; refine (LE.out _ (HQ1.out.drewN _)).mono ?_; rintro e w2 ⟨rfl, HQ2, HB2⟩)
    | (go_at_call 69; refine (AL.out _ HQ2.out).mono ?_; rintro e w3 ⟨rfl, HQ3, HB3⟩; have g3 := HQ3.out.txt)
    | (go_at_call 38; refine (BO.out _).mono ?_; rintro e w4 ⟨rfl, hb4⟩; have HQ4 := Lib.hid (HQ3.out.below hb4); have HB4 : Hid (Below g w3 w4) := hb4.mono (Nat.le_of_lt HQ3.out.lt); clear hb4)
    | (go_at_call 70; refine (IN.out _ HQ2.out).mono ?_; intro e w3 hin))
  obtain ⟨a4, c4, tk4, HR4⟩ := HQ4.out.opn
  rw [HM.out] at HR4
  have k0 := HR4.out.at0.cell 0 _ rfl
  have k5 := HR4.out.at0.cell 5 _ rfl
  rw [Nat.zero_add] at k0
  have k0A : ∀ (ob : Obj), (w4.alloc ob).cell? ⟨g, 0, none⟩ = some (.string s) := fun ob => by have h := (HR4.out.at0.alloc ob).cell 0 _ rfl; rw [Nat.zero_add] at h; exact h
  have k5A : ∀ (ob : Obj), (w4.alloc ob).cell? ⟨g, 5, none⟩ = some (.slice a4 m c4) := fun ob => (HR4.out.at0.alloc ob).cell 5 _ rfl
  go_region_law (first
    | (refine step_append_nd rfl (.tmp 113) (.tmp 125) rfl (g + 1) (.slice a4 m c4) m O ?_ (by have h := (HR4.out.alloc (Obj.cells #[Value.int .u8 (t : Int), Value.int .i64 (-1), Value.string u] 63)).drew.out; rw [HM.out] at h; exact h) w4.heap.size 1 ({ tag := s.toList.getD p 0, kids := -1, body := Dr.part s.toList q (q + n) } : Nd) ?_ (nd_cells2 HNV.out (At.ofAlloc w4 #[Value.int .u8 (t : Int), Value.int .i64 (-1), Value.string u] 63)) (by have := HMI.out; omega) (by have := HR4.out.lt; simp; omega) ?_; (focus simp [Act.eval, Act.put]); (focus simp [Act.eval, Act.put]); intro v6 w6 hown6 hgrow6; obtain ⟨a6, c6, rfl, -⟩ := own_form hown6; have HX := Lib.hid ((HR4.out.alloc (Obj.cells #[Value.int .u8 (t : Int), Value.int .i64 (-1), Value.string u] 63)).drew); have hAt6 := At.grown HX.out.at0 hgrow6 HX.out.lt (fun e => by have := (HX.out.out.lt g e).1; omega); have hf6 := hAt6.froz 5 (Nat.le_of_ble_eq_true rfl); have hc6 := hAt6.cell 5 _ rfl; have HR6 := Lib.hid (Rf.add (O' := O ++ [({ tag := s.toList.getD p 0, kids := -1, body := Dr.part s.toList q (q + n) } : Nd)]) HX.out hgrow6 (by rw [List.length_append, HM.out]; exact hown6)); have HB6 : Hid (Below g w4 (w6.setCell ⟨g, 5, none⟩ (.slice a6 (m + 1) c6))) := ((((Below.refl g w4).alloc (Nat.le_of_lt HR4.out.lt) _).drew.grown hgrow6 (Nat.le_of_lt HX.out.lt) (fun k hk => by have := (HX.out.out.lt k hk).1; omega)).setCell (p := ⟨g, 5, none⟩) (Nat.le_refl _) (.slice a6 (m + 1) c6)); clear hAt6 hgrow6 hown6))
  all_goals
    go_wp2_with fail
    go_ret2
    refine .inl ⟨[({ tag := s.toList.getD p 0, kids := -1, body := Dr.part s.toList q (q + n) } : Nd)], v, ⟨rfl, ⟨_, _, HR6.out⟩, ((((HB1.out.trans (below_drewN _ _ _)).trans HB2.out).trans HB3.out).trans HB4.out).trans HB6.out⟩, by have := HFIN.out.1; have := HFIN.out.2; omega, HFIN.out.2.2, HEB.out, fun r hr => Runs.el HE.out ?_⟩
    rw [← HFIN.out.2.1] at hr
    exact hr
end Go.Proofs.YteglahkgnggmgaaDoor
