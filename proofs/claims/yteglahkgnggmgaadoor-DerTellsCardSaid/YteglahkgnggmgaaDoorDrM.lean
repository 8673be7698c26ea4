/- An element is read, or begun: the walk. -/
import Derived.Test.YteglahkgnggmgaaDoorDrL
namespace Go.Proofs.YteglahkgnggmgaaDoor
open Go.RowKit
set_option linter.unusedVariables false
set_option linter.unusedSimpArgs false
open Dr
def ElHyp (w : World) (g : Nat) (s : ByteArray) (L : Lm) (p : Nat) (l : List Nd) (G : List Fr) (vn vs : Value) (ro : Int) : Prop :=
  Rd w g s L p l G vn vs ro ∧ Chain l G p ∧ p ≤ s.size ∧ s.size ≤ 140737488351232 ∧ L.items ≤ 4096 ∧ L.depth ≤ 32 ∧ L.bytes ≤ 262144 ∧ UT g w
theorem tag_nat (s : ByteArray) (p t : Nat) (h : (s.toList.getD p 0).toNat = t) : tagE (s.toList.getD p 0) = tagF (t / 64) (t % 32) (t / 32 % 2) ∧ within (s.toList.getD p 0) = decide (t / 32 % 2 = 1) := by
  subst h; exact ⟨rfl, rfl⟩
theorem length_no {w : World} {g : Nat} {s : ByteArray} {L : Lm} {p : Nat} {l : List Nd} {G : List Fr} {vn vs : Value} {ro : Int} (hR : Rd w g s L p l G vn vs ro) (hz : s.size ≤ 140737488351232) (hp : p ≤ s.size) {c : Int} {q : Nat} {b : Bool} (h : lenR s.toList L p = .no c q b) :
    Calls Tryd.prog 63 #[.pointer (some ⟨g, 0, none⟩)] w (No c q g w) := by
  have := length_any w g s L p l G vn vs ro hR hz hp
  rw [h] at this
  exact this
theorem length_yes {w : World} {g : Nat} {s : ByteArray} {L : Lm} {p : Nat} {l : List Nd} {G : List Fr} {vn vs : Value} {ro : Int} (hR : Rd w g s L p l G vn vs ro) (hz : s.size ≤ 140737488351232) (hp : p ≤ s.size) {n q : Nat} (h : lenR s.toList L p = .ok (n, q)) :
    Calls Tryd.prog 63 #[.pointer (some ⟨g, 0, none⟩)] w (At1 (.int .i64 (n : Int)) g s L q l G vn vs ro w) := by
  have := length_any w g s L p l G vn vs ro hR hz hp
  rw [h] at this
  exact this
set_option maxRecDepth 100000 in
set_option maxHeartbeats 3200000 in
theorem element_lack (w : World) (g : Nat) (s : ByteArray) (L : Lm) (p : Nat) (l : List Nd) (G : List Fr) (vn vs : Value) (ro : Int) (hyp : ElHyp w g s L p l G vn vs ro) (h0 : ¬ (p < s.size ∧ p < L.bytes)) :
    Calls Tryd.prog 44 #[.pointer (some ⟨g, 0, none⟩)] w (RsAll (elT s.toList L G l p) g s L ro w) := by
  obtain ⟨hR, hch, hp, hz, hLi, hLd, hLb, hU⟩ := hyp
  have F := Lib.hid (fun c p w => fail_any c p w)
  have HR := Lib.hid hR
  have N := Lib.hid (next_lack hR h0 (by omega))
  rw [elT_lack (has_no s L p h0), lack_eq]
  clear hR hch hp hz hLi hLd hLb hU h0
  go_enter Tryd.func44, Tryd.ntmps44
  go_wp2_with (first
    | (go_at_call 45; refine (place_yes (by first | exact HR2.out | exact HR1.out | exact HR.out)).mono ?_; rintro e wp ⟨rfl, rfl⟩)
    | (go_at_call 48; refine N.out.mono ?_; rintro e w1 ⟨rfl, hb⟩)
    | (go_at_call 49; refine (F.out _ _ _).mono ?_; rintro e wf ⟨rfl, rfl⟩)
    | (go_at_call 54; refine (AS.out _).mono ?_; rintro e wa ⟨rfl, rfl⟩)
    | (go_at_call 55; refine (WI.out _).mono ?_; rintro e wi ⟨rfl, rfl⟩)
    | (go_at_call 63; refine (LE.out _ _ _ _ (HR1.out.drewN _)).mono ?_; rw [HLE.out]; rintro e w2 ⟨rfl, HR2, HB2⟩))
  exact ⟨rfl, rfl, hb⟩
set_option maxRecDepth 100000 in
set_option maxHeartbeats 3200000 in
theorem element_items (w : World) (g : Nat) (s : ByteArray) (L : Lm) (p : Nat) (l : List Nd) (G : List Fr) (vn vs : Value) (ro : Int) (hyp : ElHyp w g s L p l G vn vs ro) (h0 : p < s.size ∧ p < L.bytes) (t : Nat) (ht : (s.toList.getD p 0).toNat = t) (h2 : L.items ≤ l.length) :
    Calls Tryd.prog 44 #[.pointer (some ⟨g, 0, none⟩)] w (RsAll (elT s.toList L G l p) g s L ro w) := by
  obtain ⟨hR, hch, hp, hz, hLi, hLd, hLb, hU⟩ := hyp
  have F := Lib.hid (fun c p w => fail_any c p w)
  have HR := Lib.hid hR
  have N := Lib.hid (next_yes hR h0.1 h0.2 hz t ht)
  have hh := has_yes s L p h0
  have ht2 : t < 256 := by rw [← ht]; exact (s.toList.getD p 0).toNat_lt
  obtain ⟨hte, hwi⟩ := tag_nat s p t ht
  obtain ⟨m, hm⟩ : ∃ m, l.length = m := ⟨_, rfl⟩
  rw [elT_items hh h2]
  obtain ⟨an, cn, rfl, -⟩ := own_form hR.nodes
  rw [hm] at HR h2
  have e1 : (L.items : Int) ≤ (m : Int) := by omega
  clear hch hp hz hLi hLd hLb hU h0 hte hwi hh h2
  go_enter Tryd.func44, Tryd.ntmps44
  go_wp2_with (first
    | (go_at_call 45; refine (place_yes (by first | exact HR2.out | exact HR1.out | exact HR.out)).mono ?_; rintro e wp ⟨rfl, rfl⟩)
    | (go_at_call 48; refine N.out.mono ?_; rintro e w1 ⟨rfl, HR1, HB1⟩)
    | (go_at_call 49; refine (F.out _ _ _).mono ?_; rintro e wf ⟨rfl, rfl⟩)
    | (go_at_call 54; refine (AS.out _).mono ?_; rintro e wa ⟨rfl, rfl⟩)
    | (go_at_call 55; refine (WI.out _).mono ?_; rintro e wi ⟨rfl, rfl⟩)
    | (go_at_call 63; refine (LE.out _ _ _ _ (HR1.out.drewN _)).mono ?_; rw [HLE.out]; rintro e w2 ⟨rfl, HR2, HB2⟩))
  have hc4 := HR1.out.at0.cell 4 _ rfl
  have hc7 := HR1.out.at0.cell 7 _ rfl
  have hc3 := HR1.out.at0.cell 3 _ rfl
  have hc8 := HR1.out.at0.cell 8 _ rfl
  rw [hm] at hc7
  go_quiet (fail)
  go_wp2_with (first
    | (go_at_call 45; refine (place_yes (by first | exact HR2.out | exact HR1.out | exact HR.out)).mono ?_; rintro e wp ⟨rfl, rfl⟩)
    | (go_at_call 48; refine N.out.mono ?_; rintro e w1 ⟨rfl, HR1, HB1⟩)
    | (go_at_call 49; refine (F.out _ _ _).mono ?_; rintro e wf ⟨rfl, rfl⟩)
    | (go_at_call 54; refine (AS.out _).mono ?_; rintro e wa ⟨rfl, rfl⟩)
    | (go_at_call 55; refine (WI.out _).mono ?_; rintro e wi ⟨rfl, rfl⟩)
    | (go_at_call 63; refine (LE.out _ _ _ _ (HR1.out.drewN _)).mono ?_; rw [HLE.out]; rintro e w2 ⟨rfl, HR2, HB2⟩))
  exact ⟨rfl, rfl, HB1.out.trans (below_drewN _ _ _)⟩
set_option maxRecDepth 100000 in
set_option maxHeartbeats 3200000 in
theorem element_tag (w : World) (g : Nat) (s : ByteArray) (L : Lm) (p : Nat) (l : List Nd) (G : List Fr) (vn vs : Value) (ro : Int) (hyp : ElHyp w g s L p l G vn vs ro) (h0 : p < s.size ∧ p < L.bytes) (t : Nat) (ht : (s.toList.getD p 0).toNat = t) (h2 : ¬ L.items ≤ l.length) (h3 : tagE (s.toList.getD p 0) ≠ 0) :
    Calls Tryd.prog 44 #[.pointer (some ⟨g, 0, none⟩)] w (RsAll (elT s.toList L G l p) g s L ro w) := by
  obtain ⟨hR, hch, hp, hz, hLi, hLd, hLb, hU⟩ := hyp
  have F := Lib.hid (fun c p w => fail_any c p w)
  have HR := Lib.hid hR
  have N := Lib.hid (next_yes hR h0.1 h0.2 hz t ht)
  have hh := has_yes s L p h0
  have ht2 : t < 256 := by rw [← ht]; exact (s.toList.getD p 0).toNat_lt
  obtain ⟨hte, hwi⟩ := tag_nat s p t ht
  obtain ⟨m, hm⟩ : ∃ m, l.length = m := ⟨_, rfl⟩
  obtain ⟨gl, hgl⟩ : ∃ gl, G.length = gl := ⟨_, rfl⟩
  have AS := Lib.hid (fun w => ask_any t ht2 w)
  rw [← hte] at AS
  rw [elT_tag hh h2 h3]
  obtain ⟨an, cn, rfl, -⟩ := own_form hR.nodes
  obtain ⟨as_, cs, rfl, -⟩ := own_form hR.stack
  rw [hm, hgl] at HR
  have HM := Lib.hid hm
  have HGL := Lib.hid hgl
  have e1 : ¬ (L.items : Int) ≤ (m : Int) := by omega
  have e1b : decide ((L.items : Int) ≤ (m : Int)) = false := decide_eq_false e1
  obtain ⟨c, hc⟩ : ∃ c, tagE (s.toList.getD p 0) = c := ⟨_, rfl⟩
  rw [hc] at AS h3 ⊢
  have e3 : (c != 0) = true := by rw [bne_iff_ne]; exact h3
  have e4 : ¬ c = 0 := h3
  clear hch hp hz hLi hLd hLb hU h0 hte hwi hh h2 h3 hc
  go_enter Tryd.func44, Tryd.ntmps44
  go_wp2_with (first
    | (go_at_call 45; refine (place_yes (by first | exact HR2.out | exact HR1.out | exact HR.out)).mono ?_; rintro e wp ⟨rfl, rfl⟩)
    | (go_at_call 48; refine N.out.mono ?_; rintro e w1 ⟨rfl, HR1, HB1⟩)
    | (go_at_call 49; refine (F.out _ _ _).mono ?_; rintro e wf ⟨rfl, rfl⟩)
    | (go_at_call 54; refine (AS.out _).mono ?_; rintro e wa ⟨rfl, rfl⟩)
    | (go_at_call 55; refine (WI.out _).mono ?_; rintro e wi ⟨rfl, rfl⟩)
    | (go_at_call 63; refine (LE.out _ _ _ _ (HR1.out.drewN _)).mono ?_; rw [HLE.out]; rintro e w2 ⟨rfl, HR2, HB2⟩))
  have hc4 := HR1.out.at0.cell 4 _ rfl
  have hc7 := HR1.out.at0.cell 7 _ rfl
  have hc3 := HR1.out.at0.cell 3 _ rfl
  have hc8 := HR1.out.at0.cell 8 _ rfl
  rw [hm] at hc7
  rw [hgl] at hc8
  go_quiet (fail)
  go_wp2_with (first
    | (go_at_call 45; refine (place_yes (by first | exact HR2.out | exact HR1.out | exact HR.out)).mono ?_; rintro e wp ⟨rfl, rfl⟩)
    | (go_at_call 48; refine N.out.mono ?_; rintro e w1 ⟨rfl, HR1, HB1⟩)
    | (go_at_call 49; refine (F.out _ _ _).mono ?_; rintro e wf ⟨rfl, rfl⟩)
    | (go_at_call 54; refine (AS.out _).mono ?_; rintro e wa ⟨rfl, rfl⟩)
    | (go_at_call 55; refine (WI.out _).mono ?_; rintro e wi ⟨rfl, rfl⟩)
    | (go_at_call 63; refine (LE.out _ _ _ _ (HR1.out.drewN _)).mono ?_; rw [HLE.out]; rintro e w2 ⟨rfl, HR2, HB2⟩))
  exact ⟨rfl, rfl, HB1.out.trans (below_drewN _ _ _)⟩
set_option maxRecDepth 100000 in
set_option maxHeartbeats 3200000 in
theorem element_depth (w : World) (g : Nat) (s : ByteArray) (L : Lm) (p : Nat) (l : List Nd) (G : List Fr) (vn vs : Value) (ro : Int) (hyp : ElHyp w g s L p l G vn vs ro) (h0 : p < s.size ∧ p < L.bytes) (t : Nat) (ht : (s.toList.getD p 0).toNat = t) (h2 : ¬ L.items ≤ l.length) (h3 : ¬ tagE (s.toList.getD p 0) ≠ 0) (h4 : within (s.toList.getD p 0) = true ∧ L.depth ≤ G.length) :
    Calls Tryd.prog 44 #[.pointer (some ⟨g, 0, none⟩)] w (RsAll (elT s.toList L G l p) g s L ro w) := by
  obtain ⟨hR, hch, hp, hz, hLi, hLd, hLb, hU⟩ := hyp
  have F := Lib.hid (fun c p w => fail_any c p w)
  have HR := Lib.hid hR
  have N := Lib.hid (next_yes hR h0.1 h0.2 hz t ht)
  have hh := has_yes s L p h0
  have ht2 : t < 256 := by rw [← ht]; exact (s.toList.getD p 0).toNat_lt
  obtain ⟨hte, hwi⟩ := tag_nat s p t ht
  obtain ⟨m, hm⟩ : ∃ m, l.length = m := ⟨_, rfl⟩
  obtain ⟨gl, hgl⟩ : ∃ gl, G.length = gl := ⟨_, rfl⟩
  have AS := Lib.hid (fun w => ask_any t ht2 w)
  rw [← hte] at AS
  obtain ⟨an, cn, rfl, -⟩ := own_form hR.nodes
  obtain ⟨as_, cs, rfl, -⟩ := own_form hR.stack
  rw [hm, hgl] at HR
  have HM := Lib.hid hm
  have HGL := Lib.hid hgl
  have e1 : ¬ (L.items : Int) ≤ (m : Int) := by omega
  have e1b : decide ((L.items : Int) ≤ (m : Int)) = false := decide_eq_false e1
  rw [Classical.not_not.1 h3] at AS
  have WI := Lib.hid (fun i hi w => within_any t i ht2 hi w)
  rw [elT_depth hh h2 h3 h4]
  have hw1 : t / 32 % 2 = 1 := by rw [hwi, decide_eq_true_iff] at h4; exact h4.1
  have WI1 : Hid (∀ w, Calls Tryd.prog 55 #[.int .u8 (t : Int)] w (RetVal (.bool true) w)) := fun w => WI.out 1 hw1 w
  have e5 : (L.depth : Int) ≤ (gl : Int) := by omega
  clear hch hp hz hLi hLd hLb hU h0 hte hwi hh h2 h3 h4
  go_enter Tryd.func44, Tryd.ntmps44
  go_wp2_with (first
    | (go_at_call 45; refine (place_yes (by first | exact HR2.out | exact HR1.out | exact HR.out)).mono ?_; rintro e wp ⟨rfl, rfl⟩)
    | (go_at_call 48; refine N.out.mono ?_; rintro e w1 ⟨rfl, HR1, HB1⟩)
    | (go_at_call 49; refine (F.out _ _ _).mono ?_; rintro e wf ⟨rfl, rfl⟩)
    | (go_at_call 54; refine (AS.out _).mono ?_; rintro e wa ⟨rfl, rfl⟩)
    | (go_at_call 55; refine (WI.out _).mono ?_; rintro e wi ⟨rfl, rfl⟩)
    | (go_at_call 63; refine (LE.out _ _ _ _ (HR1.out.drewN _)).mono ?_; rw [HLE.out]; rintro e w2 ⟨rfl, HR2, HB2⟩))
  have hc4 := HR1.out.at0.cell 4 _ rfl
  have hc7 := HR1.out.at0.cell 7 _ rfl
  have hc3 := HR1.out.at0.cell 3 _ rfl
  have hc8 := HR1.out.at0.cell 8 _ rfl
  rw [hm] at hc7
  rw [hgl] at hc8
  go_quiet (fail)
  go_wp2_with (first
    | (go_at_call 45; refine (place_yes (by first | exact HR2.out | exact HR1.out | exact HR.out)).mono ?_; rintro e wp ⟨rfl, rfl⟩)
    | (go_at_call 48; refine N.out.mono ?_; rintro e w1 ⟨rfl, HR1, HB1⟩)
    | (go_at_call 49; refine (F.out _ _ _).mono ?_; rintro e wf ⟨rfl, rfl⟩)
    | (go_at_call 54; refine (AS.out _).mono ?_; rintro e wa ⟨rfl, rfl⟩)
    | (go_at_call 55; refine (WI.out _).mono ?_; rintro e wi ⟨rfl, rfl⟩)
    | (go_at_call 63; refine (LE.out _ _ _ _ (HR1.out.drewN _)).mono ?_; rw [HLE.out]; rintro e w2 ⟨rfl, HR2, HB2⟩))
  go_quiet (first | (go_at_call 55; exact (WI1.out _).mono fun _ _ h => ⟨h.1, _, h.2.symm⟩))
  go_wp2_with (first
    | (go_at_call 45; refine (place_yes (by first | exact HR2.out | exact HR1.out | exact HR.out)).mono ?_; rintro e wp ⟨rfl, rfl⟩)
    | (go_at_call 48; refine N.out.mono ?_; rintro e w1 ⟨rfl, HR1, HB1⟩)
    | (go_at_call 49; refine (F.out _ _ _).mono ?_; rintro e wf ⟨rfl, rfl⟩)
    | (go_at_call 54; refine (AS.out _).mono ?_; rintro e wa ⟨rfl, rfl⟩)
    | (go_at_call 55; refine (WI.out _).mono ?_; rintro e wi ⟨rfl, rfl⟩)
    | (go_at_call 63; refine (LE.out _ _ _ _ (HR1.out.drewN _)).mono ?_; rw [HLE.out]; rintro e w2 ⟨rfl, HR2, HB2⟩))
  exact ⟨rfl, rfl, HB1.out.trans (below_drewN _ _ _)⟩
set_option maxRecDepth 100000 in
set_option maxHeartbeats 3200000 in
theorem element_len0 (w : World) (g : Nat) (s : ByteArray) (L : Lm) (p : Nat) (l : List Nd) (G : List Fr) (vn vs : Value) (ro : Int) (hyp : ElHyp w g s L p l G vn vs ro) (h0 : p < s.size ∧ p < L.bytes) (t : Nat) (ht : (s.toList.getD p 0).toNat = t) (h2 : ¬ L.items ≤ l.length) (h3 : ¬ tagE (s.toList.getD p 0) ≠ 0) (h4 : ¬ (within (s.toList.getD p 0) = true ∧ L.depth ≤ G.length)) (hV : ¬ within (s.toList.getD p 0) = true) (c : Int) (q : Nat) (b : Bool) (h5 : lenR s.toList L (p + 1) = .no c q b) :
    Calls Tryd.prog 44 #[.pointer (some ⟨g, 0, none⟩)] w (RsAll (elT s.toList L G l p) g s L ro w) := by
  obtain ⟨hR, hch, hp, hz, hLi, hLd, hLb, hU⟩ := hyp
  have F := Lib.hid (fun c p w => fail_any c p w)
  have HR := Lib.hid hR
  have N := Lib.hid (next_yes hR h0.1 h0.2 hz t ht)
  have hh := has_yes s L p h0
  have ht2 : t < 256 := by rw [← ht]; exact (s.toList.getD p 0).toNat_lt
  obtain ⟨hte, hwi⟩ := tag_nat s p t ht
  obtain ⟨m, hm⟩ : ∃ m, l.length = m := ⟨_, rfl⟩
  obtain ⟨gl, hgl⟩ : ∃ gl, G.length = gl := ⟨_, rfl⟩
  have AS := Lib.hid (fun w => ask_any t ht2 w)
  rw [← hte] at AS
  have LE := Lib.hid (fun vn vs w' (hR' : Rd w' g s L (p + 1) l G vn vs ro) => length_no hR' hz (show p + 1 ≤ s.size from h0.1) h5)
  obtain ⟨an, cn, rfl, -⟩ := own_form hR.nodes
  obtain ⟨as_, cs, rfl, -⟩ := own_form hR.stack
  rw [hm, hgl] at HR
  have HM := Lib.hid hm
  have HGL := Lib.hid hgl
  have e1 : ¬ (L.items : Int) ≤ (m : Int) := by omega
  have e1b : decide ((L.items : Int) ≤ (m : Int)) = false := decide_eq_false e1
  rw [Classical.not_not.1 h3] at AS
  have WI := Lib.hid (fun i hi w => within_any t i ht2 hi w)
  have hw1 : t / 32 % 2 = 0 := by have h9 : ¬ within (s.toList.getD p 0) = true := hV; rw [hwi, decide_eq_true_iff] at h9; omega
  have WI1 : Hid (∀ w, Calls Tryd.prog 55 #[.int .u8 (t : Int)] w (RetVal (.bool false) w)) := fun w => WI.out 0 hw1 w
  rw [elT_len hh h2 h3 h4 h5]
  clear hch hp hz hLi hLd hLb hU h0 hte hwi hh h2 h3 h4 hV hw1 h5
  go_enter Tryd.func44, Tryd.ntmps44
  go_wp2_with (first
    | (go_at_call 45; refine (place_yes (by first | exact HR2.out | exact HR1.out | exact HR.out)).mono ?_; rintro e wp ⟨rfl, rfl⟩)
    | (go_at_call 48; refine N.out.mono ?_; rintro e w1 ⟨rfl, HR1, HB1⟩)
    | (go_at_call 49; refine (F.out _ _ _).mono ?_; rintro e wf ⟨rfl, rfl⟩)
    | (go_at_call 54; refine (AS.out _).mono ?_; rintro e wa ⟨rfl, rfl⟩)
    | (go_at_call 55; refine (WI.out _).mono ?_; rintro e wi ⟨rfl, rfl⟩)
    | (go_at_call 63; refine (LE.out _ _ _ _ (HR1.out.drewN _)).mono ?_; rw [HLE.out]; rintro e w2 ⟨rfl, HR2, HB2⟩))
  have hc4 := HR1.out.at0.cell 4 _ rfl
  have hc7 := HR1.out.at0.cell 7 _ rfl
  have hc3 := HR1.out.at0.cell 3 _ rfl
  have hc8 := HR1.out.at0.cell 8 _ rfl
  rw [hm] at hc7
  rw [hgl] at hc8
  go_quiet (fail)
  go_wp2_with (first
    | (go_at_call 45; refine (place_yes (by first | exact HR2.out | exact HR1.out | exact HR.out)).mono ?_; rintro e wp ⟨rfl, rfl⟩)
    | (go_at_call 48; refine N.out.mono ?_; rintro e w1 ⟨rfl, HR1, HB1⟩)
    | (go_at_call 49; refine (F.out _ _ _).mono ?_; rintro e wf ⟨rfl, rfl⟩)
    | (go_at_call 54; refine (AS.out _).mono ?_; rintro e wa ⟨rfl, rfl⟩)
    | (go_at_call 55; refine (WI.out _).mono ?_; rintro e wi ⟨rfl, rfl⟩)
    | (go_at_call 63; refine (LE.out _ _ _ _ (HR1.out.drewN _)).mono ?_; rw [HLE.out]; rintro e w2 ⟨rfl, HR2, HB2⟩))
  go_quiet (first | (go_at_call 55; exact (WI1.out _).mono fun _ _ h => ⟨h.1, _, h.2.symm⟩))
  go_wp2_with (first | (go_at_call 63; refine (LE.out _ _ _ (HR1.out.drewN _)).mono ?_; rintro e w2 ⟨rfl, hb⟩))
  exact ⟨rfl, rfl, (HB1.out.trans (below_drewN _ _ _)).trans hb⟩
set_option maxRecDepth 100000 in
set_option maxHeartbeats 3200000 in
theorem element_len1 (w : World) (g : Nat) (s : ByteArray) (L : Lm) (p : Nat) (l : List Nd) (G : List Fr) (vn vs : Value) (ro : Int) (hyp : ElHyp w g s L p l G vn vs ro) (h0 : p < s.size ∧ p < L.bytes) (t : Nat) (ht : (s.toList.getD p 0).toNat = t) (h2 : ¬ L.items ≤ l.length) (h3 : ¬ tagE (s.toList.getD p 0) ≠ 0) (h4 : ¬ (within (s.toList.getD p 0) = true ∧ L.depth ≤ G.length)) (hV : within (s.toList.getD p 0) = true) (c : Int) (q : Nat) (b : Bool) (h5 : lenR s.toList L (p + 1) = .no c q b) :
    Calls Tryd.prog 44 #[.pointer (some ⟨g, 0, none⟩)] w (RsAll (elT s.toList L G l p) g s L ro w) := by
  obtain ⟨hR, hch, hp, hz, hLi, hLd, hLb, hU⟩ := hyp
  have F := Lib.hid (fun c p w => fail_any c p w)
  have HR := Lib.hid hR
  have N := Lib.hid (next_yes hR h0.1 h0.2 hz t ht)
  have hh := has_yes s L p h0
  have ht2 : t < 256 := by rw [← ht]; exact (s.toList.getD p 0).toNat_lt
  obtain ⟨hte, hwi⟩ := tag_nat s p t ht
  obtain ⟨m, hm⟩ : ∃ m, l.length = m := ⟨_, rfl⟩
  obtain ⟨gl, hgl⟩ : ∃ gl, G.length = gl := ⟨_, rfl⟩
  have AS := Lib.hid (fun w => ask_any t ht2 w)
  rw [← hte] at AS
  have LE := Lib.hid (fun vn vs w' (hR' : Rd w' g s L (p + 1) l G vn vs ro) => length_no hR' hz (show p + 1 ≤ s.size from h0.1) h5)
  obtain ⟨an, cn, rfl, -⟩ := own_form hR.nodes
  obtain ⟨as_, cs, rfl, -⟩ := own_form hR.stack
  rw [hm, hgl] at HR
  have HM := Lib.hid hm
  have HGL := Lib.hid hgl
  have e1 : ¬ (L.items : Int) ≤ (m : Int) := by omega
  have e1b : decide ((L.items : Int) ≤ (m : Int)) = false := decide_eq_false e1
  rw [Classical.not_not.1 h3] at AS
  have WI := Lib.hid (fun i hi w => within_any t i ht2 hi w)
  have hw1 : t / 32 % 2 = 1 := by have h9 := hV; rw [hwi, decide_eq_true_iff] at h9; exact h9
  have WI1 : Hid (∀ w, Calls Tryd.prog 55 #[.int .u8 (t : Int)] w (RetVal (.bool true) w)) := fun w => WI.out 1 hw1 w
  have e5 : ¬ (L.depth : Int) ≤ (gl : Int) := by have h9 : ¬ L.depth ≤ gl := fun h => h4 ⟨hV, by rw [hgl]; exact h⟩; omega
  have e5b : decide ((L.depth : Int) ≤ (gl : Int)) = false := decide_eq_false e5
  rw [elT_len hh h2 h3 h4 h5]
  clear hch hp hz hLi hLd hLb hU h0 hte hwi hh h2 h3 h4 hV hw1 h5
  go_enter Tryd.func44, Tryd.ntmps44
  go_wp2_with (first
    | (go_at_call 45; refine (place_yes (by first | exact HR2.out | exact HR1.out | exact HR.out)).mono ?_; rintro e wp ⟨rfl, rfl⟩)
    | (go_at_call 48; refine N.out.mono ?_; rintro e w1 ⟨rfl, HR1, HB1⟩)
    | (go_at_call 49; refine (F.out _ _ _).mono ?_; rintro e wf ⟨rfl, rfl⟩)
    | (go_at_call 54; refine (AS.out _).mono ?_; rintro e wa ⟨rfl, rfl⟩)
    | (go_at_call 55; refine (WI.out _).mono ?_; rintro e wi ⟨rfl, rfl⟩)
    | (go_at_call 63; refine (LE.out _ _ _ _ (HR1.out.drewN _)).mono ?_; rw [HLE.out]; rintro e w2 ⟨rfl, HR2, HB2⟩))
  have hc4 := HR1.out.at0.cell 4 _ rfl
  have hc7 := HR1.out.at0.cell 7 _ rfl
  have hc3 := HR1.out.at0.cell 3 _ rfl
  have hc8 := HR1.out.at0.cell 8 _ rfl
  rw [hm] at hc7
  rw [hgl] at hc8
  go_quiet (fail)
  go_wp2_with (first
    | (go_at_call 45; refine (place_yes (by first | exact HR2.out | exact HR1.out | exact HR.out)).mono ?_; rintro e wp ⟨rfl, rfl⟩)
    | (go_at_call 48; refine N.out.mono ?_; rintro e w1 ⟨rfl, HR1, HB1⟩)
    | (go_at_call 49; refine (F.out _ _ _).mono ?_; rintro e wf ⟨rfl, rfl⟩)
    | (go_at_call 54; refine (AS.out _).mono ?_; rintro e wa ⟨rfl, rfl⟩)
    | (go_at_call 55; refine (WI.out _).mono ?_; rintro e wi ⟨rfl, rfl⟩)
    | (go_at_call 63; refine (LE.out _ _ _ _ (HR1.out.drewN _)).mono ?_; rw [HLE.out]; rintro e w2 ⟨rfl, HR2, HB2⟩))
  go_quiet (first | (go_at_call 55; exact (WI1.out _).mono fun _ _ h => ⟨h.1, _, h.2.symm⟩))
  go_wp2_with (first | (go_at_call 63; refine (LE.out _ _ _ (HR1.out.drewN _)).mono ?_; rintro e w2 ⟨rfl, hb⟩))
  exact ⟨rfl, rfl, (HB1.out.trans (below_drewN _ _ _)).trans hb⟩
set_option maxRecDepth 100000 in
set_option maxHeartbeats 800000 in
theorem element_end0 (w : World) (g : Nat) (s : ByteArray) (L : Lm) (p : Nat) (l : List Nd) (G : List Fr) (vn vs : Value) (ro : Int) (hyp : ElHyp w g s L p l G vn vs ro) (h0 : p < s.size ∧ p < L.bytes) (t : Nat) (ht : (s.toList.getD p 0).toNat = t) (h2 : ¬ L.items ≤ l.length) (h3 : ¬ tagE (s.toList.getD p 0) ≠ 0) (h4 : ¬ (within (s.toList.getD p 0) = true ∧ L.depth ≤ G.length)) (hV : ¬ within (s.toList.getD p 0) = true) (n q : Nat) (h5 : lenR s.toList L (p + 1) = .ok (n, q)) (hG : ∃ f G2, G = f :: G2) (h6 : (G.head?.any fun f => decide (f.e < q + n)) = true) :
    Calls Tryd.prog 44 #[.pointer (some ⟨g, 0, none⟩)] w (RsAll (elT s.toList L G l p) g s L ro w) := by
  obtain ⟨hR, hch, hp, hz, hLi, hLd, hLb, hU⟩ := hyp
  have F := Lib.hid (fun c p w => fail_any c p w)
  have HR := Lib.hid hR
  have N := Lib.hid (next_yes hR h0.1 h0.2 hz t ht)
  have hh := has_yes s L p h0
  have ht2 : t < 256 := by rw [← ht]; exact (s.toList.getD p 0).toNat_lt
  obtain ⟨hte, hwi⟩ := tag_nat s p t ht
  obtain ⟨m, hm⟩ : ∃ m, l.length = m := ⟨_, rfl⟩
  obtain ⟨gl, hgl⟩ : ∃ gl, G.length = gl := ⟨_, rfl⟩
  have AS := Lib.hid (fun w => ask_any t ht2 w)
  rw [← hte] at AS
  have LE := Lib.hid (fun vn vs w' (hR' : Rd w' g s L (p + 1) l G vn vs ro) => length_yes hR' hz (show p + 1 ≤ s.size from h0.1) h5)
  have hw1 : t / 32 % 2 = 0 := by have h9 : ¬ within (s.toList.getD p 0) = true := hV; rw [hwi, decide_eq_true_iff] at h9; omega
  have WI1 : Hid (∀ w, Calls Tryd.prog 55 #[.int .u8 (t : Int)] w (RetVal (.bool false) w)) := fun w => (fun i hi w => within_any t i ht2 hi w) 0 hw1 w
  rw [elT_end hh h2 h3 h4 h5 h6]
  obtain ⟨f, G, rfl⟩ := hG
  obtain ⟨an, cn, rfl, -⟩ := own_form hR.nodes
  obtain ⟨k, cap, rfl, hgk, -⟩ := hR.top
  obtain ⟨gn, hgn⟩ : ∃ gn, G.length = gn := ⟨_, rfl⟩
  obtain rfl : gl = gn + 1 := by rw [← hgl, List.length_cons, hgn]
  have e4 : IntKind.i64.wrap (gn : Int) = (gn : Int) := wrap_fit gn (by have := own_fit hR.stack; rw [List.length_cons, hgn] at this; omega)
  have e4b : (gn : Int) < (gn : Int) + 1 := by omega
  rw [hm] at HR
  have HM := Lib.hid hm
  have HGL := Lib.hid hgl
  have HGN := Lib.hid hgn
  have e1 : ¬ (L.items : Int) ≤ (m : Int) := by omega
  have e1b : decide ((L.items : Int) ≤ (m : Int)) = false := decide_eq_false e1
  rw [Classical.not_not.1 h3] at AS
  have WI := Lib.hid (fun i hi w => within_any t i ht2 hi w)
  have hpl := lenR_pl h5
  rw [tl_size] at hpl
  have e6 : (q : Int) ≤ 140737488351232 := by omega
  have e7 : (n : Int) ≤ 140737488351232 := by omega
  have e8 : (f.e : Int) < (q : Int) + (n : Int) := by simp only [List.head?_cons, Option.any_some, decide_eq_true_iff] at h6; omega
  clear hch hp hz hLi hLd hLb hU h0 hte hwi hh h2 h3 h4 hV hw1 h5 h6 hm hgl ht ht2 hpl hR
  go_enter Tryd.func44, Tryd.ntmps44
  go_wp2_with (first
    | (go_at_call 45; refine (place_yes (by first | exact HR2.out | exact HR1.out | exact HR.out)).mono ?_; rintro e wp ⟨rfl, rfl⟩)
    | (go_at_call 48; refine N.out.mono ?_; rintro e w1 ⟨rfl, HR1, HB1⟩)
    | (go_at_call 49; refine (F.out _ _ _).mono ?_; rintro e wf ⟨rfl, rfl⟩)
    | (go_at_call 54; refine (AS.out _).mono ?_; rintro e wa ⟨rfl, rfl⟩)
    | (go_at_call 55; refine (WI.out _).mono ?_; rintro e wi ⟨rfl, rfl⟩)
    | (go_at_call 63; refine (LE.out _ _ _ _ (HR1.out.drewN _)).mono ?_; rw [HLE.out]; rintro e w2 ⟨rfl, HR2, HB2⟩))
  have hc4 := HR1.out.at0.cell 4 _ rfl
  have hc7 := HR1.out.at0.cell 7 _ rfl
  have hc3 := HR1.out.at0.cell 3 _ rfl
  have hc8 := HR1.out.at0.cell 8 _ rfl
  rw [HM.out] at hc7
  rw [HGN.out] at hc8
  go_quiet (fail)
  go_wp2_with (first
    | (go_at_call 45; refine (place_yes (by first | exact HR2.out | exact HR1.out | exact HR.out)).mono ?_; rintro e wp ⟨rfl, rfl⟩)
    | (go_at_call 48; refine N.out.mono ?_; rintro e w1 ⟨rfl, HR1, HB1⟩)
    | (go_at_call 49; refine (F.out _ _ _).mono ?_; rintro e wf ⟨rfl, rfl⟩)
    | (go_at_call 54; refine (AS.out _).mono ?_; rintro e wa ⟨rfl, rfl⟩)
    | (go_at_call 55; refine (WI.out _).mono ?_; rintro e wi ⟨rfl, rfl⟩)
    | (go_at_call 63; refine (LE.out _ _ _ _ (HR1.out.drewN _)).mono ?_; rw [HLE.out]; rintro e w2 ⟨rfl, HR2, HB2⟩))
  go_quiet (first | (go_at_call 55; exact (WI1.out _).mono fun _ _ h => ⟨h.1, _, h.2.symm⟩))
  clear hc4 hc7 hc3 hc8
  go_wp2_with (first
    | (go_at_call 63; refine (LE.out _ _ _ (HR1.out.drewN _)).mono ?_; rintro e w2 ⟨rfl, HR2, HB2⟩)
    | (go_at_call 45; refine (place_yes HR2.out).mono ?_; rintro e wp ⟨rfl, rfl⟩))
  have hc7 := HR2.out.at0.cell 7 _ rfl
  have hc8 := HR2.out.at0.cell 8 _ rfl
  rw [HM.out] at hc7
  rw [HGN.out] at hc8
  obtain ⟨k2, cap2, hv2, -, hAt2⟩ := HR2.out.top
  obtain ⟨rfl, rfl⟩ : k2 = k ∧ cap2 = cap := by cases hv2; exact ⟨rfl, rfl⟩
  rw [HGN.out] at hAt2
  have ht2 := hAt2.cell 2 _ rfl
  clear hAt2 hv2
  go_quiet (fail)
  go_wp2_with (first
    | (go_at_call 45; refine (place_yes (by first | exact HR2.out | exact HR1.out | exact HR.out)).mono ?_; rintro e wp ⟨rfl, rfl⟩)
    | (go_at_call 48; refine N.out.mono ?_; rintro e w1 ⟨rfl, HR1, HB1⟩)
    | (go_at_call 49; refine (F.out _ _ _).mono ?_; rintro e wf ⟨rfl, rfl⟩)
    | (go_at_call 54; refine (AS.out _).mono ?_; rintro e wa ⟨rfl, rfl⟩)
    | (go_at_call 55; refine (WI.out _).mono ?_; rintro e wi ⟨rfl, rfl⟩)
    | (go_at_call 63; refine (LE.out _ _ _ _ (HR1.out.drewN _)).mono ?_; rw [HLE.out]; rintro e w2 ⟨rfl, HR2, HB2⟩))
  exact ⟨rfl, rfl, ((HB1.out.trans (below_drewN _ _ _)).trans HB2.out).trans (below_drewN _ _ _)⟩
set_option maxRecDepth 100000 in
set_option maxHeartbeats 800000 in
theorem element_end1 (w : World) (g : Nat) (s : ByteArray) (L : Lm) (p : Nat) (l : List Nd) (G : List Fr) (vn vs : Value) (ro : Int) (hyp : ElHyp w g s L p l G vn vs ro) (h0 : p < s.size ∧ p < L.bytes) (t : Nat) (ht : (s.toList.getD p 0).toNat = t) (h2 : ¬ L.items ≤ l.length) (h3 : ¬ tagE (s.toList.getD p 0) ≠ 0) (h4 : ¬ (within (s.toList.getD p 0) = true ∧ L.depth ≤ G.length)) (hV : within (s.toList.getD p 0) = true) (n q : Nat) (h5 : lenR s.toList L (p + 1) = .ok (n, q)) (hG : ∃ f G2, G = f :: G2) (h6 : (G.head?.any fun f => decide (f.e < q + n)) = true) :
    Calls Tryd.prog 44 #[.pointer (some ⟨g, 0, none⟩)] w (RsAll (elT s.toList L G l p) g s L ro w) := by
  obtain ⟨hR, hch, hp, hz, hLi, hLd, hLb, hU⟩ := hyp
  have F := Lib.hid (fun c p w => fail_any c p w)
  have HR := Lib.hid hR
  have N := Lib.hid (next_yes hR h0.1 h0.2 hz t ht)
  have hh := has_yes s L p h0
  have ht2 : t < 256 := by rw [← ht]; exact (s.toList.getD p 0).toNat_lt
  obtain ⟨hte, hwi⟩ := tag_nat s p t ht
  obtain ⟨m, hm⟩ : ∃ m, l.length = m := ⟨_, rfl⟩
  obtain ⟨gl, hgl⟩ : ∃ gl, G.length = gl := ⟨_, rfl⟩
  have AS := Lib.hid (fun w => ask_any t ht2 w)
  rw [← hte] at AS
  have LE := Lib.hid (fun vn vs w' (hR' : Rd w' g s L (p + 1) l G vn vs ro) => length_yes hR' hz (show p + 1 ≤ s.size from h0.1) h5)
  have hw1 : t / 32 % 2 = 1 := by have h9 := hV; rw [hwi, decide_eq_true_iff] at h9; exact h9
  have WI1 : Hid (∀ w, Calls Tryd.prog 55 #[.int .u8 (t : Int)] w (RetVal (.bool true) w)) := fun w => (fun i hi w => within_any t i ht2 hi w) 1 hw1 w
  have e5 : ¬ (L.depth : Int) ≤ (gl : Int) := by have h9 : ¬ L.depth ≤ gl := fun h => h4 ⟨hV, by rw [hgl]; exact h⟩; omega
  have e5b : decide ((L.depth : Int) ≤ (gl : Int)) = false := decide_eq_false e5
  rw [elT_end hh h2 h3 h4 h5 h6]
  obtain ⟨f, G, rfl⟩ := hG
  obtain ⟨an, cn, rfl, -⟩ := own_form hR.nodes
  obtain ⟨k, cap, rfl, hgk, -⟩ := hR.top
  obtain ⟨gn, hgn⟩ : ∃ gn, G.length = gn := ⟨_, rfl⟩
  obtain rfl : gl = gn + 1 := by rw [← hgl, List.length_cons, hgn]
  have e4 : IntKind.i64.wrap (gn : Int) = (gn : Int) := wrap_fit gn (by have := own_fit hR.stack; rw [List.length_cons, hgn] at this; omega)
  have e4b : (gn : Int) < (gn : Int) + 1 := by omega
  rw [hm] at HR
  have HM := Lib.hid hm
  have HGL := Lib.hid hgl
  have HGN := Lib.hid hgn
  have e5c : ¬ (L.depth : Int) ≤ (gn : Int) + 1 := by omega
  have e5d : decide ((L.depth : Int) ≤ (gn : Int) + 1) = false := decide_eq_false e5c
  clear e5 e5b
  have e1 : ¬ (L.items : Int) ≤ (m : Int) := by omega
  have e1b : decide ((L.items : Int) ≤ (m : Int)) = false := decide_eq_false e1
  rw [Classical.not_not.1 h3] at AS
  have WI := Lib.hid (fun i hi w => within_any t i ht2 hi w)
  have hpl := lenR_pl h5
  rw [tl_size] at hpl
  have e6 : (q : Int) ≤ 140737488351232 := by omega
  have e7 : (n : Int) ≤ 140737488351232 := by omega
  have e8 : (f.e : Int) < (q : Int) + (n : Int) := by simp only [List.head?_cons, Option.any_some, decide_eq_true_iff] at h6; omega
  clear hch hp hz hLi hLd hLb hU h0 hte hwi hh h2 h3 h4 hV hw1 h5 h6 hm hgl ht ht2 hpl hR
  go_enter Tryd.func44, Tryd.ntmps44
  go_wp2_with (first
    | (go_at_call 45; refine (place_yes (by first | exact HR2.out | exact HR1.out | exact HR.out)).mono ?_; rintro e wp ⟨rfl, rfl⟩)
    | (go_at_call 48; refine N.out.mono ?_; rintro e w1 ⟨rfl, HR1, HB1⟩)
    | (go_at_call 49; refine (F.out _ _ _).mono ?_; rintro e wf ⟨rfl, rfl⟩)
    | (go_at_call 54; refine (AS.out _).mono ?_; rintro e wa ⟨rfl, rfl⟩)
    | (go_at_call 55; refine (WI.out _).mono ?_; rintro e wi ⟨rfl, rfl⟩)
    | (go_at_call 63; refine (LE.out _ _ _ _ (HR1.out.drewN _)).mono ?_; rw [HLE.out]; rintro e w2 ⟨rfl, HR2, HB2⟩))
  have hc4 := HR1.out.at0.cell 4 _ rfl
  have hc7 := HR1.out.at0.cell 7 _ rfl
  have hc3 := HR1.out.at0.cell 3 _ rfl
  have hc8 := HR1.out.at0.cell 8 _ rfl
  rw [HM.out] at hc7
  rw [HGN.out] at hc8
  go_quiet (fail)
  go_wp2_with (first
    | (go_at_call 45; refine (place_yes (by first | exact HR2.out | exact HR1.out | exact HR.out)).mono ?_; rintro e wp ⟨rfl, rfl⟩)
    | (go_at_call 48; refine N.out.mono ?_; rintro e w1 ⟨rfl, HR1, HB1⟩)
    | (go_at_call 49; refine (F.out _ _ _).mono ?_; rintro e wf ⟨rfl, rfl⟩)
    | (go_at_call 54; refine (AS.out _).mono ?_; rintro e wa ⟨rfl, rfl⟩)
    | (go_at_call 55; refine (WI.out _).mono ?_; rintro e wi ⟨rfl, rfl⟩)
    | (go_at_call 63; refine (LE.out _ _ _ _ (HR1.out.drewN _)).mono ?_; rw [HLE.out]; rintro e w2 ⟨rfl, HR2, HB2⟩))
  go_quiet (first | (go_at_call 55; exact (WI1.out _).mono fun _ _ h => ⟨h.1, _, h.2.symm⟩))
  clear hc4 hc7 hc3 hc8
  go_wp2_with (first
    | (go_at_call 63; refine (LE.out _ _ _ (HR1.out.drewN _)).mono ?_; rintro e w2 ⟨rfl, HR2, HB2⟩)
    | (go_at_call 45; refine (place_yes HR2.out).mono ?_; rintro e wp ⟨rfl, rfl⟩))
  have hc7 := HR2.out.at0.cell 7 _ rfl
  have hc8 := HR2.out.at0.cell 8 _ rfl
  rw [HM.out] at hc7
  rw [HGN.out] at hc8
  obtain ⟨k2, cap2, hv2, -, hAt2⟩ := HR2.out.top
  obtain ⟨rfl, rfl⟩ : k2 = k ∧ cap2 = cap := by cases hv2; exact ⟨rfl, rfl⟩
  rw [HGN.out] at hAt2
  have ht2 := hAt2.cell 2 _ rfl
  clear hAt2 hv2
  go_quiet (fail)
  go_wp2_with (first
    | (go_at_call 45; refine (place_yes (by first | exact HR2.out | exact HR1.out | exact HR.out)).mono ?_; rintro e wp ⟨rfl, rfl⟩)
    | (go_at_call 48; refine N.out.mono ?_; rintro e w1 ⟨rfl, HR1, HB1⟩)
    | (go_at_call 49; refine (F.out _ _ _).mono ?_; rintro e wf ⟨rfl, rfl⟩)
    | (go_at_call 54; refine (AS.out _).mono ?_; rintro e wa ⟨rfl, rfl⟩)
    | (go_at_call 55; refine (WI.out _).mono ?_; rintro e wi ⟨rfl, rfl⟩)
    | (go_at_call 63; refine (LE.out _ _ _ _ (HR1.out.drewN _)).mono ?_; rw [HLE.out]; rintro e w2 ⟨rfl, HR2, HB2⟩))
  exact ⟨rfl, rfl, ((HB1.out.trans (below_drewN _ _ _)).trans HB2.out).trans (below_drewN _ _ _)⟩
end Go.Proofs.YteglahkgnggmgaaDoor
