/- An item is read, or begun: faults; items that hold no others. -/
import Derived.Test.YtikgonlhdkknkaaDoorCpD
namespace Go.Proofs.YtikgonlhdkknkaaDoor
open Go.RowKit
set_option linter.unusedVariables false
set_option linter.unusedSimpArgs false
namespace Co
open Dr (Rs Lm has lack at0S)
/-- one item, and the end of one that holds no others -/
def elT (S : List UInt8) (L : Lm) (G : List Fr) (l : List Am) (p : Nat) : Rs St :=
  match elS S L Lib.validD G l p with
  | .ok (.pend G l a q) => pendS S Op.bytesLess G l a q
  | .ok s => .ok s
  | .no e q b => .no e q b
def RsAll (r : Rs St) (g : Nat) (s : ByteArray) (L : Lm) (ro : Int) (w : World) (e : Ending) (w' : World) : Prop :=
  match r with
  | .ok (.loop G l p) => e = .returned (.tuple #[]) ∧ (∃ vn vs, Hid (Rd w' g s L p l G vn vs ro)) ∧ Hid (Below g w w')
  | .no c q _ => No c q g w e w'
  | _ => False
/-- the tables of the library's that tell UTF-8 -/
def U8 (w : World) : Prop := Lib.Utf8Tabs (SlaysValid_ren.g 3) (SlaysValid_ren.g 4) w
theorem cvalid_any (s : ByteArray) (w : World) (hs : s.size ≤ 140737488351232) (hU : U8 w) : Calls Tryd.prog 57 #[.string s] w (fun e w' => e = .returned (.bool (Lib.validD s.toList)) ∧ Below w.heap.size w w') := by
  rw [Lib.toList_data]
  exact Any.utf8_ValidString SlaysValid s w (by omega) hU
def UT (g : Nat) (w : World) : Prop := U8 w ∧ SlaysValid_ren.g 3 < g ∧ SlaysValid_ren.g 4 < g
theorem UT.below {g : Nat} {w w' : World} (h : UT g w) (hb : Below g w w') : UT g w' :=
  ⟨⟨fun c hc => (hb.cell (p := ⟨SlaysValid_ren.g 3, c, none⟩) h.2.1).trans (h.1.1 c hc), fun i hi => ⟨(hb.cell (p := ⟨SlaysValid_ren.g 4, _, none⟩) h.2.2).trans (h.1.2 i hi).1, (hb.cell (p := ⟨SlaysValid_ren.g 4, _, none⟩) h.2.2).trans (h.1.2 i hi).2⟩⟩, h.2⟩
theorem UT.mono {g g' : Nat} {w : World} (h : UT g w) (hg : g ≤ g') : UT g' w := ⟨h.1, Nat.lt_of_lt_of_le h.2.1 hg, Nat.lt_of_lt_of_le h.2.2 hg⟩
theorem UT.at {w w' : World} (h : UT w.heap.size w) (hb : Below w.heap.size w w') : UT w'.heap.size w' := (h.below hb).mono hb.size
set_option maxRecDepth 100000 in
set_option maxHeartbeats 1600000 in
theorem cclone_any (s : ByteArray) (w : World) (h : s.size ≤ 281474976710656) : Calls Tryd.prog 47 #[.string s] w (fun e w' => e = .returned (.string s) ∧ Hid (Below w.heap.size w w')) := by
  have C := Lib.hid (fun w => Sstringslite_Clone s w h)
  clear h
  go_enter Tryd.func47, Tryd.ntmps47
  go_wp2_with (go_at_call 66; refine (C.out _).mono ?_; rintro e w1 ⟨rfl, hb⟩)
  go_ret
  exact ⟨rfl, hb⟩
/-- frames that stand open at a place -/
def Gd (G : List Fr) (p : Nat) : Prop := ∀ f ∈ G, 0 < f.left ∧ f.left < 18446744073709551616 ∧ f.p0 ≤ p
theorem Gd.head {G : List Fr} {p : Nat} (h : Gd G p) : ∀ f, G.head? = some f → 0 < f.left ∧ f.left < 18446744073709551616 := fun f hf => by
  have h1 := h f (List.mem_of_mem_head? hf)
  exact ⟨h1.1, h1.2.1⟩
def ElHyp (w : World) (g : Nat) (s : ByteArray) (L : Lm) (p : Nat) (l : List Am) (G : List Fr) (vn vs : Value) (ro : Int) : Prop :=
  Rd w g s L p l G vn vs ro ∧ Gd G p ∧ p ≤ s.size ∧ s.size ≤ 140737488351232 ∧ L.items ≤ 4096 ∧ L.depth ≤ 32 ∧ L.bytes ≤ 262144 ∧ UT g w
section
variable {S : List UInt8} {L : Lm} {G : List Fr} {l : List Am} {p : Nat}
theorem elT_lack (h : has S L p = false) : elT S L G l p = lack S L := by rw [elT, elS, if_pos h]; rfl
theorem elT_items (h : has S L p = true) (h2 : L.items ≤ l.length) : elT S L G l p = .no 10 p false := by rw [elT, elS, if_neg (by rw [h]; decide), if_pos h2]
theorem elT_bad (h : has S L p = true) (h2 : ¬ L.items ≤ l.length) (h3 : headE (S.getD p 0) ≠ 0) : elT S L G l p = .no (headE (S.getD p 0)) p false := by rw [elT, elS, if_neg (by rw [h]; decide), if_neg h2, if_pos h3]
theorem elT_arg (h : has S L p = true) (h2 : ¬ L.items ≤ l.length) (h3 : headE (S.getD p 0) = 0) {e : Int} {q : Nat} {b : Bool} (h4 : argR S L p = .no e q b) : elT S L G l p = .no e q b := by rw [elT, elS, if_neg (by rw [h]; decide), if_neg h2, if_neg (by rw [h3]; decide), h4]
section
variable (h : has S L p = true) (h2 : ¬ L.items ≤ l.length) (h3 : headE (S.getD p 0) = 0) {n : Nat} (h4 : argR S L p = .ok n) {k q : Nat} (hk : kindT (S.getD p 0) = k) (hq : p + 1 + widT (S.getD p 0) = q)
include h h2 h3 h4 hk hq
theorem elT_short (h5 : k = 2 ∨ k = 3) (h6 : n ≠ 0 ∧ has S L (q + n - 1) = false) : elT S L G l p = lack S L := by
  subst hk hq
  rw [elT, elS, if_neg (by rw [h]; decide), if_neg h2, if_neg (by rw [h3]; decide), h4]
  dsimp only
  rw [if_pos h5, if_pos h6]
  rfl
theorem elT_utf (h5 : k = 3) (h6 : ¬ (n ≠ 0 ∧ has S L (q + n - 1) = false)) (h7 : Lib.validD (Dr.part S q (q + n)) = false) : elT S L G l p = .no 9 p false := by
  subst hq
  rw [elT, elS, if_neg (by rw [h]; decide), if_neg h2, if_neg (by rw [h3]; decide), h4]
  dsimp only
  rw [hk, if_pos (.inr h5), if_neg h6, if_pos ⟨h5, h7⟩]
theorem elT_text (h5 : k = 2 ∨ k = 3) (h6 : ¬ (n ≠ 0 ∧ has S L (q + n - 1) = false)) (h7 : ¬ (k = 3 ∧ Lib.validD (Dr.part S q (q + n)) = false)) : elT S L G l p = pendS S Op.bytesLess G (l ++ [⟨k, 0, Dr.part S q (q + n)⟩]) p (q + n) := by
  subst hq
  rw [elT, elS, if_neg (by rw [h]; decide), if_neg h2, if_neg (by rw [h3]; decide), h4]
  dsimp only
  rw [hk, if_pos h5, if_neg h6, if_neg h7]
theorem elT_deep (h5 : holds k = true) (h6 : L.depth ≤ G.length) : elT S L G l p = .no 10 p false := by
  have h9 := hq
  clear h9
  rw [elT, elS, if_neg (by rw [h]; decide), if_neg h2, if_neg (by rw [h3]; decide), h4]
  dsimp only
  rw [hk, if_neg (holds_not h5), if_pos h5, if_pos h6]
theorem elT_hold (h5 : holds k = true) (h6 : ¬ L.depth ≤ G.length) : elT S L G l p = .ok (.loop (fr0 ⟨k, n, []⟩ p :: G) (l ++ [⟨k, n, []⟩]) q) := by
  subst hq
  rw [elT, elS, if_neg (by rw [h]; decide), if_neg h2, if_neg (by rw [h3]; decide), h4]
  dsimp only
  rw [hk, if_neg (holds_not h5), if_pos h5, if_neg h6]
  rfl
theorem elT_plain (h5 : ¬ (k = 2 ∨ k = 3)) (h6 : holds k = false) : elT S L G l p = pendS S Op.bytesLess G (l ++ [⟨k, n, []⟩]) p q := by
  subst hq
  rw [elT, elS, if_neg (by rw [h]; decide), if_neg h2, if_neg (by rw [h3]; decide), h4]
  dsimp only
  rw [hk, if_neg h5, if_neg (by rw [h6]; decide)]
end
end
theorem RsEnd.cases {r : Rs St} {g : Nat} {s : ByteArray} {L : Lm} {vn vs : Value} {ro : Int} {w0 w : World} {e : Ending} {w' : World} (h : RsEnd r g s L vn vs ro w e w') (hb : Below g w0 w) :
    (e = .returned (.tuple #[]) ∧ RsAll r g s L ro w0 e w') ∨ ∃ ps, e = .panicked ps ∧ RsAll r g s L ro w0 (.panicked ps) w' :=
  match r, h with
  | .ok (.loop G l p), h => Or.inl ⟨h.1, h.1, ⟨_, _, h.2.1⟩, hb.trans h.2.2.out⟩
  | .no c q b, h => Or.inr ⟨_, h.1, rfl, hb.trans h.2⟩
theorem Rd.hideA {w : World} {g : Nat} {s : ByteArray} {L : Lm} {p : Nat} {l : List Am} {G : List Fr} {vn vs : Value} {ro : Int} {T : Nat} (h : Rd w g s L p l G vn vs ro) (hne : vn.ownBlock = some T → False) : ∃ vN, w.cell? ⟨g, 7, none⟩ = some vN ∧ w.frozen? ⟨g, 7, none⟩ = false ∧ Hid (Rd w g s L p l G vN vs ro) ∧ Hid (vN.ownBlock = some T → False) :=
  ⟨vn, h.at0.cell 7 _ rfl, h.at0.froz 7 (by simp), h, hne⟩
set_option maxRecDepth 100000 in
set_option maxHeartbeats 1600000 in
theorem item_lack (w : World) (g : Nat) (s : ByteArray) (L : Lm) (p : Nat) (l : List Am) (G : List Fr) (vn vs : Value) (ro : Int) (hyp : ElHyp w g s L p l G vn vs ro) (h0 : ¬ (p < s.size ∧ p < L.bytes)) :
    Calls Tryd.prog 49 #[.pointer (some ⟨g, 0, none⟩)] w (RsAll (elT s.toList L G l p) g s L ro w) := by
  obtain ⟨hR, hG, hp, hz, hLi, hLd, hLb, hU⟩ := hyp
  have F := Lib.hid (fun c p w => fail_any c p w)
  have HR := Lib.hid hR
  have N := Lib.hid (next_lack hR h0 (by omega))
  rw [elT_lack (has_no s L p h0), lack_eq]
  clear hR hG hp hz hLi hLd hLb hU h0
  go_enter Tryd.func49, Tryd.ntmps49
  go_wp2_with (first
    | (go_at_call 56; refine (place_yes (by first | exact HR2.out | exact HR1.out | exact HR.out)).mono ?_; rintro e wp ⟨rfl, rfl⟩)
    | (go_at_call 54; refine N.out.mono ?_; rintro e w1 ⟨rfl, hb⟩))
  exact ⟨rfl, rfl, hb⟩
set_option maxRecDepth 100000 in
set_option maxHeartbeats 1600000 in
theorem item_items (w : World) (g : Nat) (s : ByteArray) (L : Lm) (p : Nat) (l : List Am) (G : List Fr) (vn vs : Value) (ro : Int) (hyp : ElHyp w g s L p l G vn vs ro) (h0 : p < s.size ∧ p < L.bytes) (t : Nat) (ht : (s.toList.getD p 0).toNat = t) (h2 : L.items ≤ l.length) :
    Calls Tryd.prog 49 #[.pointer (some ⟨g, 0, none⟩)] w (RsAll (elT s.toList L G l p) g s L ro w) := by
  obtain ⟨hR, hG, hp, hz, hLi, hLd, hLb, hU⟩ := hyp
  have F := Lib.hid (fun c p w => fail_any c p w)
  have HR := Lib.hid hR
  have N := Lib.hid (next_yes hR h0.1 h0.2 hz t ht)
  have hh := has_yes s L p h0
  obtain ⟨m, hm⟩ : ∃ m, l.length = m := ⟨_, rfl⟩
  rw [elT_items hh h2]
  obtain ⟨an, cn, rfl, -⟩ := own_form hR.nodes
  rw [hm] at HR h2
  have e1 : (L.items : Int) ≤ (m : Int) := by omega
  clear hG hp hz hLi hLd hLb hU h0 hh h2 ht
  go_enter Tryd.func49, Tryd.ntmps49
  go_wp2_with (first
    | (go_at_call 56; refine (place_yes (by first | exact HR2.out | exact HR1.out | exact HR.out)).mono ?_; rintro e wp ⟨rfl, rfl⟩)
    | (go_at_call 54; refine N.out.mono ?_; rintro e w1 ⟨rfl, HR1, HB1⟩))
  have hc4 := HR1.out.at0.cell 4 _ rfl
  have hc7 := HR1.out.at0.cell 7 _ rfl
  rw [hm] at hc7
  go_quiet (fail)
  go_wp2_with (first
    | (go_at_call 55; refine (F.out _ _ _).mono ?_; rintro e wf ⟨rfl, rfl⟩))
  exact ⟨rfl, rfl, HB1.out.trans (below_drewN _ _ _)⟩
set_option maxRecDepth 100000 in
set_option maxHeartbeats 1600000 in
theorem item_bad (w : World) (g : Nat) (s : ByteArray) (L : Lm) (p : Nat) (l : List Am) (G : List Fr) (vn vs : Value) (ro : Int) (hyp : ElHyp w g s L p l G vn vs ro) (h0 : p < s.size ∧ p < L.bytes) (t : Nat) (ht : (s.toList.getD p 0).toNat = t) (h2 : ¬ L.items ≤ l.length) (h3 : headE (s.toList.getD p 0) ≠ 0) :
    Calls Tryd.prog 49 #[.pointer (some ⟨g, 0, none⟩)] w (RsAll (elT s.toList L G l p) g s L ro w) := by
  obtain ⟨hR, hG, hp, hz, hLi, hLd, hLb, hU⟩ := hyp
  have F := Lib.hid (fun c p w => fail_any c p w)
  have HR := Lib.hid hR
  have N := Lib.hid (next_yes hR h0.1 h0.2 hz t ht)
  have hh := has_yes s L p h0
  obtain ⟨m, hm⟩ : ∃ m, l.length = m := ⟨_, rfl⟩
  rw [elT_bad hh h2 h3]
  obtain ⟨an, cn, rfl, -⟩ := own_form hR.nodes
  obtain ⟨as_, cs, rfl, -⟩ := own_form hR.stack
  obtain ⟨gl, hgl⟩ : ∃ gl, G.length = gl := ⟨_, rfl⟩
  rw [hm, hgl] at HR
  have HM := Lib.hid hm
  have HGL := Lib.hid hgl
  have e1 : ¬ (L.items : Int) ≤ (m : Int) := by omega
  have e1b : decide ((L.items : Int) ≤ (m : Int)) = false := decide_eq_false e1
  obtain ⟨c, hc⟩ : ∃ c, headE (s.toList.getD p 0) = c := ⟨_, rfl⟩
  rw [hc] at h3 ⊢
  have AR := Lib.hid (fun w' vn vs (hR' : Rd w' g s L (p + 1) l G vn vs ro) => argument_bad w' g s L p l G vn vs ro hR' t ht c hc h3 (by omega))
  clear hR hG hp hz hLi hLd hLb hU h0 hh h2 h3 hc ht hm hgl
  go_enter Tryd.func49, Tryd.ntmps49
  go_wp2_with (first
    | (go_at_call 56; refine (place_yes (by first | exact HR2.out | exact HR1.out | exact HR.out)).mono ?_; rintro e wp ⟨rfl, rfl⟩)
    | (go_at_call 54; refine N.out.mono ?_; rintro e w1 ⟨rfl, HR1, HB1⟩))
  have hc4 := HR1.out.at0.cell 4 _ rfl
  have hc7 := HR1.out.at0.cell 7 _ rfl
  rw [HM.out] at hc7
  go_quiet (fail)
  clear hc4 hc7
  go_wp2_with (first
    | (go_at_call 67; refine (AR.out _ _ _ (by first | exact HR1.out.drewN _ | (rw [HM.out, HGL.out]; exact HR1.out.drewN _))).mono ?_; rintro e w2 ⟨rfl, hb⟩))
  exact ⟨rfl, rfl, (HB1.out.trans (below_drewN _ _ _)).trans hb⟩
set_option maxRecDepth 100000 in
set_option maxHeartbeats 1600000 in
theorem item_arg (w : World) (g : Nat) (s : ByteArray) (L : Lm) (p : Nat) (l : List Am) (G : List Fr) (vn vs : Value) (ro : Int) (hyp : ElHyp w g s L p l G vn vs ro) (h0 : p < s.size ∧ p < L.bytes) (t : Nat) (ht : (s.toList.getD p 0).toNat = t) (h2 : ¬ L.items ≤ l.length) (h3 : headE (s.toList.getD p 0) = 0) (c : Int) (q : Nat) (b : Bool) (hA : argR s.toList L p = .no c q b) :
    Calls Tryd.prog 49 #[.pointer (some ⟨g, 0, none⟩)] w (RsAll (elT s.toList L G l p) g s L ro w) := by
  obtain ⟨hR, hG, hp, hz, hLi, hLd, hLb, hU⟩ := hyp
  have F := Lib.hid (fun c p w => fail_any c p w)
  have HR := Lib.hid hR
  have N := Lib.hid (next_yes hR h0.1 h0.2 hz t ht)
  have hh := has_yes s L p h0
  obtain ⟨m, hm⟩ : ∃ m, l.length = m := ⟨_, rfl⟩
  rw [elT_arg hh h2 h3 hA]
  obtain ⟨an, cn, rfl, -⟩ := own_form hR.nodes
  obtain ⟨as_, cs, rfl, -⟩ := own_form hR.stack
  obtain ⟨gl, hgl⟩ : ∃ gl, G.length = gl := ⟨_, rfl⟩
  rw [hm, hgl] at HR
  have HM := Lib.hid hm
  have HGL := Lib.hid hgl
  have e1 : ¬ (L.items : Int) ≤ (m : Int) := by omega
  have e1b : decide ((L.items : Int) ≤ (m : Int)) = false := decide_eq_false e1
  have AR := Lib.hid (fun w' vn vs (hR' : Rd w' g s L (p + 1) l G vn vs ro) => argument_any w' g s L p l G vn vs ro hR' t ht h3 (by omega) hz)
  rw [hA] at AR
  clear hR hG hp hz hLi hLd hLb hU h0 hh h2 h3 hA ht hm hgl
  go_enter Tryd.func49, Tryd.ntmps49
  go_wp2_with (first
    | (go_at_call 56; refine (place_yes (by first | exact HR2.out | exact HR1.out | exact HR.out)).mono ?_; rintro e wp ⟨rfl, rfl⟩)
    | (go_at_call 54; refine N.out.mono ?_; rintro e w1 ⟨rfl, HR1, HB1⟩))
  have hc4 := HR1.out.at0.cell 4 _ rfl
  have hc7 := HR1.out.at0.cell 7 _ rfl
  rw [HM.out] at hc7
  go_quiet (fail)
  clear hc4 hc7
  go_wp2_with (first
    | (go_at_call 67; refine (AR.out _ _ _ (by first | exact HR1.out.drewN _ | (rw [HM.out, HGL.out]; exact HR1.out.drewN _))).mono ?_; rintro e w2 ⟨rfl, hb⟩))
  exact ⟨rfl, rfl, (HB1.out.trans (below_drewN _ _ _)).trans hb⟩
end Co
end Go.Proofs.YtikgonlhdkknkaaDoor
