import Derived.Test.YtikgonlhdkknkaaGreatDoorCuL
import Derived.Test.YtikgonlhdkknkaaGreatDoorCqT
import Derived.Test.YtikgonlhdkknkaaGreatDoorCpG
set_option maxRecDepth 100000
set_option maxHeartbeats 1600000
set_option linter.unusedVariables false
set_option linter.unusedSimpArgs false
open Go.Lib (hid)
namespace Go.Proofs.YtikgonlhdkknkaaGreatDoor
open Go.RowKit
namespace Co
open Dr (Rs Lm has lack at0S lackE lackP)
theorem hdR_ok {S : List UInt8} {L : Lm} {m p n : Nat} (h : hdR S L m p = .ok n) : has S L p = true ∧ ¬ L.items ≤ m ∧ headE (S.getD p 0) = 0 ∧ argR S L p = .ok n := by
 rw [hdR] at h
 cases h1 : has S L p with
 | false => rw [if_pos h1, lack] at h; cases h
 | true =>
  rw [if_neg (by rw [h1]; decide)] at h
  by_cases h2 : L.items ≤ m
  ·rw [if_pos h2] at h; cases h
  ·rw [if_neg h2] at h
   by_cases h3 : headE (S.getD p 0) = 0
   ·rw [if_neg (fun h' => h' h3)] at h
    exact ⟨rfl, h2, h3, h⟩
   ·rw [if_pos h3] at h; cases h
section
variable {S : List UInt8} {L : Lm} {G : List Fr} {l : List Am} {p : Nat}
theorem elS_hno {c : Int} {q : Nat} {b : Bool} (h : hdR S L l.length p = .no c q b) : elS S L Lib.validD G l p = .no c q b := by
 rw [hdR] at h
 rw [elS]
 by_cases h1 : has S L p = false
 ·rw [if_pos h1, lack] at h
  rw [if_pos h1, lack]
  cases h
  rfl
 ·rw [if_neg h1] at h ⊢
  by_cases h2 : L.items ≤ l.length
  ·rw [if_pos h2] at h ⊢
   cases h
   rfl
  ·rw [if_neg h2] at h ⊢
   by_cases h3 : headE (S.getD p 0) ≠ 0
   ·rw [if_pos h3] at h ⊢
    cases h
    rfl
   ·rw [if_neg h3] at h ⊢
    rw [h]
section
variable {n : Nat} (hh : hdR S L l.length p = .ok n) {k q : Nat} (hk : kindT (S.getD p 0) = k) (hq : p + 1 + widT (S.getD p 0) = q)
include hh hk hq
theorem elS_gshort (h5 : k = 2 ∨ k = 3) (h6 : n ≠ 0 ∧ has S L (q + n - 1) = false) : elS S L Lib.validD G l p = lack S L := by
 obtain ⟨h, h2, h3, h4⟩ := hdR_ok hh
 subst hk hq
 rw [elS, if_neg (by rw [h]; decide), if_neg h2, if_neg (by rw [h3]; decide), h4]
 dsimp only
 rw [if_pos h5, if_pos h6]
theorem elS_gutf (h5 : k = 3) (h6 : ¬ (n ≠ 0 ∧ has S L (q + n - 1) = false)) (h7 : Lib.validD (Dr.part S q (q + n)) = false) : elS S L Lib.validD G l p = .no 9 p false := by
 obtain ⟨h, h2, h3, h4⟩ := hdR_ok hh
 subst hq
 rw [elS, if_neg (by rw [h]; decide), if_neg h2, if_neg (by rw [h3]; decide), h4]
 dsimp only
 rw [hk, if_pos (.inr h5), if_neg h6, if_pos ⟨h5, h7⟩]
theorem elS_gtext (h5 : k = 2 ∨ k = 3) (h6 : ¬ (n ≠ 0 ∧ has S L (q + n - 1) = false)) (h7 : ¬ (k = 3 ∧ Lib.validD (Dr.part S q (q + n)) = false)) : elS S L Lib.validD G l p = .ok (.pend G (l ++ [⟨k, 0, Dr.part S q (q + n)⟩]) p (q + n)) := by
 obtain ⟨h, h2, h3, h4⟩ := hdR_ok hh
 subst hq
 rw [elS, if_neg (by rw [h]; decide), if_neg h2, if_neg (by rw [h3]; decide), h4]
 dsimp only
 rw [hk, if_pos h5, if_neg h6, if_neg h7]
theorem elS_gdeep (h5 : holds k = true) (h6 : L.depth ≤ G.length) : elS S L Lib.validD G l p = .no 10 p false := by
 obtain ⟨h, h2, h3, h4⟩ := hdR_ok hh
 have h9 := hq
 clear h9
 rw [elS, if_neg (by rw [h]; decide), if_neg h2, if_neg (by rw [h3]; decide), h4]
 dsimp only
 rw [hk, if_neg (holds_not h5), if_pos h5, if_pos h6]
theorem elS_ghold (h5 : holds k = true) (h6 : ¬ L.depth ≤ G.length) : elS S L Lib.validD G l p = .ok (.loop (fr0 ⟨k, n, []⟩ p :: G) (l ++ [⟨k, n, []⟩]) q) := by
 obtain ⟨h, h2, h3, h4⟩ := hdR_ok hh
 subst hq
 rw [elS, if_neg (by rw [h]; decide), if_neg h2, if_neg (by rw [h3]; decide), h4]
 dsimp only
 rw [hk, if_neg (holds_not h5), if_pos h5, if_neg h6]
 rfl
theorem elS_gplain (h5 : ¬ (k = 2 ∨ k = 3)) (h6 : holds k = false) : elS S L Lib.validD G l p = .ok (.pend G (l ++ [⟨k, n, []⟩]) p q) := by
 obtain ⟨h, h2, h3, h4⟩ := hdR_ok hh
 subst hq
 rw [elS, if_neg (by rw [h]; decide), if_neg h2, if_neg (by rw [h3]; decide), h4]
 dsimp only
 rw [hk, if_neg h5, if_neg (by rw [h6]; decide)]
end
end
abbrev RunsG (S : List UInt8) (L : Lm) : St → Rs (List Am) → Prop := Runs S L Lib.validD Op.bytesLess
def GItem (s : ByteArray) (L : Lm) (ro : Int) (g : Nat) (O : List Am) (fr : Nat) (G : List Fr) (l : List Am) (p : Nat) (w : World) (e : Ending) (w' : World) : Prop :=
 (∃ (N : List Am) (q : Nat), GYes (.tuple #[.int .i64 (q : Int), .bool true]) g s L ro (O ++ N) fr w e w' ∧ p + 1 ≤ q ∧ q ≤ s.size ∧ ∀ r, RunsG s.toList L (.pend G (l ++ N) p q) r → RunsG s.toList L (.el G l p) r) ∨
 (∃ c q b, GNay (.tuple #[.int .i64 0, .bool false]) g s L ro c q b w e w' ∧ RunsG s.toList L (.el G l p) (.no c q b))
section
variable {w w' : World} {g : Nat} {s : ByteArray} {L : Lm} {ro : Int} {O : List Am} {fr p : Nat} {G : List Fr} {l : List Am} {e : Ending}
theorem GItem.no {c : Int} {q : Nat} {b : Bool} (hr : elS s.toList L Lib.validD G l p = .no c q b) (he : e = .returned (.tuple #[.int .i64 0, .bool false])) (h1 : Hid (Gno w' g s L ro c q b)) (h2 : Hid (Below g w w')) : GItem s L ro g O fr G l p w e w' :=
 .inr ⟨c, q, b, ⟨he, h1, h2⟩, Runs.elNo hr⟩
theorem GItem.yes {y : Am} {q : Nat} (hr : elS s.toList L Lib.validD G l p = .ok (.pend G (l ++ [y]) p q)) (h3 : p + 1 ≤ q) (h4 : q ≤ s.size) (he : e = .returned (.tuple #[.int .i64 (q : Int), .bool true])) (h1 : Hid (Gok w' g s L ro (O ++ [y]) fr)) (h2 : Hid (Below g w w')) : GItem s L ro g O fr G l p w e w' :=
 .inl ⟨[y], q, ⟨he, h1, h2⟩, h3, h4, fun r h => Runs.el hr h⟩
theorem Rg.add {O' : List Am} {vo v' : Value} {er : Int} {pl tk : Nat} {en : Bool} (h : Rg w g s L ro O vo er pl tk fr en) (hg : w.grownBy w' vo.ownBlock) (ho : w'.ownsRow (g + 1) 60 3 v' O'.length (rcells (O'.map up))) :
  Rg (w'.setCell ⟨g, 11, none⟩ v') g s L ro O' v' er pl tk fr en := by
 have hlt := h.lt
 have hne : ∀ k, vo.ownBlock = some k → g + 1 ≤ k := fun k hk => (h.out.lt k hk).1
 have h1 := h.at0.grown hg hlt (fun e => by have := hne g e; omega)
 exact ⟨h1.set 11 v', ownsRow_setCell_below ho (Nat.lt_succ_self g) _, by
  rw [show (w'.setCell ⟨g, 11, none⟩ v').heap.size = w'.heap.size by simp [World.setCell]]
  exact nlt hlt hg.size⟩
end
theorem Gok.opnM {w : World} {g : Nat} {s : ByteArray} {L : Lm} {ro : Int} {O : List Am} {fr m : Nat} (h : Gok w g s L ro O fr) (hm : O.length = m) : ∃ a c tk, Hid (Rg w g s L ro O (.slice a m c) 0 0 tk fr false) ∧ Hid (w.ownsRow (g + 1) 60 3 (.slice a m c) m (rcells (O.map up))) := by
 obtain ⟨a, c, tk, h⟩ := h.opn
 subst hm
 exact ⟨a, c, tk, h, h.out.out⟩
section
variable {w : World} {ops : Array Oper} {o : Oper} {a : Act}
theorem wpList_append_am {rest : List Oper} {Q : Exit → Act → World → Prop} (hgd : o.guard = none) (s x : Operand)
  (ho : o.op = .call { callee := .builtin .append, args := #[s, x], argTypes := #[43, 43] })
  (base : Nat) (v : Value) (n : Nat) (l : List Ra) (hs : a.eval s = v) (hown : w.ownsRow base 60 3 v n (rcells l))
  (g c : Nat) (y : Ra) (hx : a.eval x = .slice (some ⟨g, 0, none⟩) 1 c) (hcell : ∀ j u, (rv y)[j]? = some u → w.cell? ((⟨g, 0, none⟩ : Addr).add j) = some u)
  (hn : n ≤ 1000000) (hbase : base ≤ w.heap.size)
  (h : ∀ v' w', w'.ownsRow base 60 3 v' (n + 1) (rcells (l ++ [y])) → w.grownBy w' v.ownBlock → wpList Tryz.prog ops Q rest (a.put o.dst v') w') : wpList Tryz.prog ops Q (o :: rest) a w := by
 obtain ⟨i0, hi, hq⟩ := Option.map_eq_some_iff.1 infoA
 simp only [Prod.mk.injEq] at hq
 refine wpList_append_own w hgd s x 43 ho base 60 i0 _ 3 32 Tryz.underlying43 hi hq.1 hq.2.1 hq.2.2 rfl (by decide) v n (rcells l) hs hown ⟨g, 0, none⟩ 1 c (rv y) hx rfl hcell (rv_one y) (by unfold maxLen; omega) (by omega) hbase ?_
 intro v' w' h1 h2 _
 exact h v' w' (by rw [rcells_append]; simpa [rcells] using h1) h2
end
theorem gadd_all {w w1 : World} {g : Nat} {s : ByteArray} {L : Lm} {ro : Int} {O : List Am} {fr tk : Nat} {a : Option Addr} {m c : Nat} {y : Am} {ob : Obj} {v' : Value} (hR : Rg w g s L ro O (.slice a m c) 0 0 tk fr false) (hg : (w.alloc ob).grownBy w1 (Value.slice a m c).ownBlock) (hm : O.length = m) (ho : w1.ownsRow (g + 1) 60 3 v' (m + 1) (rcells (O.map up ++ [up y]))) :
  w1.frozen? ⟨g, 11, none⟩ = false ∧ (∃ u, w1.cell? ⟨g, 11, none⟩ = some u) ∧ Hid (Gok (w1.setCell ⟨g, 11, none⟩ v') g s L ro (O ++ [y]) fr) ∧ Hid (Below g w (w1.setCell ⟨g, 11, none⟩ v')) := by
 have hA := hR.alloc ob
 have hAt := At.grown hA.at0 hg hA.lt (fun e => by have := (hA.out.lt g e).1; omega)
 refine ⟨hAt.froz 11 (Nat.le_of_ble_eq_true rfl), ⟨_, hAt.cell 11 _ rfl⟩, ⟨v', tk, Rg.add hA hg (by rw [lap, hm, List.map_append]; exact ho)⟩, ?_⟩
 exact (((Below.refl g w).alloc (Nat.le_of_lt hR.lt) ob).grown hg (Nat.le_of_lt hA.lt) (fun k hk => by have := (hA.out.lt k hk).1; omega)).setCell (p := ⟨g, 11, none⟩) (nle _) v'
section
variable (w : World) (g : Nat) (s : ByteArray) (L : Lm) (ro : Int) (O : List Am) (fr : Nat) (G : List Fr) (l : List Am) (p d : Nat)
theorem gitem_no (hR : Gok w g s L ro O fr) (hl : l.length = O.length) (hz : s.size ≤ 140737488351232) {c : Int} {q : Nat} {b : Bool} (hh : hdR s.toList L l.length p = .no c q b) :
  Calls Tryz.prog 60 #[.pointer (some ⟨g, 0, none⟩), .int .i64 (p : Int), .int .i64 (d : Int)] w (GItem s L ro g O fr G l p w) := by
 have H := hid (ghead_any w g s L ro O fr p hR hz)
 rw [← hl, hh] at H
 have HE := hid (elS_hno (G := G) hh)
 clear hR hl hz hh
 go_enter Tryz.func60, Tryz.ntmps60
 go_wp2_with (first | (go_at_call 87; refine H.out.mono ?_; rintro e w1 ⟨rfl, HR1, HB1⟩))
 go_ret2
 exact GItem.no HE.out rfl HR1 HB1
theorem gitem_deep (hR : Gok w g s L ro O fr) (hl : l.length = O.length) (hz : s.size ≤ 140737488351232) (hLi : L.items ≤ 4096) {n : Nat} (hh : hdR s.toList L l.length p = .ok n) {k : Nat} (hk : kindT (s.toList.getD p 0) = k) {q : Nat} (hq : p + 1 + widT (s.toList.getD p 0) = q) (h5 : 4 ≤ k ∧ k ≤ 6) (hd : d = G.length) (h6 : L.depth ≤ G.length) :
  Calls Tryz.prog 60 #[.pointer (some ⟨g, 0, none⟩), .int .i64 (p : Int), .int .i64 (d : Int)] w (GItem s L ro g O fr G l p w) := by
 have H := hid (ghead_any w g s L ro O fr p hR hz)
 rw [← hl, hh] at H
 have H : Hid (Calls Tryz.prog 87 #[.pointer (some ⟨g, 0, none⟩), .int .i64 (p : Int)] w (GYes (.tuple #[.int .i64 (k : Int), .int .u64 (n : Int), .int .i64 (q : Int), .bool true]) g s L ro O fr w)) := by
  have h9 : Calls Tryz.prog 87 #[.pointer (some ⟨g, 0, none⟩), .int .i64 (p : Int)] w (GYes (.tuple #[.int .i64 (kindT (s.toList.getD p 0) : Int), .int .u64 (n : Int), .int .i64 ((p + 1 + widT (s.toList.getD p 0) : Nat) : Int), .bool true]) g s L ro O fr w) := H.out
  rw [hk, hq] at h9
  exact h9
 obtain ⟨h0, hi2, h3, hA⟩ := hdR_ok hh
 obtain ⟨-, -, hn, hqs⟩ := argR_inv h0 h3 hA
 rw [hq, tl_size] at hqs
 have hqb := argR_pb h0 hA
 rw [hq] at hqb
 have hpq : p + 1 ≤ q := by omega
 obtain ⟨m, hm⟩ : ∃ m, O.length = m := ⟨_, rfl⟩
 have HM : Hid (O.length = m ∧ m ≤ 4096) := ⟨hm, by omega⟩
 have HE := hid (elS_gdeep (G := G) hh hk hq (dtr h5) h6)
 have e1 : ((k : Int) == 2) = false := by rw [beq_eq_false_iff_ne]; omega
 have e2 : ((k : Int) == 3) = false := by rw [beq_eq_false_iff_ne]; omega
 have e3 : (4 : Int) ≤ (k : Int) := by omega
 have e4 : (k : Int) ≤ 6 := by omega
 have e5 : (L.depth : Int) ≤ (d : Int) := by omega
 clear hR hl hz hLi hh hk hq h0 hi2 h3 hA hn hqs hqb hpq hm h5 hd h6
 go_enter Tryz.func60, Tryz.ntmps60
 go_wp2_with (first
  | (go_at_call 87; refine H.out.mono ?_; rintro e w1 ⟨rfl, HQ1, HB1⟩; obtain ⟨a1, c1, tk1, HR1, HO1⟩ := HQ1.out.opnM HM.out.1; have k11 := HR1.out.at0.cell 11 _ rfl; have k1 := HR1.out.at0.cell 1 _ rfl)
  | (go_at_call 62; refine (gfault17_ok HQ1.out _ _ p rfl).mono ?_; rintro e wf ⟨rfl, HRF, HBF⟩))
 go_ret2
 exact GItem.no HE.out rfl HRF (HB1.out.trans HBF.out)
theorem gitem_low (hR : Gok w g s L ro O fr) (hl : l.length = O.length) (hz : s.size ≤ 140737488351232) (hLi : L.items ≤ 4096) {n : Nat} (hh : hdR s.toList L l.length p = .ok n) {k : Nat} (hk : kindT (s.toList.getD p 0) = k) {q : Nat} (hq : p + 1 + widT (s.toList.getD p 0) = q) (h5 : k < 2) :
  Calls Tryz.prog 60 #[.pointer (some ⟨g, 0, none⟩), .int .i64 (p : Int), .int .i64 (d : Int)] w (GItem s L ro g O fr G l p w) := by
 have H := hid (ghead_any w g s L ro O fr p hR hz)
 rw [← hl, hh] at H
 have H : Hid (Calls Tryz.prog 87 #[.pointer (some ⟨g, 0, none⟩), .int .i64 (p : Int)] w (GYes (.tuple #[.int .i64 (k : Int), .int .u64 (n : Int), .int .i64 (q : Int), .bool true]) g s L ro O fr w)) := by
  have h9 : Calls Tryz.prog 87 #[.pointer (some ⟨g, 0, none⟩), .int .i64 (p : Int)] w (GYes (.tuple #[.int .i64 (kindT (s.toList.getD p 0) : Int), .int .u64 (n : Int), .int .i64 ((p + 1 + widT (s.toList.getD p 0) : Nat) : Int), .bool true]) g s L ro O fr w) := H.out
  rw [hk, hq] at h9
  exact h9
 obtain ⟨h0, hi2, h3, hA⟩ := hdR_ok hh
 obtain ⟨-, -, hn, hqs⟩ := argR_inv h0 h3 hA
 rw [hq, tl_size] at hqs
 have hqb := argR_pb h0 hA
 rw [hq] at hqb
 have hpq : p + 1 ≤ q := by omega
 obtain ⟨m, hm⟩ : ∃ m, O.length = m := ⟨_, rfl⟩
 have HM : Hid (O.length = m ∧ m ≤ 4096) := ⟨hm, by omega⟩
 have HE := hid (elS_gplain (G := G) hh hk hq (by omega) (by rw [holds, decide_eq_false_iff_not]; omega))
 have HF := hid (aIn hpq hqs)
 have e1 : ((k : Int) == 2) = false := by rw [beq_eq_false_iff_ne]; omega
 have e2 : ((k : Int) == 3) = false := by rw [beq_eq_false_iff_ne]; omega
 have e3 : ¬ (4 : Int) ≤ (k : Int) := by omega
 have e4 : (k : Int) < 4 := by omega
 have HAV : Hid (rv (up (⟨k, n, []⟩ : Am)) = (#[Value.int .i64 (k : Int), Value.int .u64 (n : Int), Value.string ⟨#[]⟩]).toList) := rfl
 clear hR hl hz hLi hh hk hq h0 hi2 h3 hA hn hqs hqb hpq hm h5
 go_enter Tryz.func60, Tryz.ntmps60
 go_wp2_with (first
  | (go_at_call 87; refine H.out.mono ?_; rintro e w1 ⟨rfl, HQ1, HB1⟩; obtain ⟨a1, c1, tk1, HR1, HO1⟩ := HQ1.out.opnM HM.out.1; have k11 := HR1.out.at0.cell 11 _ rfl; have k1 := HR1.out.at0.cell 1 _ rfl)
  | (go_at_call 62; refine (gfault17_ok HQ1.out _ _ p rfl).mono ?_; rintro e wf ⟨rfl, HRF, HBF⟩)
  | (at_builtin; refine wpList_append_am rfl (.tmp 100) (.tmp 104) rfl (g + 1) _ m (O.map up) rfl (HO1.out.alloc _) _ 1 (up (⟨k, n, []⟩ : Am)) rfl (at_cells HAV.out (At.ofAlloc _ #[Value.int .i64 (k : Int), Value.int .u64 (n : Int), Value.string ⟨#[]⟩] 60)) (by have := HM.out.2; omega) (by have := HR1.out.lt; simp; omega) ?_; intro v' w3 hown3 hgrow3; obtain ⟨hf3, ⟨u3, hc3⟩, HQ3, HB3⟩ := gadd_all (y := (⟨k, n, []⟩ : Am)) HR1.out hgrow3 HM.out.1 hown3; obtain ⟨a3, c3, rfl, -⟩ := own_form hown3; clear hown3 hgrow3))
 go_ret2
 exact GItem.yes HE.out HF.out.1 HF.out.2 rfl HQ3 (HB1.out.trans HB3.out)
theorem gitem_high (hR : Gok w g s L ro O fr) (hl : l.length = O.length) (hz : s.size ≤ 140737488351232) (hLi : L.items ≤ 4096) {n : Nat} (hh : hdR s.toList L l.length p = .ok n) {k : Nat} (hk : kindT (s.toList.getD p 0) = k) {q : Nat} (hq : p + 1 + widT (s.toList.getD p 0) = q) (h5 : k = 7) :
  Calls Tryz.prog 60 #[.pointer (some ⟨g, 0, none⟩), .int .i64 (p : Int), .int .i64 (d : Int)] w (GItem s L ro g O fr G l p w) := by
 have H := hid (ghead_any w g s L ro O fr p hR hz)
 rw [← hl, hh] at H
 have H : Hid (Calls Tryz.prog 87 #[.pointer (some ⟨g, 0, none⟩), .int .i64 (p : Int)] w (GYes (.tuple #[.int .i64 (k : Int), .int .u64 (n : Int), .int .i64 (q : Int), .bool true]) g s L ro O fr w)) := by
  have h9 : Calls Tryz.prog 87 #[.pointer (some ⟨g, 0, none⟩), .int .i64 (p : Int)] w (GYes (.tuple #[.int .i64 (kindT (s.toList.getD p 0) : Int), .int .u64 (n : Int), .int .i64 ((p + 1 + widT (s.toList.getD p 0) : Nat) : Int), .bool true]) g s L ro O fr w) := H.out
  rw [hk, hq] at h9
  exact h9
 obtain ⟨h0, hi2, h3, hA⟩ := hdR_ok hh
 obtain ⟨-, -, hn, hqs⟩ := argR_inv h0 h3 hA
 rw [hq, tl_size] at hqs
 have hqb := argR_pb h0 hA
 rw [hq] at hqb
 have hpq : p + 1 ≤ q := by omega
 obtain ⟨m, hm⟩ : ∃ m, O.length = m := ⟨_, rfl⟩
 have HM : Hid (O.length = m ∧ m ≤ 4096) := ⟨hm, by omega⟩
 have HE := hid (elS_gplain (G := G) hh hk hq (by omega) (by rw [holds, decide_eq_false_iff_not]; omega))
 have HF := hid (aIn hpq hqs)
 have e1 : ((k : Int) == 2) = false := by rw [beq_eq_false_iff_ne]; omega
 have e2 : ((k : Int) == 3) = false := by rw [beq_eq_false_iff_ne]; omega
 have e3 : (4 : Int) ≤ (k : Int) := by omega
 have e3b : ¬ (k : Int) < 4 := by omega
 have e4 : ¬ (k : Int) ≤ 6 := by omega
 have e4c : (6 : Int) < (k : Int) := by omega
 have HAV : Hid (rv (up (⟨k, n, []⟩ : Am)) = (#[Value.int .i64 (k : Int), Value.int .u64 (n : Int), Value.string ⟨#[]⟩]).toList) := rfl
 clear hR hl hz hLi hh hk hq h0 hi2 h3 hA hn hqs hqb hpq hm h5
 go_enter Tryz.func60, Tryz.ntmps60
 go_wp2_with (first
  | (go_at_call 87; refine H.out.mono ?_; rintro e w1 ⟨rfl, HQ1, HB1⟩; obtain ⟨a1, c1, tk1, HR1, HO1⟩ := HQ1.out.opnM HM.out.1; have k11 := HR1.out.at0.cell 11 _ rfl; have k1 := HR1.out.at0.cell 1 _ rfl)
  | (go_at_call 62; refine (gfault17_ok HQ1.out _ _ p rfl).mono ?_; rintro e wf ⟨rfl, HRF, HBF⟩)
  | (at_builtin; refine wpList_append_am rfl (.tmp 100) (.tmp 104) rfl (g + 1) _ m (O.map up) rfl (HO1.out.alloc _) _ 1 (up (⟨k, n, []⟩ : Am)) rfl (at_cells HAV.out (At.ofAlloc _ #[Value.int .i64 (k : Int), Value.int .u64 (n : Int), Value.string ⟨#[]⟩] 60)) (by have := HM.out.2; omega) (by have := HR1.out.lt; simp; omega) ?_; intro v' w3 hown3 hgrow3; obtain ⟨hf3, ⟨u3, hc3⟩, HQ3, HB3⟩ := gadd_all (y := (⟨k, n, []⟩ : Am)) HR1.out hgrow3 HM.out.1 hown3; obtain ⟨a3, c3, rfl, -⟩ := own_form hown3; clear hown3 hgrow3))
 go_ret2
 exact GItem.yes HE.out HF.out.1 HF.out.2 rfl HQ3 (HB1.out.trans HB3.out)
theorem gitem_text2 (hR : Gok w g s L ro O fr) (hl : l.length = O.length) (hz : s.size ≤ 140737488351232) (hLi : L.items ≤ 4096) {n : Nat} (hh : hdR s.toList L l.length p = .ok n) {k : Nat} (hk : kindT (s.toList.getD p 0) = k) {q : Nat} (hq : p + 1 + widT (s.toList.getD p 0) = q) (h5 : k = 2) :
  Calls Tryz.prog 60 #[.pointer (some ⟨g, 0, none⟩), .int .i64 (p : Int), .int .i64 (d : Int)] w (GItem s L ro g O fr G l p w) := by
 have H := hid (ghead_any w g s L ro O fr p hR hz)
 rw [← hl, hh] at H
 have H : Hid (Calls Tryz.prog 87 #[.pointer (some ⟨g, 0, none⟩), .int .i64 (p : Int)] w (GYes (.tuple #[.int .i64 (k : Int), .int .u64 (n : Int), .int .i64 (q : Int), .bool true]) g s L ro O fr w)) := by
  have h9 : Calls Tryz.prog 87 #[.pointer (some ⟨g, 0, none⟩), .int .i64 (p : Int)] w (GYes (.tuple #[.int .i64 (kindT (s.toList.getD p 0) : Int), .int .u64 (n : Int), .int .i64 ((p + 1 + widT (s.toList.getD p 0) : Nat) : Int), .bool true]) g s L ro O fr w) := H.out
  rw [hk, hq] at h9
  exact h9
 obtain ⟨h0, hi2, h3, hA⟩ := hdR_ok hh
 obtain ⟨-, -, hn, hqs⟩ := argR_inv h0 h3 hA
 rw [hq, tl_size] at hqs
 have hqb := argR_pb h0 hA
 rw [hq] at hqb
 have hpq : p + 1 ≤ q := by omega
 obtain ⟨m, hm⟩ : ∃ m, O.length = m := ⟨_, rfl⟩
 have HM : Hid (O.length = m ∧ m ≤ 4096) := ⟨hm, by omega⟩
 subst h5
 have hG := fits_iff (s := s) (L := L) (q := q) (n := n) hqs hqb
 have FX := hid (elS_gshort (G := G) hh hk hq (by decide))
 have FO := hid (fun h6 h7 => elS_gtext (G := G) hh hk hq (by decide) h6 h7)
 have HF := hid (aIn hG (aIn hpq (aIn hqs (aIn hqb (aIn hn hz)))))
 have WY := hid (fun w' (q : Nat) (h1 : q < s.size) (h2 : q < L.bytes) (h : Gok w' g s L ro O fr) => gwant_yes h (q : Int) q rfl h1 h2 hz)
 have WN := hid (fun w' (q : Nat) (h1 : ¬ (q < s.size ∧ q < L.bytes)) (h : Gok w' g s L ro O fr) => gwant_no h (q : Int) q rfl h1)
 clear hR hl hz hLi hh hk hq h0 hi2 h3 hA hn hqs hqb hpq hm hG
 go_enter Tryz.func60, Tryz.ntmps60
 go_wp2_with (first | (go_at_call 87; refine H.out.mono ?_; rintro e w1 ⟨rfl, HQ1, HB1⟩))
 go_loopw [10, 12] (fun va vi wr => ∃ i a : Nat, va = .int .i64 (a : Int) ∧ vi = .int .u64 (i : Int) ∧ Hid (q + i = a ∧ i ≤ n ∧ a ≤ s.size ∧ a ≤ L.bytes) ∧ Hid (Gok wr g s L ro O fr) ∧ Hid (Below g w wr)) (fun va _ _ => s.size - (intOf va).toNat)
 case atStart => exact ⟨0, q, rfl, rfl, ⟨rfl, Nat.zero_le _, HF.out.2.2.1, HF.out.2.2.2.1⟩, HQ1, HB1⟩
 case round =>
  obtain ⟨i, a, rfl, rfl, HI, HQ, HB⟩ := hrel
  clear HQ1 HB1
  by_cases hin : i = n
  ·subst hin
   have hia := HI.out
   have h6 : ¬ (i ≠ 0 ∧ has s.toList L (q + i - 1) = false) := fun h => HF.out.1.1 h ⟨by omega, by omega⟩
   have hz := HF.out.2.2.2.2.2
   have e20 : ¬ (i : Int) < (i : Int) := by omega
   have e21 : IntKind.i64.wrap (i : Int) = (i : Int) := wrap_fit i (by unfold maxLen; omega)
   have e22 : (a : Int) - (i : Int) = (q : Int) := by omega
   have e23 : IntKind.i64.wrap (q : Int) = (q : Int) := wrap_fit q (by unfold maxLen; omega)
   have e24 : (q : Int) ≤ (a : Int) := by omega
   have e25 : (a : Int) ≤ (s.size : Int) := by omega
   have hqa : q ≤ a := by omega
   have hqs : a ≤ s.size := hia.2.2.1
   obtain ⟨u, hu⟩ : ∃ u, s.extract q a = u := ⟨_, rfl⟩
   have hul : u.toList = Dr.part s.toList q (q + i) := by rw [← hu, tl_extract, hia.1]; rfl
   have HUL := hid hul
   have HAV : Hid (rv (up (⟨2, 0, Dr.part s.toList q (q + i)⟩ : Am)) = (#[Value.int .i64 2, Value.int .u64 0, Value.string u]).toList) := by
    show rv _ = _
    rw [← hul]
    show [Value.int .i64 2, Value.int .u64 0, Value.string ⟨u.toList.toArray⟩] = _
    rw [tl_arr]
   have g0 := HQ.out.txt
   have H6 := hid h6
   obtain ⟨a1, c1, tk1, HR4, HO4⟩ := HQ.out.opnM HM.out.1
   have k11 := HR4.out.at0.cell 11 _ rfl
   clear hia h6 hz hqa hul
   go_wp2_with (first
    | (at_builtin; refine wpList_append_am rfl (.tmp 68) (.tmp 72) rfl (g + 1) _ m (O.map up) rfl (HO4.out.alloc _) _ 1 (up (⟨2, 0, Dr.part s.toList q (q + i)⟩ : Am)) rfl (at_cells HAV.out (At.ofAlloc _ #[Value.int .i64 2, Value.int .u64 0, Value.string u] 60)) (by have := HM.out.2; omega) (by have := HR4.out.lt; simp; omega) ?_; intro v' w3 hown3 hgrow3; obtain ⟨hf3, ⟨u3, hc3⟩, HQ3, HB3⟩ := gadd_all (y := (⟨2, 0, Dr.part s.toList q (q + i)⟩ : Am)) HR4.out hgrow3 HM.out.1 hown3; obtain ⟨a3, c3, rfl, -⟩ := own_form hown3; clear hown3 hgrow3))
   go_ret2
   exact GItem.yes (q := a) (by rw [FO.out H6.out (fun h => absurd h.1 (by decide)), HI.out.1]) (by have := HI.out; have := HF.out; omega) HI.out.2.2.1 rfl HQ3 (HB.out.trans HB3.out)
  ·have hia := HI.out
   have e20 : (i : Int) < (n : Int) := by omega
   have e30 : (a : Int) ≤ 140737488351232 := by have := HF.out.2.2.2.2.2; omega
   by_cases h1 : a < s.size ∧ a < L.bytes
   ·have WY1 := hid (WY.out _ a h1.1 h1.2 HQ.out)
    obtain ⟨b, hb⟩ : ∃ b, a + 1 = b := ⟨_, rfl⟩
    have e21 : (a : Int) + 1 = (b : Int) := by omega
    have e22 : IntKind.i64.wrap (b : Int) = (b : Int) := wrap_fit b (by have := HF.out.2.2.2.2.2; unfold maxLen; omega)
    obtain ⟨j, hj⟩ : ∃ b, i + 1 = b := ⟨_, rfl⟩
    have e23 : (i : Int) + 1 = (j : Int) := by omega
    have e24 : IntKind.u64.wrap (j : Int) = (j : Int) := u64c j (by have := HF.out.2.2.2.2.1; omega)
    have HI2 : Hid (q + j = b ∧ j ≤ n ∧ b ≤ s.size ∧ b ≤ L.bytes) := ⟨by omega, by omega, by omega, by omega⟩
    have HJ : Hid (a < b ∧ a < s.size) := ⟨by omega, h1.1⟩
    clear hia hin h1 hb hj
    go_wp2_with (first | (go_at_call 61; refine WY1.out.mono ?_; rintro e w2 ⟨rfl, HQ2, hb2⟩; have HB2 : Hid (Below g w w2) := HB.out.trans hb2.out; clear hb2))
    go_roundw
    case rel => exact ⟨j, b, rfl, rfl, HI2, HQ2, HB2⟩
    case measure => have := HJ.out; simp [intOf]; omega
   ·have WN1 := hid (WN.out _ a h1 HQ.out)
    have hlk := FX.out (HF.out.1.2 (fun h => h1 ⟨by omega, by omega⟩))
    have HE := hid (hlk.trans (glack_eq s L))
    clear hia hin h1 hlk
    go_wp2_with (first | (go_at_call 61; refine WN1.out.mono ?_; rintro e w2 ⟨rfl, HQ2, hb2⟩; have HB2 : Hid (Below g w w2) := HB.out.trans hb2.out; clear hb2))
    go_ret2
    exact GItem.no HE.out rfl HQ2 HB2
theorem gitem_text3 (hR : Gok w g s L ro O fr) (hl : l.length = O.length) (hz : s.size ≤ 140737488351232) (hLi : L.items ≤ 4096) {n : Nat} (hh : hdR s.toList L l.length p = .ok n) {k : Nat} (hk : kindT (s.toList.getD p 0) = k) {q : Nat} (hq : p + 1 + widT (s.toList.getD p 0) = q) (h5 : k = 3) :
  Calls Tryz.prog 60 #[.pointer (some ⟨g, 0, none⟩), .int .i64 (p : Int), .int .i64 (d : Int)] w (GItem s L ro g O fr G l p w) := by
 have H := hid (ghead_any w g s L ro O fr p hR hz)
 rw [← hl, hh] at H
 have H : Hid (Calls Tryz.prog 87 #[.pointer (some ⟨g, 0, none⟩), .int .i64 (p : Int)] w (GYes (.tuple #[.int .i64 (k : Int), .int .u64 (n : Int), .int .i64 (q : Int), .bool true]) g s L ro O fr w)) := by
  have h9 : Calls Tryz.prog 87 #[.pointer (some ⟨g, 0, none⟩), .int .i64 (p : Int)] w (GYes (.tuple #[.int .i64 (kindT (s.toList.getD p 0) : Int), .int .u64 (n : Int), .int .i64 ((p + 1 + widT (s.toList.getD p 0) : Nat) : Int), .bool true]) g s L ro O fr w) := H.out
  rw [hk, hq] at h9
  exact h9
 obtain ⟨h0, hi2, h3, hA⟩ := hdR_ok hh
 obtain ⟨-, -, hn, hqs⟩ := argR_inv h0 h3 hA
 rw [hq, tl_size] at hqs
 have hqb := argR_pb h0 hA
 rw [hq] at hqb
 have hpq : p + 1 ≤ q := by omega
 obtain ⟨m, hm⟩ : ∃ m, O.length = m := ⟨_, rfl⟩
 have HM : Hid (O.length = m ∧ m ≤ 4096) := ⟨hm, by omega⟩
 subst h5
 have hG := fits_iff (s := s) (L := L) (q := q) (n := n) hqs hqb
 have FX := hid (elS_gshort (G := G) hh hk hq (by decide))
 have FO := hid (fun h6 h7 => elS_gtext (G := G) hh hk hq (by decide) h6 h7)
 have FU := hid (fun h6 h7 => elS_gutf (G := G) hh hk hq rfl h6 h7)
 have HF := hid (aIn hG (aIn hpq (aIn hqs (aIn hqb (aIn hn hz)))))
 have WY := hid (fun w' (q : Nat) (h1 : q < s.size) (h2 : q < L.bytes) (h : Gok w' g s L ro O fr) => gwant_yes h (q : Int) q rfl h1 h2 hz)
 have WN := hid (fun w' (q : Nat) (h1 : ¬ (q < s.size ∧ q < L.bytes)) (h : Gok w' g s L ro O fr) => gwant_no h (q : Int) q rfl h1)
 clear hR hl hz hLi hh hk hq h0 hi2 h3 hA hn hqs hqb hpq hm hG
 go_enter Tryz.func60, Tryz.ntmps60
 go_wp2_with (first | (go_at_call 87; refine H.out.mono ?_; rintro e w1 ⟨rfl, HQ1, HB1⟩))
 go_loopw [10, 12] (fun va vi wr => ∃ i a : Nat, va = .int .i64 (a : Int) ∧ vi = .int .u64 (i : Int) ∧ Hid (q + i = a ∧ i ≤ n ∧ a ≤ s.size ∧ a ≤ L.bytes) ∧ Hid (Gok wr g s L ro O fr) ∧ Hid (Below g w wr)) (fun va _ _ => s.size - (intOf va).toNat)
 case atStart => exact ⟨0, q, rfl, rfl, ⟨rfl, Nat.zero_le _, HF.out.2.2.1, HF.out.2.2.2.1⟩, HQ1, HB1⟩
 case round =>
  obtain ⟨i, a, rfl, rfl, HI, HQ, HB⟩ := hrel
  clear HQ1 HB1
  by_cases hin : i = n
  ·subst hin
   have hia := HI.out
   have h6 : ¬ (i ≠ 0 ∧ has s.toList L (q + i - 1) = false) := fun h => HF.out.1.1 h ⟨by omega, by omega⟩
   have hz := HF.out.2.2.2.2.2
   have e20 : ¬ (i : Int) < (i : Int) := by omega
   have e21 : IntKind.i64.wrap (i : Int) = (i : Int) := wrap_fit i (by unfold maxLen; omega)
   have e22 : (a : Int) - (i : Int) = (q : Int) := by omega
   have e23 : IntKind.i64.wrap (q : Int) = (q : Int) := wrap_fit q (by unfold maxLen; omega)
   have e24 : (q : Int) ≤ (a : Int) := by omega
   have e25 : (a : Int) ≤ (s.size : Int) := by omega
   have hqa : q ≤ a := by omega
   have hqs : a ≤ s.size := hia.2.2.1
   obtain ⟨u, hu⟩ : ∃ u, s.extract q a = u := ⟨_, rfl⟩
   have hul : u.toList = Dr.part s.toList q (q + i) := by rw [← hu, tl_extract, hia.1]; rfl
   have HUL := hid hul
   have HAV : Hid (rv (up (⟨3, 0, Dr.part s.toList q (q + i)⟩ : Am)) = (#[Value.int .i64 3, Value.int .u64 0, Value.string u]).toList) := by
    show rv _ = _
    rw [← hul]
    show [Value.int .i64 3, Value.int .u64 0, Value.string ⟨u.toList.toArray⟩] = _
    rw [tl_arr]
   have g0 := HQ.out.txt
   have H6 := hid h6
   have hus : u.size ≤ 140737488351232 := by rw [← tl_size, hul, Dr.part, List.length_take, List.length_drop, tl_size]; omega
   have TX := hid (fun w' => text_any u w' hus)
   rw [hul] at TX
   cases hv : Lib.validD (Dr.part s.toList q (q + i)) with
   | false =>
    rw [hv] at TX
    have HV := hid hv
    clear hia h6 hz hqa hul hus hv
    go_wp2_with (first
     | (go_at_call 88; refine (TX.out _).mono ?_; rintro e w4 ⟨rfl, hb4⟩; have HQ4 := hid (HQ.out.below hb4); have HB4 : Hid (Below g w w4) := HB.out.trans (hb4.mono (Nat.le_of_lt HQ.out.lt)); clear hb4)
     | (go_at_call 62; refine (gfault17_ok HQ4.out _ _ p rfl).mono ?_; rintro e wf ⟨rfl, HRF, HBF⟩))
    go_ret2
    exact GItem.no (FU.out H6.out HV.out) rfl HRF (HB4.out.trans HBF.out)
   | true =>
    rw [hv] at TX
    have HV := hid hv
    clear hia h6 hz hqa hul hus hv
    go_wp2_with (first
     | (go_at_call 88; refine (TX.out _).mono ?_; rintro e w4 ⟨rfl, hb4⟩; have HQ4 := hid (HQ.out.below hb4); have HB4 : Hid (Below g w w4) := HB.out.trans (hb4.mono (Nat.le_of_lt HQ.out.lt)); clear hb4; obtain ⟨a1, c1, tk1, HR4, HO4⟩ := HQ4.out.opnM HM.out.1; have k11 := HR4.out.at0.cell 11 _ rfl)
     | (at_builtin; refine wpList_append_am rfl (.tmp 68) (.tmp 72) rfl (g + 1) _ m (O.map up) rfl (HO4.out.alloc _) _ 1 (up (⟨3, 0, Dr.part s.toList q (q + i)⟩ : Am)) rfl (at_cells HAV.out (At.ofAlloc _ #[Value.int .i64 3, Value.int .u64 0, Value.string u] 60)) (by have := HM.out.2; omega) (by have := HR4.out.lt; simp; omega) ?_; intro v' w3 hown3 hgrow3; obtain ⟨hf3, ⟨u3, hc3⟩, HQ3, HB3⟩ := gadd_all (y := (⟨3, 0, Dr.part s.toList q (q + i)⟩ : Am)) HR4.out hgrow3 HM.out.1 hown3; obtain ⟨a3, c3, rfl, -⟩ := own_form hown3; clear hown3 hgrow3))
    go_ret2
    exact GItem.yes (q := a) (by rw [FO.out H6.out (fun h => by have h1 := h.2; rw [HV.out] at h1; cases h1), HI.out.1]) (by have := HI.out; have := HF.out; omega) HI.out.2.2.1 rfl HQ3 (HB4.out.trans HB3.out)
  ·have hia := HI.out
   have e20 : (i : Int) < (n : Int) := by omega
   have e30 : (a : Int) ≤ 140737488351232 := by have := HF.out.2.2.2.2.2; omega
   by_cases h1 : a < s.size ∧ a < L.bytes
   ·have WY1 := hid (WY.out _ a h1.1 h1.2 HQ.out)
    obtain ⟨b, hb⟩ : ∃ b, a + 1 = b := ⟨_, rfl⟩
    have e21 : (a : Int) + 1 = (b : Int) := by omega
    have e22 : IntKind.i64.wrap (b : Int) = (b : Int) := wrap_fit b (by have := HF.out.2.2.2.2.2; unfold maxLen; omega)
    obtain ⟨j, hj⟩ : ∃ b, i + 1 = b := ⟨_, rfl⟩
    have e23 : (i : Int) + 1 = (j : Int) := by omega
    have e24 : IntKind.u64.wrap (j : Int) = (j : Int) := u64c j (by have := HF.out.2.2.2.2.1; omega)
    have HI2 : Hid (q + j = b ∧ j ≤ n ∧ b ≤ s.size ∧ b ≤ L.bytes) := ⟨by omega, by omega, by omega, by omega⟩
    have HJ : Hid (a < b ∧ a < s.size) := ⟨by omega, h1.1⟩
    clear hia hin h1 hb hj
    go_wp2_with (first | (go_at_call 61; refine WY1.out.mono ?_; rintro e w2 ⟨rfl, HQ2, hb2⟩; have HB2 : Hid (Below g w w2) := HB.out.trans hb2.out; clear hb2))
    go_roundw
    case rel => exact ⟨j, b, rfl, rfl, HI2, HQ2, HB2⟩
    case measure => have := HJ.out; simp [intOf]; omega
   ·have WN1 := hid (WN.out _ a h1 HQ.out)
    have hlk := FX.out (HF.out.1.2 (fun h => h1 ⟨by omega, by omega⟩))
    have HE := hid (hlk.trans (glack_eq s L))
    clear hia hin h1 hlk
    go_wp2_with (first | (go_at_call 61; refine WN1.out.mono ?_; rintro e w2 ⟨rfl, HQ2, hb2⟩; have HB2 : Hid (Below g w w2) := HB.out.trans hb2.out; clear hb2))
    go_ret2
    exact GItem.no HE.out rfl HQ2 HB2
end
end Co
end Go.Proofs.YtikgonlhdkknkaaGreatDoor
