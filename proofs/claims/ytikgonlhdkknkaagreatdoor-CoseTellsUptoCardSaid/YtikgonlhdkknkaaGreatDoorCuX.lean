import Derived.Test.YtikgonlhdkknkaaGreatDoorCuI
import Derived.Test.YtikgonlhdkknkaaGreatDoorShg
set_option maxRecDepth 100000
set_option maxHeartbeats 1600000
set_option linter.unusedVariables false
set_option linter.unusedSimpArgs false
open Go.Lib (hid)
namespace Go.Proofs.YtikgonlhdkknkaaGreatDoor
open Go.RowKit
namespace Co
open Dr (Rs Lm has lack at0S)
theorem infoA : (Tryz.prog.info? 60).map (fun i => (i.zero, i.size, i.bytes)) = some (some (.agg #[.int .i64 0, .int .u64 0, .string ByteArray.empty]), 3, 32) := by kernel_rfl
theorem infoH : (Tryz.prog.info? 110).map (fun i => (i.zero, i.size, i.bytes)) = some (some (.agg #[.int .i64 0, .int .u64 0, .bool false, .bool false, .bool false, .string ByteArray.empty]), 6, 40) := by kernel_rfl
theorem rv_one (y : Ra) : ∀ u ∈ rv y, u.oneCell' = true := by
 intro u hu
 simp only [rv, List.mem_cons, List.not_mem_nil, or_false] at hu
 rcases hu with rfl | rfl | rfl <;> rfl
theorem hv_one (f : Fr) : ∀ u ∈ hv f, u.oneCell' = true := by
 intro u hu
 simp only [hv, List.mem_cons, List.not_mem_nil, or_false] at hu
 rcases hu with rfl | rfl | rfl | rfl | rfl | rfl <;> rfl
section
variable {w : World} {ops : Array Oper} {o : Oper} {a : Act}
theorem step_append_at {K : Act → World → Prop} {Q : Exit → Act → World → Prop} {E : Prop} (hgd : o.guard = none) (s x : Operand)
  (ho : o.op = .call { callee := .builtin .append, args := #[s, x], argTypes := #[43, 43] })
  (base : Nat) (v : Value) (n : Nat) (l : List Ra) (hs : a.eval s = v) (hown : w.ownsRow base 60 3 v n (rcells l))
  (g c : Nat) (y : Ra) (hx : a.eval x = .slice (some ⟨g, 0, none⟩) 1 c) (hcell : ∀ j u, (rv y)[j]? = some u → w.cell? ((⟨g, 0, none⟩ : Addr).add j) = some u)
  (hn : n ≤ 1000000) (hbase : base ≤ w.heap.size)
  (h : ∀ v' w', w'.ownsRow base 60 3 v' (n + 1) (rcells (l ++ [y])) → w.grownBy w' v.ownBlock → K (a.put o.dst v') w') :
  if Region.wanted o (yielded ops a.tmps) = true then Oper.wp Tryz.prog o a w K Q else E := by
 obtain ⟨i0, hi, hq⟩ := Option.map_eq_some_iff.1 infoA
 simp only [Prod.mk.injEq] at hq
 refine step_append_gen hgd s x 43 ho base 60 i0 _ 3 32 Tryz.underlying43 hi hq.1 hq.2.1 hq.2.2 rfl (by decide) v n (rcells l) hs hown g 1 c (rv y) hx rfl hcell (rv_one y) (by unfold maxLen; omega) (by omega) hbase ?_
 intro v' w' h1 h2
 exact h v' w' (by rw [rcells_append]; simpa [rcells] using h1) h2
theorem step_append_hd {K : Act → World → Prop} {Q : Exit → Act → World → Prop} {E : Prop} (hgd : o.guard = none) (s x : Operand)
  (ho : o.op = .call { callee := .builtin .append, args := #[s, x], argTypes := #[71, 71] })
  (base : Nat) (v : Value) (n : Nat) (G : List Fr) (hs : a.eval s = v) (hown : w.ownsRow base 110 6 v n (hcells G))
  (g c : Nat) (f : Fr) (hx : a.eval x = .slice (some ⟨g, 0, none⟩) 1 c) (hcell : ∀ j u, (hv f)[j]? = some u → w.cell? ((⟨g, 0, none⟩ : Addr).add j) = some u)
  (hn : n ≤ 1000000) (hbase : base ≤ w.heap.size)
  (h : ∀ v' w', w'.ownsRow base 110 6 v' (n + 1) (hcells (f :: G)) → w.grownBy w' v.ownBlock → K (a.put o.dst v') w') :
  if Region.wanted o (yielded ops a.tmps) = true then Oper.wp Tryz.prog o a w K Q else E := by
 obtain ⟨i0, hi, hq⟩ := Option.map_eq_some_iff.1 infoH
 simp only [Prod.mk.injEq] at hq
 refine step_append_gen hgd s x 71 ho base 110 i0 _ 6 40 Tryz.underlying71 hi hq.1 hq.2.1 hq.2.2 rfl (by decide) v n (hcells G) hs hown g 1 c (hv f) hx rfl hcell (hv_one f) (by unfold maxLen; omega) (by omega) hbase ?_
 intro v' w' h1 h2
 exact h v' w' (by rw [hcells_cons]; exact h1) h2
end
theorem at_cells {w : World} {k : Nat} {cs ds : List Value} (he : ds = cs) (h : At w k 0 cs) : ∀ j u, ds[j]? = some u → w.cell? ((⟨k, 0, none⟩ : Addr).add j) = some u := fun j u hu => by
 subst he
 have := (h j u hu).1
 by_cases h0 : j = 0
 ·subst h0; simpa [Addr.add] using this
 ·simpa [Addr.add, h0] using this
section
variable {w w' : World} {g : Nat} {s : ByteArray} {L : Lm} {p : Nat} {l : List Am} {G : List Fr} {vn vs : Value} {ro : Int}
theorem Rd.below (h : Rd w g s L p l G vn vs ro) (hb : Below w.heap.size w w') : Rd w' g s L p l G vn vs ro :=
 ⟨h.at0.below hb h.lt, own_below h.nodes hb (nle _), own_below h.stack hb (nle _), nlt h.lt hb.size⟩
theorem Rd.alloc (h : Rd w g s L p l G vn vs ro) (o : Obj) : Rd (w.alloc o) g s L p l G vn vs ro :=
 ⟨h.at0.alloc o, h.nodes.alloc o, h.stack.alloc o, by simp; have := h.lt; omega⟩
theorem Rd.addAtom (h : Rd w g s L p l G vn vs ro) {l' : List Am} {v' : Value} (hg : w.grownBy w' vn.ownBlock) (ho : w'.ownsRow (g + 1) 60 3 v' l'.length (rcells (l'.map up))) :
  Rd (w'.setCell ⟨g, 7, none⟩ v') g s L p l' G v' vs ro := by
 have hlt := h.lt
 have hne : ∀ k, vn.ownBlock = some k → g + 1 ≤ k := fun k hk => (h.nodes.lt k hk).1
 have h1 := h.at0.grown hg hlt (fun e => by have := hne g e; omega)
 have h2 := h.stack.kept hg (by
  rcases own_ne h.stack h.nodes (Ne.symm kinds_ne) with h3 | h3
  ·exact .inl h3
  ·exact .inr h3)
 exact ⟨h1.set 7 v', ownsRow_setCell_below ho (Nat.lt_succ_self g) _, ownsRow_setCell_below h2 (Nat.lt_succ_self g) _, by
  rw [show (w'.setCell ⟨g, 7, none⟩ v').heap.size = w'.heap.size by simp [World.setCell]]
  exact nlt hlt hg.size⟩
theorem Rd.addFrame (h : Rd w g s L p l G vn vs ro) {G' : List Fr} {v' : Value} (hg : w.grownBy w' vs.ownBlock) (ho : w'.ownsRow (g + 1) 110 6 v' G'.length (hcells G')) :
  Rd (w'.setCell ⟨g, 8, none⟩ v') g s L p l G' vn v' ro := by
 have hlt := h.lt
 have hne : ∀ k, vs.ownBlock = some k → g + 1 ≤ k := fun k hk => (h.stack.lt k hk).1
 have h1 := h.at0.grown hg hlt (fun e => by have := hne g e; omega)
 have h2 := h.nodes.kept hg (by
  rcases own_ne h.nodes h.stack kinds_ne with h3 | h3
  ·exact .inl h3
  ·exact .inr h3)
 exact ⟨h1.set 8 v', ownsRow_setCell_below h2 (Nat.lt_succ_self g) _, ownsRow_setCell_below ho (Nat.lt_succ_self g) _, by
  rw [show (w'.setCell ⟨g, 8, none⟩ v').heap.size = w'.heap.size by simp [World.setCell]]
  exact nlt hlt hg.size⟩
end
theorem own_cap {w : World} {B e size n cap : Nat} {a : Option Addr} {xs : List Value} (h : w.ownsRow B e size (.slice a n cap) n xs) : n ≤ cap := by
 rcases h.2 with ⟨h1, h0⟩ | ⟨g, cap', cur, h1, _, _, h2, _⟩
 ·rw [h0]; exact Nat.zero_le _
 ·cases h1; exact h2
theorem tl_extract (s : ByteArray) (a b : Nat) : (s.extract a b).toList = (s.toList.drop a).take (b - a) := by
 rw [Lib.toList_data, Lib.toList_data, ByteArray.data_extract, Array.toList_extract, List.extract_eq_take_drop]
def RsEnd (r : Rs St) (g : Nat) (s : ByteArray) (L : Lm) (vn vs : Value) (ro : Int) (w : World) (e : Ending) (w' : World) : Prop :=
 match r with
 | .ok (.loop G l p) => e = .returned (.tuple #[]) ∧ Hid (Rd w' g s L p l G vn vs ro) ∧ Hid (Below g w w')
 | .no c q _ => No c q g w e w'
 | _ => False
theorem citemEnded_any (w : World) (g : Nat) (s : ByteArray) (L : Lm) (a p : Nat) (l : List Am) (G : List Fr) (vn vs : Value) (ro : Int) (hR : Rd w g s L p l G vn vs ro) (hop : ∀ f, G.head? = some f → 0 < f.left ∧ f.left < 18446744073709551616) (ha : a ≤ p) (hp : p ≤ s.size) (hz : s.size ≤ 140737488351232) :
  Calls Tryz.prog 51 #[.pointer (some ⟨g, 0, none⟩), .int .i64 (a : Int)] w (RsEnd (pendS s.toList Op.bytesLess G l a p) g s L vn vs ro w) := by
 have F := hid (fun c p w => fail_any c p w)
 have HR := hid hR
 cases G with
 | nil =>
  obtain ⟨ad, c, rfl, -⟩ := own_form hR.stack
  have hc8 := hR.at0.cell 8 _ rfl
  clear hR hz ha hp hop
  go_enter Tryz.func51, Tryz.ntmps51
  go_wp2_with fail
  first | go_end0 | refine bodyPost_ret (results_none rfl _ _ _) rfl ?_
  exact ⟨rfl, HR, Below.refl _ _⟩
 | cons f G =>
  have hf := hop f rfl
  obtain ⟨k, cap, rfl, hgk, hAt⟩ := hR.top
  have hc8 := hR.at0.cell 8 _ rfl
  obtain ⟨n, hn⟩ : ∃ n, G.length = n := ⟨_, rfl⟩
  rw [hn] at hAt hc8
  have ht1 := hAt.cell 1 _ rfl
  have ht2 := hAt.cell 2 _ rfl
  have ht3 := hAt.cell 3 _ rfl
  have ht4 := hAt.cell 4 _ rfl
  have ht5 := hAt.cell 5 _ rfl
  have hf1 := hAt.froz 1 (by rw [hv_length]; decide)
  have hf3 := hAt.froz 3 (by rw [hv_length]; decide)
  have hf4 := hAt.froz 4 (by rw [hv_length]; decide)
  have hf5 := hAt.froz 5 (by rw [hv_length]; decide)
  have WA := hid (fun (z : Nat) => wants_any (w.drewN z) _ _ _ _ ht2 ht3)
  have e4 : IntKind.i64.wrap (n : Int) = (n : Int) := wrap_fit n (by have := own_fit hR.stack; rw [lco, hn] at this; omega)
  have e5 : (n : Int) < (n : Int) + 1 := by omega
  have HHG := hid hn
  by_cases hkey : f.pairs = true ∧ f.value = false
  ·obtain ⟨u, hu⟩ : ∃ u, s.extract a p = u := ⟨_, rfl⟩
   have hul : u.toList = Dr.part s.toList a p := by rw [← hu, tl_extract]; rfl
   have PT := hid (fun w hT => part_ok w g s L.bytes p a p hT ha hp)
   rw [hu] at PT
   have KE := hid (fun (z : Nat) => key_any (w.drewN z) _ _ _ _ _ u ht4 ht3 ht5 hf4 hf3 hf5)
   have hcond : (f.pairs && !f.value) = true := by rw [hkey.1, hkey.2]; rfl
   rw [hcond] at WA
   obtain ⟨R, hRR⟩ : ∃ R, pendS s.toList Op.bytesLess (f :: G) l a p = R := ⟨_, rfl⟩
   rw [hRR]
   rw [pendS, if_pos hkey, ← hul] at hRR
   rw [tl_mk] at KE
   obtain ⟨b, hb⟩ : ∃ b, (f.keys && !Op.bytesLess f.last u.toList) = b := ⟨_, rfl⟩
   rw [hb] at KE
   have HRK := hid (fun (z : Nat) => (hR.drewN z).topKey hn u _ rfl)
   cases b with
   | true =>
    have HF : Hid (R = .no 9 a false) := by
     show R = _
     rw [← hRR, if_pos]
     rw [Bool.and_eq_true] at hb
     exact ⟨hb.1, by simpa using hb.2⟩
    clear hR hz ha hp hop hf hAt ht1 ht2 ht3 ht4 ht5 hf1 hf3 hf4 hf5 hn hkey hu hul hcond hRR hb
    go_enter Tryz.func51, Tryz.ntmps51
    go_wp2_with fail
    go_quiet (fail)
    go_wp2_with (first
     | (go_at_call 79; refine (WA.out _).mono ?_; rintro e w1 ⟨rfl, rfl⟩))
    go_region_held3 (fun _ => True) (trivial) (first
     | (go_at_call 56; refine (place_yes (HR.out.drewN _)).mono ?_; rintro e w1 ⟨rfl, rfl⟩)
     | (go_at_call 82; refine (PT.out _ (HR.out.drewN _).tx.1).mono ?_; rintro e w2 ⟨rfl, rfl⟩)
     | (go_at_call 81; refine (KE.out _).mono ?_; rintro e w3 ⟨rfl, rfl⟩))
    go_wp2_with (go_at_call 55; refine (F.out _ _ _).mono ?_; rintro e w4 ⟨rfl, rfl⟩)
    rw [HF.out]
    exact ⟨rfl, rfl, (((below_drewN _ _ _).setCell (Nat.le_of_lt hgk) _).setCell (Nat.le_of_lt hgk) _).setCell (Nat.le_of_lt hgk) _⟩
   | false =>
    have HF : Hid (R = .ok (.loop ({ f with keys := true, value := true, last := u.toList } :: G) l p)) := by
     show R = _
     rw [← hRR, if_neg]
     rintro ⟨h1, h2⟩
     rw [h1, h2] at hb
     cases hb
    clear hR hz ha hp hop hf hAt ht1 ht2 ht3 ht4 ht5 hf1 hf3 hf4 hf5 hn hkey hu hul hcond hRR hb
    go_enter Tryz.func51, Tryz.ntmps51
    go_wp2_with fail
    go_quiet (fail)
    go_wp2_with (first
     | (go_at_call 79; refine (WA.out _).mono ?_; rintro e w1 ⟨rfl, rfl⟩))
    go_region_held3 (fun _ => True) (trivial) (first
     | (go_at_call 56; refine (place_yes (HR.out.drewN _)).mono ?_; rintro e w1 ⟨rfl, rfl⟩)
     | (go_at_call 82; refine (PT.out _ (HR.out.drewN _).tx.1).mono ?_; rintro e w2 ⟨rfl, rfl⟩)
     | (go_at_call 81; refine (KE.out _).mono ?_; rintro e w3 ⟨rfl, rfl⟩))
    go_wp2_with fail
    first | go_end0 | refine bodyPost_ret (results_none rfl _ _ _) rfl ?_
    rw [HF.out]
    exact ⟨rfl, HRK.out _, (((below_drewN _ _ _).setCell (Nat.le_of_lt hgk) _).setCell (Nat.le_of_lt hgk) _).setCell (Nat.le_of_lt hgk) _⟩
  ·have hcond : (f.pairs && !f.value) = false := by
    cases h1 : f.pairs <;> cases h2 : f.value <;> simp_all
   rw [hcond] at WA
   obtain ⟨m, hm⟩ : ∃ m, f.left - 1 = m := ⟨_, rfl⟩
   have OT := hid (fun (z : Nat) => other_any (w.drewN z) _ _ _ (m : Int) _ ht1 ht3 hf1 hf3 (by omega) (u64c m (by omega)))
   have HRO := hid (fun (z : Nat) => (hR.drewN z).topOther hn m _ hm rfl)
   have hp1 : pendS s.toList Op.bytesLess (f :: G) l a p = .ok (.loop ({ f with value := false, left := f.left - 1 } :: G) l p) := by
    rw [pendS, if_neg hkey]
   rw [hp1]
   clear hR hz ha hp hop hf hAt ht1 ht2 ht3 ht4 ht5 hf1 hf3 hf4 hf5 hn hkey hcond hp1 hm
   go_enter Tryz.func51, Tryz.ntmps51
   go_wp2_with fail
   go_quiet (fail)
   go_wp2_with (first
    | (go_at_call 79; refine (WA.out _).mono ?_; rintro e w1 ⟨rfl, rfl⟩)
    | (go_at_call 80; refine (OT.out _).mono ?_; rintro e w1 ⟨rfl, rfl⟩))
   first | go_end0 | refine bodyPost_ret (results_none rfl _ _ _) rfl ?_
   exact ⟨rfl, HRO.out _, ((below_drewN _ _ _).setCell (Nat.le_of_lt hgk) _).setCell (Nat.le_of_lt hgk) _⟩
end Co
end Go.Proofs.YtikgonlhdkknkaaGreatDoor
namespace Go.Proofs.YtikgonlhdkknkaaGreatDoor
open Go.RowKit
namespace Co
open Dr (Rs Lm has lack at0S)
def elT (S : List UInt8) (L : Lm) (G : List Fr) (l : List Am) (p : Nat) : Rs St :=
 match elS S L Lib.validD G l p with
 | .ok (.pend G l a q) => pendS S Op.bytesLess G l a q
 | .ok s => .ok s
 | .no e q b => .no e q b
def RsAll (r : Rs St) (g : Nat) (s : ByteArray) (L : Lm) (ro : Int) (w : World) (e : Ending) (w' : World) : Prop :=
 match r with
 | .ok (.loop G l p) => e = .returned (.tuple #[]) ∧ (∃ vn vs, Hid (Rd w' g s L p l G vn vs ro)) ∧ Hid (Below g w w')
 | .no c q _ => No c q g w e w'
 | _ => False
def U8 (w : World) : Prop := Lib.Utf8Tabs (SlaysValid_ren.g 3) (SlaysValid_ren.g 4) w
theorem cvalid_any (s : ByteArray) (w : World) (hs : s.size ≤ 140737488351232) (hU : U8 w) : Calls Tryz.prog 68 #[.string s] w (fun e w' => e = .returned (.bool (Lib.validD s.toList)) ∧ Below w.heap.size w w') := by
 rw [Lib.toList_data]
 exact Any.utf8_ValidString SlaysValid s w (by omega) hU
def UT (g : Nat) (w : World) : Prop := U8 w ∧ SlaysValid_ren.g 3 < g ∧ SlaysValid_ren.g 4 < g
theorem UT.below {g : Nat} {w w' : World} (h : UT g w) (hb : Below g w w') : UT g w' :=
 ⟨⟨fun c hc => (hb.cell (p := ⟨SlaysValid_ren.g 3, c, none⟩) h.2.1).trans (h.1.1 c hc), fun i hi => ⟨(hb.cell (p := ⟨SlaysValid_ren.g 4, _, none⟩) h.2.2).trans (h.1.2 i hi).1, (hb.cell (p := ⟨SlaysValid_ren.g 4, _, none⟩) h.2.2).trans (h.1.2 i hi).2⟩⟩, h.2⟩
theorem UT.mono {g g' : Nat} {w : World} (h : UT g w) (hg : g ≤ g') : UT g' w := ⟨h.1, nlt h.2.1 hg, nlt h.2.2 hg⟩
theorem UT.at {w w' : World} (h : UT w.heap.size w) (hb : Below w.heap.size w w') : UT w'.heap.size w' := (h.below hb).mono hb.size
theorem cclone_any (s : ByteArray) (w : World) (h : s.size ≤ 281474976710656) : Calls Tryz.prog 38 #[.string s] w (fun e w' => e = .returned (.string s) ∧ Hid (Below w.heap.size w w')) := by
 have C := hid (fun w => Sstringslite_Clone s w h)
 clear h
 go_enter Tryz.func38, Tryz.ntmps38
 go_wp2_with (go_at_call 59; refine (C.out _).mono ?_; rintro e w1 ⟨rfl, hb⟩)
 go_ret
 exact ⟨rfl, hb⟩
def Gd (G : List Fr) (p : Nat) : Prop := ∀ f ∈ G, 0 < f.left ∧ f.left < 18446744073709551616 ∧ f.p0 ≤ p
theorem Gd.head {G : List Fr} {p : Nat} (h : Gd G p) : ∀ f, G.head? = some f → 0 < f.left ∧ f.left < 18446744073709551616 := fun f hf => by
 have h1 := h f (List.mem_of_mem_head? hf)
 exact ⟨h1.1, h1.2.1⟩
def ElHyp (w : World) (g : Nat) (s : ByteArray) (L : Lm) (p : Nat) (l : List Am) (G : List Fr) (vn vs : Value) (ro : Int) : Prop :=
 Rd w g s L p l G vn vs ro ∧ Gd G p ∧ p ≤ s.size ∧ s.size ≤ 140737488351232 ∧ L.items ≤ 4096 ∧ L.depth ≤ 32 ∧ L.bytes ≤ 262144 ∧ UT g w
section
variable {S : List UInt8} {L : Lm} {G : List Fr} {l : List Am} {p : Nat}
theorem elT_lack (h : has S L p = false) : elT S L G l p = lack S L := by rw [elT, elS, if_pos h]; rfl
theorem elT_items (h : has S L p = true) (h2 : L.items ≤ l.length) : elT S L G l p = .no 10 p false := by rw [elT, elS, if_neg (by rw [h]; decide), if_pos h2]
theorem elT_bad (h : has S L p = true) (h2 : ¬ L.items ≤ l.length) (h3 : headE (S.getD p 0) ≠ 0) : elT S L G l p = .no (headE (S.getD p 0)) p false := by rw [elT, elS, if_neg (by rw [h]; decide), if_neg h2, if_pos h3]
theorem elT_arg (h : has S L p = true) (h2 : ¬ L.items ≤ l.length) (h3 : headE (S.getD p 0) = 0) {e : Int} {q : Nat} {b : Bool} (h4 : argR S L p = .no e q b) : elT S L G l p = .no e q b := by rw [elT, elS, if_neg (by rw [h]; decide), if_neg h2, if_neg (by rw [h3]; decide), h4]
section
variable (h : has S L p = true) (h2 : ¬ L.items ≤ l.length) (h3 : headE (S.getD p 0) = 0) {n : Nat} (h4 : argR S L p = .ok n) {k q : Nat} (hk : kindT (S.getD p 0) = k) (hq : p + 1 + widT (S.getD p 0) = q)
include h h2 h3 h4 hk hq
theorem elT_short (h5 : k = 2 ∨ k = 3) (h6 : n ≠ 0 ∧ has S L (q + n - 1) = false) : elT S L G l p = lack S L := by
 subst hk hq
 rw [elT, elS, if_neg (by rw [h]; decide), if_neg h2, if_neg (by rw [h3]; decide), h4]
 dsimp only
 rw [if_pos h5, if_pos h6]
 rfl
theorem elT_utf (h5 : k = 3) (h6 : ¬ (n ≠ 0 ∧ has S L (q + n - 1) = false)) (h7 : Lib.validD (Dr.part S q (q + n)) = false) : elT S L G l p = .no 9 p false := by
 subst hq
 rw [elT, elS, if_neg (by rw [h]; decide), if_neg h2, if_neg (by rw [h3]; decide), h4]
 dsimp only
 rw [hk, if_pos (.inr h5), if_neg h6, if_pos ⟨h5, h7⟩]
theorem elT_text (h5 : k = 2 ∨ k = 3) (h6 : ¬ (n ≠ 0 ∧ has S L (q + n - 1) = false)) (h7 : ¬ (k = 3 ∧ Lib.validD (Dr.part S q (q + n)) = false)) : elT S L G l p = pendS S Op.bytesLess G (l ++ [⟨k, 0, Dr.part S q (q + n)⟩]) p (q + n) := by
 subst hq
 rw [elT, elS, if_neg (by rw [h]; decide), if_neg h2, if_neg (by rw [h3]; decide), h4]
 dsimp only
 rw [hk, if_pos h5, if_neg h6, if_neg h7]
theorem elT_deep (h5 : holds k = true) (h6 : L.depth ≤ G.length) : elT S L G l p = .no 10 p false := by
 have h9 := hq
 clear h9
 rw [elT, elS, if_neg (by rw [h]; decide), if_neg h2, if_neg (by rw [h3]; decide), h4]
 dsimp only
 rw [hk, if_neg (holds_not h5), if_pos h5, if_pos h6]
theorem elT_hold (h5 : holds k = true) (h6 : ¬ L.depth ≤ G.length) : elT S L G l p = .ok (.loop (fr0 ⟨k, n, []⟩ p :: G) (l ++ [⟨k, n, []⟩]) q) := by
 subst hq
 rw [elT, elS, if_neg (by rw [h]; decide), if_neg h2, if_neg (by rw [h3]; decide), h4]
 dsimp only
 rw [hk, if_neg (holds_not h5), if_pos h5, if_neg h6]
 rfl
theorem elT_plain (h5 : ¬ (k = 2 ∨ k = 3)) (h6 : holds k = false) : elT S L G l p = pendS S Op.bytesLess G (l ++ [⟨k, n, []⟩]) p q := by
 subst hq
 rw [elT, elS, if_neg (by rw [h]; decide), if_neg h2, if_neg (by rw [h3]; decide), h4]
 dsimp only
 rw [hk, if_neg h5, if_neg (by rw [h6]; decide)]
end
end
theorem RsEnd.cases {r : Rs St} {g : Nat} {s : ByteArray} {L : Lm} {vn vs : Value} {ro : Int} {w0 w : World} {e : Ending} {w' : World} (h : RsEnd r g s L vn vs ro w e w') (hb : Below g w0 w) :
  (e = .returned (.tuple #[]) ∧ RsAll r g s L ro w0 e w') ∨ ∃ ps, e = .panicked ps ∧ RsAll r g s L ro w0 (.panicked ps) w' :=
 match r, h with
 | .ok (.loop G l p), h => Or.inl ⟨h.1, h.1, ⟨_, _, h.2.1⟩, hb.trans h.2.2.out⟩
 | .no c q b, h => Or.inr ⟨_, h.1, rfl, hb.trans h.2⟩
theorem Rd.hideA {w : World} {g : Nat} {s : ByteArray} {L : Lm} {p : Nat} {l : List Am} {G : List Fr} {vn vs : Value} {ro : Int} {T : Nat} (h : Rd w g s L p l G vn vs ro) (hne : vn.ownBlock = some T → False) : ∃ vN, w.cell? ⟨g, 7, none⟩ = some vN ∧ w.frozen? ⟨g, 7, none⟩ = false ∧ Hid (Rd w g s L p l G vN vs ro) ∧ Hid (vN.ownBlock = some T → False) :=
 ⟨vn, h.at0.cell 7 _ rfl, h.at0.froz 7 (by simp), h, hne⟩
theorem item_lack (w : World) (g : Nat) (s : ByteArray) (L : Lm) (p : Nat) (l : List Am) (G : List Fr) (vn vs : Value) (ro : Int) (hyp : ElHyp w g s L p l G vn vs ro) (h0 : ¬ (p < s.size ∧ p < L.bytes)) :
  Calls Tryz.prog 49 #[.pointer (some ⟨g, 0, none⟩)] w (RsAll (elT s.toList L G l p) g s L ro w) := by
 obtain ⟨hR, hG, hp, hz, hLi, hLd, hLb, hU⟩ := hyp
 have F := hid (fun c p w => fail_any c p w)
 have HR := hid hR
 have N := hid (next_lack hR h0 (by omega))
 rw [elT_lack (has_no s L p h0), lack_eq]
 clear hR hG hp hz hLi hLd hLb hU h0
 go_enter Tryz.func49, Tryz.ntmps49
 go_wp2_with (first
  | (go_at_call 56; refine (place_yes (by first | exact HR2.out | exact HR1.out | exact HR.out)).mono ?_; rintro e wp ⟨rfl, rfl⟩)
  | (go_at_call 54; refine N.out.mono ?_; rintro e w1 ⟨rfl, hb⟩))
 exact ⟨rfl, rfl, hb⟩
theorem item_items (w : World) (g : Nat) (s : ByteArray) (L : Lm) (p : Nat) (l : List Am) (G : List Fr) (vn vs : Value) (ro : Int) (hyp : ElHyp w g s L p l G vn vs ro) (h0 : p < s.size ∧ p < L.bytes) (t : Nat) (ht : (s.toList.getD p 0).toNat = t) (h2 : L.items ≤ l.length) :
  Calls Tryz.prog 49 #[.pointer (some ⟨g, 0, none⟩)] w (RsAll (elT s.toList L G l p) g s L ro w) := by
 obtain ⟨hR, hG, hp, hz, hLi, hLd, hLb, hU⟩ := hyp
 have F := hid (fun c p w => fail_any c p w)
 have HR := hid hR
 have N := hid (next_yes hR h0.1 h0.2 hz t ht)
 have hh := has_yes s L p h0
 obtain ⟨m, hm⟩ : ∃ m, l.length = m := ⟨_, rfl⟩
 rw [elT_items hh h2]
 obtain ⟨an, cn, rfl, -⟩ := own_form hR.nodes
 rw [hm] at HR h2
 have e1 : (L.items : Int) ≤ (m : Int) := by omega
 clear hG hp hz hLi hLd hLb hU h0 hh h2 ht
 go_enter Tryz.func49, Tryz.ntmps49
 go_wp2_with (first
  | (go_at_call 56; refine (place_yes (by first | exact HR2.out | exact HR1.out | exact HR.out)).mono ?_; rintro e wp ⟨rfl, rfl⟩)
  | (go_at_call 54; refine N.out.mono ?_; rintro e w1 ⟨rfl, HR1, HB1⟩))
 have hc4 := HR1.out.at0.cell 4 _ rfl
 have hc7 := HR1.out.at0.cell 7 _ rfl
 rw [hm] at hc7
 go_quiet (fail)
 go_wp2_with (first
  | (go_at_call 55; refine (F.out _ _ _).mono ?_; rintro e wf ⟨rfl, rfl⟩))
 exact ⟨rfl, rfl, HB1.out.trans (below_drewN _ _ _)⟩
theorem item_bad (w : World) (g : Nat) (s : ByteArray) (L : Lm) (p : Nat) (l : List Am) (G : List Fr) (vn vs : Value) (ro : Int) (hyp : ElHyp w g s L p l G vn vs ro) (h0 : p < s.size ∧ p < L.bytes) (t : Nat) (ht : (s.toList.getD p 0).toNat = t) (h2 : ¬ L.items ≤ l.length) (h3 : headE (s.toList.getD p 0) ≠ 0) :
  Calls Tryz.prog 49 #[.pointer (some ⟨g, 0, none⟩)] w (RsAll (elT s.toList L G l p) g s L ro w) := by
 obtain ⟨hR, hG, hp, hz, hLi, hLd, hLb, hU⟩ := hyp
 have F := hid (fun c p w => fail_any c p w)
 have HR := hid hR
 have N := hid (next_yes hR h0.1 h0.2 hz t ht)
 have hh := has_yes s L p h0
 obtain ⟨m, hm⟩ : ∃ m, l.length = m := ⟨_, rfl⟩
 rw [elT_bad hh h2 h3]
 obtain ⟨an, cn, rfl, -⟩ := own_form hR.nodes
 obtain ⟨as_, cs, rfl, -⟩ := own_form hR.stack
 obtain ⟨gl, hgl⟩ : ∃ gl, G.length = gl := ⟨_, rfl⟩
 rw [hm, hgl] at HR
 have HM := hid hm
 have HGL := hid hgl
 have e1 : ¬ (L.items : Int) ≤ (m : Int) := by omega
 have e1b : decide ((L.items : Int) ≤ (m : Int)) = false := dfa e1
 obtain ⟨c, hc⟩ : ∃ c, headE (s.toList.getD p 0) = c := ⟨_, rfl⟩
 rw [hc] at h3 ⊢
 have AR := hid (fun w' vn vs (hR' : Rd w' g s L (p + 1) l G vn vs ro) => argument_bad w' g s L p l G vn vs ro hR' t ht c hc h3 (by omega))
 clear hR hG hp hz hLi hLd hLb hU h0 hh h2 h3 hc ht hm hgl
 go_enter Tryz.func49, Tryz.ntmps49
 go_wp2_with (first
  | (go_at_call 56; refine (place_yes (by first | exact HR2.out | exact HR1.out | exact HR.out)).mono ?_; rintro e wp ⟨rfl, rfl⟩)
  | (go_at_call 54; refine N.out.mono ?_; rintro e w1 ⟨rfl, HR1, HB1⟩))
 have hc4 := HR1.out.at0.cell 4 _ rfl
 have hc7 := HR1.out.at0.cell 7 _ rfl
 rw [HM.out] at hc7
 go_quiet (fail)
 clear hc4 hc7
 go_wp2_with (first
  | (go_at_call 75; refine (AR.out _ _ _ (by first | exact HR1.out.drewN _ | (rw [HM.out, HGL.out]; exact HR1.out.drewN _))).mono ?_; rintro e w2 ⟨rfl, hb⟩))
 exact ⟨rfl, rfl, (HB1.out.trans (below_drewN _ _ _)).trans hb⟩
theorem item_arg (w : World) (g : Nat) (s : ByteArray) (L : Lm) (p : Nat) (l : List Am) (G : List Fr) (vn vs : Value) (ro : Int) (hyp : ElHyp w g s L p l G vn vs ro) (h0 : p < s.size ∧ p < L.bytes) (t : Nat) (ht : (s.toList.getD p 0).toNat = t) (h2 : ¬ L.items ≤ l.length) (h3 : headE (s.toList.getD p 0) = 0) (c : Int) (q : Nat) (b : Bool) (hA : argR s.toList L p = .no c q b) :
  Calls Tryz.prog 49 #[.pointer (some ⟨g, 0, none⟩)] w (RsAll (elT s.toList L G l p) g s L ro w) := by
 obtain ⟨hR, hG, hp, hz, hLi, hLd, hLb, hU⟩ := hyp
 have F := hid (fun c p w => fail_any c p w)
 have HR := hid hR
 have N := hid (next_yes hR h0.1 h0.2 hz t ht)
 have hh := has_yes s L p h0
 obtain ⟨m, hm⟩ : ∃ m, l.length = m := ⟨_, rfl⟩
 rw [elT_arg hh h2 h3 hA]
 obtain ⟨an, cn, rfl, -⟩ := own_form hR.nodes
 obtain ⟨as_, cs, rfl, -⟩ := own_form hR.stack
 obtain ⟨gl, hgl⟩ : ∃ gl, G.length = gl := ⟨_, rfl⟩
 rw [hm, hgl] at HR
 have HM := hid hm
 have HGL := hid hgl
 have e1 : ¬ (L.items : Int) ≤ (m : Int) := by omega
 have e1b : decide ((L.items : Int) ≤ (m : Int)) = false := dfa e1
 have AR := hid (fun w' vn vs (hR' : Rd w' g s L (p + 1) l G vn vs ro) => argument_any w' g s L p l G vn vs ro hR' t ht h3 (by omega) hz)
 rw [hA] at AR
 clear hR hG hp hz hLi hLd hLb hU h0 hh h2 h3 hA ht hm hgl
 go_enter Tryz.func49, Tryz.ntmps49
 go_wp2_with (first
  | (go_at_call 56; refine (place_yes (by first | exact HR2.out | exact HR1.out | exact HR.out)).mono ?_; rintro e wp ⟨rfl, rfl⟩)
  | (go_at_call 54; refine N.out.mono ?_; rintro e w1 ⟨rfl, HR1, HB1⟩))
 have hc4 := HR1.out.at0.cell 4 _ rfl
 have hc7 := HR1.out.at0.cell 7 _ rfl
 rw [HM.out] at hc7
 go_quiet (fail)
 clear hc4 hc7
 go_wp2_with (first
  | (go_at_call 75; refine (AR.out _ _ _ (by first | exact HR1.out.drewN _ | (rw [HM.out, HGL.out]; exact HR1.out.drewN _))).mono ?_; rintro e w2 ⟨rfl, hb⟩))
 exact ⟨rfl, rfl, (HB1.out.trans (below_drewN _ _ _)).trans hb⟩
end Co
end Go.Proofs.YtikgonlhdkknkaaGreatDoor
namespace Go.Proofs.YtikgonlhdkknkaaGreatDoor
open Go.RowKit
namespace Co
open Dr (Rs Lm has lack at0S)
theorem item_plain (w : World) (g : Nat) (s : ByteArray) (L : Lm) (p : Nat) (l : List Am) (G : List Fr) (vn vs : Value) (ro : Int) (hyp : ElHyp w g s L p l G vn vs ro) (h0 : p < s.size ∧ p < L.bytes) (t : Nat) (ht : (s.toList.getD p 0).toNat = t) (h2 : ¬ L.items ≤ l.length) (h3 : headE (s.toList.getD p 0) = 0) (n : Nat) (hA : argR s.toList L p = .ok n) (k : Nat) (hk : kindT (s.toList.getD p 0) = k) (q : Nat) (hq : p + 1 + widT (s.toList.getD p 0) = q) (h5 : ¬ (k = 2 ∨ k = 3)) (h6 : holds k = false) :
  Calls Tryz.prog 49 #[.pointer (some ⟨g, 0, none⟩)] w (RsAll (elT s.toList L G l p) g s L ro w) := by
 obtain ⟨hR, hG, hp, hz, hLi, hLd, hLb, hU⟩ := hyp
 have F := hid (fun c p w => fail_any c p w)
 have HR := hid hR
 have N := hid (next_yes hR h0.1 h0.2 hz t ht)
 have hh := has_yes s L p h0
 obtain ⟨m, hm⟩ : ∃ m, l.length = m := ⟨_, rfl⟩
 obtain ⟨an, cn, rfl, -⟩ := own_form hR.nodes
 obtain ⟨as_, cs, rfl, -⟩ := own_form hR.stack
 obtain ⟨gl, hgl⟩ : ∃ gl, G.length = gl := ⟨_, rfl⟩
 rw [hm, hgl] at HR
 have HM := hid hm
 have HGL := hid hgl
 have e1 : ¬ (L.items : Int) ≤ (m : Int) := by omega
 have e1b : decide ((L.items : Int) ≤ (m : Int)) = false := dfa e1
 have ht2 : t < 256 := by rw [← ht]; exact (s.toList.getD p 0).toNat_lt
 have hkt : t / 32 = k := by rw [← hk, kindT, ht]
 have AR := hid (fun w' vn vs (hR' : Rd w' g s L (p + 1) l G vn vs ro) => argument_any w' g s L p l G vn vs ro hR' t ht h3 (by omega) hz)
 rw [hA, hq] at AR
 have KI := hid (fun w => kind_any t k ht2 hkt w)
 have HO := hid (fun w => holds_any k w)
 have hinv := argR_inv (L := L) hh h3 hA
 rw [hq, tl_size] at hinv
 have hn64 := hinv.2.2.1
 have hqs := hinv.2.2.2
 obtain ⟨RR, hRR⟩ : ∃ R, elT s.toList L G l p = R := ⟨_, rfl⟩
 rw [hRR]
 rw [elT_plain hh h2 h3 hA hk hq h5 h6] at hRR
 have HRR := hid hRR
 have HG := hid (aIn hG (aIn (show p ≤ q by omega) (aIn hqs hz)))
 have HIT := hid (show l.length ≤ 1000000 by omega)
 have e2 : ((k : Int) == 2) = false := by rw [beq_eq_false_iff_ne]; omega
 have e3 : ((k : Int) == 3) = false := by rw [beq_eq_false_iff_ne]; omega
 rw [h6] at HO
 have HAV : Hid (rv (up ⟨k, n, []⟩) = (#[Value.int .i64 (k : Int), Value.int .u64 (n : Int), Value.string ByteArray.empty]).toList) := rfl
 clear hR hG hp hz hLi hLd hLb hU h0 hh h2 h3 hA ht hm hgl hRR hinv hn64 hqs hk hq h5 h6 hkt ht2
 go_enter Tryz.func49, Tryz.ntmps49
 go_wp2_with (first
  | (go_at_call 56; refine (place_yes (by first | exact HR2.out | exact HR1.out | exact HR.out)).mono ?_; rintro e wp ⟨rfl, rfl⟩)
  | (go_at_call 54; refine N.out.mono ?_; rintro e w1 ⟨rfl, HR1, HB1⟩))
 have hc4 := HR1.out.at0.cell 4 _ rfl
 have hc7 := HR1.out.at0.cell 7 _ rfl
 rw [HM.out] at hc7
 go_quiet (fail)
 clear hc4 hc7
 go_wp2_with (first
  | (go_at_call 75; refine (AR.out _ _ _ (by first | exact HR1.out.drewN _ | (rw [HM.out, HGL.out]; exact HR1.out.drewN _))).mono ?_; rintro e w2 ⟨rfl, HR2, HB2⟩; have hT0 := (At.ofAlloc w2 #[.int .i64 (k : Int), .int .u64 (n : Int), .string ByteArray.empty] 60).cell 0 _ rfl; rw [Nat.zero_add] at hT0)
  | (go_at_call 76; refine (KI.out _).mono ?_; rintro e wk ⟨rfl, rfl⟩))
 obtain ⟨T, hT⟩ : ∃ T, w2.heap.size = T := ⟨_, rfl⟩
 have HRB := hid HR2.out.nodes
 obtain ⟨wa, hwa⟩ : ∃ x, w2.alloc (Obj.cells #[Value.int .i64 (k : Int), Value.int .u64 (n : Int), Value.string ⟨#[]⟩] 60) = x := ⟨_, rfl⟩
 have HRA0 : Hid (Rd wa g s L q l G (.slice an l.length cn) (.slice as_ G.length cs) ro) := by rw [← hwa]; exact HR2.out.alloc _
 have HTA0 : At wa T 0 [.int .i64 (k : Int), .int .u64 (n : Int), .string ByteArray.empty] := by rw [← hwa, ← hT]; exact At.ofAlloc w2 #[Value.int .i64 (k : Int), Value.int .u64 (n : Int), Value.string ByteArray.empty] 60
 have HTL0 : T < wa.heap.size ∧ g ≠ T := by
  have h1 := HR2.out.lt
  refine ⟨by rw [← hwa, ← hT]; simp, by omega⟩
 have HRG : Hid (g < T) := by have h1 := HR2.out.lt; show g < T; omega
 have HGT : Hid (g ≤ T) := by have h1 := HR2.out.lt; show g ≤ T; omega
 have HBA : Hid (Below g w wa) := by rw [← hwa]; exact ((HB1.out.trans (below_drewN _ _ _)).trans HB2.out).alloc (Nat.le_of_lt HR2.out.lt) _
 have HNE0 : Hid ((Value.slice an l.length cn).ownBlock = some T → False) := fun e => by have h1 := (HRB.out.lt T e).2; omega
 have HNS0 : Hid ((Value.slice as_ G.length cs).ownBlock = some T → False) := fun e => by have h1 := (HR2.out.stack.lt T e).2; omega
 rw [hT, hwa]
 clear hwa hT hT0
 obtain ⟨vN, hvN, hfN, HRA, HNE⟩ := HRA0.out.hideA (T := T) HNE0.out
 have HTA := hid HTA0
 have HTL : Hid (T < wa.heap.size ∧ g ≠ T ∧ (vN.ownBlock = some T → False)) := ⟨HTL0.1, HTL0.2, HNE.out⟩
 have hT0 := HTA0.z 0 _ rfl
 have hT1 := HTA0.cell 1 _ rfl
 have hT2 := HTA0.cell 2 _ rfl
 go_quiet (first | (go_at_call 71; exact (HO.out _).mono fun _ _ h => ⟨h.1, _, h.2.symm⟩))
 go_wp2_with fail
 have hA7 : ∀ (z : Nat) (ob : Obj), ((wa.drewN z).alloc ob).cell? ⟨g, 7, none⟩ = some vN := fun z ob => (((HRA.out.drewN z).alloc ob).at0).cell 7 _ rfl
 have hf7 : ∀ (z : Nat) (ob : Obj), ((wa.drewN z).alloc ob).frozen? ⟨g, 7, none⟩ = false := fun z ob => (((HRA.out.drewN z).alloc ob).at0).froz 7 (by simp)
 go_cut [] from 88 to 97 (fun wx => ∃ vN', Rd wx g s L q (l ++ [⟨k, n, []⟩]) G vN' (.slice as_ G.length cs) ro ∧ At wx T 0 [.int .i64 (k : Int), .int .u64 (n : Int), .string ByteArray.empty] ∧ Below g w wx)
 case first =>
  go_wp2_with fail
  go_region_law (refine step_append_at rfl (.tmp 92) (.tmp 94) rfl (g + 1) _ l.length (l.map up) rfl ((own_drewN HRA.out.nodes _).alloc _) _ 1 (up ⟨k, n, []⟩) rfl (at_cells HAV.out (At.ofAlloc _ #[Value.int .i64 (k : Int), Value.int .u64 (n : Int), Value.string ByteArray.empty] 60)) (by have := HIT.out; omega) (by have := HRA.out.lt; simp; omega) ?_; intro v' w3 hown3 hgrow3; obtain ⟨a3, c3, hv3, -⟩ := own_form hown3; subst hv3; have hAt3 := At.grown (((HRA.out.drewN _).alloc _).at0) hgrow3 ((HRA.out.drewN _).alloc _).lt (fun e => by have := (HRA.out.nodes.lt g e).1; omega); have hf73 := hAt3.froz 7 (by simp); have hc73 := hAt3.cell 7 _ rfl; have HR3 := hid (Rd.addAtom (l' := l ++ [⟨k, n, []⟩]) ((HRA.out.drewN _).alloc _) hgrow3 (by rw [lap, List.map_append]; exact hown3)); have HT3 := hid ((At.grown ((HTA.out.drewN _).alloc _) hgrow3 (by have := HTL.out.1; simp; omega) HTL.out.2.2).other g 7 (.slice a3 (l.length + 1) c3) (Or.inl HTL.out.2.1)); have HB3 := hid ((((below_drewN g wa _).alloc (Nat.le_of_lt HRA.out.lt) _).grown hgrow3 (by have := HRA.out.lt; simp; omega) (fun k hk => by have := (HRA.out.nodes.lt k hk).1; omega)).setCell (p := ⟨g, 7, none⟩) (nle _) (.slice a3 (l.length + 1) c3)); clear hAt3 hgrow3 hown3)
  all_goals
   go_wp2_with fail
   go_meet
   case rel => exact ⟨_, HR3.out, HT3.out, HBA.out.trans HB3.out⟩
 case rest =>
  obtain ⟨vN2, hR4, hT4, hB4⟩ := hcut
  have HR4 := hid hR4
  have HB4 := hid hB4
  have hT5 := hT4.z 0 _ rfl
  clear hR4 hB4 hvN hfN hA7 hf7 hT0 hT1 hT2 HTA0
  go_wp2_with (first
   | (go_at_call 71; refine (HO.out _).mono ?_; rintro e wh ⟨rfl, rfl⟩))
  refine (citemEnded_any _ g s L p q _ G _ _ ro HR4.out HG.out.1.head HG.out.2.1 HG.out.2.2.1 HG.out.2.2.2).mono ?_
  intro e w8 h8
  rw [HRR.out] at h8
  rcases RsEnd.cases h8 HB4.out with ⟨rfl, h9⟩ | ⟨ps, rfl, h9⟩
  ·have H9 := hid h9
   clear h8 h9
   go_wp2_with fail
   first | go_end0 | refine bodyPost_ret (results_none rfl _ _ _) rfl ?_
   exact H9.out
  ·exact ⟨rfl, h9⟩
end Co
end Go.Proofs.YtikgonlhdkknkaaGreatDoor
