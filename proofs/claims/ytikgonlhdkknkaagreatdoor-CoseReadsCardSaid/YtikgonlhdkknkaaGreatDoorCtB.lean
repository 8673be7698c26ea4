import Derived.Test.YtikgonlhdkknkaaGreatDoorCtA
import Derived.Room.AppendFits
import Derived.Deep.DeepAppendWide
import Derived.Deep.LoopGhost
set_option maxRecDepth 100000
set_option maxHeartbeats 1600000
set_option linter.unusedVariables false
set_option linter.unusedSimpArgs false
open Go.Lib (hid)
namespace Go.Proofs.YtikgonlhdkknkaaGreatDoor
open Go.RowKit
namespace Co
open Dr (Rs Lm has lack at0S)
section
variable {P : Program} {w : World}
theorem run_append_tx (base : Nat) (t u ty e : TypeId) (i : TypeInfo) (ht : P.underlying t = some (.slice e)) (hu : P.underlying u = some .string) (hi : P.info? e = some i) (hz : i.zero = some (.int .u8 0)) (hsize : i.size = 1) (hby : i.bytes = 1)
  (v : Value) (n : Nat) (l : List UInt8) (hown : w.ownsRow base e 1 v n (bcells l)) (s : ByteArray) (hn : n ≤ 262144) (hs : s.size ≤ 140737488351232) (hbase : base ≤ w.heap.size) :
  ∃ v' w', (Builtin.append_ #[t, u] ty #[v, .string s]).run P w = .ok v' w' ∧ w'.ownsRow base e 1 v' (n + s.size) (bcells (l ++ s.toList)) ∧ w.grownBy w' v.ownBlock := by
 have e1 : Lib.strCells s = bcells s.toList := by
  rw [Lib.toList_data]
  simp [Lib.strCells, bcells]
 rw [bcells_append, ← e1]
 by_cases hb : n + s.size ≤ 140737488355328
 ·obtain ⟨v', w', h1, h2, h3, -⟩ := Lib.run_append_own_string (P := P) w base t u ty e i ht hu hi hz hsize hby v n _ hown s (by unfold maxLen; omega) hb hbase
  exact ⟨v', w', h1, h2, h3⟩
 ·rcases hown.2 with ⟨rfl, rfl⟩ | ⟨g, cap, cur, rfl, hbg, hg, hnc, hcm, hcs, htake⟩
  ·omega
  ·by_cases hroom : n + s.size ≤ cap
   ·obtain ⟨w', h1, h2, h3⟩ := Lib.run_append_fits_string (P := P) w base t u ty e i ht hu hi hsize _ n cap _ hown s (by omega) hroom
    exact ⟨_, w', h1, h2, h3⟩
   ·have hxl : (bcells l).length = n := by simpa using hown.1
    have hcell : ∀ j x, (bcells l)[j]? = some x → w.cell? ((⟨g, 0, none⟩ : Addr).add j) = some x := hown.cells (g := g) rfl
    have hr := Lib.run_append_grow_string (P := P) w t u ty e i (.int .u8 0) ht hu hi hz ⟨g, 0, none⟩ n cap (bcells l) (by rw [hsize, hxl, Nat.mul_one]) hcell s (by omega) (by omega) (by rw [hby]; exact growslice_fits_wide (by omega) (by omega))
    refine ⟨_, _, hr, ⟨by rw [lap, hxl, Lib.strCells_length, Nat.mul_one], .inr ⟨w.heap.size, _, _, rfl, hbase, heap_alloc_new w.drew _, grownCap_ge _ _ _ _, grownCap_le_maxLen _ _ _ _ (by unfold maxLen; omega), ?_, ?_⟩⟩, ⟨rfl, rfl, rfl, by simp, fun k hk _ => heap_alloc_old w.drew _ hk⟩⟩
    ·have h9 := grownCap_ge w (n + s.size) cap e
     have h8 : (Value.int IntKind.u8 0).cells.size = 1 := rfl
     simp only [Array.size_append, List.size_toArray, size_zeroCells, h8, hxl, Lib.strCells_length]
     omega
    ·have h7 : (n + s.size) * 1 = (bcells l ++ Lib.strCells s).length := by rw [lap, hxl, Lib.strCells_length, Nat.mul_one]
     simp only [Array.toList_append, List.append_assoc]
     rw [h7, ← List.append_assoc]
     exact List.take_left
theorem wpList_append_tx {a : Act} {ops : Array Oper} {rest : List Oper} {o : Oper} {Q : Exit → Act → World → Prop} (hgd : o.guard = none) (sl x : Operand) (t u : TypeId)
  (ho : o.op = .call { callee := .builtin .append, args := #[sl, x], argTypes := #[t, u] })
  (base : Nat) (e : TypeId) (i : TypeInfo) (ht : P.underlying t = some (.slice e)) (hu : P.underlying u = some .string) (hi : P.info? e = some i) (hz : i.zero = some (.int .u8 0)) (hsize : i.size = 1) (hby : i.bytes = 1)
  (v : Value) (n m : Nat) (l : List UInt8) (hs : a.eval sl = v) (hown : w.ownsRow base e 1 v n (bcells l)) (s : ByteArray) (hx : a.eval x = .string s) (hm : s.size = m) (hn : n ≤ 262144) (hsz : m ≤ 140737488351232) (hbase : base ≤ w.heap.size)
  (h : ∀ v' w', w'.ownsRow base e 1 v' (n + m) (bcells (l ++ s.toList)) → w.grownBy w' v.ownBlock → wpList P ops Q rest (a.put o.dst v') w') : wpList P ops Q (o :: rest) a w := by
 subst hm
 refine wpList_plain hgd fun K hK => ?_
 obtain ⟨v', w', hr, h2, h3⟩ := run_append_tx (P := P) (w := w) base t u o.type e i ht hu hi hz hsize hby v n l hown s hn hsz hbase
 unfold Oper.wp execOp
 simp only [ho, resolve, invoke, builtin, Sem.run_bind, Sem.run_pure, Result.andThen_ok, List.map_toArray, List.map_cons, List.map_nil, hs, hx, hr]
 exact hK _ _ (h v' w' h2 h3)
end
structure Wt (w : World) (g : Nat) (t : Tl) (vo vs : Value) : Prop where
 at0 : At w g 0 [vo, vs, .int .i64 (t.deep : Int), .bool t.done, .bool t.ord]
 out : w.ownsRow (g + 1) 5 1 vo t.out.length (bcells t.out)
 stack : w.ownsRow (g + 1) 110 6 vs t.G.length (hcells t.G)
 lt : g < w.heap.size
theorem kinds_ne2 : (5 : Nat) ≠ 110 := by decide
section
variable {w w' : World} {g : Nat} {t : Tl} {vo vs : Value}
theorem set_size (w : World) (a : Addr) (v : Value) : (w.setCell a v).heap.size = w.heap.size := by simp [World.setCell]
theorem Wt.drewN (h : Wt w g t vo vs) (k : Nat) : Wt (w.drewN k) g t vo vs := ⟨h.at0.drewN k, own_drewN h.out k, own_drewN h.stack k, h.lt⟩
theorem Wt.alloc (h : Wt w g t vo vs) (o : Obj) : Wt (w.alloc o) g t vo vs := ⟨h.at0.alloc o, h.out.alloc o, h.stack.alloc o, by simp; have := h.lt; omega⟩
theorem Wt.below (h : Wt w g t vo vs) (hb : Below w.heap.size w w') : Wt w' g t vo vs :=
 ⟨h.at0.below hb h.lt, own_below h.out hb (nle _), own_below h.stack hb (nle _), nlt h.lt hb.size⟩
theorem Wt.setDone (h : Wt w g t vo vs) (b : Bool) : Wt (w.setCell ⟨g, 3, none⟩ (.bool b)) g { t with done := b } vo vs :=
 ⟨h.at0.set 3 (.bool b), ownsRow_setCell_below h.out (Nat.lt_succ_self g) _, ownsRow_setCell_below h.stack (Nat.lt_succ_self g) _, by rw [set_size]; exact h.lt⟩
theorem Wt.setOrd (h : Wt w g t vo vs) (b : Bool) : Wt (w.setCell ⟨g, 4, none⟩ (.bool b)) g { t with ord := b } vo vs :=
 ⟨h.at0.set 4 (.bool b), ownsRow_setCell_below h.out (Nat.lt_succ_self g) _, ownsRow_setCell_below h.stack (Nat.lt_succ_self g) _, by rw [set_size]; exact h.lt⟩
theorem Wt.setDeep (h : Wt w g t vo vs) (d : Nat) : Wt (w.setCell ⟨g, 2, none⟩ (.int .i64 (d : Int))) g { t with deep := d } vo vs :=
 ⟨h.at0.set 2 (.int .i64 (d : Int)), ownsRow_setCell_below h.out (Nat.lt_succ_self g) _, ownsRow_setCell_below h.stack (Nat.lt_succ_self g) _, by rw [set_size]; exact h.lt⟩
theorem Wt.addOut (h : Wt w g t vo vs) {o' : List UInt8} {v' : Value} (hg : w.grownBy w' vo.ownBlock) (ho : w'.ownsRow (g + 1) 5 1 v' o'.length (bcells o')) :
  Wt (w'.setCell ⟨g, 0, none⟩ v') g { t with out := o' } v' vs := by
 have hlt := h.lt
 have h1 := h.at0.grown hg hlt (fun e => by have := (h.out.lt g e).1; omega)
 have h2 := h.stack.kept hg (by
  rcases own_ne h.stack h.out (Ne.symm kinds_ne2) with h3 | h3
  ·exact .inl h3
  ·exact .inr h3)
 exact ⟨h1.set 0 v', ownsRow_setCell_below ho (Nat.lt_succ_self g) _, ownsRow_setCell_below h2 (Nat.lt_succ_self g) _, by rw [set_size]; exact nlt hlt hg.size⟩
theorem Wt.addFrame (h : Wt w g t vo vs) {G' : List Fr} {v' : Value} (hg : w.grownBy w' vs.ownBlock) (ho : w'.ownsRow (g + 1) 110 6 v' G'.length (hcells G')) :
  Wt (w'.setCell ⟨g, 1, none⟩ v') g { t with G := G' } vo v' := by
 have hlt := h.lt
 have h1 := h.at0.grown hg hlt (fun e => by have := (h.stack.lt g e).1; omega)
 have h2 := h.out.kept hg (by
  rcases own_ne h.out h.stack kinds_ne2 with h3 | h3
  ·exact .inl h3
  ·exact .inr h3)
 exact ⟨h1.set 1 v', ownsRow_setCell_below h2 (Nat.lt_succ_self g) _, ownsRow_setCell_below ho (Nat.lt_succ_self g) _, by rw [set_size]; exact nlt hlt hg.size⟩
end
section
variable {w : World} {g : Nat} {out : List UInt8} {f : Fr} {G : List Fr} {dp : Nat} {dn od : Bool} {vo vs : Value} {k cap n : Nat}
theorem Wt.setTop (h : Wt w g ⟨out, f :: G, dp, dn, od⟩ vo vs) (hk : vs = .slice (some ⟨k, 0, none⟩) (G.length + 1) cap) (j : Nat) (hj : j < 6) (u : Value) (f' : Fr) (hf : (hv f).set j u = hv f') :
  Wt (w.setCell ⟨k, G.length * 6 + j, none⟩ u) g ⟨out, f' :: G, dp, dn, od⟩ vo vs := by
 subst hk
 have hgk := (h.stack.lt k rfl).1
 have hne : vo.ownBlock ≠ some k := by
  rcases own_ne h.out h.stack kinds_ne2 with h1 | h1
  ·rw [h1]; exact fun e => by cases e
  ·exact h1
 exact ⟨h.at0.other k (G.length * 6 + j) u (Or.inl (by omega)), ownsRow_setCell_other h.out hne u, own_setTop h.stack j hj u f' hf, by rw [set_size]; exact h.lt⟩
theorem Wt.topKey (h : Wt w g ⟨out, f :: G, dp, dn, od⟩ vo (.slice (some ⟨k, 0, none⟩) (G.length + 1) cap)) (hn : G.length = n) (u : ByteArray) (x : List UInt8) (hx : u.toList = x) :
  Wt (((w.setCell ⟨k, n * 6 + 4, none⟩ (.bool true)).setCell ⟨k, n * 6 + 3, none⟩ (.bool true)).setCell ⟨k, n * 6 + 5, none⟩ (.string u)) g ⟨out, { f with keys := true, value := true, last := x } :: G, dp, dn, od⟩ vo (.slice (some ⟨k, 0, none⟩) (G.length + 1) cap) := by
 subst hx hn
 have h8 := h.setTop rfl 4 (by decide) (.bool true) { f with keys := true } rfl
 have h9 := h8.setTop rfl 3 (by decide) (.bool true) { f with keys := true, value := true } rfl
 exact h9.setTop rfl 5 (by decide) (.string u) { f with keys := true, value := true, last := u.toList } (by simp [hv, tl_arr])
theorem Wt.topOther (h : Wt w g ⟨out, f :: G, dp, dn, od⟩ vo (.slice (some ⟨k, 0, none⟩) (G.length + 1) cap)) (hn : G.length = n) (m : Nat) (y : Int) (hm : f.left - 1 = m) (hy : (m : Int) = y) :
  Wt ((w.setCell ⟨k, n * 6 + 3, none⟩ (.bool false)).setCell ⟨k, n * 6 + 1, none⟩ (.int .u64 y)) g ⟨out, { f with value := false, left := f.left - 1 } :: G, dp, dn, od⟩ vo (.slice (some ⟨k, 0, none⟩) (G.length + 1) cap) := by
 subst hy hm hn
 have h8 := h.setTop rfl 3 (by decide) (.bool false) { f with value := false } rfl
 exact h8.setTop rfl 1 (by decide) (.int .u64 ((f.left - 1 : Nat) : Int)) { f with value := false, left := f.left - 1 } rfl
theorem Wt.pop (h : Wt w g ⟨out, f :: G, dp, dn, od⟩ vo (.slice (some ⟨k, 0, none⟩) (G.length + 1) cap)) :
  Wt (w.setCell ⟨g, 1, none⟩ (.slice (some ⟨k, 0, none⟩) G.length cap)) g ⟨out, G, dp, dn, od⟩ vo (.slice (some ⟨k, 0, none⟩) G.length cap) := by
 have h1 : w.ownsRow (g + 1) 110 6 (.slice (some ⟨k, 0, none⟩) G.length cap) G.length (hcells G) := ownsRow_pop (last := hv f) (by rw [hcells_length]; omega) (by rw [← hcells_cons]; exact h.stack)
 exact ⟨h.at0.set 1 _, ownsRow_setCell_below h.out (Nat.lt_succ_self g) _, ownsRow_setCell_below h1 (Nat.lt_succ_self g) _, by rw [set_size]; exact h.lt⟩
end
def RsPut (s : List UInt8) (g : Nat) (t : Tl) (vs : Value) (w : World) (e : Ending) (w' : World) : Prop :=
 e = .returned (.tuple #[]) ∧ (∃ vo', Hid (Wt w' g { t with out := putT false t.out s } vo' vs)) ∧ Hid (Below g w w') ∧ Hid (∀ (e : TypeId) (sz : Nat) (v : Value) (n : Nat) (xs : List Value), e ≠ 5 → w.ownsRow (g + 1) e sz v n xs → w'.ownsRow (g + 1) e sz v n xs)
theorem tput_any (w : World) (g : Nat) (t : Tl) (vo vs : Value) (s : ByteArray) (hW : Wt w g t vo vs) (hz : s.size ≤ 140737488351232) :
  Calls Tryz.prog 69 #[.pointer (some ⟨g, 0, none⟩), .string s] w (RsPut s.toList g t vs w) := by
 obtain ⟨a, c, rfl, -⟩ := own_form hW.out
 obtain ⟨n, hn⟩ : ∃ n, t.out.length = n := ⟨_, rfl⟩
 have hc0 := hW.at0.cell 0 _ rfl
 rw [hn] at hc0
 by_cases h : n ≤ 262144
 ·obtain ⟨i0, hi, hz0, hz1, hz2⟩ := info_parts info5
  have e1 : (n : Int) ≤ 262144 := by omega
  obtain ⟨m, hm⟩ : ∃ m, s.size = m := ⟨_, rfl⟩
  have hp : putT false t.out s.toList = t.out ++ s.toList := putT_le _ _ (by omega) false
  have hput : Hid ((t.out ++ s.toList).length = n + m) := by show _ = _; rw [lap, hn, tl_size, hm]
  have hf0 := hW.at0.froz 0 (by simp)
  have HW := hid hW
  have HN := hid hn
  have HS := hid hm
  have HP := hid hp
  have HZ := hid hz
  have HH := hid h
  clear hW hz hn h hm hp
  go_enter Tryz.func69, Tryz.ntmps69
  go_wp2_with (at_builtin; refine wpList_append_tx rfl (.tmp 14) (.tmp 15) 102 9 rfl (g + 1) 5 i0 Tryz.underlying102 Tryz.underlying9 hi hz0 hz1 hz2 (.slice a n c) n m t.out rfl (by have h1 := HW.out.out; rw [HN.out] at h1; exact h1) s rfl HS.out HH.out (by have h1 := HZ.out; have h2 := HS.out; omega) (by have := HW.out.lt; omega) ?_; intro v' w3 hown3 hgrow9; obtain ⟨a3, c3, hv3, -⟩ := own_form hown3; subst hv3; have hgrow3 : w.grownBy w3 (Value.slice a t.out.length c).ownBlock := (by rw [HN.out]; exact hgrow9); have hAt3 := At.grown (HW.out.at0) hgrow3 HW.out.lt (fun e => by have := (HW.out.out.lt g e).1; omega); have hf03 := hAt3.froz 0 (by simp); have hc03 := hAt3.cell 0 _ rfl; have HR3 := hid (Wt.addOut (o' := t.out ++ s.toList) HW.out hgrow3 (by rw [hput.out]; exact hown3)); have HB3 := hid ((((Below.refl g w).grown hgrow3 (Nat.le_of_lt HW.out.lt) (fun k hk => by have := (HW.out.out.lt k hk).1; omega)).setCell (p := ⟨g, 0, none⟩) (nle _) (.slice a3 (n + m) c3))); obtain ⟨n9, hn9⟩ : ∃ x, x = n := ⟨_, rfl⟩; have HK3 : Hid (∀ (e : TypeId) (sz : Nat) (v : Value) (n : Nat) (xs : List Value), e ≠ 5 → w.ownsRow (g + 1) e sz v n xs → (w3.setCell ⟨g, 0, none⟩ (.slice a3 (n9 + m) c3)).ownsRow (g + 1) e sz v n xs) := (fun e sz v n xs hne h => ownsRow_setCell_below (h.kept hgrow3 (by rcases own_ne h HW.out.out hne with h3 | h3; exact .inl h3; exact .inr h3)) (Nat.lt_succ_self g) _); subst hn9; clear hAt3 hgrow3 hgrow9 hown3)
  first | go_end0 | refine bodyPost_ret (results_none rfl _ _ _) rfl ?_
  refine ⟨rfl, ⟨.slice a3 (n9 + m) c3, ?_⟩, HB3, HK3⟩
  show Wt _ _ _ _ _
  rw [HP.out]
  exact HR3.out
 ·have e1 : ¬ (n : Int) ≤ 262144 := by omega
  have hp : putT false t.out s.toList = t.out := by rw [putT, if_neg]; rintro (h1 | h1); cases h1; omega
  have HW := hid hW
  have HP := hid hp
  clear hW hz hn h hp
  go_enter Tryz.func69, Tryz.ntmps69
  go_wp2_with fail
  first | go_end0 | refine bodyPost_ret (results_none rfl _ _ _) rfl ?_
  refine ⟨rfl, ⟨.slice a t.out.length c, ?_⟩, Below.refl _ _, fun e sz v n xs _ h => h⟩
  show Wt _ _ _ _ _
  rw [HP.out]
  exact HW.out
def endS (a : Nat) (t : Tl) : Tl := match t with
 | ⟨out, [], dp, dn, od⟩ => ⟨out, [], dp, true, od⟩
 | ⟨out, f :: G, dp, dn, od⟩ => ⟨out, adv f (out.drop a) :: G, dp, dn, od && okB f (out.drop a)⟩
def RsEndT (a : Nat) (g : Nat) (t : Tl) (vo vs : Value) (w : World) (e : Ending) (w' : World) : Prop :=
 e = .returned (.tuple #[]) ∧ Hid (Wt w' g (endS a t) vo vs) ∧ Hid (Below g w w')
theorem slice_conv {w : World} {B n cap g : Nat} {l : List UInt8} (h : w.ownsRow B 5 1 (.slice (some ⟨g, 0, none⟩) n cap) n (bcells l)) (a : Nat) (ha : a ≤ n) (hl : l.length = n) (c : Nat) :
  (convert 102 9 (.slice (some ⟨g, a, none⟩) (n - a) c)).run Tryz.prog w = .ok (.string ⟨(l.drop a).toArray⟩) w := by
 have hd : (l.drop a).length = n - a := by rw [List.length_drop, hl]
 have h1 := run_convert_bytes_back (P := Tryz.prog) w 102 9 5 ⟨g, a, none⟩ c (l.drop a) Tryz.underlying102 Tryz.underlying5 Tryz.underlying9 (fun j hj => by
  have hA := At.ofOwnN h
  have hj2 : a + j < l.length := by rw [List.length_drop] at hj; omega
  have hc := hA.cell (a + j) _ (bcells_get l (a + j) hj2)
  have he : (⟨g, a, none⟩ : Addr).add j = ⟨g, a + j, none⟩ := by unfold Addr.add; split <;> simp_all
  rw [he, List.getElem_drop]
  rw [Nat.zero_add] at hc
  exact hc)
 rw [hd] at h1
 exact h1
theorem tended_any (w : World) (g a : Nat) (t : Tl) (vo vs : Value) (hW : Wt w g t vo vs) (hop : ∀ f, t.G.head? = some f → 0 < f.left ∧ f.left < 18446744073709551616) (ha : a ≤ t.out.length) (hne : t.out ≠ []) :
  Calls Tryz.prog 73 #[.pointer (some ⟨g, 0, none⟩), .int .i64 (a : Int)] w (RsEndT a g t vo vs w) := by
 obtain ⟨out, G, dp, dn, od⟩ := t
 have HW := hid hW
 cases G with
 | nil =>
  obtain ⟨ad, c, rfl, -⟩ := own_form hW.stack
  have hc1 := hW.at0.cell 1 _ rfl
  have hc3 := hW.at0.cell 3 _ rfl
  have hf3 := hW.at0.froz 3 (by simp)
  clear hW hop ha hne
  go_enter Tryz.func73, Tryz.ntmps73
  go_wp2_with fail
  first | go_end0 | refine bodyPost_ret (results_none rfl _ _ _) rfl ?_
  exact ⟨rfl, HW.out.setDone true, (Below.refl g w).setCell (p := ⟨g, 3, none⟩) (nle _) (.bool true)⟩
 | cons f G =>
  have hf := hop f rfl
  have hne : out ≠ [] := hne
  have ha : a ≤ out.length := ha
  obtain ⟨k, cap, rfl, hgk0, hAt⟩ := own_top hW.stack
  have hgk : g < k := hgk0
  obtain ⟨oa, oc, rfl, hoa⟩ := own_form hW.out
  obtain ⟨og, rfl⟩ := hoa (List.length_pos_iff.2 hne)
  have hocap := own_cap hW.out
  have hc4 : w.cell? ⟨g, 0 + 4, none⟩ = some (.bool od) := hW.at0.cell 4 _ rfl
  have hg4 := hW.at0.froz 4 (by simp)
  obtain ⟨n, hn⟩ : ∃ n, G.length = n := ⟨_, rfl⟩
  obtain ⟨m, hm⟩ : ∃ m, out.length = m := ⟨_, rfl⟩
  have hc1 : w.cell? ⟨g, 0 + 1, none⟩ = some (.slice (some ⟨k, 0, none⟩) (G.length + 1) cap) := hW.at0.cell 1 _ rfl
  rw [hn] at hAt hc1
  have hc0 : w.cell? ⟨g, 0 + 0, none⟩ = some (.slice (some ⟨og, 0, none⟩) out.length oc) := hW.at0.cell 0 _ rfl
  have hout : w.ownsRow (g + 1) 5 1 (.slice (some ⟨og, 0, none⟩) out.length oc) out.length (bcells out) := hW.out
  rw [hm] at hc0 hout hocap ha
  have ht1 := hAt.cell 1 _ rfl
  have ht2 := hAt.cell 2 _ rfl
  have ht3 := hAt.cell 3 _ rfl
  have ht4 := hAt.cell 4 _ rfl
  have ht5 := hAt.cell 5 _ rfl
  have hf1 := hAt.froz 1 (by rw [hv_length]; decide)
  have hf3 := hAt.froz 3 (by rw [hv_length]; decide)
  have hf4 := hAt.froz 4 (by rw [hv_length]; decide)
  have hf5 := hAt.froz 5 (by rw [hv_length]; decide)
  have WA := hid (fun (z : Nat) => wants_any (w.drewN z) _ _ _ _ ht2 ht3)
  have e4 : IntKind.i64.wrap (n : Int) = (n : Int) := wrap_fit n (by have := own_fit hW.stack; have h9 : (f :: G).length ≤ maxLen := this; rw [lco, hn] at h9; omega)
  have e5 : (n : Int) < (n : Int) + 1 := by omega
  have HHG := hid hn
  by_cases hkey : f.pairs = true ∧ f.value = false
  ·obtain ⟨u, hu⟩ : ∃ u : ByteArray, (⟨(out.drop a).toArray⟩ : ByteArray) = u := ⟨_, rfl⟩
   have hul : u.toList = out.drop a := by rw [← hu, tl_mk]
   have hcv := fun (z c : Nat) => slice_conv (own_drewN hout z) a ha hm c
   rw [hu] at hcv
   have KE := hid (fun (z : Nat) => key_any (w.drewN z) _ _ _ _ _ u ht4 ht3 ht5 hf4 hf3 hf5)
   have hcond : (f.pairs && !f.value) = true := by rw [hkey.1, hkey.2]; rfl
   rw [hcond] at WA
   rw [tl_mk] at KE
   obtain ⟨b, hb⟩ : ∃ b, (f.keys && !Op.bytesLess f.last u.toList) = b := ⟨_, rfl⟩
   rw [hb] at KE
   have HRK := hid (fun (z : Nat) => (hW.drewN z).topKey hn u _ rfl)
   have HE : Hid (endS a ⟨out, f :: G, dp, dn, od⟩ = ⟨out, { f with keys := true, value := true, last := u.toList } :: G, dp, dn, od && !b⟩) := by
    show endS a ⟨out, f :: G, dp, dn, od⟩ = _
    rw [endS, adv, if_pos hkey, okB, ← hul, hkey.1, hkey.2, ← hb]
    rfl
   have e6 : (a : Int) ≤ (m : Int) := by omega
   have e7 : (a : Int) ≤ (oc : Int) := by omega
   have e8 : (m : Int) ≤ (oc : Int) := by omega
   by_cases hca : oc = a
   ·obtain rfl : m = a := by omega
    subst hca
    have hcv2 : ∀ z : Nat, (convert 102 9 (.slice (some ⟨og, 0, none⟩) 0 0)).run Tryz.prog (w.drewN z) = .ok (.string u) (w.drewN z) := fun z => by
     have h1 := run_convert_bytes_back (P := Tryz.prog) (w.drewN z) 102 9 5 ⟨og, 0, none⟩ 0 [] Tryz.underlying102 Tryz.underlying5 Tryz.underlying9 (fun j hj => absurd hj (Nat.not_lt_zero _))
     have h2 : out.drop oc = [] := List.drop_eq_nil_of_le (by omega)
     rw [h2] at hu
     rw [← hu]
     exact h1
    clear e6 e7 e8
    cases b with
    | true =>
     clear hW hop ha hne hf hAt ht1 ht2 ht3 ht4 ht5 hf1 hf3 hf4 hf5 hn hkey hcond hout hocap hm hu hul hb
     go_enter Tryz.func73, Tryz.ntmps73
     go_wp2_with fail
     go_quiet (fail)
     go_wp2_with (first
      | (go_at_call 79; refine (WA.out _).mono ?_; rintro e w1 ⟨rfl, rfl⟩)
      | (go_at_call 81; refine (KE.out _).mono ?_; rintro e w3 ⟨rfl, rfl⟩; have hx4 := (HRK.out nq).at0.cell 4 _ rfl; have hy4 := (HRK.out nq).at0.froz 4 (by simp)))
     first | go_end0 | refine bodyPost_ret (results_none rfl _ _ _) rfl ?_
     refine ⟨rfl, ?_, ((((below_drewN _ _ _).setCell (Nat.le_of_lt hgk) _).setCell (Nat.le_of_lt hgk) _).setCell (Nat.le_of_lt hgk) _).setCell (p := ⟨g, 4, none⟩) (nle _) (.bool false)⟩
     rw [HE.out]
     have h9 := (HRK.out nq).setOrd false
     cases od <;> exact h9
    | false =>
     clear hW hop ha hne hf hAt ht1 ht2 ht3 ht4 ht5 hf1 hf3 hf4 hf5 hn hkey hcond hout hocap hm hu hul hb
     go_enter Tryz.func73, Tryz.ntmps73
     go_wp2_with fail
     go_quiet (fail)
     go_wp2_with (first
      | (go_at_call 79; refine (WA.out _).mono ?_; rintro e w1 ⟨rfl, rfl⟩)
      | (go_at_call 81; refine (KE.out _).mono ?_; rintro e w3 ⟨rfl, rfl⟩))
     first | go_end0 | refine bodyPost_ret (results_none rfl _ _ _) rfl ?_
     refine ⟨rfl, ?_, (((below_drewN _ _ _).setCell (Nat.le_of_lt hgk) _).setCell (Nat.le_of_lt hgk) _).setCell (Nat.le_of_lt hgk) _⟩
     rw [HE.out]
     have h9 := HRK.out nq
     cases od <;> exact h9
   ·have hca2 : ¬ (oc : Int) = (a : Int) := by omega
    cases b with
    | true =>
     clear hW hop ha hne hf hAt ht1 ht2 ht3 ht4 ht5 hf1 hf3 hf4 hf5 hn hkey hcond hout hocap hm hu hul hb
     go_enter Tryz.func73, Tryz.ntmps73
     go_wp2_with fail
     go_quiet (fail)
     go_wp2_with (first
      | (go_at_call 79; refine (WA.out _).mono ?_; rintro e w1 ⟨rfl, rfl⟩)
      | (go_at_call 81; refine (KE.out _).mono ?_; rintro e w3 ⟨rfl, rfl⟩; have hx4 := (HRK.out nq).at0.cell 4 _ rfl; have hy4 := (HRK.out nq).at0.froz 4 (by simp)))
     first | go_end0 | refine bodyPost_ret (results_none rfl _ _ _) rfl ?_
     refine ⟨rfl, ?_, ((((below_drewN _ _ _).setCell (Nat.le_of_lt hgk) _).setCell (Nat.le_of_lt hgk) _).setCell (Nat.le_of_lt hgk) _).setCell (p := ⟨g, 4, none⟩) (nle _) (.bool false)⟩
     rw [HE.out]
     have h9 := (HRK.out nq).setOrd false
     cases od <;> exact h9
    | false =>
     clear hW hop ha hne hf hAt ht1 ht2 ht3 ht4 ht5 hf1 hf3 hf4 hf5 hn hkey hcond hout hocap hm hu hul hb
     go_enter Tryz.func73, Tryz.ntmps73
     go_wp2_with fail
     go_quiet (fail)
     go_wp2_with (first
      | (go_at_call 79; refine (WA.out _).mono ?_; rintro e w1 ⟨rfl, rfl⟩)
      | (go_at_call 81; refine (KE.out _).mono ?_; rintro e w3 ⟨rfl, rfl⟩))
     first | go_end0 | refine bodyPost_ret (results_none rfl _ _ _) rfl ?_
     refine ⟨rfl, ?_, (((below_drewN _ _ _).setCell (Nat.le_of_lt hgk) _).setCell (Nat.le_of_lt hgk) _).setCell (Nat.le_of_lt hgk) _⟩
     rw [HE.out]
     have h9 := HRK.out nq
     cases od <;> exact h9
  ·have hcond : (f.pairs && !f.value) = false := by
    cases h1 : f.pairs <;> cases h2 : f.value <;> simp_all
   rw [hcond] at WA
   obtain ⟨l1, hl1⟩ : ∃ l1, f.left - 1 = l1 := ⟨_, rfl⟩
   have OT := hid (fun (z : Nat) => other_any (w.drewN z) _ _ _ (l1 : Int) _ ht1 ht3 hf1 hf3 (by omega) (u64c l1 (by omega)))
   have HRO := hid (fun (z : Nat) => (hW.drewN z).topOther hn l1 _ hl1 rfl)
   have HE : Hid (endS a ⟨out, f :: G, dp, dn, od⟩ = ⟨out, { f with value := false, left := f.left - 1 } :: G, dp, dn, od⟩) := by
    show endS a ⟨out, f :: G, dp, dn, od⟩ = _
    have h1 : okB f (out.drop a) = true := by rw [okB_iff]; intro h1 h2; exact absurd ⟨h1, h2⟩ hkey
    rw [endS, adv, if_neg hkey, h1, Bool.and_true]
   clear hW hop ha hne hf hAt ht1 ht2 ht3 ht4 ht5 hf1 hf3 hf4 hf5 hn hkey hcond hl1 hout hocap hm hc0
   go_enter Tryz.func73, Tryz.ntmps73
   go_wp2_with fail
   go_quiet (fail)
   go_wp2_with (first
    | (go_at_call 79; refine (WA.out _).mono ?_; rintro e w1 ⟨rfl, rfl⟩)
    | (go_at_call 80; refine (OT.out _).mono ?_; rintro e w1 ⟨rfl, rfl⟩))
   first | go_end0 | refine bodyPost_ret (results_none rfl _ _ _) rfl ?_
   refine ⟨rfl, ?_, ((below_drewN _ _ _).setCell (Nat.le_of_lt hgk) _).setCell (Nat.le_of_lt hgk) _⟩
   rw [HE.out]
   exact HRO.out _
end Co
end Go.Proofs.YtikgonlhdkknkaaGreatDoor
namespace Go.Proofs.YtikgonlhdkknkaaGreatDoor
open Go.RowKit
namespace Co
open Dr (Rs Lm has lack at0S)
def cont (out : List UInt8) (G : List Fr) (dn od : Bool) (R : List Fr × Bool × Bool) : Prop := match G with
 | [] => ([], dn, od) = R
 | f :: G' => dn = false ∧ tops out f G' od = R
theorem endS_facts (a : Nat) (out : List UInt8) (G : List Fr) (dp : Nat) (od : Bool) (hG : Gd G out.length) :
  ∃ G2 dn od2, endS a ⟨out, G, dp, false, od⟩ = ⟨out, G2, dp, dn, od2⟩ ∧ Top G2 out.length ∧ G2.length = G.length ∧ cont out G2 dn od2 (ends out a G od) := by
 cases G with
 | nil => exact ⟨[], true, od, rfl, ⟨fun x hx => (by cases hx), fun x hx => (by cases hx)⟩, rfl, rfl⟩
 | cons f G =>
  refine ⟨_, _, _, rfl, ⟨fun x hx => ?_, fun x hx => (hG x (List.mem_cons_of_mem _ hx)).1⟩, rfl, ⟨rfl, (ends_cons ..).symm⟩⟩
  rcases List.mem_cons.1 hx with rfl | hx
  ·have h1 := hG f (List.mem_cons_self ..)
   rw [adv]
   split
   ·exact ⟨h1.2.1, h1.2.2⟩
   ·exact ⟨by show f.left - 1 < _; omega, h1.2.2⟩
  ·have h1 := hG x (List.mem_cons_of_mem _ hx)
   exact ⟨h1.2.1, h1.2.2⟩
def InAtom (g : Nat) (w : World) (out : List UInt8) (dp : Nat) (R : List Fr × Bool × Bool) (gk : Nat) (wr : World) : Prop :=
 ∃ G dn od vo vs, Hid (Wt wr g ⟨out, G, dp, dn, od⟩ vo vs) ∧ Hid (Top G out.length ∧ G.length < gk ∧ cont out G dn od R) ∧ Hid (Below g w wr)
def RsAtom (t2 : Tl) (g : Nat) (w : World) (e : Ending) (w' : World) : Prop :=
 e = .returned (.tuple #[]) ∧ (∃ vo vs, Hid (Wt w' g t2 vo vs)) ∧ Hid (Below g w w')
theorem box_row (w : World) (B : Nat) (hB : B ≤ w.heap.size) (y : Ra) (cs : Array Value) (hc : rv y = cs.toList) : (w.alloc (Obj.cells cs 60)).ownsRow B 60 3 (.slice (some ⟨w.heap.size, 0, none⟩) 1 1) 1 (rv y) := by
 rw [hc]
 exact World.ownsRow_lit w cs 1 hB (by decide) (by rw [← Array.length_toList, ← hc]; rfl)
theorem atom_ne1 : (60 : Nat) ≠ 5 := by decide
structure AtHyp (w : World) (g : Nat) (t : Tl) (vo vs : Value) (a : Am) (tx : ByteArray) : Prop where
 wt : Wt w g t vo vs
 done : t.done = false
 gd : Gd t.G t.out.length
 k : a.kind < 8
 num : a.num < 18446744073709551616
 tl : tx.toList = a.text
 sz : tx.size ≤ 140737488351232
 gl : t.G.length ≤ 100000
theorem hd_size {hs : ByteArray} {k n : Nat} (h : hs.toList = hdN k n) : hs.size ≤ 9 := by
 have h1 := congrArg List.length h
 rw [tl_size, hdN_length] at h1
 have h2 : widN n ≤ 8 := by rw [widN]; (repeat' split); all_goals omega
 omega
theorem putT_len (b : Bool) (o s : List UInt8) : (putT b o s).length ≤ o.length + s.length := by
 rw [putT]
 split
 ·rw [lap]; exact nle _
 ·omega
theorem putT_pos (b : Bool) (o s : List UInt8) (h : s ≠ []) : putT b o s ≠ [] := by
 rw [putT]
 split
 ·intro h1; exact h (List.append_eq_nil_iff.1 h1).2
 ·rename_i h1
  intro h2
  rw [h2] at h1
  exact h1 (.inr (by simp))
theorem outT_ne (o : List UInt8) (a : Am) : outT false o a ≠ [] := by
 rw [outT]
 have h1 : ∀ k n, hdN k n ≠ [] := fun k n => by rw [hdN]; simp
 split
 ·intro h2
  have h3 := putT_ge false (putT false o (hdN a.kind a.text.length)) a.text
  rw [h2] at h3
  have h4 := putT_pos false o _ (h1 a.kind a.text.length)
  exact h4 (List.length_eq_zero_iff.1 (Nat.le_zero.1 h3))
 ·exact putT_pos false o _ (h1 _ _)
theorem atom_text2 (w : World) (g : Nat) (t : Tl) (vo vs : Value) (a : Am) (tx : ByteArray) (hyp : AtHyp w g t vo vs a tx) (hkind : a.kind = 2) :
  Calls Tryz.prog 46 #[.pointer (some ⟨g, 0, none⟩), .agg #[.int .i64 (a.kind : Int), .int .u64 (a.num : Int), .string tx]] w (RsAtom (atomT false t a) g w) := by
 have HYP := hid hyp
 have hW := hyp.wt
 obtain ⟨oa, oc, rfl, -⟩ := own_form hW.out
 obtain ⟨sa, sc, rfl, -⟩ := own_form hW.stack
 obtain ⟨n, hn⟩ : ∃ n, t.out.length = n := ⟨_, rfl⟩
 obtain ⟨gl, hgl⟩ : ∃ n, t.G.length = n := ⟨_, rfl⟩
 have hk : a.kind = 2 := hkind
 obtain ⟨num, hnum⟩ : ∃ num, a.num = num := ⟨_, rfl⟩
 obtain ⟨m, hm⟩ : ∃ m, tx.size = m := ⟨_, rfl⟩
 have hx : a.text.length = m := by rw [← hyp.tl, tl_size, hm]
 have hcA0 : ∀ ob, (w.alloc ob).cell? ⟨g, 0, none⟩ = some (.slice oa n oc) := fun ob => by
  have h1 : (w.alloc ob).cell? ⟨g, 0 + 0, none⟩ = some (.slice oa t.out.length oc) := (hW.at0.alloc ob).cell 0 _ rfl
  rw [hn] at h1
  exact h1
 have hrow : rv (up a) = (#[Value.int .i64 2, Value.int .u64 (num : Int), Value.string tx]).toList := by
  rw [rv, up, hk, hnum]
  show [Value.int .i64 2, Value.int .u64 (num : Int), Value.string ⟨a.text.toArray⟩] = _
  rw [← hyp.tl, tl_arr]
 have HT0 := hid (box_row w (g + 1) hW.lt (up a) _ hrow)
 have HW0 := hid (hW.alloc (Obj.cells #[Value.int .i64 2, Value.int .u64 (num : Int), Value.string tx] 60))
 have HB0 : Hid (Below g w (w.alloc (Obj.cells #[Value.int .i64 2, Value.int .u64 (num : Int), Value.string tx] 60))) := (Below.refl g w).alloc (Nat.le_of_lt hW.lt) _
 have HROW := hid hrow
 have HN := hid hn
 have HGL := hid hgl
 have HKN := hid (aIn hk (aIn hnum (aIn hx hm)))
 have hk8 : 2 < 8 := by decide
 have hn64 : num < 18446744073709551616 := by rw [← hnum]; exact hyp.num
 have hm64 : m < 18446744073709551616 := by rw [← hm]; have := hyp.sz; omega
 have HDN : True := trivial
 have HDM : Hid (∀ w, Calls Tryz.prog 70 #[.int .i64 2, .int .u64 (m : Int)] w (RetS (hdN 2 m) w)) := fun w => chead_any 2 m hk8 hm64 w
 have hcm : IntKind.u64.wrap (tx.size : Int) = (m : Int) := by rw [hm]; exact u64c m hm64
 rw [hk, hnum, show ((2 : Nat) : Int) = (2 : Int) from rfl]
 have HO : Hid (∀ w, Calls Tryz.prog 71 #[.int .i64 2] w (RetVal (.bool false) w)) := fun w => holds_any 2 w
 obtain ⟨RR, hRR⟩ : ∃ R, atomT false t a = R := ⟨_, rfl⟩
 rw [hRR]
 have hat : atomT false t a = mkT (outT false t.out a) t.deep (ends (outT false t.out a) n t.G t.ord) := by
  rw [atomT, if_neg (by rw [hk]; decide), hn]
 rw [hat] at hRR
 have hot : outT false t.out a = putT false (putT false t.out (hdN 2 m)) tx.toList := by
  rw [outT, if_pos (by rw [hk]; decide), hk, hx, hyp.tl]
 have HOT := hid hot
 have HRR := hid hRR
 clear hyp hW hn hk hnum hm hx hrow hRR hk8 hn64 hm64 hgl hat hot
 go_enter Tryz.func46, Tryz.ntmps46
 go_upto_region 2 with fail
 obtain ⟨T, hT⟩ : ∃ T, w.heap.size = T := ⟨_, rfl⟩
 obtain ⟨wa, hwa⟩ : ∃ x, w.alloc (Obj.cells #[Value.int .i64 2, Value.int .u64 (num : Int), Value.string tx] 60) = x := ⟨_, rfl⟩
 rw [hwa, hT] at HT0
 rw [hwa] at HW0 HB0
 rw [hwa, hT]
 clear hwa hT hcA0
 have hA0 := At.ofOwnN HT0.out
 rw [HROW.out] at hA0
 have hT0 := hA0.z 0 _ rfl
 have hT1 := hA0.cell 1 _ rfl
 have hT2 := hA0.cell 2 _ rfl
 clear hA0
 go_wp2_with (first
  | (go_at_call 70; refine (HDM.out _).mono ?_; rintro e w1 ⟨hs, rfl, hh, hb1⟩; have HS := hid hh; have HW1 := hid (HW0.out.below hb1); have HT1 := hid (own_below HT0.out hb1 (nle _)); have HB1 := hid (HB0.out.trans (hb1.mono (Nat.le_of_lt HW0.out.lt))); clear hb1 hh)
  | (go_at_call 69; refine (tput_any _ g _ _ _ tx HW2.out HYP.out.sz).mono ?_; rintro e w3 ⟨rfl, ⟨vo3, HW3⟩, HB3, HK3⟩; have HT3 := hid (HK3.out _ _ _ _ _ atom_ne1 HT2.out); have hA3 := At.ofOwnN HT3.out; rw [HROW.out] at hA3; have hx0 := hA3.z 0 _ rfl; clear hA3)
  | (go_at_call 69; refine (tput_any _ g t _ _ hs HW1.out (by have := hd_size HS.out; omega)).mono ?_; rintro e w2 ⟨rfl, ⟨vo2, HW2⟩, HB2, HK2⟩; have HT2 := hid (HK2.out _ _ _ _ _ atom_ne1 HT1.out); have hA2 := At.ofOwnN HT2.out; rw [HROW.out] at hA2; have hu0 := hA2.z 0 _ rfl; have hu1 := hA2.cell 1 _ rfl; have hu2 := hA2.cell 2 _ rfl; clear hA2)
  | (go_at_call 71; refine (HO.out _).mono ?_; rintro e wh ⟨rfl, rfl⟩))
 obtain ⟨o2, ho2⟩ : ∃ o, outT false t.out a = o := ⟨_, rfl⟩
 have HW4 : Hid (Wt w3 g ⟨o2, t.G, t.deep, false, t.ord⟩ vo3 (.slice sa t.G.length sc)) := by
  have h1 := HW3.out
  rw [HYP.out.done] at h1
  show Wt _ _ _ _ _
  rw [← ho2, HOT.out, ← HS.out]
  exact h1
 have HON : Hid (o2 ≠ []) := by show o2 ≠ []; rw [← ho2]; exact outT_ne _ _
 have hge : t.out.length ≤ o2.length := by rw [← ho2]; exact outT_ge _ _ _
 have hgd : Gd t.G o2.length := HYP.out.gd.mono hge
 rw [ho2] at HRR
 refine (tended_any _ g n _ _ _ HW4.out hgd.head (by rw [← HN.out]; exact hge) HON.out).mono ?_
 rintro e w5 ⟨rfl, HW5, HB5⟩
 obtain ⟨G2, dn, od2, hE, hTop, hlen, hcont⟩ := endS_facts n o2 t.G t.deep t.ord hgd
 obtain ⟨dp, hdp⟩ : ∃ d, t.deep = d := ⟨_, rfl⟩
 obtain ⟨R, hR⟩ : ∃ R, ends o2 n t.G t.ord = R := ⟨_, rfl⟩
 rw [hR] at hcont HRR
 rw [hdp] at hE HRR HW5
 have HIN : Hid (InAtom g w o2 dp R (G2.length + 1) w5) := ⟨G2, dn, od2, _, _, by rw [← hE]; exact HW5, ⟨hTop, Nat.lt_succ_self _, hcont⟩, ((HB1.out.trans HB2.out).trans HB3.out).trans HB5.out⟩
 have HRR : Hid (RR = mkT o2 dp R) := HRR.out.symm
 clear hE hTop hcont hlen HW5 HB5 HW4 ho2 hge hgd hdp hR HOT HB1 HB2 HB3 HK2 HK3 HT1 HT2 HT3 HW1 HW2 HW3 hT0 hT1 hT2 hu0 hu1 hu2 hx0
 clear HW0 HB0 HT0 HDN HDM HO hcm
 go_wp2_with fail
 go_loopg [] (G2.length + 1) (fun gk wr => InAtom g w o2 dp R gk wr)
 case atStart => exact HIN.out
 case round =>
  obtain ⟨G, dn, od, vo, vs, HW, HC, HB⟩ := hrel
  clear HIN
  cases G with
  | nil =>
   obtain ⟨ad, cd, rfl, -⟩ := own_form HW.out.stack
   have hc1 : wr.cell? ⟨g, 0 + 1, none⟩ = some (.slice ad 0 cd) := HW.out.at0.cell 1 _ rfl
   have HF : Hid (RR = ⟨o2, [], dp, dn, od⟩) := by
    show RR = _
    have h1 : ([], dn, od) = R := HC.out.2.2
    rw [HRR.out, ← h1]
    rfl
   go_wp2_with fail
   go_quiet (fail)
   go_wp2_with fail
   first | go_end0 | refine bodyPost_ret (results_none rfl _ _ _) rfl ?_
   rw [HF.out]
   exact ⟨rfl, ⟨_, _, HW.out.drewN _⟩, HB.out.trans (below_drewN _ _ _)⟩
  | cons f G =>
   obtain ⟨k, cap, rfl, hgk0, hAt⟩ := own_top HW.out.stack
   have hgk : g < k := hgk0
   obtain ⟨gn, hgn⟩ : ∃ gn, G.length = gn := ⟨_, rfl⟩
   have e4 : IntKind.i64.wrap (gn : Int) = (gn : Int) := wrap_fit gn (by have h1 := own_fit HW.out.stack; have h9 : (f :: G).length ≤ maxLen := h1; rw [lco, hgn] at h9; omega)
   have e4b : (gn : Int) < (gn : Int) + 1 := by omega
   have hc1 : wr.cell? ⟨g, 0 + 1, none⟩ = some (.slice (some ⟨k, 0, none⟩) (G.length + 1) cap) := HW.out.at0.cell 1 _ rfl
   rw [hgn] at hAt hc1
   have ht0 := hAt.cell 0 _ rfl
   have ht1 := hAt.cell 1 _ rfl
   have ht2 := hAt.cell 2 _ rfl
   have ht3 := hAt.cell 3 _ rfl
   have ht4 := hAt.cell 4 _ rfl
   have ht5 := hAt.cell 5 _ rfl
   rw [Nat.add_zero] at ht0
   have FU := hid (fun z : Nat => full_any (wr.drewN z) k (gn * 6) f.left ht1)
   have HGN := hid hgn
   by_cases hpe : f.left = 0
   ·rw [dtr hpe] at FU
    have HPE := hid hpe
    go_wp2_with fail
    go_quiet (first | (go_at_call 50; exact (FU.out _).mono fun _ _ h => ⟨h.1, _, h.2.symm⟩))
    have HWq := hid (HW.out.drewN nq)
    have HBq := hid (HB.out.trans (below_drewN g wr nq))
    have HATq := hid (hAt.drewN nq)
    obtain ⟨wq, hwq⟩ : ∃ x, wr.drewN nq = x := ⟨_, rfl⟩
    rw [hwq] at HWq HBq HATq
    rw [hwq]
    clear hwq hAt hc1 ht0 ht1 ht2 ht3 ht4 ht5 HW HB FU
    have hc1 : wq.cell? ⟨g, 0 + 1, none⟩ = some (.slice (some ⟨k, 0, none⟩) (G.length + 1) cap) := HWq.out.at0.cell 1 _ rfl
    rw [hgn] at hc1
    have ht0 := HATq.out.cell 0 _ rfl
    have ht1 := HATq.out.cell 1 _ rfl
    have ht2 := HATq.out.cell 2 _ rfl
    have ht3 := HATq.out.cell 3 _ rfl
    have ht4 := HATq.out.cell 4 _ rfl
    have ht5 := HATq.out.cell 5 _ rfl
    rw [Nat.add_zero] at ht0
    have hk8 : ∀ ob : Obj, (wq.alloc ob).cell? ⟨g, 1, none⟩ = some (.slice (some ⟨k, 0, none⟩) (gn + 1) cap) := fun ob => by
     have h1 : (wq.alloc ob).cell? ⟨g, 0 + 1, none⟩ = some (.slice (some ⟨k, 0, none⟩) (G.length + 1) cap) := (HWq.out.alloc ob).at0.cell 1 _ rfl
     rw [hgn] at h1
     exact h1
    have hkA : ∀ ob : Obj, At (wq.alloc ob) k (gn * 6) (hv f) := fun ob => HATq.out.alloc ob
    have hk0 : ∀ ob : Obj, (wq.alloc ob).cell? ⟨k, gn * 6, none⟩ = _ := fun ob => (hkA ob).cell 0 _ rfl
    have hk1 : ∀ ob : Obj, (wq.alloc ob).cell? ⟨k, gn * 6 + 1, none⟩ = _ := fun ob => (hkA ob).cell 1 _ rfl
    have hk2 : ∀ ob : Obj, (wq.alloc ob).cell? ⟨k, gn * 6 + 2, none⟩ = _ := fun ob => (hkA ob).cell 2 _ rfl
    have hk3 : ∀ ob : Obj, (wq.alloc ob).cell? ⟨k, gn * 6 + 3, none⟩ = _ := fun ob => (hkA ob).cell 3 _ rfl
    have hk4 : ∀ ob : Obj, (wq.alloc ob).cell? ⟨k, gn * 6 + 4, none⟩ = _ := fun ob => (hkA ob).cell 4 _ rfl
    have hk5 : ∀ ob : Obj, (wq.alloc ob).cell? ⟨k, gn * 6 + 5, none⟩ = _ := fun ob => (hkA ob).cell 5 _ rfl
    have HRT := hid ((HWq.out.alloc (Obj.cells #[.int .i64 (f.p0 : Int), .int .u64 (f.left : Int), .bool f.pairs, .bool f.value, .bool f.keys, .string ⟨f.last.toArray⟩] 110)).drewN 1)
    have HATT := hid ((At.ofAlloc wq #[.int .i64 (f.p0 : Int), .int .u64 (f.left : Int), .bool f.pairs, .bool f.value, .bool f.keys, .string ⟨f.last.toArray⟩] 110).drewN 1)
    have HBT := hid (HBq.out.trans (((Below.refl g wq).alloc (Nat.le_of_lt HWq.out.lt) (Obj.cells #[.int .i64 (f.p0 : Int), .int .u64 (f.left : Int), .bool f.pairs, .bool f.value, .bool f.keys, .string ⟨f.last.toArray⟩] 110)).drew))
    clear hkA hpe hgn
    go_wp2_with fail
    go_cut [5] from 90 to 101 (fun v wx => ∃ T, v = .pointer (some ⟨T, 0, none⟩) ∧ Wt wx g ⟨o2, f :: G, dp, dn, od⟩ vo (.slice (some ⟨k, 0, none⟩) (G.length + 1) cap) ∧ At wx T 0 (hv f) ∧ Below g w wx ∧ g ≠ T)
    case first =>
     go_wp2_with fail
     go_region
     go_wp2_with fail
     go_meet
     case rel => exact ⟨wq.heap.size, rfl, HRT.out, HATT.out, HBT.out, fun e => by have := HWq.out.lt; omega⟩
    case rest =>
     obtain ⟨T, rfl, hRT, hAT, hBT, hgT⟩ := hcut
     have HRC := hid hRT
     have HAC := hid hAT
     have HBC := hid hBT
     have HGT := hid hgT
     have hd1 : wc.cell? ⟨g, 0 + 1, none⟩ = some (.slice (some ⟨k, 0, none⟩) (G.length + 1) cap) := hRT.at0.cell 1 _ rfl
     have hdf1 := hRT.at0.froz 1 (by simp)
     rw [HGN.out] at hd1
     have hcap : gn + 1 ≤ cap := by have h1 := own_cap hRT.stack; have h9 : (f :: G).length ≤ cap := h1; rw [lco, HGN.out] at h9; exact h9
     have hcapz : (gn : Int) ≤ (cap : Int) := by omega
     have HR8 := HRC.out.pop
     rw [HGN.out] at HR8
     have HR9 := hid (fun z : Nat => HR8.drewN z)
     have HB9 := hid (fun z : Nat => (HBC.out.setCell (p := ⟨g, 1, none⟩) (nle _) (.slice (some ⟨k, 0, none⟩) gn cap)).trans (below_drewN g _ z))
     have ATC := hid (fun z : Nat => at_any ((wc.setCell ⟨g, 1, none⟩ (.slice (some ⟨k, 0, none⟩) gn cap)).drewN z) T 0 f.p0 (((HAC.out.other g 1 (.slice (some ⟨k, 0, none⟩) gn cap) (Or.inl HGT.out)).drewN z).cell 0 _ rfl))
     clear HR8 hcap hRT hAT hBT hgT hk8 hk0 hk1 hk2 hk3 hk4 hk5 ht0 ht1 ht2 ht3 ht4 ht5 HRT HATT HBT hc1
     go_wp2_with fail
     go_region
     go_wp2_with (first
      | (go_at_call 52; refine (ATC.out _).mono ?_; rintro e w5 ⟨rfl, rfl⟩))
     obtain ⟨hdn, htp⟩ := HC.out.2.2
     subst hdn
     refine (tended_any _ g f.p0 _ _ _ (HR9.out _) HC.out.1.rest.head (HC.out.1.1 f (List.mem_cons_self ..)).2 HON.out).mono ?_
     rintro e w9 ⟨rfl, HW9, HB99⟩
     obtain ⟨G3, dn3, od3, hE3, hTop3, hlen3, hcont3⟩ := endS_facts f.p0 o2 G dp od HC.out.1.rest
     have HW10 : Hid (Wt w9 g ⟨o2, G3, dp, dn3, od3⟩ vo (.slice (some ⟨k, 0, none⟩) gn cap)) := by rw [← hE3]; exact HW9
     have HIN : Hid (InAtom g w o2 dp R (G3.length + 1) w9) := ⟨G3, dn3, od3, _, _, HW10, ⟨hTop3, Nat.lt_succ_self _, by rw [← htp, tops, if_pos HPE.out]; exact hcont3⟩, (HB9.out _).trans HB99.out⟩
     have HLT : Hid (G3.length + 1 < gk) := by
      show G3.length + 1 < gk
      have h1 := HC.out.2.1
      rw [lco] at h1
      omega
     clear hE3 hTop3 hlen3 hcont3 HW9 HB99 HW10 htp
     go_wp2_with fail
     go_roundg (G3.length + 1)
     case measure => exact HLT.out
     case rel => exact HIN.out
   ·rw [dfa hpe] at FU
    have HF : Hid (RR = ⟨o2, f :: G, dp, dn, od⟩) := by
     show RR = _
     obtain ⟨h1, h2⟩ := HC.out.2.2
     rw [HRR.out, ← h2, tops, if_neg hpe, h1]
     rfl
    clear hAt hpe
    go_wp2_with fail
    go_quiet (first | (go_at_call 50; exact (FU.out _).mono fun _ _ h => ⟨h.1, _, h.2.symm⟩))
    go_wp2_with fail
    first | go_end0 | refine bodyPost_ret (results_none rfl _ _ _) rfl ?_
    rw [HF.out]
    exact ⟨rfl, ⟨_, _, HW.out.drewN _⟩, HB.out.trans (below_drewN _ _ _)⟩
theorem atom_text3 (w : World) (g : Nat) (t : Tl) (vo vs : Value) (a : Am) (tx : ByteArray) (hyp : AtHyp w g t vo vs a tx) (hkind : a.kind = 3) :
  Calls Tryz.prog 46 #[.pointer (some ⟨g, 0, none⟩), .agg #[.int .i64 (a.kind : Int), .int .u64 (a.num : Int), .string tx]] w (RsAtom (atomT false t a) g w) := by
 have HYP := hid hyp
 have hW := hyp.wt
 obtain ⟨oa, oc, rfl, -⟩ := own_form hW.out
 obtain ⟨sa, sc, rfl, -⟩ := own_form hW.stack
 obtain ⟨n, hn⟩ : ∃ n, t.out.length = n := ⟨_, rfl⟩
 obtain ⟨gl, hgl⟩ : ∃ n, t.G.length = n := ⟨_, rfl⟩
 have hk : a.kind = 3 := hkind
 obtain ⟨num, hnum⟩ : ∃ num, a.num = num := ⟨_, rfl⟩
 obtain ⟨m, hm⟩ : ∃ m, tx.size = m := ⟨_, rfl⟩
 have hx : a.text.length = m := by rw [← hyp.tl, tl_size, hm]
 have hcA0 : ∀ ob, (w.alloc ob).cell? ⟨g, 0, none⟩ = some (.slice oa n oc) := fun ob => by
  have h1 : (w.alloc ob).cell? ⟨g, 0 + 0, none⟩ = some (.slice oa t.out.length oc) := (hW.at0.alloc ob).cell 0 _ rfl
  rw [hn] at h1
  exact h1
 have hrow : rv (up a) = (#[Value.int .i64 3, Value.int .u64 (num : Int), Value.string tx]).toList := by
  rw [rv, up, hk, hnum]
  show [Value.int .i64 3, Value.int .u64 (num : Int), Value.string ⟨a.text.toArray⟩] = _
  rw [← hyp.tl, tl_arr]
 have HT0 := hid (box_row w (g + 1) hW.lt (up a) _ hrow)
 have HW0 := hid (hW.alloc (Obj.cells #[Value.int .i64 3, Value.int .u64 (num : Int), Value.string tx] 60))
 have HB0 : Hid (Below g w (w.alloc (Obj.cells #[Value.int .i64 3, Value.int .u64 (num : Int), Value.string tx] 60))) := (Below.refl g w).alloc (Nat.le_of_lt hW.lt) _
 have HROW := hid hrow
 have HN := hid hn
 have HGL := hid hgl
 have HKN := hid (aIn hk (aIn hnum (aIn hx hm)))
 have hk8 : 3 < 8 := by decide
 have hn64 : num < 18446744073709551616 := by rw [← hnum]; exact hyp.num
 have hm64 : m < 18446744073709551616 := by rw [← hm]; have := hyp.sz; omega
 have HDN : True := trivial
 have HDM : Hid (∀ w, Calls Tryz.prog 70 #[.int .i64 3, .int .u64 (m : Int)] w (RetS (hdN 3 m) w)) := fun w => chead_any 3 m hk8 hm64 w
 have hcm : IntKind.u64.wrap (tx.size : Int) = (m : Int) := by rw [hm]; exact u64c m hm64
 rw [hk, hnum, show ((3 : Nat) : Int) = (3 : Int) from rfl]
 have HO : Hid (∀ w, Calls Tryz.prog 71 #[.int .i64 3] w (RetVal (.bool false) w)) := fun w => holds_any 3 w
 obtain ⟨RR, hRR⟩ : ∃ R, atomT false t a = R := ⟨_, rfl⟩
 rw [hRR]
 have hat : atomT false t a = mkT (outT false t.out a) t.deep (ends (outT false t.out a) n t.G t.ord) := by
  rw [atomT, if_neg (by rw [hk]; decide), hn]
 rw [hat] at hRR
 have hot : outT false t.out a = putT false (putT false t.out (hdN 3 m)) tx.toList := by
  rw [outT, if_pos (by rw [hk]; decide), hk, hx, hyp.tl]
 have HOT := hid hot
 have HRR := hid hRR
 clear hyp hW hn hk hnum hm hx hrow hRR hk8 hn64 hm64 hgl hat hot
 go_enter Tryz.func46, Tryz.ntmps46
 go_upto_region 2 with fail
 obtain ⟨T, hT⟩ : ∃ T, w.heap.size = T := ⟨_, rfl⟩
 obtain ⟨wa, hwa⟩ : ∃ x, w.alloc (Obj.cells #[Value.int .i64 3, Value.int .u64 (num : Int), Value.string tx] 60) = x := ⟨_, rfl⟩
 rw [hwa, hT] at HT0
 rw [hwa] at HW0 HB0
 rw [hwa, hT]
 clear hwa hT hcA0
 have hA0 := At.ofOwnN HT0.out
 rw [HROW.out] at hA0
 have hT0 := hA0.z 0 _ rfl
 have hT1 := hA0.cell 1 _ rfl
 have hT2 := hA0.cell 2 _ rfl
 clear hA0
 go_wp2_with (first
  | (go_at_call 70; refine (HDM.out _).mono ?_; rintro e w1 ⟨hs, rfl, hh, hb1⟩; have HS := hid hh; have HW1 := hid (HW0.out.below hb1); have HT1 := hid (own_below HT0.out hb1 (nle _)); have HB1 := hid (HB0.out.trans (hb1.mono (Nat.le_of_lt HW0.out.lt))); clear hb1 hh)
  | (go_at_call 69; refine (tput_any _ g _ _ _ tx HW2.out HYP.out.sz).mono ?_; rintro e w3 ⟨rfl, ⟨vo3, HW3⟩, HB3, HK3⟩; have HT3 := hid (HK3.out _ _ _ _ _ atom_ne1 HT2.out); have hA3 := At.ofOwnN HT3.out; rw [HROW.out] at hA3; have hx0 := hA3.z 0 _ rfl; clear hA3)
  | (go_at_call 69; refine (tput_any _ g t _ _ hs HW1.out (by have := hd_size HS.out; omega)).mono ?_; rintro e w2 ⟨rfl, ⟨vo2, HW2⟩, HB2, HK2⟩; have HT2 := hid (HK2.out _ _ _ _ _ atom_ne1 HT1.out); have hA2 := At.ofOwnN HT2.out; rw [HROW.out] at hA2; have hu0 := hA2.z 0 _ rfl; have hu1 := hA2.cell 1 _ rfl; have hu2 := hA2.cell 2 _ rfl; clear hA2)
  | (go_at_call 71; refine (HO.out _).mono ?_; rintro e wh ⟨rfl, rfl⟩))
 obtain ⟨o2, ho2⟩ : ∃ o, outT false t.out a = o := ⟨_, rfl⟩
 have HW4 : Hid (Wt w3 g ⟨o2, t.G, t.deep, false, t.ord⟩ vo3 (.slice sa t.G.length sc)) := by
  have h1 := HW3.out
  rw [HYP.out.done] at h1
  show Wt _ _ _ _ _
  rw [← ho2, HOT.out, ← HS.out]
  exact h1
 have HON : Hid (o2 ≠ []) := by show o2 ≠ []; rw [← ho2]; exact outT_ne _ _
 have hge : t.out.length ≤ o2.length := by rw [← ho2]; exact outT_ge _ _ _
 have hgd : Gd t.G o2.length := HYP.out.gd.mono hge
 rw [ho2] at HRR
 refine (tended_any _ g n _ _ _ HW4.out hgd.head (by rw [← HN.out]; exact hge) HON.out).mono ?_
 rintro e w5 ⟨rfl, HW5, HB5⟩
 obtain ⟨G2, dn, od2, hE, hTop, hlen, hcont⟩ := endS_facts n o2 t.G t.deep t.ord hgd
 obtain ⟨dp, hdp⟩ : ∃ d, t.deep = d := ⟨_, rfl⟩
 obtain ⟨R, hR⟩ : ∃ R, ends o2 n t.G t.ord = R := ⟨_, rfl⟩
 rw [hR] at hcont HRR
 rw [hdp] at hE HRR HW5
 have HIN : Hid (InAtom g w o2 dp R (G2.length + 1) w5) := ⟨G2, dn, od2, _, _, by rw [← hE]; exact HW5, ⟨hTop, Nat.lt_succ_self _, hcont⟩, ((HB1.out.trans HB2.out).trans HB3.out).trans HB5.out⟩
 have HRR : Hid (RR = mkT o2 dp R) := HRR.out.symm
 clear hE hTop hcont hlen HW5 HB5 HW4 ho2 hge hgd hdp hR HOT HB1 HB2 HB3 HK2 HK3 HT1 HT2 HT3 HW1 HW2 HW3 hT0 hT1 hT2 hu0 hu1 hu2 hx0
 clear HW0 HB0 HT0 HDN HDM HO hcm
 go_wp2_with fail
 go_loopg [] (G2.length + 1) (fun gk wr => InAtom g w o2 dp R gk wr)
 case atStart => exact HIN.out
 case round =>
  obtain ⟨G, dn, od, vo, vs, HW, HC, HB⟩ := hrel
  clear HIN
  cases G with
  | nil =>
   obtain ⟨ad, cd, rfl, -⟩ := own_form HW.out.stack
   have hc1 : wr.cell? ⟨g, 0 + 1, none⟩ = some (.slice ad 0 cd) := HW.out.at0.cell 1 _ rfl
   have HF : Hid (RR = ⟨o2, [], dp, dn, od⟩) := by
    show RR = _
    have h1 : ([], dn, od) = R := HC.out.2.2
    rw [HRR.out, ← h1]
    rfl
   go_wp2_with fail
   go_quiet (fail)
   go_wp2_with fail
   first | go_end0 | refine bodyPost_ret (results_none rfl _ _ _) rfl ?_
   rw [HF.out]
   exact ⟨rfl, ⟨_, _, HW.out.drewN _⟩, HB.out.trans (below_drewN _ _ _)⟩
  | cons f G =>
   obtain ⟨k, cap, rfl, hgk0, hAt⟩ := own_top HW.out.stack
   have hgk : g < k := hgk0
   obtain ⟨gn, hgn⟩ : ∃ gn, G.length = gn := ⟨_, rfl⟩
   have e4 : IntKind.i64.wrap (gn : Int) = (gn : Int) := wrap_fit gn (by have h1 := own_fit HW.out.stack; have h9 : (f :: G).length ≤ maxLen := h1; rw [lco, hgn] at h9; omega)
   have e4b : (gn : Int) < (gn : Int) + 1 := by omega
   have hc1 : wr.cell? ⟨g, 0 + 1, none⟩ = some (.slice (some ⟨k, 0, none⟩) (G.length + 1) cap) := HW.out.at0.cell 1 _ rfl
   rw [hgn] at hAt hc1
   have ht0 := hAt.cell 0 _ rfl
   have ht1 := hAt.cell 1 _ rfl
   have ht2 := hAt.cell 2 _ rfl
   have ht3 := hAt.cell 3 _ rfl
   have ht4 := hAt.cell 4 _ rfl
   have ht5 := hAt.cell 5 _ rfl
   rw [Nat.add_zero] at ht0
   have FU := hid (fun z : Nat => full_any (wr.drewN z) k (gn * 6) f.left ht1)
   have HGN := hid hgn
   by_cases hpe : f.left = 0
   ·rw [dtr hpe] at FU
    have HPE := hid hpe
    go_wp2_with fail
    go_quiet (first | (go_at_call 50; exact (FU.out _).mono fun _ _ h => ⟨h.1, _, h.2.symm⟩))
    have HWq := hid (HW.out.drewN nq)
    have HBq := hid (HB.out.trans (below_drewN g wr nq))
    have HATq := hid (hAt.drewN nq)
    obtain ⟨wq, hwq⟩ : ∃ x, wr.drewN nq = x := ⟨_, rfl⟩
    rw [hwq] at HWq HBq HATq
    rw [hwq]
    clear hwq hAt hc1 ht0 ht1 ht2 ht3 ht4 ht5 HW HB FU
    have hc1 : wq.cell? ⟨g, 0 + 1, none⟩ = some (.slice (some ⟨k, 0, none⟩) (G.length + 1) cap) := HWq.out.at0.cell 1 _ rfl
    rw [hgn] at hc1
    have ht0 := HATq.out.cell 0 _ rfl
    have ht1 := HATq.out.cell 1 _ rfl
    have ht2 := HATq.out.cell 2 _ rfl
    have ht3 := HATq.out.cell 3 _ rfl
    have ht4 := HATq.out.cell 4 _ rfl
    have ht5 := HATq.out.cell 5 _ rfl
    rw [Nat.add_zero] at ht0
    have hk8 : ∀ ob : Obj, (wq.alloc ob).cell? ⟨g, 1, none⟩ = some (.slice (some ⟨k, 0, none⟩) (gn + 1) cap) := fun ob => by
     have h1 : (wq.alloc ob).cell? ⟨g, 0 + 1, none⟩ = some (.slice (some ⟨k, 0, none⟩) (G.length + 1) cap) := (HWq.out.alloc ob).at0.cell 1 _ rfl
     rw [hgn] at h1
     exact h1
    have hkA : ∀ ob : Obj, At (wq.alloc ob) k (gn * 6) (hv f) := fun ob => HATq.out.alloc ob
    have hk0 : ∀ ob : Obj, (wq.alloc ob).cell? ⟨k, gn * 6, none⟩ = _ := fun ob => (hkA ob).cell 0 _ rfl
    have hk1 : ∀ ob : Obj, (wq.alloc ob).cell? ⟨k, gn * 6 + 1, none⟩ = _ := fun ob => (hkA ob).cell 1 _ rfl
    have hk2 : ∀ ob : Obj, (wq.alloc ob).cell? ⟨k, gn * 6 + 2, none⟩ = _ := fun ob => (hkA ob).cell 2 _ rfl
    have hk3 : ∀ ob : Obj, (wq.alloc ob).cell? ⟨k, gn * 6 + 3, none⟩ = _ := fun ob => (hkA ob).cell 3 _ rfl
    have hk4 : ∀ ob : Obj, (wq.alloc ob).cell? ⟨k, gn * 6 + 4, none⟩ = _ := fun ob => (hkA ob).cell 4 _ rfl
    have hk5 : ∀ ob : Obj, (wq.alloc ob).cell? ⟨k, gn * 6 + 5, none⟩ = _ := fun ob => (hkA ob).cell 5 _ rfl
    have HRT := hid ((HWq.out.alloc (Obj.cells #[.int .i64 (f.p0 : Int), .int .u64 (f.left : Int), .bool f.pairs, .bool f.value, .bool f.keys, .string ⟨f.last.toArray⟩] 110)).drewN 1)
    have HATT := hid ((At.ofAlloc wq #[.int .i64 (f.p0 : Int), .int .u64 (f.left : Int), .bool f.pairs, .bool f.value, .bool f.keys, .string ⟨f.last.toArray⟩] 110).drewN 1)
    have HBT := hid (HBq.out.trans (((Below.refl g wq).alloc (Nat.le_of_lt HWq.out.lt) (Obj.cells #[.int .i64 (f.p0 : Int), .int .u64 (f.left : Int), .bool f.pairs, .bool f.value, .bool f.keys, .string ⟨f.last.toArray⟩] 110)).drew))
    clear hkA hpe hgn
    go_wp2_with fail
    go_cut [5] from 90 to 101 (fun v wx => ∃ T, v = .pointer (some ⟨T, 0, none⟩) ∧ Wt wx g ⟨o2, f :: G, dp, dn, od⟩ vo (.slice (some ⟨k, 0, none⟩) (G.length + 1) cap) ∧ At wx T 0 (hv f) ∧ Below g w wx ∧ g ≠ T)
    case first =>
     go_wp2_with fail
     go_region
     go_wp2_with fail
     go_meet
     case rel => exact ⟨wq.heap.size, rfl, HRT.out, HATT.out, HBT.out, fun e => by have := HWq.out.lt; omega⟩
    case rest =>
     obtain ⟨T, rfl, hRT, hAT, hBT, hgT⟩ := hcut
     have HRC := hid hRT
     have HAC := hid hAT
     have HBC := hid hBT
     have HGT := hid hgT
     have hd1 : wc.cell? ⟨g, 0 + 1, none⟩ = some (.slice (some ⟨k, 0, none⟩) (G.length + 1) cap) := hRT.at0.cell 1 _ rfl
     have hdf1 := hRT.at0.froz 1 (by simp)
     rw [HGN.out] at hd1
     have hcap : gn + 1 ≤ cap := by have h1 := own_cap hRT.stack; have h9 : (f :: G).length ≤ cap := h1; rw [lco, HGN.out] at h9; exact h9
     have hcapz : (gn : Int) ≤ (cap : Int) := by omega
     have HR8 := HRC.out.pop
     rw [HGN.out] at HR8
     have HR9 := hid (fun z : Nat => HR8.drewN z)
     have HB9 := hid (fun z : Nat => (HBC.out.setCell (p := ⟨g, 1, none⟩) (nle _) (.slice (some ⟨k, 0, none⟩) gn cap)).trans (below_drewN g _ z))
     have ATC := hid (fun z : Nat => at_any ((wc.setCell ⟨g, 1, none⟩ (.slice (some ⟨k, 0, none⟩) gn cap)).drewN z) T 0 f.p0 (((HAC.out.other g 1 (.slice (some ⟨k, 0, none⟩) gn cap) (Or.inl HGT.out)).drewN z).cell 0 _ rfl))
     clear HR8 hcap hRT hAT hBT hgT hk8 hk0 hk1 hk2 hk3 hk4 hk5 ht0 ht1 ht2 ht3 ht4 ht5 HRT HATT HBT hc1
     go_wp2_with fail
     go_region
     go_wp2_with (first
      | (go_at_call 52; refine (ATC.out _).mono ?_; rintro e w5 ⟨rfl, rfl⟩))
     obtain ⟨hdn, htp⟩ := HC.out.2.2
     subst hdn
     refine (tended_any _ g f.p0 _ _ _ (HR9.out _) HC.out.1.rest.head (HC.out.1.1 f (List.mem_cons_self ..)).2 HON.out).mono ?_
     rintro e w9 ⟨rfl, HW9, HB99⟩
     obtain ⟨G3, dn3, od3, hE3, hTop3, hlen3, hcont3⟩ := endS_facts f.p0 o2 G dp od HC.out.1.rest
     have HW10 : Hid (Wt w9 g ⟨o2, G3, dp, dn3, od3⟩ vo (.slice (some ⟨k, 0, none⟩) gn cap)) := by rw [← hE3]; exact HW9
     have HIN : Hid (InAtom g w o2 dp R (G3.length + 1) w9) := ⟨G3, dn3, od3, _, _, HW10, ⟨hTop3, Nat.lt_succ_self _, by rw [← htp, tops, if_pos HPE.out]; exact hcont3⟩, (HB9.out _).trans HB99.out⟩
     have HLT : Hid (G3.length + 1 < gk) := by
      show G3.length + 1 < gk
      have h1 := HC.out.2.1
      rw [lco] at h1
      omega
     clear hE3 hTop3 hlen3 hcont3 HW9 HB99 HW10 htp
     go_wp2_with fail
     go_roundg (G3.length + 1)
     case measure => exact HLT.out
     case rel => exact HIN.out
   ·rw [dfa hpe] at FU
    have HF : Hid (RR = ⟨o2, f :: G, dp, dn, od⟩) := by
     show RR = _
     obtain ⟨h1, h2⟩ := HC.out.2.2
     rw [HRR.out, ← h2, tops, if_neg hpe, h1]
     rfl
    clear hAt hpe
    go_wp2_with fail
    go_quiet (first | (go_at_call 50; exact (FU.out _).mono fun _ _ h => ⟨h.1, _, h.2.symm⟩))
    go_wp2_with fail
    first | go_end0 | refine bodyPost_ret (results_none rfl _ _ _) rfl ?_
    rw [HF.out]
    exact ⟨rfl, ⟨_, _, HW.out.drewN _⟩, HB.out.trans (below_drewN _ _ _)⟩
end Co
end Go.Proofs.YtikgonlhdkknkaaGreatDoor
