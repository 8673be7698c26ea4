/- The teller in memory; bytes are put; an item has ended. -/
import Derived.Test.YtikgonlhdkknkaaDoorCpM
import Derived.Room.AppendFits
import Derived.Deep.DeepAppendWide
namespace Go.Proofs.YtikgonlhdkknkaaDoor
open Go.RowKit
set_option linter.unusedVariables false
set_option linter.unusedSimpArgs false
namespace Co
open Dr (Rs Lm has lack at0S)
section
variable {P : Program} {w : World}
/-- a text is appended to few bytes, however long it is -/
theorem run_append_tx (base : Nat) (t u ty e : TypeId) (i : TypeInfo) (ht : P.underlying t = some (.slice e)) (hu : P.underlying u = some .string) (hi : P.info? e = some i) (hz : i.zero = some (.int .u8 0)) (hsize : i.size = 1) (hby : i.bytes = 1)
    (v : Value) (n : Nat) (l : List UInt8) (hown : w.ownsRow base e 1 v n (bcells l)) (s : ByteArray) (hn : n ≤ 262144) (hs : s.size ≤ 140737488351232) (hbase : base ≤ w.heap.size) :
    ∃ v' w', (Builtin.append_ #[t, u] ty #[v, .string s]).run P w = .ok v' w' ∧ w'.ownsRow base e 1 v' (n + s.size) (bcells (l ++ s.toList)) ∧ w.grownBy w' v.ownBlock := by
  have e1 : Lib.strCells s = bcells s.toList := by
    rw [Lib.toList_data]
    simp [Lib.strCells, bcells]
  rw [bcells_append, ← e1]
  by_cases hb : n + s.size ≤ 140737488355328
  · obtain ⟨v', w', h1, h2, h3, -⟩ := Lib.run_append_own_string (P := P) w base t u ty e i ht hu hi hz hsize hby v n _ hown s (by unfold maxLen; omega) hb hbase
    exact ⟨v', w', h1, h2, h3⟩
  · rcases hown.2 with ⟨rfl, rfl⟩ | ⟨g, cap, cur, rfl, hbg, hg, hnc, hcm, hcs, htake⟩
    · omega
    · by_cases hroom : n + s.size ≤ cap
      · obtain ⟨w', h1, h2, h3⟩ := Lib.run_append_fits_string (P := P) w base t u ty e i ht hu hi hsize _ n cap _ hown s (by omega) hroom
        exact ⟨_, w', h1, h2, h3⟩
      · have hxl : (bcells l).length = n := by simpa using hown.1
        have hcell : ∀ j x, (bcells l)[j]? = some x → w.cell? ((⟨g, 0, none⟩ : Addr).add j) = some x := hown.cells (g := g) rfl
        have hr := Lib.run_append_grow_string (P := P) w t u ty e i (.int .u8 0) ht hu hi hz ⟨g, 0, none⟩ n cap (bcells l) (by rw [hsize, hxl, Nat.mul_one]) hcell s (by omega) (by omega) (by rw [hby]; exact growslice_fits_wide (by omega) (by omega))
        refine ⟨_, _, hr, ⟨by rw [List.length_append, hxl, Lib.strCells_length, Nat.mul_one], .inr ⟨w.heap.size, _, _, rfl, hbase, heap_alloc_new w.drew _, grownCap_ge _ _ _ _, grownCap_le_maxLen _ _ _ _ (by unfold maxLen; omega), ?_, ?_⟩⟩, ⟨rfl, rfl, rfl, by simp, fun k hk _ => heap_alloc_old w.drew _ hk⟩⟩
        · have h9 := grownCap_ge w (n + s.size) cap e
          have h8 : (Value.int IntKind.u8 0).cells.size = 1 := rfl
          simp only [Array.size_append, List.size_toArray, size_zeroCells, h8, hxl, Lib.strCells_length]
          omega
        · have h7 : (n + s.size) * 1 = (bcells l ++ Lib.strCells s).length := by rw [List.length_append, hxl, Lib.strCells_length, Nat.mul_one]
          simp only [Array.toList_append, List.append_assoc]
          rw [h7, ← List.append_assoc]
          exact List.take_left
theorem wpList_append_tx {a : Act} {ops : Array Oper} {rest : List Oper} {o : Oper} {Q : Exit → Act → World → Prop} (hgd : o.guard = none) (sl x : Operand) (t u : TypeId)
    (ho : o.op = .call { callee := .builtin .append, args := #[sl, x], argTypes := #[t, u] })
    (base : Nat) (e : TypeId) (i : TypeInfo) (ht : P.underlying t = some (.slice e)) (hu : P.underlying u = some .string) (hi : P.info? e = some i) (hz : i.zero = some (.int .u8 0)) (hsize : i.size = 1) (hby : i.bytes = 1)
    (v : Value) (n m : Nat) (l : List UInt8) (hs : a.eval sl = v) (hown : w.ownsRow base e 1 v n (bcells l)) (s : ByteArray) (hx : a.eval x = .string s) (hm : s.size = m) (hn : n ≤ 262144) (hsz : m ≤ 140737488351232) (hbase : base ≤ w.heap.size)
    (h : ∀ v' w', w'.ownsRow base e 1 v' (n + m) (bcells (l ++ s.toList)) → w.grownBy w' v.ownBlock → wpList P ops Q rest (a.put o.dst v') w') : wpList P ops Q (o :: rest) a w := by
  subst hm
  refine wpList_plain hgd fun K hK => ?_
  obtain ⟨v', w', hr, h2, h3⟩ := run_append_tx (P := P) (w := w) base t u o.type e i ht hu hi hz hsize hby v n l hown s hn hsz hbase
  unfold Oper.wp execOp
  simp only [ho, resolve, invoke, builtin, Sem.run_bind, Sem.run_pure, Result.andThen_ok, List.map_toArray, List.map_cons, List.map_nil, hs, hx, hr]
  exact hK _ _ (h v' w' h2 h3)
end
/-- the teller in memory -/
structure Wt (w : World) (g : Nat) (t : Tl) (vo vs : Value) : Prop where
  at0 : At w g 0 [vo, vs, .int .i64 (t.deep : Int), .bool t.done, .bool t.ord]
  out : w.ownsRow (g + 1) 5 1 vo t.out.length (bcells t.out)
  stack : w.ownsRow (g + 1) 108 6 vs t.G.length (hcells t.G)
  lt : g < w.heap.size
theorem kinds_ne2 : (5 : Nat) ≠ 108 := by decide
section
variable {w w' : World} {g : Nat} {t : Tl} {vo vs : Value}
theorem set_size (w : World) (a : Addr) (v : Value) : (w.setCell a v).heap.size = w.heap.size := by simp [World.setCell]
theorem Wt.drewN (h : Wt w g t vo vs) (k : Nat) : Wt (w.drewN k) g t vo vs := ⟨h.at0.drewN k, own_drewN h.out k, own_drewN h.stack k, h.lt⟩
theorem Wt.alloc (h : Wt w g t vo vs) (o : Obj) : Wt (w.alloc o) g t vo vs := ⟨h.at0.alloc o, h.out.alloc o, h.stack.alloc o, by simp; have := h.lt; omega⟩
theorem Wt.below (h : Wt w g t vo vs) (hb : Below w.heap.size w w') : Wt w' g t vo vs :=
  ⟨h.at0.below hb h.lt, own_below h.out hb (Nat.le_refl _), own_below h.stack hb (Nat.le_refl _), Nat.lt_of_lt_of_le h.lt hb.size⟩
theorem Wt.setDone (h : Wt w g t vo vs) (b : Bool) : Wt (w.setCell ⟨g, 3, none⟩ (.bool b)) g { t with done := b } vo vs :=
  ⟨h.at0.set 3 (.bool b), ownsRow_setCell_below h.out (Nat.lt_succ_self g) _, ownsRow_setCell_below h.stack (Nat.lt_succ_self g) _, by rw [set_size]; exact h.lt⟩
theorem Wt.setOrd (h : Wt w g t vo vs) (b : Bool) : Wt (w.setCell ⟨g, 4, none⟩ (.bool b)) g { t with ord := b } vo vs :=
  ⟨h.at0.set 4 (.bool b), ownsRow_setCell_below h.out (Nat.lt_succ_self g) _, ownsRow_setCell_below h.stack (Nat.lt_succ_self g) _, by rw [set_size]; exact h.lt⟩
theorem Wt.setDeep (h : Wt w g t vo vs) (d : Nat) : Wt (w.setCell ⟨g, 2, none⟩ (.int .i64 (d : Int))) g { t with deep := d } vo vs :=
  ⟨h.at0.set 2 (.int .i64 (d : Int)), ownsRow_setCell_below h.out (Nat.lt_succ_self g) _, ownsRow_setCell_below h.stack (Nat.lt_succ_self g) _, by rw [set_size]; exact h.lt⟩
/-- bytes are appended -/
theorem Wt.addOut (h : Wt w g t vo vs) {o' : List UInt8} {v' : Value} (hg : w.grownBy w' vo.ownBlock) (ho : w'.ownsRow (g + 1) 5 1 v' o'.length (bcells o')) :
    Wt (w'.setCell ⟨g, 0, none⟩ v') g { t with out := o' } v' vs := by
  have hlt := h.lt
  have h1 := h.at0.grown hg hlt (fun e => by have := (h.out.lt g e).1; omega)
  have h2 := h.stack.kept hg (by
    rcases own_ne h.stack h.out (Ne.symm kinds_ne2) with h3 | h3
    · exact .inl h3
    · exact .inr h3)
  exact ⟨h1.set 0 v', ownsRow_setCell_below ho (Nat.lt_succ_self g) _, ownsRow_setCell_below h2 (Nat.lt_succ_self g) _, by rw [set_size]; exact Nat.lt_of_lt_of_le hlt hg.size⟩
/-- a frame is appended -/
theorem Wt.addFrame (h : Wt w g t vo vs) {G' : List Fr} {v' : Value} (hg : w.grownBy w' vs.ownBlock) (ho : w'.ownsRow (g + 1) 108 6 v' G'.length (hcells G')) :
    Wt (w'.setCell ⟨g, 1, none⟩ v') g { t with G := G' } vo v' := by
  have hlt := h.lt
  have h1 := h.at0.grown hg hlt (fun e => by have := (h.stack.lt g e).1; omega)
  have h2 := h.out.kept hg (by
    rcases own_ne h.out h.stack kinds_ne2 with h3 | h3
    · exact .inl h3
    · exact .inr h3)
  exact ⟨h1.set 1 v', ownsRow_setCell_below h2 (Nat.lt_succ_self g) _, ownsRow_setCell_below ho (Nat.lt_succ_self g) _, by rw [set_size]; exact Nat.lt_of_lt_of_le hlt hg.size⟩
end
section
variable {w : World} {g : Nat} {out : List UInt8} {f : Fr} {G : List Fr} {dp : Nat} {dn od : Bool} {vo vs : Value} {k cap n : Nat}
theorem Wt.setTop (h : Wt w g ⟨out, f :: G, dp, dn, od⟩ vo vs) (hk : vs = .slice (some ⟨k, 0, none⟩) (G.length + 1) cap) (j : Nat) (hj : j < 6) (u : Value) (f' : Fr) (hf : (hv f).set j u = hv f') :
    Wt (w.setCell ⟨k, G.length * 6 + j, none⟩ u) g ⟨out, f' :: G, dp, dn, od⟩ vo vs := by
  subst hk
  have hgk := (h.stack.lt k rfl).1
  have hne : vo.ownBlock ≠ some k := by
    rcases own_ne h.out h.stack kinds_ne2 with h1 | h1
    · rw [h1]; exact fun e => by cases e
    · exact h1
  exact ⟨h.at0.other k (G.length * 6 + j) u (Or.inl (by omega)), ownsRow_setCell_other h.out hne u, own_setTop h.stack j hj u f' hf, by rw [set_size]; exact h.lt⟩
theorem Wt.topKey (h : Wt w g ⟨out, f :: G, dp, dn, od⟩ vo (.slice (some ⟨k, 0, none⟩) (G.length + 1) cap)) (hn : G.length = n) (u : ByteArray) (x : List UInt8) (hx : u.toList = x) :
    Wt (((w.setCell ⟨k, n * 6 + 4, none⟩ (.bool true)).setCell ⟨k, n * 6 + 3, none⟩ (.bool true)).setCell ⟨k, n * 6 + 5, none⟩ (.string u)) g ⟨out, { f with keys := true, value := true, last := x } :: G, dp, dn, od⟩ vo (.slice (some ⟨k, 0, none⟩) (G.length + 1) cap) := by
  subst hx hn
  have h8 := h.setTop rfl 4 (by decide) (.bool true) { f with keys := true } rfl
  have h9 := h8.setTop rfl 3 (by decide) (.bool true) { f with keys := true, value := true } rfl
  exact h9.setTop rfl 5 (by decide) (.string u) { f with keys := true, value := true, last := u.toList } (by simp [hv, tl_arr])
theorem Wt.topOther (h : Wt w g ⟨out, f :: G, dp, dn, od⟩ vo (.slice (some ⟨k, 0, none⟩) (G.length + 1) cap)) (hn : G.length = n) (m : Nat) (y : Int) (hm : f.left - 1 = m) (hy : (m : Int) = y) :
    Wt ((w.setCell ⟨k, n * 6 + 3, none⟩ (.bool false)).setCell ⟨k, n * 6 + 1, none⟩ (.int .u64 y)) g ⟨out, { f with value := false, left := f.left - 1 } :: G, dp, dn, od⟩ vo (.slice (some ⟨k, 0, none⟩) (G.length + 1) cap) := by
  subst hy hm hn
  have h8 := h.setTop rfl 3 (by decide) (.bool false) { f with value := false } rfl
  exact h8.setTop rfl 1 (by decide) (.int .u64 ((f.left - 1 : Nat) : Int)) { f with value := false, left := f.left - 1 } rfl
theorem Wt.pop (h : Wt w g ⟨out, f :: G, dp, dn, od⟩ vo (.slice (some ⟨k, 0, none⟩) (G.length + 1) cap)) :
    Wt (w.setCell ⟨g, 1, none⟩ (.slice (some ⟨k, 0, none⟩) G.length cap)) g ⟨out, G, dp, dn, od⟩ vo (.slice (some ⟨k, 0, none⟩) G.length cap) := by
  have h1 : w.ownsRow (g + 1) 108 6 (.slice (some ⟨k, 0, none⟩) G.length cap) G.length (hcells G) := ownsRow_pop (last := hv f) (by rw [hcells_length]; omega) (by rw [← hcells_cons]; exact h.stack)
  exact ⟨h.at0.set 1 _, ownsRow_setCell_below h.out (Nat.lt_succ_self g) _, ownsRow_setCell_below h1 (Nat.lt_succ_self g) _, by rw [set_size]; exact h.lt⟩
end
/-- bytes are put: rows of other kinds are as they were -/
def RsPut (s : List UInt8) (g : Nat) (t : Tl) (vs : Value) (w : World) (e : Ending) (w' : World) : Prop :=
  e = .returned (.tuple #[]) ∧ (∃ vo', Hid (Wt w' g { t with out := putT false t.out s } vo' vs)) ∧ Hid (Below g w w') ∧ Hid (∀ (e : TypeId) (sz : Nat) (v : Value) (n : Nat) (xs : List Value), e ≠ 5 → w.ownsRow (g + 1) e sz v n xs → w'.ownsRow (g + 1) e sz v n xs)
set_option maxRecDepth 100000 in
set_option maxHeartbeats 1600000 in
theorem tput_any (w : World) (g : Nat) (t : Tl) (vo vs : Value) (s : ByteArray) (hW : Wt w g t vo vs) (hz : s.size ≤ 140737488351232) :
    Calls Tryd.prog 58 #[.pointer (some ⟨g, 0, none⟩), .string s] w (RsPut s.toList g t vs w) := by
  obtain ⟨a, c, rfl, -⟩ := own_form hW.out
  obtain ⟨n, hn⟩ : ∃ n, t.out.length = n := ⟨_, rfl⟩
  have hc0 := hW.at0.cell 0 _ rfl
  rw [hn] at hc0
  by_cases h : n ≤ 262144
  · obtain ⟨i0, hi, hz0, hz1, hz2⟩ := info_parts info5
    have e1 : (n : Int) ≤ 262144 := by omega
    obtain ⟨m, hm⟩ : ∃ m, s.size = m := ⟨_, rfl⟩
    have hp : putT false t.out s.toList = t.out ++ s.toList := putT_le _ _ (by omega) false
    have hput : Hid ((t.out ++ s.toList).length = n + m) := by show _ = _; rw [List.length_append, hn, tl_size, hm]
    have hf0 := hW.at0.froz 0 (by simp)
    have HW := Lib.hid hW
    have HN := Lib.hid hn
    have HS := Lib.hid hm
    have HP := Lib.hid hp
    have HZ := Lib.hid hz
    have HH := Lib.hid h
    clear hW hz hn h hm hp
    go_enter Tryd.func58, Tryd.ntmps58
    go_wp2_with (at_builtin; refine wpList_append_tx rfl (.tmp 14) (.tmp 15) 82 9 rfl (g + 1) 5 i0 Tryd.underlying82 Tryd.underlying9 hi hz0 hz1 hz2 (.slice a n c) n m t.out rfl (by have h1 := HW.out.out; rw [HN.out] at h1; exact h1) s rfl HS.out HH.out (by have h1 := HZ.out; have h2 := HS.out; omega) (by have := HW.out.lt; omega) ?_; intro v' w3 hown3 hgrow9; obtain ⟨a3, c3, hv3, -⟩ := own_form hown3; subst hv3; have hgrow3 : w.grownBy w3 (Value.slice a t.out.length c).ownBlock := (by rw [HN.out]; exact hgrow9); have hAt3 := At.grown (HW.out.at0) hgrow3 HW.out.lt (fun e => by have := (HW.out.out.lt g e).1; omega); have hf03 := hAt3.froz 0 (by simp); have hc03 := hAt3.cell 0 _ rfl; have HR3 := Lib.hid (Wt.addOut (o' := t.out ++ s.toList) HW.out hgrow3 (by rw [hput.out]; exact hown3)); have HB3 := Lib.hid ((((Below.refl g w).grown hgrow3 (Nat.le_of_lt HW.out.lt) (fun k hk => by have := (HW.out.out.lt k hk).1; omega)).setCell (p := ⟨g, 0, none⟩) (Nat.le_refl _) (.slice a3 (n + m) c3))); obtain ⟨n9, hn9⟩ : ∃ x, x = n := ⟨_, rfl⟩; have HK3 : Hid (∀ (e : TypeId) (sz : Nat) (v : Value) (n : Nat) (xs : List Value), e ≠ 5 → w.ownsRow (g + 1) e sz v n xs → (w3.setCell ⟨g, 0, none⟩ (.slice a3 (n9 + m) c3)).ownsRow (g + 1) e sz v n xs) := (fun e sz v n xs hne h => ownsRow_setCell_below (h.kept hgrow3 (by rcases own_ne h HW.out.out hne with h3 | h3; exact .inl h3; exact .inr h3)) (Nat.lt_succ_self g) _); subst hn9; clear hAt3 hgrow3 hgrow9 hown3)
    first | go_end0 | refine bodyPost_ret (results_none rfl _ _ _) rfl ?_
    refine ⟨rfl, ⟨.slice a3 (n9 + m) c3, ?_⟩, HB3, HK3⟩
    show Wt _ _ _ _ _
    rw [HP.out]
    exact HR3.out
  · have e1 : ¬ (n : Int) ≤ 262144 := by omega
    have hp : putT false t.out s.toList = t.out := by rw [putT, if_neg]; rintro (h1 | h1); cases h1; omega
    have HW := Lib.hid hW
    have HP := Lib.hid hp
    clear hW hz hn h hp
    go_enter Tryd.func58, Tryd.ntmps58
    go_wp2_with fail
    first | go_end0 | refine bodyPost_ret (results_none rfl _ _ _) rfl ?_
    refine ⟨rfl, ⟨.slice a t.out.length c, ?_⟩, Below.refl _ _, fun e sz v n xs _ h => h⟩
    show Wt _ _ _ _ _
    rw [HP.out]
    exact HW.out
/-- an item has ended: one step -/
def endS (a : Nat) (t : Tl) : Tl := match t with
  | ⟨out, [], dp, dn, od⟩ => ⟨out, [], dp, true, od⟩
  | ⟨out, f :: G, dp, dn, od⟩ => ⟨out, adv f (out.drop a) :: G, dp, dn, od && okB f (out.drop a)⟩
def RsEndT (a : Nat) (g : Nat) (t : Tl) (vo vs : Value) (w : World) (e : Ending) (w' : World) : Prop :=
  e = .returned (.tuple #[]) ∧ Hid (Wt w' g (endS a t) vo vs) ∧ Hid (Below g w w')
theorem slice_conv {w : World} {B n cap g : Nat} {l : List UInt8} (h : w.ownsRow B 5 1 (.slice (some ⟨g, 0, none⟩) n cap) n (bcells l)) (a : Nat) (ha : a ≤ n) (hl : l.length = n) (c : Nat) :
    (convert 82 9 (.slice (some ⟨g, a, none⟩) (n - a) c)).run Tryd.prog w = .ok (.string ⟨(l.drop a).toArray⟩) w := by
  have hd : (l.drop a).length = n - a := by rw [List.length_drop, hl]
  have h1 := run_convert_bytes_back (P := Tryd.prog) w 82 9 5 ⟨g, a, none⟩ c (l.drop a) Tryd.underlying82 Tryd.underlying5 Tryd.underlying9 (fun j hj => by
    have hA := At.ofOwnN h
    have hj2 : a + j < l.length := by rw [List.length_drop] at hj; omega
    have hc := hA.cell (a + j) _ (bcells_get l (a + j) hj2)
    have he : (⟨g, a, none⟩ : Addr).add j = ⟨g, a + j, none⟩ := by unfold Addr.add; split <;> simp_all
    rw [he, List.getElem_drop]
    rw [Nat.zero_add] at hc
    exact hc)
  rw [hd] at h1
  exact h1
set_option maxRecDepth 100000 in
set_option maxHeartbeats 1600000 in
theorem tended_any (w : World) (g a : Nat) (t : Tl) (vo vs : Value) (hW : Wt w g t vo vs) (hop : ∀ f, t.G.head? = some f → 0 < f.left ∧ f.left < 18446744073709551616) (ha : a ≤ t.out.length) (hne : t.out ≠ []) :
    Calls Tryd.prog 62 #[.pointer (some ⟨g, 0, none⟩), .int .i64 (a : Int)] w (RsEndT a g t vo vs w) := by
  obtain ⟨out, G, dp, dn, od⟩ := t
  have HW := Lib.hid hW
  cases G with
  | nil =>
    obtain ⟨ad, c, rfl, -⟩ := own_form hW.stack
    have hc1 := hW.at0.cell 1 _ rfl
    have hc3 := hW.at0.cell 3 _ rfl
    have hf3 := hW.at0.froz 3 (by simp)
    clear hW hop ha hne
    go_enter Tryd.func62, Tryd.ntmps62
    go_wp2_with fail
    first | go_end0 | refine bodyPost_ret (results_none rfl _ _ _) rfl ?_
    exact ⟨rfl, HW.out.setDone true, (Below.refl g w).setCell (p := ⟨g, 3, none⟩) (Nat.le_refl _) (.bool true)⟩
  | cons f G =>
    have hf := hop f rfl
    have hne : out ≠ [] := hne
    have ha : a ≤ out.length := ha
    obtain ⟨k, cap, rfl, hgk0, hAt⟩ := own_top hW.stack
    have hgk : g < k := hgk0
    obtain ⟨oa, oc, rfl, hoa⟩ := own_form hW.out
    obtain ⟨og, rfl⟩ := hoa (List.length_pos_iff.2 hne)
    have hocap := own_cap hW.out
    have hc4 : w.cell? ⟨g, 0 + 4, none⟩ = some (.bool od) := hW.at0.cell 4 _ rfl
    have hg4 := hW.at0.froz 4 (by simp)
    obtain ⟨n, hn⟩ : ∃ n, G.length = n := ⟨_, rfl⟩
    obtain ⟨m, hm⟩ : ∃ m, out.length = m := ⟨_, rfl⟩
    have hc1 : w.cell? ⟨g, 0 + 1, none⟩ = some (.slice (some ⟨k, 0, none⟩) (G.length + 1) cap) := hW.at0.cell 1 _ rfl
    rw [hn] at hAt hc1
    have hc0 : w.cell? ⟨g, 0 + 0, none⟩ = some (.slice (some ⟨og, 0, none⟩) out.length oc) := hW.at0.cell 0 _ rfl
    have hout : w.ownsRow (g + 1) 5 1 (.slice (some ⟨og, 0, none⟩) out.length oc) out.length (bcells out) := hW.out
    rw [hm] at hc0 hout hocap ha
    have ht1 := hAt.cell 1 _ rfl
    have ht2 := hAt.cell 2 _ rfl
    have ht3 := hAt.cell 3 _ rfl
    have ht4 := hAt.cell 4 _ rfl
    have ht5 := hAt.cell 5 _ rfl
    have hf1 := hAt.froz 1 (by rw [hv_length]; decide)
    have hf3 := hAt.froz 3 (by rw [hv_length]; decide)
    have hf4 := hAt.froz 4 (by rw [hv_length]; decide)
    have hf5 := hAt.froz 5 (by rw [hv_length]; decide)
    have WA := Lib.hid (fun (z : Nat) => wants_any (w.drewN z) _ _ _ _ ht2 ht3)
    have e4 : IntKind.i64.wrap (n : Int) = (n : Int) := wrap_fit n (by have := own_fit hW.stack; have h9 : (f :: G).length ≤ maxLen := this; rw [List.length_cons, hn] at h9; omega)
    have e5 : (n : Int) < (n : Int) + 1 := by omega
    have HHG := Lib.hid hn
    by_cases hkey : f.pairs = true ∧ f.value = false
    · obtain ⟨u, hu⟩ : ∃ u : ByteArray, (⟨(out.drop a).toArray⟩ : ByteArray) = u := ⟨_, rfl⟩
      have hul : u.toList = out.drop a := by rw [← hu, tl_mk]
      have hcv := fun (z c : Nat) => slice_conv (own_drewN hout z) a ha hm c
      rw [hu] at hcv
      have KE := Lib.hid (fun (z : Nat) => key_any (w.drewN z) _ _ _ _ _ u ht4 ht3 ht5 hf4 hf3 hf5)
      have hcond : (f.pairs && !f.value) = true := by rw [hkey.1, hkey.2]; rfl
      rw [hcond] at WA
      rw [tl_mk] at KE
      obtain ⟨b, hb⟩ : ∃ b, (f.keys && !Op.bytesLess f.last u.toList) = b := ⟨_, rfl⟩
      rw [hb] at KE
      have HRK := Lib.hid (fun (z : Nat) => (hW.drewN z).topKey hn u _ rfl)
      have HE : Hid (endS a ⟨out, f :: G, dp, dn, od⟩ = ⟨out, { f with keys := true, value := true, last := u.toList } :: G, dp, dn, od && !b⟩) := by
        show endS a ⟨out, f :: G, dp, dn, od⟩ = _
        rw [endS, adv, if_pos hkey, okB, ← hul, hkey.1, hkey.2, ← hb]
        rfl
      have e6 : (a : Int) ≤ (m : Int) := by omega
      have e7 : (a : Int) ≤ (oc : Int) := by omega
      have e8 : (m : Int) ≤ (oc : Int) := by omega
      by_cases hca : oc = a
      · obtain rfl : m = a := by omega
        subst hca
        have hcv2 : ∀ z : Nat, (convert 82 9 (.slice (some ⟨og, 0, none⟩) 0 0)).run Tryd.prog (w.drewN z) = .ok (.string u) (w.drewN z) := fun z => by
          have h1 := run_convert_bytes_back (P := Tryd.prog) (w.drewN z) 82 9 5 ⟨og, 0, none⟩ 0 [] Tryd.underlying82 Tryd.underlying5 Tryd.underlying9 (fun j hj => absurd hj (Nat.not_lt_zero _))
          have h2 : out.drop oc = [] := List.drop_eq_nil_of_le (by omega)
          rw [h2] at hu
          rw [← hu]
          exact h1
        clear e6 e7 e8
        cases b with
        | true =>
          clear hW hop ha hne hf hAt ht1 ht2 ht3 ht4 ht5 hf1 hf3 hf4 hf5 hn hkey hcond hout hocap hm hu hul hb
          go_enter Tryd.func62, Tryd.ntmps62
          go_wp2_with fail
          go_quiet (fail)
          go_wp2_with (first
            | (go_at_call 71; refine (WA.out _).mono ?_; rintro e w1 ⟨rfl, rfl⟩)
            | (go_at_call 73; refine (KE.out _).mono ?_; rintro e w3 ⟨rfl, rfl⟩; have hx4 := (HRK.out nq).at0.cell 4 _ rfl; have hy4 := (HRK.out nq).at0.froz 4 (by simp)))
          first | go_end0 | refine bodyPost_ret (results_none rfl _ _ _) rfl ?_
          refine ⟨rfl, ?_, ((((below_drewN _ _ _).setCell (Nat.le_of_lt hgk) _).setCell (Nat.le_of_lt hgk) _).setCell (Nat.le_of_lt hgk) _).setCell (p := ⟨g, 4, none⟩) (Nat.le_refl _) (.bool false)⟩
          rw [HE.out]
          have h9 := (HRK.out nq).setOrd false
          cases od <;> exact h9
        | false =>
          clear hW hop ha hne hf hAt ht1 ht2 ht3 ht4 ht5 hf1 hf3 hf4 hf5 hn hkey hcond hout hocap hm hu hul hb
          go_enter Tryd.func62, Tryd.ntmps62
          go_wp2_with fail
          go_quiet (fail)
          go_wp2_with (first
            | (go_at_call 71; refine (WA.out _).mono ?_; rintro e w1 ⟨rfl, rfl⟩)
            | (go_at_call 73; refine (KE.out _).mono ?_; rintro e w3 ⟨rfl, rfl⟩))
          first | go_end0 | refine bodyPost_ret (results_none rfl _ _ _) rfl ?_
          refine ⟨rfl, ?_, (((below_drewN _ _ _).setCell (Nat.le_of_lt hgk) _).setCell (Nat.le_of_lt hgk) _).setCell (Nat.le_of_lt hgk) _⟩
          rw [HE.out]
          have h9 := HRK.out nq
          cases od <;> exact h9
      · have hca2 : ¬ (oc : Int) = (a : Int) := by omega
        cases b with
        | true =>
          clear hW hop ha hne hf hAt ht1 ht2 ht3 ht4 ht5 hf1 hf3 hf4 hf5 hn hkey hcond hout hocap hm hu hul hb
          go_enter Tryd.func62, Tryd.ntmps62
          go_wp2_with fail
          go_quiet (fail)
          go_wp2_with (first
            | (go_at_call 71; refine (WA.out _).mono ?_; rintro e w1 ⟨rfl, rfl⟩)
            | (go_at_call 73; refine (KE.out _).mono ?_; rintro e w3 ⟨rfl, rfl⟩; have hx4 := (HRK.out nq).at0.cell 4 _ rfl; have hy4 := (HRK.out nq).at0.froz 4 (by simp)))
          first | go_end0 | refine bodyPost_ret (results_none rfl _ _ _) rfl ?_
          refine ⟨rfl, ?_, ((((below_drewN _ _ _).setCell (Nat.le_of_lt hgk) _).setCell (Nat.le_of_lt hgk) _).setCell (Nat.le_of_lt hgk) _).setCell (p := ⟨g, 4, none⟩) (Nat.le_refl _) (.bool false)⟩
          rw [HE.out]
          have h9 := (HRK.out nq).setOrd false
          cases od <;> exact h9
        | false =>
          clear hW hop ha hne hf hAt ht1 ht2 ht3 ht4 ht5 hf1 hf3 hf4 hf5 hn hkey hcond hout hocap hm hu hul hb
          go_enter Tryd.func62, Tryd.ntmps62
          go_wp2_with fail
          go_quiet (fail)
          go_wp2_with (first
            | (go_at_call 71; refine (WA.out _).mono ?_; rintro e w1 ⟨rfl, rfl⟩)
            | (go_at_call 73; refine (KE.out _).mono ?_; rintro e w3 ⟨rfl, rfl⟩))
          first | go_end0 | refine bodyPost_ret (results_none rfl _ _ _) rfl ?_
          refine ⟨rfl, ?_, (((below_drewN _ _ _).setCell (Nat.le_of_lt hgk) _).setCell (Nat.le_of_lt hgk) _).setCell (Nat.le_of_lt hgk) _⟩
          rw [HE.out]
          have h9 := HRK.out nq
          cases od <;> exact h9
    · have hcond : (f.pairs && !f.value) = false := by
        cases h1 : f.pairs <;> cases h2 : f.value <;> simp_all
      rw [hcond] at WA
      obtain ⟨l1, hl1⟩ : ∃ l1, f.left - 1 = l1 := ⟨_, rfl⟩
      have OT := Lib.hid (fun (z : Nat) => other_any (w.drewN z) _ _ _ (l1 : Int) _ ht1 ht3 hf1 hf3 (by omega) (u64c l1 (by omega)))
      have HRO := Lib.hid (fun (z : Nat) => (hW.drewN z).topOther hn l1 _ hl1 rfl)
      have HE : Hid (endS a ⟨out, f :: G, dp, dn, od⟩ = ⟨out, { f with value := false, left := f.left - 1 } :: G, dp, dn, od⟩) := by
        show endS a ⟨out, f :: G, dp, dn, od⟩ = _
        have h1 : okB f (out.drop a) = true := by rw [okB_iff]; intro h1 h2; exact absurd ⟨h1, h2⟩ hkey
        rw [endS, adv, if_neg hkey, h1, Bool.and_true]
      clear hW hop ha hne hf hAt ht1 ht2 ht3 ht4 ht5 hf1 hf3 hf4 hf5 hn hkey hcond hl1 hout hocap hm hc0
      go_enter Tryd.func62, Tryd.ntmps62
      go_wp2_with fail
      go_quiet (fail)
      go_wp2_with (first
        | (go_at_call 71; refine (WA.out _).mono ?_; rintro e w1 ⟨rfl, rfl⟩)
        | (go_at_call 72; refine (OT.out _).mono ?_; rintro e w1 ⟨rfl, rfl⟩))
      first | go_end0 | refine bodyPost_ret (results_none rfl _ _ _) rfl ?_
      refine ⟨rfl, ?_, ((below_drewN _ _ _).setCell (Nat.le_of_lt hgk) _).setCell (Nat.le_of_lt hgk) _⟩
      rw [HE.out]
      exact HRO.out _
end Co
end Go.Proofs.YtikgonlhdkknkaaDoor
