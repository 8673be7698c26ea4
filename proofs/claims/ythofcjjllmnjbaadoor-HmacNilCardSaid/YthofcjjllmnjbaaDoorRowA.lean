/- Cells that lie in a block from a place on; rows of words. -/
import Derived.Test.YthofcjjllmnjbaaDoorGen
import Derived.Deep.MidRow
import Derived.StillTailTactics
namespace Go.Proofs.YthofcjjllmnjbaaDoor
open Go.RowKit
set_option linter.unusedVariables false
set_option linter.unusedSimpArgs false
/-- the cells cs lie in block g from place o on, and may be written -/
def At (w : World) (g o : Nat) (cs : List Value) : Prop := ∀ j v, cs[j]? = some v → w.cell? ⟨g, o + j, none⟩ = some v ∧ w.frozen? ⟨g, o + j, none⟩ = false
theorem At.below {B : Nat} {w w' : World} {g o : Nat} {cs : List Value} (h : At w g o cs) (hb : Below B w w') (hg : g < B) : At w' g o cs := fun j v hv => by
  obtain ⟨h1, h2⟩ := h j v hv
  exact ⟨by rw [hb.cell hg]; exact h1, by rw [hb.frozen hg]; exact h2⟩
theorem At.drew {w : World} {g o : Nat} {cs : List Value} (h : At w g o cs) : At w.drew g o cs := h
theorem At.drewN {w : World} {g o : Nat} {cs : List Value} (h : At w g o cs) (k : Nat) : At (w.drewN k) g o cs := h
theorem At.lt {w : World} {g o : Nat} {cs : List Value} (h : At w g o cs) (hc : cs ≠ []) : g < w.heap.size := by
  match cs, hc with
  | v :: cs, _ =>
    have := (h 0 v rfl).1
    simp only [World.cell?] at this
    rcases Nat.lt_or_ge g w.heap.size with h1 | h1
    · exact h1
    · rw [Array.getElem?_eq_none h1] at this
      cases this
theorem At.alloc {w : World} {g o : Nat} {cs : List Value} (h : At w g o cs) (ob : Obj) : At (w.alloc ob) g o cs := fun j v hv => by
  have hl := h.lt (by rintro rfl; simp at hv)
  obtain ⟨h1, h2⟩ := h j v hv
  exact ⟨by rw [((Below.refl w.heap.size w).alloc (Nat.le_refl _) ob).cell hl]; exact h1, by rw [((Below.refl w.heap.size w).alloc (Nat.le_refl _) ob).frozen hl]; exact h2⟩
theorem At.ofAlloc (w : World) (cs : Array Value) (e : Nat) : At (w.alloc (.cells cs e (0, 0))) w.heap.size 0 cs.toList := fun j v hv => by
  have hg := heap_alloc_new w (.cells cs e (0, 0))
  refine ⟨?_, ?_⟩
  · rw [Nat.zero_add, cell_of_row _ _ _ cs e (0, 0) hg]
    simpa using hv
  · simp only [World.frozen?, hg]
    simp
theorem At.cell {w : World} {g o : Nat} {cs : List Value} (h : At w g o cs) (j : Nat) (v : Value) (hv : cs[j]? = some v) : w.cell? ⟨g, o + j, none⟩ = some v := (h j v hv).1
theorem At.froz {w : World} {g o : Nat} {cs : List Value} (h : At w g o cs) (j : Nat) (hj : j < cs.length) : w.frozen? ⟨g, o + j, none⟩ = false := (h j cs[j] (List.getElem?_eq_getElem hj)).2
theorem At.other {w : World} {g o : Nat} {cs : List Value} (h : At w g o cs) (g' o' : Nat) (u : Value) (hne : g' ≠ g ∨ o' < o ∨ o + cs.length ≤ o') : At (w.setCell ⟨g', o', none⟩ u) g o cs := fun j v hv => by
  obtain ⟨h1, h2⟩ := h j v hv
  have hj : j < cs.length := (List.getElem?_eq_some_iff.1 hv).1
  refine ⟨?_, by rw [World.frozen?_setCell]; exact h2⟩
  rw [World.cell?_setCell_other]
  · exact h1
  · intro e
    injection e with e1 e2
    omega
theorem At.set {w : World} {g o : Nat} {cs : List Value} (h : At w g o cs) (k : Nat) (u : Value) : At (w.setCell ⟨g, o + k, none⟩ u) g o (cs.set k u) := fun j v hv => by
  have hj : j < cs.length := by have := (List.getElem?_eq_some_iff.1 hv).1; simpa using this
  obtain ⟨h1, h2⟩ := h j cs[j] (List.getElem?_eq_getElem hj)
  refine ⟨?_, by rw [World.frozen?_setCell]; exact h2⟩
  by_cases e : k = j
  · subst e
    rw [World.cell?_setCell_same (h := h1)]
    simpa [hj] using hv
  · rw [World.cell?_setCell_other, h1]
    · rw [List.getElem?_set_ne e, List.getElem?_eq_getElem hj] at hv
      exact hv
    · intro e'
      injection e' with e1 e2
      omega
theorem At.ofOwn {w : World} {B e n cap g : Nat} {cs : List Value} (h : w.ownsRow B e 1 (.slice (some ⟨g, 0, none⟩) n cap) n cs) : At w g 0 cs := fun j v hv => by
  have hj : j < cs.length := (List.getElem?_eq_some_iff.1 hv).1
  rw [Nat.zero_add]
  exact ⟨by rw [h.cellAt j (by have := h.1; omega)]; exact hv, h.frozenAt j⟩
theorem At.range {w : World} {g o : Nat} {cs : List Value} (h : At w g o cs) : w.rangeAt g o cs := fun j v hv => (h j v hv).1
theorem At.there {w : World} {g o : Nat} {cs : List Value} (h : At w g o cs) : w.there g o cs.length := fun j hj => by
  obtain ⟨h1, h2⟩ := h j cs[j] (List.getElem?_eq_getElem hj)
  exact ⟨by rw [h1]; rfl, h2⟩
theorem At.ofSets {w : World} {g o : Nat} {old vs : List Value} (h : At w g o old) (hl : old.length = vs.length) : At (w.setCells g o vs) g o vs := fun j v hv => by
  have ht := h.there
  rw [hl] at ht
  have hj : j < vs.length := (List.getElem?_eq_some_iff.1 hv).1
  refine ⟨World.rangeAt_setCells_same w g o vs ht j v hv, ?_⟩
  rw [World.frozen?_setCells]
  exact (ht j hj).2
theorem At.apartSets {w : World} {g o g' o' : Nat} {cs vs : List Value} (h : At w g o cs) (hne : g' ≠ g ∨ o' + vs.length ≤ o ∨ o + cs.length ≤ o') : At (w.setCells g' o' vs) g o cs := fun j v hv => by
  obtain ⟨h1, h2⟩ := h j v hv
  have hj : j < cs.length := (List.getElem?_eq_some_iff.1 hv).1
  refine ⟨?_, by rw [World.frozen?_setCells]; exact h2⟩
  rw [World.cell?_setCells_out _ _ _ _ _ (by intro e1 _; simp only at e1 ⊢; omega)]
  exact h1
theorem below_sets (B g : Nat) (hB : B ≤ g) : ∀ (vs : List Value) (o : Nat) (a w : World), Below B a w → Below B a (w.setCells g o vs)
  | [], _, _, _, h => h
  | v :: r, o, a, w, h => by
    rw [World.setCells]
    exact below_sets B g hB r (o + 1) a _ (h.setCell (p := ⟨g, o, none⟩) hB v)
theorem size_sets (g : Nat) : ∀ (vs : List Value) (o : Nat) (w : World), (w.setCells g o vs).heap.size = w.heap.size
  | [], _, _ => rfl
  | v :: r, o, w => by
    rw [World.setCells, size_sets g r (o + 1)]
    simp [World.setCell]
theorem lay_list : ∀ (vs : List Value) (off : Nat) (cs : Array Value) (k : Nat), off + k + vs.length ≤ cs.size →
    ((vs.zipIdx k).foldl (fun cs (x : Value × Nat) => cs.setIfInBounds (off + x.2) x.1) cs).toList = cs.toList.take (off + k) ++ vs ++ cs.toList.drop (off + k + vs.length)
  | [], off, cs, k, h => by simp
  | v :: r, off, cs, k, h => by
    rw [List.zipIdx_cons, List.foldl_cons, lay_list r off _ (k + 1) (by simp at h ⊢; omega)]
    simp only [Array.toList_setIfInBounds, List.length_cons] at h ⊢
    rw [show off + (k + 1) = off + k + 1 by omega, List.take_add_one, List.take_set, List.drop_set_of_lt (by omega)]
    rw [List.getElem?_set_self (by simp; omega)]
    rw [List.set_eq_of_length_le (by simp; omega)]
    simp [Nat.add_assoc, Nat.add_comm 1]
theorem fill_two (place : Nat → Option (Nat × Nat)) (cs : Array Value) (v u : Value) (n : Nat) (h0 : place 0 = some (0, 1)) (h1 : place 1 = some (1, n)) (hv : v.cells = #[v]) (hu : u.cells.size = n) (hc : 1 + n ≤ cs.size) :
    ∃ A, Instr.fill place cs [(0, v), (1, u)] = some A ∧ A.toList = v :: u.cells.toList ++ cs.toList.drop (1 + n) := by
  have e1 : (v.cells.zipIdx.foldl (fun cs (x : Value × Nat) => cs.setIfInBounds (0 + x.2) x.1) cs).toList = v :: cs.toList.drop 1 := by
    rw [hv]
    have := lay_list [v] 0 cs 0 (by simp; omega)
    simpa using this
  generalize hX : (v.cells.zipIdx.foldl (fun cs (x : Value × Nat) => cs.setIfInBounds (0 + x.2) x.1) cs) = X at e1
  have hXs : X.size = cs.size := by
    rw [← Array.length_toList, e1]
    simp
    omega
  refine ⟨u.cells.zipIdx.foldl (fun cs (x : Value × Nat) => cs.setIfInBounds (1 + x.2) x.1) X, ?_, ?_⟩
  · simp only [Instr.fill, h0, h1]
    have hvs : v.cells.size = 1 := by rw [hv]; rfl
    rw [if_neg (by simp only [Bool.or_eq_true, decide_eq_true_eq]; omega)]
    rw [if_neg]
    · exact congrArg some (by rw [← hX])
    · have : (v.cells.zipIdx.foldl (fun cs (x : Value × Nat) => cs.setIfInBounds (0 + x.2) x.1) cs).size = cs.size := by rw [hX, hXs]
      simp only [Bool.or_eq_true, decide_eq_true_eq]
      omega
  · have h2 := lay_list u.cells.toList 1 X 0 (by simp; omega)
    have h3 : u.cells.toList.zipIdx = u.cells.zipIdx.toList := by simp
    rw [h3, Array.foldl_toList] at h2
    rw [h2, e1]
    simp [hu, Nat.add_comm]
theorem built_two {P : Program} (t : TypeId) (fs : Array Field) (places : List (Nat × Nat)) (Z : List Value) (N n : Nat) (hi : (P.info? t).map (fun i => (i.zero.map (fun z => z.cells.toList), i.size)) = some (some Z, N)) (hu : P.underlying t = some (.struct fs))
    (hp : fs.toList.mapM (fun f => (P.info? f.type).map fun i => (f.offset, i.size)) = some places) (h0 : places[0]? = some (0, 1)) (h1 : places[1]? = some (1, n)) (hN : 1 + n ≤ Z.length)
    (v u : Value) (hv : v.cells = #[v]) (hun : u.cells.size = n) : ∃ A, P.built t [(0, v), (1, u)] = some A ∧ A.toList = v :: u.cells.toList ++ Z.drop (1 + n) := by
  unfold Program.built
  cases hq : P.info? t with
  | none => rw [hq] at hi; cases hi
  | some i =>
    rw [hq] at hi
    rw [hu]
    cases hz : i.zero with
    | none => simp only [Option.map_some, hz, Option.map_none] at hi; cases hi
    | some z =>
      simp only [Option.map_some, hz, Option.some.injEq, Prod.mk.injEq] at hi
      simp only [hp, hz]
      obtain ⟨A, hA, hA2⟩ := fill_two (fun x => places.toArray[x]?) z.cells v u n (by simpa using h0) (by simpa using h1) hv hun (by rw [← Array.length_toList, hi.1]; exact hN)
      exact ⟨A, hA, by rw [hA2, hi.1]⟩
section
variable {P : Program} {ops : Array Oper} {rest : List Oper} {o : Oper} {a : Act} {w : World} {Q : Exit → Act → World → Prop}
/-- a variable of its own -/
theorem wpList_alloc_at (t : TypeId) (z : Value) (n : Nat) (hi : (P.info? t).map (fun i => (i.zero, i.size)) = some (some z, n)) (ho : o.op = .alloc t ∧ o.guard = none)
    (h : ∀ w', At w' w.heap.size 0 z.cells.toList → Below w.heap.size w w' → w'.heap.size = w.heap.size + 1 → wpList P ops Q rest (a.put o.dst (.pointer (some ⟨w.heap.size, 0, none⟩))) w') : wpList P ops Q (o :: rest) a w := by
  refine wpList_plain ho.2 fun K hK => ?_
  unfold Oper.wp execOp
  cases hq : P.info? t with
  | none => simp [hq] at hi
  | some i =>
    simp [hq] at hi
    simp only [ho.1, Instr.alloc, zeroValue, typeInfo, newVar, newRow, Sem.run_bind]
    simp [hq, hi.1, Sem.run_bind, Result.andThen]
    exact hK _ _ (h _ (At.ofAlloc w z.cells t) ((Below.refl _ _).alloc (Nat.le_refl _) _) (by simp))
/-- a variable that begins with a value -/
theorem wpList_box_at (t : TypeId) (x : Operand) (v : Value) (ho : o.op = .box t x ∧ o.guard = none ∧ a.eval x = v)
    (h : ∀ w', At w' w.heap.size 0 v.cells.toList → Below w.heap.size w w' → w'.heap.size = w.heap.size + 1 → wpList P ops Q rest (a.put o.dst (.pointer (some ⟨w.heap.size, 0, none⟩))) w') : wpList P ops Q (o :: rest) a w := by
  refine wpList_plain ho.2.1 fun K hK => ?_
  unfold Oper.wp execOp
  simp only [ho.1, ho.2.2, Instr.box, newVar, newRow, Sem.run_bind]
  simp [Sem.run_bind, Result.andThen]
  exact hK _ _ (h _ (At.ofAlloc w v.cells t) ((Below.refl _ _).alloc (Nat.le_refl _) _) (by simp))
theorem wpList_load_at (ty : TypeId) (x : Operand) (b oo : Nat) (cs : List Value) (d : TypeDesc) (hc : At w b oo cs) (hu : P.underlying ty = some d) (hd : d.isRow = true) (hi : (P.info? ty).map (·.size) = some cs.length)
    (ho : o.op = .load ty x ∧ o.guard = none ∧ a.eval x = .pointer (some ⟨b, oo, none⟩)) (h : wpList P ops Q rest (a.put o.dst (.agg cs.toArray)) w) : wpList P ops Q (o :: rest) a w :=
  wpList_load_mid ho.2.1 ty x ho.1 b oo ho.2.2 cs d hc.range hu hd hi h
theorem wpList_store_at (ty : TypeId) (x y : Operand) (b oo : Nat) (old cs : List Value) (hc : At w b oo old) (hl : old.length = cs.length) (hi : (P.info? ty).map (·.size) = some cs.length) (h1 : ∀ v ∈ cs, v.oneCell' = true)
    (ho : o.op = .store ty x y ∧ o.guard = none ∧ a.eval x = .pointer (some ⟨b, oo, none⟩) ∧ a.eval y = .agg cs.toArray)
    (h : wpList P ops Q rest (a.put o.dst undef) (w.setCells b oo cs)) : wpList P ops Q (o :: rest) a w :=
  wpList_store_mid ho.2.1 ty x y ho.1 b oo cs.toArray ho.2.2.1 ho.2.2.2 (by have := hc.there; rw [hl] at this; simpa using this) (by simpa using hi) (all_oneCell_toArray h1) (by simpa using h)
theorem run_store_at {b oo : Nat} {old cs : List Value} (hc : At w b oo old) (hl : old.length = cs.length) (h1 : ∀ v ∈ cs, v.oneCell' = true) : (storeCells ⟨b, oo, none⟩ cs).run P w = .ok () (w.setCells b oo cs) := by
  have ht := hc.there
  rw [hl] at ht
  have := run_storeCells_cells (P := P) b oo cs 0 w (fun j hj => by simpa using (ht j (by simpa using hj)).1) (fun j hj => by simpa using (ht j (by simpa using hj)).2) h1
  simpa using this
theorem wpList_build_at (t : TypeId) (parts : Array (Nat × Operand)) (vs : List (Nat × Value)) (A : Array Value) (hA : P.built t vs = some A) (ho : o.op = .build t parts ∧ o.guard = none ∧ (parts.map fun (i, x) => (i, a.eval x)).toList = vs)
    (h : wpList P ops Q rest (a.put o.dst (.agg A)) w) : wpList P ops Q (o :: rest) a w := by
  obtain ⟨h1, h2, h3⟩ := ho
  refine wpList_build h2 t parts h1 (by rw [h3, hA]; rfl) ?_
  rw [h3, hA]
  exact h
theorem results_at {fn : Func} {p : Tmp} {ty : TypeId} (h : fn.results = #[.cell p ty]) (tmps : Array Value) (g : Nat) (cs : List Value) (d : TypeDesc)
    (hp : tmps.getD p undef = .pointer (some ⟨g, 0, none⟩)) (hg : At w g 0 cs) (hu : P.underlying ty = some d) (hd : d.isRow = true) (hi : (P.info? ty).map (·.size) = some cs.length) :
    (results fn tmps).run P w = .ok (.agg cs.toArray) w := by
  have hp' : tmps[p]?.getD undef = .pointer (some ⟨g, 0, none⟩) := by simpa using hp
  simp [results, h, hp', asAddr, run_loadVar_mid w g 0 ty cs d hg.range hu hd hi]
end
/-! ### words -/
def wcells (l : List UInt32) : List Value := l.map fun x => Value.int .u32 (x.toNat : Int)
theorem wcells_length (l : List UInt32) : (wcells l).length = l.length := by simp [wcells]
theorem wcells_append (l m : List UInt32) : wcells (l ++ m) = wcells l ++ wcells m := by simp [wcells]
theorem wcells_get (l : List UInt32) (j : Nat) (hj : j < l.length) : (wcells l)[j]? = some (.int .u32 (l[j].toNat : Int)) := by simp [wcells, hj]
theorem wcells_set (l : List UInt32) (j : Nat) (u : UInt32) : (wcells l).set j (.int .u32 (u.toNat : Int)) = wcells (l.set j u) := by
  simp [wcells, List.map_set]
theorem wcells_one (l : List UInt32) : ∀ u ∈ wcells l, u.oneCell' = true := by
  intro u hu
  simp only [wcells, List.mem_map] at hu
  obtain ⟨b, _, rfl⟩ := hu
  rfl
theorem wcells_made (n : Nat) : (madeCells (Value.int .u32 0).cells (n * 1)).toList = wcells (List.replicate n 0) := by
  rw [show (Value.int .u32 0).cells = #[Value.int .u32 0] from rfl, toList_madeCells_one]
  simp [wcells]
theorem At.w32 {w : World} {g o : Nat} {l : List UInt32} (h : At w g o (wcells l)) (j : Nat) (hj : j < l.length) : w.cell? ⟨g, o + j, none⟩ = some (.int .u32 ((l.getD j 0).toNat : Int)) := by
  rw [h.cell j _ (wcells_get l j hj)]
  simp [List.getD, hj]
theorem At.w32set {w : World} {g o : Nat} {l : List UInt32} (h : At w g o (wcells l)) (j : Nat) (u : UInt32) : At (w.setCell ⟨g, o + j, none⟩ (.int .u32 (u.toNat : Int))) g o (wcells (l.set j u)) := by
  have := h.set j (.int .u32 (u.toNat : Int))
  rw [wcells_set] at this
  exact this
theorem At.b8 {w : World} {g o : Nat} {l : List UInt8} (h : At w g o (bcells l)) (j : Nat) (hj : j < l.length) : w.cell? ⟨g, o + j, none⟩ = some (.int .u8 ((l.getD j 0).toNat : Int)) := by
  rw [h.cell j _ (bcells_get l j hj)]
  simp [List.getD, hj]
theorem At.b8set {w : World} {g o : Nat} {l : List UInt8} (h : At w g o (bcells l)) (j : Nat) (u : UInt8) : At (w.setCell ⟨g, o + j, none⟩ (.int .u8 (u.toNat : Int))) g o (bcells (l.set j u)) := by
  have := h.set j (.int .u8 (u.toNat : Int))
  rw [bcells_set] at this
  exact this
/-- a row that grows into zeros -/
theorem grow_set {α : Type} (l : List α) (z u : α) (N : Nat) (h : l.length < N) : (l ++ List.replicate (N - l.length) z).set l.length u = (l ++ [u]) ++ List.replicate (N - (l ++ [u]).length) z := by
  rw [List.set_append_right _ _ (Nat.le_refl _), Nat.sub_self]
  rw [show N - l.length = (N - (l ++ [u]).length) + 1 by simp; omega, List.replicate_succ]
  simp
end Go.Proofs.YthofcjjllmnjbaaDoor
