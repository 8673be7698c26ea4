/- Rows of nodes and of frames: append. -/
import Derived.Test.YteglahkgnggmgaaDoorDrH
namespace Go.Proofs.YteglahkgnggmgaaDoor
open Go.RowKit
set_option linter.unusedVariables false
set_option linter.unusedSimpArgs false
open Dr
theorem infoN : (Tryd.prog.info? 63).map (fun i => (i.zero, i.size, i.bytes)) = some (some (.agg #[.int .u8 0, .int .i64 0, .string ByteArray.empty]), 3, 32) := by kernel_rfl
theorem infoF : (Tryd.prog.info? 91).map (fun i => (i.zero, i.size, i.bytes)) = some (some (.agg #[.int .i64 0, .int .i64 0, .int .i64 0, .int .i64 0, .string ByteArray.empty]), 5, 48) := by kernel_rfl
theorem nv_one (y : Nd) : ∀ u ∈ nv y, u.oneCell' = true := by
  intro u hu
  simp only [nv, List.mem_cons, List.not_mem_nil, or_false] at hu
  rcases hu with rfl | rfl | rfl <;> rfl
theorem fv_one (f : Fr) : ∀ u ∈ fv f, u.oneCell' = true := by
  intro u hu
  simp only [fv, List.mem_cons, List.not_mem_nil, or_false] at hu
  rcases hu with rfl | rfl | rfl | rfl | rfl <;> rfl
section
variable {w : World} {ops : Array Oper} {o : Oper} {a : Act}
theorem step_append_nd {K : Act → World → Prop} {Q : Exit → Act → World → Prop} {E : Prop} (hgd : o.guard = none) (s x : Operand)
    (ho : o.op = .call { callee := .builtin .append, args := #[s, x], argTypes := #[25, 25] })
    (base : Nat) (v : Value) (n : Nat) (l : List Nd) (hs : a.eval s = v) (hown : w.ownsRow base 63 3 v n (ncells l))
    (g c : Nat) (y : Nd) (hx : a.eval x = .slice (some ⟨g, 0, none⟩) 1 c) (hcell : ∀ j u, (nv y)[j]? = some u → w.cell? ((⟨g, 0, none⟩ : Addr).add j) = some u)
    (hn : n ≤ 1000000) (hbase : base ≤ w.heap.size)
    (h : ∀ v' w', w'.ownsRow base 63 3 v' (n + 1) (ncells (l ++ [y])) → w.grownBy w' v.ownBlock → K (a.put o.dst v') w') :
    if Region.wanted o (yielded ops a.tmps) = true then Oper.wp Tryd.prog o a w K Q else E := by
  obtain ⟨i0, hi, hq⟩ := Option.map_eq_some_iff.1 infoN
  simp only [Prod.mk.injEq] at hq
  refine step_append_gen hgd s x 25 ho base 63 i0 _ 3 32 Tryd.underlying25 hi hq.1 hq.2.1 hq.2.2 rfl (by decide) v n (ncells l) hs hown g 1 c (nv y) hx rfl hcell (nv_one y) (by unfold maxLen; omega) (by omega) hbase ?_
  intro v' w' h1 h2
  exact h v' w' (by rw [ncells_append]; simpa [ncells] using h1) h2
theorem step_append_fr {K : Act → World → Prop} {Q : Exit → Act → World → Prop} {E : Prop} (hgd : o.guard = none) (s x : Operand)
    (ho : o.op = .call { callee := .builtin .append, args := #[s, x], argTypes := #[69, 69] })
    (base : Nat) (v : Value) (n : Nat) (G : List Fr) (hs : a.eval s = v) (hown : w.ownsRow base 91 5 v n (fcells G))
    (g c : Nat) (f : Fr) (hx : a.eval x = .slice (some ⟨g, 0, none⟩) 1 c) (hcell : ∀ j u, (fv f)[j]? = some u → w.cell? ((⟨g, 0, none⟩ : Addr).add j) = some u)
    (hn : n ≤ 1000000) (hbase : base ≤ w.heap.size)
    (h : ∀ v' w', w'.ownsRow base 91 5 v' (n + 1) (fcells (f :: G)) → w.grownBy w' v.ownBlock → K (a.put o.dst v') w') :
    if Region.wanted o (yielded ops a.tmps) = true then Oper.wp Tryd.prog o a w K Q else E := by
  obtain ⟨i0, hi, hq⟩ := Option.map_eq_some_iff.1 infoF
  simp only [Prod.mk.injEq] at hq
  refine step_append_gen hgd s x 69 ho base 91 i0 _ 5 48 Tryd.underlying69 hi hq.1 hq.2.1 hq.2.2 rfl (by decide) v n (fcells G) hs hown g 1 c (fv f) hx rfl hcell (fv_one f) (by unfold maxLen; omega) (by omega) hbase ?_
  intro v' w' h1 h2
  exact h v' w' (by rw [fcells_cons]; exact h1) h2
theorem wpList_append_nd {rest : List Oper} {Q : Exit → Act → World → Prop} (hgd : o.guard = none) (s x : Operand)
    (ho : o.op = .call { callee := .builtin .append, args := #[s, x], argTypes := #[25, 25] })
    (base : Nat) (v : Value) (n : Nat) (l : List Nd) (hs : a.eval s = v) (hown : w.ownsRow base 63 3 v n (ncells l))
    (g c : Nat) (y : Nd) (hx : a.eval x = .slice (some ⟨g, 0, none⟩) 1 c) (hcell : ∀ j u, (nv y)[j]? = some u → w.cell? ((⟨g, 0, none⟩ : Addr).add j) = some u)
    (hn : n ≤ 1000000) (hbase : base ≤ w.heap.size)
    (h : ∀ v' w', w'.ownsRow base 63 3 v' (n + 1) (ncells (l ++ [y])) → w.grownBy w' v.ownBlock → wpList Tryd.prog ops Q rest (a.put o.dst v') w') : wpList Tryd.prog ops Q (o :: rest) a w := by
  obtain ⟨i0, hi, hq⟩ := Option.map_eq_some_iff.1 infoN
  simp only [Prod.mk.injEq] at hq
  refine wpList_append_own w hgd s x 25 ho base 63 i0 _ 3 32 Tryd.underlying25 hi hq.1 hq.2.1 hq.2.2 rfl (by decide) v n (ncells l) hs hown ⟨g, 0, none⟩ 1 c (nv y) hx rfl hcell (nv_one y) (by unfold maxLen; omega) (by omega) hbase ?_
  intro v' w' h1 h2 _
  exact h v' w' (by rw [ncells_append]; simpa [ncells] using h1) h2
end
theorem nd_cells {w : World} {k : Nat} {y : Nd} (h : At w k 0 (nv y)) : ∀ j u, (nv y)[j]? = some u → w.cell? ((⟨k, 0, none⟩ : Addr).add j) = some u := fun j u hu => by
  have := (h j u hu).1
  by_cases h0 : j = 0
  · subst h0; simpa [Addr.add] using this
  · simpa [Addr.add, h0] using this
theorem fr_cells {w : World} {k : Nat} {y : Fr} (h : At w k 0 (fv y)) : ∀ j u, (fv y)[j]? = some u → w.cell? ((⟨k, 0, none⟩ : Addr).add j) = some u := fun j u hu => by
  have := (h j u hu).1
  by_cases h0 : j = 0
  · subst h0; simpa [Addr.add] using this
  · simpa [Addr.add, h0] using this
section
variable {w w' : World} {g : Nat} {s : ByteArray} {L : Lm} {p : Nat} {l : List Nd} {G : List Fr} {vn vs : Value} {ro : Int}
/-- a node is appended -/
theorem Rd.addNode (h : Rd w g s L p l G vn vs ro) {l' : List Nd} {v' : Value} (hg : w.grownBy w' vn.ownBlock) (ho : w'.ownsRow (g + 1) 63 3 v' l'.length (ncells l')) :
    Rd (w'.setCell ⟨g, 7, none⟩ v') g s L p l' G v' vs ro := by
  have hlt := h.lt
  have hne : ∀ k, vn.ownBlock = some k → g + 1 ≤ k := fun k hk => (h.nodes.lt k hk).1
  have h1 := h.at0.grown hg hlt (fun e => by have := hne g e; omega)
  have h2 := h.stack.kept hg (by
    rcases own_ne h.stack h.nodes (Ne.symm node_ne) with h3 | h3
    · exact .inl h3
    · exact .inr h3)
  exact ⟨h1.set 7 v', ownsRow_setCell_below ho (Nat.lt_succ_self g) _, ownsRow_setCell_below h2 (Nat.lt_succ_self g) _, by
    rw [show (w'.setCell ⟨g, 7, none⟩ v').heap.size = w'.heap.size by simp [World.setCell]]
    exact Nat.lt_of_lt_of_le hlt hg.size⟩
/-- a frame is appended -/
theorem Rd.addFrame (h : Rd w g s L p l G vn vs ro) {G' : List Fr} {v' : Value} (hg : w.grownBy w' vs.ownBlock) (ho : w'.ownsRow (g + 1) 91 5 v' G'.length (fcells G')) :
    Rd (w'.setCell ⟨g, 8, none⟩ v') g s L p l G' vn v' ro := by
  have hlt := h.lt
  have hne : ∀ k, vs.ownBlock = some k → g + 1 ≤ k := fun k hk => (h.stack.lt k hk).1
  have h1 := h.at0.grown hg hlt (fun e => by have := hne g e; omega)
  have h2 := h.nodes.kept hg (by
    rcases own_ne h.nodes h.stack node_ne with h3 | h3
    · exact .inl h3
    · exact .inr h3)
  exact ⟨h1.set 8 v', ownsRow_setCell_below h2 (Nat.lt_succ_self g) _, ownsRow_setCell_below ho (Nat.lt_succ_self g) _, by
    rw [show (w'.setCell ⟨g, 8, none⟩ v').heap.size = w'.heap.size by simp [World.setCell]]
    exact Nat.lt_of_lt_of_le hlt hg.size⟩
theorem Rd.alloc (h : Rd w g s L p l G vn vs ro) (o : Obj) : Rd (w.alloc o) g s L p l G vn vs ro :=
  ⟨h.at0.alloc o, h.nodes.alloc o, h.stack.alloc o, by simp; have := h.lt; omega⟩
end
end Go.Proofs.YteglahkgnggmgaaDoor
