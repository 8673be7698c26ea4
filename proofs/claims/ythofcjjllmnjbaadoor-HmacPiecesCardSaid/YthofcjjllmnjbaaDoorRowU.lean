/- Rows of numbers of 64 bits: in arrays, and of the call's own. -/
import Derived.Test.YthofcjjllmnjbaaDoorRowC
import Derived.Test.YthofcjjllmnjbaaDoorBitI
namespace Go.Proofs.YthofcjjllmnjbaaDoor
open Go.RowKit
set_option linter.unusedVariables false
set_option linter.unusedSimpArgs false
theorem infoU : (Tryd.prog.info? 39).map (fun i => (i.zero, i.size, i.bytes)) = some (some (.int .u64 0), 1, 8) := by kernel_rfl
def ucells (l : List Nat) : List Value := l.map fun (x : Nat) => Value.int .u64 (x : Int)
theorem ucells_length (l : List Nat) : (ucells l).length = l.length := by simp [ucells]
theorem ucells_append (l m : List Nat) : ucells (l ++ m) = ucells l ++ ucells m := by simp [ucells]
theorem ucells_get (l : List Nat) (j : Nat) (hj : j < l.length) : (ucells l)[j]? = some (.int .u64 ((l.getD j 0 : Nat) : Int)) := by simp [ucells, List.getD, hj]
theorem ucells_set (l : List Nat) (j u : Nat) : (ucells l).set j (.int .u64 (u : Int)) = ucells (l.set j u) := by simp [ucells, List.map_set]
theorem ucells_one (l : List Nat) : ∀ u ∈ ucells l, u.oneCell' = true := by
  intro u hu
  simp only [ucells, List.mem_map] at hu
  obtain ⟨b, _, rfl⟩ := hu
  rfl
theorem ucells_one1 {w : World} {g : Nat} {u : Nat} (h : w.cell? ⟨g, 0, none⟩ = some (.int .u64 (u : Int))) : ∀ j x, (ucells [u])[j]? = some x → w.cell? ((⟨g, 0, none⟩ : Addr).add j) = some x := by
  intro j x hx
  match j, hx with
  | 0, hx => simp [ucells] at hx; subst hx; exact h
theorem At.u {w : World} {g o : Nat} {l : List Nat} (h : At w g o (ucells l)) (j : Nat) (hj : j < l.length) : w.cell? ⟨g, o + j, none⟩ = some (.int .u64 ((l.getD j 0 : Nat) : Int)) ∧ w.frozen? ⟨g, o + j, none⟩ = false :=
  ⟨h.cell j _ (ucells_get l j hj), h.froz j (by rw [ucells_length]; exact hj)⟩
theorem At.uset {w : World} {g o : Nat} {l : List Nat} (h : At w g o (ucells l)) (j u : Nat) : At (w.setCell ⟨g, o + j, none⟩ (.int .u64 (u : Int))) g o (ucells (l.set j u)) := by
  rw [← ucells_set]
  exact h.set j _
section
variable {P : Program} {w : World}
theorem wpList_append_u64 {ops : Array Oper} {rest : List Oper} {o : Oper} {a : Act} {Q : Exit → Act → World → Prop} (hgd : o.guard = none) (s x : Operand) (t : TypeId)
    (ho : o.op = .call { callee := .builtin .append, args := #[s, x], argTypes := #[t, t] })
    (base : Nat) (e : TypeId) (i : TypeInfo) (ht : P.underlying t = some (.slice e)) (hi : P.info? e = some i) (hz : i.zero = some (.int .u64 0)) (hsize : i.size = 1) (hby : i.bytes = 8)
    (v : Value) (n : Nat) (l : List Nat) (hs : a.eval s = v) (hown : w.ownsRow base e 1 v n (ucells l))
    (g c : Nat) (u : Nat) (hx : a.eval x = .slice (some ⟨g, 0, none⟩) 1 c) (hcell : w.cell? ⟨g, 0, none⟩ = some (.int .u64 (u : Int)))
    (hn : n ≤ 17592186044415) (hbase : base ≤ w.heap.size)
    (h : ∀ v' w', w'.ownsRow base e 1 v' (n + 1) (ucells (l ++ [u])) → w.grownBy w' v.ownBlock → wpList P ops Q rest (a.put o.dst v') w') : wpList P ops Q (o :: rest) a w := by
  refine wpList_append_own w hgd s x t ho base e i (.int .u64 0) 1 8 ht hi hz hsize hby rfl (by decide) v n (ucells l) hs hown ⟨g, 0, none⟩ 1 c (ucells [u]) hx (by rw [ucells_length]; rfl) (ucells_one1 hcell) (ucells_one _) (by unfold maxLen; omega) (by omega) hbase ?_
  intro v' w' h1 h2 _
  rw [← ucells_append] at h1
  exact h v' w' h1 h2
end
/-- what the call returns: a number of 64 bits -/
def RetU (n : Nat) (w : World) (e : Ending) (w' : World) : Prop := e = .returned (.int .u64 (n : Int)) ∧ Below w.heap.size w w'
end Go.Proofs.YthofcjjllmnjbaaDoor
