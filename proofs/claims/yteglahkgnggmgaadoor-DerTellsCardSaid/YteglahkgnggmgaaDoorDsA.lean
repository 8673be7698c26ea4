/- Telling: joining from the end: the walk's parts. -/
import Derived.Test.YteglahkgnggmgaaDoorDrZ
import Derived.Test.YteglahkgnggmgaaDoorShg
namespace Go.Proofs.YteglahkgnggmgaaDoor
open Go.RowKit
set_option linter.unusedVariables false
set_option linter.unusedSimpArgs false
open Dr
section
variable {w : World} {ops : Array Oper} {o : Oper} {a : Act}
theorem step_append_m {K : Act → World → Prop} {Q : Exit → Act → World → Prop} {E : Prop} (hgd : o.guard = none) (s x : Operand)
    (ho : o.op = .call { callee := .builtin .append, args := #[s, x], argTypes := #[44, 44] })
    (base : Nat) (v : Value) (n : Nat) (M : List (List UInt8)) (hs : a.eval s = v) (hown : w.ownsRow base 9 1 v n (mcells M))
    (g c : Nat) (u : ByteArray) (y : List UInt8) (hu : u.toList = y) (hx : a.eval x = .slice (some ⟨g, 0, none⟩) 1 c) (hcell : w.cell? ⟨g, 0, none⟩ = some (.string u))
    (hn : n ≤ 1000000) (hbase : base ≤ w.heap.size)
    (h : ∀ v' w', w'.ownsRow base 9 1 v' (n + 1) (mcells (y :: M)) → w.grownBy w' v.ownBlock → K (a.put o.dst v') w') :
    if Region.wanted o (yielded ops a.tmps) = true then Oper.wp Tryd.prog o a w K Q else E := by
  obtain ⟨i0, hi, hq⟩ := Option.map_eq_some_iff.1 infoS
  simp only [Prod.mk.injEq] at hq
  refine step_append_gen hgd s x 44 ho base 9 i0 _ 1 16 Tryd.underlying44 hi hq.1 hq.2.1 hq.2.2 rfl (by decide) v n (mcells M) hs hown g 1 c (scells [u]) hx (by rw [scells_length]; rfl) (scells_one1 hcell) (scells_one _) (by unfold maxLen; omega) (by omega) hbase ?_
  intro v' w' h1 h2
  refine h v' w' ?_ h2
  have hb : (⟨y.toArray⟩ : ByteArray) = u := by
    subst hu
    rw [Lib.toList_data]
  rw [mcells_cons, hb]
  exact h1
end
end Go.Proofs.YteglahkgnggmgaaDoor
