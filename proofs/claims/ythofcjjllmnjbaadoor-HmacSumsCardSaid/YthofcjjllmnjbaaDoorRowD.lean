/- copy of a text into a row, as far as both go. -/
import Derived.Test.YthofcjjllmnjbaaDoorRowC
namespace Go.Proofs.YthofcjjllmnjbaaDoor
open Go.RowKit
set_option linter.unusedVariables false
set_option linter.unusedSimpArgs false
section
variable {P : Program} {w : World}
theorem run_copy_text (dT sT ty elem : TypeId) (g o dLen dCap : Nat) (s : ByteArray) (old : List Value) (hu : P.underlying dT = some (.slice elem)) (hi : (P.info? elem).map (·.size) = some 1)
    (hc : At w g o old) (m : Nat) (hm : Nat.min s.size dLen = m) (ho : old.length = m) :
    (Builtin.copy_ #[dT, sT] ty #[.slice (some ⟨g, o, none⟩) dLen dCap, .string s]).run P w = .ok (goInt m) (w.setCells g o (bcells (s.toList.take m))) := by
  have hl : (bcells (s.toList.take m)).length = m := by
    rw [bcells_length, List.length_take, tl_size]
    have : Nat.min s.size dLen ≤ s.size := Nat.min_le_left _ _
    omega
  have hst := run_store_at (P := P) hc (cs := bcells (s.toList.take m)) (by rw [hl, ho]) (bcells_one _)
  have e1 : List.take m (s.data.toList.map fun x => Value.int .u8 (x.toNat : Int)) = bcells (s.toList.take m) := by
    rw [Lib.toList_data, bcells, List.map_take]
  cases hq : P.info? elem with
  | none => simp [hq] at hi
  | some i =>
    have hi1 : i.size = 1 := by simpa [hq] using hi
    simp [Builtin.copy_, run_underlying hu, Builtin.lenOf, Builtin.firstCells, sizeOf, typeInfo, hq, hi1, hm]
    rw [e1, hst]
    rfl
theorem wpList_copy_text {ops : Array Oper} {rest : List Oper} {o : Oper} {a : Act} {Q : Exit → Act → World → Prop} (hgd : o.guard = none) (d x : Operand) (dT sT : TypeId)
    (ho : o.op = .call { callee := .builtin .copy, args := #[d, x], argTypes := #[dT, sT] }) (elem : TypeId) (hu : P.underlying dT = some (.slice elem)) (hi : (P.info? elem).map (·.size) = some 1)
    (g off dLen dCap : Nat) (hd : a.eval d = .slice (some ⟨g, off, none⟩) dLen dCap) (s : ByteArray) (hx : a.eval x = .string s) (old : List Value) (hc : At w g off old) (m : Nat) (hm : Nat.min s.size dLen = m) (hol : old.length = m)
    (h : ∀ w', Hid (w' = w.setCells g off (bcells (s.toList.take m))) → wpList P ops Q rest (a.put o.dst (goInt m)) w') : wpList P ops Q (o :: rest) a w := by
  refine wpList_plain hgd fun K hK => ?_
  have hrun := run_copy_text (P := P) dT sT o.type elem g off dLen dCap s old hu hi hc m hm hol
  unfold Oper.wp
  simp [execOp, ho, resolve, invoke, builtin, hd, hx, hrun, Result.andThen]
  exact hK _ _ (h _ rfl)
theorem step_copy_text {ops : Array Oper} {o : Oper} {a : Act} {K : Act → World → Prop} {Q : Exit → Act → World → Prop} {E : Prop} (hgd : o.guard = none) (d x : Operand) (dT sT : TypeId)
    (ho : o.op = .call { callee := .builtin .copy, args := #[d, x], argTypes := #[dT, sT] }) (elem : TypeId) (hu : P.underlying dT = some (.slice elem)) (hi : (P.info? elem).map (·.size) = some 1)
    (g off dLen dCap : Nat) (hd : a.eval d = .slice (some ⟨g, off, none⟩) dLen dCap) (s : ByteArray) (hx : a.eval x = .string s) (old : List Value) (hc : At w g off old) (m : Nat) (hm : Nat.min s.size dLen = m) (hol : old.length = m)
    (h : ∀ w', Hid (w' = w.setCells g off (bcells (s.toList.take m))) → K (a.put o.dst (goInt m)) w') :
    if Region.wanted o (yielded ops a.tmps) = true then Oper.wp P o a w K Q else E := by
  have hw : Region.wanted o (yielded ops a.tmps) = true := by simp [Region.wanted, hgd]
  rw [if_pos hw]
  have hrun := run_copy_text (P := P) dT sT o.type elem g off dLen dCap s old hu hi hc m hm hol
  unfold Oper.wp
  simp [execOp, ho, resolve, invoke, builtin, hd, hx, hrun, Result.andThen]
  exact h _ rfl
end
/-- what stays as it was -/
theorem At.ofCopy {w w' : World} {g o : Nat} {old new : List Value} (h : At w g o old) (hl : old.length = new.length) (hw : w' = w.setCells g o new) : At w' g o new := by
  subst hw
  exact h.ofSets hl
theorem At.byCopy {w w' : World} {g o g' o' : Nat} {cs new : List Value} (h : At w g o cs) (hw : w' = w.setCells g' o' new) (hne : g' ≠ g ∨ o' + new.length ≤ o ∨ o + cs.length ≤ o') : At w' g o cs := by
  subst hw
  exact h.apartSets hne
theorem below_copy {B g o : Nat} {a w w' : World} {new : List Value} (h : Below B a w) (hg : B ≤ g) (hw : w' = w.setCells g o new) : Below B a w' := by
  subst hw
  exact below_sets _ _ hg _ _ _ _ h
theorem At.join {w : World} {g o : Nat} {a b : List Value} (h1 : At w g o a) (h2 : At w g (o + a.length) b) : At w g o (a ++ b) := fun j v hv => by
  rcases Nat.lt_or_ge j a.length with hj | hj
  · exact h1 j v (by rw [List.getElem?_append_left hj] at hv; exact hv)
  · have := h2 (j - a.length) v (by rw [List.getElem?_append_right hj] at hv; exact hv)
    rw [Nat.add_assoc, show a.length + (j - a.length) = j by omega] at this
    exact this
theorem At.midOf {w : World} {g o : Nat} {A Z R : List UInt8} (h : At w g 0 (bcells (A ++ (Z ++ R)))) (hA : A.length = o) : At w g o (bcells Z) := by
  rw [← List.append_assoc, bcells_append, bcells_append] at h
  have h2 := h.sub
  rwa [bcells_length, hA, Nat.zero_add] at h2
theorem At.midSet {w w' : World} {g o : Nat} {A Z R X : List UInt8} (h : At w g 0 (bcells (A ++ (Z ++ R)))) (hA : A.length = o) (hZ : Z.length = X.length) (hw : w' = w.setCells g o (bcells X)) : At w' g 0 (bcells (A ++ (X ++ R))) := by
  have hz := h.midOf hA
  rw [bcells_append, bcells_append] at h
  have h1 : At w g 0 (bcells A) := At.sub (a := []) h
  have h3 : At w g (o + Z.length) (bcells R) := by
    have h0 : At w g 0 ((bcells A ++ bcells Z) ++ bcells R ++ []) := by rw [List.append_nil, List.append_assoc]; exact h
    have h2 := h0.sub
    rwa [List.length_append, bcells_length, bcells_length, hA, Nat.zero_add] at h2
  have k1 : At w' g 0 (bcells A) := h1.byCopy hw (.inr (.inr (by rw [bcells_length]; omega)))
  have k2 : At w' g o (bcells X) := hz.ofCopy (by rw [bcells_length, bcells_length, hZ]) hw
  have k3 : At w' g (o + X.length) (bcells R) := by
    rw [← hZ]
    exact h3.byCopy hw (.inr (.inl (by rw [bcells_length]; omega)))
  rw [bcells_append, bcells_append]
  refine k1.join ?_
  rw [bcells_length, hA, Nat.zero_add]
  refine k2.join ?_
  rw [bcells_length]
  exact k3
end Go.Proofs.YthofcjjllmnjbaaDoor
