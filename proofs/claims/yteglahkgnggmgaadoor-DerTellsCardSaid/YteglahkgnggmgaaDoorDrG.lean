/- One element has ended: the element in which it stands is told. -/
import Derived.Test.YteglahkgnggmgaaDoorDrF
import Derived.Test.YteglahkgnggmgaaDoorRowI
namespace Go.Proofs.YteglahkgnggmgaaDoor
open Go.RowKit
set_option linter.unusedVariables false
set_option linter.unusedSimpArgs false
open Dr
/-- the order of texts -/
theorem bl_swap : ∀ (a b : List UInt8), (!(Op.bytesLess a b || a == b)) = Op.bytesLess b a
  | [], [] => rfl
  | [], _ :: _ => rfl
  | _ :: _, [] => rfl
  | x :: a, y :: b => by
    have ih := bl_swap a b
    simp only [Op.bytesLess]
    by_cases h : x = y
    · subst h
      have h1 : (decide (x < x)) = false := decide_eq_false (by simp)
      rw [h1, ← ih]
      simp
    · have h1 : (x == y) = false := by rw [beq_eq_false_iff_ne]; exact h
      have h2 : (y == x) = false := by rw [beq_eq_false_iff_ne]; exact fun e => h e.symm
      have h3 : ((x :: a) == (y :: b)) = false := by rw [beq_eq_false_iff_ne]; intro e; cases e; exact h rfl
      rw [h1, h2, h3]
      simp only [Bool.false_and, Bool.or_false]
      rw [← decide_not]
      refine decide_eq_decide.2 ?_
      rw [UInt8.not_lt, UInt8.le_iff_lt_or_eq]
      exact ⟨fun e => e.resolve_right (fun q => h q.symm), Or.inl⟩
/-- the frames' own facts, up to a place -/
def Chain (l : List Nd) : List Fr → Nat → Prop
  | [], _ => True
  | f :: G, p => f.kids ≤ p ∧ f.p0 < p ∧ f.node < l.length ∧ (l.getD f.node ⟨0, 0, []⟩).tag = f.tag ∧ Chain l G f.p0
theorem Chain.mono {l : List Nd} {G : List Fr} {p q : Nat} (h : Chain l G p) (hq : p ≤ q) : Chain l G q := by
  cases G with
  | nil => trivial
  | cons f G => exact ⟨Nat.le_trans h.1 hq, Nat.lt_of_lt_of_le h.2.1 hq, h.2.2⟩
theorem Chain.list {l m : List Nd} (hm : ∀ i, i < l.length → i < m.length ∧ (m.getD i ⟨0, 0, []⟩).tag = (l.getD i ⟨0, 0, []⟩).tag) : ∀ {G : List Fr} {p : Nat}, Chain l G p → Chain m G p
  | [], _, _ => trivial
  | f :: G, p, h => ⟨h.1, h.2.1, (hm _ h.2.2.1).1, (hm _ h.2.2.1).2.trans h.2.2.2.1, Chain.list hm h.2.2.2.2⟩
theorem Chain.append {l : List Nd} {G : List Fr} {p : Nat} (h : Chain l G p) (m : List Nd) : Chain (l ++ m) G p :=
  h.list fun i hi => ⟨by rw [List.length_append]; omega, by rw [List.getD, List.getD, List.getElem?_append_left hi]⟩
theorem Chain.modify {l : List Nd} {G : List Fr} {p : Nat} (h : Chain l G p) (k : Nat) (z : Int) : Chain (l.modify k fun n => { n with kids := z }) G p :=
  h.list fun i hi => ⟨by rw [List.length_modify]; exact hi, by
    rw [List.getD, List.getD, List.getElem?_modify]
    cases hq : l[i]? with
    | none => rfl
    | some q => simp only [Option.map_some, Option.getD_some]; split <;> rfl⟩
section
variable {w : World} {g : Nat} {s : ByteArray} {L : Lm} {p : Nat} {l : List Nd} {G : List Fr} {f : Fr} {vn vs : Value} {ro : Int}
theorem fv_length (f : Fr) : (fv f).length = 5 := rfl
/-- the topmost frame's cells -/
theorem wrap_fit (n : Nat) (h : n ≤ maxLen) : IntKind.i64.wrap (n : Int) = (n : Int) := by
  unfold maxLen at h
  simp only [IntKind.wrap, IntKind.bits, IntKind.signed]
  simp
  omega
theorem own_fit {w : World} {B e size n : Nat} {v : Value} {xs : List Value} (h : w.ownsRow B e size v n xs) : n ≤ maxLen := by
  rcases h.2 with ⟨_, h0⟩ | ⟨g, cap, cur, _, _, _, h1, h2, _⟩
  · rw [h0]; exact Nat.zero_le _
  · exact Nat.le_trans h1 h2
theorem Rd.top (h : Rd w g s L p l (f :: G) vn vs ro) : ∃ k cap, vs = .slice (some ⟨k, 0, none⟩) (G.length + 1) cap ∧ g < k ∧ At w k (G.length * 5) (fv f) := by
  obtain ⟨a, c, hv, hg⟩ := own_form h.stack
  obtain ⟨k, rfl⟩ := hg (by simp)
  subst hv
  refine ⟨k, c, rfl, (h.stack.lt k rfl).1, ?_⟩
  have h1 := At.ofOwnN h.stack
  rw [fcells_cons] at h1
  have h2 := At.sub (a := fcells G) (b := fv f) (c := []) (by rw [List.append_nil]; exact h1)
  rw [fcells_length, Nat.zero_add, Nat.mul_comm] at h2
  exact h2
theorem nv_get (l : List Nd) (i : Nat) (hi : i < l.length) : ∃ A B, ncells l = A ++ nv (l.getD i ⟨0, 0, []⟩) ++ B ∧ A.length = i * 3 := by
  refine ⟨ncells (l.take i), ncells (l.drop (i + 1)), ?_, ?_⟩
  · have h1 : l = l.take i ++ (l[i] :: l.drop (i + 1)) := by rw [List.getElem_cons_drop, List.take_append_drop]
    have h2 : l.getD i ⟨0, 0, []⟩ = l[i] := by rw [List.getD, List.getElem?_eq_getElem hi]; rfl
    rw [h2]
    conv => lhs; rw [h1]
    rw [ncells_append, show ncells (l[i] :: l.drop (i + 1)) = nv l[i] ++ ncells (l.drop (i + 1)) from rfl, List.append_assoc]
  · rw [ncells_length, List.length_take, Nat.min_eq_left (Nat.le_of_lt hi), Nat.mul_comm]
/-- a node's cells -/
theorem Rd.node (h : Rd w g s L p l G vn vs ro) (i : Nat) (hi : i < l.length) : ∃ k cap, vn = .slice (some ⟨k, 0, none⟩) l.length cap ∧ g < k ∧ At w k (i * 3) (nv (l.getD i ⟨0, 0, []⟩)) := by
  obtain ⟨a, c, hv, hg⟩ := own_form h.nodes
  obtain ⟨k, rfl⟩ := hg (by omega)
  subst hv
  refine ⟨k, c, rfl, (h.nodes.lt k rfl).1, ?_⟩
  have h1 := At.ofOwnN h.nodes
  obtain ⟨A, B, hAB, hA⟩ := nv_get l i hi
  rw [hAB] at h1
  have h2 := At.sub h1
  rw [hA, Nat.zero_add] at h2
  exact h2
theorem node_ne : (63 : Nat) ≠ 91 := by decide
/-- a cell of the topmost frame is stored -/
theorem Rd.setTop (h : Rd w g s L p l (f :: G) vn vs ro) {k cap : Nat} (hk : vs = .slice (some ⟨k, 0, none⟩) (G.length + 1) cap) (j : Nat) (hj : j < 5) (u : Value) (f' : Fr) (hf : (fv f).set j u = fv f') :
    Rd (w.setCell ⟨k, G.length * 5 + j, none⟩ u) g s L p l (f' :: G) vn vs ro := by
  subst hk
  have hgk := (h.stack.lt k rfl).1
  have hs := (h.stack.stored (G.length * 5 + j) u).1
  have hne : vn.ownBlock ≠ some k := by
    rcases own_ne h.nodes h.stack node_ne with h1 | h1
    · rw [h1]; exact fun e => by cases e
    · exact h1
  refine ⟨h.at0.other k (G.length * 5 + j) u (Or.inl (by omega)), ownsRow_setCell_other h.nodes hne u, ?_, by rw [show (w.setCell ⟨k, G.length * 5 + j, none⟩ u).heap.size = w.heap.size by simp [World.setCell]]; exact h.lt⟩
  have he : (fcells (f :: G)).set (G.length * 5 + j) u = fcells (f' :: G) := by
    rw [fcells_cons, fcells_cons, List.set_append_right _ _ (by rw [fcells_length]; omega), fcells_length, show G.length * 5 + j - 5 * G.length = j by omega, hf]
  rw [he] at hs
  exact hs
end
end Go.Proofs.YteglahkgnggmgaaDoor
