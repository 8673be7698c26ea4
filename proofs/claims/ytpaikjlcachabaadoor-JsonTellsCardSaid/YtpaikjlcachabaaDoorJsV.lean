/- Rows of values: three cells each. -/
import Derived.Test.YtpaikjlcachabaaDoorJtB
import Derived.Test.YtpaikjlcachabaaDoorJsQ
namespace Go.Proofs.YtpaikjlcachabaaDoor
open Go.RowKit
set_option linter.unusedVariables false
set_option linter.unusedSimpArgs false
namespace Js
theorem below_drewN (B : Nat) (w : World) (k : Nat) : Below B w (w.drewN k) := ⟨rfl, rfl, rfl, Nat.le_refl _, fun _ _ => rfl⟩
theorem wrap_fit (n : Nat) (h : n ≤ maxLen) : IntKind.i64.wrap (n : Int) = (n : Int) := by
  unfold maxLen at h
  simp only [IntKind.wrap, IntKind.bits, IntKind.signed]
  simp
  omega
def vv (v : Vl) : List Value := [.int .i64 v.kind, .int .i64 v.kids, .string ⟨v.text.toArray⟩]
def vcells (l : List Vl) : List Value := l.flatMap vv
theorem vcells_append (a b : List Vl) : vcells (a ++ b) = vcells a ++ vcells b := by rw [vcells, vcells, vcells, List.flatMap_append]
theorem vcells_cons (v : Vl) (l : List Vl) : vcells (v :: l) = vv v ++ vcells l := rfl
theorem vcells_length (l : List Vl) : (vcells l).length = 3 * l.length := by
  induction l with
  | nil => rfl
  | cons v l ih => rw [vcells_cons, List.length_append, ih, List.length_cons]; show 3 + _ = _; omega
theorem infoVl : (Tryd.prog.info? 61).map (fun i => (i.zero, i.size, i.bytes)) = some (some (.agg #[.int .i64 0, .int .i64 0, .string ByteArray.empty]), 3, 32) := by kernel_rfl
theorem vv_one (y : Vl) : ∀ u ∈ vv y, u.oneCell' = true := by
  intro u hu
  simp only [vv, List.mem_cons, List.not_mem_nil, or_false] at hu
  rcases hu with rfl | rfl | rfl <;> rfl
theorem vcells_one (l : List Vl) : ∀ u ∈ vcells l, u.oneCell' = true := by
  intro u hu
  simp only [vcells, List.mem_flatMap] at hu
  obtain ⟨n, _, hn⟩ := hu
  exact vv_one n u hn
def v0 : Vl := ⟨0, 0, []⟩
theorem vv_get (l : List Vl) (i : Nat) (hi : i < l.length) : ∃ A B, vcells l = A ++ vv (l.getD i v0) ++ B ∧ A.length = i * 3 := by
  refine ⟨vcells (l.take i), vcells (l.drop (i + 1)), ?_, ?_⟩
  · rw [show vv (l.getD i v0) = vcells [l.getD i v0] by simp [vcells], ← vcells_append, ← vcells_append]
    congr 1
    rw [List.getD, List.getElem?_eq_getElem hi, Option.getD_some, List.append_assoc, List.singleton_append, ← List.drop_eq_getElem_cons hi, List.take_append_drop]
  · rw [vcells_length, List.length_take, Nat.min_eq_left (by omega), Nat.mul_comm]
theorem value_at {w : World} {k o : Nat} {l : List Vl} (h : At w k o (vcells l)) (i : Nat) (hi : i < l.length) : At w k (o + i * 3) (vv (l.getD i v0)) := by
  obtain ⟨A, B, hAB, hA⟩ := vv_get l i hi
  rw [hAB] at h
  have h2 := At.sub h
  rw [hA] at h2
  exact h2
theorem vcells_set (l : List Vl) (i j : Nat) (u : Value) (y : Vl → Vl) (hi : i < l.length) (hj : j < 3) (hy : (vv (l.getD i v0)).set j u = vv (y (l.getD i v0))) : (vcells l).set (i * 3 + j) u = vcells (l.modify i y) := by
  induction l generalizing i with
  | nil => exact absurd hi (Nat.not_lt_zero _)
  | cons x l ih =>
    cases i with
    | zero =>
      rw [Nat.zero_mul, Nat.zero_add, show (x :: l).modify 0 y = y x :: l from rfl, vcells_cons, vcells_cons, List.set_append_left _ _ (by show j < 3; exact hj)]
      rw [show ((x :: l).getD 0 v0) = x from rfl] at hy
      rw [hy]
    | succ i =>
      rw [show (x :: l).modify (i + 1) y = x :: l.modify i y from rfl, vcells_cons, vcells_cons, List.set_append_right _ _ (by show 3 ≤ _; omega), show (i + 1) * 3 + j - (vv x).length = i * 3 + j by show _ - 3 = _; omega, ih i (by simpa using hi) (by simpa using hy)]
theorem at_cellsV {w : World} {k : Nat} {cs : List Value} (h : At w k 0 cs) : ∀ j u, cs[j]? = some u → w.cell? ((⟨k, 0, none⟩ : Addr).add j) = some u := fun j u hu => by
  have := (h j u hu).1
  by_cases h0 : j = 0
  · subst h0; simpa [Addr.add] using this
  · simpa [Addr.add, h0] using this
theorem at_cellsW {w : World} {k : Nat} {cs ds : List Value} (he : ds = cs) (h : At w k 0 cs) : ∀ j u, ds[j]? = some u → w.cell? ((⟨k, 0, none⟩ : Addr).add j) = some u := by subst he; exact at_cellsV h
theorem vv_new (k : Int) : vv ⟨k, 0, []⟩ = [.int .i64 k, .int .i64 0, .string ByteArray.empty] := rfl
section
variable {w : World} {ops : Array Oper} {o : Oper} {a : Act}
theorem wpList_append_vl {rest : List Oper} {Q : Exit → Act → World → Prop} (hgd : o.guard = none) (s x : Operand)
    (ho : o.op = .call { callee := .builtin .append, args := #[s, x], argTypes := #[25, 25] })
    (base : Nat) (v : Value) (n : Nat) (l : List Vl) (hs : a.eval s = v) (hown : w.ownsRow base 61 3 v n (vcells l))
    (g c : Nat) (y : Vl) (hx : a.eval x = .slice (some ⟨g, 0, none⟩) 1 c) (hcell : ∀ j u, (vv y)[j]? = some u → w.cell? ((⟨g, 0, none⟩ : Addr).add j) = some u)
    (hn : n ≤ 1000000) (hbase : base ≤ w.heap.size)
    (h : ∀ v' w', w'.ownsRow base 61 3 v' (n + 1) (vcells (l ++ [y])) → w.grownBy w' v.ownBlock → wpList Tryd.prog ops Q rest (a.put o.dst v') w') : wpList Tryd.prog ops Q (o :: rest) a w := by
  obtain ⟨i0, hi, hq⟩ := Option.map_eq_some_iff.1 infoVl
  simp only [Prod.mk.injEq] at hq
  refine wpList_append_own w hgd s x 25 ho base 61 i0 _ 3 32 Tryd.underlying25 hi hq.1 hq.2.1 hq.2.2 rfl (by decide) v n (vcells l) hs hown ⟨g, 0, none⟩ 1 c (vv y) hx rfl hcell (vv_one y) (by unfold maxLen; omega) (by omega) hbase ?_
  intro v' w' h1 h2 _
  exact h v' w' (by rw [vcells_append]; simpa [vcells] using h1) h2
end
end Js
end Go.Proofs.YtpaikjlcachabaaDoor
