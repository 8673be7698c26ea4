/- Keys by their names: whatever a ring is asked, one thing behind the other. -/
import Derived.Test.YtcegihdgnbjclaaRnB
namespace Go.Proofs.Ytcegihdgnbjclaa
open Go.RowKit Go.Maps Go.Sort
open Go.Proofs (encStr)
set_option linter.unusedVariables false
set_option linter.unusedSimpArgs false
namespace Rn
/-- what is asked -/
structure Qu where
  kind : Int
  name : List UInt8
def qv (e : Qu) : List Value := [.int .i64 e.kind, .string ⟨e.name.toArray⟩]
def qcells (l : List Qu) : List Value := l.flatMap qv
theorem qcells_append (a b : List Qu) : qcells (a ++ b) = qcells a ++ qcells b := by rw [qcells, qcells, qcells, List.flatMap_append]
theorem qcells_cons (v : Qu) (l : List Qu) : qcells (v :: l) = qv v ++ qcells l := rfl
theorem qcells_length (l : List Qu) : (qcells l).length = 2 * l.length := by
  induction l with
  | nil => rfl
  | cons v l ih => rw [qcells_cons, List.length_append, ih, List.length_cons]; show 2 + _ = _; omega
def q0 : Qu := ⟨0, []⟩
theorem qv_get (l : List Qu) (i : Nat) (hi : i < l.length) : ∃ A B, qcells l = A ++ qv (l.getD i q0) ++ B ∧ A.length = i * 2 := by
  refine ⟨qcells (l.take i), qcells (l.drop (i + 1)), ?_, ?_⟩
  · rw [show qv (l.getD i q0) = qcells [l.getD i q0] by simp [qcells], ← qcells_append, ← qcells_append]
    congr 1
    rw [List.getD, List.getElem?_eq_getElem hi, Option.getD_some, List.append_assoc, List.singleton_append, ← List.drop_eq_getElem_cons hi, List.take_append_drop]
  · rw [qcells_length, List.length_take, Nat.min_eq_left (by omega), Nat.mul_comm]
theorem ask_at {w : World} {k o : Nat} {l : List Qu} (h : At w k o (qcells l)) (i : Nat) (hi : i < l.length) : At w k (o + i * 2) (qv (l.getD i q0)) := by
  obtain ⟨A, B, hAB, hA⟩ := qv_get l i hi
  rw [hAB] at h
  have h2 := At.sub h
  rw [hA] at h2
  exact h2
def Ql (w : World) (v : Value) (l : List Qu) : Prop := ∃ a cap, v = .slice a l.length cap ∧ (l ≠ [] → ∃ k o, a = some ⟨k, o, none⟩ ∧ At w k o (qcells l) ∧ k < w.heap.size)
set_option maxRecDepth 100000 in
set_option maxHeartbeats 1600000 in
theorem ringAnswers_no (l : List En) (v u : Value) (w : World) (hl : El w v l) (hn : l.length ≤ 4398046510976) (hc : newE l ≠ 0) : Calls Try.prog 4 #[v, u] w (fun e w' => e = .returned (.bool true) ∧ Below w.heap.size w w') := by
  have HL := Lib.hid (And.intro hl hn)
  have hnot : ∀ (x : Bool) (w : World), (Op.unary .not (.bool x)).run Try.prog w = .ok (.bool (!x)) w := fun _ _ => rfl
  have H0 := Lib.hid hc
  obtain ⟨c, hc0⟩ : ∃ c, newE l = c := ⟨_, rfl⟩
  have hc1 : ((c : Int) != 0) = true := by rw [bne_iff_ne]; omega
  have hc2 : ((c : Int) == 0) = false := by rw [beq_eq_false_iff_ne]; omega
  have HC := Lib.hid hc0
  clear hn hc hc0 hl
  go_enter Try.func4, Try.ntmps4
  go_wp2_with (first
    | (go_at_call 10; refine (wakes_any w).mono ?_; rintro e w4 ⟨rfl, b4⟩; have H4 := Lib.hid b4; clear b4)
    | (go_at_call 8; refine (copied_any l _ w4 (HL.out.1.below H4.out) HL.out.2).mono ?_; rintro e w1 ⟨v1, rfl, h1, b1⟩; have H1 := Lib.hid (And.intro h1 (H4.out.trans (b1.mono H4.out.size))); clear h1 b1)
    | (go_at_call 7; refine (new_any l v1 w1 (El.own H1.out.1)).mono ?_; rintro e w2 (⟨hbad, -⟩ | ⟨-, rfl, b2⟩); exact absurd hbad H0.out; rw [HC.out]; have H2 := Lib.hid (H1.out.2.trans (b2.mono H1.out.2.size)); clear b2)
    | (go_at_call 9; refine (rnew_any l v w2 (HL.out.1.below H2.out)).mono ?_; rintro e w3 (⟨hbad, -⟩ | ⟨-, rfl, b3⟩); exact absurd hbad H0.out; rw [HC.out]; have H3 := Lib.hid (H2.out.trans (b3.mono H2.out.size)); clear b3))
  go_ret
  exact ⟨rfl, H3.out⟩
end Rn
end Go.Proofs.Ytcegihdgnbjclaa
