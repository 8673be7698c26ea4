/- Words of the seat's own: what calls hand back; small laws. -/
import Derived.Test.YthofcjjllmnjbaaDoorRowM
namespace Go.Proofs.YthofcjjllmnjbaaDoor
open Go.RowKit
set_option linter.unusedVariables false
set_option linter.unusedSimpArgs false
theorem info5 : (Tryd.prog.info? 5).map (fun i => (i.zero, i.size, i.bytes)) = some (some (.int .u8 0), 1, 1) := by kernel_rfl
def RetB (b : Bool) (w : World) (e : Ending) (w' : World) : Prop := e = .returned (.bool b) ∧ ∃ n, w' = w.drewN n
def RetNE (n : Nat) (c : Int) (w : World) (e : Ending) (w' : World) : Prop := e = .returned (.tuple #[.int .u64 (n : Int), .int .i64 c]) ∧ w = w'
theorem ret_ne {n m : Nat} {c d : Int} {w : World} {v : Value} (hv : v = .int .u64 (n : Int)) (hn : n = m) (hc : c = d) : RetNE m d w (.returned (.tuple #[v, .int .i64 c])) w := by
  subst hv hn hc
  exact ⟨rfl, rfl⟩
def RetSE (l : List UInt8) (c : Int) (w : World) (e : Ending) (w' : World) : Prop := ∃ s : ByteArray, e = .returned (.tuple #[.string s, .int .i64 c]) ∧ s.toList = l ∧ Below w.heap.size w w'
theorem ret_se {l m : List UInt8} {c d : Int} {w w' : World} {s : ByteArray} (hl : s.toList = m) (hm : m = l) (hc : c = d) (hb : Below w.heap.size w w') : RetSE l d w (.returned (.tuple #[.string s, .int .i64 c])) w' := by
  subst hm hc
  exact ⟨s, rfl, hl, hb⟩
def RetU8 (n : Nat) (w : World) (e : Ending) (w' : World) : Prop := e = .returned (.int .u8 (n : Int)) ∧ w = w'
def RetU8B (n : Nat) (b : Bool) (w : World) (e : Ending) (w' : World) : Prop := e = .returned (.tuple #[.int .u8 (n : Int), .bool b]) ∧ w = w'
def RetSPE (l : List UInt8) (p : Nat) (c : Int) (w : World) (e : Ending) (w' : World) : Prop := ∃ s : ByteArray, e = .returned (.tuple #[.string s, .int .i64 (p : Int), .int .i64 c]) ∧ s.toList = l ∧ Below w.heap.size w w'
theorem ret_spe {l m : List UInt8} {p : Nat} {q : Int} {c d : Int} {w w' : World} {s : ByteArray} (hl : s.toList = m) (hm : m = l) (hp : q = (p : Int)) (hc : c = d) (hb : Below w.heap.size w w') : RetSPE l p d w (.returned (.tuple #[.string s, .int .i64 q, .int .i64 c])) w' := by
  subst hm hc hp
  exact ⟨s, rfl, hl, hb⟩
def RetT (w : World) (e : Ending) (w' : World) : Prop := e = .returned (.bool true) ∧ Below w.heap.size w w'
theorem eq_true_of {s : ByteArray} {l m : List UInt8} (h : s.toList = l) (hm : l = m) : (s.toList == m) = true := by
  rw [h, hm, beq_self_eq_true]
theorem eq_true_two {s t : ByteArray} {l : List UInt8} (h : s.toList = l) (hm : t.toList = l) : (s.toList == t.toList) = true := by
  rw [h, hm, beq_self_eq_true]
theorem below2 {w w1 w2 : World} (h1 : Below w.heap.size w w1) (h2 : Below w1.heap.size w1 w2) : Below w.heap.size w w2 := h1.trans (h2.mono h1.size)
theorem u64_of_wf {a : Int} (h : (Lit.int .u64 a).wf = true) : ∃ n : Nat, a = (n : Int) ∧ n < 2 ^ 64 := by
  have h2 : IntKind.u64.min ≤ a ∧ a ≤ IntKind.u64.max := by simpa [Lit.wf] using h
  have e1 : IntKind.u64.min = 0 := by decide
  have e2 : IntKind.u64.max = 18446744073709551615 := by decide
  obtain ⟨n, rfl⟩ := Int.eq_ofNat_of_zero_le (a := a) (by omega)
  exact ⟨n, rfl, by omega⟩
end Go.Proofs.YthofcjjllmnjbaaDoor
