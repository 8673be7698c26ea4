/- The document's telling: an element in memory. -/
import Derived.Test.YteglahkgnggmgaaDoorDwL
import Derived.Test.YteglahkgnggmgaaDoorDsB
namespace Go.Proofs.YteglahkgnggmgaaDoor
open Go.RowKit
set_option linter.unusedVariables false
set_option linter.unusedSimpArgs false
open Dr
/-- the document's teller in memory; the list lies ahead of it -/
structure Xe (w : World) (g : Nat) (a : Option Addr) (cap : Nat) (l : List Nd) (lo ou : Bool) : Prop where
  at0 : At w g 0 [.slice a l.length cap, .bool lo, .bool ou]
  lt : g < w.heap.size
  ls : ∃ gl o, a = some ⟨gl, o, none⟩ ∧ At w gl o (ncells l) ∧ gl < g
theorem Xe.below {w w' : World} {g : Nat} {a : Option Addr} {cap : Nat} {l : List Nd} {lo ou : Bool} (h : Xe w g a cap l lo ou) (hb : Below w.heap.size w w') : Xe w' g a cap l lo ou := by
  obtain ⟨gl, o, h1, h2, h3⟩ := h.ls
  exact ⟨h.at0.below hb h.lt, Nat.lt_of_lt_of_le h.lt hb.size, gl, o, h1, h2.below hb (by have := h.lt; omega), h3⟩
theorem Xe.drew {w : World} {g : Nat} {a : Option Addr} {cap : Nat} {l : List Nd} {lo ou : Bool} (h : Xe w g a cap l lo ou) : Xe w.drew g a cap l lo ou := ⟨h.at0.drew, h.lt, h.ls⟩
theorem Xe.alloc {w : World} {g : Nat} {a : Option Addr} {cap : Nat} {l : List Nd} {lo ou : Bool} (h : Xe w g a cap l lo ou) (ob : Obj) : Xe (w.alloc ob) g a cap l lo ou := h.below ((Below.refl _ _).alloc (Nat.le_refl _) _)
theorem Xe.set {w : World} {g : Nat} {a : Option Addr} {cap : Nat} {l : List Nd} {lo ou : Bool} (h : Xe w g a cap l lo ou) (k : Nat) (b lo' ou' : Bool) (he : ([.slice a l.length cap, .bool lo, .bool ou] : List Value).set k (.bool b) = [.slice a l.length cap, .bool lo', .bool ou']) : Xe (w.setCell ⟨g, k, none⟩ (.bool b)) g a cap l lo' ou' := by
  obtain ⟨gl, o, h1, h2, h3⟩ := h.ls
  refine ⟨by have h4 := h.at0.set k (.bool b); rw [he, Nat.zero_add] at h4; exact h4, by simp [World.setCell]; exact h.lt, gl, o, h1, h2.other g k _ (.inl (by omega)), h3⟩
/-- all that was there stays, the teller beside -/
structure Bw (g : Nat) (w w' : World) : Prop where
  os : w'.os = w.os
  tape : w'.tape = w.tape
  output : w'.output = w.output
  size : w.heap.size ≤ w'.heap.size
  block : ∀ k, k < w.heap.size → k ≠ g → w'.heap[k]? = w.heap[k]?
theorem Bw.trans {g : Nat} {a b c : World} (h : Bw g a b) (k : Bw g b c) : Bw g a c := ⟨k.os.trans h.os, k.tape.trans h.tape, k.output.trans h.output, Nat.le_trans h.size k.size, fun i hi hg => (k.block i (Nat.lt_of_lt_of_le hi h.size) hg).trans (h.block i hi hg)⟩
theorem Bw.of {g : Nat} {w w' : World} (hb : Below w.heap.size w w') : Bw g w w' := ⟨hb.os, hb.tape, hb.output, hb.size, fun k hk _ => hb.block k hk⟩
theorem Bw.low {g : Nat} {w w' : World} (h : Bw g w w') {B : Nat} (h1 : B ≤ g) (h2 : g < w.heap.size) : Below B w w' := ⟨h.os, h.tape, h.output, h.size, fun k hk => h.block k (by omega) (by omega)⟩
theorem Bw.setG {g : Nat} {a w : World} (h : Bw g a w) (o : Nat) (u : Value) : Bw g a (w.setCell ⟨g, o, none⟩ u) :=
  h.trans ⟨rfl, rfl, rfl, by simp [World.setCell], fun k hk hg => Below.heap_setCell _ _ _ _ (by show k ≠ g; exact hg)⟩
theorem At.bw {g k o : Nat} {w w' : World} {cs : List Value} (h : At w k o cs) (hb : Bw g w w') (h1 : k < w.heap.size) (h2 : k ≠ g) : At w' k o cs := fun j v hv => by
  obtain ⟨h3, h4⟩ := h j v hv
  have h5 := hb.block k h1 h2
  refine ⟨?_, ?_⟩
  · rw [← h3]; simp only [World.cell?, h5]
  · rw [← h4]; simp only [World.frozen?, h5]
def DTold (g : Nat) (a : Option Addr) (cap : Nat) (l : List Nd) (T : List Nd) (B : List UInt8) (o : Bool) (p : Nat) (ou : Bool) (w : World) (e : Ending) (w' : World) : Prop :=
  (∃ s : ByteArray, e = .returned (.tuple #[.string s, .int .i64 ((p + T.length : Nat) : Int)]) ∧ s.toList = B ∧ B.length ≤ 300000 ∧ Hid (Xe w' g a cap l false (ou || !o)) ∧ Hid (Bw g w w')) ∨
  (∃ (s : ByteArray) (x : Nat) (ou' : Bool), e = .returned (.tuple #[.string s, .int .i64 (x : Int)]) ∧ 262144 < B.length ∧ s.size ≤ 300000 * T.length ∧ x ≤ 100000 ∧ Hid (Xe w' g a cap l true ou') ∧ Hid (Bw g w w'))
theorem Xe.drewN {w : World} {g : Nat} {a : Option Addr} {cap : Nat} {l : List Nd} {lo ou : Bool} (h : Xe w g a cap l lo ou) (k : Nat) : Xe (w.drewN k) g a cap l lo ou := ⟨h.at0.drewN k, h.lt, h.ls⟩
theorem DTold.leaf {g : Nat} {a : Option Addr} {cap : Nat} {l : List Nd} {n : Nd} {B : List UInt8} {p i1 : Nat} {ou : Bool} {w w' : World} {s : ByteArray} (hs : s.toList = B) (hB : B.length ≤ 300000) (hx : Xe w' g a cap l false ou) (hb : Below w.heap.size w w') (hi : p + 1 = i1) :
    DTold g a cap l [n] B true p ou w (.returned (.tuple #[.string s, .int .i64 (i1 : Int)])) w' := by
  subst hi
  refine .inl ⟨s, rfl, hs, hB, ?_, Bw.of hb⟩
  rw [show (ou || !true) = ou by simp]
  exact hx
end Go.Proofs.YteglahkgnggmgaaDoor
