/- Rows of the call's own: what leaves them as they are; elements of several cells. -/
import Derived.Test.YthofcjjllmnjbaaDoorRowB
namespace Go.Proofs.YthofcjjllmnjbaaDoor
open Go.RowKit
set_option linter.unusedVariables false
set_option linter.unusedSimpArgs false
section
variable {w w' : World} {base : Nat} {e : TypeId} {size : Nat} {v : Value} {n : Nat} {xs : List Value}
theorem own_same (h : w.ownsRow base e size v n xs) (hs : ∀ k, v.ownBlock = some k → w'.heap[k]? = w.heap[k]?) : w'.ownsRow base e size v n xs := by
  obtain ⟨hl, h⟩ := h
  refine ⟨hl, ?_⟩
  rcases h with h | ⟨g, cap, cur, hv, hb, hg, rest⟩
  · exact .inl h
  · refine .inr ⟨g, cap, cur, hv, hb, ?_, rest⟩
    rw [hs g (by rw [hv]; rfl)]
    exact hg
theorem heap_set_ne (w : World) (a : Addr) (u : Value) (k : Nat) (h : a.block ≠ k) : (w.setCell a u).heap[k]? = w.heap[k]? := by
  simp only [World.setCell, Array.getElem?_modify]
  rw [if_neg h]
theorem heap_sets_ne (g k : Nat) (h : g ≠ k) : ∀ (vs : List Value) (o : Nat) (w : World), (w.setCells g o vs).heap[k]? = w.heap[k]?
  | [], _, _ => rfl
  | v :: vs, o, w => by
    rw [World.setCells, heap_sets_ne g k h vs]
    exact heap_set_ne w _ v k h
theorem own_set (h : w.ownsRow base e size v n xs) (a : Addr) (u : Value) (hne : ∀ k, v.ownBlock = some k → a.block ≠ k) : (w.setCell a u).ownsRow base e size v n xs :=
  own_same h fun k hk => heap_set_ne w a u k (hne k hk)
theorem own_sets (h : w.ownsRow base e size v n xs) (g o : Nat) (vs : List Value) (hne : ∀ k, v.ownBlock = some k → g ≠ k) : (w.setCells g o vs).ownsRow base e size v n xs :=
  own_same h fun k hk => heap_sets_ne g k (hne k hk) vs o w
theorem own_below {B : Nat} (h : w.ownsRow base e size v n xs) (hb : Below B w w') (hB : w.heap.size ≤ B) : w'.ownsRow base e size v n xs :=
  own_same h fun k hk => hb.block k (by have := (h.lt k hk).2; omega)
theorem At.ofOwnN {cap g : Nat} (h : w.ownsRow base e size (.slice (some ⟨g, 0, none⟩) n cap) n xs) : At w g 0 xs := fun j u hv => by
  have hj : j < xs.length := (List.getElem?_eq_some_iff.1 hv).1
  rw [Nat.zero_add]
  exact ⟨by rw [h.cellAt j (by have := h.1; omega)]; exact hv, h.frozenAt j⟩
theorem At.grown {g o : Nat} {cs : List Value} {row : Option Nat} (h : At w g o cs) (hg : w.grownBy w' row) (hlt : g < w.heap.size) (hne : row ≠ some g) : At w' g o cs := fun j u hv => by
  obtain ⟨h1, h2⟩ := h j u hv
  have hb := hg.block g hlt (fun e => hne e.symm)
  constructor
  · rw [← h1]
    simp only [World.cell?, hb]
  · rw [← h2]
    simp only [World.frozen?, hb]
theorem At.sub {g o : Nat} {a b c : List Value} (h : At w g o (a ++ b ++ c)) : At w g (o + a.length) b := fun j u hv => by
  have hj : j < b.length := (List.getElem?_eq_some_iff.1 hv).1
  have := h (a.length + j) u (by
    rw [List.getElem?_append_left (by rw [List.length_append]; omega), List.getElem?_append_right (by omega), Nat.add_sub_cancel_left]
    exact hv)
  rw [Nat.add_assoc]
  exact this
end
end Go.Proofs.YthofcjjllmnjbaaDoor
