/- The document's box: what it holds; plain. -/
import Derived.Test.YtflofbimecnakaaGreatAesQb
namespace Go.Proofs.YtflofbimecnakaaGreat
open Go.RowKit
set_option linter.unusedVariables false
set_option linter.unusedSimpArgs false
def wb (x : UInt32) : List UInt8 := [rw_ x 0, rw_ x 1, rw_ x 2, rw_ x 3]
def wbs (l : List UInt32) : List UInt8 := l.flatMap wb
theorem wbs_snoc (l : List UInt32) (x : UInt32) : wbs (l ++ [x]) = wbs l ++ wb x := by simp [wbs]
theorem wbs_length (l : List UInt32) : (wbs l).length = 4 * l.length := by
  induction l with
  | nil => rfl
  | cons x l ih =>
    rw [show wbs (x :: l) = wb x ++ wbs l from rfl, List.length_append, ih, List.length_cons]
    show 4 + _ = _
    omega
theorem wb_get (x : UInt32) (k : Nat) (hk : k < 4) : (wb x).getD k 0 = rw_ x k := by
  match k, hk with
  | 0, _ => rfl
  | 1, _ => rfl
  | 2, _ => rfl
  | 3, _ => rfl
theorem wbs_get (l : List UInt32) (k : Nat) (hk : k < 4) : ∀ (i : Nat), i < l.length → (wbs l).getD (4 * i + k) 0 = rw_ (l.getD i 0) k := by
  induction l with
  | nil => intro i hi; simp at hi
  | cons x l ih =>
    intro i hi
    rw [show wbs (x :: l) = wb x ++ wbs l from rfl]
    match i with
    | 0 =>
      rw [Nat.mul_zero, Nat.zero_add, List.getD, List.getElem?_append_left (by show k < 4; exact hk)]
      exact wb_get x k hk
    | i + 1 =>
      have hi' : i < l.length := by simpa using hi
      have := ih i hi'
      rw [List.getD, List.getElem?_append_right (by show 4 ≤ _; omega), show 4 * (i + 1) + k - (wb x).length = 4 * i + k by show _ - 4 = _; omega]
      exact this
/-- block g is the document's box of the key K -/
def Box (w : World) (g : Nat) (K : List UInt8) : Prop := ∃ gw cap, At w g 0 (bcells sboxL) ∧ At w g 256 (bcells backC) ∧ At w g 512 [.slice (some ⟨gw, 0, none⟩) (expW K).length cap] ∧ At w gw 0 (bcells (wbs (expW K)))
theorem wbs_ne (K : List UInt8) : bcells (wbs (expW K)) ≠ [] := by
  intro h
  have := congrArg List.length h
  rw [bcells_length, wbs_length, expW_length] at this
  simp at this
theorem Box.below {B : Nat} {w w' : World} {g : Nat} {K : List UInt8} (h : Box w g K) (hb : Below B w w') (hB : w.heap.size ≤ B) : Box w' g K := by
  obtain ⟨gw, cap, h1, h2, h3, h4⟩ := h
  have hg := h3.lt (by simp)
  have hw := h4.lt (wbs_ne K)
  exact ⟨gw, cap, h1.below hb (by omega), h2.below hb (by omega), h3.below hb (by omega), h4.below hb (by omega)⟩
theorem Box.lt {w : World} {g : Nat} {K : List UInt8} (h : Box w g K) : g < w.heap.size := by
  obtain ⟨gw, cap, h1, h2, h3, h4⟩ := h
  exact h3.lt (by simp)
theorem Box.word {w : World} {g : Nat} {K : List UInt8} (h : Box w g K) : ∃ gw cap, w.cell? ⟨g, 512, none⟩ = some (.slice (some ⟨gw, 0, none⟩) (expW K).length cap) ∧ At w gw 0 (bcells (wbs (expW K))) := by
  obtain ⟨gw, cap, h1, h2, h3, h4⟩ := h
  exact ⟨gw, cap, h3.cell 0 _ rfl, h4⟩
theorem size16 : (Tryz.prog.info? 148).map (·.size) = some 16 := by kernel_rfl
theorem blen16 (l : List UInt8) (h : l.length = 16) : (Tryz.prog.info? 148).map (·.size) = some (bcells l).length := by rw [bcells_length, h]; exact size16
theorem two_by (w : World) (X : List UInt8) : ∃ w0, (w.alloc (Obj.cells (bcells X).toArray 148)).alloc zb = w0 ∧ At w0 w.heap.size 0 (bcells X) ∧ At w0 (w.heap.size + 1) 0 (bcells (List.replicate 16 0)) ∧ Below w.heap.size w w0 ∧ w0.heap.size = w.heap.size + 2 := by
  refine ⟨_, rfl, ?_, ?_, ?_, by simp⟩
  · have h := At.ofAlloc w (bcells X).toArray 148
    simp only at h
    exact h.alloc _
  · have h := At.ofAlloc (w.alloc (Obj.cells (bcells X).toArray 148)) #[Value.int .u8 0, Value.int .u8 0, Value.int .u8 0, Value.int .u8 0, Value.int .u8 0, Value.int .u8 0, Value.int .u8 0, Value.int .u8 0, Value.int .u8 0, Value.int .u8 0, Value.int .u8 0, Value.int .u8 0, Value.int .u8 0, Value.int .u8 0, Value.int .u8 0, Value.int .u8 0] 148
    rw [World.size_alloc] at h
    exact h
  · exact ((Below.refl _ _).alloc (Nat.le_refl _) _).alloc (by simp) _
theorem tmod_nat (a b c : Nat) (h : c = a % b) : (a : Int).tmod (b : Int) = (c : Int) := by
  rw [Int.tmod_eq_emod_of_nonneg (by omega), h]
  rfl
theorem tdiv_nat (a b c : Nat) (h : c = a / b) : (a : Int).tdiv (b : Int) = (c : Int) := by
  rw [Int.tdiv_eq_ediv_of_nonneg (by omega), h]
  rfl
end Go.Proofs.YtflofbimecnakaaGreat
