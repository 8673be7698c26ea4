/- The contract of turnBack: the tables of the way back. -/
import Derived.Test.YtkedoiikkjeadaaDoorAesL
import Derived.Test.YtkedoiikkjeadaaDoorAesY
namespace Go.Proofs.YtkedoiikkjeadaaDoor
open Go.RowKit
set_option linter.unusedVariables false
set_option linter.unusedSimpArgs false
/-- of block g the cells from lo on may be others, and there may be new blocks; all else is as it was -/
structure Turn (g lo : Nat) (w w' : World) : Prop where
  os : w'.os = w.os
  tape : w'.tape = w.tape
  output : w'.output = w.output
  size : w.heap.size ≤ w'.heap.size
  block : ∀ k, k < w.heap.size → k ≠ g → w'.heap[k]? = w.heap[k]?
  low : ∀ o, o < lo → w'.cell? ⟨g, o, none⟩ = w.cell? ⟨g, o, none⟩ ∧ w'.frozen? ⟨g, o, none⟩ = w.frozen? ⟨g, o, none⟩
theorem Turn.refl (g lo : Nat) (w : World) : Turn g lo w w := ⟨rfl, rfl, rfl, Nat.le_refl _, fun _ _ _ => rfl, fun _ _ => ⟨rfl, rfl⟩⟩
theorem Turn.trans {g lo : Nat} {a b c : World} (h : Turn g lo a b) (k : Turn g lo b c) : Turn g lo a c :=
  ⟨k.os.trans h.os, k.tape.trans h.tape, k.output.trans h.output, Nat.le_trans h.size k.size, fun i hi hg => (k.block i (Nat.lt_of_lt_of_le hi h.size) hg).trans (h.block i hi hg), fun o ho => ⟨(k.low o ho).1.trans (h.low o ho).1, (k.low o ho).2.trans (h.low o ho).2⟩⟩
theorem Turn.less {g lo lo' : Nat} {a b : World} (h : Turn g lo a b) (hl : lo' ≤ lo) : Turn g lo' a b := ⟨h.os, h.tape, h.output, h.size, h.block, fun o ho => h.low o (by omega)⟩
theorem Turn.drew {g lo : Nat} {a b : World} (h : Turn g lo a b) : Turn g lo a b.drew := ⟨h.os, h.tape, h.output, h.size, h.block, h.low⟩
theorem Turn.ofBelow {g lo : Nat} {a b : World} (h : Below a.heap.size a b) (hg : g < a.heap.size) : Turn g lo a b :=
  ⟨h.os, h.tape, h.output, h.size, fun k hk _ => h.block k hk, fun o ho => ⟨h.cell hg, h.frozen hg⟩⟩
theorem Turn.setCell {g lo : Nat} {a b : World} (h : Turn g lo a b) (o : Nat) (ho : lo ≤ o) (v : Value) : Turn g lo a (b.setCell ⟨g, o, none⟩ v) :=
  h.trans ⟨rfl, rfl, rfl, by simp [World.setCell], fun k _ hk => Below.heap_setCell _ _ _ _ hk, fun o' ho' => ⟨by
    rw [World.cell?_setCell_other]
    intro e
    injection e with _ e2
    omega, by rw [World.frozen?_setCell]⟩⟩
theorem At.turn {w w' : World} {g lo h o : Nat} {cs : List Value} (ha : At w h o cs) (ht : Turn g lo w w') (hne : h ≠ g ∨ o + cs.length ≤ lo) : At w' h o cs := fun j v hv => by
  have hj : j < cs.length := (List.getElem?_eq_some_iff.1 hv).1
  have hl := ha.lt (by rintro rfl; simp at hv)
  obtain ⟨h1, h2⟩ := ha j v hv
  by_cases e : h = g
  · subst e
    have hlo : o + j < lo := by
      rcases hne with hne | hne
      · exact absurd rfl hne
      · omega
    obtain ⟨h3, h4⟩ := ht.low (o + j) hlo
    exact ⟨h3.trans h1, h4.trans h2⟩
  · have hb := ht.block h hl e
    exact ⟨(World.cell?_of_block (w := w) hb).trans h1, (World.frozen?_of_block (w := w) hb).trans h2⟩
theorem Turn.below {g lo : Nat} {a b : World} (h : Turn g lo a b) : Below g a b ∨ True := .inr trivial
def unmW (a : UInt8) : UInt32 := wd (gmul a 14) (gmul a 9) (gmul a 13) (gmul a 11)
def unmL (n : Nat) : List UInt32 := (List.range n).map fun i => unmW (UInt8.ofNat i)
theorem unmL_succ (n : Nat) : unmL (n + 1) = unmL n ++ [unmW (UInt8.ofNat n)] := by simp [unmL, List.range_succ]
theorem unmL_length (n : Nat) : (unmL n).length = n := by simp [unmL]
theorem unmL_get (b : UInt8) : (unmL 256).getD b.toNat 0 = unmW b := by
  have := b.toNat_lt
  simp [unmL, List.getD, this]
def bkL : Nat → List UInt8
  | 0 => List.replicate 256 0
  | k + 1 => (bkL k).set (gsub (UInt8.ofNat k)).toNat (UInt8.ofNat k)
theorem bkL_length : ∀ k, (bkL k).length = 256
  | 0 => by rw [bkL, List.length_replicate]
  | k + 1 => by rw [bkL, List.length_set, bkL_length k]
theorem bkL_all : bkL 256 = backC := by decide +kernel
theorem backC_length : backC.length = 256 := by decide +kernel
theorem backC_get (b : UInt8) : backC.getD b.toNat 0 = gback b := rfl
/-- somebody has decrypted -/
def Done (w : World) (g : Nat) : Prop := At w g 513 [.int .u32 1, .int .i32 0, .int .u32 0] ∧ At w g 516 (bcells backC) ∧ At w g 772 (wcells (unmL 256))
end Go.Proofs.YtkedoiikkjeadaaDoor
