/- The contract of Decrypt. -/
import Derived.Test.YtkedoiikkjeadaaDoorAesUm
namespace Go.Proofs.YtkedoiikkjeadaaDoor
open Go.RowKit
set_option linter.unusedVariables false
set_option linter.unusedSimpArgs false
def decN (W : List UInt32) : Nat → List UInt32 → List UInt32
  | 0, s => s
  | j + 1, s => decN W j (lasL gback 3 2 1 (umxL (addL s W (4 * (j + 1)))))
def decW (W : List UInt32) (B : List UInt8) : List UInt8 := txtL (addL (decN W (W.length / 4 - 2) (lasL gback 3 2 1 (addL (keyL B 4) W (W.length - 4)))) W 0)
def decL (K B : List UInt8) : List UInt8 := decW (expW K) B
theorem decL_length (K B : List UInt8) : (decL K B).length = 16 := by rw [decL, decW, txtL_length]
theorem Turn.step {g lo B : Nat} {w a b : World} (h : Turn g lo w a) (hb : Below B a b) (hg : g < B) (hB : w.heap.size ≤ B) : Turn g lo w b :=
  ⟨hb.os.trans h.os, hb.tape.trans h.tape, hb.output.trans h.output, Nat.le_trans h.size hb.size, fun k hk hne => (hb.block k (by omega)).trans (h.block k hk hne), fun o ho => ⟨(hb.cell hg).trans (h.low o ho).1, (hb.frozen hg).trans (h.low o ho).2⟩⟩
theorem Ciph.turn {w w' : World} {g : Nat} {K : List UInt8} (h : Ciph w g K) (ht : Turn g 513 w w') : Ciph w' g K := by
  obtain ⟨gw, cap, h1, h2, h3, h4, h5⟩ := h
  exact ⟨gw, cap, h1, h2.turn ht (.inr (by simp)), h3.turn ht (.inl (by omega)), h4.turn ht (.inr (by rw [bcells_length, sboxL_length]; omega)), h5.turn ht (.inr (by rw [wcells_length, mixL_length]; decide))⟩
theorem Done.below {B : Nat} {w w' : World} {g : Nat} (h : Done w g) (hb : Below B w w') (hg : g < B) : Done w' g := ⟨h.1.below hb hg, h.2.1.below hb hg, h.2.2.below hb hg⟩
theorem Fresh.below {B : Nat} {w w' : World} {g : Nat} (h : Fresh w g) (hb : Below B w w') (hg : g < B) : Fresh w' g := ⟨h.1.below hb hg, h.2.1.below hb hg, h.2.2.below hb hg⟩
def RetD (K B : List UInt8) (g : Nat) (w : World) (e : Ending) (w' : World) : Prop := ∃ s : ByteArray, e = .returned (.tuple #[.string s, .int .i64 0]) ∧ s.toList = decL K B ∧ Done w' g ∧ Turn g 513 w w'
end Go.Proofs.YtkedoiikkjeadaaDoor
