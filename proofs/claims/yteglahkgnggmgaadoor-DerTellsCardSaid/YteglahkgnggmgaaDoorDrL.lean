/- An element is read, or begun: faults. -/
import Derived.Test.YteglahkgnggmgaaDoorDrK
namespace Go.Proofs.YteglahkgnggmgaaDoor
open Go.RowKit
set_option linter.unusedVariables false
set_option linter.unusedSimpArgs false
open Dr
def UT (g : Nat) (w : World) : Prop := U8 w ∧ SlaysValid_ren.g 3 < g ∧ SlaysValid_ren.g 4 < g
theorem UT.below {g : Nat} {w w' : World} (h : UT g w) (hb : Below g w w') : UT g w' :=
  ⟨⟨fun c hc => (hb.cell (p := ⟨SlaysValid_ren.g 3, c, none⟩) h.2.1).trans (h.1.1 c hc), fun i hi => ⟨(hb.cell (p := ⟨SlaysValid_ren.g 4, _, none⟩) h.2.2).trans (h.1.2 i hi).1, (hb.cell (p := ⟨SlaysValid_ren.g 4, _, none⟩) h.2.2).trans (h.1.2 i hi).2⟩⟩, h.2⟩
section
variable {w w' : World} {g : Nat} {s : ByteArray} {L : Lm} {p : Nat} {l : List Nd} {G : List Fr} {vn vs : Value} {ro : Int}
theorem Rd.below (h : Rd w g s L p l G vn vs ro) (hb : Below w.heap.size w w') : Rd w' g s L p l G vn vs ro :=
  ⟨h.at0.below hb h.lt, own_below h.nodes hb (Nat.le_refl _), own_below h.stack hb (Nat.le_refl _), Nat.lt_of_lt_of_le h.lt hb.size⟩
end
/-- one element, and the end of one without elements -/
def elT (S : List UInt8) (L : Lm) (G : List Fr) (l : List Nd) (p : Nat) : Rs St :=
  match elS S L bodyOk G l p with
  | .ok (.pend G l a q) => pendS S Op.bytesLess G l a q
  | .ok s => .ok s
  | .no e q b => .no e q b
def RsAll (r : Rs St) (g : Nat) (s : ByteArray) (L : Lm) (ro : Int) (w : World) (e : Ending) (w' : World) : Prop :=
  match r with
  | .ok (.loop G l p) => e = .returned (.tuple #[]) ∧ (∃ vn vs, Hid (Rd w' g s L p l G vn vs ro)) ∧ Hid (Below g w w')
  | .no c q _ => No c q g w e w'
  | _ => False
section
variable {S : List UInt8} {L : Lm} {G : List Fr} {l : List Nd} {p : Nat}
theorem elT_lack (h : has S L p = false) : elT S L G l p = lack S L := by rw [elT, elS, if_pos h]; rfl
theorem elT_items (h : has S L p = true) (h2 : L.items ≤ l.length) : elT S L G l p = .no 10 p false := by rw [elT, elS, if_neg (by rw [h]; decide), if_pos h2]
theorem elT_tag (h : has S L p = true) (h2 : ¬ L.items ≤ l.length) (h3 : tagE (S.getD p 0) ≠ 0) : elT S L G l p = .no (tagE (S.getD p 0)) p false := by rw [elT, elS, if_neg (by rw [h]; decide), if_neg h2, if_pos h3]
theorem elT_depth (h : has S L p = true) (h2 : ¬ L.items ≤ l.length) (h3 : ¬ tagE (S.getD p 0) ≠ 0) (h4 : within (S.getD p 0) = true ∧ L.depth ≤ G.length) : elT S L G l p = .no 10 p false := by rw [elT, elS, if_neg (by rw [h]; decide), if_neg h2, if_neg h3, if_pos h4]
section
variable (h : has S L p = true) (h2 : ¬ L.items ≤ l.length) (h3 : ¬ tagE (S.getD p 0) ≠ 0) (h4 : ¬ (within (S.getD p 0) = true ∧ L.depth ≤ G.length))
include h h2 h3 h4
theorem elT_len {e : Int} {q : Nat} {b : Bool} (h5 : lenR S L (p + 1) = .no e q b) : elT S L G l p = .no e q b := by rw [elT, elS, if_neg (by rw [h]; decide), if_neg h2, if_neg h3, if_neg h4, h5]
variable {n q : Nat} (h5 : lenR S L (p + 1) = .ok (n, q))
include h5
theorem elT_end (h6 : (G.head?.any fun f => decide (f.e < q + n)) = true) : elT S L G l p = .no 9 p false := by rw [elT, elS, if_neg (by rw [h]; decide), if_neg h2, if_neg h3, if_neg h4, h5]; simp only [h6, if_true]
variable (h6 : ¬ (G.head?.any fun f => decide (f.e < q + n)) = true)
include h6
theorem elT_in (h7 : within (S.getD p 0) = true) : elT S L G l p = .ok (.loop ({ tag := S.getD p 0, node := l.length, p0 := p, e := q + n, kids := 0, last := [] } :: G) (l ++ [{ tag := S.getD p 0, kids := 0, body := [] }]) q) := by
  rw [elT, elS, if_neg (by rw [h]; decide), if_neg h2, if_neg h3, if_neg h4, h5]; simp only [if_neg h6, h7, if_true]
variable (h7 : ¬ within (S.getD p 0) = true)
include h7
theorem elT_skip (h8 : n ≠ 0 ∧ has S L (q + n - 1) = false) : elT S L G l p = lack S L := by
  rw [elT, elS, if_neg (by rw [h]; decide), if_neg h2, if_neg h3, if_neg h4, h5]; simp only [if_neg h6, if_neg h7, if_pos h8]; rfl
variable (h8 : ¬ (n ≠ 0 ∧ has S L (q + n - 1) = false))
include h8
theorem elT_body (h9 : bodyOk (S.getD p 0) (Dr.part S q (q + n)) = false) : elT S L G l p = .no 9 p false := by
  rw [elT, elS, if_neg (by rw [h]; decide), if_neg h2, if_neg h3, if_neg h4, h5]; simp only [if_neg h6, if_neg h7, if_neg h8, if_pos h9]
theorem elT_ok (h9 : ¬ bodyOk (S.getD p 0) (Dr.part S q (q + n)) = false) : elT S L G l p = pendS S Op.bytesLess G (l ++ [{ tag := S.getD p 0, kids := -1, body := Dr.part S q (q + n) }]) p (q + n) := by
  rw [elT, elS, if_neg (by rw [h]; decide), if_neg h2, if_neg h3, if_neg h4, h5]; simp only [if_neg h6, if_neg h7, if_neg h8, if_neg h9]
end
end
/-- what lenR answers lies within the text -/
theorem lenR_pl {S : List UInt8} {L : Lm} {p n q : Nat} (h : lenR S L p = .ok (n, q)) : p < q ∧ q ≤ S.length ∧ n < 4294967296 := by
  have hhas : ∀ k, has S L k = true → k < S.length := fun k hk => by rw [has, decide_eq_true_iff] at hk; exact hk.1
  unfold lenR at h
  split at h
  · rename_i h0
    have := hhas _ h0
    split at h
    · rename_i h1
      cases h
      exact ⟨by omega, by omega, by omega⟩
    · split at h
      · cases h
      · rename_i h2
        split at h
        · cases h
        · rename_i m hB
          split at h
          · cases h
          · cases h
            have hlt := lenB_lt _ _ _ _ _ hB
            refine ⟨by omega, ?_, Nat.lt_of_lt_of_le hlt (Nat.le_trans (Nat.pow_le_pow_right (by decide) (show at0S S p - 128 ≤ 4 by omega)) (by decide))⟩
            have key : ∀ i m, lenB S L p i = .ok m → p + i < S.length ∨ i = 0 := by
              intro i m hi
              cases i with
              | zero => exact Or.inr rfl
              | succ i =>
                unfold lenB at hi
                split at hi
                · cases hi
                · split at hi
                  · rename_i hh
                    exact Or.inl (hhas _ hh)
                  · cases hi
            rcases key _ _ hB with h5 | h5
            · omega
            · omega
  · cases h
/-- .. and within the limit -/
theorem lenR_pb {S : List UInt8} {L : Lm} {p n q : Nat} (h : lenR S L p = .ok (n, q)) : q ≤ L.bytes := by
  have hhas : ∀ k, has S L k = true → k < L.bytes := fun k hk => by rw [has, decide_eq_true_iff] at hk; exact hk.2
  unfold lenR at h
  split at h
  · rename_i h0
    have := hhas _ h0
    split at h
    · rename_i h1
      cases h
      omega
    · split at h
      · cases h
      · rename_i h2
        split at h
        · cases h
        · rename_i m hB
          split at h
          · cases h
          · cases h
            have key : ∀ i m, lenB S L p i = .ok m → p + i < L.bytes ∨ i = 0 := by
              intro i m hi
              cases i with
              | zero => exact Or.inr rfl
              | succ i =>
                unfold lenB at hi
                split at hi
                · cases hi
                · split at hi
                  · rename_i hh
                    exact Or.inl (hhas _ hh)
                  · cases hi
            rcases key _ _ hB with h5 | h5
            · omega
            · omega
  · cases h
end Go.Proofs.YteglahkgnggmgaaDoor
