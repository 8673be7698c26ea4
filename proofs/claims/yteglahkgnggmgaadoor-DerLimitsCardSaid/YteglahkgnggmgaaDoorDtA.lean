/- Limits, in plain words: what is read within some limits is read alike within greater ones. -/
import Derived.Test.YteglahkgnggmgaaDoorDrQ
namespace Go.Proofs.YteglahkgnggmgaaDoor
set_option linter.unusedVariables false
set_option linter.unusedSimpArgs false
open Dr
structure Lm.le (L L' : Lm) : Prop where
  d : L.depth ≤ L'.depth
  i : L.items ≤ L'.items
  b : L.bytes ≤ L'.bytes
section
variable {S : List UInt8} {L L' : Lm}
theorem has_more (h : Lm.le L L') {q : Nat} (hq : has S L q = true) : has S L' q = true := by
  have h1 : q < S.length ∧ q < L.bytes := of_decide_eq_true hq
  have := h.b
  exact decide_eq_true ⟨h1.1, by omega⟩
theorem lenB_more (hm : ∀ q, has S L q = true → has S L' q = true) (q : Nat) : ∀ (i n : Nat), lenB S L q i = .ok n → lenB S L' q i = .ok n
  | 0, n, hn => hn
  | i + 1, n, hn => by
    rw [lenB] at hn ⊢
    cases hB : lenB S L q i with
    | no e p b => rw [hB] at hn; cases hn
    | ok m =>
      rw [hB] at hn
      rw [lenB_more hm q i m hB]
      dsimp only at hn ⊢
      cases hh : has S L (q + i + 1) with
      | false => rw [hh, if_neg (by decide)] at hn; cases hn
      | true =>
        rw [hh, if_pos rfl] at hn
        rw [hm _ hh, if_pos rfl]
        exact hn
theorem lenR_more (hm : ∀ q, has S L q = true → has S L' q = true) (q : Nat) (x : Nat × Nat) (hx : lenR S L q = .ok x) : lenR S L' q = .ok x := by
  rw [lenR] at hx ⊢
  cases hh : has S L q with
  | false => rw [hh, if_neg (by decide)] at hx; cases hx
  | true =>
    rw [hh, if_pos rfl] at hx
    rw [hm _ hh, if_pos rfl]
    by_cases h1 : at0S S q < 128
    · rw [if_pos h1] at hx ⊢
      exact hx
    · rw [if_neg h1] at hx ⊢
      by_cases h2 : at0S S q = 128 ∨ 132 < at0S S q
      · rw [if_pos h2] at hx; cases hx
      · rw [if_neg h2] at hx ⊢
        cases hB : lenB S L q (at0S S q - 128) with
        | no e p b => rw [hB] at hx; cases hx
        | ok m =>
          rw [hB] at hx
          rw [lenB_more hm q _ m hB]
          exact hx
variable {bo : UInt8 → List UInt8 → Bool} {ls : List UInt8 → List UInt8 → Bool}
theorem elS_more (hm : ∀ q, has S L q = true → has S L' q = true) (hd : L.depth ≤ L'.depth) {G : List Fr} {l : List Nd} {p : Nat} {s : St} (hi : l.length < L'.items) (hs : elS S L bo G l p = .ok s) : elS S L' bo G l p = .ok s := by
  rw [elS] at hs ⊢
  cases hh : has S L p with
  | false => rw [hh, if_pos rfl] at hs; cases hs
  | true =>
    rw [hh, if_neg (by decide)] at hs
    rw [hm _ hh, if_neg (by decide)]
    by_cases h1 : L.items ≤ l.length
    · rw [if_pos h1] at hs; cases hs
    · rw [if_neg h1] at hs
      rw [if_neg (by omega)]
      by_cases h2 : tagE (S.getD p 0) ≠ 0
      · rw [if_pos h2] at hs; cases hs
      · rw [if_neg h2] at hs ⊢
        by_cases h3 : within (S.getD p 0) = true ∧ L.depth ≤ G.length
        · rw [if_pos h3] at hs; cases hs
        · rw [if_neg h3] at hs
          rw [if_neg (by rintro ⟨h4, h5⟩; exact h3 ⟨h4, by omega⟩)]
          cases hB : lenR S L (p + 1) with
          | no e q b => rw [hB] at hs; cases hs
          | ok x =>
            obtain ⟨n, q⟩ := x
            rw [hB] at hs
            rw [lenR_more hm _ _ hB]
            dsimp only at hs ⊢
            by_cases h4 : (G.head?.any fun f => decide (f.e < q + n)) = true
            · rw [if_pos h4] at hs; cases hs
            · rw [if_neg h4] at hs ⊢
              by_cases h5 : within (S.getD p 0) = true
              · rw [if_pos h5] at hs ⊢; exact hs
              · rw [if_neg h5] at hs ⊢
                by_cases h6 : n ≠ 0 ∧ has S L (q + n - 1) = false
                · rw [if_pos h6] at hs; cases hs
                · rw [if_neg h6] at hs
                  rw [if_neg (by
                    rintro ⟨h7, h8⟩
                    apply h6
                    refine ⟨h7, ?_⟩
                    cases h9 : has S L (q + n - 1) with
                    | false => rfl
                    | true => rw [hm _ h9] at h8; cases h8)]
                  exact hs
theorem elS_items {G : List Fr} {l : List Nd} {p : Nat} {s : St} (hs : elS S L bo G l p = .ok s) : l.length < L.items := by
  rw [elS] at hs
  split at hs
  · rw [lack] at hs; cases hs
  · split at hs
    · cases hs
    · omega
def stL : St → List Nd
  | .el _ l _ => l
  | .pend _ l _ _ => l
  | .loop _ l _ => l
theorem elS_len {G : List Fr} {l : List Nd} {p : Nat} {s : St} (hs : elS S L bo G l p = .ok s) : (stL s).length = l.length + 1 := by
  rw [elS] at hs
  split at hs
  · rw [lack] at hs; cases hs
  · split at hs
    · cases hs
    · split at hs
      · cases hs
      · split at hs
        · cases hs
        · split at hs
          · cases hs
          · split at hs
            · cases hs
            · split at hs
              · cases hs; simp [stL]
              · split at hs
                · rw [lack] at hs; cases hs
                · split at hs
                  · cases hs
                  · cases hs; simp [stL]
theorem pendS_len {G : List Fr} {l : List Nd} {a p : Nat} {s : St} (hs : pendS S ls G l a p = .ok s) : (stL s).length = l.length := by
  cases G with
  | nil => cases hs; rfl
  | cons f G =>
    simp only [pendS] at hs
    split at hs
    · cases hs
    · cases hs; rfl
theorem loopS_len (f : Fr) (G : List Fr) (l : List Nd) (p : Nat) : (stL (loopS f G l p)).length = l.length := by
  rw [loopS]
  split
  · rfl
  · simp [stL]
theorem Runs.long {st : St} {r : Rs (List Nd)} (hr : Runs S L bo ls st r) : ∀ l, r = .ok l → (stL st).length ≤ l.length := by
  induction hr with
  | el h1 _ ih => intro l hl; have h2 := ih l hl; rw [elS_len h1] at h2; exact Nat.le_of_succ_le h2
  | elNo _ => intro l hl; cases hl
  | pend h1 _ ih => intro l hl; have h2 := ih l hl; rw [pendS_len h1] at h2; exact h2
  | pendNo _ => intro l hl; cases hl
  | loop _ ih => intro l hl; have h2 := ih l hl; rw [loopS_len] at h2; exact h2
  | @fin l0 p =>
    intro l hl
    rw [fin] at hl
    split at hl
    · split at hl
      · cases hl
      · rw [lack] at hl; cases hl
    · cases hl; exact Nat.le_refl _
theorem Runs.moreG (hm : ∀ q, has S L q = true → has S L' q = true) (hd : L.depth ≤ L'.depth) {st : St} {r : Rs (List Nd)} (hr : Runs S L bo ls st r) : ∀ l, r = .ok l → (L.items ≤ L'.items ∨ l.length ≤ L'.items) → Runs S L' bo ls st (.ok l) := by
  induction hr with
  | el h1 h2 ih =>
    intro l hl hN
    refine Runs.el (elS_more hm hd ?_ h1) (ih l hl hN)
    have h3 := elS_items h1
    have h4 := Runs.long h2 l hl
    rw [elS_len h1] at h4
    omega
  | elNo _ => intro l hl; cases hl
  | pend h1 _ ih => intro l hl hN; exact Runs.pend h1 (ih l hl hN)
  | pendNo _ => intro l hl; cases hl
  | loop _ ih => intro l hl hN; exact Runs.loop (ih l hl hN)
  | @fin l0 p =>
    intro l hl hN
    by_cases h1 : p < S.length
    · rw [fin, if_pos h1] at hl
      split at hl
      · cases hl
      · rw [lack] at hl; cases hl
    · rw [fin, if_neg h1] at hl
      cases hl
      have h2 : fin S L' l0 p = .ok l0 := by rw [fin, if_neg h1]
      rw [← h2]
      exact Runs.fin
theorem elS_full (hm : ∀ q, has S L q = true → has S L' q = true) {G : List Fr} {l : List Nd} {p : Nat} {s : St} (hs : elS S L bo G l p = .ok s) (hi : L'.items ≤ l.length) : elS S L' bo G l p = .no 10 p false := by
  rw [elS] at hs ⊢
  cases hh : has S L p with
  | false => rw [hh, if_pos rfl] at hs; rw [lack] at hs; cases hs
  | true => rw [hm _ hh, if_neg (by decide), if_pos hi]
/-- with one element fewer a limit is told -/
theorem Runs.few (hm : ∀ q, has S L q = true → has S L' q = true) (hd : L.depth ≤ L'.depth) {st : St} {r : Rs (List Nd)} (hr : Runs S L bo ls st r) : ∀ l, r = .ok l → (stL st).length < l.length → L'.items + 1 = l.length → ∃ q b, Runs S L' bo ls st (.no 10 q b) := by
  induction hr with
  | @el G l0 p s r h1 h2 ih =>
    intro l hl hN hI
    by_cases h3 : L'.items ≤ l0.length
    · exact ⟨_, _, Runs.elNo (elS_full hm h1 h3)⟩
    · obtain ⟨q, b, h4⟩ := ih l hl (by rw [elS_len h1]; omega) hI
      exact ⟨q, b, Runs.el (elS_more hm hd (by omega) h1) h4⟩
  | elNo _ => intro l hl; cases hl
  | pend h1 _ ih =>
    intro l hl hN hI
    obtain ⟨q, b, h4⟩ := ih l hl (by rw [pendS_len h1]; exact hN) hI
    exact ⟨q, b, Runs.pend h1 h4⟩
  | pendNo _ => intro l hl; cases hl
  | loop _ ih =>
    intro l hl hN hI
    obtain ⟨q, b, h4⟩ := ih l hl (by rw [loopS_len]; exact hN) hI
    exact ⟨q, b, Runs.loop h4⟩
  | @fin l0 p =>
    intro l hl hN
    rw [fin] at hl
    split at hl
    · split at hl
      · cases hl
      · rw [lack] at hl; cases hl
    · cases hl; exact absurd hN (Nat.lt_irrefl _)
theorem Runs.more (h : Lm.le L L') {st : St} {l : List Nd} (hr : Runs S L bo ls st (.ok l)) : Runs S L' bo ls st (.ok l) := Runs.moreG (fun q => has_more h) h.d hr l rfl (.inl h.i)
/-- within just as many elements and bytes -/
theorem Runs.just {d i b : Nat} {st : St} {l : List Nd} (hr : Runs S { depth := d, items := i, bytes := b } bo ls st (.ok l)) : Runs S { depth := d, items := l.length, bytes := S.length } bo ls st (.ok l) :=
  Runs.moreG (L := { depth := d, items := i, bytes := b }) (L' := { depth := d, items := l.length, bytes := S.length }) (fun q hq => by
    have h1 : q < S.length ∧ q < b := of_decide_eq_true hq
    exact decide_eq_true ⟨h1.1, h1.1⟩) (Nat.le_refl _) hr l rfl (.inr (Nat.le_refl _))
end
end Go.Proofs.YteglahkgnggmgaaDoor
