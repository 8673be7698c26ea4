/- The machine's steps: what they keep. -/
import Derived.Test.YteglahkgnggmgaaDoorDrO
namespace Go.Proofs.YteglahkgnggmgaaDoor
open Go.RowKit
set_option linter.unusedVariables false
set_option linter.unusedSimpArgs false
open Dr
abbrev RunsD (S : List UInt8) (L : Lm) : St → Rs (List Nd) → Prop := Runs S L bodyOk Op.bytesLess
section
variable {S : List UInt8} {L : Lm} {G : List Fr} {l : List Nd} {p : Nat}
/-- elT's forms -/
theorem elT_cases : (∃ e q b, elT S L G l p = .no e q b ∧ RunsD S L (.el G l p) (.no e q b)) ∨ (∃ G2 l2 p2, elT S L G l p = .ok (.loop G2 l2 p2) ∧ ∀ r, RunsD S L (.loop G2 l2 p2) r → RunsD S L (.el G l p) r) := by
  cases hq : elS S L bodyOk G l p with
  | no e q b => exact Or.inl ⟨e, q, b, by rw [elT, hq], Runs.elNo hq⟩
  | ok s =>
    have hs : (∃ G2 l2 p2, s = .loop G2 l2 p2) ∨ (∃ l2 q, s = .pend G l2 p q) := by
      unfold elS at hq
      split at hq
      · cases hq
      · split at hq
        · cases hq
        · split at hq
          · cases hq
          · split at hq
            · cases hq
            · split at hq
              · cases hq
              · split at hq
                · cases hq
                · split at hq
                  · cases hq; exact Or.inl ⟨_, _, _, rfl⟩
                  · split at hq
                    · cases hq
                    · split at hq
                      · cases hq
                      · cases hq; exact Or.inr ⟨_, _, rfl⟩
    rcases hs with ⟨G2, l2, p2, rfl⟩ | ⟨l2, q, rfl⟩
    · exact Or.inr ⟨G2, l2, p2, by rw [elT, hq], fun r h => Runs.el hq h⟩
    · cases hp : pendS S Op.bytesLess G l2 p q with
      | no e q2 b => exact Or.inl ⟨e, q2, b, by rw [elT, hq]; exact hp, Runs.el hq (Runs.pendNo hp)⟩
      | ok s2 =>
        obtain ⟨G3, l3, p3, rfl⟩ : ∃ G3 l3 p3, s2 = .loop G3 l3 p3 := by
          unfold pendS at hp
          split at hp
          · cases hp; exact ⟨_, _, _, rfl⟩
          · split at hp
            · cases hp
            · cases hp; exact ⟨_, _, _, rfl⟩
        exact Or.inr ⟨G3, l3, p3, by rw [elT, hq]; exact hp, fun r h => Runs.el hq (Runs.pend hp h)⟩
/-- an element that has ended is told to the one in which it stands -/
theorem pend_chain {a : Nat} (h : Chain l G a) (ha : a < p) {G2 : List Fr} {l2 : List Nd} {p2 : Nat} (hp : pendS S Op.bytesLess G l a p = .ok (.loop G2 l2 p2)) : l2 = l ∧ p2 = p ∧ Chain l G2 p ∧ G2.length = G.length := by
  cases G with
  | nil => rw [pendS] at hp; cases hp; exact ⟨rfl, rfl, trivial, rfl⟩
  | cons f G =>
    rw [pendS] at hp
    split at hp
    · cases hp
    · cases hp
      obtain ⟨h1, h2, h3, h4, h5⟩ := h
      exact ⟨rfl, rfl, ⟨by show f.kids + 1 ≤ p; omega, by show f.p0 < p; omega, h3, h4, h5⟩, rfl⟩
theorem pend_cases {a : Nat} : (∃ e q b, pendS S Op.bytesLess G l a p = .no e q b) ∨ (∃ G2, pendS S Op.bytesLess G l a p = .ok (.loop G2 l p)) := by
  cases G with
  | nil => exact Or.inr ⟨_, rfl⟩
  | cons f G =>
    rw [pendS]
    split
    · exact Or.inl ⟨_, _, _, rfl⟩
    · exact Or.inr ⟨_, rfl⟩
theorem has_len {q : Nat} (h : has S L q = true) : q < S.length := by rw [has, decide_eq_true_iff] at h; exact h.1
theorem elT_next (hc : Chain l G p) {G2 : List Fr} {l2 : List Nd} {p2 : Nat} (h : elT S L G l p = .ok (.loop G2 l2 p2)) : p + 2 ≤ p2 ∧ p2 ≤ S.length ∧ Chain l2 G2 p2 ∧ G2.length ≤ G.length + 1 := by
  by_cases h0 : has S L p = true
  case neg => rw [elT_lack (by simpa using h0)] at h; cases h
  by_cases h2 : L.items ≤ l.length
  · rw [elT_items h0 h2] at h; cases h
  by_cases h3 : tagE (S.getD p 0) ≠ 0
  · rw [elT_tag h0 h2 h3] at h; cases h
  by_cases h4 : within (S.getD p 0) = true ∧ L.depth ≤ G.length
  · rw [elT_depth h0 h2 h3 h4] at h; cases h
  cases h5 : lenR S L (p + 1) with
  | no e q b => rw [elT_len h0 h2 h3 h4 h5] at h; cases h
  | ok x =>
    obtain ⟨n, q⟩ := x
    have hpl := lenR_pl h5
    by_cases h6 : (G.head?.any fun f => decide (f.e < q + n)) = true
    · rw [elT_end h0 h2 h3 h4 h5 h6] at h; cases h
    by_cases hV : within (S.getD p 0) = true
    · rw [elT_in h0 h2 h3 h4 h5 h6 hV] at h
      cases h
      refine ⟨by omega, hpl.2.1, ⟨Nat.zero_le _, by show p < _; omega, by simp, by simp, hc.append _⟩, by simp⟩
    by_cases h8 : n ≠ 0 ∧ has S L (q + n - 1) = false
    · rw [elT_skip h0 h2 h3 h4 h5 h6 hV h8] at h; cases h
    by_cases h9 : bodyOk (S.getD p 0) (Dr.part S q (q + n)) = false
    · rw [elT_body h0 h2 h3 h4 h5 h6 hV h8 h9] at h; cases h
    rw [elT_ok h0 h2 h3 h4 h5 h6 hV h8 h9] at h
    obtain ⟨rfl, rfl, h10, h11⟩ := pend_chain (hc.append _) (by omega) h
    refine ⟨by omega, ?_, h10, by omega⟩
    by_cases hn : n = 0
    · omega
    · have : has S L (q + n - 1) = true := by
        cases hq : has S L (q + n - 1)
        · exact absurd ⟨hn, hq⟩ h8
        · rfl
      have := has_len this
      omega
end
end Go.Proofs.YteglahkgnggmgaaDoor
