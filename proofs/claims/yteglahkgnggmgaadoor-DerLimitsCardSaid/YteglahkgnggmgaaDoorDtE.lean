/- Faults are no nought, and what is read stays within the limits, in plain words. -/
import Derived.Test.YteglahkgnggmgaaDoorDtD
namespace Go.Proofs.YteglahkgnggmgaaDoor
set_option linter.unusedVariables false
set_option linter.unusedSimpArgs false
open Dr
section
variable {S : List UInt8} {L : Lm}
theorem lack_ne {α : Type} {e : Int} {q : Nat} {b : Bool} (h : (lack S L : Rs α) = .no e q b) : e ≠ 0 := by
  rw [lack] at h
  cases h
  rw [lackE]
  split <;> decide
theorem lenB_ne (q : Nat) : ∀ (i : Nat) (e : Int) (x : Nat) (b : Bool), lenB S L q i = .no e x b → e ≠ 0
  | 0, e, x, b, h => by cases h
  | i + 1, e, x, b, h => by
    rw [lenB] at h
    cases hB : lenB S L q i with
    | no e2 x2 b2 => rw [hB] at h; cases h; exact lenB_ne q i _ _ _ hB
    | ok m =>
      rw [hB] at h
      dsimp only at h
      split at h
      · split at h
        · cases h; decide
        · cases h
      · exact lack_ne h
theorem lenR_ne (q : Nat) (e : Int) (x : Nat) (b : Bool) (h : lenR S L q = .no e x b) : e ≠ 0 := by
  rw [lenR] at h
  split at h
  · split at h
    · cases h
    · split at h
      · cases h; decide
      · cases hB : lenB S L q (at0S S q - 128) with
        | no e2 x2 b2 => rw [hB] at h; cases h; exact lenB_ne q _ _ _ _ hB
        | ok m =>
          rw [hB] at h
          dsimp only at h
          split at h
          · cases h; decide
          · cases h
  · exact lack_ne h
variable {bo : UInt8 → List UInt8 → Bool} {ls : List UInt8 → List UInt8 → Bool}
theorem elS_ne {G : List Fr} {l : List Nd} {p : Nat} {e : Int} {x : Nat} {b : Bool} (h : elS S L bo G l p = .no e x b) : e ≠ 0 := by
  rw [elS] at h
  split at h
  · exact lack_ne h
  · split at h
    · cases h; decide
    · split at h
      · rename_i ht; cases h; exact ht
      · split at h
        · cases h; decide
        · cases hB : lenR S L (p + 1) with
          | no e2 x2 b2 => rw [hB] at h; cases h; exact lenR_ne _ _ _ _ hB
          | ok y =>
            obtain ⟨n, q⟩ := y
            rw [hB] at h
            dsimp only at h
            split at h
            · cases h; decide
            · split at h
              · cases h
              · split at h
                · exact lack_ne h
                · split at h
                  · cases h; decide
                  · cases h
theorem Runs.ne {st : St} {r : Rs (List Nd)} (hr : Runs S L bo ls st r) : ∀ e q b, r = .no e q b → e ≠ 0 := by
  induction hr with
  | el _ _ ih => exact ih
  | elNo h => intro e q b hl; cases hl; exact elS_ne h
  | pend _ _ ih => exact ih
  | @pendNo G l a p e q b h =>
    intro e q b hl
    cases hl
    cases G with
    | nil => cases h
    | cons f G =>
      simp only [pendS] at h
      split at h
      · cases h; decide
      · cases h
  | loop _ ih => exact ih
  | @fin l0 p =>
    intro e q b hl
    rw [fin] at hl
    split at hl
    · split at hl
      · cases hl; decide
      · exact lack_ne hl
    · cases hl
theorem has_b {q : Nat} (h : has S L q = true) : q < L.bytes := (show q < S.length ∧ q < L.bytes from of_decide_eq_true h).2
theorem lenB_bytes (q : Nat) (hq : q < L.bytes) : ∀ (i n : Nat), lenB S L q i = .ok n → q + i < L.bytes
  | 0, n, h => hq
  | i + 1, n, h => by
    rw [lenB] at h
    cases hB : lenB S L q i with
    | no e x b => rw [hB] at h; cases h
    | ok m =>
      rw [hB] at h
      dsimp only at h
      split at h
      · rename_i hh; exact has_b hh
      · rw [lack] at h; cases h
theorem lenR_bytes (q n q2 : Nat) (h : lenR S L q = .ok (n, q2)) : q2 ≤ L.bytes := by
  rw [lenR] at h
  split at h
  · rename_i hh
    have h1 := has_b hh
    split at h
    · cases h; omega
    · split at h
      · cases h
      · cases hB : lenB S L q (at0S S q - 128) with
        | no e x b => rw [hB] at h; cases h
        | ok m =>
          rw [hB] at h
          have h2 := lenB_bytes q h1 _ _ hB
          dsimp only at h
          split at h
          · cases h
          · cases h; omega
  · rw [lack] at h; cases h
theorem elS_bytes {G : List Fr} {l : List Nd} {p : Nat} {s : St} (h : elS S L bo G l p = .ok s) : stP s ≤ L.bytes := by
  rw [elS] at h
  split at h
  · rw [lack] at h; cases h
  · split at h
    · cases h
    · split at h
      · cases h
      · split at h
        · cases h
        · cases hB : lenR S L (p + 1) with
          | no e2 x2 b2 => rw [hB] at h; cases h
          | ok y =>
            obtain ⟨n, q⟩ := y
            rw [hB] at h
            have h1 := lenR_bytes _ _ _ hB
            dsimp only at h
            split at h
            · cases h
            · split at h
              · cases h; exact h1
              · split at h
                · rw [lack] at h; cases h
                · rename_i h10
                  split at h
                  · cases h
                  · cases h
                    show q + n ≤ L.bytes
                    by_cases hn : n = 0
                    · omega
                    · cases hh : has S L (q + n - 1) with
                      | false => exact absurd ⟨hn, hh⟩ h10
                      | true => have := has_b hh; omega
theorem Runs.inb {st : St} {r : Rs (List Nd)} (hr : Runs S L bo ls st r) : ∀ l, r = .ok l → stP st ≤ L.bytes → S.length ≤ L.bytes := by
  induction hr with
  | el h1 _ ih => intro l hl _; exact ih l hl (elS_bytes h1)
  | elNo _ => intro l hl; cases hl
  | pend h1 _ ih => intro l hl hp; exact ih l hl (by rw [pendS_place h1]; exact hp)
  | pendNo _ => intro l hl; cases hl
  | loop _ ih => intro l hl hp; exact ih l hl (by rw [loopS_place]; exact hp)
  | @fin l0 p =>
    intro l hl hp
    have hp' : p ≤ L.bytes := hp
    rw [fin] at hl
    split at hl
    · split at hl
      · cases hl
      · rw [lack] at hl; cases hl
    · omega
theorem Runs.ini {st : St} {r : Rs (List Nd)} (hr : Runs S L bo ls st r) : ∀ l, r = .ok l → (stL st).length ≤ L.items → l.length ≤ L.items := by
  induction hr with
  | el h1 _ ih => intro l hl _; exact ih l hl (by rw [elS_len h1]; exact elS_items h1)
  | elNo _ => intro l hl; cases hl
  | pend h1 _ ih => intro l hl hp; exact ih l hl (by rw [pendS_len h1]; exact hp)
  | pendNo _ => intro l hl; cases hl
  | loop _ ih => intro l hl hp; exact ih l hl (by rw [loopS_len]; exact hp)
  | @fin l0 p =>
    intro l hl hp
    rw [fin] at hl
    split at hl
    · split at hl
      · cases hl
      · rw [lack] at hl; cases hl
    · cases hl; exact hp
/-- what is read has an element and a byte at least -/
theorem Runs.one {l : List Nd} (hr : Runs S L bo ls (.el [] [] 0) (.ok l)) : 1 ≤ l.length ∧ 1 ≤ S.length := by
  cases hr with
  | el h1 h2 =>
    have h3 := Runs.long h2 l rfl
    rw [elS_len h1] at h3
    refine ⟨by simpa using h3, ?_⟩
    rw [elS] at h1
    split at h1
    · rw [lack] at h1; cases h1
    · rename_i hh
      have h4 : has S L 0 = true := by cases hq : has S L 0 with
        | true => rfl
        | false => exact absurd hq hh
      have h5 : 0 < S.length ∧ 0 < L.bytes := of_decide_eq_true h4
      exact h5.1
end
end Go.Proofs.YteglahkgnggmgaaDoor
