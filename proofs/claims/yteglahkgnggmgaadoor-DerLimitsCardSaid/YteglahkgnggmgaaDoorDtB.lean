/- Limits, in plain words: with one byte fewer a limit is told, at that byte. -/
import Derived.Test.YteglahkgnggmgaaDoorDtA
namespace Go.Proofs.YteglahkgnggmgaaDoor
set_option linter.unusedVariables false
set_option linter.unusedSimpArgs false
open Dr
section
variable {S : List UInt8} {L L' : Lm}
theorem lack_less {α : Type} (hb : L'.bytes + 1 = S.length) : (lack S L' : Rs α) = .no 10 L'.bytes false := by
  rw [lack, lackE, lackP, if_pos (by omega), if_pos (by omega), decide_eq_false (by omega)]
theorem has_less (hb : L'.bytes + 1 = S.length) {q : Nat} (hq : has S L q = true) : (has S L' q = true ∧ q < L'.bytes) ∨ (has S L' q = false ∧ q = L'.bytes) := by
  have h1 : q < S.length ∧ q < L.bytes := of_decide_eq_true hq
  by_cases h : q < L'.bytes
  · exact .inl ⟨decide_eq_true ⟨h1.1, h⟩, h⟩
  · exact .inr ⟨decide_eq_false (fun h2 => h h2.2), by omega⟩
theorem lenB_less (hb : L'.bytes + 1 = S.length) (q : Nat) (hq : q < L'.bytes) : ∀ (i n : Nat), lenB S L q i = .ok n → (lenB S L' q i = .ok n ∧ q + i < L'.bytes) ∨ lenB S L' q i = lack S L'
  | 0, n, hn => .inl ⟨hn, hq⟩
  | i + 1, n, hn => by
    rw [lenB] at hn
    rw [lenB]
    cases hB : lenB S L q i with
    | no e p b => rw [hB] at hn; cases hn
    | ok m =>
      rw [hB] at hn
      dsimp only at hn
      cases hh : has S L (q + i + 1) with
      | false => rw [hh, if_neg (by decide)] at hn; rw [lack] at hn; cases hn
      | true =>
        rw [hh, if_pos rfl] at hn
        rcases lenB_less hb q hq i m hB with ⟨h1, h2⟩ | h1
        · rw [h1]
          dsimp only
          rcases has_less hb hh with ⟨h3, h4⟩ | ⟨h3, h4⟩
          · rw [h3, if_pos rfl]
            exact .inl ⟨hn, h4⟩
          · rw [h3, if_neg (by decide)]
            exact .inr rfl
        · rw [h1, lack]
          exact .inr rfl
theorem lenR_less (hb : L'.bytes + 1 = S.length) (q n q2 : Nat) (hx : lenR S L q = .ok (n, q2)) : (lenR S L' q = .ok (n, q2) ∧ q2 ≤ L'.bytes) ∨ lenR S L' q = lack S L' := by
  rw [lenR] at hx
  rw [lenR]
  cases hh : has S L q with
  | false => rw [hh, if_neg (by decide)] at hx; rw [lack] at hx; cases hx
  | true =>
    rw [hh, if_pos rfl] at hx
    rcases has_less hb hh with ⟨h3, h4⟩ | ⟨h3, h4⟩
    · rw [h3, if_pos rfl]
      by_cases h1 : at0S S q < 128
      · rw [if_pos h1] at hx ⊢
        have h5 : q2 = q + 1 := by cases hx; rfl
        exact .inl ⟨hx, by omega⟩
      · rw [if_neg h1] at hx ⊢
        by_cases h2 : at0S S q = 128 ∨ 132 < at0S S q
        · rw [if_pos h2] at hx; cases hx
        · rw [if_neg h2] at hx ⊢
          cases hB : lenB S L q (at0S S q - 128) with
          | no e p b => rw [hB] at hx; cases hx
          | ok m =>
            rw [hB] at hx
            rcases lenB_less hb q h4 _ m hB with ⟨h6, h7⟩ | h6
            · rw [h6]
              refine .inl ⟨hx, ?_⟩
              dsimp only at hx
              split at hx
              · cases hx
              · cases hx; omega
            · rw [h6, lack]
              exact .inr rfl
    · rw [h3, if_neg (by decide)]
      exact .inr rfl
variable {bo : UInt8 → List UInt8 → Bool} {ls : List UInt8 → List UInt8 → Bool}
def stP : St → Nat
  | .el _ _ p => p
  | .pend _ _ _ p => p
  | .loop _ _ p => p
theorem elS_less (hb : L'.bytes + 1 = S.length) (hd : L.depth ≤ L'.depth) {G : List Fr} {l : List Nd} {p : Nat} {s : St} (hi : l.length < L'.items) (hs : elS S L bo G l p = .ok s) :
    (elS S L' bo G l p = .ok s ∧ stP s ≤ L'.bytes) ∨ elS S L' bo G l p = .no 10 L'.bytes false := by
  rw [elS] at hs
  rw [elS]
  cases hh : has S L p with
  | false => rw [hh, if_pos rfl] at hs; rw [lack] at hs; cases hs
  | true =>
    rw [hh, if_neg (by decide)] at hs
    rcases has_less hb hh with ⟨h3, h4⟩ | ⟨h3, h4⟩
    · rw [h3, if_neg (by decide)]
      by_cases h1 : L.items ≤ l.length
      · rw [if_pos h1] at hs; cases hs
      · rw [if_neg h1] at hs
        rw [if_neg (by omega)]
        by_cases h2 : tagE (S.getD p 0) ≠ 0
        · rw [if_pos h2] at hs; cases hs
        · rw [if_neg h2] at hs ⊢
          by_cases h5 : within (S.getD p 0) = true ∧ L.depth ≤ G.length
          · rw [if_pos h5] at hs; cases hs
          · rw [if_neg h5] at hs
            rw [if_neg (by rintro ⟨h6, h7⟩; exact h5 ⟨h6, by omega⟩)]
            cases hB : lenR S L (p + 1) with
            | no e q b => rw [hB] at hs; cases hs
            | ok x =>
              obtain ⟨n, q⟩ := x
              rw [hB] at hs
              rcases lenR_less hb _ _ _ hB with ⟨h6, h7⟩ | h6
              · rw [h6]
                dsimp only at hs ⊢
                by_cases h8 : (G.head?.any fun f => decide (f.e < q + n)) = true
                · rw [if_pos h8] at hs; cases hs
                · rw [if_neg h8] at hs ⊢
                  by_cases h9 : within (S.getD p 0) = true
                  · rw [if_pos h9] at hs ⊢
                    refine .inl ⟨hs, ?_⟩
                    cases hs
                    exact h7
                  · rw [if_neg h9] at hs ⊢
                    by_cases h10 : n ≠ 0 ∧ has S L (q + n - 1) = false
                    · rw [if_pos h10] at hs; rw [lack] at hs; cases hs
                    · rw [if_neg h10] at hs
                      have hend : ∀ s, (if bo (S.getD p 0) (Dr.part S q (q + n)) = false then Rs.no 9 p false else Rs.ok (St.pend G (l ++ [{ tag := S.getD p 0, kids := -1, body := Dr.part S q (q + n) }]) p (q + n))) = Rs.ok s → stP s = q + n := by
                        intro s h
                        split at h
                        · cases h
                        · cases h; rfl
                      by_cases hn : n = 0
                      · rw [if_neg (by rintro ⟨h11, _⟩; exact h11 hn)]
                        exact .inl ⟨hs, by rw [hend s hs]; omega⟩
                      · have hq : has S L (q + n - 1) = true := by
                          cases h11 : has S L (q + n - 1) with
                          | true => rfl
                          | false => exact absurd ⟨hn, h11⟩ h10
                        rcases has_less hb hq with ⟨h12, h13⟩ | ⟨h12, h13⟩
                        · rw [if_neg (by rintro ⟨_, h14⟩; rw [h12] at h14; cases h14)]
                          exact .inl ⟨hs, by rw [hend s hs]; omega⟩
                        · rw [if_pos ⟨hn, h12⟩, lack_less hb]
                          exact .inr rfl
              · rw [h6, lack_less hb]
                exact .inr rfl
    · rw [h3, if_pos rfl, lack_less hb]
      exact .inr rfl
theorem pendS_place {G : List Fr} {l : List Nd} {a p : Nat} {s : St} (hs : pendS S ls G l a p = .ok s) : stP s = p := by
  cases G with
  | nil => cases hs; rfl
  | cons f G =>
    simp only [pendS] at hs
    split at hs
    · cases hs
    · cases hs; rfl
theorem loopS_place (f : Fr) (G : List Fr) (l : List Nd) (p : Nat) : stP (loopS f G l p) = p := by
  rw [loopS]
  split <;> rfl
/-- with one byte fewer a limit is told, at that byte -/
theorem Runs.less (hb : L'.bytes + 1 = S.length) (hd : L.depth ≤ L'.depth) {st : St} {r : Rs (List Nd)} (hr : Runs S L bo ls st r) : ∀ l, r = .ok l → stP st ≤ L'.bytes → l.length ≤ L'.items → Runs S L' bo ls st (.no 10 L'.bytes false) := by
  induction hr with
  | @el G l0 p s r h1 h2 ih =>
    intro l hl hp hN
    have h4 := Runs.long h2 l hl
    rw [elS_len h1] at h4
    rcases elS_less hb hd (by omega) h1 with ⟨h5, h6⟩ | h5
    · exact Runs.el h5 (ih l hl h6 hN)
    · exact Runs.elNo h5
  | elNo _ => intro l hl; cases hl
  | pend h1 _ ih => intro l hl hp hN; exact Runs.pend h1 (ih l hl (by rw [pendS_place h1]; exact hp) hN)
  | pendNo _ => intro l hl; cases hl
  | loop _ ih => intro l hl hp hN; exact Runs.loop (ih l hl (by rw [loopS_place]; exact hp) hN)
  | @fin l0 p =>
    intro l hl hp
    have hp' : p ≤ L'.bytes := hp
    rw [fin, if_pos (by omega)] at hl
    split at hl
    · cases hl
    · rw [lack] at hl; cases hl
end
end Go.Proofs.YteglahkgnggmgaaDoor
