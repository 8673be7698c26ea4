/- Cut off, in plain words: a text that is cut off is refused at its end. -/
import Derived.Test.YteglahkgnggmgaaDoorDtB
namespace Go.Proofs.YteglahkgnggmgaaDoor
set_option linter.unusedVariables false
set_option linter.unusedSimpArgs false
open Dr
section
variable {S : List UInt8} {L : Lm} {a : Nat}
theorem at_cut {q : Nat} (hq : q < a) : (S.take a).getD q 0 = S.getD q 0 := by
  rw [List.getD, List.getD, List.getElem?_take_of_lt hq]
theorem at0_cut {q : Nat} (hq : q < a) : at0S (S.take a) q = at0S S q := by rw [at0S, at0S, at_cut hq]
theorem part_cut {x y : Nat} (hy : y ≤ a) : Dr.part (S.take a) x y = Dr.part S x y := by
  rw [Dr.part, Dr.part, List.drop_take, List.take_take, Nat.min_eq_left (by omega)]
theorem lack_cut {α : Type} (ha : a < S.length) (hb : S.length ≤ L.bytes) : (lack (S.take a) L : Rs α) = .no 9 a true := by
  have h1 : (S.take a).length = a := by rw [List.length_take]; omega
  rw [lack, lackE, lackP, h1, if_neg (by omega), if_neg (by omega), decide_eq_true (by omega)]
theorem has_cut (ha : a < S.length) {q : Nat} (hq : has S L q = true) : (has (S.take a) L q = true ∧ q < a) ∨ (has (S.take a) L q = false ∧ a ≤ q) := by
  have h1 : q < S.length ∧ q < L.bytes := of_decide_eq_true hq
  have h2 : (S.take a).length = a := by rw [List.length_take]; omega
  by_cases h : q < a
  · exact .inl ⟨decide_eq_true ⟨by rw [h2]; exact h, h1.2⟩, h⟩
  · exact .inr ⟨decide_eq_false (fun h3 => h (by have := h3.1; rw [h2] at this; exact this)), by omega⟩
theorem lenB_cut (ha : a < S.length) (q : Nat) (hq : q < a) : ∀ (i n : Nat), lenB S L q i = .ok n → (lenB (S.take a) L q i = .ok n ∧ q + i < a) ∨ lenB (S.take a) L q i = lack (S.take a) L
  | 0, n, hn => .inl ⟨hn, hq⟩
  | i + 1, n, hn => by
    rw [lenB] at hn
    rw [lenB]
    cases hB : lenB S L q i with
    | no e p b => rw [hB] at hn; cases hn
    | ok m =>
      rw [hB] at hn
      dsimp only at hn
      cases hh : has S L (q + i + 1) with
      | false => rw [hh, if_neg (by decide)] at hn; rw [lack] at hn; cases hn
      | true =>
        rw [hh, if_pos rfl] at hn
        rcases lenB_cut ha q hq i m hB with ⟨h1, h2⟩ | h1
        · rw [h1]
          dsimp only
          rcases has_cut ha hh with ⟨h3, h4⟩ | ⟨h3, h4⟩
          · rw [h3, if_pos rfl, at0_cut (show q + 1 < a by omega), at0_cut h4]
            exact .inl ⟨hn, h4⟩
          · rw [h3, if_neg (by decide)]
            exact .inr rfl
        · rw [h1, lack]
          exact .inr rfl
theorem lenR_cut (ha : a < S.length) (q n q2 : Nat) (hx : lenR S L q = .ok (n, q2)) : (lenR (S.take a) L q = .ok (n, q2) ∧ q2 ≤ a) ∨ lenR (S.take a) L q = lack (S.take a) L := by
  rw [lenR] at hx
  rw [lenR]
  cases hh : has S L q with
  | false => rw [hh, if_neg (by decide)] at hx; rw [lack] at hx; cases hx
  | true =>
    rw [hh, if_pos rfl] at hx
    rcases has_cut ha hh with ⟨h3, h4⟩ | ⟨h3, h4⟩
    · rw [h3, if_pos rfl, at0_cut h4]
      by_cases h1 : at0S S q < 128
      · rw [if_pos h1] at hx ⊢
        have h5 : q2 = q + 1 := by cases hx; rfl
        exact .inl ⟨hx, by omega⟩
      · rw [if_neg h1] at hx ⊢
        by_cases h2 : at0S S q = 128 ∨ 132 < at0S S q
        · rw [if_pos h2] at hx; cases hx
        · rw [if_neg h2] at hx ⊢
          cases hB : lenB S L q (at0S S q - 128) with
          | no e p b => rw [hB] at hx; cases hx
          | ok m =>
            rw [hB] at hx
            rcases lenB_cut ha q h4 _ m hB with ⟨h6, h7⟩ | h6
            · rw [h6]
              refine .inl ⟨hx, ?_⟩
              dsimp only at hx
              split at hx
              · cases hx
              · cases hx; omega
            · rw [h6, lack]
              exact .inr rfl
    · rw [h3, if_neg (by decide)]
      exact .inr rfl
variable {bo : UInt8 → List UInt8 → Bool} {ls : List UInt8 → List UInt8 → Bool}
theorem elS_cut (ha : a < S.length) (hb : S.length ≤ L.bytes) {G : List Fr} {l : List Nd} {p : Nat} {s : St} (hs : elS S L bo G l p = .ok s) :
    (elS (S.take a) L bo G l p = .ok s ∧ stP s ≤ a) ∨ elS (S.take a) L bo G l p = .no 9 a true := by
  rw [elS] at hs
  rw [elS]
  cases hh : has S L p with
  | false => rw [hh, if_pos rfl] at hs; rw [lack] at hs; cases hs
  | true =>
    rw [hh, if_neg (by decide)] at hs
    rcases has_cut ha hh with ⟨h3, h4⟩ | ⟨h3, h4⟩
    · rw [h3, if_neg (by decide), at_cut h4]
      by_cases h1 : L.items ≤ l.length
      · rw [if_pos h1] at hs; cases hs
      · rw [if_neg h1] at hs ⊢
        by_cases h2 : tagE (S.getD p 0) ≠ 0
        · rw [if_pos h2] at hs; cases hs
        · rw [if_neg h2] at hs ⊢
          by_cases h5 : within (S.getD p 0) = true ∧ L.depth ≤ G.length
          · rw [if_pos h5] at hs; cases hs
          · rw [if_neg h5] at hs ⊢
            cases hB : lenR S L (p + 1) with
            | no e q b => rw [hB] at hs; cases hs
            | ok x =>
              obtain ⟨n, q⟩ := x
              rw [hB] at hs
              rcases lenR_cut ha _ _ _ hB with ⟨h6, h7⟩ | h6
              · rw [h6]
                dsimp only at hs ⊢
                by_cases h8 : (G.head?.any fun f => decide (f.e < q + n)) = true
                · rw [if_pos h8] at hs; cases hs
                · rw [if_neg h8] at hs ⊢
                  by_cases h9 : within (S.getD p 0) = true
                  · rw [if_pos h9] at hs ⊢
                    refine .inl ⟨hs, ?_⟩
                    cases hs
                    exact h7
                  · rw [if_neg h9] at hs ⊢
                    by_cases h10 : n ≠ 0 ∧ has S L (q + n - 1) = false
                    · rw [if_pos h10] at hs; rw [lack] at hs; cases hs
                    · rw [if_neg h10] at hs
                      have hend : ∀ s, (if bo (S.getD p 0) (Dr.part S q (q + n)) = false then Rs.no 9 p false else Rs.ok (St.pend G (l ++ [{ tag := S.getD p 0, kids := -1, body := Dr.part S q (q + n) }]) p (q + n))) = Rs.ok s → stP s = q + n := by
                        intro s h
                        split at h
                        · cases h
                        · cases h; rfl
                      by_cases hn : n = 0
                      · rw [if_neg (by rintro ⟨h11, _⟩; exact h11 hn), part_cut (by omega)]
                        exact .inl ⟨hs, by rw [hend s hs]; omega⟩
                      · have hq : has S L (q + n - 1) = true := by
                          cases h11 : has S L (q + n - 1) with
                          | true => rfl
                          | false => exact absurd ⟨hn, h11⟩ h10
                        rcases has_cut ha hq with ⟨h12, h13⟩ | ⟨h12, h13⟩
                        · rw [if_neg (by rintro ⟨_, h14⟩; rw [h12] at h14; cases h14), part_cut (by omega)]
                          exact .inl ⟨hs, by rw [hend s hs]; omega⟩
                        · rw [if_pos ⟨hn, h12⟩, lack_cut ha hb]
                          exact .inr rfl
              · rw [h6, lack_cut ha hb]
                exact .inr rfl
    · rw [h3, if_pos rfl, lack_cut ha hb]
      exact .inr rfl
theorem pendS_cut {G : List Fr} {l : List Nd} {x p : Nat} (hp : p ≤ a) : pendS (S.take a) ls G l x p = pendS S ls G l x p := by
  cases G with
  | nil => rfl
  | cons f G => simp only [pendS, part_cut hp]
/-- a text that is cut off is refused at its end -/
theorem Runs.cut (ha : a < S.length) (hb : S.length ≤ L.bytes) {st : St} {r : Rs (List Nd)} (hr : Runs S L bo ls st r) : ∀ l, r = .ok l → stP st ≤ a → Runs (S.take a) L bo ls st (.no 9 a true) := by
  induction hr with
  | el h1 h2 ih =>
    intro l hl hp
    rcases elS_cut ha hb h1 with ⟨h5, h6⟩ | h5
    · exact Runs.el h5 (ih l hl h6)
    · exact Runs.elNo h5
  | elNo _ => intro l hl; cases hl
  | pend h1 _ ih => intro l hl hp; exact Runs.pend ((pendS_cut hp).trans h1) (ih l hl (by rw [pendS_place h1]; exact hp))
  | pendNo _ => intro l hl; cases hl
  | loop _ ih => intro l hl hp; exact Runs.loop (ih l hl (by rw [loopS_place]; exact hp))
  | @fin l0 p =>
    intro l hl hp
    have hp' : p ≤ a := hp
    rw [fin, if_pos (by omega)] at hl
    split at hl
    · cases hl
    · rw [lack] at hl; cases hl
end
end Go.Proofs.YteglahkgnggmgaaDoor
