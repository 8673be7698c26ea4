/- A byte behind, in plain words. -/
import Derived.Test.YteglahkgnggmgaaDoorDtC
namespace Go.Proofs.YteglahkgnggmgaaDoor
set_option linter.unusedVariables false
set_option linter.unusedSimpArgs false
open Dr
section
variable {S : List UInt8} {L : Lm} {m : UInt8}
theorem get_app {q : Nat} (hq : q < S.length) : (S ++ [m]).getD q 0 = S.getD q 0 := by
  rw [List.getD, List.getD, List.getElem?_append_left hq]
theorem at0_app {q : Nat} (hq : q < S.length) : at0S (S ++ [m]) q = at0S S q := by rw [at0S, at0S, get_app hq]
theorem part_app {x y : Nat} (hy : y ≤ S.length) : Dr.part (S ++ [m]) x y = Dr.part S x y := by
  rw [Dr.part, Dr.part]
  by_cases hx : x ≤ S.length
  · rw [List.drop_append_of_le_length hx, List.take_append_of_le_length (by rw [List.length_drop]; omega)]
  · rw [show y - x = 0 by omega, List.take_zero, List.take_zero]
theorem has_app {q : Nat} (hq : has S L q = true) : has (S ++ [m]) L q = true ∧ q < S.length := by
  have h1 : q < S.length ∧ q < L.bytes := of_decide_eq_true hq
  exact ⟨decide_eq_true ⟨by rw [List.length_append]; omega, h1.2⟩, h1.1⟩
theorem lenB_app (q : Nat) (hq : q < S.length) : ∀ (i n : Nat), lenB S L q i = .ok n → lenB (S ++ [m]) L q i = .ok n ∧ q + i < S.length
  | 0, n, hn => ⟨hn, hq⟩
  | i + 1, n, hn => by
    rw [lenB] at hn
    rw [lenB]
    cases hB : lenB S L q i with
    | no e p b => rw [hB] at hn; cases hn
    | ok k =>
      rw [hB] at hn
      dsimp only at hn
      cases hh : has S L (q + i + 1) with
      | false => rw [hh, if_neg (by decide)] at hn; rw [lack] at hn; cases hn
      | true =>
        rw [hh, if_pos rfl] at hn
        obtain ⟨h1, h2⟩ := lenB_app q hq i k hB
        obtain ⟨h3, h4⟩ := has_app (m := m) hh
        rw [h1]
        dsimp only
        rw [h3, if_pos rfl, at0_app (show q + 1 < S.length by omega), at0_app h4]
        exact ⟨hn, h4⟩
theorem lenR_app (q n q2 : Nat) (hx : lenR S L q = .ok (n, q2)) : lenR (S ++ [m]) L q = .ok (n, q2) ∧ q2 ≤ S.length := by
  rw [lenR] at hx
  rw [lenR]
  cases hh : has S L q with
  | false => rw [hh, if_neg (by decide)] at hx; rw [lack] at hx; cases hx
  | true =>
    rw [hh, if_pos rfl] at hx
    obtain ⟨h3, h4⟩ := has_app (m := m) hh
    rw [h3, if_pos rfl, at0_app h4]
    by_cases h1 : at0S S q < 128
    · rw [if_pos h1] at hx ⊢
      have h5 : q2 = q + 1 := by cases hx; rfl
      exact ⟨hx, by omega⟩
    · rw [if_neg h1] at hx ⊢
      by_cases h2 : at0S S q = 128 ∨ 132 < at0S S q
      · rw [if_pos h2] at hx; cases hx
      · rw [if_neg h2] at hx ⊢
        cases hB : lenB S L q (at0S S q - 128) with
        | no e p b => rw [hB] at hx; cases hx
        | ok k =>
          rw [hB] at hx
          obtain ⟨h6, h7⟩ := lenB_app (m := m) q h4 _ k hB
          rw [h6]
          refine ⟨hx, ?_⟩
          dsimp only at hx
          split at hx
          · cases hx
          · cases hx; omega
variable {bo : UInt8 → List UInt8 → Bool} {ls : List UInt8 → List UInt8 → Bool}
theorem elS_app {G : List Fr} {l : List Nd} {p : Nat} {s : St} (hs : elS S L bo G l p = .ok s) : elS (S ++ [m]) L bo G l p = .ok s ∧ stP s ≤ S.length := by
  rw [elS] at hs
  rw [elS]
  cases hh : has S L p with
  | false => rw [hh, if_pos rfl] at hs; rw [lack] at hs; cases hs
  | true =>
    rw [hh, if_neg (by decide)] at hs
    obtain ⟨h3, h4⟩ := has_app (m := m) hh
    rw [h3, if_neg (by decide), get_app h4]
    by_cases h1 : L.items ≤ l.length
    · rw [if_pos h1] at hs; cases hs
    · rw [if_neg h1] at hs ⊢
      by_cases h2 : tagE (S.getD p 0) ≠ 0
      · rw [if_pos h2] at hs; cases hs
      · rw [if_neg h2] at hs ⊢
        by_cases h5 : within (S.getD p 0) = true ∧ L.depth ≤ G.length
        · rw [if_pos h5] at hs; cases hs
        · rw [if_neg h5] at hs ⊢
          cases hB : lenR S L (p + 1) with
          | no e q b => rw [hB] at hs; cases hs
          | ok x =>
            obtain ⟨n, q⟩ := x
            rw [hB] at hs
            obtain ⟨h6, h7⟩ := lenR_app (m := m) _ _ _ hB
            rw [h6]
            dsimp only at hs ⊢
            by_cases h8 : (G.head?.any fun f => decide (f.e < q + n)) = true
            · rw [if_pos h8] at hs; cases hs
            · rw [if_neg h8] at hs ⊢
              by_cases h9 : within (S.getD p 0) = true
              · rw [if_pos h9] at hs ⊢
                refine ⟨hs, ?_⟩
                cases hs
                exact h7
              · rw [if_neg h9] at hs ⊢
                by_cases h10 : n ≠ 0 ∧ has S L (q + n - 1) = false
                · rw [if_pos h10] at hs; rw [lack] at hs; cases hs
                · rw [if_neg h10] at hs
                  have hend : ∀ s, (if bo (S.getD p 0) (Dr.part S q (q + n)) = false then Rs.no 9 p false else Rs.ok (St.pend G (l ++ [{ tag := S.getD p 0, kids := -1, body := Dr.part S q (q + n) }]) p (q + n))) = Rs.ok s → stP s = q + n := by
                    intro s h
                    split at h
                    · cases h
                    · cases h; rfl
                  by_cases hn : n = 0
                  · rw [if_neg (by rintro ⟨h11, _⟩; exact h11 hn), part_app (by omega)]
                    exact ⟨hs, by rw [hend s hs]; omega⟩
                  · have hq : has S L (q + n - 1) = true := by
                      cases h11 : has S L (q + n - 1) with
                      | true => rfl
                      | false => exact absurd ⟨hn, h11⟩ h10
                    obtain ⟨h12, h13⟩ := has_app (m := m) hq
                    rw [if_neg (by rintro ⟨_, h14⟩; rw [h12] at h14; cases h14), part_app (by omega)]
                    exact ⟨hs, by rw [hend s hs]; omega⟩
theorem pendS_app {G : List Fr} {l : List Nd} {x p : Nat} (hp : p ≤ S.length) : pendS (S ++ [m]) ls G l x p = pendS S ls G l x p := by
  cases G with
  | nil => rfl
  | cons f G => simp only [pendS, part_app hp]
/-- a byte that stands behind is refused at its place -/
theorem Runs.behind (hb : S.length < L.bytes) {st : St} {r : Rs (List Nd)} (hr : Runs S L bo ls st r) : ∀ l, r = .ok l → stP st ≤ S.length → Runs (S ++ [m]) L bo ls st (.no 9 S.length false) := by
  induction hr with
  | el h1 h2 ih =>
    intro l hl hp
    obtain ⟨h5, h6⟩ := elS_app (m := m) h1
    exact Runs.el h5 (ih l hl h6)
  | elNo _ => intro l hl; cases hl
  | pend h1 _ ih => intro l hl hp; exact Runs.pend ((pendS_app hp).trans h1) (ih l hl (by rw [pendS_place h1]; exact hp))
  | pendNo _ => intro l hl; cases hl
  | loop _ ih => intro l hl hp; exact Runs.loop (ih l hl (by rw [loopS_place]; exact hp))
  | @fin l0 p =>
    intro l hl hp
    have hp' : p ≤ S.length := hp
    by_cases h1 : p < S.length
    · rw [fin, if_pos h1] at hl
      split at hl
      · cases hl
      · rw [lack] at hl; cases hl
    · obtain rfl : p = S.length := by omega
      have hh : has (S ++ [m]) L S.length = true := decide_eq_true ⟨by rw [List.length_append]; simp, hb⟩
      have h2 : fin (S ++ [m]) L l0 S.length = .no 9 S.length false := by rw [fin, if_pos (by rw [List.length_append]; simp), if_pos hh]
      rw [← h2]
      exact Runs.fin
end
end Go.Proofs.YteglahkgnggmgaaDoor
