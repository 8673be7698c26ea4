/- Trees, read and told again, in plain words: what is read is told by the bytes that it was. -/
import Derived.Test.YteglahkgnggmgaaDoorDwC
namespace Go.Proofs.YteglahkgnggmgaaDoor
set_option linter.unusedVariables false
set_option linter.unusedSimpArgs false
open Dr
section
variable {S : List UInt8} {L : Lm}
theorem get_drop {q : Nat} (h : q < S.length) : S.drop q = S.getD q 0 :: S.drop (q + 1) := by
  rw [← List.getElem_cons_drop (h := h), List.getD, List.getElem?_eq_getElem h]
  rfl
theorem has_lt {q : Nat} (h : has S L q = true) : q < S.length := (show q < S.length ∧ q < L.bytes from of_decide_eq_true h).1
theorem u8_of (x : UInt8) : UInt8.ofNat x.toNat = x := by simp
/-- what a length's bytes were -/
theorem lenB_inv (q : Nat) : ∀ (i n : Nat), lenB S L q i = .ok n → q + i < S.length ∨ i = 0 → S.drop (q + 1) = (S.drop (q + 1)).take i ++ S.drop (q + i + 1) ∧ ((S.drop (q + 1)).take i).length = i ∧ bval ((S.drop (q + 1)).take i) 0 = n ∧ (0 < i → at0S S (q + 1) ≠ 0)
  | 0, n, h, _ => by
    cases h
    exact ⟨rfl, rfl, rfl, fun h => absurd h (by decide)⟩
  | i + 1, n, h, hq => by
    rw [lenB] at h
    cases hB : lenB S L q i with
    | no e x b => rw [hB] at h; cases h
    | ok m =>
      rw [hB] at h
      dsimp only at h
      cases hh : has S L (q + i + 1) with
      | false => rw [hh, if_neg (by decide)] at h; rw [lack] at h; cases h
      | true =>
        rw [hh, if_pos rfl] at h
        have hlt := has_lt hh
        split at h
        · cases h
        · rename_i h0
          obtain ⟨h1, h2, h3, h4⟩ := lenB_inv q i m hB (.inl (by omega))
          have h5 := get_drop hlt
          have h6 : (S.drop (q + 1)).take (i + 1) = (S.drop (q + 1)).take i ++ [S.getD (q + i + 1) 0] := by
            rw [List.take_add_one, List.getElem?_drop, show q + 1 + i = q + i + 1 by omega, List.getElem?_eq_getElem hlt, List.getD, List.getElem?_eq_getElem hlt]
            rfl
          refine ⟨?_, ?_, ?_, ?_⟩
          · rw [h6, List.append_assoc, List.singleton_append, show q + (i + 1) + 1 = q + i + 1 + 1 by omega, ← h5]
            exact h1
          · rw [h6, List.length_append, h2]; rfl
          · rw [h6, bval_snoc, h3]
            cases h
            rfl
          · intro _
            by_cases hi : i = 0
            · subst hi
              intro h7
              exact h0 ⟨rfl, h7⟩
            · exact h4 (by omega)
theorem bval_lt : ∀ (l : List UInt8) (n : Nat), bval l n < (n + 1) * 256 ^ l.length
  | [], n => by rw [bval, List.length_nil, Nat.pow_zero]; omega
  | x :: l, n => by
    rw [bval]
    have h1 := bval_lt l (256 * n + x.toNat)
    have h2 := x.toNat_lt
    refine Nat.lt_of_lt_of_le h1 ?_
    rw [List.length_cons, Nat.pow_succ, Nat.mul_comm (256 ^ l.length) 256, ← Nat.mul_assoc]
    exact Nat.mul_le_mul_right _ (by omega)
theorem bval_ge : ∀ (l : List UInt8) (n : Nat), n ≤ bval l n
  | [], n => Nat.le_refl _
  | x :: l, n => by
    rw [bval]
    have h1 := bval_ge l (256 * n + x.toNat)
    omega
/-- digits that begin with no nought are those of their number -/
theorem digs_bval : ∀ (k : Nat) (l : List UInt8) (x : UInt8), l.length = k → x.toNat ≠ 0 → digs (bval l x.toNat) = x :: l
  | 0, l, x, hl, hx => by
    obtain rfl := List.length_eq_zero_iff.1 hl
    rw [bval, digs_pos hx, Nat.mod_eq_of_lt x.toNat_lt, Nat.div_eq_of_lt x.toNat_lt, digs_zero, u8_of]
    rfl
  | k + 1, l, x, hl, hx => by
    have hne : l ≠ [] := by intro h; rw [h] at hl; cases hl
    obtain ⟨m, y, rfl⟩ : ∃ m y, l = m ++ [y] := ⟨l.dropLast, l.getLast hne, (List.dropLast_concat_getLast hne).symm⟩
    have ih := digs_bval k m x (by simpa using hl) hx
    have h1 := bval_ge m x.toNat
    have hy := y.toNat_lt
    rw [bval_snoc, digs_pos (by omega), show (256 * bval m x.toNat + y.toNat) / 256 = bval m x.toNat by omega, show (256 * bval m x.toNat + y.toNat) % 256 = y.toNat by omega, ih, u8_of]
    rfl
theorem lenR_inv {q n q2 : Nat} (h : lenR S L q = .ok (n, q2)) : S.drop q = hd n ++ S.drop q2 ∧ q2 = q + (hd n).length ∧ q2 ≤ S.length := by
  rw [lenR] at h
  cases hh : has S L q with
  | false => rw [hh, if_neg (by decide)] at h; rw [lack] at h; cases h
  | true =>
    rw [hh, if_pos rfl] at h
    have hlt := has_lt hh
    have hg := get_drop hlt
    by_cases h1 : at0S S q < 128
    · rw [if_pos h1] at h
      cases h
      rw [hd, if_pos h1, at0S, u8_of]
      exact ⟨hg, rfl, hlt⟩
    · rw [if_neg h1] at h
      by_cases h2 : at0S S q = 128 ∨ 132 < at0S S q
      · rw [if_pos h2] at h; cases h
      · rw [if_neg h2] at h
        obtain ⟨k, hk⟩ : ∃ k, at0S S q - 128 = k := ⟨_, rfl⟩
        rw [hk] at h
        cases hB : lenB S L q k with
        | no e x b => rw [hB] at h; cases h
        | ok m =>
          rw [hB] at h
          dsimp only at h
          by_cases h3 : m < 128
          · rw [if_pos h3] at h; cases h
          · rw [if_neg h3] at h
            cases h
            have hkl : q + k < S.length := by
              obtain ⟨j, rfl⟩ : ∃ j, k = j + 1 := ⟨k - 1, by omega⟩
              rw [lenB] at hB
              cases hB2 : lenB S L q j with
              | no e x b => rw [hB2] at hB; cases hB
              | ok m2 =>
                rw [hB2] at hB
                dsimp only at hB
                cases hh2 : has S L (q + j + 1) with
                | false => rw [hh2, if_neg (by decide)] at hB; rw [lack] at hB; cases hB
                | true => exact has_lt hh2
            obtain ⟨h4, h5, h6, h7⟩ := lenB_inv q k _ hB (.inl hkl)
            obtain ⟨D, hD⟩ : ∃ D, (S.drop (q + 1)).take k = D := ⟨_, rfl⟩
            rw [hD] at h4 h5 h6
            have hx : D = S.getD (q + 1) 0 :: D.drop 1 := by
              cases D with
              | nil => simp at h5; omega
              | cons y D2 =>
                have h8 := get_drop (S := S) (q := q + 1) (by omega)
                rw [h4] at h8
                have h9 : y = S.getD (q + 1) 0 := by
                  have h10 := congrArg List.head? h8
                  rw [List.cons_append] at h10
                  exact Option.some.inj h10
                rw [h9]
                rfl
            have hdg : digs n = D := by
              obtain ⟨x, hxx⟩ : ∃ x, S.getD (q + 1) 0 = x := ⟨_, rfl⟩
              have hx0 : x.toNat ≠ 0 := by rw [← hxx]; exact h7 (by omega)
              rw [hxx] at hx
              obtain ⟨E, hE⟩ : ∃ E, D.drop 1 = E := ⟨_, rfl⟩
              rw [hE] at hx
              subst hx
              have h9 : bval (x :: E) 0 = bval E x.toNat := by
                show bval E (256 * 0 + x.toNat) = _
                rw [Nat.mul_zero, Nat.zero_add]
              rw [h9] at h6
              rw [← h6]
              exact digs_bval _ _ _ rfl hx0
            rw [hd, if_neg h3, hdg, h5, show 128 + k = at0S S q by omega, at0S, u8_of]
            refine ⟨?_, by rw [List.length_cons, h5]; omega, by omega⟩
            rw [hg, h4]
            rfl
/-- an element is read, or begun: what it was -/
theorem elS_inv {G : List Fr} {l : List Nd} {p : Nat} {s : St} (h : elS S L bodyOk G l p = .ok s) : p < S.length ∧ l.length < L.items ∧ tagE (S.getD p 0) = 0 ∧ ∃ n q, lenR S L (p + 1) = .ok (n, q) ∧ (∀ f, G.head? = some f → q + n ≤ f.e) ∧
    ((within (S.getD p 0) = true ∧ G.length < L.depth ∧ s = .loop ({ tag := S.getD p 0, node := l.length, p0 := p, e := q + n, kids := 0, last := [] } :: G) (l ++ [{ tag := S.getD p 0, kids := 0, body := [] }]) q) ∨
     (within (S.getD p 0) = false ∧ q + n ≤ S.length ∧ bodyOk (S.getD p 0) (Dr.part S q (q + n)) = true ∧ s = .pend G (l ++ [{ tag := S.getD p 0, kids := -1, body := Dr.part S q (q + n) }]) p (q + n))) := by
  rw [elS] at h
  cases hh : has S L p with
  | false => rw [hh, if_pos rfl] at h; rw [lack] at h; cases h
  | true =>
    rw [hh, if_neg (by decide)] at h
    by_cases h1 : L.items ≤ l.length
    · rw [if_pos h1] at h; cases h
    · rw [if_neg h1] at h
      by_cases h2 : tagE (S.getD p 0) ≠ 0
      · rw [if_pos h2] at h; cases h
      · rw [if_neg h2] at h
        by_cases h3 : within (S.getD p 0) = true ∧ L.depth ≤ G.length
        · rw [if_pos h3] at h; cases h
        · rw [if_neg h3] at h
          cases hB : lenR S L (p + 1) with
          | no e q b => rw [hB] at h; cases h
          | ok x =>
            obtain ⟨n, q⟩ := x
            rw [hB] at h
            dsimp only at h
            by_cases h4 : (G.head?.any fun f => decide (f.e < q + n)) = true
            · rw [if_pos h4] at h; cases h
            · rw [if_neg h4] at h
              refine ⟨has_lt hh, by omega, Classical.not_not.1 h2, n, q, rfl, fun f hf => ?_, ?_⟩
              · rw [hf] at h4
                have h5 : ¬ f.e < q + n := by simpa using h4
                omega
              · cases hw : within (S.getD p 0) with
                | true =>
                  rw [hw, if_pos rfl] at h
                  cases h
                  exact .inl ⟨rfl, by refine Nat.lt_of_not_le fun h5 => h3 ⟨hw, h5⟩, rfl⟩
                | false =>
                  rw [hw, if_neg (by decide)] at h
                  by_cases h5 : n ≠ 0 ∧ has S L (q + n - 1) = false
                  · rw [if_pos h5] at h; rw [lack] at h; cases h
                  · rw [if_neg h5] at h
                    cases hb : bodyOk (S.getD p 0) (Dr.part S q (q + n)) with
                    | false => rw [hb, if_pos rfl] at h; cases h
                    | true =>
                      rw [hb, if_neg (by decide)] at h
                      cases h
                      refine .inr ⟨rfl, ?_, rfl, rfl⟩
                      have h6 := (lenR_inv hB).2.2
                      by_cases hn : n = 0
                      · omega
                      · cases h7 : has S L (q + n - 1) with
                        | false => exact absurd ⟨hn, h7⟩ h5
                        | true => have := has_lt h7; omega
end
end Go.Proofs.YteglahkgnggmgaaDoor
