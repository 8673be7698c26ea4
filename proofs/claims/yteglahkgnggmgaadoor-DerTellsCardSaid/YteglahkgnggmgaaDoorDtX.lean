/- Joined by merge.py: DtA DtB DtC DtD DtE. -/
import Derived.Test.YteglahkgnggmgaaDoorDrQ
namespace Go.Proofs.YteglahkgnggmgaaDoor
set_option linter.unusedVariables false
set_option linter.unusedSimpArgs false
open Dr
structure Lm.le (L L' : Lm) : Prop where
  d : L.depth ≤ L'.depth
  i : L.items ≤ L'.items
  b : L.bytes ≤ L'.bytes
section
variable {S : List UInt8} {L L' : Lm}
theorem has_more (h : Lm.le L L') {q : Nat} (hq : has S L q = true) : has S L' q = true := by
  have h1 : q < S.length ∧ q < L.bytes := of_decide_eq_true hq
  have := h.b
  exact decide_eq_true ⟨h1.1, by omega⟩
theorem lenB_more (hm : ∀ q, has S L q = true → has S L' q = true) (q : Nat) : ∀ (i n : Nat), lenB S L q i = .ok n → lenB S L' q i = .ok n
  | 0, n, hn => hn
  | i + 1, n, hn => by
    rw [lenB] at hn ⊢
    cases hB : lenB S L q i with
    | no e p b => rw [hB] at hn; cases hn
    | ok m =>
      rw [hB] at hn
      rw [lenB_more hm q i m hB]
      dsimp only at hn ⊢
      cases hh : has S L (q + i + 1) with
      | false => rw [hh, if_neg (by decide)] at hn; cases hn
      | true =>
        rw [hh, if_pos rfl] at hn
        rw [hm _ hh, if_pos rfl]
        exact hn
theorem lenR_more (hm : ∀ q, has S L q = true → has S L' q = true) (q : Nat) (x : Nat × Nat) (hx : lenR S L q = .ok x) : lenR S L' q = .ok x := by
  rw [lenR] at hx ⊢
  cases hh : has S L q with
  | false => rw [hh, if_neg (by decide)] at hx; cases hx
  | true =>
    rw [hh, if_pos rfl] at hx
    rw [hm _ hh, if_pos rfl]
    by_cases h1 : at0S S q < 128
    · rw [if_pos h1] at hx ⊢
      exact hx
    · rw [if_neg h1] at hx ⊢
      by_cases h2 : at0S S q = 128 ∨ 132 < at0S S q
      · rw [if_pos h2] at hx; cases hx
      · rw [if_neg h2] at hx ⊢
        cases hB : lenB S L q (at0S S q - 128) with
        | no e p b => rw [hB] at hx; cases hx
        | ok m =>
          rw [hB] at hx
          rw [lenB_more hm q _ m hB]
          exact hx
variable {bo : UInt8 → List UInt8 → Bool} {ls : List UInt8 → List UInt8 → Bool}
theorem elS_more (hm : ∀ q, has S L q = true → has S L' q = true) (hd : L.depth ≤ L'.depth) {G : List Fr} {l : List Nd} {p : Nat} {s : St} (hi : l.length < L'.items) (hs : elS S L bo G l p = .ok s) : elS S L' bo G l p = .ok s := by
  rw [elS] at hs ⊢
  cases hh : has S L p with
  | false => rw [hh, if_pos rfl] at hs; cases hs
  | true =>
    rw [hh, if_neg (by decide)] at hs
    rw [hm _ hh, if_neg (by decide)]
    by_cases h1 : L.items ≤ l.length
    · rw [if_pos h1] at hs; cases hs
    · rw [if_neg h1] at hs
      rw [if_neg (by omega)]
      by_cases h2 : tagE (S.getD p 0) ≠ 0
      · rw [if_pos h2] at hs; cases hs
      · rw [if_neg h2] at hs ⊢
        by_cases h3 : within (S.getD p 0) = true ∧ L.depth ≤ G.length
        · rw [if_pos h3] at hs; cases hs
        · rw [if_neg h3] at hs
          rw [if_neg (by rintro ⟨h4, h5⟩; exact h3 ⟨h4, by omega⟩)]
          cases hB : lenR S L (p + 1) with
          | no e q b => rw [hB] at hs; cases hs
          | ok x =>
            obtain ⟨n, q⟩ := x
            rw [hB] at hs
            rw [lenR_more hm _ _ hB]
            dsimp only at hs ⊢
            by_cases h4 : (G.head?.any fun f => decide (f.e < q + n)) = true
            · rw [if_pos h4] at hs; cases hs
            · rw [if_neg h4] at hs ⊢
              by_cases h5 : within (S.getD p 0) = true
              · rw [if_pos h5] at hs ⊢; exact hs
              · rw [if_neg h5] at hs ⊢
                by_cases h6 : n ≠ 0 ∧ has S L (q + n - 1) = false
                · rw [if_pos h6] at hs; cases hs
                · rw [if_neg h6] at hs
                  rw [if_neg (by
                    rintro ⟨h7, h8⟩
                    apply h6
                    refine ⟨h7, ?_⟩
                    cases h9 : has S L (q + n - 1) with
                    | false => rfl
                    | true => rw [hm _ h9] at h8; cases h8)]
                  exact hs
theorem elS_items {G : List Fr} {l : List Nd} {p : Nat} {s : St} (hs : elS S L bo G l p = .ok s) : l.length < L.items := by
  rw [elS] at hs
  split at hs
  · rw [lack] at hs; cases hs
  · split at hs
    · cases hs
    · omega
def stL : St → List Nd
  | .el _ l _ => l
  | .pend _ l _ _ => l
  | .loop _ l _ => l
theorem elS_len {G : List Fr} {l : List Nd} {p : Nat} {s : St} (hs : elS S L bo G l p = .ok s) : (stL s).length = l.length + 1 := by
  rw [elS] at hs
  split at hs
  · rw [lack] at hs; cases hs
  · split at hs
    · cases hs
    · split at hs
      · cases hs
      · split at hs
        · cases hs
        · split at hs
          · cases hs
          · split at hs
            · cases hs
            · split at hs
              · cases hs; simp [stL]
              · split at hs
                · rw [lack] at hs; cases hs
                · split at hs
                  · cases hs
                  · cases hs; simp [stL]
theorem pendS_len {G : List Fr} {l : List Nd} {a p : Nat} {s : St} (hs : pendS S ls G l a p = .ok s) : (stL s).length = l.length := by
  cases G with
  | nil => cases hs; rfl
  | cons f G =>
    simp only [pendS] at hs
    split at hs
    · cases hs
    · cases hs; rfl
theorem loopS_len (f : Fr) (G : List Fr) (l : List Nd) (p : Nat) : (stL (loopS f G l p)).length = l.length := by
  rw [loopS]
  split
  · rfl
  · simp [stL]
theorem Runs.long {st : St} {r : Rs (List Nd)} (hr : Runs S L bo ls st r) : ∀ l, r = .ok l → (stL st).length ≤ l.length := by
  induction hr with
  | el h1 _ ih => intro l hl; have h2 := ih l hl; rw [elS_len h1] at h2; exact Nat.le_of_succ_le h2
  | elNo _ => intro l hl; cases hl
  | pend h1 _ ih => intro l hl; have h2 := ih l hl; rw [pendS_len h1] at h2; exact h2
  | pendNo _ => intro l hl; cases hl
  | loop _ ih => intro l hl; have h2 := ih l hl; rw [loopS_len] at h2; exact h2
  | @fin l0 p =>
    intro l hl
    rw [fin] at hl
    split at hl
    · split at hl
      · cases hl
      · rw [lack] at hl; cases hl
    · cases hl; exact Nat.le_refl _
theorem Runs.moreG (hm : ∀ q, has S L q = true → has S L' q = true) (hd : L.depth ≤ L'.depth) {st : St} {r : Rs (List Nd)} (hr : Runs S L bo ls st r) : ∀ l, r = .ok l → (L.items ≤ L'.items ∨ l.length ≤ L'.items) → Runs S L' bo ls st (.ok l) := by
  induction hr with
  | el h1 h2 ih =>
    intro l hl hN
    refine Runs.el (elS_more hm hd ?_ h1) (ih l hl hN)
    have h3 := elS_items h1
    have h4 := Runs.long h2 l hl
    rw [elS_len h1] at h4
    omega
  | elNo _ => intro l hl; cases hl
  | pend h1 _ ih => intro l hl hN; exact Runs.pend h1 (ih l hl hN)
  | pendNo _ => intro l hl; cases hl
  | loop _ ih => intro l hl hN; exact Runs.loop (ih l hl hN)
  | @fin l0 p =>
    intro l hl hN
    by_cases h1 : p < S.length
    · rw [fin, if_pos h1] at hl
      split at hl
      · cases hl
      · rw [lack] at hl; cases hl
    · rw [fin, if_neg h1] at hl
      cases hl
      have h2 : fin S L' l0 p = .ok l0 := by rw [fin, if_neg h1]
      rw [← h2]
      exact Runs.fin
theorem elS_full (hm : ∀ q, has S L q = true → has S L' q = true) {G : List Fr} {l : List Nd} {p : Nat} {s : St} (hs : elS S L bo G l p = .ok s) (hi : L'.items ≤ l.length) : elS S L' bo G l p = .no 10 p false := by
  rw [elS] at hs ⊢
  cases hh : has S L p with
  | false => rw [hh, if_pos rfl] at hs; rw [lack] at hs; cases hs
  | true => rw [hm _ hh, if_neg (by decide), if_pos hi]
/-- with one element fewer a limit is told -/
theorem Runs.few (hm : ∀ q, has S L q = true → has S L' q = true) (hd : L.depth ≤ L'.depth) {st : St} {r : Rs (List Nd)} (hr : Runs S L bo ls st r) : ∀ l, r = .ok l → (stL st).length < l.length → L'.items + 1 = l.length → ∃ q b, Runs S L' bo ls st (.no 10 q b) := by
  induction hr with
  | @el G l0 p s r h1 h2 ih =>
    intro l hl hN hI
    by_cases h3 : L'.items ≤ l0.length
    · exact ⟨_, _, Runs.elNo (elS_full hm h1 h3)⟩
    · obtain ⟨q, b, h4⟩ := ih l hl (by rw [elS_len h1]; omega) hI
      exact ⟨q, b, Runs.el (elS_more hm hd (by omega) h1) h4⟩
  | elNo _ => intro l hl; cases hl
  | pend h1 _ ih =>
    intro l hl hN hI
    obtain ⟨q, b, h4⟩ := ih l hl (by rw [pendS_len h1]; exact hN) hI
    exact ⟨q, b, Runs.pend h1 h4⟩
  | pendNo _ => intro l hl; cases hl
  | loop _ ih =>
    intro l hl hN hI
    obtain ⟨q, b, h4⟩ := ih l hl (by rw [loopS_len]; exact hN) hI
    exact ⟨q, b, Runs.loop h4⟩
  | @fin l0 p =>
    intro l hl hN
    rw [fin] at hl
    split at hl
    · split at hl
      · cases hl
      · rw [lack] at hl; cases hl
    · cases hl; exact absurd hN (Nat.lt_irrefl _)
theorem Runs.more (h : Lm.le L L') {st : St} {l : List Nd} (hr : Runs S L bo ls st (.ok l)) : Runs S L' bo ls st (.ok l) := Runs.moreG (fun q => has_more h) h.d hr l rfl (.inl h.i)
/-- within just as many elements and bytes -/
theorem Runs.just {d i b : Nat} {st : St} {l : List Nd} (hr : Runs S { depth := d, items := i, bytes := b } bo ls st (.ok l)) : Runs S { depth := d, items := l.length, bytes := S.length } bo ls st (.ok l) :=
  Runs.moreG (L := { depth := d, items := i, bytes := b }) (L' := { depth := d, items := l.length, bytes := S.length }) (fun q hq => by
    have h1 : q < S.length ∧ q < b := of_decide_eq_true hq
    exact decide_eq_true ⟨h1.1, h1.1⟩) (Nat.le_refl _) hr l rfl (.inr (Nat.le_refl _))
end
end Go.Proofs.YteglahkgnggmgaaDoor
namespace Go.Proofs.YteglahkgnggmgaaDoor
set_option linter.unusedVariables false
set_option linter.unusedSimpArgs false
open Dr
section
variable {S : List UInt8} {L L' : Lm}
theorem lack_less {α : Type} (hb : L'.bytes + 1 = S.length) : (lack S L' : Rs α) = .no 10 L'.bytes false := by
  rw [lack, lackE, lackP, if_pos (by omega), if_pos (by omega), decide_eq_false (by omega)]
theorem has_less (hb : L'.bytes + 1 = S.length) {q : Nat} (hq : has S L q = true) : (has S L' q = true ∧ q < L'.bytes) ∨ (has S L' q = false ∧ q = L'.bytes) := by
  have h1 : q < S.length ∧ q < L.bytes := of_decide_eq_true hq
  by_cases h : q < L'.bytes
  · exact .inl ⟨decide_eq_true ⟨h1.1, h⟩, h⟩
  · exact .inr ⟨decide_eq_false (fun h2 => h h2.2), by omega⟩
theorem lenB_less (hb : L'.bytes + 1 = S.length) (q : Nat) (hq : q < L'.bytes) : ∀ (i n : Nat), lenB S L q i = .ok n → (lenB S L' q i = .ok n ∧ q + i < L'.bytes) ∨ lenB S L' q i = lack S L'
  | 0, n, hn => .inl ⟨hn, hq⟩
  | i + 1, n, hn => by
    rw [lenB] at hn
    rw [lenB]
    cases hB : lenB S L q i with
    | no e p b => rw [hB] at hn; cases hn
    | ok m =>
      rw [hB] at hn
      dsimp only at hn
      cases hh : has S L (q + i + 1) with
      | false => rw [hh, if_neg (by decide)] at hn; rw [lack] at hn; cases hn
      | true =>
        rw [hh, if_pos rfl] at hn
        rcases lenB_less hb q hq i m hB with ⟨h1, h2⟩ | h1
        · rw [h1]
          dsimp only
          rcases has_less hb hh with ⟨h3, h4⟩ | ⟨h3, h4⟩
          · rw [h3, if_pos rfl]
            exact .inl ⟨hn, h4⟩
          · rw [h3, if_neg (by decide)]
            exact .inr rfl
        · rw [h1, lack]
          exact .inr rfl
theorem lenR_less (hb : L'.bytes + 1 = S.length) (q n q2 : Nat) (hx : lenR S L q = .ok (n, q2)) : (lenR S L' q = .ok (n, q2) ∧ q2 ≤ L'.bytes) ∨ lenR S L' q = lack S L' := by
  rw [lenR] at hx
  rw [lenR]
  cases hh : has S L q with
  | false => rw [hh, if_neg (by decide)] at hx; rw [lack] at hx; cases hx
  | true =>
    rw [hh, if_pos rfl] at hx
    rcases has_less hb hh with ⟨h3, h4⟩ | ⟨h3, h4⟩
    · rw [h3, if_pos rfl]
      by_cases h1 : at0S S q < 128
      · rw [if_pos h1] at hx ⊢
        have h5 : q2 = q + 1 := by cases hx; rfl
        exact .inl ⟨hx, by omega⟩
      · rw [if_neg h1] at hx ⊢
        by_cases h2 : at0S S q = 128 ∨ 132 < at0S S q
        · rw [if_pos h2] at hx; cases hx
        · rw [if_neg h2] at hx ⊢
          cases hB : lenB S L q (at0S S q - 128) with
          | no e p b => rw [hB] at hx; cases hx
          | ok m =>
            rw [hB] at hx
            rcases lenB_less hb q h4 _ m hB with ⟨h6, h7⟩ | h6
            · rw [h6]
              refine .inl ⟨hx, ?_⟩
              dsimp only at hx
              split at hx
              · cases hx
              · cases hx; omega
            · rw [h6, lack]
              exact .inr rfl
    · rw [h3, if_neg (by decide)]
      exact .inr rfl
variable {bo : UInt8 → List UInt8 → Bool} {ls : List UInt8 → List UInt8 → Bool}
def stP : St → Nat
  | .el _ _ p => p
  | .pend _ _ _ p => p
  | .loop _ _ p => p
theorem elS_less (hb : L'.bytes + 1 = S.length) (hd : L.depth ≤ L'.depth) {G : List Fr} {l : List Nd} {p : Nat} {s : St} (hi : l.length < L'.items) (hs : elS S L bo G l p = .ok s) :
    (elS S L' bo G l p = .ok s ∧ stP s ≤ L'.bytes) ∨ elS S L' bo G l p = .no 10 L'.bytes false := by
  rw [elS] at hs
  rw [elS]
  cases hh : has S L p with
  | false => rw [hh, if_pos rfl] at hs; rw [lack] at hs; cases hs
  | true =>
    rw [hh, if_neg (by decide)] at hs
    rcases has_less hb hh with ⟨h3, h4⟩ | ⟨h3, h4⟩
    · rw [h3, if_neg (by decide)]
      by_cases h1 : L.items ≤ l.length
      · rw [if_pos h1] at hs; cases hs
      · rw [if_neg h1] at hs
        rw [if_neg (by omega)]
        by_cases h2 : tagE (S.getD p 0) ≠ 0
        · rw [if_pos h2] at hs; cases hs
        · rw [if_neg h2] at hs ⊢
          by_cases h5 : within (S.getD p 0) = true ∧ L.depth ≤ G.length
          · rw [if_pos h5] at hs; cases hs
          · rw [if_neg h5] at hs
            rw [if_neg (by rintro ⟨h6, h7⟩; exact h5 ⟨h6, by omega⟩)]
            cases hB : lenR S L (p + 1) with
            | no e q b => rw [hB] at hs; cases hs
            | ok x =>
              obtain ⟨n, q⟩ := x
              rw [hB] at hs
              rcases lenR_less hb _ _ _ hB with ⟨h6, h7⟩ | h6
              · rw [h6]
                dsimp only at hs ⊢
                by_cases h8 : (G.head?.any fun f => decide (f.e < q + n)) = true
                · rw [if_pos h8] at hs; cases hs
                · rw [if_neg h8] at hs ⊢
                  by_cases h9 : within (S.getD p 0) = true
                  · rw [if_pos h9] at hs ⊢
                    refine .inl ⟨hs, ?_⟩
                    cases hs
                    exact h7
                  · rw [if_neg h9] at hs ⊢
                    by_cases h10 : n ≠ 0 ∧ has S L (q + n - 1) = false
                    · rw [if_pos h10] at hs; rw [lack] at hs; cases hs
                    · rw [if_neg h10] at hs
                      have hend : ∀ s, (if bo (S.getD p 0) (Dr.part S q (q + n)) = false then Rs.no 9 p false else Rs.ok (St.pend G (l ++ [{ tag := S.getD p 0, kids := -1, body := Dr.part S q (q + n) }]) p (q + n))) = Rs.ok s → stP s = q + n := by
                        intro s h
                        split at h
                        · cases h
                        · cases h; rfl
                      by_cases hn : n = 0
                      · rw [if_neg (by rintro ⟨h11, _⟩; exact h11 hn)]
                        exact .inl ⟨hs, by rw [hend s hs]; omega⟩
                      · have hq : has S L (q + n - 1) = true := by
                          cases h11 : has S L (q + n - 1) with
                          | true => rfl
                          | false => exact absurd ⟨hn, h11⟩ h10
                        rcases has_less hb hq with ⟨h12, h13⟩ | ⟨h12, h13⟩
                        · rw [if_neg (by rintro ⟨_, h14⟩; rw [h12] at h14; cases h14)]
                          exact .inl ⟨hs, by rw [hend s hs]; omega⟩
                        · rw [if_pos ⟨hn, h12⟩, lack_less hb]
                          exact .inr rfl
              · rw [h6, lack_less hb]
                exact .inr rfl
    · rw [h3, if_pos rfl, lack_less hb]
      exact .inr rfl
theorem pendS_place {G : List Fr} {l : List Nd} {a p : Nat} {s : St} (hs : pendS S ls G l a p = .ok s) : stP s = p := by
  cases G with
  | nil => cases hs; rfl
  | cons f G =>
    simp only [pendS] at hs
    split at hs
    · cases hs
    · cases hs; rfl
theorem loopS_place (f : Fr) (G : List Fr) (l : List Nd) (p : Nat) : stP (loopS f G l p) = p := by
  rw [loopS]
  split <;> rfl
/-- with one byte fewer a limit is told, at that byte -/
theorem Runs.less (hb : L'.bytes + 1 = S.length) (hd : L.depth ≤ L'.depth) {st : St} {r : Rs (List Nd)} (hr : Runs S L bo ls st r) : ∀ l, r = .ok l → stP st ≤ L'.bytes → l.length ≤ L'.items → Runs S L' bo ls st (.no 10 L'.bytes false) := by
  induction hr with
  | @el G l0 p s r h1 h2 ih =>
    intro l hl hp hN
    have h4 := Runs.long h2 l hl
    rw [elS_len h1] at h4
    rcases elS_less hb hd (by omega) h1 with ⟨h5, h6⟩ | h5
    · exact Runs.el h5 (ih l hl h6 hN)
    · exact Runs.elNo h5
  | elNo _ => intro l hl; cases hl
  | pend h1 _ ih => intro l hl hp hN; exact Runs.pend h1 (ih l hl (by rw [pendS_place h1]; exact hp) hN)
  | pendNo _ => intro l hl; cases hl
  | loop _ ih => intro l hl hp hN; exact Runs.loop (ih l hl (by rw [loopS_place]; exact hp) hN)
  | @fin l0 p =>
    intro l hl hp
    have hp' : p ≤ L'.bytes := hp
    rw [fin, if_pos (by omega)] at hl
    split at hl
    · cases hl
    · rw [lack] at hl; cases hl
end
end Go.Proofs.YteglahkgnggmgaaDoor
namespace Go.Proofs.YteglahkgnggmgaaDoor
set_option linter.unusedVariables false
set_option linter.unusedSimpArgs false
open Dr
section
variable {S : List UInt8} {L : Lm} {a : Nat}
theorem at_cut {q : Nat} (hq : q < a) : (S.take a).getD q 0 = S.getD q 0 := by
  rw [List.getD, List.getD, List.getElem?_take_of_lt hq]
theorem at0_cut {q : Nat} (hq : q < a) : at0S (S.take a) q = at0S S q := by rw [at0S, at0S, at_cut hq]
theorem part_cut {x y : Nat} (hy : y ≤ a) : Dr.part (S.take a) x y = Dr.part S x y := by
  rw [Dr.part, Dr.part, List.drop_take, List.take_take, Nat.min_eq_left (by omega)]
theorem lack_cut {α : Type} (ha : a < S.length) (hb : S.length ≤ L.bytes) : (lack (S.take a) L : Rs α) = .no 9 a true := by
  have h1 : (S.take a).length = a := by rw [List.length_take]; omega
  rw [lack, lackE, lackP, h1, if_neg (by omega), if_neg (by omega), decide_eq_true (by omega)]
theorem has_cut (ha : a < S.length) {q : Nat} (hq : has S L q = true) : (has (S.take a) L q = true ∧ q < a) ∨ (has (S.take a) L q = false ∧ a ≤ q) := by
  have h1 : q < S.length ∧ q < L.bytes := of_decide_eq_true hq
  have h2 : (S.take a).length = a := by rw [List.length_take]; omega
  by_cases h : q < a
  · exact .inl ⟨decide_eq_true ⟨by rw [h2]; exact h, h1.2⟩, h⟩
  · exact .inr ⟨decide_eq_false (fun h3 => h (by have := h3.1; rw [h2] at this; exact this)), by omega⟩
theorem lenB_cut (ha : a < S.length) (q : Nat) (hq : q < a) : ∀ (i n : Nat), lenB S L q i = .ok n → (lenB (S.take a) L q i = .ok n ∧ q + i < a) ∨ lenB (S.take a) L q i = lack (S.take a) L
  | 0, n, hn => .inl ⟨hn, hq⟩
  | i + 1, n, hn => by
    rw [lenB] at hn
    rw [lenB]
    cases hB : lenB S L q i with
    | no e p b => rw [hB] at hn; cases hn
    | ok m =>
      rw [hB] at hn
      dsimp only at hn
      cases hh : has S L (q + i + 1) with
      | false => rw [hh, if_neg (by decide)] at hn; rw [lack] at hn; cases hn
      | true =>
        rw [hh, if_pos rfl] at hn
        rcases lenB_cut ha q hq i m hB with ⟨h1, h2⟩ | h1
        · rw [h1]
          dsimp only
          rcases has_cut ha hh with ⟨h3, h4⟩ | ⟨h3, h4⟩
          · rw [h3, if_pos rfl, at0_cut (show q + 1 < a by omega), at0_cut h4]
            exact .inl ⟨hn, h4⟩
          · rw [h3, if_neg (by decide)]
            exact .inr rfl
        · rw [h1, lack]
          exact .inr rfl
theorem lenR_cut (ha : a < S.length) (q n q2 : Nat) (hx : lenR S L q = .ok (n, q2)) : (lenR (S.take a) L q = .ok (n, q2) ∧ q2 ≤ a) ∨ lenR (S.take a) L q = lack (S.take a) L := by
  rw [lenR] at hx
  rw [lenR]
  cases hh : has S L q with
  | false => rw [hh, if_neg (by decide)] at hx; rw [lack] at hx; cases hx
  | true =>
    rw [hh, if_pos rfl] at hx
    rcases has_cut ha hh with ⟨h3, h4⟩ | ⟨h3, h4⟩
    · rw [h3, if_pos rfl, at0_cut h4]
      by_cases h1 : at0S S q < 128
      · rw [if_pos h1] at hx ⊢
        have h5 : q2 = q + 1 := by cases hx; rfl
        exact .inl ⟨hx, by omega⟩
      · rw [if_neg h1] at hx ⊢
        by_cases h2 : at0S S q = 128 ∨ 132 < at0S S q
        · rw [if_pos h2] at hx; cases hx
        · rw [if_neg h2] at hx ⊢
          cases hB : lenB S L q (at0S S q - 128) with
          | no e p b => rw [hB] at hx; cases hx
          | ok m =>
            rw [hB] at hx
            rcases lenB_cut ha q h4 _ m hB with ⟨h6, h7⟩ | h6
            · rw [h6]
              refine .inl ⟨hx, ?_⟩
              dsimp only at hx
              split at hx
              · cases hx
              · cases hx; omega
            · rw [h6, lack]
              exact .inr rfl
    · rw [h3, if_neg (by decide)]
      exact .inr rfl
variable {bo : UInt8 → List UInt8 → Bool} {ls : List UInt8 → List UInt8 → Bool}
theorem elS_cut (ha : a < S.length) (hb : S.length ≤ L.bytes) {G : List Fr} {l : List Nd} {p : Nat} {s : St} (hs : elS S L bo G l p = .ok s) :
    (elS (S.take a) L bo G l p = .ok s ∧ stP s ≤ a) ∨ elS (S.take a) L bo G l p = .no 9 a true := by
  rw [elS] at hs
  rw [elS]
  cases hh : has S L p with
  | false => rw [hh, if_pos rfl] at hs; rw [lack] at hs; cases hs
  | true =>
    rw [hh, if_neg (by decide)] at hs
    rcases has_cut ha hh with ⟨h3, h4⟩ | ⟨h3, h4⟩
    · rw [h3, if_neg (by decide), at_cut h4]
      by_cases h1 : L.items ≤ l.length
      · rw [if_pos h1] at hs; cases hs
      · rw [if_neg h1] at hs ⊢
        by_cases h2 : tagE (S.getD p 0) ≠ 0
        · rw [if_pos h2] at hs; cases hs
        · rw [if_neg h2] at hs ⊢
          by_cases h5 : within (S.getD p 0) = true ∧ L.depth ≤ G.length
          · rw [if_pos h5] at hs; cases hs
          · rw [if_neg h5] at hs ⊢
            cases hB : lenR S L (p + 1) with
            | no e q b => rw [hB] at hs; cases hs
            | ok x =>
              obtain ⟨n, q⟩ := x
              rw [hB] at hs
              rcases lenR_cut ha _ _ _ hB with ⟨h6, h7⟩ | h6
              · rw [h6]
                dsimp only at hs ⊢
                by_cases h8 : (G.head?.any fun f => decide (f.e < q + n)) = true
                · rw [if_pos h8] at hs; cases hs
                · rw [if_neg h8] at hs ⊢
                  by_cases h9 : within (S.getD p 0) = true
                  · rw [if_pos h9] at hs ⊢
                    refine .inl ⟨hs, ?_⟩
                    cases hs
                    exact h7
                  · rw [if_neg h9] at hs ⊢
                    by_cases h10 : n ≠ 0 ∧ has S L (q + n - 1) = false
                    · rw [if_pos h10] at hs; rw [lack] at hs; cases hs
                    · rw [if_neg h10] at hs
                      have hend : ∀ s, (if bo (S.getD p 0) (Dr.part S q (q + n)) = false then Rs.no 9 p false else Rs.ok (St.pend G (l ++ [{ tag := S.getD p 0, kids := -1, body := Dr.part S q (q + n) }]) p (q + n))) = Rs.ok s → stP s = q + n := by
                        intro s h
                        split at h
                        · cases h
                        · cases h; rfl
                      by_cases hn : n = 0
                      · rw [if_neg (by rintro ⟨h11, _⟩; exact h11 hn), part_cut (by omega)]
                        exact .inl ⟨hs, by rw [hend s hs]; omega⟩
                      · have hq : has S L (q + n - 1) = true := by
                          cases h11 : has S L (q + n - 1) with
                          | true => rfl
                          | false => exact absurd ⟨hn, h11⟩ h10
                        rcases has_cut ha hq with ⟨h12, h13⟩ | ⟨h12, h13⟩
                        · rw [if_neg (by rintro ⟨_, h14⟩; rw [h12] at h14; cases h14), part_cut (by omega)]
                          exact .inl ⟨hs, by rw [hend s hs]; omega⟩
                        · rw [if_pos ⟨hn, h12⟩, lack_cut ha hb]
                          exact .inr rfl
              · rw [h6, lack_cut ha hb]
                exact .inr rfl
    · rw [h3, if_pos rfl, lack_cut ha hb]
      exact .inr rfl
theorem pendS_cut {G : List Fr} {l : List Nd} {x p : Nat} (hp : p ≤ a) : pendS (S.take a) ls G l x p = pendS S ls G l x p := by
  cases G with
  | nil => rfl
  | cons f G => simp only [pendS, part_cut hp]
/-- a text that is cut off is refused at its end -/
theorem Runs.cut (ha : a < S.length) (hb : S.length ≤ L.bytes) {st : St} {r : Rs (List Nd)} (hr : Runs S L bo ls st r) : ∀ l, r = .ok l → stP st ≤ a → Runs (S.take a) L bo ls st (.no 9 a true) := by
  induction hr with
  | el h1 h2 ih =>
    intro l hl hp
    rcases elS_cut ha hb h1 with ⟨h5, h6⟩ | h5
    · exact Runs.el h5 (ih l hl h6)
    · exact Runs.elNo h5
  | elNo _ => intro l hl; cases hl
  | pend h1 _ ih => intro l hl hp; exact Runs.pend ((pendS_cut hp).trans h1) (ih l hl (by rw [pendS_place h1]; exact hp))
  | pendNo _ => intro l hl; cases hl
  | loop _ ih => intro l hl hp; exact Runs.loop (ih l hl (by rw [loopS_place]; exact hp))
  | @fin l0 p =>
    intro l hl hp
    have hp' : p ≤ a := hp
    rw [fin, if_pos (by omega)] at hl
    split at hl
    · cases hl
    · rw [lack] at hl; cases hl
end
end Go.Proofs.YteglahkgnggmgaaDoor
namespace Go.Proofs.YteglahkgnggmgaaDoor
set_option linter.unusedVariables false
set_option linter.unusedSimpArgs false
open Dr
section
variable {S : List UInt8} {L : Lm} {m : UInt8}
theorem get_app {q : Nat} (hq : q < S.length) : (S ++ [m]).getD q 0 = S.getD q 0 := by
  rw [List.getD, List.getD, List.getElem?_append_left hq]
theorem at0_app {q : Nat} (hq : q < S.length) : at0S (S ++ [m]) q = at0S S q := by rw [at0S, at0S, get_app hq]
theorem part_app {x y : Nat} (hy : y ≤ S.length) : Dr.part (S ++ [m]) x y = Dr.part S x y := by
  rw [Dr.part, Dr.part]
  by_cases hx : x ≤ S.length
  · rw [List.drop_append_of_le_length hx, List.take_append_of_le_length (by rw [List.length_drop]; omega)]
  · rw [show y - x = 0 by omega, List.take_zero, List.take_zero]
theorem has_app {q : Nat} (hq : has S L q = true) : has (S ++ [m]) L q = true ∧ q < S.length := by
  have h1 : q < S.length ∧ q < L.bytes := of_decide_eq_true hq
  exact ⟨decide_eq_true ⟨by rw [List.length_append]; omega, h1.2⟩, h1.1⟩
theorem lenB_app (q : Nat) (hq : q < S.length) : ∀ (i n : Nat), lenB S L q i = .ok n → lenB (S ++ [m]) L q i = .ok n ∧ q + i < S.length
  | 0, n, hn => ⟨hn, hq⟩
  | i + 1, n, hn => by
    rw [lenB] at hn
    rw [lenB]
    cases hB : lenB S L q i with
    | no e p b => rw [hB] at hn; cases hn
    | ok k =>
      rw [hB] at hn
      dsimp only at hn
      cases hh : has S L (q + i + 1) with
      | false => rw [hh, if_neg (by decide)] at hn; rw [lack] at hn; cases hn
      | true =>
        rw [hh, if_pos rfl] at hn
        obtain ⟨h1, h2⟩ := lenB_app q hq i k hB
        obtain ⟨h3, h4⟩ := has_app (m := m) hh
        rw [h1]
        dsimp only
        rw [h3, if_pos rfl, at0_app (show q + 1 < S.length by omega), at0_app h4]
        exact ⟨hn, h4⟩
theorem lenR_app (q n q2 : Nat) (hx : lenR S L q = .ok (n, q2)) : lenR (S ++ [m]) L q = .ok (n, q2) ∧ q2 ≤ S.length := by
  rw [lenR] at hx
  rw [lenR]
  cases hh : has S L q with
  | false => rw [hh, if_neg (by decide)] at hx; rw [lack] at hx; cases hx
  | true =>
    rw [hh, if_pos rfl] at hx
    obtain ⟨h3, h4⟩ := has_app (m := m) hh
    rw [h3, if_pos rfl, at0_app h4]
    by_cases h1 : at0S S q < 128
    · rw [if_pos h1] at hx ⊢
      have h5 : q2 = q + 1 := by cases hx; rfl
      exact ⟨hx, by omega⟩
    · rw [if_neg h1] at hx ⊢
      by_cases h2 : at0S S q = 128 ∨ 132 < at0S S q
      · rw [if_pos h2] at hx; cases hx
      · rw [if_neg h2] at hx ⊢
        cases hB : lenB S L q (at0S S q - 128) with
        | no e p b => rw [hB] at hx; cases hx
        | ok k =>
          rw [hB] at hx
          obtain ⟨h6, h7⟩ := lenB_app (m := m) q h4 _ k hB
          rw [h6]
          refine ⟨hx, ?_⟩
          dsimp only at hx
          split at hx
          · cases hx
          · cases hx; omega
variable {bo : UInt8 → List UInt8 → Bool} {ls : List UInt8 → List UInt8 → Bool}
theorem elS_app {G : List Fr} {l : List Nd} {p : Nat} {s : St} (hs : elS S L bo G l p = .ok s) : elS (S ++ [m]) L bo G l p = .ok s ∧ stP s ≤ S.length := by
  rw [elS] at hs
  rw [elS]
  cases hh : has S L p with
  | false => rw [hh, if_pos rfl] at hs; rw [lack] at hs; cases hs
  | true =>
    rw [hh, if_neg (by decide)] at hs
    obtain ⟨h3, h4⟩ := has_app (m := m) hh
    rw [h3, if_neg (by decide), get_app h4]
    by_cases h1 : L.items ≤ l.length
    · rw [if_pos h1] at hs; cases hs
    · rw [if_neg h1] at hs ⊢
      by_cases h2 : tagE (S.getD p 0) ≠ 0
      · rw [if_pos h2] at hs; cases hs
      · rw [if_neg h2] at hs ⊢
        by_cases h5 : within (S.getD p 0) = true ∧ L.depth ≤ G.length
        · rw [if_pos h5] at hs; cases hs
        · rw [if_neg h5] at hs ⊢
          cases hB : lenR S L (p + 1) with
          | no e q b => rw [hB] at hs; cases hs
          | ok x =>
            obtain ⟨n, q⟩ := x
            rw [hB] at hs
            obtain ⟨h6, h7⟩ := lenR_app (m := m) _ _ _ hB
            rw [h6]
            dsimp only at hs ⊢
            by_cases h8 : (G.head?.any fun f => decide (f.e < q + n)) = true
            · rw [if_pos h8] at hs; cases hs
            · rw [if_neg h8] at hs ⊢
              by_cases h9 : within (S.getD p 0) = true
              · rw [if_pos h9] at hs ⊢
                refine ⟨hs, ?_⟩
                cases hs
                exact h7
              · rw [if_neg h9] at hs ⊢
                by_cases h10 : n ≠ 0 ∧ has S L (q + n - 1) = false
                · rw [if_pos h10] at hs; rw [lack] at hs; cases hs
                · rw [if_neg h10] at hs
                  have hend : ∀ s, (if bo (S.getD p 0) (Dr.part S q (q + n)) = false then Rs.no 9 p false else Rs.ok (St.pend G (l ++ [{ tag := S.getD p 0, kids := -1, body := Dr.part S q (q + n) }]) p (q + n))) = Rs.ok s → stP s = q + n := by
                    intro s h
                    split at h
                    · cases h
                    · cases h; rfl
                  by_cases hn : n = 0
                  · rw [if_neg (by rintro ⟨h11, _⟩; exact h11 hn), part_app (by omega)]
                    exact ⟨hs, by rw [hend s hs]; omega⟩
                  · have hq : has S L (q + n - 1) = true := by
                      cases h11 : has S L (q + n - 1) with
                      | true => rfl
                      | false => exact absurd ⟨hn, h11⟩ h10
                    obtain ⟨h12, h13⟩ := has_app (m := m) hq
                    rw [if_neg (by rintro ⟨_, h14⟩; rw [h12] at h14; cases h14), part_app (by omega)]
                    exact ⟨hs, by rw [hend s hs]; omega⟩
theorem pendS_app {G : List Fr} {l : List Nd} {x p : Nat} (hp : p ≤ S.length) : pendS (S ++ [m]) ls G l x p = pendS S ls G l x p := by
  cases G with
  | nil => rfl
  | cons f G => simp only [pendS, part_app hp]
/-- a byte that stands behind is refused at its place -/
theorem Runs.behind (hb : S.length < L.bytes) {st : St} {r : Rs (List Nd)} (hr : Runs S L bo ls st r) : ∀ l, r = .ok l → stP st ≤ S.length → Runs (S ++ [m]) L bo ls st (.no 9 S.length false) := by
  induction hr with
  | el h1 h2 ih =>
    intro l hl hp
    obtain ⟨h5, h6⟩ := elS_app (m := m) h1
    exact Runs.el h5 (ih l hl h6)
  | elNo _ => intro l hl; cases hl
  | pend h1 _ ih => intro l hl hp; exact Runs.pend ((pendS_app hp).trans h1) (ih l hl (by rw [pendS_place h1]; exact hp))
  | pendNo _ => intro l hl; cases hl
  | loop _ ih => intro l hl hp; exact Runs.loop (ih l hl (by rw [loopS_place]; exact hp))
  | @fin l0 p =>
    intro l hl hp
    have hp' : p ≤ S.length := hp
    by_cases h1 : p < S.length
    · rw [fin, if_pos h1] at hl
      split at hl
      · cases hl
      · rw [lack] at hl; cases hl
    · obtain rfl : p = S.length := by omega
      have hh : has (S ++ [m]) L S.length = true := decide_eq_true ⟨by rw [List.length_append]; simp, hb⟩
      have h2 : fin (S ++ [m]) L l0 S.length = .no 9 S.length false := by rw [fin, if_pos (by rw [List.length_append]; simp), if_pos hh]
      rw [← h2]
      exact Runs.fin
end
end Go.Proofs.YteglahkgnggmgaaDoor
namespace Go.Proofs.YteglahkgnggmgaaDoor
set_option linter.unusedVariables false
set_option linter.unusedSimpArgs false
open Dr
section
variable {S : List UInt8} {L : Lm}
theorem lack_ne {α : Type} {e : Int} {q : Nat} {b : Bool} (h : (lack S L : Rs α) = .no e q b) : e ≠ 0 := by
  rw [lack] at h
  cases h
  rw [lackE]
  split <;> decide
theorem lenB_ne (q : Nat) : ∀ (i : Nat) (e : Int) (x : Nat) (b : Bool), lenB S L q i = .no e x b → e ≠ 0
  | 0, e, x, b, h => by cases h
  | i + 1, e, x, b, h => by
    rw [lenB] at h
    cases hB : lenB S L q i with
    | no e2 x2 b2 => rw [hB] at h; cases h; exact lenB_ne q i _ _ _ hB
    | ok m =>
      rw [hB] at h
      dsimp only at h
      split at h
      · split at h
        · cases h; decide
        · cases h
      · exact lack_ne h
theorem lenR_ne (q : Nat) (e : Int) (x : Nat) (b : Bool) (h : lenR S L q = .no e x b) : e ≠ 0 := by
  rw [lenR] at h
  split at h
  · split at h
    · cases h
    · split at h
      · cases h; decide
      · cases hB : lenB S L q (at0S S q - 128) with
        | no e2 x2 b2 => rw [hB] at h; cases h; exact lenB_ne q _ _ _ _ hB
        | ok m =>
          rw [hB] at h
          dsimp only at h
          split at h
          · cases h; decide
          · cases h
  · exact lack_ne h
variable {bo : UInt8 → List UInt8 → Bool} {ls : List UInt8 → List UInt8 → Bool}
theorem elS_ne {G : List Fr} {l : List Nd} {p : Nat} {e : Int} {x : Nat} {b : Bool} (h : elS S L bo G l p = .no e x b) : e ≠ 0 := by
  rw [elS] at h
  split at h
  · exact lack_ne h
  · split at h
    · cases h; decide
    · split at h
      · rename_i ht; cases h; exact ht
      · split at h
        · cases h; decide
        · cases hB : lenR S L (p + 1) with
          | no e2 x2 b2 => rw [hB] at h; cases h; exact lenR_ne _ _ _ _ hB
          | ok y =>
            obtain ⟨n, q⟩ := y
            rw [hB] at h
            dsimp only at h
            split at h
            · cases h; decide
            · split at h
              · cases h
              · split at h
                · exact lack_ne h
                · split at h
                  · cases h; decide
                  · cases h
theorem Runs.ne {st : St} {r : Rs (List Nd)} (hr : Runs S L bo ls st r) : ∀ e q b, r = .no e q b → e ≠ 0 := by
  induction hr with
  | el _ _ ih => exact ih
  | elNo h => intro e q b hl; cases hl; exact elS_ne h
  | pend _ _ ih => exact ih
  | @pendNo G l a p e q b h =>
    intro e q b hl
    cases hl
    cases G with
    | nil => cases h
    | cons f G =>
      simp only [pendS] at h
      split at h
      · cases h; decide
      · cases h
  | loop _ ih => exact ih
  | @fin l0 p =>
    intro e q b hl
    rw [fin] at hl
    split at hl
    · split at hl
      · cases hl; decide
      · exact lack_ne hl
    · cases hl
theorem has_b {q : Nat} (h : has S L q = true) : q < L.bytes := (show q < S.length ∧ q < L.bytes from of_decide_eq_true h).2
theorem lenB_bytes (q : Nat) (hq : q < L.bytes) : ∀ (i n : Nat), lenB S L q i = .ok n → q + i < L.bytes
  | 0, n, h => hq
  | i + 1, n, h => by
    rw [lenB] at h
    cases hB : lenB S L q i with
    | no e x b => rw [hB] at h; cases h
    | ok m =>
      rw [hB] at h
      dsimp only at h
      split at h
      · rename_i hh; exact has_b hh
      · rw [lack] at h; cases h
theorem lenR_bytes (q n q2 : Nat) (h : lenR S L q = .ok (n, q2)) : q2 ≤ L.bytes := by
  rw [lenR] at h
  split at h
  · rename_i hh
    have h1 := has_b hh
    split at h
    · cases h; omega
    · split at h
      · cases h
      · cases hB : lenB S L q (at0S S q - 128) with
        | no e x b => rw [hB] at h; cases h
        | ok m =>
          rw [hB] at h
          have h2 := lenB_bytes q h1 _ _ hB
          dsimp only at h
          split at h
          · cases h
          · cases h; omega
  · rw [lack] at h; cases h
theorem elS_bytes {G : List Fr} {l : List Nd} {p : Nat} {s : St} (h : elS S L bo G l p = .ok s) : stP s ≤ L.bytes := by
  rw [elS] at h
  split at h
  · rw [lack] at h; cases h
  · split at h
    · cases h
    · split at h
      · cases h
      · split at h
        · cases h
        · cases hB : lenR S L (p + 1) with
          | no e2 x2 b2 => rw [hB] at h; cases h
          | ok y =>
            obtain ⟨n, q⟩ := y
            rw [hB] at h
            have h1 := lenR_bytes _ _ _ hB
            dsimp only at h
            split at h
            · cases h
            · split at h
              · cases h; exact h1
              · split at h
                · rw [lack] at h; cases h
                · rename_i h10
                  split at h
                  · cases h
                  · cases h
                    show q + n ≤ L.bytes
                    by_cases hn : n = 0
                    · omega
                    · cases hh : has S L (q + n - 1) with
                      | false => exact absurd ⟨hn, hh⟩ h10
                      | true => have := has_b hh; omega
theorem Runs.inb {st : St} {r : Rs (List Nd)} (hr : Runs S L bo ls st r) : ∀ l, r = .ok l → stP st ≤ L.bytes → S.length ≤ L.bytes := by
  induction hr with
  | el h1 _ ih => intro l hl _; exact ih l hl (elS_bytes h1)
  | elNo _ => intro l hl; cases hl
  | pend h1 _ ih => intro l hl hp; exact ih l hl (by rw [pendS_place h1]; exact hp)
  | pendNo _ => intro l hl; cases hl
  | loop _ ih => intro l hl hp; exact ih l hl (by rw [loopS_place]; exact hp)
  | @fin l0 p =>
    intro l hl hp
    have hp' : p ≤ L.bytes := hp
    rw [fin] at hl
    split at hl
    · split at hl
      · cases hl
      · rw [lack] at hl; cases hl
    · omega
theorem Runs.ini {st : St} {r : Rs (List Nd)} (hr : Runs S L bo ls st r) : ∀ l, r = .ok l → (stL st).length ≤ L.items → l.length ≤ L.items := by
  induction hr with
  | el h1 _ ih => intro l hl _; exact ih l hl (by rw [elS_len h1]; exact elS_items h1)
  | elNo _ => intro l hl; cases hl
  | pend h1 _ ih => intro l hl hp; exact ih l hl (by rw [pendS_len h1]; exact hp)
  | pendNo _ => intro l hl; cases hl
  | loop _ ih => intro l hl hp; exact ih l hl (by rw [loopS_len]; exact hp)
  | @fin l0 p =>
    intro l hl hp
    rw [fin] at hl
    split at hl
    · split at hl
      · cases hl
      · rw [lack] at hl; cases hl
    · cases hl; exact hp
/-- what is read has an element and a byte at least -/
theorem Runs.one {l : List Nd} (hr : Runs S L bo ls (.el [] [] 0) (.ok l)) : 1 ≤ l.length ∧ 1 ≤ S.length := by
  cases hr with
  | el h1 h2 =>
    have h3 := Runs.long h2 l rfl
    rw [elS_len h1] at h3
    refine ⟨by simpa using h3, ?_⟩
    rw [elS] at h1
    split at h1
    · rw [lack] at h1; cases h1
    · rename_i hh
      have h4 : has S L 0 = true := by cases hq : has S L 0 with
        | true => rfl
        | false => exact absurd hq hh
      have h5 : 0 < S.length ∧ 0 < L.bytes := of_decide_eq_true h4
      exact h5.1
end
end Go.Proofs.YteglahkgnggmgaaDoor
