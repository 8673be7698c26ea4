/- What is read can be told: a word, a number and a string that were read. -/
import Derived.Test.YtilfidcomeandaaDoorJnA
import Derived.Test.YtilfidcomeandaaDoorJhA
namespace Go.Proofs.YtilfidcomeandaaDoor
set_option linter.unusedVariables false
set_option linter.unusedSimpArgs false
namespace Jn2
open Js Je Jb Jh
open Dr (Rs Lm has lack)
/-- a whole text is read from here -/
def Rd (S : List UInt8) (L : Lm) (s : St) (p : Nat) (l : List Vl) : Prop := ∃ t k, RunsT S L s p (.ok l) t k
/-- what an answer comes from: the end, or one more byte -/
theorem Rd.inv {S : List UInt8} {L : Lm} {s : St} {p : Nat} {l : List Vl} (h : Rd S L s p l) : (has S L p = false ∧ s.last = some l ∧ S.length ≤ L.bytes) ∨ ∃ s', p < S.length ∧ s.act L (S.getD p 0) p = .go s' ∧ Rd S L s' (p + 1) l ∧ has S L p = true := by
  obtain ⟨t, k, h⟩ := h
  generalize hr : Rs.ok l = r at h
  cases h with
  | stop hh => exact .inl ⟨hh, (fin_ok hr.symm).2, (fin_ok hr.symm).1⟩
  | fl hh ha => cases hr
  | go hh ha h3 => subst hr; exact .inr ⟨_, (has_lt hh).1, ha, ⟨_, _, h3⟩, hh⟩
theorem Rd.stop {S : List UInt8} {L : Lm} {s : St} {p : Nat} {l : List Vl} (hh : has S L p = false) (h1 : s.last = some l) (h2 : S.length ≤ L.bytes) : Rd S L s p l := by
  have h := RunsT.stop (s := s) hh
  rw [fin, if_pos h2, h1] at h
  exact ⟨_, _, h⟩
theorem word_run {S : List UInt8} {L : Lm} {l : List Vl} : ∀ (r : List UInt8) (s : St) (p : Nat), r ≠ [] → Rd S L { s with hand := .word r } p l → Rd S L s.ended (p + r.length) l ∧ p + r.length ≤ S.length
  | x :: r, s, p, _, h => by
    rcases h.inv with ⟨-, h1, -⟩ | ⟨s', hp, ha, h1, -⟩
    · have h2 : (if s.G.isEmpty = true then none else none : Option (List Vl)) = some l := h1
      split at h2 <;> cases h2
    · have ha : (if S.getD p 0 = x then (if r = [] then Out.go ({ s with hand := .word (x :: r) } : St).ended else .go { s with hand := .word r }) else .fl 9 p) = .go s' := ha
      split at ha
      · split at ha
        · rename_i h3
          subst h3
          cases ha
          exact ⟨h1, hp⟩
        · rename_i h3
          cases ha
          obtain ⟨h4, h5⟩ := word_run r s (p + 1) h3 h1
          rw [List.length_cons, show p + (r.length + 1) = p + 1 + r.length by omega]
          exact ⟨h4, h5⟩
      · cases ha
theorem num_run {S : List UInt8} {L : Lm} {l : List Vl} (s : St) (p w : Nat) (x : List UInt8) (hp : p ≤ S.length) (h : Rd S L { s with hand := .num w x } p l) : ∃ y w', foldN y (some w) = some w' ∧ wholeN w' = true ∧ p + y.length ≤ S.length ∧ Rd S L (s.endNum (x ++ y)) (p + y.length) l := by
  rcases h.inv with ⟨hh, h1, hb⟩ | ⟨s', hp2, ha, h1, hh⟩
  · have h2 : (if s.G.isEmpty = true then (if wholeN w = true then some (withText x s.cur) else none) else none) = some l := h1
    split at h2
    · rename_i hG
      split at h2
      · rename_i hw
        refine ⟨[], w, rfl, hw, hp, ?_⟩
        rw [List.append_nil]
        refine Rd.stop hh ?_ hb
        have hG' : s.G = [] := List.isEmpty_iff.1 hG
        obtain ⟨nx, hand, named, cur, G⟩ := s
        obtain rfl : G = [] := hG'
        exact h2
      · cases h2
    · cases h2
  · have ha : (match nextN w (S.getD p 0) with | some w' => Out.go { s with hand := .num w' (x ++ [S.getD p 0]) } | none => if wholeN w = true then (s.endNum x).between L (S.getD p 0) p else .fl 9 p) = .go s' := ha
    cases hn : nextN w (S.getD p 0) with
    | some w1 =>
      rw [hn] at ha
      cases ha
      obtain ⟨y, w', e1, e2, e3, e4⟩ := num_run s (p + 1) w1 (x ++ [S.getD p 0]) hp2 h1
      refine ⟨S.getD p 0 :: y, w', ?_, e2, by rw [List.length_cons]; omega, ?_⟩
      · show foldN y (nextN w (S.getD p 0)) = some w'
        rw [hn]; exact e1
      · rw [List.append_assoc] at e4
        rw [List.length_cons, show p + (y.length + 1) = p + 1 + y.length by omega]
        exact e4
    | none =>
      rw [hn] at ha
      simp only at ha
      split at ha
      · rename_i hw
        refine ⟨[], w, rfl, hw, hp, ?_⟩
        rw [List.append_nil]
        obtain ⟨t, k, h2⟩ := h1
        exact ⟨t, k, RunsT.go hh ha h2⟩
      · cases ha
termination_by S.length - p
theorem str_run {S : List UInt8} {L : Lm} {l : List Vl} (s : St) (p : Nat) (x : Ss) (k : Iv x) (h : Rd S L { s with hand := .str x } p l) : ∃ u q sE, p < q ∧ q ≤ S.length ∧ (u.flatMap qb).length ≤ 6 * (q - p - 1) ∧ Lib.validD (x.t ++ u) = true ∧ s.endStr (x.t ++ u) = .go sE ∧ Rd S L sE q l := by
  rcases h.inv with ⟨hh, h1, hb⟩ | ⟨s', hp2, ha, h1, hh⟩
  · have h2 : (if s.G.isEmpty = true then none else none : Option (List Vl)) = some l := h1
    split at h2 <;> cases h2
  · have ha : (match x.take (S.getD p 0) with | .more y => Out.go { s with hand := .str y } | .bad => .fl 9 p | .done => ({ s with hand := .str x } : St).endStr x.t) = .go s' := ha
    cases hx : x.take (S.getD p 0) with
    | more y =>
      rw [hx] at ha
      cases ha
      obtain ⟨k1, a, k2, k3⟩ := take_ok hx k
      obtain ⟨u, q, sE, e1, e2, e3, e4, e5, e6⟩ := str_run s (p + 1) y k1 h1
      rw [k2, List.append_assoc] at e4 e5
      refine ⟨a ++ u, q, sE, by omega, e2, ?_, e4, e5, e6⟩
      rw [List.flatMap_append, List.length_append]
      omega
    | bad => rw [hx] at ha; cases ha
    | done =>
      rw [hx] at ha
      have ha : ({ s with hand := .str x } : St).endStr x.t = .go s' := ha
      refine ⟨[], p + 1, s', by omega, hp2, by simp, by rw [List.append_nil]; exact (iv_done hx k).valid, ?_, h1⟩
      rw [List.append_nil]
      exact ha
termination_by S.length - p
theorem iv0 : Iv s0 := Vt.nil
end Jn2
end Go.Proofs.YtilfidcomeandaaDoor
