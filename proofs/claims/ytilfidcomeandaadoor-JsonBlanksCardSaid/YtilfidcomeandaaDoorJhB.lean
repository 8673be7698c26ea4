/- JSON in plain words: blanks behind and ahead of a text. -/
import Derived.Test.YtilfidcomeandaaDoorJhA
namespace Go.Proofs.YtilfidcomeandaaDoor
set_option linter.unusedVariables false
set_option linter.unusedSimpArgs false
namespace Jh
open Js
open Dr (Rs Lm has lack)
theorem blank_next {b : UInt8} (h : Js.blank b = true) (w : Nat) : nextN w b = none := by
  have hb : b = 32 ∨ b = 9 ∨ b = 10 ∨ b = 13 := by rw [Js.blank, decide_eq_true_iff] at h; exact h
  rcases hb with rfl | rfl | rfl | rfl
  all_goals
    rcases w with _|_|_|_|_|_|_|_|_|w
    all_goals first | decide | rfl
theorem getD_left {S B : List UInt8} {p : Nat} (h : p < S.length) : (S ++ B).getD p 0 = S.getD p 0 := by
  rw [List.getD, List.getD, List.getElem?_append_left h]
theorem getD_right {S B : List UInt8} {p : Nat} : (S ++ B).getD (S.length + p) 0 = B.getD p 0 := by
  rw [List.getD, List.getD, List.getElem?_append_right (by omega), Nat.add_sub_cancel_left]
/-- blanks alone change nothing -/
theorem runs_tail {S : List UInt8} {L : Lm} {s : St} {l : List Vl} (hs : s.hand = .none) (hl : s.last = some l) : ∀ (B : List UInt8), (∀ x ∈ B, Js.blank x = true) → (S ++ B).length ≤ L.bytes → ∀ j, j ≤ B.length → RunsT (S ++ B) L s (S.length + (B.length - j)) (.ok l) (S ++ B).length s.G.length := by
  intro B hB hb j
  induction j with
  | zero =>
    intro _
    rw [Nat.sub_zero, ← List.length_append]
    have h := RunsT.stop (S := S ++ B) (L := L) (s := s) (p := (S ++ B).length) (has_no1 (Nat.le_refl _))
    have h1 : fin (S ++ B) L s = .ok l := by rw [fin, if_pos hb, hl]
    have h2 : lackK (S ++ B) L = (S ++ B).length := by rw [lackK, if_neg (by omega)]
    rw [h1, h2] at h
    exact h
  | succ j ih =>
    intro hj
    have h1 := ih (by omega)
    have hp : B.length - (j + 1) < B.length := by omega
    have hx : (S ++ B).getD (S.length + (B.length - (j + 1))) 0 = B[B.length - (j + 1)] := by rw [getD_right, List.getD, List.getElem?_eq_getElem hp]; rfl
    refine pass_blank hs (has_yes (by rw [List.length_append]; omega) (by rw [List.length_append] at hb; omega)) hx (hB _ (List.getElem_mem hp)) ?_
    rw [show S.length + (B.length - (j + 1)) + 1 = S.length + (B.length - j) by omega]
    exact h1
/-- what a text comes to it comes to with blanks behind it -/
theorem runs_behind {S B : List UInt8} {L : Lm} (hB : ∀ x ∈ B, Js.blank x = true) (hb : (S ++ B).length ≤ L.bytes) {s : St} {p : Nat} {r : Rs (List Vl)} {t k : Nat} (h : RunsT S L s p r t k) : ∀ l, r = .ok l → p ≤ S.length → ∃ t' k', RunsT (S ++ B) L s p (.ok l) t' k' := by
  induction h with
  | stop hh =>
    rename_i s p
    intro l hl hp
    obtain ⟨h1, h2⟩ := (fun (h : fin S L s = .ok l) => (show S.length ≤ L.bytes ∧ s.last = some l from fin_ok h)) hl
    have hpe : p = S.length := by
      by_cases h3 : p < S.length
      · rw [has_yes h3 (by omega)] at hh; cases hh
      · omega
    subst hpe
    have h2' := h2
    rw [St.last] at h2'
    split at h2'
    · rename_i hg
      split at h2'
      · rename_i hhd
        have h3 := runs_tail (S := S) (L := L) hhd h2 B hB hb B.length (Nat.le_refl _)
        rw [Nat.sub_self, Nat.add_zero] at h3
        exact ⟨_, _, h3⟩
      · rename_i w tx hhd
        split at h2'
        · rename_i hw
          cases h2'
          have hl3 : (s.endNum tx).last = some (withText tx s.cur) := by
            have hnx : (s.endNum tx).nx = 6 := by show (if s.G.isEmpty = true then 6 else 5) = 6; rw [if_pos hg]
            rw [St.last, if_pos (show (s.endNum tx).G.isEmpty = true from hg)]
            show (if (s.endNum tx).nx = 6 then some (s.endNum tx).cur else none) = _
            rw [if_pos hnx]
            rfl
          have h3 := runs_tail (S := S) (L := L) (s := s.endNum tx) (l := withText tx s.cur) rfl hl3 B hB hb B.length (Nat.le_refl _)
          rw [Nat.sub_self, Nat.add_zero] at h3
          refine ⟨_, _, num_over (s := s) hhd hw (fun hh2 => ?_) h3⟩
          have hlt := (has_lt hh2).1
          rw [List.length_append] at hlt
          have hp0 : 0 < B.length := by omega
          have hx : (S ++ B).getD S.length 0 = B[0] := by
            have h9 := getD_right (S := S) (B := B) (p := 0)
            rw [Nat.add_zero] at h9
            rw [h9, List.getD, List.getElem?_eq_getElem hp0]; rfl
          rw [hx]
          exact blank_next (hB _ (List.getElem_mem hp0)) w
        · cases h2'
      · cases h2'
    · cases h2'
  | fl hh ha => intro l hl; cases hl
  | go hh ha h3 ih =>
    intro l hl hp
    have hlt := has_lt hh
    obtain ⟨t', k', h4⟩ := ih l hl (by omega)
    exact ⟨t', k', RunsT.go (has_yes (by rw [List.length_append]; omega) hlt.2) (by rw [getD_left hlt.1]; exact ha) h4⟩
/-- the same, so many bytes further on -/
def shS (a : Nat) (s : St) : St := { s with named := s.named.map (· + a) }
def shO (a : Nat) : Out → Out
  | .go s => .go (shS a s)
  | .fl e q => .fl e (q + a)
def shR (a : Nat) : Rs (List Vl) → Rs (List Vl)
  | .ok l => .ok l
  | .no e q b => .no e (q + a) b
section
variable (L : Lm) (a : Nat) (s : St) (b : UInt8) (p : Nat)
theorem sh_add (k k' : Out) (hk : k' = shO a k) : (shS a s).add L (p + a) k' = shO a (s.add L p k) := by
  subst hk
  rw [St.add, St.add]
  show (if L.items ≤ s.size then Out.fl 10 (p + a) else shO a k) = _
  split <;> rfl
theorem sh_value : (shS a s).value L b (p + a) = shO a (s.value L b p) := by
  have hh : ∀ o, (if L.depth ≤ (shS a s).G.length then Out.fl 10 (p + a) else Out.go ((shS a s).hold o)) = shO a (if L.depth ≤ s.G.length then .fl 10 p else .go (s.hold o)) := fun o => by
    show (if L.depth ≤ s.G.length then Out.fl 10 (p + a) else Out.go ((shS a s).hold o)) = _
    split <;> rfl
  rw [St.value, St.value]
  by_cases h1 : b = 34
  · rw [if_pos h1, if_pos h1]; exact sh_add L a s p _ _ rfl
  rw [if_neg h1, if_neg h1]
  by_cases h2 : b = 123
  · rw [if_pos h2, if_pos h2]; exact sh_add L a s p _ _ (hh _)
  rw [if_neg h2, if_neg h2]
  by_cases h3 : b = 91
  · rw [if_pos h3, if_pos h3]; exact sh_add L a s p _ _ (hh _)
  rw [if_neg h3, if_neg h3]
  by_cases h4 : b = 116
  · rw [if_pos h4, if_pos h4]; exact sh_add L a s p _ _ rfl
  rw [if_neg h4, if_neg h4]
  by_cases h5 : b = 102
  · rw [if_pos h5, if_pos h5]; exact sh_add L a s p _ _ rfl
  rw [if_neg h5, if_neg h5]
  by_cases h6 : b = 110
  · rw [if_pos h6, if_pos h6]; exact sh_add L a s p _ _ rfl
  rw [if_neg h6, if_neg h6]
  cases nextN 0 b with
  | none => rfl
  | some w => exact sh_add L a s p _ _ rfl
theorem sh_name : (shS a s).name L b (p + a) = shO a (s.name L b p) := by
  rw [St.name, St.name]
  by_cases h1 : b = 34
  · rw [if_pos h1, if_pos h1]; exact sh_add L a s p _ _ rfl
  · rw [if_neg h1, if_neg h1]; rfl
theorem sh_close : (shS a s).close = shS a s.close := by
  rw [St.close, St.close]
  show (match s.G with | [] => shS a s | f :: G => _) = _
  cases s.G with
  | nil => rfl
  | cons f G => rfl
theorem sh_pass (r : Bool) (nx : Nat) : (shS a s).pass r nx (p + a) = shO a (s.pass r nx p) := by
  rw [St.pass, St.pass]
  split <;> rfl
theorem sh_step : (shS a s).step L b (p + a) = shO a (s.step L b p) := by
  rw [St.step, St.step]
  show (match s.nx with
    | 0 => (shS a s).value L b (p + a)
    | 1 => if b = 93 then .go (shS a s).close else (shS a s).value L b (p + a)
    | 2 => (shS a s).name L b (p + a)
    | 3 => if b = 125 then .go (shS a s).close else (shS a s).name L b (p + a)
    | 4 => (shS a s).pass (decide (b = 58)) 0 (p + a)
    | 5 => (shS a s).goOn b (p + a)
    | _ => .fl 9 (p + a)) = _
  rw [sh_value, sh_name, sh_close, sh_pass]
  have hgo : (shS a s).goOn b (p + a) = shO a (s.goOn b p) := by
    rw [St.goOn, St.goOn, sh_close, sh_pass, sh_pass]
    show (if s.object = true then _ else _) = _
    split
    · split <;> rfl
    · split <;> rfl
  rw [hgo]
  generalize s.nx = n
  rcases n with _ | _ | _ | _ | _ | _ | n
  · rfl
  · show (if b = 93 then _ else _) = shO a (if b = 93 then _ else _)
    by_cases hb : b = 93
    · rw [if_pos hb, if_pos hb]; rfl
    · rw [if_neg hb, if_neg hb]
  · rfl
  · show (if b = 125 then _ else _) = shO a (if b = 125 then _ else _)
    by_cases hb : b = 125
    · rw [if_pos hb, if_pos hb]; rfl
    · rw [if_neg hb, if_neg hb]
  · rfl
  · rfl
  · rfl
theorem sh_between : (shS a s).between L b (p + a) = shO a (s.between L b p) := by
  rw [St.between, St.between]
  split
  · rfl
  · exact sh_step L a s b p
theorem sh_endStr (t : List UInt8) : (shS a s).endStr t = shO a (s.endStr t) := by
  rw [St.endStr, St.endStr]
  cases hn : s.named with
  | none =>
    rw [show (shS a s).named = none by show s.named.map _ = _; rw [hn]; rfl]
    show Out.go _ = Out.go _
    rfl
  | some x =>
    rw [show (shS a s).named = some (x + a) by show s.named.map _ = _; rw [hn]; rfl]
    show (if t ∈ s.names then Out.fl 9 (x + a) else _) = _
    dsimp only
    split
    · rfl
    · rfl
theorem sh_act : (shS a s).act L b (p + a) = shO a (s.act L b p) := by
  rw [St.act, St.act]
  show (match s.hand with
    | .none => (shS a s).between L b (p + a)
    | .word [] => .fl 9 (p + a)
    | .word (x :: r) => if b = x then (if r = [] then .go (shS a s).ended else .go { shS a s with hand := .word r }) else .fl 9 (p + a)
    | .num w t =>
      match nextN w b with
      | some w' => .go { shS a s with hand := .num w' (t ++ [b]) }
      | none => if wholeN w = true then ((shS a s).endNum t).between L b (p + a) else .fl 9 (p + a)
    | .str x =>
      match x.take b with
      | .more y => .go { shS a s with hand := .str y }
      | .bad => .fl 9 (p + a)
      | .done => (shS a s).endStr x.t) = _
  generalize s.hand = hd
  cases hd with
  | none => exact sh_between L a s b p
  | word r =>
    cases r with
    | nil => rfl
    | cons x r =>
      dsimp only
      split
      · split <;> rfl
      · rfl
  | num w t =>
    dsimp only
    cases nextN w b with
    | some w' => rfl
    | none =>
      dsimp only
      by_cases hw : wholeN w = true
      · rw [if_pos hw, if_pos hw]
        exact sh_between L a (s.endNum t) b p
      · rw [if_neg hw, if_neg hw]; rfl
  | str x =>
    dsimp only
    cases x.take b with
    | more y => rfl
    | bad => rfl
    | done => exact sh_endStr a s x.t
theorem sh_last : (shS a s).last = s.last := rfl
end
theorem runs_shift {A S : List UInt8} {L : Lm} (hb : (A ++ S).length ≤ L.bytes) {s : St} {p : Nat} {r : Rs (List Vl)} {t k : Nat} (h : RunsT S L s p r t k) : ∃ t' k', RunsT (A ++ S) L (shS A.length s) (p + A.length) (shR A.length r) t' k' := by
  have hbs : S.length ≤ L.bytes := by rw [List.length_append] at hb; omega
  have hg : ∀ q, (A ++ S).getD (q + A.length) 0 = S.getD q 0 := fun q => by rw [Nat.add_comm]; exact getD_right
  have hy : ∀ q, has S L q = true → has (A ++ S) L (q + A.length) = true := fun q hh => by
    have := has_lt hh
    exact has_yes (by rw [List.length_append]; omega) (by rw [List.length_append] at hb; omega)
  induction h with
  | stop hh =>
    rename_i s p
    have hp : ¬ p < S.length := fun h => by rw [has_yes h (by omega)] at hh; cases hh
    have h1 := RunsT.stop (S := A ++ S) (L := L) (s := shS A.length s) (p := p + A.length) (has_no1 (by rw [List.length_append]; omega))
    have h2 : fin (A ++ S) L (shS A.length s) = shR A.length (fin S L s) := by
      rw [fin, fin, if_pos hb, if_pos hbs, sh_last]
      have hl : (lack (A ++ S) L : Rs (List Vl)) = shR A.length (lack S L) := by
        rw [lack, lack, Dr.lackE, Dr.lackE, Dr.lackP, Dr.lackP, if_neg (by omega), if_neg (by omega), if_neg (by omega), if_neg (by omega), decide_eq_true hb, decide_eq_true hbs]
        show _ = Rs.no _ (S.length + A.length) _
        rw [List.length_append, Nat.add_comm]
      cases s.last with
      | none => exact hl
      | some l => rfl
    rw [h2] at h1
    exact ⟨_, _, h1⟩
  | fl hh ha =>
    rename_i s p e q
    exact ⟨_, _, RunsT.fl (hy _ hh) (by rw [hg, sh_act, ha]; rfl)⟩
  | go hh ha h3 ih =>
    rename_i s p s' r t k
    obtain ⟨t', k', h4⟩ := ih
    exact ⟨t', k', RunsT.go (hy _ hh) (by rw [hg, sh_act, ha]; rfl) (by rw [show p + A.length + 1 = p + 1 + A.length by omega]; exact h4)⟩
/-- blanks ahead change nothing but places -/
theorem runs_ahead {A S : List UInt8} {L : Lm} (hA : ∀ x ∈ A, Js.blank x = true) (hb : (A ++ S).length ≤ L.bytes) {r : Rs (List Vl)} {t k : Nat} (h : RunsT S L st0 0 r t k) : ∃ t' k', RunsT (A ++ S) L st0 0 (shR A.length r) t' k' := by
  obtain ⟨t', k', h1⟩ := runs_shift hb h
  rw [Nat.zero_add] at h1
  refine ⟨t', k', ?_⟩
  have h2 : ∀ j, j ≤ A.length → RunsT (A ++ S) L st0 (A.length - j) (shR A.length r) t' k' := by
    intro j
    induction j with
    | zero => intro _; exact h1
    | succ j ih =>
      intro hj
      have h3 := ih (by omega)
      have hp : A.length - (j + 1) < A.length := by omega
      have hx : (A ++ S).getD (A.length - (j + 1)) 0 = A[A.length - (j + 1)] := by rw [getD_left hp, List.getD, List.getElem?_eq_getElem hp]; rfl
      refine pass_blank (s := st0) rfl (has_yes (by rw [List.length_append]; omega) (by rw [List.length_append] at hb; omega)) hx (hA _ (List.getElem_mem hp)) ?_
      rw [show A.length - (j + 1) + 1 = A.length - j by omega]
      exact h3
  have h4 := h2 A.length (Nat.le_refl _)
  rw [Nat.sub_self] at h4
  exact h4
end Jh
end Go.Proofs.YtilfidcomeandaaDoor
