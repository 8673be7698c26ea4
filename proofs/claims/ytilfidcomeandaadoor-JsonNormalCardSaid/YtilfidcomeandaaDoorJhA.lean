/- JSON in plain words: other limits; blanks ahead and behind. -/
import Derived.Test.YtilfidcomeandaaDoorJsQ
namespace Go.Proofs.YtilfidcomeandaaDoor
set_option linter.unusedVariables false
set_option linter.unusedSimpArgs false
namespace Jh
open Js
open Dr (Rs Lm has lack)
theorem flat_len (G : List Fr) (cur : List Vl) : (flat G cur).length = (flat G []).length + cur.length := by
  have h := flat_app G [] cur
  rw [List.nil_append] at h
  rw [h, List.length_append]
theorem withText_len (t : List UInt8) (l : List Vl) : (withText t l).length = l.length := by rw [withText, List.length_modify]
theorem endNum_size (s : St) (t : List UInt8) : (s.endNum t).size = s.size := by
  show (flat s.G (withText t s.cur)).length = (flat s.G s.cur).length
  rw [flat_len, flat_len s.G s.cur, withText_len]
theorem flat_addName (x : List UInt8) : ∀ (G : List Fr) (cur : List Vl), (flat (addName x G) cur).length = (flat G cur).length
  | [], _ => rfl
  | f :: G, cur => by
    show (flat G f.b ++ hold { f with o := f.o.map (· ++ [x]) } :: cur).length = (flat G f.b ++ hold f :: cur).length
    rw [List.length_append, List.length_append]; rfl
theorem close_size' (s : St) : s.close.size = s.size := by
  cases h : s.G with
  | nil => rw [St.close, h]
  | cons f G => exact close_size s f G h
section
variable {L L' : Lm} {s s' : St} {b : UInt8} {p : Nat}
theorem add_re {x : St} (hx : x.size = s.size + 1) (h : s.add L p (.go x) = .go s') : s'.size = s.size + 1 ∧ (s'.size ≤ L'.items → s.add L' p (.go x) = .go s') ∧ (L'.items ≤ s.size → s.add L' p (.go x) = .fl 10 p) := by
  rw [St.add] at h
  split at h
  · cases h
  · cases h
    exact ⟨hx, fun h2 => by rw [St.add, if_neg (by omega)], fun h2 => by rw [St.add, if_pos h2]⟩
theorem value_re (hd : L.depth ≤ L'.depth) (h : s.value L b p = .go s') : s'.size = s.size + 1 ∧ (s'.size ≤ L'.items → s.value L' b p = .go s') ∧ (L'.items ≤ s.size → s.value L' b p = .fl 10 p) := by
  rw [St.value] at h
  rw [St.value]
  have hold : ∀ (o : Option (List (List UInt8))), s.add L p (if L.depth ≤ s.G.length then .fl 10 p else .go (s.hold o)) = .go s' → s'.size = s.size + 1 ∧ (s'.size ≤ L'.items → s.add L' p (if L'.depth ≤ s.G.length then .fl 10 p else .go (s.hold o)) = .go s') ∧ (L'.items ≤ s.size → s.add L' p (if L'.depth ≤ s.G.length then .fl 10 p else .go (s.hold o)) = .fl 10 p) := by
    intro o h1
    by_cases h2 : L.depth ≤ s.G.length
    · rw [if_pos h2, St.add] at h1
      split at h1 <;> cases h1
    · rw [if_neg h2] at h1
      obtain ⟨h3, h4, h5⟩ := add_re (L' := L') (hold_size s o) h1
      refine ⟨h3, fun h6 => ?_, fun h6 => by rw [St.add, if_pos h6]⟩
      have h7 := h4 h6
      rw [St.add] at h7 ⊢
      split at h7
      · cases h7
      · rename_i h8
        rw [if_neg h8]
        by_cases h9 : L'.depth ≤ s.G.length
        · omega
        · rw [if_neg h9]; exact h7
  by_cases h1 : b = 34
  · rw [if_pos h1] at h ⊢
    exact add_re (begin_size s _ _) h
  rw [if_neg h1] at h ⊢
  by_cases h2 : b = 123
  · rw [if_pos h2] at h ⊢
    exact hold _ h
  rw [if_neg h2] at h ⊢
  by_cases h3 : b = 91
  · rw [if_pos h3] at h ⊢
    exact hold _ h
  rw [if_neg h3] at h ⊢
  by_cases h4 : b = 116
  · rw [if_pos h4] at h ⊢
    exact add_re (begin_size s _ _) h
  rw [if_neg h4] at h ⊢
  by_cases h5 : b = 102
  · rw [if_pos h5] at h ⊢
    exact add_re (begin_size s _ _) h
  rw [if_neg h5] at h ⊢
  by_cases h6 : b = 110
  · rw [if_pos h6] at h ⊢
    exact add_re (begin_size s _ _) h
  rw [if_neg h6] at h ⊢
  cases hn : nextN 0 b with
  | none => rw [hn] at h; cases h
  | some w =>
    rw [hn] at h
    exact add_re (begin_size s _ _) h
theorem name_re (h : s.name L b p = .go s') : s'.size = s.size + 1 ∧ (s'.size ≤ L'.items → s.name L' b p = .go s') ∧ (L'.items ≤ s.size → s.name L' b p = .fl 10 p) := by
  rw [St.name] at h
  rw [St.name]
  by_cases h1 : b = 34
  · rw [if_pos h1] at h ⊢
    exact add_re (x := { s.begin 4 (.str s0) with named := some p }) (begin_size s 4 (.str s0)) h
  · rw [if_neg h1] at h; cases h
theorem pass_re {r : Bool} {nx : Nat} (h : s.pass r nx p = .go s') : s'.size = s.size := by
  rw [St.pass] at h
  split at h
  · cases h; rfl
  · cases h
/-- a step that goes on: within other limits -/
def Re (L' : Lm) (s s' : St) (p : Nat) (o' : Out) : Prop := (s.size ≤ s'.size ∧ s'.size ≤ s.size + 1) ∧ (s'.size ≤ L'.items → o' = .go s') ∧ (s'.size = s.size + 1 → L'.items ≤ s.size → o' = .fl 10 p)
theorem Re.one {o' : Out} (h : s'.size = s.size + 1 ∧ (s'.size ≤ L'.items → o' = .go s') ∧ (L'.items ≤ s.size → o' = .fl 10 p)) : Re L' s s' p o' := ⟨by omega, h.2.1, fun _ => h.2.2⟩
theorem Re.same {o' : Out} (h : s'.size = s.size) (ho : o' = .go s') : Re L' s s' p o' := ⟨by omega, fun _ => ho, fun h1 => by omega⟩
theorem step_re (hd : L.depth ≤ L'.depth) (h : s.step L b p = .go s') : Re L' s s' p (s.step L' b p) := by
  rw [St.step] at h
  rw [St.step]
  split at h
  · rename_i h0; exact Re.one (value_re hd h)
  · rename_i h0
    by_cases h1 : b = 93
    · rw [if_pos h1] at h ⊢
      cases h
      exact Re.same (close_size' s) rfl
    · rw [if_neg h1] at h ⊢
      exact Re.one (value_re hd h)
  · exact Re.one (name_re h)
  · by_cases h1 : b = 125
    · rw [if_pos h1] at h ⊢
      cases h
      exact Re.same (close_size' s) rfl
    · rw [if_neg h1] at h ⊢
      exact Re.one (name_re h)
  · exact Re.same (pass_re h) h
  · have hs : s'.size = s.size := by
      have h1 := h
      rw [St.goOn] at h1
      split at h1
      · split at h1
        · cases h1; exact close_size' s
        · exact pass_re h1
      · split at h1
        · cases h1; exact close_size' s
        · exact pass_re h1
    exact Re.same hs h
  · cases h
theorem between_re (hd : L.depth ≤ L'.depth) (h : s.between L b p = .go s') : Re L' s s' p (s.between L' b p) := by
  rw [St.between] at h
  rw [St.between]
  by_cases h1 : Js.blank b = true
  · rw [if_pos h1] at h ⊢
    cases h
    exact Re.same rfl rfl
  · rw [if_neg h1] at h ⊢
    exact step_re hd h
theorem act_re (hd : L.depth ≤ L'.depth) (h : s.act L b p = .go s') : Re L' s s' p (s.act L' b p) := by
  rw [St.act] at h
  rw [St.act]
  split at h
  · exact between_re hd h
  · cases h
  · have hs : s'.size = s.size := by
      have h1 := h
      split at h1
      · split at h1
        · cases h1; rfl
        · cases h1; rfl
      · cases h1
    exact Re.same hs h
  · rename_i w t hh
    cases hn : nextN w b with
    | some w' =>
      rw [hn] at h
      cases h
      exact Re.same rfl rfl
    | none =>
      rw [hn] at h
      dsimp only at h ⊢
      by_cases hw : wholeN w = true
      · rw [if_pos hw] at h ⊢
        have h1 := between_re hd h
        rw [Re, endNum_size] at h1
        exact h1
      · rw [if_neg hw] at h; cases h
  · rename_i x hh
    cases hx : x.take b with
    | more y => rw [hx] at h; cases h; exact Re.same rfl rfl
    | bad => rw [hx] at h; cases h
    | done =>
      rw [hx] at h
      dsimp only at h ⊢
      refine Re.same ?_ h
      rw [St.endStr] at h
      split at h
      · cases h
        show (flat s.G (withText x.t s.cur)).length = (flat s.G s.cur).length
        rw [flat_len, flat_len s.G s.cur, withText_len]
      · split at h
        · cases h
        · cases h
          show (flat (addName x.t s.G) (withText x.t s.cur)).length = (flat s.G s.cur).length
          rw [flat_addName, flat_len, flat_len s.G s.cur, withText_len]
end
theorem last_size {s : St} {l : List Vl} (h : s.last = some l) : l.length = s.size := by
  rw [St.last] at h
  split at h
  · rename_i hg
    have hG : s.G = [] := List.isEmpty_iff.1 hg
    have hs : s.size = s.cur.length := by rw [St.size, hG]; rfl
    split at h
    · split at h
      · cases h; exact hs.symm
      · cases h
    · split at h
      · cases h; rw [withText_len]; exact hs.symm
      · cases h
    · cases h
  · cases h
theorem fin_ok {S : List UInt8} {L : Lm} {s : St} {l : List Vl} (h : fin S L s = .ok l) : S.length ≤ L.bytes ∧ s.last = some l := by
  rw [fin] at h
  split at h
  · rename_i h1
    split at h
    · rename_i l2 h2; cases h; exact ⟨h1, h2⟩
    · cases h
  · cases h
theorem has_swap {S : List UInt8} {L L' : Lm} {p : Nat} (h : S.length ≤ L'.bytes) (hh : has S L p = true) : has S L' p = true := by
  have := has_lt hh
  exact has_yes this.1 (by omega)
/-- what is read is read alike within any limits that hold as much -/
theorem runs_re {S : List UInt8} {L L' : Lm} (hd : L.depth ≤ L'.depth) (hb : S.length ≤ L'.bytes) {s : St} {p : Nat} {r : Rs (List Vl)} {t k : Nat} (h : RunsT S L s p r t k) : ∀ l, r = .ok l → s.size ≤ l.length ∧ S.length ≤ L.bytes ∧ (l.length ≤ L'.items → RunsT S L' s p (.ok l) t k) := by
  induction h with
  | stop hh =>
    rename_i s p
    intro l hl
    obtain ⟨h1, h2⟩ := fin_ok hl
    refine ⟨by rw [last_size h2]; exact Nat.le_refl _, h1, fun _ => ?_⟩
    have hno : ¬ p < S.length := fun h => by
      rw [has_yes h (by omega)] at hh; cases hh
    have h3 := RunsT.stop (S := S) (L := L') (s := s) (p := p) (has_no1 (by omega))
    have h4 : fin S L' s = .ok l := by rw [fin, if_pos hb, h2]
    have h5 : lackK S L' = lackK S L := by rw [lackK, lackK, if_neg (by omega), if_neg (by omega)]
    rw [h4, h5] at h3
    exact h3
  | fl hh ha => intro l hl; cases hl
  | go hh ha h3 ih =>
    intro l hl
    obtain ⟨h4, h5, h6⟩ := ih l hl
    obtain ⟨h7, h8, -⟩ := act_re (L' := L') hd ha
    exact ⟨by omega, h5, fun h9 => RunsT.go (has_swap hb hh) (h8 (by omega)) (h6 h9)⟩
/-- one value fewer is one too few -/
theorem runs_few {S : List UInt8} {L L' : Lm} (hd : L.depth ≤ L'.depth) (hb : S.length ≤ L'.bytes) {s : St} {p : Nat} {r : Rs (List Vl)} {t k : Nat} (h : RunsT S L s p r t k) : ∀ l, r = .ok l → s.size ≤ L'.items → L'.items < l.length → ∃ q t' k', RunsT S L' s p (.no 10 q false) t' k' := by
  induction h with
  | stop hh =>
    intro l hl h1 h2
    have := last_size (fin_ok hl).2
    omega
  | fl hh ha => intro l hl; cases hl
  | go hh ha h3 ih =>
    rename_i s p s' r t k
    intro l hl h1 h2
    obtain ⟨h7, h8, h9⟩ := act_re (L' := L') hd ha
    by_cases h4 : s'.size ≤ L'.items
    · obtain ⟨q, t', k', h5⟩ := ih l hl h4 h2
      exact ⟨q, t', k', RunsT.go (has_swap hb hh) (h8 h4) h5⟩
    · exact ⟨p, _, _, RunsT.fl (has_swap hb hh) (h9 (by omega) (by omega))⟩
theorem value_pos {L : Lm} {s s' : St} {b : UInt8} {p : Nat} (h : s.value L b p = .go s') : 0 < s'.size := by
  have h1 := (value_re (L' := L) (Nat.le_refl _) h).1
  omega
theorem name_pos {L : Lm} {s s' : St} {b : UInt8} {p : Nat} (h : s.name L b p = .go s') : 0 < s'.size := by
  have h1 := (name_re (L' := L) h).1
  omega
/-- nothing stands in the list only where nothing was at hand -/
def Pos (s : St) : Prop := (s.hand = .none ∧ s.nx ≠ 6) ∨ 0 < s.size
theorem close_pos (s : St) (h : Pos s) (hh : s.hand = .none) : Pos s.close := by
  cases hG : s.G with
  | nil => rw [St.close, hG]; exact h
  | cons f G =>
    refine .inr ?_
    rw [close_size', St.size, hG, flat_cons, List.length_append, List.length_cons]
    omega
theorem pass_pos {s s' : St} {r : Bool} {nx p : Nat} (hn : nx ≠ 6) (h : s.pass r nx p = .go s') (hh : s.hand = .none) : Pos s' := by
  rw [St.pass] at h
  split at h
  · cases h; exact .inl ⟨hh, hn⟩
  · cases h
theorem act_pos {L : Lm} {s s' : St} {b : UInt8} {p : Nat} (hp : Pos s) (h : s.act L b p = .go s') : Pos s' := by
  rcases hp with ⟨hh, hn⟩ | hp
  · rw [St.act, hh] at h
    dsimp only at h
    rw [St.between] at h
    split at h
    · cases h; exact .inl ⟨hh, hn⟩
    · rw [St.step] at h
      split at h
      · exact .inr (value_pos h)
      · split at h
        · cases h; exact close_pos s (.inl ⟨hh, hn⟩) hh
        · exact .inr (value_pos h)
      · exact .inr (name_pos h)
      · split at h
        · cases h; exact close_pos s (.inl ⟨hh, hn⟩) hh
        · exact .inr (name_pos h)
      · exact pass_pos (by decide) h hh
      · rw [St.goOn] at h
        split at h
        · split at h
          · cases h; exact close_pos s (.inl ⟨hh, hn⟩) hh
          · exact pass_pos (by decide) h hh
        · split at h
          · cases h; exact close_pos s (.inl ⟨hh, hn⟩) hh
          · exact pass_pos (by decide) h hh
      · cases h
  · have h1 := (act_re (L' := L) (Nat.le_refl _) h).1.1
    exact .inr (by omega)
theorem runs_pos {S : List UInt8} {L : Lm} {s : St} {p : Nat} {r : Rs (List Vl)} {t k : Nat} (h : RunsT S L s p r t k) : ∀ l, r = .ok l → Pos s → 0 < l.length := by
  induction h with
  | stop hh =>
    rename_i s p
    intro l hl hp
    have h2 := (fin_ok hl).2
    rcases hp with ⟨h3, h4⟩ | hp
    · rw [St.last, h3] at h2
      split at h2
      · first
          | cases h2
          | (dsimp only at h2; rw [if_neg h4] at h2; cases h2)
      · cases h2
    · rw [last_size h2]; exact hp
  | fl hh ha => intro l hl; cases hl
  | go hh ha h3 ih => intro l hl hp; exact ih l hl (act_pos hp ha)
theorem runs_bytes {S : List UInt8} {L : Lm} {s : St} {p : Nat} {r : Rs (List Vl)} {t k : Nat} (h : RunsT S L s p r t k) : ∀ l, r = .ok l → S.length ≤ L.bytes := by
  induction h with
  | stop hh => intro l hl; exact (fin_ok hl).1
  | fl hh ha => intro l hl; cases hl
  | go hh ha h3 ih => exact ih
theorem runs_some {S : List UInt8} {L : Lm} {l : List Vl} {t k : Nat} (h : RunsT S L st0 0 (.ok l) t k) : 0 < l.length ∧ 0 < S.length ∧ S.length ≤ L.bytes := by
  refine ⟨runs_pos h l rfl (.inl ⟨rfl, by decide⟩), ?_, runs_bytes h l rfl⟩
  rcases Nat.eq_zero_or_pos S.length with h1 | h1
  · have h2 := RunsT.stop (S := S) (L := L) (s := st0) (p := 0) (has_no1 (by omega))
    obtain ⟨h3, -, -⟩ := RunsT.same _ _ h h2
    have h4 := (fin_ok h3.symm).2
    cases h4
  · exact h1
end Jh
end Go.Proofs.YtilfidcomeandaaDoor
