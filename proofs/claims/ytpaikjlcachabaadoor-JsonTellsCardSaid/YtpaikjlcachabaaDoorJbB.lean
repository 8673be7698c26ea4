/- What is told is read: the reader's machine over what a value is told by. -/
import Derived.Test.YtpaikjlcachabaaDoorJbA
namespace Go.Proofs.YtpaikjlcachabaaDoor
set_option linter.unusedVariables false
set_option linter.unusedSimpArgs false
namespace Jb
open Js Je
open Dr (Rs Lm has lack)
/-- the machine goes on from one state to another -/
def To (S : List UInt8) (L : Lm) (s : St) (p : Nat) (s' : St) (p' : Nat) : Prop := ∀ r, (∃ t k, RunsT S L s' p' r t k) → ∃ t k, RunsT S L s p r t k
theorem To.refl (S : List UInt8) (L : Lm) (s : St) (p : Nat) : To S L s p s p := fun r h => h
theorem To.trans {S : List UInt8} {L : Lm} {s s1 s2 : St} {p p1 p2 : Nat} (h : To S L s p s1 p1) (k : To S L s1 p1 s2 p2) : To S L s p s2 p2 := fun r hr => h r (k r hr)
def acts (L : Lm) : St → Nat → List UInt8 → Option St
  | s, _, [] => some s
  | s, p, b :: l => match s.act L b p with | .go s' => acts L s' (p + 1) l | .fl _ _ => none
theorem acts_one {L : Lm} {s s' : St} {p : Nat} {b : UInt8} (h : s.act L b p = .go s') (l : List UInt8) : acts L s p (b :: l) = acts L s' (p + 1) l := by rw [acts, h]
theorem acts_app (L : Lm) : ∀ (a b : List UInt8) (s s' : St) (p : Nat), acts L s p a = some s' → acts L s p (a ++ b) = acts L s' (p + a.length) b
  | [], b, s, s', p, h => by cases h; rfl
  | x :: a, b, s, s', p, h => by
    rw [acts] at h
    rw [List.cons_append, acts]
    cases hx : s.act L x p with
    | go y =>
      rw [hx] at h
      have := acts_app L a b y s' (p + 1) h
      rw [List.length_cons, show p + (a.length + 1) = p + 1 + a.length by omega]
      exact this
    | fl e q => rw [hx] at h; cases h
theorem to_acts {L : Lm} : ∀ (bs A B : List UInt8) (s s' : St), (A ++ bs ++ B).length ≤ L.bytes → acts L s A.length bs = some s' → To (A ++ bs ++ B) L s A.length s' (A.length + bs.length)
  | [], A, B, s, s', hb, h => by cases h; exact To.refl _ _ _ _
  | x :: bs, A, B, s, s', hb, h => by
    rw [acts] at h
    cases hx : s.act L x A.length with
    | fl e q => rw [hx] at h; cases h
    | go y =>
      rw [hx] at h
      have e1 : A ++ x :: bs ++ B = A ++ [x] ++ bs ++ B := by simp
      have e2 : A.length + (x :: bs).length = (A ++ [x]).length + bs.length := by simp only [List.length_append, List.length_cons, List.length_nil]; omega
      have h1 := to_acts bs (A ++ [x]) B y s' (by rw [← e1]; exact hb) (by rw [List.length_append]; exact h)
      intro r hr
      rw [e2, e1] at hr
      obtain ⟨t, k, h2⟩ := h1 r hr
      rw [← e1, show (A ++ [x]).length = A.length + 1 by simp] at h2
      refine ⟨t, k, RunsT.go (has_yes (by simp only [List.length_append, List.length_cons]; omega) (by simp only [List.length_append, List.length_cons] at hb; omega)) ?_ h2⟩
      rw [show (A ++ x :: bs ++ B).getD A.length 0 = x by rw [List.append_assoc, List.getD, List.getElem?_append_right (Nat.le_refl _), Nat.sub_self]; rfl]
      exact hx
/-- a value is whole -/
def res (s : St) (kind : Int) (t : List UInt8) : St := ({ s with cur := s.cur ++ [⟨kind, 0, t⟩], G := bump s.G, hand := .none } : St).ended
theorem with_text (t : List UInt8) (l : List Vl) (k : Int) : withText t (l ++ [⟨k, 0, []⟩]) = l ++ [⟨k, 0, t⟩] := by
  rw [withText, List.length_append, List.length_singleton, Nat.add_sub_cancel]
  induction l with
  | nil => rfl
  | cons x l ih => rw [List.cons_append, List.length_cons, List.modify_succ_cons, ih]; rfl
/-- a value may come -/
structure Vq (L : Lm) (s : St) : Prop where
  nx : s.nx = 0 ∨ s.nx = 1
  hand : s.hand = .none
  named : s.named = none
  size : s.size < L.items
theorem act_value {L : Lm} {s : St} (h : Vq L s) (b : UInt8) (p : Nat) (hb : Js.blank b = false) (h93 : b ≠ 93) : s.act L b p = s.value L b p := by
  rw [St.act, h.hand]
  show s.between L b p = _
  rw [St.between, hb, if_neg (by decide), St.step]
  rcases h.nx with h1 | h1 <;> rw [h1]
  · rfl
  · show (if b = 93 then _ else _) = _
    rw [if_neg h93]
theorem add_ok {L : Lm} {s : St} (h : s.size < L.items) (p : Nat) (k : Out) : s.add L p k = k := by rw [St.add, if_neg (by omega)]
theorem acts_word {L : Lm} {s : St} (h : Vq L s) (p : Nat) (b : UInt8) (r : List UInt8) (k : Int) (hb : (b = 116 ∧ r = [114, 117, 101] ∧ k = 2) ∨ (b = 102 ∧ r = [97, 108, 115, 101] ∧ k = 1) ∨ (b = 110 ∧ r = [117, 108, 108] ∧ k = 0)) : acts L s p (b :: r) = some (res s k []) := by
  have h1 : s.act L b p = .go (s.begin k (.word r)) := by
    rw [act_value h b p (by rcases hb with ⟨rfl, -⟩ | ⟨rfl, -⟩ | ⟨rfl, -⟩ <;> decide) (by rcases hb with ⟨rfl, -⟩ | ⟨rfl, -⟩ | ⟨rfl, -⟩ <;> decide)]
    rcases hb with ⟨rfl, rfl, rfl⟩ | ⟨rfl, rfl, rfl⟩ | ⟨rfl, rfl, rfl⟩ <;> exact add_ok h.size p _
  rw [acts_one h1]
  rcases hb with ⟨rfl, rfl, rfl⟩ | ⟨rfl, rfl, rfl⟩ | ⟨rfl, rfl, rfl⟩ <;> rfl
def foldN (l : List UInt8) (w : Option Nat) : Option Nat := l.foldl (fun (w : Option Nat) b => match w with | some x => nextN x b | none => none) w
theorem foldN_none : ∀ l, foldN l none = none
  | [] => rfl
  | b :: l => foldN_none l
theorem acts_digits (L : Lm) : ∀ (l x : List UInt8) (w w' : Nat) (s : St) (p : Nat), foldN l (some w) = some w' → acts L { s with hand := .num w x } p l = some { s with hand := .num w' (x ++ l) }
  | [], x, w, w', s, p, h => by cases h; rw [List.append_nil]; rfl
  | b :: l, x, w, w', s, p, h => by
    have h' : foldN l (nextN w b) = some w' := h
    cases hn : nextN w b with
    | none => rw [hn, foldN_none] at h'; cases h'
    | some w1 =>
      rw [hn] at h'
      have h1 : ({ s with hand := .num w x } : St).act L b p = .go { s with hand := .num w1 (x ++ [b]) } := by
        show (match nextN w b with | some w' => Out.go { s with hand := .num w' (x ++ [b]) } | none => _) = _
        rw [hn]
      rw [acts_one h1, acts_digits L l (x ++ [b]) w1 w' s (p + 1) h']
      simp
theorem next0 {b : UInt8} {w : Nat} (h : nextN 0 b = some w) : Js.blank b = false ∧ b ≠ 93 ∧ b ≠ 34 ∧ b ≠ 123 ∧ b ≠ 91 ∧ b ≠ 116 ∧ b ≠ 102 ∧ b ≠ 110 := by
  have h1 : b.toNat = 45 ∨ (48 ≤ b.toNat ∧ b.toNat ≤ 57) := by
    have h2 : (if b = 45 then some 1 else if b = 48 then some 2 else if isDigit b = true then some 3 else none) = some w := h
    split at h2
    · rename_i h3; rw [h3]; exact .inl rfl
    · split at h2
      · rename_i h3; rw [h3]; exact .inr (by decide)
      · split at h2
        · rename_i h3; rw [isDigit, decide_eq_true_iff] at h3; exact .inr h3
        · cases h2
  have ne : ∀ c : UInt8, ¬ (c.toNat = 45 ∨ (48 ≤ c.toNat ∧ c.toNat ≤ 57)) → b ≠ c := fun c hc e => hc (e ▸ h1)
  refine ⟨?_, ne _ (by decide), ne _ (by decide), ne _ (by decide), ne _ (by decide), ne _ (by decide), ne _ (by decide), ne _ (by decide)⟩
  rw [Js.blank, decide_eq_false_iff_not]
  rintro (e | e | e | e) <;> exact ne _ (by decide) e
/-- a number is at hand, whole -/
theorem acts_num {L : Lm} {s : St} (h : Vq L s) (p : Nat) (l : List UInt8) (hl : numOk l = true) : ∃ s1 w, acts L s p l = some s1 ∧ s1.hand = .num w l ∧ wholeN w = true ∧ s1.endNum l = res s 3 l := by
  have h1 : (match foldN l (some 0) with | some w => wholeN w | none => false) = true := hl
  cases hf : foldN l (some 0) with
  | none => rw [hf] at h1; cases h1
  | some w =>
    rw [hf] at h1
    match l, hf with
    | [], hf => cases hf; exact absurd h1 (by decide)
    | b :: l, hf =>
      have hf' : foldN l (nextN 0 b) = some w := hf
      cases hn : nextN 0 b with
      | none => rw [hn, foldN_none] at hf'; cases hf'
      | some w1 =>
        rw [hn] at hf'
        obtain ⟨n0, n1, n2, n3, n4, n5, n6, n7⟩ := next0 hn
        have h2 : s.act L b p = .go (s.begin 3 (.num w1 [b])) := by
          rw [act_value h b p n0 n1, St.value, if_neg n2, if_neg n3, if_neg n4, if_neg n5, if_neg n6, if_neg n7, hn]
          exact add_ok h.size p _
        refine ⟨{ (s.begin 3 .none) with hand := .num w (b :: l) }, w, ?_, rfl, h1, ?_⟩
        · rw [acts_one h2]
          exact acts_digits L l [b] w1 w (s.begin 3 .none) (p + 1) hf'
        · show ({ s with hand := .num w (b :: l), cur := withText (b :: l) (s.cur ++ [(⟨3, 0, []⟩ : Vl)]), G := bump s.G } : St).ended = _
          rw [with_text]; rfl
theorem acts_str (L : Lm) : ∀ (l : List UInt8) (x y : Ss) (s : St) (p : Nat), ssR x l = some y → acts L { s with hand := .str x } p l = some { s with hand := .str y }
  | [], x, y, s, p, h => by cases h; rfl
  | b :: l, x, y, s, p, h => by
    rw [ssR] at h
    cases hx : x.take b with
    | more z =>
      rw [hx] at h
      have h1 : ({ s with hand := .str x } : St).act L b p = .go { s with hand := .str z } := by
        show (match x.take b with | .more y => Out.go { s with hand := .str y } | .bad => _ | .done => _) = _
        rw [hx]
      rw [acts_one h1]
      exact acts_str L l z y s (p + 1) h
    | done => rw [hx] at h; cases h
    | bad => rw [hx] at h; cases h
/-- a string between its quotes, as it is told -/
def quoted (t : List UInt8) : List UInt8 := 34 :: t.flatMap qb ++ [34]
theorem acts_quoted {L : Lm} {s s1 s2 : St} (p : Nat) (t : List UInt8) (hv : Lib.validD t = true) (h1 : s.act L 34 p = .go { s1 with hand := .str s0 }) (h2 : ({ s1 with hand := .str ⟨.plain, t⟩ } : St).endStr t = .go s2) : acts L s p (quoted t) = some s2 := by
  rw [quoted, List.cons_append, acts_one h1]
  have h3 := acts_str L (t.flatMap qb) s0 ⟨.plain, t⟩ s1 (p + 1) (by rw [s0, told_str t.length t (Nat.le_refl _) hv []]; rfl)
  rw [acts_app L _ [34] _ _ _ h3]
  have h4 : ({ s1 with hand := .str ⟨.plain, t⟩ } : St).act L 34 (p + 1 + (t.flatMap qb).length) = .go s2 := h2
  rw [acts_one h4]; rfl
theorem acts_string {L : Lm} {s : St} (h : Vq L s) (p : Nat) (t : List UInt8) (hv : Lib.validD t = true) : acts L s p (quoted t) = some (res s 4 t) := by
  refine acts_quoted (s1 := s.begin 4 .none) p t hv ?_ ?_
  · rw [act_value h 34 p (by decide) (by decide), St.value, if_pos rfl]
    exact add_ok h.size p _
  · show (match s.named with | none => Out.go ({ s with hand := .str ⟨.plain, t⟩, cur := withText t (s.cur ++ [(⟨4, 0, []⟩ : Vl)]), G := bump s.G } : St).ended | some a => _) = _
    rw [with_text, res, St.ended, St.ended]
    simp only [h.named]
/-- a name may come -/
structure Nq (L : Lm) (s : St) : Prop where
  nx : s.nx = 2 ∨ s.nx = 3
  hand : s.hand = .none
  size : s.size < L.items
def resN (s : St) (t : List UInt8) : St := { s with cur := s.cur ++ [⟨4, 0, t⟩], G := addName t (bump s.G), hand := .none, named := none, nx := 4 }
theorem bump_names (s : St) : (match bump s.G with | [] => [] | f :: _ => f.o.getD [] : List (List UInt8)) = s.names := by
  rw [St.names]
  cases s.G <;> rfl
theorem acts_name {L : Lm} {s : St} (h : Nq L s) (p : Nat) (t : List UInt8) (hv : Lib.validD t = true) (hn : t ∉ s.names) : acts L s p (quoted t) = some (resN s t) := by
  refine acts_quoted (s1 := { s.begin 4 .none with named := some p }) p t hv ?_ ?_
  · rw [St.act, h.hand]
    show s.between L 34 p = _
    rw [St.between, if_neg (by decide), St.step]
    rcases h.nx with h1 | h1 <;> rw [h1]
    · show s.name L 34 p = _
      rw [St.name, if_pos rfl]; exact add_ok h.size p _
    · show (if (34 : UInt8) = 125 then _ else s.name L 34 p) = _
      rw [if_neg (by decide), St.name, if_pos rfl]; exact add_ok h.size p _
  · show (if t ∈ (match bump s.G with | [] => [] | f :: _ => f.o.getD [] : List (List UInt8)) then Out.fl 9 p else Out.go ({ s with cur := withText t (s.cur ++ [(⟨4, 0, []⟩ : Vl)]), hand := .none, named := none, nx := 4, G := addName t (bump s.G) } : St)) = _
    rw [bump_names, if_neg hn, with_text]; rfl
theorem acts_open {L : Lm} {s : St} (h : Vq L s) (p : Nat) (b : UInt8) (o : Option (List (List UInt8))) (hd : s.G.length < L.depth) (hb : (b = 91 ∧ o = none) ∨ (b = 123 ∧ o = some [])) : acts L s p [b] = some (s.hold o) := by
  have h1 : s.act L b p = .go (s.hold o) := by
    rw [act_value h b p (by rcases hb with ⟨rfl, -⟩ | ⟨rfl, -⟩ <;> decide) (by rcases hb with ⟨rfl, -⟩ | ⟨rfl, -⟩ <;> decide)]
    rcases hb with ⟨rfl, rfl⟩ | ⟨rfl, rfl⟩
    · show s.add L p (if L.depth ≤ s.G.length then .fl 10 p else .go (s.hold none)) = _
      rw [add_ok h.size, if_neg (by omega)]
    · show s.add L p (if L.depth ≤ s.G.length then .fl 10 p else .go (s.hold (some []))) = _
      rw [add_ok h.size, if_neg (by omega)]
  rw [acts_one h1]; rfl
theorem act_none {L : Lm} {s : St} (h : s.hand = .none) (b : UInt8) (p : Nat) (hb : Js.blank b = false) : s.act L b p = s.step L b p := by
  rw [St.act, h]
  show s.between L b p = _
  rw [St.between, hb, if_neg (by decide)]
theorem acts_comma {L : Lm} {s : St} (h : s.hand = .none) (p : Nat) (hx : s.nx = 5) : acts L s p [44] = some { s with nx := if s.object = true then 2 else 0 } := by
  have h1 : s.act L 44 p = .go { s with nx := if s.object = true then 2 else 0 } := by
    rw [act_none h 44 p (by decide), St.step, hx]
    show s.goOn 44 p = _
    rw [St.goOn]
    split
    · rw [if_neg (by decide)]; rfl
    · rw [if_neg (by decide)]; rfl
  rw [acts_one h1]; rfl
theorem acts_colon {L : Lm} {s : St} (h : s.hand = .none) (p : Nat) (hx : s.nx = 4) : acts L s p [58] = some { s with nx := 0 } := by
  have h1 : s.act L 58 p = .go { s with nx := 0 } := by
    rw [act_none h 58 p (by decide), St.step, hx]; rfl
  rw [acts_one h1]; rfl
theorem acts_close {L : Lm} {s : St} (h : s.hand = .none) (p : Nat) (b : UInt8) (hx : (s.nx = 5 ∧ b = if s.object = true then 125 else 93) ∨ (s.nx = 1 ∧ b = 93) ∨ (s.nx = 3 ∧ b = 125)) : acts L s p [b] = some s.close := by
  have h1 : s.act L b p = .go s.close := by
    rcases hx with ⟨h2, rfl⟩ | ⟨h2, rfl⟩ | ⟨h2, rfl⟩
    · rw [act_none h _ p (by split <;> decide), St.step, h2]
      show s.goOn _ p = _
      rw [St.goOn]
      split
      · rw [if_pos rfl]
      · rw [if_pos rfl]
    · rw [act_none h _ p (by decide), St.step, h2]; rfl
    · rw [act_none h _ p (by decide), St.step, h2]; rfl
  rw [acts_one h1]; rfl
end Jb
end Go.Proofs.YtpaikjlcachabaaDoor
