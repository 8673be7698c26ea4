/- Signs of UTF-8 of more than one byte, in plain words: what a string takes byte by byte, and what the document tries. -/
import Derived.Test.YtilfidcomeandaaDoorJsQ
import Derived.Test.YtilfidcomeandaaDoorJuT
namespace Go.Proofs.YtilfidcomeandaaDoor
set_option linter.unusedVariables false
set_option linter.unusedSimpArgs false
namespace Js
open Dr (Rs Lm has lack)
open Co (utfP utfM utfM2 utfM3 utfM4 utfM_short)
def cont (n : Nat) : Prop := 128 ≤ n ∧ n ≤ 191
instance (n : Nat) : Decidable (cont n) := inferInstanceAs (Decidable (_ ∧ _))
/-- one whole sign of two, three or four bytes -/
def wholeS (l : List UInt8) : Prop :=
  match l with
  | [a, b] => sgLeft a = 1 ∧ sgLow a ≤ b.toNat ∧ b.toNat ≤ sgHigh a
  | [a, b, c] => sgLeft a = 2 ∧ (sgLow a ≤ b.toNat ∧ b.toNat ≤ sgHigh a) ∧ cont c.toNat
  | [a, b, c, d] => sgLeft a = 3 ∧ (sgLow a ≤ b.toNat ∧ b.toNat ≤ sgHigh a) ∧ cont c.toNat ∧ cont d.toNat
  | _ => False
/-- the beginning of one -/
def partS (l : List UInt8) : Prop :=
  match l with
  | [a] => 1 ≤ sgLeft a
  | [a, b] => 2 ≤ sgLeft a ∧ sgLow a ≤ b.toNat ∧ b.toNat ≤ sgHigh a
  | [a, b, c] => 3 ≤ sgLeft a ∧ (sgLow a ≤ b.toNat ∧ b.toNat ≤ sgHigh a) ∧ cont c.toNat
  | _ => False
theorem utfP_two (l : List UInt8) (h : 128 ≤ (l.getD 0 0).toNat) (hne : l ≠ []) :
    utfP l = if 192 ≤ (l.getD 0 0).toNat ∧ (l.getD 0 0).toNat < 224 then utfM l 2 ((l.getD 0 0).toNat - 192)
      else if 224 ≤ (l.getD 0 0).toNat ∧ (l.getD 0 0).toNat < 240 then utfM l 3 ((l.getD 0 0).toNat - 224)
      else if 240 ≤ (l.getD 0 0).toNat ∧ (l.getD 0 0).toNat < 248 then utfM l 4 ((l.getD 0 0).toNat - 240)
      else 0 := by
  rw [utfP, if_neg hne, if_neg (by omega)]
theorem utfM_le (l : List UInt8) (n c : Nat) : utfM l n c = 0 ∨ utfM l n c = n := by
  rw [utfM]
  split
  · exact .inl rfl
  · split
    · exact .inl rfl
    · split
      · exact .inl rfl
      · exact .inr rfl
/-- the document's way to find a whole sign, at two bytes -/
theorem whole2 (a b : UInt8) (ha : 128 ≤ a.toNat) : utfP [a, b] = 2 ↔ wholeS [a, b] := by
  have h1 := utfP_two [a, b] ha (by simp)
  rw [show ([a, b].getD 0 0) = a from rfl] at h1
  have h2 := utfM2 (l := [a, b]) (n := 2) (b1 := b.toNat) (c := a.toNat - 192) rfl rfl
  have h3 := utfM_short (l := [a, b]) (n := 3) (c := a.toNat - 224) (by simp)
  have h4 := utfM_short (l := [a, b]) (n := 4) (c := a.toNat - 240) (by simp)
  rw [h1, h2, h3, h4]
  show _ ↔ sgLeft a = 1 ∧ sgLow a ≤ b.toNat ∧ b.toNat ≤ sgHigh a
  have hb := b.toNat_lt
  have hs := sg_cases a ha
  generalize sgLeft a = x at hs ⊢
  generalize sgLow a = y at hs ⊢
  generalize sgHigh a = z at hs ⊢
  generalize a.toNat = n at *
  generalize b.toNat = m at *
  repeat' split
  all_goals omega
theorem whole3 (a b c : UInt8) (ha : 128 ≤ a.toNat) : utfP [a, b, c] = 3 ↔ wholeS [a, b, c] := by
  have h1 := utfP_two [a, b, c] ha (by simp)
  rw [show ([a, b, c].getD 0 0) = a from rfl] at h1
  have h2 := utfM_le [a, b, c] 2 (a.toNat - 192)
  have h3 := utfM3 (l := [a, b, c]) (n := 3) (b1 := b.toNat) (b2 := c.toNat) (c := a.toNat - 224) rfl rfl rfl
  have h4 := utfM_short (l := [a, b, c]) (n := 4) (c := a.toNat - 240) (by simp)
  rw [h1, h3, h4]
  show _ ↔ sgLeft a = 2 ∧ (sgLow a ≤ b.toNat ∧ b.toNat ≤ sgHigh a) ∧ (128 ≤ c.toNat ∧ c.toNat ≤ 191)
  have hb := b.toNat_lt
  have hc := c.toNat_lt
  have hs := sg_cases a ha
  generalize utfM [a, b, c] 2 (a.toNat - 192) = u at h2 ⊢
  generalize sgLeft a = x at hs ⊢
  generalize sgLow a = y at hs ⊢
  generalize sgHigh a = z at hs ⊢
  generalize a.toNat = n at *
  generalize b.toNat = m at *
  generalize c.toNat = k at *
  repeat' split
  all_goals omega
theorem whole4 (a b c d : UInt8) (ha : 128 ≤ a.toNat) : utfP [a, b, c, d] = 4 ↔ wholeS [a, b, c, d] := by
  have h1 := utfP_two [a, b, c, d] ha (by simp)
  rw [show ([a, b, c, d].getD 0 0) = a from rfl] at h1
  have h2 := utfM_le [a, b, c, d] 2 (a.toNat - 192)
  have h3 := utfM_le [a, b, c, d] 3 (a.toNat - 224)
  have h4 := utfM4 (l := [a, b, c, d]) (n := 4) (b1 := b.toNat) (b2 := c.toNat) (b3 := d.toNat) (c := a.toNat - 240) rfl rfl rfl rfl
  rw [h1, h4]
  show _ ↔ sgLeft a = 3 ∧ (sgLow a ≤ b.toNat ∧ b.toNat ≤ sgHigh a) ∧ (128 ≤ c.toNat ∧ c.toNat ≤ 191) ∧ (128 ≤ d.toNat ∧ d.toNat ≤ 191)
  have hb := b.toNat_lt
  have hc := c.toNat_lt
  have hd := d.toNat_lt
  have hs := sg_cases a ha
  generalize utfM [a, b, c, d] 2 (a.toNat - 192) = u at h2 ⊢
  generalize utfM [a, b, c, d] 3 (a.toNat - 224) = u' at h3 ⊢
  generalize sgLeft a = x at hs ⊢
  generalize sgLow a = y at hs ⊢
  generalize sgHigh a = z at hs ⊢
  generalize a.toNat = n at *
  generalize b.toNat = m at *
  generalize c.toNat = k at *
  generalize d.toNat = j at *
  repeat' split
  all_goals omega
theorem whole1 (a : UInt8) (ha : 128 ≤ a.toNat) : utfP [a] ≠ 1 := by
  have h1 := utfP_two [a] ha (by simp)
  rw [show ([a].getD 0 0) = a from rfl, utfM_short (by simp), utfM_short (by simp), utfM_short (by simp)] at h1
  rw [h1]
  repeat' split
  all_goals omega
/-- where a string is behind the beginning of a sign -/
def ptM (l : List UInt8) : Sm :=
  match l with
  | [a] => .more (sgLeft a) (sgLow a) (sgHigh a)
  | [a, _] => .more (sgLeft a - 1) 128 191
  | [a, _, _] => .more (sgLeft a - 2) 128 191
  | _ => .plain
instance (l : List UInt8) : Decidable (wholeS l) := by unfold wholeS; split <;> infer_instance
instance (l : List UInt8) : Decidable (partS l) := by unfold partS; split <;> infer_instance
theorem take_first (t : List UInt8) (a : UInt8) (ha : 128 ≤ a.toNat) : (⟨.plain, t⟩ : Ss).take a = if partS [a] then .more ⟨ptM [a], t ++ [a]⟩ else .bad := by
  have h1 : a ≠ 34 := fun h => by rw [h] at ha; exact absurd ha (by decide)
  have h2 : a ≠ 92 := fun h => by rw [h] at ha; exact absurd ha (by decide)
  show (if a = 34 then Sr.done else if a.toNat < 32 then .bad else if a = 92 then .more ⟨.esc, t⟩ else if a.toNat < 128 then .more ⟨.plain, t ++ [a]⟩ else if sgLeft a = 0 then .bad else .more ⟨.more (sgLeft a) (sgLow a) (sgHigh a), t ++ [a]⟩) = _
  rw [if_neg h1, if_neg (by omega), if_neg h2, if_neg (by omega)]
  show _ = if 1 ≤ sgLeft a then _ else _
  by_cases h : sgLeft a = 0
  · rw [if_pos h, if_neg (by omega)]
  · rw [if_neg h, if_pos (by omega)]; rfl
theorem sgLeft_le (a : UInt8) : sgLeft a ≤ 3 := by
  rw [sgLeft]
  repeat' split
  all_goals omega
theorem take_next (t l : List UInt8) (x : UInt8) (hp : partS l) : (⟨ptM l, t⟩ : Ss).take x = if wholeS (l ++ [x]) then .more ⟨.plain, t ++ [x]⟩ else if partS (l ++ [x]) then .more ⟨ptM (l ++ [x]), t ++ [x]⟩ else .bad := by
  match l, hp with
  | [a], hp =>
    have hp' : 1 ≤ sgLeft a := hp
    have h3 := sgLeft_le a
    show (if x.toNat < sgLow a ∨ sgHigh a < x.toNat then Sr.bad else if sgLeft a - 1 = 0 then .more ⟨.plain, t ++ [x]⟩ else .more ⟨.more (sgLeft a - 1) 128 191, t ++ [x]⟩) = if sgLeft a = 1 ∧ sgLow a ≤ x.toNat ∧ x.toNat ≤ sgHigh a then _ else if 2 ≤ sgLeft a ∧ sgLow a ≤ x.toNat ∧ x.toNat ≤ sgHigh a then .more ⟨.more (sgLeft a - 1) 128 191, t ++ [x]⟩ else _
    by_cases h : x.toNat < sgLow a ∨ sgHigh a < x.toNat
    · rw [if_pos h, if_neg (by omega), if_neg (by omega)]
    · rw [if_neg h]
      by_cases h1 : sgLeft a - 1 = 0
      · rw [if_pos h1, if_pos (by omega)]
      · rw [if_neg h1, if_neg (by omega), if_pos (by omega)]
  | [a, b], hp =>
    obtain ⟨p1, p2, p3⟩ : 2 ≤ sgLeft a ∧ sgLow a ≤ b.toNat ∧ b.toNat ≤ sgHigh a := hp
    have h3 := sgLeft_le a
    show (if x.toNat < 128 ∨ 191 < x.toNat then Sr.bad else if sgLeft a - 1 - 1 = 0 then .more ⟨.plain, t ++ [x]⟩ else .more ⟨.more (sgLeft a - 1 - 1) 128 191, t ++ [x]⟩) = if sgLeft a = 2 ∧ (sgLow a ≤ b.toNat ∧ b.toNat ≤ sgHigh a) ∧ (128 ≤ x.toNat ∧ x.toNat ≤ 191) then _ else if 3 ≤ sgLeft a ∧ (sgLow a ≤ b.toNat ∧ b.toNat ≤ sgHigh a) ∧ (128 ≤ x.toNat ∧ x.toNat ≤ 191) then .more ⟨.more (sgLeft a - 2) 128 191, t ++ [x]⟩ else _
    by_cases h : x.toNat < 128 ∨ 191 < x.toNat
    · rw [if_pos h, if_neg (by omega), if_neg (by omega)]
    · rw [if_neg h]
      by_cases h1 : sgLeft a - 1 - 1 = 0
      · rw [if_pos h1, if_pos (by omega)]
      · rw [if_neg h1, if_neg (by omega), if_pos (by omega), show sgLeft a - 2 = sgLeft a - 1 - 1 by omega]
  | [a, b, c], hp =>
    obtain ⟨p1, ⟨p2, p3⟩, p4⟩ : 3 ≤ sgLeft a ∧ (sgLow a ≤ b.toNat ∧ b.toNat ≤ sgHigh a) ∧ cont c.toNat := hp
    have h3 := sgLeft_le a
    show (if x.toNat < 128 ∨ 191 < x.toNat then Sr.bad else if sgLeft a - 2 - 1 = 0 then .more ⟨.plain, t ++ [x]⟩ else .more ⟨.more (sgLeft a - 2 - 1) 128 191, t ++ [x]⟩) = if sgLeft a = 3 ∧ (sgLow a ≤ b.toNat ∧ b.toNat ≤ sgHigh a) ∧ cont c.toNat ∧ (128 ≤ x.toNat ∧ x.toNat ≤ 191) then _ else if False then _ else _
    rw [if_neg (show ¬ False from id)]
    by_cases h : x.toNat < 128 ∨ 191 < x.toNat
    · rw [if_pos h, if_neg (by omega)]
    · rw [if_neg h, if_pos (by omega), if_pos ⟨by omega, ⟨p2, p3⟩, p4, by omega, by omega⟩]
/-- the document's question: does some sign begin so? -/
def fillsS : List UInt8 := [128, 191, 144, 160]
def begS (l : List UInt8) : Prop := ∃ n, l.length ≤ n ∧ n ≤ 4 ∧ ∃ f ∈ fillsS, utfP (l ++ List.replicate (n - l.length) f) = n
theorem begS_part (l : List UInt8) (hl : l.length ≤ 4) (hne : l ≠ []) (ha : 128 ≤ (l.getD 0 0).toNat) : begS l ↔ partS l ∨ wholeS l := by
  have fit : ∀ a : UInt8, 128 ≤ a.toNat → 1 ≤ sgLeft a → ∃ f ∈ fillsS, sgLow a ≤ f.toNat ∧ f.toNat ≤ sgHigh a ∧ cont f.toNat := fun a ha h1 => by
    rcases sg_cases a ha with h | h | h | h | h | h | h | h
    · omega
    all_goals first
      | exact ⟨128, by decide, by rw [h.2.2.2.1]; decide, by rw [h.2.2.2.2]; decide, by decide⟩
      | exact ⟨191, by decide, by rw [h.2.2.1]; decide, by rw [h.2.2.2]; decide, by decide⟩
      | exact ⟨128, by decide, by rw [h.2.2.1]; decide, by rw [h.2.2.2]; decide, by decide⟩
      | exact ⟨128, by decide, by rw [h.2.2.2.2.1]; decide, by rw [h.2.2.2.2.2]; decide, by decide⟩
  match l, hl, hne, ha with
  | [a], _, _, ha =>
    have ha' : 128 ≤ a.toNat := ha
    constructor
    · rintro ⟨n, h1, h2, f, hf, hu⟩
      refine .inl (show 1 ≤ sgLeft a from ?_)
      have h1' : 1 ≤ n := h1
      obtain rfl | rfl | rfl | rfl : n = 1 ∨ n = 2 ∨ n = 3 ∨ n = 4 := by omega
      · exact absurd hu (whole1 a ha')
      · have h9 := ((whole2 a f ha').1 hu).1; omega
      · have h9 := ((whole3 a f f ha').1 hu).1; omega
      · have h9 := ((whole4 a f f f ha').1 hu).1; omega
    · rintro (h | h)
      · have h1 : 1 ≤ sgLeft a := h
        obtain ⟨f, hf, f1, f2, f3⟩ := fit a ha' h1
        have h3 := sgLeft_le a
        obtain h4 | h4 | h4 : sgLeft a = 1 ∨ sgLeft a = 2 ∨ sgLeft a = 3 := by omega
        · exact ⟨2, by simp, by omega, f, hf, (whole2 a f ha').2 ⟨h4, f1, f2⟩⟩
        · exact ⟨3, by simp, by omega, f, hf, (whole3 a f f ha').2 ⟨h4, ⟨f1, f2⟩, f3⟩⟩
        · exact ⟨4, by simp, by omega, f, hf, (whole4 a f f f ha').2 ⟨h4, ⟨f1, f2⟩, f3, f3⟩⟩
      · exact absurd h (show ¬ False from id)
  | [a, b], _, _, ha =>
    have ha' : 128 ≤ a.toNat := ha
    constructor
    · rintro ⟨n, h1, h2, f, hf, hu⟩
      have h1' : 2 ≤ n := h1
      obtain rfl | rfl | rfl : n = 2 ∨ n = 3 ∨ n = 4 := by omega
      · exact .inr ((whole2 a b ha').1 hu)
      · have h9 := (whole3 a b f ha').1 hu; exact .inl ⟨by rw [h9.1]; omega, h9.2.1⟩
      · have h9 := (whole4 a b f f ha').1 hu; exact .inl ⟨by rw [h9.1]; omega, h9.2.1⟩
    · rintro (h | h)
      · have h1 : 2 ≤ sgLeft a ∧ sgLow a ≤ b.toNat ∧ b.toNat ≤ sgHigh a := h
        have h3 := sgLeft_le a
        obtain h4 | h4 : sgLeft a = 2 ∨ sgLeft a = 3 := by omega
        · exact ⟨3, by simp, by omega, 128, by decide, (whole3 a b 128 ha').2 ⟨h4, h1.2, by decide⟩⟩
        · exact ⟨4, by simp, by omega, 128, by decide, (whole4 a b 128 128 ha').2 ⟨h4, h1.2, by decide, by decide⟩⟩
      · exact ⟨2, by simp, by omega, 128, by decide, (whole2 a b ha').2 h⟩
  | [a, b, c], _, _, ha =>
    have ha' : 128 ≤ a.toNat := ha
    constructor
    · rintro ⟨n, h1, h2, f, hf, hu⟩
      have h1' : 3 ≤ n := h1
      obtain rfl | rfl : n = 3 ∨ n = 4 := by omega
      · exact .inr ((whole3 a b c ha').1 hu)
      · have h9 := (whole4 a b c f ha').1 hu; exact .inl ⟨by rw [h9.1]; omega, h9.2.1, h9.2.2.1⟩
    · rintro (h | h)
      · have h1 : 3 ≤ sgLeft a ∧ (sgLow a ≤ b.toNat ∧ b.toNat ≤ sgHigh a) ∧ cont c.toNat := h
        have h3 := sgLeft_le a
        exact ⟨4, by simp, by omega, 128, by decide, (whole4 a b c 128 ha').2 ⟨by omega, h1.2.1, h1.2.2, by decide⟩⟩
      · exact ⟨3, by simp, by omega, 128, by decide, (whole3 a b c ha').2 h⟩
  | [a, b, c, d], _, _, ha =>
    have ha' : 128 ≤ a.toNat := ha
    constructor
    · rintro ⟨n, h1, h2, f, hf, hu⟩
      have h1' : 4 ≤ n := h1
      obtain rfl : n = 4 := by omega
      exact .inr ((whole4 a b c d ha').1 hu)
    · rintro (h | h)
      · exact absurd h (show ¬ False from id)
      · exact ⟨4, by simp, by omega, 128, by decide, (whole4 a b c d ha').2 h⟩
end Js
end Go.Proofs.YtilfidcomeandaaDoor
