/- What is read can be told: the text of a string that was read is right, and what it is told by is not too long. -/
import Derived.Test.YtilfidcomeandaaDoorJbB
namespace Go.Proofs.YtilfidcomeandaaDoor
set_option linter.unusedVariables false
set_option linter.unusedSimpArgs false
namespace Jn2
open Js Je Jb
open Dr (Rs Lm has lack)
/-- whole signs -/
def Vt (t : List UInt8) : Prop := ∀ r, Lib.validD (t ++ r) = Lib.validD r
theorem Vt.nil : Vt [] := fun r => rfl
theorem Vt.app {a b : List UInt8} (h : Vt a) (k : Vt b) : Vt (a ++ b) := fun r => by rw [List.append_assoc, h, k]
theorem Vt.valid {t : List UInt8} (h : Vt t) : Lib.validD t = true := by
  have := h []
  rw [List.append_nil] at this
  rw [this]; rfl
theorem Vt.one {b : UInt8} (h : b.toNat < 128) : Vt [b] := fun r => Lib.validD_cons b r h
theorem sg_back : ∀ n : Fin 256, 128 ≤ n.val → (sgLeft (UInt8.ofNat n.val) = 1 → Lib.firstT n.val % 8 = 2) ∧ (sgLeft (UInt8.ofNat n.val) = 2 → Lib.firstT n.val % 8 = 3) ∧ (sgLeft (UInt8.ofNat n.val) = 3 → Lib.firstT n.val % 8 = 4) := by decide +kernel
theorem sg_num : ∀ n : Fin 256, sgLow (UInt8.ofNat n.val) = (if n.val = 224 then 160 else if n.val = 240 then 144 else 128) ∧ sgHigh (UInt8.ofNat n.val) = (if n.val = 237 then 159 else if n.val = 244 then 143 else 191) ∧ sgLeft (UInt8.ofNat n.val) = (if 194 ≤ n.val ∧ n.val ≤ 223 then 1 else if 224 ≤ n.val ∧ n.val ≤ 239 then 2 else if 240 ≤ n.val ∧ n.val ≤ 244 then 3 else 0) := by decide +kernel
theorem first_of {a : UInt8} (ha : 128 ≤ a.toNat) : (sgLeft a = 1 → Lib.firstT a.toNat % 8 = 2) ∧ (sgLeft a = 2 → Lib.firstT a.toNat % 8 = 3) ∧ (sgLeft a = 3 → Lib.firstT a.toNat % 8 = 4) ∧ (2 ≤ Lib.firstT a.toNat % 8 → Lib.accLo (Lib.firstT a.toNat / 16) = sgLow a ∧ Lib.accHi (Lib.firstT a.toNat / 16) = sgHigh a) := by
  obtain ⟨h1, h2, h3⟩ := sg_back ⟨a.toNat, a.toNat_lt⟩ ha
  obtain ⟨-, -, -, h4⟩ := sg_first ⟨a.toNat, a.toNat_lt⟩ ha
  simp only [UInt8.ofNat_toNat] at h1 h2 h3 h4
  exact ⟨h1, h2, h3, h4⟩
theorem Vt.two {a b : UInt8} (ha : 128 ≤ a.toNat) (h : sgLeft a = 1) (h1 : sgLow a ≤ b.toNat) (h2 : b.toNat ≤ sgHigh a) : Vt [a, b] := fun r => by
  obtain ⟨f1, -, -, f4⟩ := first_of ha
  have g := f1 h
  obtain ⟨e1, e2⟩ := f4 (by omega)
  show Lib.validD (a :: b :: r) = _
  rw [Lib.validD_lead (a :: b :: r) (by simp) ha, show (a :: b :: r).getD 0 0 = a from rfl, show (a :: b :: r).getD 1 0 = b from rfl, g, e1, e2, Lib.checkN, if_pos rfl, if_neg (by simp only [List.length_cons]; omega)]
  rfl
theorem Vt.three {a b c : UInt8} (ha : 128 ≤ a.toNat) (h : sgLeft a = 2) (h1 : sgLow a ≤ b.toNat) (h2 : b.toNat ≤ sgHigh a) (h3 : 128 ≤ c.toNat) (h4 : c.toNat ≤ 191) : Vt [a, b, c] := fun r => by
  obtain ⟨-, f2, -, f4⟩ := first_of ha
  have g := f2 h
  obtain ⟨e1, e2⟩ := f4 (by omega)
  show Lib.validD (a :: b :: c :: r) = _
  rw [Lib.validD_lead (a :: b :: c :: r) (by simp) ha, show (a :: b :: c :: r).getD 0 0 = a from rfl, show (a :: b :: c :: r).getD 1 0 = b from rfl, show (a :: b :: c :: r).getD 2 0 = c from rfl, g, e1, e2, Lib.checkN, if_neg (by decide), if_pos rfl, if_neg (by simp only [List.length_cons]; omega)]
  rfl
theorem Vt.four {a b c d : UInt8} (ha : 128 ≤ a.toNat) (h : sgLeft a = 3) (h1 : sgLow a ≤ b.toNat) (h2 : b.toNat ≤ sgHigh a) (h3 : 128 ≤ c.toNat) (h4 : c.toNat ≤ 191) (h5 : 128 ≤ d.toNat) (h6 : d.toNat ≤ 191) : Vt [a, b, c, d] := fun r => by
  obtain ⟨-, -, f3, f4⟩ := first_of ha
  have g := f3 h
  obtain ⟨e1, e2⟩ := f4 (by omega)
  show Lib.validD (a :: b :: c :: d :: r) = _
  rw [Lib.validD_lead (a :: b :: c :: d :: r) (by simp) ha, show (a :: b :: c :: d :: r).getD 0 0 = a from rfl, show (a :: b :: c :: d :: r).getD 1 0 = b from rfl, show (a :: b :: c :: d :: r).getD 2 0 = c from rfl, show (a :: b :: c :: d :: r).getD 3 0 = d from rfl, g, e1, e2, Lib.checkN, if_neg (by decide), if_neg (by decide), if_pos rfl, if_neg (by simp only [List.length_cons]; omega)]
  rfl
theorem nat8 {n : Nat} (h : n < 256) : (UInt8.ofNat n).toNat = n := by rw [UInt8.toNat_ofNat']; exact Nat.mod_eq_of_lt h
theorem qb_le (b : UInt8) : (qb b).length ≤ 6 := by
  rw [qb]
  repeat' split
  all_goals simp
/-- the UTF-8 of a number is a whole sign, told by few bytes -/
theorem enc8_ok {n : Nat} (h1 : n < 1114112) (h2 : ¬ (55296 ≤ n ∧ n ≤ 57343)) : Vt (enc8 n) ∧ ((enc8 n).flatMap qb).length ≤ 6 := by
  have q1 := qb_le
  rw [enc8]
  by_cases c1 : n < 128
  · rw [if_pos c1]
    exact ⟨Vt.one (by rw [nat8 (by omega)]; exact c1), by show (qb _ ++ []).length ≤ 6; rw [List.append_nil]; exact q1 _⟩
  · rw [if_neg c1]
    by_cases c2 : n < 2048
    · rw [if_pos c2]
      have ha : (UInt8.ofNat (192 + n / 64)).toNat = 192 + n / 64 := nat8 (by omega)
      have hb : (UInt8.ofNat (128 + n % 64)).toNat = 128 + n % 64 := nat8 (by omega)
      obtain ⟨s1, s2, s3⟩ := sg_num ⟨192 + n / 64, by omega⟩
      simp only at s1 s2 s3
      rw [if_neg (by omega), if_neg (by omega)] at s1 s2
      rw [if_pos (by omega)] at s3
      exact ⟨Vt.two (by omega) s3 (by omega) (by omega), by rw [List.flatMap_cons, List.flatMap_cons, qb_high (by omega), qb_high (by omega)]; simp⟩
    · rw [if_neg c2]
      by_cases c3 : n < 65536
      · rw [if_pos c3]
        have ha : (UInt8.ofNat (224 + n / 4096)).toNat = 224 + n / 4096 := nat8 (by omega)
        have hb : (UInt8.ofNat (128 + n / 64 % 64)).toNat = 128 + n / 64 % 64 := nat8 (by omega)
        have hc : (UInt8.ofNat (128 + n % 64)).toNat = 128 + n % 64 := nat8 (by omega)
        obtain ⟨s1, s2, s3⟩ := sg_num ⟨224 + n / 4096, by omega⟩
        simp only at s1 s2 s3
        rw [if_neg (by omega), if_pos (by omega)] at s3
        refine ⟨Vt.three (by omega) s3 ?_ ?_ (by omega) (by omega), by rw [List.flatMap_cons, List.flatMap_cons, List.flatMap_cons, qb_high (by omega), qb_high (by omega), qb_high (by omega)]; simp⟩
        · rw [s1, hb]; split
          · omega
          · split <;> omega
        · rw [s2, hb]; split
          · omega
          · split <;> omega
      · rw [if_neg c3]
        have ha : (UInt8.ofNat (240 + n / 262144)).toNat = 240 + n / 262144 := nat8 (by omega)
        have hb : (UInt8.ofNat (128 + n / 4096 % 64)).toNat = 128 + n / 4096 % 64 := nat8 (by omega)
        have hc : (UInt8.ofNat (128 + n / 64 % 64)).toNat = 128 + n / 64 % 64 := nat8 (by omega)
        have hd : (UInt8.ofNat (128 + n % 64)).toNat = 128 + n % 64 := nat8 (by omega)
        obtain ⟨s1, s2, s3⟩ := sg_num ⟨240 + n / 262144, by omega⟩
        simp only at s1 s2 s3
        rw [if_neg (by omega), if_neg (by omega), if_pos (by omega)] at s3
        refine ⟨Vt.four (by omega) s3 ?_ ?_ (by omega) (by omega) (by omega) (by omega), by rw [List.flatMap_cons, List.flatMap_cons, List.flatMap_cons, List.flatMap_cons, qb_high (by omega), qb_high (by omega), qb_high (by omega), qb_high (by omega)]; simp⟩
        · rw [s1, hb]; split
          · omega
          · split <;> omega
        · rw [s2, hb]; split
          · omega
          · split <;> omega
def surr (h : Nat) : Prop := 55296 ≤ h ∧ h ≤ 56319
/-- a string so far -/
def Iv (x : Ss) : Prop :=
  match x.m with
  | .plain => Vt x.t
  | .esc => Vt x.t
  | .hex left num half => Vt x.t ∧ (half = 0 ∨ surr half) ∧ 1 ≤ left ∧ left ≤ 4 ∧ num * 16 ^ left < 65536 ∧ num < 65536
  | .slash half => Vt x.t ∧ surr half
  | .mark half => Vt x.t ∧ surr half
  | .more left lo hi => ∃ t0 a, Vt t0 ∧ 128 ≤ a.toNat ∧ ((x.t = t0 ++ [a] ∧ left = sgLeft a ∧ 1 ≤ left ∧ lo = sgLow a ∧ hi = sgHigh a) ∨ (lo = 128 ∧ hi = 191 ∧ 1 ≤ left ∧ ∃ b, sgLow a ≤ b.toNat ∧ b.toNat ≤ sgHigh a ∧ ((x.t = t0 ++ [a, b] ∧ left + 1 = sgLeft a) ∨ ∃ c, 128 ≤ c.toNat ∧ c.toNat ≤ 191 ∧ x.t = t0 ++ [a, b, c] ∧ left + 2 = sgLeft a)))
theorem hex_lt {b : UInt8} {v : Nat} (h : hexOf b = some v) : v < 16 := by
  rw [hexOf] at h
  split at h
  · cases h; omega
  · split at h
    · cases h; omega
    · split at h
      · cases h; omega
      · cases h
theorem sg3 (a : UInt8) : sgLeft a ≤ 3 := by
  rw [sgLeft]
  repeat' split
  all_goals omega
theorem esc_lt {b c : UInt8} (h : escOf b = some c) : c.toNat < 128 := by
  rw [escOf] at h
  split at h
  · rename_i h1; cases h; rcases h1 with rfl | rfl | rfl <;> decide
  · repeat' split at h
    all_goals first | (cases h; decide) | cases h
theorem low128 (a : UInt8) : 128 ≤ sgLow a := by have := sg_low ⟨a.toNat, a.toNat_lt⟩; simpa using this
theorem hex_step {num v j : Nat} (h1 : 1 ≤ j) (h2 : j ≤ 3) (hv : v < 16) (h : num * 16 ^ (j + 1) < 65536) : (16 * num + v) * 16 ^ j < 65536 ∧ 16 * num + v < 65536 := by
  have e1 : (16 : Nat) ^ 1 = 16 := rfl
  have e2 : (16 : Nat) ^ 2 = 256 := rfl
  have e3 : (16 : Nat) ^ 3 = 4096 := rfl
  have e4 : (16 : Nat) ^ 4 = 65536 := rfl
  have hj : j = 1 ∨ j = 2 ∨ j = 3 := by omega
  rcases hj with rfl | rfl | rfl
  · rw [e2] at h; rw [e1]; omega
  · rw [e3] at h; rw [e2]; omega
  · rw [e4] at h; rw [e3]; omega
/-- one more byte -/
theorem take_ok {x y : Ss} {b : UInt8} (h : x.take b = .more y) (k : Iv x) : Iv y ∧ ∃ a, y.t = x.t ++ a ∧ (a.flatMap qb).length ≤ 6 := by
  obtain ⟨m, t⟩ := x
  have one : ∀ c : UInt8, ([c].flatMap qb).length ≤ 6 := fun c => by show (qb c ++ []).length ≤ 6; rw [List.append_nil]; exact qb_le c
  have no : ∃ a, t = t ++ a ∧ (a.flatMap qb).length ≤ 6 := ⟨[], by simp, by simp⟩
  cases m with
  | plain =>
    have k : Vt t := k
    have h : (if b = 34 then Sr.done else if b.toNat < 32 then .bad else if b = 92 then .more ⟨.esc, t⟩ else if b.toNat < 128 then .more ⟨.plain, t ++ [b]⟩ else if sgLeft b = 0 then .bad else .more ⟨.more (sgLeft b) (sgLow b) (sgHigh b), t ++ [b]⟩) = .more y := h
    split at h
    · cases h
    · split at h
      · cases h
      · split at h
        · cases h; exact ⟨k, no⟩
        · split at h
          · rename_i h1; cases h; exact ⟨k.app (Vt.one h1), [b], rfl, one b⟩
          · rename_i h1
            split at h
            · cases h
            · rename_i h2; cases h
              exact ⟨⟨t, b, k, by omega, .inl ⟨rfl, rfl, by omega, rfl, rfl⟩⟩, [b], rfl, one b⟩
  | esc =>
    have k : Vt t := k
    have h : (match escOf b with | some c => Sr.more ⟨.plain, t ++ [c]⟩ | none => if b = 117 then .more ⟨.hex 4 0 0, t⟩ else .bad) = .more y := h
    split at h
    · rename_i c hc; cases h; exact ⟨k.app (Vt.one (esc_lt hc)), [c], rfl, one c⟩
    · split at h
      · cases h; exact ⟨⟨k, .inl rfl, by omega, by omega, by rw [Nat.zero_mul]; decide, by decide⟩, no⟩
      · cases h
  | hex left num half =>
    obtain ⟨k1, k2, k3, k4, k5, k6⟩ := k
    have h : (match hexOf b with | none => Sr.bad | some v => if 0 < left - 1 then .more ⟨.hex (left - 1) (16 * num + v) half, t⟩ else numbered t (16 * num + v) half) = .more y := h
    split at h
    · cases h
    · rename_i v hv
      have hv := hex_lt hv
      split at h
      · rename_i hl
        cases h
        refine ⟨⟨k1, k2, by omega, by omega, ?_, ?_⟩, no⟩
        · obtain ⟨j, rfl⟩ : ∃ j, left = j + 1 := ⟨left - 1, by omega⟩
          rw [Nat.add_sub_cancel]
          exact (hex_step (by omega) (by omega) hv k5).1
        · obtain ⟨j, rfl⟩ : ∃ j, left = j + 1 := ⟨left - 1, by omega⟩
          exact (hex_step (by omega) (by omega) hv k5).2
      · have hl : left = 1 := by omega
        subst hl
        have hn : 16 * num + v < 65536 := by rw [show (16 : Nat) ^ 1 = 16 from rfl] at k5; omega
        generalize 16 * num + v = n at *
        rw [numbered] at h
        split at h
        · cases h
        · rename_i c1
          split at h
          · rename_i c2; cases h; exact ⟨⟨k1, c2⟩, no⟩
          · rename_i c2
            split at h
            · rename_i c3
              cases h
              have hh : half ≠ 0 := by
                intro e
                rw [e] at c1
                exact c1 (by rw [decide_eq_true c3]; decide)
              have hs : surr half := k2.resolve_left hh
              obtain ⟨s1, s2⟩ := hs
              obtain ⟨e1, e2⟩ := enc8_ok (n := n + 65536 + (half - 55296) * 1024 - 56320) (by omega) (by omega)
              exact ⟨k1.app e1, _, rfl, e2⟩
            · rename_i c3
              cases h
              obtain ⟨e1, e2⟩ := enc8_ok (n := n) (by omega) (by omega)
              exact ⟨k1.app e1, _, rfl, e2⟩
  | slash half =>
    obtain ⟨k1, k2⟩ := k
    have h : (if b = 92 then Sr.more ⟨.mark half, t⟩ else .bad) = .more y := h
    split at h
    · cases h; exact ⟨⟨k1, k2⟩, no⟩
    · cases h
  | mark half =>
    obtain ⟨k1, k2⟩ := k
    have h : (if b = 117 then Sr.more ⟨.hex 4 0 half, t⟩ else .bad) = .more y := h
    split at h
    · cases h; exact ⟨⟨k1, .inr k2, by omega, by omega, by rw [Nat.zero_mul]; decide, by decide⟩, no⟩
    · cases h
  | more left lo hi =>
    obtain ⟨t0, a, k1, k2, k3⟩ := k
    have h : (if b.toNat < lo ∨ hi < b.toNat then Sr.bad else if left - 1 = 0 then .more ⟨.plain, t ++ [b]⟩ else .more ⟨.more (left - 1) 128 191, t ++ [b]⟩) = .more y := h
    have h3 := sg3 a
    split at h
    · cases h
    · rename_i c1
      split at h
      · rename_i c2
        cases h
        refine ⟨?_, [b], rfl, one b⟩
        show Vt (t ++ [b])
        rcases k3 with ⟨e1, e2, e3, e4, e5⟩ | ⟨e1, e2, e3, b1, e4, e5, e6⟩
        · have e1' : t = t0 ++ [a] := e1
          rw [e1', List.append_assoc]
          exact k1.app (Vt.two k2 (by omega) (by omega) (by omega))
        · rcases e6 with ⟨e6, e7⟩ | ⟨c, e7, e8, e9, e10⟩
          · have e1' : t = t0 ++ [a, b1] := e6
            rw [e1', List.append_assoc]
            exact k1.app (Vt.three k2 (by omega) e4 e5 (by omega) (by omega))
          · have e1' : t = t0 ++ [a, b1, c] := e9
            rw [e1', List.append_assoc]
            exact k1.app (Vt.four k2 (by omega) e4 e5 e7 e8 (by omega) (by omega))
      · rename_i c2
        cases h
        refine ⟨⟨t0, a, k1, k2, .inr ⟨rfl, rfl, by omega, ?_⟩⟩, [b], rfl, one b⟩
        rcases k3 with ⟨e1, e2, e3, e4, e5⟩ | ⟨e1, e2, e3, b1, e4, e5, e6⟩
        · have e1' : t = t0 ++ [a] := e1
          exact ⟨b, by omega, by omega, .inl ⟨by show t ++ [b] = _; rw [e1', List.append_assoc]; rfl, by omega⟩⟩
        · rcases e6 with ⟨e6, e7⟩ | ⟨c, e7, e8, e9, e10⟩
          · have e1' : t = t0 ++ [a, b1] := e6
            exact ⟨b1, e4, e5, .inr ⟨b, by omega, by omega, by show t ++ [b] = _; rw [e1', List.append_assoc]; rfl, by omega⟩⟩
          · omega
theorem iv_done {x : Ss} {b : UInt8} (h : x.take b = .done) (k : Iv x) : Vt x.t := by
  obtain ⟨m, t⟩ := x
  cases m with
  | plain => exact k
  | esc => exact k
  | hex left num half => exact k.1
  | slash half => exact k.1
  | mark half => exact k.1
  | more left lo hi =>
    have h : (if b.toNat < lo ∨ hi < b.toNat then Sr.bad else if left - 1 = 0 then .more ⟨.plain, t ++ [b]⟩ else .more ⟨.more (left - 1) 128 191, t ++ [b]⟩) = .done := h
    repeat' split at h
    all_goals cases h
end Jn2
end Go.Proofs.YtilfidcomeandaaDoor
