/- What is told is read: strings. A text that is told byte by byte, as the reader takes it. -/
import Derived.Test.YtpaikjlcachabaaDoorJeA
import Derived.Lib.ValidLaws
namespace Go.Proofs.YtpaikjlcachabaaDoor
set_option linter.unusedVariables false
set_option linter.unusedSimpArgs false
namespace Jb
open Js Je
def ssR : Ss → List UInt8 → Option Ss
  | s, [] => some s
  | s, b :: l => match s.take b with | .more s' => ssR s' l | _ => none
theorem ssR_app : ∀ (a b : List UInt8) (s s' : Ss), ssR s a = some s' → ssR s (a ++ b) = ssR s' b
  | [], b, s, s', h => by cases h; rfl
  | x :: a, b, s, s', h => by
    rw [ssR] at h
    rw [List.cons_append, ssR]
    cases hx : s.take x with
    | more y => rw [hx] at h; exact ssR_app a b y s' h
    | done => rw [hx] at h; cases h
    | bad => rw [hx] at h; cases h
theorem ssR_one {s s' : Ss} {b : UInt8} (h : s.take b = .more s') (l : List UInt8) : ssR s (b :: l) = ssR s' l := by rw [ssR, h]
theorem hex_ok : ∀ n : Fin 32, hexOf (hexS (n.val / 16)) = some (n.val / 16) ∧ hexOf (hexS (n.val % 16)) = some (n.val % 16) ∧ enc8 n.val = [UInt8.ofNat n.val] := by decide +kernel
/-- a sign of one byte -/
theorem told_one (b : UInt8) (h : b.toNat < 128) (t : List UInt8) : ssR ⟨.plain, t⟩ (qb b) = some ⟨.plain, t ++ [b]⟩ := by
  have e92 : ∀ t : List UInt8, (⟨.plain, t⟩ : Ss).take 92 = .more ⟨.esc, t⟩ := fun t => rfl
  rw [qb]
  by_cases h1 : b = 34 ∨ b = 92
  · rw [if_pos h1, ssR_one (e92 t)]
    have h2 : (⟨.esc, t⟩ : Ss).take b = .more ⟨.plain, t ++ [b]⟩ := by rcases h1 with rfl | rfl <;> rfl
    rw [ssR_one h2]; rfl
  · rw [if_neg h1]
    by_cases h2 : b.toNat < 32
    · rw [if_pos h2, ssR_one (e92 t)]
      obtain ⟨x1, x2, x3⟩ := hex_ok ⟨b.toNat, h2⟩
      simp only at x1 x2 x3
      rw [UInt8.ofNat_toNat] at x3
      have y1 : (⟨.esc, t⟩ : Ss).take 117 = .more ⟨.hex 4 0 0, t⟩ := rfl
      have y2 : (⟨.hex 4 0 0, t⟩ : Ss).take 48 = .more ⟨.hex 3 0 0, t⟩ := rfl
      have y3 : (⟨.hex 3 0 0, t⟩ : Ss).take 48 = .more ⟨.hex 2 0 0, t⟩ := rfl
      have y4 : (⟨.hex 2 0 0, t⟩ : Ss).take (hexS (b.toNat / 16)) = .more ⟨.hex 1 (b.toNat / 16) 0, t⟩ := by
        show (match hexOf (hexS (b.toNat / 16)) with | none => Sr.bad | some v => if 0 < 2 - 1 then .more ⟨.hex (2 - 1) (16 * 0 + v) 0, t⟩ else numbered t (16 * 0 + v) 0) = _
        rw [x1]; simp
      have y5 : (⟨.hex 1 (b.toNat / 16) 0, t⟩ : Ss).take (hexS (b.toNat % 16)) = .more ⟨.plain, t ++ [b]⟩ := by
        show (match hexOf (hexS (b.toNat % 16)) with | none => Sr.bad | some v => if 0 < 1 - 1 then .more ⟨.hex (1 - 1) (16 * (b.toNat / 16) + v) 0, t⟩ else numbered t (16 * (b.toNat / 16) + v) 0) = _
        rw [x2]
        show numbered t (16 * (b.toNat / 16) + b.toNat % 16) 0 = _
        rw [show 16 * (b.toNat / 16) + b.toNat % 16 = b.toNat by omega, numbered, if_neg (by simp; omega), if_neg (by omega), if_neg (by omega), x3]
      rw [ssR_one y1, ssR_one y2, ssR_one y3, ssR_one y4, ssR_one y5]; rfl
    · rw [if_neg h2]
      have h3 : (⟨.plain, t⟩ : Ss).take b = .more ⟨.plain, t ++ [b]⟩ := by
        show (if b = 34 then Sr.done else if b.toNat < 32 then .bad else if b = 92 then .more ⟨.esc, t⟩ else if b.toNat < 128 then .more ⟨.plain, t ++ [b]⟩ else if sgLeft b = 0 then .bad else .more ⟨.more (sgLeft b) (sgLow b) (sgHigh b), t ++ [b]⟩) = _
        rw [if_neg (fun e => h1 (.inl e)), if_neg h2, if_neg (fun e => h1 (.inr e)), if_pos h]
      rw [ssR_one h3]; rfl
theorem sg_first : ∀ n : Fin 256, 128 ≤ n.val → (Lib.firstT n.val % 8 = 2 → sgLeft (UInt8.ofNat n.val) = 1) ∧ (Lib.firstT n.val % 8 = 3 → sgLeft (UInt8.ofNat n.val) = 2) ∧ (Lib.firstT n.val % 8 = 4 → sgLeft (UInt8.ofNat n.val) = 3) ∧ (2 ≤ Lib.firstT n.val % 8 → Lib.accLo (Lib.firstT n.val / 16) = sgLow (UInt8.ofNat n.val) ∧ Lib.accHi (Lib.firstT n.val / 16) = sgHigh (UInt8.ofNat n.val)) := by decide +kernel
theorem sg_low : ∀ n : Fin 256, 128 ≤ sgLow (UInt8.ofNat n.val) := by decide +kernel
theorem qb_high {b : UInt8} (h : 128 ≤ b.toNat) : qb b = [b] := by
  rw [qb, if_neg, if_neg (by omega)]
  rintro (rfl | rfl) <;> exact absurd h (by decide)
theorem take_lead {b : UInt8} (h : 128 ≤ b.toNat) (t : List UInt8) (hs : sgLeft b ≠ 0) : (⟨.plain, t⟩ : Ss).take b = .more ⟨.more (sgLeft b) (sgLow b) (sgHigh b), t ++ [b]⟩ := by
  show (if b = 34 then Sr.done else if b.toNat < 32 then .bad else if b = 92 then .more ⟨.esc, t⟩ else if b.toNat < 128 then .more ⟨.plain, t ++ [b]⟩ else if sgLeft b = 0 then .bad else .more ⟨.more (sgLeft b) (sgLow b) (sgHigh b), t ++ [b]⟩) = _
  rw [if_neg (by rintro rfl; exact absurd h (by decide)), if_neg (by omega), if_neg (by rintro rfl; exact absurd h (by decide)), if_neg (by omega), if_neg hs]
theorem take_more {b : UInt8} {n lo hi : Nat} (t : List UInt8) (h1 : ¬ b.toNat < lo) (h2 : ¬ hi < b.toNat) : (⟨.more (n + 1) lo hi, t⟩ : Ss).take b = if n = 0 then .more ⟨.plain, t ++ [b]⟩ else .more ⟨.more n 128 191, t ++ [b]⟩ := by
  show (if b.toNat < lo ∨ hi < b.toNat then Sr.bad else if n + 1 - 1 = 0 then .more ⟨.plain, t ++ [b]⟩ else .more ⟨.more (n + 1 - 1) 128 191, t ++ [b]⟩) = _
  rw [if_neg (by omega), Nat.add_sub_cancel]
/-- a text of whole signs -/
theorem told_str : ∀ (n : Nat) (l : List UInt8), l.length ≤ n → Lib.validD l = true → ∀ t, ssR ⟨.plain, t⟩ (l.flatMap qb) = some ⟨.plain, t ++ l⟩ := by
  intro n
  induction n with
  | zero =>
    intro l hl _ t
    obtain rfl := List.length_eq_zero_iff.1 (Nat.le_zero.1 hl)
    rw [List.append_nil]; rfl
  | succ n ih =>
    intro l hl hv t
    match l, hl, hv with
    | [], _, _ => rw [List.append_nil]; rfl
    | b :: r, hl, hv =>
      have hl' : r.length ≤ n := Nat.le_of_succ_le_succ hl
      by_cases hb : b.toNat < 128
      · rw [Lib.validD_cons b r hb] at hv
        rw [List.flatMap_cons, ssR_app _ _ _ _ (told_one b hb t), ih r hl' hv, List.append_assoc]; rfl
      · have hb2 : 128 ≤ b.toNat := by omega
        have h1 := Lib.validD_lead (b :: r) (by simp) hb2
        rw [hv] at h1
        obtain ⟨f2, f3, f4, fr⟩ := sg_first ⟨b.toNat, b.toNat_lt⟩ hb2
        simp only at f2 f3 f4 fr
        rw [UInt8.ofNat_toNat] at f2 f3 f4 fr
        have f5 := sg_low ⟨b.toNat, b.toNat_lt⟩
        simp only [UInt8.ofNat_toNat] at f5
        rw [show (b :: r).getD 0 0 = b from rfl] at h1
        generalize Lib.firstT b.toNat % 8 = sz at *
        generalize Lib.accLo (Lib.firstT b.toNat / 16) = lo at *
        generalize Lib.accHi (Lib.firstT b.toNat / 16) = hi at *
        rw [Lib.checkN] at h1
        by_cases c2 : sz = 2
        · rw [if_pos c2] at h1
          split at h1
          · cases h1
          · rename_i k hk
            split at hk
            · cases hk
            · rename_i hc
              cases hk
              obtain ⟨e1, e2⟩ := fr (by omega)
              match r, hl', hc, h1 with
              | x :: r, hl', hc, h1 =>
                simp only [List.getD_cons_succ, List.getD_cons_zero] at hc
                have hx : ¬ x.toNat < sgLow b := by omega
                have hx2 : ¬ sgHigh b < x.toNat := by omega
                have g1 := take_lead hb2 t (by rw [f2 c2]; decide)
                rw [f2 c2] at g1
                have g2 := take_more (n := 0) (t ++ [b]) hx hx2
                rw [if_pos rfl] at g2
                rw [List.flatMap_cons, List.flatMap_cons, qb_high hb2, qb_high (show 128 ≤ x.toNat by omega)]
                show ssR _ (b :: x :: r.flatMap qb) = _
                rw [ssR_one g1, ssR_one g2, ih r (by simp only [List.length_cons] at hl'; omega) h1.symm]
                simp
              | [], _, hc, _ => exact absurd (show ([b] : List UInt8).length < 2 by simp) (fun h => hc (.inl h))
        · rw [if_neg c2] at h1
          by_cases c3 : sz = 3
          · rw [if_pos c3] at h1
            split at h1
            · cases h1
            · rename_i k hk
              split at hk
              · cases hk
              · rename_i hc
                cases hk
                obtain ⟨e1, e2⟩ := fr (by omega)
                match r, hl', hc, h1 with
                | x :: y :: r, hl', hc, h1 =>
                  simp only [List.getD_cons_succ, List.getD_cons_zero] at hc
                  have hx : ¬ x.toNat < sgLow b := by omega
                  have hx2 : ¬ sgHigh b < x.toNat := by omega
                  have g1 := take_lead hb2 t (by rw [f3 c3]; decide)
                  rw [f3 c3] at g1
                  have g2 := take_more (n := 1) (t ++ [b]) hx hx2
                  rw [if_neg (by decide)] at g2
                  have g3 := take_more (n := 0) (b := y) (lo := 128) (hi := 191) (t ++ [b] ++ [x]) (by omega) (by omega)
                  rw [if_pos rfl] at g3
                  rw [List.flatMap_cons, List.flatMap_cons, List.flatMap_cons, qb_high hb2, qb_high (show 128 ≤ x.toNat by omega), qb_high (show 128 ≤ y.toNat by omega)]
                  show ssR _ (b :: x :: y :: r.flatMap qb) = _
                  rw [ssR_one g1, ssR_one g2, ssR_one g3, ih r (by simp only [List.length_cons] at hl'; omega) h1.symm]
                  simp
                | [x], _, hc, _ => exact absurd (show ([b, x] : List UInt8).length < 3 by simp) (fun h => hc (.inl h))
                | [], _, hc, _ => exact absurd (show ([b] : List UInt8).length < 3 by simp) (fun h => hc (.inl h))
          · rw [if_neg c3] at h1
            by_cases c4 : sz = 4
            · rw [if_pos c4] at h1
              split at h1
              · cases h1
              · rename_i k hk
                split at hk
                · cases hk
                · rename_i hc
                  cases hk
                  obtain ⟨e1, e2⟩ := fr (by omega)
                  match r, hl', hc, h1 with
                  | x :: y :: z :: r, hl', hc, h1 =>
                    simp only [List.getD_cons_succ, List.getD_cons_zero] at hc
                    have hx : ¬ x.toNat < sgLow b := by omega
                    have hx2 : ¬ sgHigh b < x.toNat := by omega
                    have g1 := take_lead hb2 t (by rw [f4 c4]; decide)
                    rw [f4 c4] at g1
                    have g2 := take_more (n := 2) (t ++ [b]) hx hx2
                    rw [if_neg (by decide)] at g2
                    have g3 := take_more (n := 1) (b := y) (lo := 128) (hi := 191) (t ++ [b] ++ [x]) (by omega) (by omega)
                    rw [if_neg (by decide)] at g3
                    have g4 := take_more (n := 0) (b := z) (lo := 128) (hi := 191) (t ++ [b] ++ [x] ++ [y]) (by omega) (by omega)
                    rw [if_pos rfl] at g4
                    rw [List.flatMap_cons, List.flatMap_cons, List.flatMap_cons, List.flatMap_cons, qb_high hb2, qb_high (show 128 ≤ x.toNat by omega), qb_high (show 128 ≤ y.toNat by omega), qb_high (show 128 ≤ z.toNat by omega)]
                    show ssR _ (b :: x :: y :: z :: r.flatMap qb) = _
                    rw [ssR_one g1, ssR_one g2, ssR_one g3, ssR_one g4, ih r (by simp only [List.length_cons] at hl'; omega) h1.symm]
                    simp
                  | [x, y], _, hc, _ => exact absurd (show ([b, x, y] : List UInt8).length < 4 by simp) (fun h => hc (.inl h))
                  | [x], _, hc, _ => exact absurd (show ([b, x] : List UInt8).length < 4 by simp) (fun h => hc (.inl h))
                  | [], _, hc, _ => exact absurd (show ([b] : List UInt8).length < 4 by simp) (fun h => hc (.inl h))
            · rw [if_neg c4] at h1; cases h1
end Jb
end Go.Proofs.YtpaikjlcachabaaDoor
