import Derived.Test.YtikgonlhdkknkaaGreatDoorCuX
set_option maxRecDepth 100000
set_option maxHeartbeats 1600000
set_option linter.unusedVariables false
set_option linter.unusedSimpArgs false
open Go.Lib (hid)
namespace Go.Proofs.YtikgonlhdkknkaaGreatDoor
open Go.RowKit
namespace Co
open Dr (Rs Lm has lack at0S)
theorem tl_getD (s : ByteArray) (k : Nat) (h : k < s.size) : s.toList.getD k 0 = s[k] := by rw [List.getD, tl_get s k h]; rfl
def RetBb2 (b : Bool) (w : World) (e : Ending) (w' : World) : Prop := e = .returned (.bool b) ∧ Below w.heap.size w w'
def cdS (l : List UInt8) (c : Nat) : Nat → Nat
 | 0 => c
 | i + 1 => 64 * cdS l c i + (l.getD (i + 1) 0).toNat - 128
def contB (l : List UInt8) (i : Nat) : Bool := decide (128 ≤ (l.getD i 0).toNat ∧ (l.getD i 0).toNat ≤ 191)
def conts (l : List UInt8) : Nat → Bool
 | 0 => true
 | i + 1 => conts l i && contB l (i + 1)
def leastN (n : Nat) : Nat := if n = 2 then 128 else if n = 3 then 2048 else 65536
def utfM (l : List UInt8) (n c : Nat) : Nat :=
 if l.length < n then 0 else if conts l (n - 1) = false then 0
 else if cdS l c (n - 1) < leastN n ∨ 1114111 < cdS l c (n - 1) ∨ (55296 ≤ cdS l c (n - 1) ∧ cdS l c (n - 1) < 57344) then 0 else n
def utfP (l : List UInt8) : Nat :=
 if l = [] then 0 else if (l.getD 0 0).toNat < 128 then 1
 else if 192 ≤ (l.getD 0 0).toNat ∧ (l.getD 0 0).toNat < 224 then utfM l 2 ((l.getD 0 0).toNat - 192)
 else if 224 ≤ (l.getD 0 0).toNat ∧ (l.getD 0 0).toNat < 240 then utfM l 3 ((l.getD 0 0).toNat - 224)
 else if 240 ≤ (l.getD 0 0).toNat ∧ (l.getD 0 0).toNat < 248 then utfM l 4 ((l.getD 0 0).toNat - 240)
 else 0
theorem cdS_lt (l : List UInt8) (c : Nat) : ∀ i, conts l i = true → cdS l c i < (c + 1) * 64 ^ i
 | 0, _ => by rw [Nat.pow_zero, Nat.mul_one]; exact Nat.lt_succ_self c
 | i + 1, h => by
  rw [conts, Bool.and_eq_true] at h
  have h1 := cdS_lt l c i h.1
  have h2 : 128 ≤ (l.getD (i + 1) 0).toNat ∧ (l.getD (i + 1) 0).toNat ≤ 191 := of_decide_eq_true h.2
  obtain ⟨y, hy⟩ : ∃ y, (c + 1) * 64 ^ i = y := ⟨_, rfl⟩
  obtain ⟨x, hx⟩ : ∃ x, (l.getD (i + 1) 0).toNat = x := ⟨_, rfl⟩
  rw [hy] at h1
  rw [hx] at h2
  show 64 * cdS l c i + (l.getD (i + 1) 0).toNat - 128 < _
  rw [Nat.pow_succ, ← Nat.mul_assoc, hy, hx]
  omega
theorem conts_le (l : List UInt8) : ∀ {i j : Nat}, i ≤ j → conts l i = false → conts l j = false
 | i, 0, h, hf => by
  obtain rfl : i = 0 := by omega
  exact hf
 | i, j + 1, h, hf => by
  by_cases h1 : i = j + 1
  ·rw [← h1]; exact hf
  ·rw [conts, conts_le l (show i ≤ j by omega) hf]; rfl
theorem utfM_short {l : List UInt8} {n c : Nat} (h : l.length < n) : utfM l n c = 0 := by rw [utfM, if_pos h]
theorem utfM_cont {l : List UInt8} {n c i : Nat} (h : ¬ l.length < n) (hi : i ≤ n - 1) (hc : conts l i = false) : utfM l n c = 0 := by rw [utfM, if_neg h, if_pos (conts_le l hi hc)]
theorem utfM_code {l : List UInt8} {n c m : Nat} (h : ¬ l.length < n) (hc : conts l (n - 1) = true) (hm : cdS l c (n - 1) = m) : utfM l n c = if m < leastN n ∨ 1114111 < m ∨ (55296 ≤ m ∧ m < 57344) then 0 else n := by
 rw [utfM, if_neg h, if_neg (by rw [hc]; decide), hm]
theorem utfM2 {l : List UInt8} {n b1 c : Nat} (hn : l.length = n) (h1 : (l.getD 1 0).toNat = b1) : utfM l 2 c = if n < 2 ∨ b1 < 128 ∨ 191 < b1 ∨ 64 * c + b1 - 128 < 128 ∨ 1114111 < 64 * c + b1 - 128 ∨ (55296 ≤ 64 * c + b1 - 128 ∧ 64 * c + b1 - 128 < 57344) then 0 else 2 := by
 have e1 : conts l 1 = decide (128 ≤ b1 ∧ b1 ≤ 191) := by rw [← h1]; rfl
 have e2 : cdS l c 1 = 64 * c + b1 - 128 := by rw [← h1]; rfl
 rw [utfM, hn, show (2 - 1 : Nat) = 1 from rfl, e1, e2, show leastN 2 = 128 from rfl]
 obtain ⟨m, hm⟩ : ∃ m, 64 * c + b1 - 128 = m := ⟨_, rfl⟩
 rw [hm]
 by_cases q1 : n < 2
 ·rw [if_pos q1, if_pos (.inl q1)]
 ·rw [if_neg q1]
  by_cases q2 : 128 ≤ b1 ∧ b1 ≤ 191
  ·rw [dtr q2, if_neg (by decide)]
   by_cases q3 : m < 128 ∨ 1114111 < m ∨ (55296 ≤ m ∧ m < 57344)
   ·rw [if_pos q3, if_pos (by omega)]
   ·rw [if_neg q3, if_neg (by omega)]
  ·rw [dfa q2, if_pos rfl, if_pos (by omega)]
theorem utfM3 {l : List UInt8} {n b1 b2 c : Nat} (hn : l.length = n) (h1 : (l.getD 1 0).toNat = b1) (h2 : (l.getD 2 0).toNat = b2) : utfM l 3 c = if n < 3 ∨ b1 < 128 ∨ 191 < b1 ∨ b2 < 128 ∨ 191 < b2 ∨ 64 * (64 * c + b1 - 128) + b2 - 128 < 2048 ∨ 1114111 < 64 * (64 * c + b1 - 128) + b2 - 128 ∨ (55296 ≤ 64 * (64 * c + b1 - 128) + b2 - 128 ∧ 64 * (64 * c + b1 - 128) + b2 - 128 < 57344) then 0 else 3 := by
 have e1 : conts l 2 = (decide (128 ≤ b1 ∧ b1 ≤ 191) && decide (128 ≤ b2 ∧ b2 ≤ 191)) := by rw [← h1, ← h2]; rfl
 have e2 : cdS l c 2 = 64 * (64 * c + b1 - 128) + b2 - 128 := by rw [← h1, ← h2]; rfl
 rw [utfM, hn, show (3 - 1 : Nat) = 2 from rfl, e1, e2, show leastN 3 = 2048 from rfl, ← Bool.decide_and]
 obtain ⟨m, hm⟩ : ∃ m, 64 * (64 * c + b1 - 128) + b2 - 128 = m := ⟨_, rfl⟩
 rw [hm]
 by_cases q1 : n < 3
 ·rw [if_pos q1, if_pos (.inl q1)]
 ·rw [if_neg q1]
  by_cases q2 : (128 ≤ b1 ∧ b1 ≤ 191) ∧ (128 ≤ b2 ∧ b2 ≤ 191)
  ·rw [dtr q2, if_neg (by decide)]
   by_cases q3 : m < 2048 ∨ 1114111 < m ∨ (55296 ≤ m ∧ m < 57344)
   ·rw [if_pos q3, if_pos (by omega)]
   ·rw [if_neg q3, if_neg (by omega)]
  ·rw [dfa q2, if_pos rfl, if_pos (by omega)]
theorem utfM4 {l : List UInt8} {n b1 b2 b3 c : Nat} (hn : l.length = n) (h1 : (l.getD 1 0).toNat = b1) (h2 : (l.getD 2 0).toNat = b2) (h3 : (l.getD 3 0).toNat = b3) : utfM l 4 c = if n < 4 ∨ b1 < 128 ∨ 191 < b1 ∨ b2 < 128 ∨ 191 < b2 ∨ b3 < 128 ∨ 191 < b3 ∨ 64 * (64 * (64 * c + b1 - 128) + b2 - 128) + b3 - 128 < 65536 ∨ 1114111 < 64 * (64 * (64 * c + b1 - 128) + b2 - 128) + b3 - 128 ∨ (55296 ≤ 64 * (64 * (64 * c + b1 - 128) + b2 - 128) + b3 - 128 ∧ 64 * (64 * (64 * c + b1 - 128) + b2 - 128) + b3 - 128 < 57344) then 0 else 4 := by
 have e1 : conts l 3 = ((decide (128 ≤ b1 ∧ b1 ≤ 191) && decide (128 ≤ b2 ∧ b2 ≤ 191)) && decide (128 ≤ b3 ∧ b3 ≤ 191)) := by rw [← h1, ← h2, ← h3]; rfl
 have e2 : cdS l c 3 = 64 * (64 * (64 * c + b1 - 128) + b2 - 128) + b3 - 128 := by rw [← h1, ← h2, ← h3]; rfl
 rw [utfM, hn, show (4 - 1 : Nat) = 3 from rfl, e1, e2, show leastN 4 = 65536 from rfl, ← Bool.decide_and, ← Bool.decide_and]
 obtain ⟨m, hm⟩ : ∃ m, 64 * (64 * (64 * c + b1 - 128) + b2 - 128) + b3 - 128 = m := ⟨_, rfl⟩
 rw [hm]
 by_cases q1 : n < 4
 ·rw [if_pos q1, if_pos (.inl q1)]
 ·rw [if_neg q1]
  by_cases q2 : ((128 ≤ b1 ∧ b1 ≤ 191) ∧ (128 ≤ b2 ∧ b2 ≤ 191)) ∧ (128 ≤ b3 ∧ b3 ≤ 191)
  ·rw [dtr q2, if_neg (by decide)]
   by_cases q3 : m < 65536 ∨ 1114111 < m ∨ (55296 ≤ m ∧ m < 57344)
   ·rw [if_pos q3, if_pos (by omega)]
   ·rw [if_neg q3, if_neg (by omega)]
  ·rw [dfa q2, if_pos rfl, if_pos (by omega)]
theorem ck_eq {P Q : Prop} [Decidable P] [Decidable Q] (k : Nat) (h : P ↔ Q) : (if P then 0 else k) = (match (if Q then none else some k : Option Nat) with | none => 0 | some k => k) := by
 by_cases hq : Q
 ·rw [if_pos hq, if_pos (h.2 hq)]
 ·rw [if_neg hq, if_neg (fun hp => hq (h.1 hp))]
theorem first_cases (b : Nat) (h : 128 ≤ b) (h2 : b < 256) : 
  ((b < 194 ∨ 244 < b) ∧ Lib.firstT b % 8 = 1) ∨
  (194 ≤ b ∧ b < 224 ∧ Lib.firstT b % 8 = 2 ∧ Lib.accLo (Lib.firstT b / 16) = 128 ∧ Lib.accHi (Lib.firstT b / 16) = 191) ∨
  (b = 224 ∧ Lib.firstT b % 8 = 3 ∧ Lib.accLo (Lib.firstT b / 16) = 160 ∧ Lib.accHi (Lib.firstT b / 16) = 191) ∨
  (224 < b ∧ b < 240 ∧ b ≠ 237 ∧ Lib.firstT b % 8 = 3 ∧ Lib.accLo (Lib.firstT b / 16) = 128 ∧ Lib.accHi (Lib.firstT b / 16) = 191) ∨
  (b = 237 ∧ Lib.firstT b % 8 = 3 ∧ Lib.accLo (Lib.firstT b / 16) = 128 ∧ Lib.accHi (Lib.firstT b / 16) = 159) ∨
  (b = 240 ∧ Lib.firstT b % 8 = 4 ∧ Lib.accLo (Lib.firstT b / 16) = 144 ∧ Lib.accHi (Lib.firstT b / 16) = 191) ∨
  (240 < b ∧ b < 244 ∧ Lib.firstT b % 8 = 4 ∧ Lib.accLo (Lib.firstT b / 16) = 128 ∧ Lib.accHi (Lib.firstT b / 16) = 191) ∨
  (b = 244 ∧ Lib.firstT b % 8 = 4 ∧ Lib.accLo (Lib.firstT b / 16) = 128 ∧ Lib.accHi (Lib.firstT b / 16) = 143) := by
 have : ∀ i : Fin 256, 128 ≤ i.val → (((i.val < 194 ∨ 244 < i.val) ∧ Lib.firstT i.val % 8 = 1) ∨
  (194 ≤ i.val ∧ i.val < 224 ∧ Lib.firstT i.val % 8 = 2 ∧ Lib.accLo (Lib.firstT i.val / 16) = 128 ∧ Lib.accHi (Lib.firstT i.val / 16) = 191) ∨
  (i.val = 224 ∧ Lib.firstT i.val % 8 = 3 ∧ Lib.accLo (Lib.firstT i.val / 16) = 160 ∧ Lib.accHi (Lib.firstT i.val / 16) = 191) ∨
  (224 < i.val ∧ i.val < 240 ∧ i.val ≠ 237 ∧ Lib.firstT i.val % 8 = 3 ∧ Lib.accLo (Lib.firstT i.val / 16) = 128 ∧ Lib.accHi (Lib.firstT i.val / 16) = 191) ∨
  (i.val = 237 ∧ Lib.firstT i.val % 8 = 3 ∧ Lib.accLo (Lib.firstT i.val / 16) = 128 ∧ Lib.accHi (Lib.firstT i.val / 16) = 159) ∨
  (i.val = 240 ∧ Lib.firstT i.val % 8 = 4 ∧ Lib.accLo (Lib.firstT i.val / 16) = 144 ∧ Lib.accHi (Lib.firstT i.val / 16) = 191) ∨
  (240 < i.val ∧ i.val < 244 ∧ Lib.firstT i.val % 8 = 4 ∧ Lib.accLo (Lib.firstT i.val / 16) = 128 ∧ Lib.accHi (Lib.firstT i.val / 16) = 191) ∨
  (i.val = 244 ∧ Lib.firstT i.val % 8 = 4 ∧ Lib.accLo (Lib.firstT i.val / 16) = 128 ∧ Lib.accHi (Lib.firstT i.val / 16) = 143)) := by decide +kernel
 exact this ⟨b, h2⟩ h
theorem validD_utf (l : List UInt8) (hne : l ≠ []) : Lib.validD l = if utfP l = 0 then false else Lib.validD (l.drop (utfP l)) := by
 by_cases h0 : (l.getD 0 0).toNat < 128
 ·rw [show utfP l = 1 by rw [utfP, if_neg hne, if_pos h0], if_neg (by decide)]
  cases l with
  | nil => exact absurd rfl hne
  | cons b t => exact Lib.validD_cons b t h0
 ·have hl : 0 < l.length := List.length_pos_iff.2 hne
  rw [Lib.validD_lead l hne (by omega)]
  obtain ⟨n, hn⟩ : ∃ n, l.length = n := ⟨_, rfl⟩
  obtain ⟨b0, h00⟩ : ∃ n, (l.getD 0 0).toNat = n := ⟨_, rfl⟩
  obtain ⟨b1, h01⟩ : ∃ n, (l.getD 1 0).toNat = n := ⟨_, rfl⟩
  obtain ⟨b2, h02⟩ : ∃ n, (l.getD 2 0).toNat = n := ⟨_, rfl⟩
  obtain ⟨b3, h03⟩ : ∃ n, (l.getD 3 0).toNat = n := ⟨_, rfl⟩
  have k0 : b0 < 256 := by rw [← h00]; exact (l.getD 0 0).toNat_lt
  have hU : utfP l = (match Lib.checkN n b1 b2 b3 (Lib.firstT b0 % 8) (Lib.accLo (Lib.firstT b0 / 16)) (Lib.accHi (Lib.firstT b0 / 16)) with
   | none => 0
   | some k => k) := by
   rw [utfP, if_neg hne, if_neg h0, utfM2 hn h01, utfM3 hn h01 h02, utfM4 hn h01 h02 h03, h00]
   rw [h00] at h0
   rcases first_cases b0 (by omega) k0 with ⟨h1, h2⟩ | ⟨h1, h1b, h2, h3, h4⟩ | ⟨h1, h2, h3, h4⟩ | ⟨h1, h1b, h1c, h2, h3, h4⟩ | ⟨h1, h2, h3, h4⟩ | ⟨h1, h2, h3, h4⟩ | ⟨h1, h1b, h2, h3, h4⟩ | ⟨h1, h2, h3, h4⟩
   ·rw [h2, Lib.checkN, if_neg (show ¬ (1 : Nat) = 2 by decide), if_neg (show ¬ (1 : Nat) = 3 by decide), if_neg (show ¬ (1 : Nat) = 4 by decide)]
    show _ = 0
    by_cases c1 : 192 ≤ b0 ∧ b0 < 224
    ·rw [if_pos c1]
     by_cases c2 : n < 2 ∨ b1 < 128 ∨ 191 < b1
     ·rw [if_pos (by omega)]
     ·rw [if_pos (by omega)]
    ·rw [if_neg c1, if_neg (by omega)]
     by_cases c3 : 240 ≤ b0 ∧ b0 < 248
     ·rw [if_pos c3]
      by_cases c2 : n < 4 ∨ b1 < 128 ∨ 191 < b1 ∨ b2 < 128 ∨ 191 < b2 ∨ b3 < 128 ∨ 191 < b3
      ·rw [if_pos (by omega)]
      ·rw [if_pos (by omega)]
     ·rw [if_neg c3]
   ·rw [h2, h3, h4, Lib.checkN, if_pos (show (2 : Nat) = 2 from rfl), if_pos (show 192 ≤ b0 ∧ b0 < 224 by omega)]
    exact ck_eq 2 (by omega)
   ·rw [h2, h3, h4, Lib.checkN, if_neg (show ¬ (3 : Nat) = 2 by decide), if_pos (show (3 : Nat) = 3 from rfl), if_neg (show ¬ (192 ≤ b0 ∧ b0 < 224) by omega), if_pos (show 224 ≤ b0 ∧ b0 < 240 by omega)]
    exact ck_eq 3 (by omega)
   ·rw [h2, h3, h4, Lib.checkN, if_neg (show ¬ (3 : Nat) = 2 by decide), if_pos (show (3 : Nat) = 3 from rfl), if_neg (show ¬ (192 ≤ b0 ∧ b0 < 224) by omega), if_pos (show 224 ≤ b0 ∧ b0 < 240 by omega)]
    exact ck_eq 3 (by omega)
   ·rw [h2, h3, h4, Lib.checkN, if_neg (show ¬ (3 : Nat) = 2 by decide), if_pos (show (3 : Nat) = 3 from rfl), if_neg (show ¬ (192 ≤ b0 ∧ b0 < 224) by omega), if_pos (show 224 ≤ b0 ∧ b0 < 240 by omega)]
    exact ck_eq 3 (by omega)
   ·rw [h2, h3, h4, Lib.checkN, if_neg (show ¬ (4 : Nat) = 2 by decide), if_neg (show ¬ (4 : Nat) = 3 by decide), if_pos (show (4 : Nat) = 4 from rfl), if_neg (show ¬ (192 ≤ b0 ∧ b0 < 224) by omega), if_neg (show ¬ (224 ≤ b0 ∧ b0 < 240) by omega), if_pos (show 240 ≤ b0 ∧ b0 < 248 by omega)]
    exact ck_eq 4 (by omega)
   ·rw [h2, h3, h4, Lib.checkN, if_neg (show ¬ (4 : Nat) = 2 by decide), if_neg (show ¬ (4 : Nat) = 3 by decide), if_pos (show (4 : Nat) = 4 from rfl), if_neg (show ¬ (192 ≤ b0 ∧ b0 < 224) by omega), if_neg (show ¬ (224 ≤ b0 ∧ b0 < 240) by omega), if_pos (show 240 ≤ b0 ∧ b0 < 248 by omega)]
    exact ck_eq 4 (by omega)
   ·rw [h2, h3, h4, Lib.checkN, if_neg (show ¬ (4 : Nat) = 2 by decide), if_neg (show ¬ (4 : Nat) = 3 by decide), if_pos (show (4 : Nat) = 4 from rfl), if_neg (show ¬ (192 ≤ b0 ∧ b0 < 224) by omega), if_neg (show ¬ (224 ≤ b0 ∧ b0 < 240) by omega), if_pos (show 240 ≤ b0 ∧ b0 < 248 by omega)]
    exact ck_eq 4 (by omega)
  rw [hn, h00, h01, h02, h03, hU]
  cases hc : Lib.checkN n b1 b2 b3 (Lib.firstT b0 % 8) (Lib.accLo (Lib.firstT b0 / 16)) (Lib.accHi (Lib.firstT b0 / 16)) with
  | none => rfl
  | some k =>
   dsimp only
   rw [if_neg]
   unfold Lib.checkN at hc
   repeat' split at hc
   all_goals first | (cases hc; decide) | cases hc
def RetI (n : Nat) (w : World) (e : Ending) (w' : World) : Prop := e = .returned (.int .i64 (n : Int)) ∧ Below w.heap.size w w'
theorem utf_2 (s : ByteArray) (b : Nat) (hb : (s.toList.getD 0 0).toNat = b) (h0 : 0 < s.size) (h1 : 192 ≤ b) (h2 : b < 224) (w : World) : Calls Tryz.prog 100 #[.string s] w (RetI (utfM s.toList 2 (b - 192)) w) := by
 obtain ⟨R, hR⟩ : ∃ R, utfM s.toList 2 (b - 192) = R := ⟨_, rfl⟩
 rw [hR]
 have hsp : (s[0]'h0).toNat = b := by rw [← tl_getD s 0 h0]; exact hb
 have hwb : IntKind.i64.wrap (b : Int) = (b : Int) := wrap_fit b (by unfold maxLen; omega)
 have e0 : ¬ (s.size : Int) = 0 := by omega
 have e1 : ¬ (b : Int) < 128 := by omega
 have c0 : (192 : Int) ≤ (b : Int) := by omega
 have c1 : (b : Int) < 224 := by omega
 obtain ⟨c, hc⟩ : ∃ c, b - 192 = c := ⟨_, rfl⟩
 have ec : (b : Int) - 192 = (c : Int) := by omega
 have hc2 : c < 32 := by omega
 rw [hc] at hR
 by_cases h3 : s.size < 2
 ·have e3 : (s.size : Int) < 2 := by omega
  obtain rfl : R = 0 := by rw [← hR]; exact utfM_short (by rw [tl_size]; exact h3)
  clear hR hb h1 h2 hc h3 hc2
  go_enter Tryz.func100, Tryz.ntmps100
  go_wp2_with fail
  go_ret
  exact ⟨rfl, Below.refl _ _⟩
 ·have e3 : ¬ (s.size : Int) < 2 := by omega
  have HR := hid (aIn hR (aIn h3 hc2))
  clear hR hb h1 h2 hc hc2
  go_enter Tryz.func100, Tryz.ntmps100
  go_wp2_with fail
  go_loop [4, 6] (fun vc vi => ∃ i m : Nat, vi = .int .i64 ((i + 1 : Nat) : Int) ∧ vc = .int .i64 (m : Int) ∧ i ≤ 1 ∧ conts s.toList i = true ∧ cdS s.toList c i = m) (fun _ vi => 2 - (intOf vi).toNat)
  case atStart => exact ⟨0, c, rfl, rfl, by omega, rfl, rfl⟩
  case round =>
   obtain ⟨i, m, rfl, rfl, hi, hco, hcd⟩ := hrel
   have hm : m < 32 * 64 ^ i := by
    have h4 := cdS_lt s.toList c i hco
    rw [hcd] at h4
    exact nlt h4 (Nat.mul_le_mul_right _ HR.out.2.2)
   have hm2 : m < 8388608 := nlt hm (Nat.le_trans (Nat.mul_le_mul_left 32 (Nat.pow_le_pow_right (by decide) (show i ≤ 3 by omega))) (by decide))
   by_cases hin : i < 1
   ·have hlt : i + 1 < s.size := by omega
    obtain ⟨d, hd⟩ : ∃ d, (s.toList.getD (i + 1) 0).toNat = d := ⟨_, rfl⟩
    have hd2 : d < 256 := by rw [← hd]; exact (s.toList.getD (i + 1) 0).toNat_lt
    have hsd : s[i + 1].toNat = d := by rw [← tl_getD s _ hlt]; exact hd
    have hwd : IntKind.i64.wrap (d : Int) = (d : Int) := wrap_fit d (by unfold maxLen; omega)
    have e6 : ((i + 1 : Nat) : Int) < 2 := by omega
    have hct : contB s.toList (i + 1) = decide (128 ≤ d ∧ d ≤ 191) := by rw [contB, hd]
    by_cases h5 : 128 ≤ d ∧ d ≤ 191
    ·have e7 : ¬ (d : Int) < 128 := by omega
     have e8 : ¬ (191 : Int) < (d : Int) := by omega
     have e7b : decide ((d : Int) < 128) = false := dfa e7
     have e8b : decide ((191 : Int) < (d : Int)) = false := dfa e8
     obtain ⟨y, hy⟩ : ∃ y, 64 * m = y := ⟨_, rfl⟩
     obtain ⟨z, hz⟩ : ∃ z, y + d = z := ⟨_, rfl⟩
     obtain ⟨x, hx⟩ : ∃ x, z - 128 = x := ⟨_, rfl⟩
     have e9 : 64 * (m : Int) = (y : Int) := by omega
     have e10 : (y : Int) + (d : Int) = (z : Int) := by omega
     have e11 : (z : Int) - 128 = (x : Int) := by omega
     have e12 : IntKind.i64.wrap (y : Int) = (y : Int) := wrap_fit y (by unfold maxLen; omega)
     have e13 : IntKind.i64.wrap (z : Int) = (z : Int) := wrap_fit z (by unfold maxLen; omega)
     have e14 : IntKind.i64.wrap (x : Int) = (x : Int) := wrap_fit x (by unfold maxLen; omega)
     have HN : Hid (conts s.toList (i + 1) = true ∧ cdS s.toList c (i + 1) = x) := by
      refine ⟨by rw [conts, hco, hct, dtr h5]; rfl, ?_⟩
      show 64 * cdS s.toList c i + (s.toList.getD (i + 1) 0).toNat - 128 = x
      rw [hcd, hd, hy, hz, hx]
     have HI := hid hin
     clear h5 hct hd hd2 hm hm2 hco hcd hi hy hz hx hin
     go_wp2_with fail
     go_round
     case rel => exact ⟨i + 1, x, by go_num, rfl, by have := HI.out; omega, HN.out.1, HN.out.2⟩
     case measure => have := HI.out; simp [intOf]; omega
    ·obtain rfl : R = 0 := by
      rw [← HR.out.1]
      exact utfM_cont (i := i + 1) (by rw [tl_size]; exact h3) (by omega) (by rw [conts, hct, dfa h5]; exact Bool.and_false _)
     by_cases h6 : d < 128
     ·have e7 : (d : Int) < 128 := by omega
      clear h5 hct hd hd2 hm hm2 hco hcd hi hin h6
      go_wp2_with fail
      go_ret
      exact ⟨rfl, Below.refl _ _⟩
     ·have e7 : ¬ (d : Int) < 128 := by omega
      have e8 : (191 : Int) < (d : Int) := by omega
      clear h5 hct hd hd2 hm hm2 hco hcd hi hin h6
      go_wp2_with fail
      go_ret
      exact ⟨rfl, Below.refl _ _⟩
   ·obtain rfl : i = 1 := by omega
    have hmx := utfM_code (n := 2) (by rw [tl_size]; exact h3) hco hcd
    rw [HR.out.1, show leastN 2 = 128 from rfl] at hmx
    have HB : Hid (Below w.heap.size w (w.alloc (Obj.cells #[.int .i64 0, .int .i64 0, .int .i64 128, .int .i64 2048, .int .i64 65536] 186))) := (Below.refl _ _).alloc (nle _) _
    clear hm hm2 hco hcd hi hin
    by_cases h5 : m < 128
    ·have e5 : (m : Int) < 128 := by omega
     rw [if_pos (.inl h5)] at hmx
     subst hmx
     clear h5
     go_wp2_with fail
     go_ret
     exact ⟨rfl, HB.out⟩
    ·have e5 : ¬ (m : Int) < 128 := by omega
     have e5b : decide ((m : Int) < 128) = false := dfa e5
     by_cases h6 : 1114111 < m
     ·have e6 : (1114111 : Int) < (m : Int) := by omega
      rw [if_pos (.inr (.inl h6))] at hmx
      subst hmx
      clear h5 h6
      go_wp2_with fail
      go_ret
      exact ⟨rfl, HB.out⟩
     ·have e6 : ¬ (1114111 : Int) < (m : Int) := by omega
      have e6b : decide ((1114111 : Int) < (m : Int)) = false := dfa e6
      by_cases h7 : 55296 ≤ m
      ·have e7 : (55296 : Int) ≤ (m : Int) := by omega
       by_cases h8 : m < 57344
       ·have e8 : (m : Int) < 57344 := by omega
        rw [if_pos (.inr (.inr ⟨h7, h8⟩))] at hmx
        subst hmx
        clear h5 h6 h7 h8
        go_wp2_with fail
        go_ret
        exact ⟨rfl, HB.out⟩
       ·have e8 : ¬ (m : Int) < 57344 := by omega
        have e8b : decide ((m : Int) < 57344) = false := dfa e8
        rw [if_neg (by omega)] at hmx
        subst hmx
        clear h5 h6 h7 h8
        go_wp2_with fail
        go_ret
        exact ⟨rfl, HB.out⟩
      ·have e7 : ¬ (55296 : Int) ≤ (m : Int) := by omega
       have e7b : decide ((55296 : Int) ≤ (m : Int)) = false := dfa e7
       rw [if_neg (by omega)] at hmx
       subst hmx
       clear h5 h6 h7
       go_wp2_with fail
       go_ret
       exact ⟨rfl, HB.out⟩
theorem utf_3 (s : ByteArray) (b : Nat) (hb : (s.toList.getD 0 0).toNat = b) (h0 : 0 < s.size) (h1 : 224 ≤ b) (h2 : b < 240) (w : World) : Calls Tryz.prog 100 #[.string s] w (RetI (utfM s.toList 3 (b - 224)) w) := by
 obtain ⟨R, hR⟩ : ∃ R, utfM s.toList 3 (b - 224) = R := ⟨_, rfl⟩
 rw [hR]
 have hsp : (s[0]'h0).toNat = b := by rw [← tl_getD s 0 h0]; exact hb
 have hwb : IntKind.i64.wrap (b : Int) = (b : Int) := wrap_fit b (by unfold maxLen; omega)
 have e0 : ¬ (s.size : Int) = 0 := by omega
 have e1 : ¬ (b : Int) < 128 := by omega
 have c0 : ¬ (b : Int) < 224 := by omega
 have c1 : (192 : Int) ≤ (b : Int) := by omega
 have c2 : (224 : Int) ≤ (b : Int) := by omega
 have c3 : (b : Int) < 240 := by omega
 obtain ⟨c, hc⟩ : ∃ c, b - 224 = c := ⟨_, rfl⟩
 have ec : (b : Int) - 224 = (c : Int) := by omega
 have hc2 : c < 32 := by omega
 rw [hc] at hR
 by_cases h3 : s.size < 3
 ·have e3 : (s.size : Int) < 3 := by omega
  obtain rfl : R = 0 := by rw [← hR]; exact utfM_short (by rw [tl_size]; exact h3)
  clear hR hb h1 h2 hc h3 hc2
  go_enter Tryz.func100, Tryz.ntmps100
  go_wp2_with fail
  go_ret
  exact ⟨rfl, Below.refl _ _⟩
 ·have e3 : ¬ (s.size : Int) < 3 := by omega
  have HR := hid (aIn hR (aIn h3 hc2))
  clear hR hb h1 h2 hc hc2
  go_enter Tryz.func100, Tryz.ntmps100
  go_wp2_with fail
  go_loop [4, 6] (fun vc vi => ∃ i m : Nat, vi = .int .i64 ((i + 1 : Nat) : Int) ∧ vc = .int .i64 (m : Int) ∧ i ≤ 2 ∧ conts s.toList i = true ∧ cdS s.toList c i = m) (fun _ vi => 3 - (intOf vi).toNat)
  case atStart => exact ⟨0, c, rfl, rfl, by omega, rfl, rfl⟩
  case round =>
   obtain ⟨i, m, rfl, rfl, hi, hco, hcd⟩ := hrel
   have hm : m < 32 * 64 ^ i := by
    have h4 := cdS_lt s.toList c i hco
    rw [hcd] at h4
    exact nlt h4 (Nat.mul_le_mul_right _ HR.out.2.2)
   have hm2 : m < 8388608 := nlt hm (Nat.le_trans (Nat.mul_le_mul_left 32 (Nat.pow_le_pow_right (by decide) (show i ≤ 3 by omega))) (by decide))
   by_cases hin : i < 2
   ·have hlt : i + 1 < s.size := by omega
    obtain ⟨d, hd⟩ : ∃ d, (s.toList.getD (i + 1) 0).toNat = d := ⟨_, rfl⟩
    have hd2 : d < 256 := by rw [← hd]; exact (s.toList.getD (i + 1) 0).toNat_lt
    have hsd : s[i + 1].toNat = d := by rw [← tl_getD s _ hlt]; exact hd
    have hwd : IntKind.i64.wrap (d : Int) = (d : Int) := wrap_fit d (by unfold maxLen; omega)
    have e6 : ((i + 1 : Nat) : Int) < 3 := by omega
    have hct : contB s.toList (i + 1) = decide (128 ≤ d ∧ d ≤ 191) := by rw [contB, hd]
    by_cases h5 : 128 ≤ d ∧ d ≤ 191
    ·have e7 : ¬ (d : Int) < 128 := by omega
     have e8 : ¬ (191 : Int) < (d : Int) := by omega
     have e7b : decide ((d : Int) < 128) = false := dfa e7
     have e8b : decide ((191 : Int) < (d : Int)) = false := dfa e8
     obtain ⟨y, hy⟩ : ∃ y, 64 * m = y := ⟨_, rfl⟩
     obtain ⟨z, hz⟩ : ∃ z, y + d = z := ⟨_, rfl⟩
     obtain ⟨x, hx⟩ : ∃ x, z - 128 = x := ⟨_, rfl⟩
     have e9 : 64 * (m : Int) = (y : Int) := by omega
     have e10 : (y : Int) + (d : Int) = (z : Int) := by omega
     have e11 : (z : Int) - 128 = (x : Int) := by omega
     have e12 : IntKind.i64.wrap (y : Int) = (y : Int) := wrap_fit y (by unfold maxLen; omega)
     have e13 : IntKind.i64.wrap (z : Int) = (z : Int) := wrap_fit z (by unfold maxLen; omega)
     have e14 : IntKind.i64.wrap (x : Int) = (x : Int) := wrap_fit x (by unfold maxLen; omega)
     have HN : Hid (conts s.toList (i + 1) = true ∧ cdS s.toList c (i + 1) = x) := by
      refine ⟨by rw [conts, hco, hct, dtr h5]; rfl, ?_⟩
      show 64 * cdS s.toList c i + (s.toList.getD (i + 1) 0).toNat - 128 = x
      rw [hcd, hd, hy, hz, hx]
     have HI := hid hin
     clear h5 hct hd hd2 hm hm2 hco hcd hi hy hz hx hin
     go_wp2_with fail
     go_round
     case rel => exact ⟨i + 1, x, by go_num, rfl, by have := HI.out; omega, HN.out.1, HN.out.2⟩
     case measure => have := HI.out; simp [intOf]; omega
    ·obtain rfl : R = 0 := by
      rw [← HR.out.1]
      exact utfM_cont (i := i + 1) (by rw [tl_size]; exact h3) (by omega) (by rw [conts, hct, dfa h5]; exact Bool.and_false _)
     by_cases h6 : d < 128
     ·have e7 : (d : Int) < 128 := by omega
      clear h5 hct hd hd2 hm hm2 hco hcd hi hin h6
      go_wp2_with fail
      go_ret
      exact ⟨rfl, Below.refl _ _⟩
     ·have e7 : ¬ (d : Int) < 128 := by omega
      have e8 : (191 : Int) < (d : Int) := by omega
      clear h5 hct hd hd2 hm hm2 hco hcd hi hin h6
      go_wp2_with fail
      go_ret
      exact ⟨rfl, Below.refl _ _⟩
   ·obtain rfl : i = 2 := by omega
    have hmx := utfM_code (n := 3) (by rw [tl_size]; exact h3) hco hcd
    rw [HR.out.1, show leastN 3 = 2048 from rfl] at hmx
    have HB : Hid (Below w.heap.size w (w.alloc (Obj.cells #[.int .i64 0, .int .i64 0, .int .i64 128, .int .i64 2048, .int .i64 65536] 186))) := (Below.refl _ _).alloc (nle _) _
    clear hm hm2 hco hcd hi hin
    by_cases h5 : m < 2048
    ·have e5 : (m : Int) < 2048 := by omega
     rw [if_pos (.inl h5)] at hmx
     subst hmx
     clear h5
     go_wp2_with fail
     go_ret
     exact ⟨rfl, HB.out⟩
    ·have e5 : ¬ (m : Int) < 2048 := by omega
     have e5b : decide ((m : Int) < 2048) = false := dfa e5
     by_cases h6 : 1114111 < m
     ·have e6 : (1114111 : Int) < (m : Int) := by omega
      rw [if_pos (.inr (.inl h6))] at hmx
      subst hmx
      clear h5 h6
      go_wp2_with fail
      go_ret
      exact ⟨rfl, HB.out⟩
     ·have e6 : ¬ (1114111 : Int) < (m : Int) := by omega
      have e6b : decide ((1114111 : Int) < (m : Int)) = false := dfa e6
      by_cases h7 : 55296 ≤ m
      ·have e7 : (55296 : Int) ≤ (m : Int) := by omega
       by_cases h8 : m < 57344
       ·have e8 : (m : Int) < 57344 := by omega
        rw [if_pos (.inr (.inr ⟨h7, h8⟩))] at hmx
        subst hmx
        clear h5 h6 h7 h8
        go_wp2_with fail
        go_ret
        exact ⟨rfl, HB.out⟩
       ·have e8 : ¬ (m : Int) < 57344 := by omega
        have e8b : decide ((m : Int) < 57344) = false := dfa e8
        rw [if_neg (by omega)] at hmx
        subst hmx
        clear h5 h6 h7 h8
        go_wp2_with fail
        go_ret
        exact ⟨rfl, HB.out⟩
      ·have e7 : ¬ (55296 : Int) ≤ (m : Int) := by omega
       have e7b : decide ((55296 : Int) ≤ (m : Int)) = false := dfa e7
       rw [if_neg (by omega)] at hmx
       subst hmx
       clear h5 h6 h7
       go_wp2_with fail
       go_ret
       exact ⟨rfl, HB.out⟩
theorem utf_4 (s : ByteArray) (b : Nat) (hb : (s.toList.getD 0 0).toNat = b) (h0 : 0 < s.size) (h1 : 240 ≤ b) (h2 : b < 248) (w : World) : Calls Tryz.prog 100 #[.string s] w (RetI (utfM s.toList 4 (b - 240)) w) := by
 obtain ⟨R, hR⟩ : ∃ R, utfM s.toList 4 (b - 240) = R := ⟨_, rfl⟩
 rw [hR]
 have hsp : (s[0]'h0).toNat = b := by rw [← tl_getD s 0 h0]; exact hb
 have hwb : IntKind.i64.wrap (b : Int) = (b : Int) := wrap_fit b (by unfold maxLen; omega)
 have e0 : ¬ (s.size : Int) = 0 := by omega
 have e1 : ¬ (b : Int) < 128 := by omega
 have c0 : ¬ (b : Int) < 224 := by omega
 have c1 : (192 : Int) ≤ (b : Int) := by omega
 have c2 : (224 : Int) ≤ (b : Int) := by omega
 have c3 : ¬ (b : Int) < 240 := by omega
 have c4 : (240 : Int) ≤ (b : Int) := by omega
 have c5 : (b : Int) < 248 := by omega
 obtain ⟨c, hc⟩ : ∃ c, b - 240 = c := ⟨_, rfl⟩
 have ec : (b : Int) - 240 = (c : Int) := by omega
 have hc2 : c < 32 := by omega
 rw [hc] at hR
 by_cases h3 : s.size < 4
 ·have e3 : (s.size : Int) < 4 := by omega
  obtain rfl : R = 0 := by rw [← hR]; exact utfM_short (by rw [tl_size]; exact h3)
  clear hR hb h1 h2 hc h3 hc2
  go_enter Tryz.func100, Tryz.ntmps100
  go_wp2_with fail
  go_ret
  exact ⟨rfl, Below.refl _ _⟩
 ·have e3 : ¬ (s.size : Int) < 4 := by omega
  have HR := hid (aIn hR (aIn h3 hc2))
  clear hR hb h1 h2 hc hc2
  go_enter Tryz.func100, Tryz.ntmps100
  go_wp2_with fail
  go_loop [4, 6] (fun vc vi => ∃ i m : Nat, vi = .int .i64 ((i + 1 : Nat) : Int) ∧ vc = .int .i64 (m : Int) ∧ i ≤ 3 ∧ conts s.toList i = true ∧ cdS s.toList c i = m) (fun _ vi => 4 - (intOf vi).toNat)
  case atStart => exact ⟨0, c, rfl, rfl, by omega, rfl, rfl⟩
  case round =>
   obtain ⟨i, m, rfl, rfl, hi, hco, hcd⟩ := hrel
   have hm : m < 32 * 64 ^ i := by
    have h4 := cdS_lt s.toList c i hco
    rw [hcd] at h4
    exact nlt h4 (Nat.mul_le_mul_right _ HR.out.2.2)
   have hm2 : m < 8388608 := nlt hm (Nat.le_trans (Nat.mul_le_mul_left 32 (Nat.pow_le_pow_right (by decide) (show i ≤ 3 by omega))) (by decide))
   by_cases hin : i < 3
   ·have hlt : i + 1 < s.size := by omega
    obtain ⟨d, hd⟩ : ∃ d, (s.toList.getD (i + 1) 0).toNat = d := ⟨_, rfl⟩
    have hd2 : d < 256 := by rw [← hd]; exact (s.toList.getD (i + 1) 0).toNat_lt
    have hsd : s[i + 1].toNat = d := by rw [← tl_getD s _ hlt]; exact hd
    have hwd : IntKind.i64.wrap (d : Int) = (d : Int) := wrap_fit d (by unfold maxLen; omega)
    have e6 : ((i + 1 : Nat) : Int) < 4 := by omega
    have hct : contB s.toList (i + 1) = decide (128 ≤ d ∧ d ≤ 191) := by rw [contB, hd]
    by_cases h5 : 128 ≤ d ∧ d ≤ 191
    ·have e7 : ¬ (d : Int) < 128 := by omega
     have e8 : ¬ (191 : Int) < (d : Int) := by omega
     have e7b : decide ((d : Int) < 128) = false := dfa e7
     have e8b : decide ((191 : Int) < (d : Int)) = false := dfa e8
     obtain ⟨y, hy⟩ : ∃ y, 64 * m = y := ⟨_, rfl⟩
     obtain ⟨z, hz⟩ : ∃ z, y + d = z := ⟨_, rfl⟩
     obtain ⟨x, hx⟩ : ∃ x, z - 128 = x := ⟨_, rfl⟩
     have e9 : 64 * (m : Int) = (y : Int) := by omega
     have e10 : (y : Int) + (d : Int) = (z : Int) := by omega
     have e11 : (z : Int) - 128 = (x : Int) := by omega
     have e12 : IntKind.i64.wrap (y : Int) = (y : Int) := wrap_fit y (by unfold maxLen; omega)
     have e13 : IntKind.i64.wrap (z : Int) = (z : Int) := wrap_fit z (by unfold maxLen; omega)
     have e14 : IntKind.i64.wrap (x : Int) = (x : Int) := wrap_fit x (by unfold maxLen; omega)
     have HN : Hid (conts s.toList (i + 1) = true ∧ cdS s.toList c (i + 1) = x) := by
      refine ⟨by rw [conts, hco, hct, dtr h5]; rfl, ?_⟩
      show 64 * cdS s.toList c i + (s.toList.getD (i + 1) 0).toNat - 128 = x
      rw [hcd, hd, hy, hz, hx]
     have HI := hid hin
     clear h5 hct hd hd2 hm hm2 hco hcd hi hy hz hx hin
     go_wp2_with fail
     go_round
     case rel => exact ⟨i + 1, x, by go_num, rfl, by have := HI.out; omega, HN.out.1, HN.out.2⟩
     case measure => have := HI.out; simp [intOf]; omega
    ·obtain rfl : R = 0 := by
      rw [← HR.out.1]
      exact utfM_cont (i := i + 1) (by rw [tl_size]; exact h3) (by omega) (by rw [conts, hct, dfa h5]; exact Bool.and_false _)
     by_cases h6 : d < 128
     ·have e7 : (d : Int) < 128 := by omega
      clear h5 hct hd hd2 hm hm2 hco hcd hi hin h6
      go_wp2_with fail
      go_ret
      exact ⟨rfl, Below.refl _ _⟩
     ·have e7 : ¬ (d : Int) < 128 := by omega
      have e8 : (191 : Int) < (d : Int) := by omega
      clear h5 hct hd hd2 hm hm2 hco hcd hi hin h6
      go_wp2_with fail
      go_ret
      exact ⟨rfl, Below.refl _ _⟩
   ·obtain rfl : i = 3 := by omega
    have hmx := utfM_code (n := 4) (by rw [tl_size]; exact h3) hco hcd
    rw [HR.out.1, show leastN 4 = 65536 from rfl] at hmx
    have HB : Hid (Below w.heap.size w (w.alloc (Obj.cells #[.int .i64 0, .int .i64 0, .int .i64 128, .int .i64 2048, .int .i64 65536] 186))) := (Below.refl _ _).alloc (nle _) _
    clear hm hm2 hco hcd hi hin
    by_cases h5 : m < 65536
    ·have e5 : (m : Int) < 65536 := by omega
     rw [if_pos (.inl h5)] at hmx
     subst hmx
     clear h5
     go_wp2_with fail
     go_ret
     exact ⟨rfl, HB.out⟩
    ·have e5 : ¬ (m : Int) < 65536 := by omega
     have e5b : decide ((m : Int) < 65536) = false := dfa e5
     by_cases h6 : 1114111 < m
     ·have e6 : (1114111 : Int) < (m : Int) := by omega
      rw [if_pos (.inr (.inl h6))] at hmx
      subst hmx
      clear h5 h6
      go_wp2_with fail
      go_ret
      exact ⟨rfl, HB.out⟩
     ·have e6 : ¬ (1114111 : Int) < (m : Int) := by omega
      have e6b : decide ((1114111 : Int) < (m : Int)) = false := dfa e6
      by_cases h7 : 55296 ≤ m
      ·have e7 : (55296 : Int) ≤ (m : Int) := by omega
       by_cases h8 : m < 57344
       ·exact absurd h8 (by omega)
       ·have e8 : ¬ (m : Int) < 57344 := by omega
        have e8b : decide ((m : Int) < 57344) = false := dfa e8
        rw [if_neg (by omega)] at hmx
        subst hmx
        clear h5 h6 h7 h8
        go_wp2_with fail
        go_ret
        exact ⟨rfl, HB.out⟩
      ·exact absurd h7 (by omega)
theorem utf_any (s : ByteArray) (w : World) : Calls Tryz.prog 100 #[.string s] w (RetI (utfP s.toList) w) := by
 by_cases hs : s.size = 0
 ·have e0 : (s.size : Int) = 0 := by omega
  have hn : s.toList = [] := by rw [← List.length_eq_zero_iff, tl_size]; exact hs
  rw [utfP, if_pos hn]
  clear hn hs
  go_enter Tryz.func100, Tryz.ntmps100
  go_wp2_with fail
  go_ret
  exact ⟨rfl, Below.refl _ _⟩
 ·have hn : ¬ s.toList = [] := by rw [← List.length_eq_zero_iff, tl_size]; exact hs
  have h0 : 0 < s.size := by omega
  obtain ⟨b, hb⟩ : ∃ b, (s.toList.getD 0 0).toNat = b := ⟨_, rfl⟩
  have hb2 : b < 256 := by rw [← hb]; exact (s.toList.getD 0 0).toNat_lt
  have hsp : (s[0]'h0).toNat = b := by rw [← tl_getD s 0 h0]; exact hb
  have hwb : IntKind.i64.wrap (b : Int) = (b : Int) := wrap_fit b (by unfold maxLen; omega)
  have e0 : ¬ (s.size : Int) = 0 := by omega
  rw [utfP, if_neg hn, hb]
  by_cases h1 : b < 128
  ·have e1 : (b : Int) < 128 := by omega
   rw [if_pos h1]
   clear hb h1 hs hn hb2
   go_enter Tryz.func100, Tryz.ntmps100
   go_wp2_with fail
   go_ret
   exact ⟨rfl, Below.refl _ _⟩
  ·rw [if_neg h1]
   by_cases h2 : 192 ≤ b ∧ b < 224
   ·rw [if_pos h2]; exact utf_2 s b hb h0 h2.1 h2.2 w
   ·rw [if_neg h2]
    by_cases h3 : 224 ≤ b ∧ b < 240
    ·rw [if_pos h3]; exact utf_3 s b hb h0 h3.1 h3.2 w
    ·rw [if_neg h3]
     by_cases h4 : 240 ≤ b ∧ b < 248
     ·rw [if_pos h4]; exact utf_4 s b hb h0 h4.1 h4.2 w
     ·rw [if_neg h4]
      have e1 : ¬ (b : Int) < 128 := by omega
      by_cases h5 : b < 192
      ·have e2 : ¬ (192 : Int) ≤ (b : Int) := by omega
       have e3 : ¬ (224 : Int) ≤ (b : Int) := by omega
       have e4 : ¬ (240 : Int) ≤ (b : Int) := by omega
       have e2b : decide ((192 : Int) ≤ (b : Int)) = false := dfa e2
       have e3b : decide ((224 : Int) ≤ (b : Int)) = false := dfa e3
       have e4b : decide ((240 : Int) ≤ (b : Int)) = false := dfa e4
       clear hb h1 hs hn hb2 h2 h3 h4 h5
       go_enter Tryz.func100, Tryz.ntmps100
       go_wp2_with fail
       go_ret
       exact ⟨rfl, Below.refl _ _⟩
      ·have e2 : (192 : Int) ≤ (b : Int) := by omega
       have e3 : (224 : Int) ≤ (b : Int) := by omega
       have e4 : (240 : Int) ≤ (b : Int) := by omega
       have e5 : ¬ (b : Int) < 224 := by omega
       have e6 : ¬ (b : Int) < 240 := by omega
       have e7 : ¬ (b : Int) < 248 := by omega
       have e5b : decide ((b : Int) < 224) = false := dfa e5
       have e6b : decide ((b : Int) < 240) = false := dfa e6
       have e7b : decide ((b : Int) < 248) = false := dfa e7
       clear hb h1 hs hn hb2 h2 h3 h4 h5
       go_enter Tryz.func100, Tryz.ntmps100
       go_wp2_with fail
       go_ret
       exact ⟨rfl, Below.refl _ _⟩
theorem utfP_le (l : List UInt8) : utfP l ≤ l.length := by
 unfold utfP utfM
 repeat' split
 all_goals first | omega | (rename_i h _; exact Nat.succ_le_of_lt (List.length_pos_iff.2 h))
theorem text_any (s : ByteArray) (w : World) (hz : s.size ≤ 140737488351232) : Calls Tryz.prog 88 #[.string s] w (RetBb2 (Lib.validD s.toList) w) := by
 obtain ⟨R, hR⟩ : ∃ R, Lib.validD s.toList = R := ⟨_, rfl⟩
 rw [hR]
 have HR := hid hR
 have HZ := hid hz
 clear hR
 go_enter Tryz.func88, Tryz.ntmps88
 go_wp2_with fail
 go_loopw [3] (fun va wr => ∃ a : Nat, va = .int .i64 (a : Int) ∧ a ≤ s.size ∧ Hid (Lib.validD (s.toList.drop a) = R) ∧ Hid (Below w.heap.size w wr)) (fun va _ => s.size - (intOf va).toNat)
 case atStart => exact ⟨0, rfl, Nat.zero_le _, HR.out, Below.refl _ _⟩
 case round =>
  obtain ⟨a, rfl, ha, HV, HB⟩ := hrel
  by_cases h1 : a < s.size
  ·have e1 : (a : Int) < (s.size : Int) := by omega
   have hne : s.toList.drop a ≠ [] := by
    intro h
    have := congrArg List.length h
    rw [List.length_drop, tl_size] at this
    simp at this
    omega
   obtain ⟨u, hu⟩ : ∃ u, s.extract a s.size = u := ⟨_, rfl⟩
   have hul : u.toList = s.toList.drop a := by rw [← hu, tl_extract, List.take_of_length_le (by rw [List.length_drop, tl_size]; exact nle _)]
   have U := hid (fun w' => utf_any u w')
   have hst := validD_utf _ hne
   rw [← hul] at hst
   have hle := utfP_le u.toList
   rw [hul, List.length_drop, tl_size] at hle
   rw [← hul] at hle
   obtain ⟨n, hn⟩ : ∃ n, utfP u.toList = n := ⟨_, rfl⟩
   rw [hn] at U hst hle
   have HA := hid (aIn ha h1)
   have hV2 := HV.out
   rw [← hul] at hV2
   rw [hV2] at hst
   by_cases h2 : n = 0
   ·subst h2
    rw [if_pos rfl] at hst
    obtain rfl : R = false := hst
    clear hne hle hn h1 ha
    go_wp2_with (first | (go_at_call 100; refine (U.out _).mono ?_; rintro e w1 ⟨rfl, hb1⟩))
    go_ret
    exact ⟨rfl, HB.out.trans (hb1.mono HB.out.size)⟩
   ·rw [if_neg h2] at hst
    have e2 : ¬ (n : Int) = 0 := by omega
    obtain ⟨b, hb⟩ : ∃ b, a + n = b := ⟨_, rfl⟩
    have e3 : (a : Int) + (n : Int) = (b : Int) := by omega
    have e4 : IntKind.i64.wrap (b : Int) = (b : Int) := wrap_fit b (by unfold maxLen; omega)
    have HN : Hid (b ≤ s.size ∧ a < b ∧ Lib.validD (s.toList.drop b) = R) := ⟨by omega, by omega, by rw [hst, hul, List.drop_drop, hb]⟩
    clear hst hne hle hn h1 ha h2 hb
    go_wp2_with (first | (go_at_call 100; refine (U.out _).mono ?_; rintro e w1 ⟨rfl, hb1⟩; have HB1 : Hid (Below w.heap.size w w1) := HB.out.trans (hb1.mono HB.out.size); clear hb1))
    go_roundw
    case rel => exact ⟨b, rfl, HN.out.1, HN.out.2.2, HB1⟩
    case measure => have h1 := HN.out.1; have h2 := HN.out.2.1; simp [intOf]; omega
  ·obtain rfl : a = s.size := by omega
   have e1 : ¬ (s.size : Int) < (s.size : Int) := by omega
   have hV2 := HV.out
   rw [List.drop_of_length_le (by rw [tl_size]; exact nle _)] at hV2
   obtain rfl : R = true := by rw [← hV2]; rfl
   clear hV2
   go_wp2_with fail
   go_ret
   exact ⟨rfl, HB.out⟩
end Co
end Go.Proofs.YtikgonlhdkknkaaGreatDoor
