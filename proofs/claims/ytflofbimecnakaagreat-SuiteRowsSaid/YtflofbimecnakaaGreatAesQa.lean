/- Joined by merge.py: AesP AesA AesB AesC AesD AesE AesF AesG AesH AesI. -/
import Derived.Test.YtflofbimecnakaaGreatRowX
namespace Go.Proofs.YtflofbimecnakaaGreat
open Go.RowKit
set_option linter.unusedVariables false
set_option linter.unusedSimpArgs false
def dbl (a : UInt8) : UInt8 := if 128 ≤ a.toNat then (a <<< 1) ^^^ 27 else a <<< 1
theorem u8_all {P : UInt8 → Prop} (h : ∀ n : Fin 256, P (UInt8.ofNat n.val)) (a : UInt8) : P a := by
  have := h ⟨a.toNat, a.toNat_lt⟩
  simpa using this
theorem shl1 (a : UInt8) : (a.toNat : Int) * (2 : Int) % (256 : Int) = ((a <<< 1).toNat : Int) := by
  have h : (a <<< 1).toNat = a.toNat * 2 % 256 := by
    revert a
    exact u8_all (by decide +kernel)
  rw [h]
  omega
theorem dbl_hi (a : UInt8) (h : 128 ≤ a.toNat) : bits .xor .u8 ((a.toNat : Int) * (2 : Int) % (256 : Int)) (27 : Int) = ((dbl a).toNat : Int) := by
  rw [shl1, show (27 : Int) = ((27 : UInt8).toNat : Int) by rfl, u8x, dbl, if_pos h]
theorem dbl_lo (a : UInt8) (h : ¬ 128 ≤ a.toNat) : (a.toNat : Int) * (2 : Int) = ((dbl a).toNat : Int) := by
  rw [dbl, if_neg h, ← shl1]
  omega
def mulL : Nat → UInt8 → UInt8 → UInt8 → UInt8
  | 0, _, _, p => p
  | n + 1, a, b, p => mulL n (dbl a) (b >>> 1) (if b.toNat % 2 = 1 then p ^^^ a else p)
def gmul (a b : UInt8) : UInt8 := mulL 8 a b 0
theorem shr1 (a : UInt8) : (a.toNat : Int) / (2 : Int) = ((a >>> 1).toNat : Int) := by
  have h : (a >>> 1).toNat = a.toNat / 2 := by
    revert a
    exact u8_all (by decide +kernel)
  rw [h]
  omega
theorem bit0 (a : UInt8) : bits .and .u8 (a.toNat : Int) (1 : Int) = ((a.toNat % 2 : Nat) : Int) := by
  have h := u8_and_nat a.toNat 1 a.toNat_lt (by decide)
  rw [nat_mask1] at h
  exact h
def invL : Nat → UInt8 → UInt8 → UInt8
  | 0, _, p => p
  | n + 1, b, p => invL n (gmul b b) (gmul p (gmul b b))
def ginv (b : UInt8) : UInt8 := invL 7 b 1
def rotl8 (b : UInt8) (n : Nat) : UInt8 := UInt8.ofNat (b.toNat * 2 ^ n % 256 + b.toNat / 2 ^ (8 - n))
def sprL : Nat → Nat → UInt8 → UInt8 → UInt8
  | 0, _, _, s => s
  | m + 1, n, b, s => sprL m (n + 1) b (s ^^^ rotl8 b (n + 1))
def spr (b : UInt8) : UInt8 := sprL 4 0 b (b ^^^ 99)
def gsub (b : UInt8) : UInt8 := spr (ginv b)
theorem rot8_nat (b : UInt8) (n : Nat) (h : n ≤ 7) : (rotl8 b n).toNat = b.toNat * 2 ^ n % 256 + b.toNat / 2 ^ (8 - n) := by
  have hb := b.toNat_lt
  rw [rotl8, UInt8.toNat_ofNat', Nat.mod_eq_of_lt]
  have h1 : (256 : Nat) = 2 ^ n * 2 ^ (8 - n) := by rw [← Nat.pow_add, show n + (8 - n) = 8 by omega]
  have h2 : b.toNat * 2 ^ n % 256 = 2 ^ n * (b.toNat % 2 ^ (8 - n)) := by
    conv => lhs; rw [h1, Nat.mul_comm b.toNat]
    rw [Nat.mul_mod_mul_left]
  have h3 : b.toNat / 2 ^ (8 - n) < 2 ^ n := Nat.div_lt_of_lt_mul (by rw [Nat.mul_comm, ← h1]; exact hb)
  have h4 : b.toNat % 2 ^ (8 - n) + 1 ≤ 2 ^ (8 - n) := Nat.mod_lt _ (Nat.pow_pos (by decide))
  have h5 : 2 ^ n * (b.toNat % 2 ^ (8 - n) + 1) ≤ 2 ^ n * 2 ^ (8 - n) := Nat.mul_le_mul_left _ h4
  rw [← h1, Nat.mul_add] at h5
  omega
theorem rot8_val (b : UInt8) (n : Nat) (h : n ≤ 7) : bits .or .u8 ((b.toNat : Int) * (2 : Int) ^ n % (256 : Int)) ((b.toNat : Int) / (2 : Int) ^ (8 - n)) = ((rotl8 b n).toNat : Int) := by
  have hb := b.toNat_lt
  have h1 : (256 : Nat) = 2 ^ n * 2 ^ (8 - n) := by rw [← Nat.pow_add, show n + (8 - n) = 8 by omega]
  have h3 : b.toNat / 2 ^ (8 - n) < 2 ^ n := Nat.div_lt_of_lt_mul (by rw [Nat.mul_comm, ← h1]; exact hb)
  have h6 : (2 : Nat) ^ n ≤ 2 ^ 7 := Nat.pow_le_pow_right (by decide) h
  have h2 : b.toNat * 2 ^ n % 256 % 2 ^ n = 0 := by
    rw [Nat.mod_mod_of_dvd _ ⟨2 ^ (8 - n), h1⟩, Nat.mul_mod_left]
  have hv := u8_or_nat (b.toNat * 2 ^ n % 256) (b.toNat / 2 ^ (8 - n)) (by omega) (by omega)
  rw [nat_join n _ _ h2 h3, ← rot8_nat b n h] at hv
  rw [← hv, Int.natCast_emod, Int.natCast_mul, Int.natCast_pow, Int.natCast_ediv, Int.natCast_pow]
  rfl
/-! ### words -/
theorem u32x (x y : UInt32) : bits .xor .u32 (x.toNat : Int) (y.toNat : Int) = ((x ^^^ y).toNat : Int) := by
  rw [u32_xor_nat _ _ x.toNat_lt y.toNat_lt, UInt32.toNat_xor]
def rotl32 (x : UInt32) (n : Nat) : UInt32 := UInt32.ofNat (x.toNat * 2 ^ n % 4294967296 + x.toNat / 2 ^ (32 - n))
theorem rot32_nat (b : UInt32) (n : Nat) (h : n ≤ 31) : (rotl32 b n).toNat = b.toNat * 2 ^ n % 4294967296 + b.toNat / 2 ^ (32 - n) := by
  have hb := b.toNat_lt
  rw [rotl32, UInt32.toNat_ofNat', Nat.mod_eq_of_lt]
  have h1 : (4294967296 : Nat) = 2 ^ n * 2 ^ (32 - n) := by rw [← Nat.pow_add, show n + (32 - n) = 32 by omega]
  have h2 : b.toNat * 2 ^ n % 4294967296 = 2 ^ n * (b.toNat % 2 ^ (32 - n)) := by
    conv => lhs; rw [h1, Nat.mul_comm b.toNat]
    rw [Nat.mul_mod_mul_left]
  have h3 : b.toNat / 2 ^ (32 - n) < 2 ^ n := Nat.div_lt_of_lt_mul (by rw [Nat.mul_comm, ← h1]; exact hb)
  have h4 : b.toNat % 2 ^ (32 - n) + 1 ≤ 2 ^ (32 - n) := Nat.mod_lt _ (Nat.pow_pos (by decide))
  have h5 : 2 ^ n * (b.toNat % 2 ^ (32 - n) + 1) ≤ 2 ^ n * 2 ^ (32 - n) := Nat.mul_le_mul_left _ h4
  rw [← h1, Nat.mul_add] at h5
  omega
theorem rot32_val (b : UInt32) (n : Nat) (h : n ≤ 31) : bits .or .u32 ((b.toNat : Int) * (2 : Int) ^ n % (4294967296 : Int)) ((b.toNat : Int) / (2 : Int) ^ (32 - n)) = ((rotl32 b n).toNat : Int) := by
  have hb := b.toNat_lt
  have h1 : (4294967296 : Nat) = 2 ^ n * 2 ^ (32 - n) := by rw [← Nat.pow_add, show n + (32 - n) = 32 by omega]
  have h3 : b.toNat / 2 ^ (32 - n) < 2 ^ n := Nat.div_lt_of_lt_mul (by rw [Nat.mul_comm, ← h1]; exact hb)
  have h6 : (2 : Nat) ^ n ≤ 2 ^ 31 := Nat.pow_le_pow_right (by decide) h
  have h2 : b.toNat * 2 ^ n % 4294967296 % 2 ^ n = 0 := by
    rw [Nat.mod_mod_of_dvd _ ⟨2 ^ (32 - n), h1⟩, Nat.mul_mod_left]
  have hv := u32_or_nat (b.toNat * 2 ^ n % 4294967296) (b.toNat / 2 ^ (32 - n)) (by omega) (by omega)
  rw [nat_join n _ _ h2 h3, ← rot32_nat b n h] at hv
  rw [← hv, Int.natCast_emod, Int.natCast_mul, Int.natCast_pow, Int.natCast_ediv, Int.natCast_pow]
  rfl
theorem and31 (k : Int) : bits .and .u64 (k % (18446744073709551616 : Int)) (31 : Int) = k % (32 : Int) := by
  have h0 : 0 ≤ k % (18446744073709551616 : Int) := by omega
  obtain ⟨m, hm⟩ := Int.eq_ofNat_of_zero_le h0
  have hm2 : m < 18446744073709551616 := by omega
  have h := u64_and_nat m 31 hm2 (by omega)
  rw [nat_mask5] at h
  rw [hm]
  refine h.trans ?_
  omega
/-- four bytes, the highest first -/
def wd (a b c d : UInt8) : UInt32 := UInt32.ofNat (a.toNat * 16777216 + b.toNat * 65536 + c.toNat * 256 + d.toNat)
theorem wd_nat (a b c d : UInt8) : (wd a b c d).toNat = a.toNat * 16777216 + b.toNat * 65536 + c.toNat * 256 + d.toNat := by
  have ha := a.toNat_lt
  have hb := b.toNat_lt
  have hc := c.toNat_lt
  have hd := d.toNat_lt
  rw [wd, UInt32.toNat_ofNat', Nat.mod_eq_of_lt]
  omega
def rw_ (x : UInt32) (n : Nat) : UInt8 := UInt8.ofNat (x.toNat / 2 ^ (24 - 8 * n))
theorem wd_val (a b c d : UInt8) : bits .or .u32 (bits .or .u32 (bits .or .u32 ((a.toNat : Int) * (16777216 : Int)) ((b.toNat : Int) * (65536 : Int))) ((c.toNat : Int) * (256 : Int))) (d.toNat : Int) = ((wd a b c d).toNat : Int) := by
  have ha := a.toNat_lt
  have hb := b.toNat_lt
  have hc := c.toNat_lt
  have hd := d.toNat_lt
  have h1 := u32_or_nat (a.toNat * 16777216) (b.toNat * 65536) (by omega) (by omega)
  rw [nat_join 24 _ _ (by omega) (by omega)] at h1
  have h2 := u32_or_nat (a.toNat * 16777216 + b.toNat * 65536) (c.toNat * 256) (by omega) (by omega)
  rw [nat_join 16 _ _ (by omega) (by omega)] at h2
  have h3 := u32_or_nat (a.toNat * 16777216 + b.toNat * 65536 + c.toNat * 256) d.toNat (by omega) (by omega)
  rw [nat_join 8 _ _ (by omega) (by omega)] at h3
  rw [wd_nat, ← h3]
  simp only [Int.natCast_add, Int.natCast_mul] at h1 h2 ⊢
  rw [← h2, ← h1]
  rfl
theorem row_val (x : UInt32) (m : Nat) : (x.toNat : Int) / (2 : Int) ^ (24 - 8 * m) % (256 : Int) = ((rw_ x m).toNat : Int) := by
  rw [rw_, UInt8.toNat_ofNat', Int.natCast_emod, Int.natCast_ediv, Int.natCast_pow]
  rfl
theorem wrap_in (n : Int) (h0 : 0 ≤ n) (h1 : n < 9223372036854775808) : IntKind.i64.wrap n = n := by
  simp only [IntKind.wrap, IntKind.bits, IntKind.signed]
  simp
  omega
/-! ### round words -/
def subW (x : UInt32) : UInt32 := wd (gsub (rw_ x 0)) (gsub (rw_ x 1)) (gsub (rw_ x 2)) (gsub (rw_ x 3))
def keyW (K : List UInt8) (i : Nat) : UInt32 := wd (at0 K (4 * i)) (at0 K (4 * i + 1)) (at0 K (4 * i + 2)) (at0 K (4 * i + 3))
def keyL (K : List UInt8) (n : Nat) : List UInt32 := (List.range n).map (keyW K)
def turned (n i : Nat) (t : UInt32) (p : UInt8) : UInt32 := if i % n = 0 then subW (rotl32 t 8) ^^^ wd p 0 0 0 else if n = 8 ∧ i % 8 = 4 then subW t else t
def estep (n : Nat) (s : List UInt32 × UInt8) : List UInt32 × UInt8 :=
  (s.1 ++ [s.1.getD (s.1.length - n) 0 ^^^ turned n s.1.length (s.1.getD (s.1.length - 1) 0) s.2], if s.1.length % n = 0 then dbl s.2 else s.2)
def erun (n : Nat) : Nat → List UInt32 × UInt8 → List UInt32 × UInt8
  | 0, s => s
  | k + 1, s => erun n k (estep n s)
def expW (K : List UInt8) : List UInt32 := (erun (K.length / 4) (3 * (K.length / 4) + 28) (keyL K (K.length / 4), 1)).1
theorem hi_val (p : UInt8) : (p.toNat : Int) * (16777216 : Int) = ((wd p 0 0 0).toNat : Int) := by
  rw [wd_nat]
  simp
theorem keyL_succ (K : List UInt8) (n : Nat) : keyL K (n + 1) = keyL K n ++ [keyW K n] := by simp [keyL, List.range_succ]
theorem keyL_length (K : List UInt8) (n : Nat) : (keyL K n).length = n := by simp [keyL]
theorem estep_length (n : Nat) (s : List UInt32 × UInt8) : (estep n s).1.length = s.1.length + 1 := by simp [estep]
theorem erun_length (n k : Nat) : ∀ s : List UInt32 × UInt8, (erun n k s).1.length = s.1.length + k := by
  induction k with
  | zero => intro s; rfl
  | succ k ih => intro s; rw [erun, ih, estep_length]; omega
theorem expW_length (K : List UInt8) : (expW K).length = 4 * (K.length / 4 + 7) := by
  rw [expW, erun_length, keyL_length]
  omega
/-! ### the table -/
def pw : Nat → UInt8
  | 0 => 1
  | n + 1 => pw n ^^^ dbl (pw n)
def pwL (n : Nat) : List UInt8 := (List.range n).map pw
theorem pwL_succ (n : Nat) : pwL (n + 1) = pwL n ++ [pw n] := by simp [pwL, List.range_succ]
theorem pwL_length (n : Nat) : (pwL n).length = n := by simp [pwL]
theorem pwL_get (n i : Nat) (h : i < n) : (pwL n).getD i 0 = pw i := by simp [pwL, List.getD, h]
def outL : Nat → List UInt8
  | 0 => (List.replicate 256 0).set 0 (spr 0)
  | k + 1 => (outL k).set (pw k).toNat (spr (pw ((255 - k) % 255)))
theorem outL_length : ∀ k, (outL k).length = 256
  | 0 => by rw [outL, List.length_set, List.length_replicate]
  | k + 1 => by rw [outL, List.length_set, outL_length k]
def sboxL : List UInt8 := (List.range 256).map fun i => gsub (UInt8.ofNat i)
theorem sboxL_length : sboxL.length = 256 := by simp [sboxL]
theorem outL_all : outL 255 = sboxL := by decide +kernel
theorem sboxL_get (b : UInt8) : sboxL.getD b.toNat 0 = gsub b := by
  have := b.toNat_lt
  simp [sboxL, List.getD, this]
end Go.Proofs.YtflofbimecnakaaGreat
namespace Go.Proofs.YtflofbimecnakaaGreat
open Go.RowKit
set_option linter.unusedVariables false
set_option linter.unusedSimpArgs false
def RetY (b : UInt8) (w : World) (e : Ending) (w' : World) : Prop := e = .returned (.int .u8 (b.toNat : Int)) ∧ w = w'
theorem ret_y {b : UInt8} {n : Int} {w : World} (h : n = (b.toNat : Int)) : RetY b w (.returned (.int .u8 n)) w := by
  subst h
  exact ⟨rfl, rfl⟩
set_option maxRecDepth 100000 in
theorem double_any (a : UInt8) (w : World) : Calls Tryz.prog 52 #[.int .u8 (a.toNat : Int)] w (RetY (dbl a) w) := by
  have ha := a.toNat_lt
  by_cases h : 128 ≤ a.toNat
  · obtain ⟨r, h1, hr⟩ : ∃ r : UInt8, bits .xor .u8 ((a.toNat : Int) * (2 : Int) % (256 : Int)) (27 : Int) = (r.toNat : Int) ∧ r = dbl a := ⟨_, dbl_hi a h, rfl⟩
    have HR := Lib.hid hr
    clear hr
    have hI : (128 : Int) ≤ (a.toNat : Int) := by omega
    clear h
    go_enter Tryz.func52, Tryz.ntmps52
    go_wp2
    go_ret
    rw [← HR.out]
    exact ret_y rfl
  · have hI : ¬ (128 : Int) ≤ (a.toNat : Int) := by omega
    have H1 := Lib.hid (dbl_lo a h)
    go_enter Tryz.func52, Tryz.ntmps52
    go_wp2
    go_ret
    exact ret_y H1.out
set_option maxRecDepth 100000 in
theorem mul_any (a b : UInt8) (w : World) : Calls Tryz.prog 91 #[.int .u8 (a.toNat : Int), .int .u8 (b.toNat : Int)] w (RetY (gmul a b) w) := by
  go_enter Tryz.func91, Tryz.ntmps91
  go_wp2
  go_loopw [0, 1, 5, 6] (fun x y p i wr => ∃ k : Nat, ∃ a' b' p' : UInt8, k ≤ 8 ∧ i = .int .i64 (k : Int) ∧ x = .int .u8 (a'.toNat : Int) ∧ y = .int .u8 (b'.toNat : Int) ∧ p = .int .u8 (p'.toNat : Int) ∧ mulL (8 - k) a' b' p' = gmul a b ∧ w = wr) (fun _ _ _ i _ => 8 - (intOf i).toNat)
  case atStart => exact ⟨0, a, b, 0, by omega, rfl, rfl, rfl, rfl, rfl, rfl⟩
  case round =>
    obtain ⟨k, a', b', p', hk, rfl, rfl, rfl, rfl, hm, rfl⟩ := hrel
    have HM := Lib.hid hm
    clear hm
    have ha := a'.toNat_lt
    have hb := b'.toNat_lt
    by_cases hlt : k < 8
    · have hs := shr1 b'
      have HS := Lib.hid hs
      clear hs
      by_cases h1 : b'.toNat % 2 = 1
      · have hb1 : (bits .and .u8 (b'.toNat : Int) (1 : Int) == (1 : Int)) = true := by rw [bit0, beq_iff_eq]; omega
        have H1 := Lib.hid h1
        clear h1
        go_wp2_with (go_at_call 52; refine (double_any _ _).mono ?_; rintro e w' ⟨rfl, rfl⟩)
        go_roundw
        case rel =>
          refine ⟨k + 1, dbl a', b' >>> 1, p' ^^^ a', by omega, by go_num, rfl, by rw [HS.out], by rw [u8x], ?_, (by first | rfl | trivial)⟩
          have := HM.out
          rw [show 8 - k = (8 - (k + 1)) + 1 by omega, mulL, if_pos H1.out] at this
          exact this
        case measure => simp [intOf]; omega
      · have hb1 : (bits .and .u8 (b'.toNat : Int) (1 : Int) == (1 : Int)) = false := by rw [bit0, beq_eq_false_iff_ne]; omega
        have H1 := Lib.hid h1
        clear h1
        go_wp2_with (go_at_call 52; refine (double_any _ _).mono ?_; rintro e w' ⟨rfl, rfl⟩)
        go_roundw
        case rel =>
          refine ⟨k + 1, dbl a', b' >>> 1, p', by omega, by go_num, rfl, by rw [HS.out], rfl, ?_, (by first | rfl | trivial)⟩
          have := HM.out
          rw [show 8 - k = (8 - (k + 1)) + 1 by omega, mulL, if_neg H1.out] at this
          exact this
        case measure => simp [intOf]; omega
    · have hkm : k = 8 := by omega
      subst hkm
      go_wp2
      go_ret
      refine ret_y ?_
      have := HM.out
      rw [← this]
      rfl
set_option maxRecDepth 100000 in
theorem inverse_any (b : UInt8) (w : World) : Calls Tryz.prog 90 #[.int .u8 (b.toNat : Int)] w (RetY (ginv b) w) := by
  go_enter Tryz.func90, Tryz.ntmps90
  go_wp2
  go_loopw [0, 3, 4] (fun x p i wr => ∃ k : Nat, ∃ b' p' : UInt8, k ≤ 7 ∧ i = .int .i64 (k : Int) ∧ x = .int .u8 (b'.toNat : Int) ∧ p = .int .u8 (p'.toNat : Int) ∧ invL (7 - k) b' p' = ginv b ∧ w = wr) (fun _ _ i _ => 7 - (intOf i).toNat)
  case atStart => exact ⟨0, b, 1, by omega, rfl, rfl, rfl, rfl, rfl⟩
  case round =>
    obtain ⟨k, b', p', hk, rfl, rfl, rfl, hm, rfl⟩ := hrel
    have HM := Lib.hid hm
    clear hm
    by_cases hlt : k < 7
    · go_wp2_with fail
      refine (mul_any b' b' _).mono ?_
      rintro e w' ⟨rfl, rfl⟩
      go_wp2_with fail
      refine (mul_any p' (gmul b' b') _).mono ?_
      rintro e w' ⟨rfl, rfl⟩
      go_wp2_with fail
      go_roundw
      case rel =>
        refine ⟨k + 1, gmul b' b', gmul p' (gmul b' b'), by omega, by go_num, rfl, rfl, ?_, (by first | rfl | trivial)⟩
        have := HM.out
        rw [show 7 - k = (7 - (k + 1)) + 1 by omega, invL] at this
        exact this
      case measure => simp [intOf]; omega
    · have hkm : k = 7 := by omega
      subst hkm
      go_wp2
      go_ret
      refine ret_y ?_
      rw [← HM.out]
      rfl
set_option maxRecDepth 100000 in
theorem rotl8_any (b : UInt8) (n : Int) (w : World) (h0 : 0 ≤ n) (h7 : n ≤ 7) : Calls Tryz.prog 87 #[.int .u8 (b.toNat : Int), .int .i64 n] w (RetY (rotl8 b n.toNat) w) := by
  obtain ⟨m, rfl⟩ := Int.eq_ofNat_of_zero_le h0
  have hb := b.toNat_lt
  have hm : m < 8 := by omega
  have e7 : bits .and .u64 (m : Int) (7 : Int) = (m : Int) := by
    have h := u64_and_nat m 7 (by omega) (by omega)
    rw [nat_mask3, Nat.mod_eq_of_lt hm] at h
    exact h
  go_enter Tryz.func87, Tryz.ntmps87
  go_wp2
  go_ret
  refine ret_y ?_
  rw [Int.toNat_natCast]
  exact rot8_val b m (by omega)
set_option maxRecDepth 100000 in
theorem spread_any (b : UInt8) (w : World) : Calls Tryz.prog 75 #[.int .u8 (b.toNat : Int)] w (RetY (spr b) w) := by
  have h99 : bits .xor .u8 (b.toNat : Int) (99 : Int) = ((b ^^^ 99).toNat : Int) := by
    rw [show (99 : Int) = ((99 : UInt8).toNat : Int) by rfl, u8x]
  obtain ⟨s0, hs0, hs1⟩ : ∃ s0 : UInt8, bits .xor .u8 (b.toNat : Int) (99 : Int) = (s0.toNat : Int) ∧ s0 = b ^^^ 99 := ⟨_, h99, rfl⟩
  have HS1 := Lib.hid hs1
  clear h99 hs1
  go_enter Tryz.func75, Tryz.ntmps75
  go_wp2
  clear hs0
  go_loopw [3, 7] (fun p i wr => ∃ k : Nat, ∃ p' : UInt8, k ≤ 4 ∧ i = .int .i64 (k : Int) ∧ p = .int .u8 (p'.toNat : Int) ∧ sprL (4 - k) k b p' = spr b ∧ w = wr) (fun _ i _ => 4 - (intOf i).toNat)
  case atStart => exact ⟨0, s0, by omega, rfl, rfl, by rw [HS1.out]; rfl, rfl⟩
  case round =>
    obtain ⟨k, p', hk, rfl, rfl, hm, rfl⟩ := hrel
    have HM := Lib.hid hm
    clear hm
    by_cases hlt : k < 4
    · go_wp2_with fail
      refine (rotl8_any b ((k : Int) + 1) _ (by omega) (by omega)).mono ?_
      rw [show ((k : Int) + 1).toNat = k + 1 by omega]
      rintro e w' ⟨rfl, rfl⟩
      obtain ⟨q, hq, hq2⟩ : ∃ q : UInt8, bits .xor .u8 (p'.toNat : Int) ((rotl8 b (k + 1)).toNat : Int) = (q.toNat : Int) ∧ q = p' ^^^ rotl8 b (k + 1) := ⟨_, u8x _ _, rfl⟩
      have HQ := Lib.hid hq2
      clear hq2
      go_wp2_with fail
      go_roundw
      case rel =>
        refine ⟨k + 1, q, by omega, by go_num, rfl, ?_, (by first | rfl | trivial)⟩
        have := HM.out
        rw [show 4 - k = (4 - (k + 1)) + 1 by omega, sprL, ← HQ.out] at this
        exact this
      case measure => simp [intOf]; omega
    · have hkm : k = 4 := by omega
      subst hkm
      go_wp2
      go_ret
      refine ret_y ?_
      rw [← HM.out]
      rfl
set_option maxRecDepth 100000 in
theorem sub_any (b : UInt8) (w : World) : Calls Tryz.prog 86 #[.int .u8 (b.toNat : Int)] w (RetY (gsub b) w) := by
  go_enter Tryz.func86, Tryz.ntmps86
  go_wp2_with fail
  refine (inverse_any b _).mono ?_
  rintro e w' ⟨rfl, rfl⟩
  go_wp2_with fail
  refine (spread_any _ _).mono ?_
  rintro e w' ⟨rfl, rfl⟩
  go_wp2_with fail
  go_ret
  exact ret_y rfl
end Go.Proofs.YtflofbimecnakaaGreat
namespace Go.Proofs.YtflofbimecnakaaGreat
open Go.RowKit
set_option linter.unusedVariables false
set_option linter.unusedSimpArgs false
def RetW (x : UInt32) (w : World) (e : Ending) (w' : World) : Prop := e = .returned (.int .u32 (x.toNat : Int)) ∧ w = w'
theorem ret_w {x : UInt32} {n : Int} {w : World} (h : n = (x.toNat : Int)) : RetW x w (.returned (.int .u32 n)) w := by
  subst h
  exact ⟨rfl, rfl⟩
theorem still_w {P : Program} {f : FuncId} {args : Array Value} {x : UInt32} {w : World} (h : Calls P f args w (RetW x w)) : Calls P f args w (fun e w'' => e = .returned (.int .u32 (x.toNat : Int)) ∧ w'' = w) := h.mono fun e w' ⟨h1, h2⟩ => ⟨h1, h2.symm⟩
theorem still_y {P : Program} {f : FuncId} {args : Array Value} {x : UInt8} {w : World} (h : Calls P f args w (RetY x w)) : Calls P f args w (fun e w'' => e = .returned (.int .u8 (x.toNat : Int)) ∧ w'' = w) := h.mono fun e w' ⟨h1, h2⟩ => ⟨h1, h2.symm⟩
set_option maxRecDepth 100000 in
theorem row_any (x : UInt32) (n : Int) (w : World) (h0 : 0 ≤ n) (h7 : n ≤ 3) : Calls Tryz.prog 76 #[.int .u32 (x.toNat : Int), .int .i64 n] w (RetY (rw_ x n.toNat) w) := by
  obtain ⟨m, rfl⟩ := Int.eq_ofNat_of_zero_le h0
  have hb := x.toNat_lt
  have hm : m ≤ 3 := by omega
  have hn : ¬ ((24 : Int) - 8 * (m : Int) < 0) := by omega
  go_enter Tryz.func76, Tryz.ntmps76
  go_wp2
  go_ret
  refine ret_y ?_
  exact row_val x m
set_option maxRecDepth 100000 in
theorem rotl32_any (x : UInt32) (k : Int) (w : World) : Calls Tryz.prog 74 #[.int .u32 (x.toNat : Int), .int .i64 k] w (RetW (rotl32 x (k % 32).toNat) w) := by
  have h0 : 0 ≤ k % (32 : Int) := by omega
  have h1 : k % (32 : Int) < 32 := by omega
  have h2 : bits .and .u64 (IntKind.u64.wrap k) (31 : Int) = k % (32 : Int) := by
    have := and31 k
    rw [← this]
    congr 1
  obtain ⟨m, hm⟩ := Int.eq_ofNat_of_zero_le h0
  rw [hm] at h2 ⊢
  have hm2 : m < 32 := by omega
  clear hm h0 h1
  have hb := x.toNat_lt
  go_enter Tryz.func74, Tryz.ntmps74
  go_wp2
  go_ret
  refine ret_w ?_
  exact rot32_val x m (by omega)
set_option maxRecDepth 100000 in
theorem word_any (a b c d : UInt8) (w : World) : Calls Tryz.prog 51 #[.int .u8 (a.toNat : Int), .int .u8 (b.toNat : Int), .int .u8 (c.toNat : Int), .int .u8 (d.toNat : Int)] w (RetW (wd a b c d) w) := by
  have ha := a.toNat_lt
  have hb := b.toNat_lt
  have hc := c.toNat_lt
  have hd := d.toNat_lt
  go_enter Tryz.func51, Tryz.ntmps51
  go_wp2
  go_ret
  refine ret_w ?_
  exact wd_val a b c d
set_option maxRecDepth 100000 in
theorem subWord_any (x : UInt32) (w : World) : Calls Tryz.prog 73 #[.int .u32 (x.toNat : Int)] w (RetW (wd (gsub (rw_ x 0)) (gsub (rw_ x 1)) (gsub (rw_ x 2)) (gsub (rw_ x 3))) w) := by
  go_enter Tryz.func73, Tryz.ntmps73
  go_wp2_with fail
  refine (row_any x 0 _ (by omega) (by omega)).mono ?_
  rintro e w' ⟨rfl, rfl⟩
  go_wp2_with fail
  refine (sub_any _ _).mono ?_
  rintro e w' ⟨rfl, rfl⟩
  go_wp2_with fail
  refine (row_any x 1 _ (by omega) (by omega)).mono ?_
  rintro e w' ⟨rfl, rfl⟩
  go_wp2_with fail
  refine (sub_any _ _).mono ?_
  rintro e w' ⟨rfl, rfl⟩
  go_wp2_with fail
  refine (row_any x 2 _ (by omega) (by omega)).mono ?_
  rintro e w' ⟨rfl, rfl⟩
  go_wp2_with fail
  refine (sub_any _ _).mono ?_
  rintro e w' ⟨rfl, rfl⟩
  go_wp2_with fail
  refine (row_any x 3 _ (by omega) (by omega)).mono ?_
  rintro e w' ⟨rfl, rfl⟩
  go_wp2_with fail
  refine (sub_any _ _).mono ?_
  rintro e w' ⟨rfl, rfl⟩
  go_wp2_with fail
  refine (word_any _ _ _ _ _).mono ?_
  rintro e w' ⟨rfl, rfl⟩
  go_wp2_with fail
  go_ret
  exact ret_w rfl
end Go.Proofs.YtflofbimecnakaaGreat
namespace Go.Proofs.YtflofbimecnakaaGreat
open Go.RowKit
set_option linter.unusedVariables false
set_option linter.unusedSimpArgs false
theorem info38 : (Tryz.prog.info? 64).map (fun i => (i.zero, i.size, i.bytes)) = some (some (.int .u32 0), 1, 4) := by kernel_rfl
/-- a row of words and no error -/
def RetWs (l : List UInt32) (w : World) (e : Ending) (w' : World) : Prop := ∃ cap, e = .returned (.tuple #[.slice (some ⟨w.heap.size, 0, none⟩) l.length cap, .int .i64 0]) ∧ At w' w.heap.size 0 (wcells l) ∧ Below w.heap.size w w'
theorem estep_eq (n k : Nat) (l : List UInt32) (p : UInt8) (xd xe t : UInt32) (p' : UInt8) (hl : l.length = k) (hd : l.getD (l.length - 1) 0 = xd) (he : l.getD (l.length - n) 0 = xe) (ht : turned n k xd p = t) (hp : (if k % n = 0 then dbl p else p) = p') : estep n (l, p) = (l ++ [xe ^^^ t], p') := by
  subst hl ht hp
  simp only [estep]
  rw [hd, he]
set_option maxRecDepth 100000 in
theorem expand_bad (key : ByteArray) (w : World) (h1 : key.size ≠ 16) (h2 : key.size ≠ 24) (h3 : key.size ≠ 32) : Calls Tryz.prog 49 #[.string key] w (fun e w' => e = .returned (.tuple #[.slice none 0 0, .int .i64 3]) ∧ w = w') := by
  have e1 : ((key.size : Int) != 16) = true := by rw [bne_iff_ne]; omega
  have e2 : ((key.size : Int) != 24) = true := by rw [bne_iff_ne]; omega
  have e3 : ((key.size : Int) != 32) = true := by rw [bne_iff_ne]; omega
  go_enter Tryz.func49, Tryz.ntmps49
  go_wp2
  go_ret2
  exact ⟨rfl, rfl⟩
set_option maxRecDepth 100000 in
set_option maxHeartbeats 3200000 in
theorem expand_4 (key : ByteArray) (w : World) (hs : key.size = 16) :
    Calls Tryz.prog 49 #[.string key] w (RetWs (expW key.toList) w) := by
  have e1 : ((key.size : Int) != 16) = false := by rw [bne_eq_false_iff_eq]; omega
  obtain ⟨i0, hi, hz0, hz1, hz2⟩ := info_parts info38
  have hmax : 44 ≤ maxLen := by unfold maxLen; omega
  have hby : i0.bytes * (44) ≤ 281474976710656 := by rw [hz2]; omega
  have hd : (key.size : Int) / 4 = (4 : Int) := by omega
  have HF := Lib.hid (wcells_made (44))
  have HS := Lib.hid hs
  clear hs
  go_enter Tryz.func49, Tryz.ntmps49
  go_wp2_with (at_make; refine wpList_make_full _ rfl (.tmp 28) (.tmp 28) 93 rfl w.heap.size 64 i0 (.int .u32 0) 1 Tryz.underlying93 hi hz0 hz1 .i64 .i64 _ _ (44) rfl rfl rfl rfl hby hmax (Nat.le_refl _) ?_; intro w1 hown hgrow)
  have hown2 : At w1 w.heap.size 0 (wcells (keyL key.toList 0 ++ List.replicate (44 - (keyL key.toList 0).length) 0)) := by
    have := At.ofOwn hown
    rw [HF.out] at this
    exact this
  have hbel := (Below.refl w.heap.size w).grown hgrow (Nat.le_refl _) (by simp)
  have hsz := hgrow.size
  clear hgrow hown
  clear hmax hby HF
  go_loopw [31] (fun i wr => ∃ k : Nat, k ≤ 4 ∧ i = .int .i64 k ∧ At wr w.heap.size 0 (wcells (keyL key.toList k ++ List.replicate (44 - (keyL key.toList k).length) 0)) ∧ Below w.heap.size w wr) (fun i _ => 4 - (intOf i).toNat)
  case atStart => exact ⟨0, Nat.zero_le _, rfl, hown2, hbel⟩
  case round =>
    clear hown2 hbel hd e1 hsz hi hz0 hz1 hz2
    obtain ⟨k, hk, rfl, hown, hbel⟩ := hrel
    have HO := Lib.hid hown
    clear hown
    by_cases hlt : k < 4
    · have hks : 4 * k + 3 < key.size := by have := HS.out; omega
      obtain ⟨q0, q1, q2, q3, hq0, hq1, hq2, hq3⟩ : ∃ q0 q1 q2 q3 : Nat, q0 = 4 * k ∧ q1 = 4 * k + 1 ∧ q2 = 4 * k + 2 ∧ q3 = 4 * k + 3 := ⟨_, _, _, _, rfl, rfl, rfl, rfl⟩
      have hw0 : IntKind.i64.wrap (4 * (k : Int)) = (q0 : Int) := by rw [wrap_in _ (by omega) (by omega)]; omega
      have hw1 : IntKind.i64.wrap ((q0 : Int) + 1) = (q1 : Int) := by rw [wrap_in _ (by omega) (by omega)]; omega
      have hw2 : IntKind.i64.wrap ((q0 : Int) + 2) = (q2 : Int) := by rw [wrap_in _ (by omega) (by omega)]; omega
      have hw3 : IntKind.i64.wrap ((q0 : Int) + 3) = (q3 : Int) := by rw [wrap_in _ (by omega) (by omega)]; omega
      have hs0 : q0 < key.size := by omega
      have hs1 : q1 < key.size := by omega
      have hs2 : q2 < key.size := by omega
      have hs3 : q3 < key.size := by omega
      have HK : Hid (wd key[q0] key[q1] key[q2] key[q3] = keyW key.toList k) := by
        show _ = _
        rw [keyW, ← hq3, ← hq2, ← hq1, ← hq0, at0_tl _ _ hs0, at0_tl _ _ hs1, at0_tl _ _ hs2, at0_tl _ _ hs3]
      clear hq0 hq1 hq2 hq3 hks
      have hkN : k < 44 := by omega
      have hkI : (k : Int) < 44 := by omega
      go_wp2
      go_still_tail 23, (by kernel_rfl)
      still_call (still_w (word_any _ _ _ _ _))
      repeat still_step
      refine wpStill_nil ?_
      have hN2 : (keyL key.toList k).length + 1 ≤ 44 := by rw [keyL_length]; exact hkN
      have hcell := HO.out.w32 k (by simp; rw [keyL_length]; omega)
      have hfr := HO.out.froz k (by simp [wcells_length]; rw [keyL_length]; omega)
      rw [Nat.zero_add] at hcell hfr
      change wpList _ _ _ _ _ wr.drew
      go_wp2
      go_roundw
      case rel =>
        refine ⟨k + 1, by omega, by go_num, ?_, (hbel.drew.setCell (p := ⟨w.heap.size, k, none⟩) (Nat.le_refl _) _)⟩
        have h := HO.out.drew.w32set k (keyW key.toList k)
        have h2 := grow_set (keyL key.toList k) 0 (keyW key.toList k) 44 (by rw [keyL_length]; exact hkN)
        rw [keyL_length] at h2
        rw [keyL_length, h2, ← keyL_succ, Nat.zero_add] at h
        rw [HK.out]
        exact h
      case measure => simp [intOf]; omega
    · have hkn : 4 = k := by omega
      subst hkn
      go_wp2
      rw [show ((4 : Nat) : Int) = (4 : Int) from rfl]
      have hbel0 := hbel
      have HO0 := HO
      clear hbel HO hlt hk
      go_loopw [7, 8] (fun p i wq => ∃ k : Nat, ∃ s : List UInt32 × UInt8, 4 ≤ k ∧ k ≤ 44 ∧ s.1.length = k ∧ i = .int .i64 k ∧ p = .int .u8 (s.2.toNat : Int) ∧ erun 4 (44 - k) s = erun 4 (40) (keyL key.toList 4, 1) ∧ At wq w.heap.size 0 (wcells (s.1 ++ List.replicate (44 - s.1.length) 0)) ∧ Below w.heap.size w wq) (fun _ i _ => 44 - (intOf i).toNat)
      case atStart => exact ⟨4, (keyL key.toList 4, 1), Nat.le_refl _, by omega, keyL_length _ _, rfl, rfl, rfl, HO0.out, hbel0⟩
      case round =>
        clear hbel0 HO0
        obtain ⟨k, ⟨l, p⟩, hnk, hk, hl, rfl, rfl, hrun, hown, hbel⟩ := hrel
        have HO := Lib.hid hown
        have HR := Lib.hid hrun
        have HLL := Lib.hid hl
        clear hown hrun hl
        simp only at HO HR HLL
        by_cases hlt : k < 44
        · obtain ⟨d, hd⟩ : ∃ d : Nat, (k : Int) - 1 = (d : Int) := ⟨k - 1, by omega⟩
          obtain ⟨e, he⟩ : ∃ e : Nat, (k : Int) - (4 : Int) = (e : Int) := ⟨k - 4, by omega⟩
          have hdk : d < l.length := by have := HLL.out; omega
          have hek : e < l.length := by have := HLL.out; omega
          have hcd := HO.out.w32 d (by simp; omega)
          have hce := HO.out.w32 e (by simp; omega)
          have hck := HO.out.w32 k (by have := HLL.out; simp; omega)
          have hfr := HO.out.froz k (by have := HLL.out; simp [wcells_length]; omega)
          rw [Nat.zero_add] at hcd hce hck hfr
          obtain ⟨xd, hxd, hxd2⟩ : ∃ x : UInt32, (l ++ List.replicate (44 - l.length) 0).getD d 0 = x ∧ l.getD (l.length - 1) 0 = x := ⟨_, rfl, by have := HLL.out; rw [show l.length - 1 = d by omega]; simp only [List.getD]; rw [List.getElem?_append_left hdk]⟩
          obtain ⟨xe, hxe, hxe2⟩ : ∃ x : UInt32, (l ++ List.replicate (44 - l.length) 0).getD e 0 = x ∧ l.getD (l.length - 4) 0 = x := ⟨_, rfl, by have := HLL.out; rw [show l.length - 4 = e by omega]; simp only [List.getD]; rw [List.getElem?_append_left hek]⟩
          rw [hxd] at hcd
          rw [hxe] at hce
          have HXD := Lib.hid hxd2
          have HXE := Lib.hid hxe2
          have hdN : d < 44 := by have := HLL.out; omega
          have heN : e < 44 := by omega
          clear hxd hxd2 hxe hxe2 hdk hek
          by_cases hc1 : k % 4 = 0
          · have t1 : ((k : Int) % (4 : Int) == 0) = true := by rw [beq_iff_eq]; omega
            go_wp2_with fail
            refine (rotl32_any xd 8 _).mono ?_
            rw [show ((8 : Int) % 32).toNat = 8 by rfl]
            rintro e w' ⟨rfl, rfl⟩
            go_wp2_with fail
            refine (subWord_any (rotl32 xd 8) _).mono ?_
            rintro e w' ⟨rfl, rfl⟩
            obtain ⟨tt, htt, htt2⟩ : ∃ tt : UInt32, bits .xor .u32 ((wd (gsub (rw_ (rotl32 xd 8) 0)) (gsub (rw_ (rotl32 xd 8) 1)) (gsub (rw_ (rotl32 xd 8) 2)) (gsub (rw_ (rotl32 xd 8) 3))).toNat : Int) ((p.toNat : Int) * 16777216) = (tt.toNat : Int) ∧ turned 4 k xd p = tt := ⟨_, by rw [hi_val, u32x], by rw [turned, if_pos hc1]; rfl⟩
            have HT := Lib.hid htt2
            have hp8 := p.toNat_lt
            clear htt2
            go_wp2_with fail
            refine (double_any p _).mono ?_
            rintro e w' ⟨rfl, rfl⟩
            go_wp2_with fail
            go_roundw
            case rel =>
              have hstep : estep 4 (l, p) = (l ++ [xe ^^^ tt], dbl p) := estep_eq 4 k l p xd xe _ _ HLL.out HXD.out HXE.out HT.out (if_pos hc1)
              have hrun := HR.out
              rw [show 44 - k = (44 - (k + 1)) + 1 by omega, erun, hstep] at hrun
              refine ⟨k + 1, (l ++ [xe ^^^ tt], dbl p), by omega, by omega, by have := HLL.out; simp; omega, by go_num, rfl, hrun, ?_, hbel.setCell (p := ⟨w.heap.size, k, none⟩) (Nat.le_refl _) _⟩
              have h := HO.out.w32set k (xe ^^^ tt)
              have h2 := grow_set l 0 (xe ^^^ tt) 44 (by have := HLL.out; omega)
              rw [HLL.out] at h2
              rw [HLL.out, h2, Nat.zero_add] at h
              rw [u32x]
              exact h
            case measure => simp [intOf]; omega
          · have t1 : ((k : Int) % (4 : Int) == 0) = false := by rw [beq_eq_false_iff_ne]; omega
            go_wp2_with fail
            go_roundw
            case rel =>
              have hstep : estep 4 (l, p) = (l ++ [xe ^^^ xd], p) := estep_eq 4 k l p xd xe _ _ HLL.out HXD.out HXE.out (by rw [turned, if_neg hc1, if_neg (by omega)]) (if_neg hc1)
              have hrun := HR.out
              rw [show 44 - k = (44 - (k + 1)) + 1 by omega, erun, hstep] at hrun
              refine ⟨k + 1, (l ++ [xe ^^^ xd], p), by omega, by omega, by have := HLL.out; simp; omega, by go_num, rfl, hrun, ?_, hbel.setCell (p := ⟨w.heap.size, k, none⟩) (Nat.le_refl _) _⟩
              have h := HO.out.w32set k (xe ^^^ xd)
              have h2 := grow_set l 0 (xe ^^^ xd) 44 (by have := HLL.out; omega)
              rw [HLL.out] at h2
              rw [HLL.out, h2, Nat.zero_add] at h
              rw [u32x]
              exact h
            case measure => simp [intOf]; omega
        · have hkn : k = 44 := by omega
          subst hkn
          go_wp2
          go_ret2
          have hr := HR.out
          have hlen := HLL.out
          have hexp : expW key.toList = l := by
            have h4n : key.toList.length / 4 = 4 := by rw [tl_size]; have := HS.out; omega
            rw [expW, h4n, ← hr, Nat.sub_self]
            rfl
          refine ⟨44, by rw [hexp, hlen]; rfl, ?_, hbel⟩
          have h := HO.out
          rw [hlen, Nat.sub_self, List.replicate_zero, List.append_nil] at h
          rw [hexp]
          exact h
set_option maxRecDepth 100000 in
set_option maxHeartbeats 3200000 in
theorem expand_6 (key : ByteArray) (w : World) (hs : key.size = 24) :
    Calls Tryz.prog 49 #[.string key] w (RetWs (expW key.toList) w) := by
  have e1 : ((key.size : Int) != 16) = true := by rw [bne_iff_ne]; omega
  have e2 : ((key.size : Int) != 24) = false := by rw [bne_eq_false_iff_eq]; omega
  obtain ⟨i0, hi, hz0, hz1, hz2⟩ := info_parts info38
  have hmax : 52 ≤ maxLen := by unfold maxLen; omega
  have hby : i0.bytes * (52) ≤ 281474976710656 := by rw [hz2]; omega
  have hd : (key.size : Int) / 4 = (6 : Int) := by omega
  have HF := Lib.hid (wcells_made (52))
  have HS := Lib.hid hs
  clear hs
  go_enter Tryz.func49, Tryz.ntmps49
  go_wp2_with (at_make; refine wpList_make_full _ rfl (.tmp 28) (.tmp 28) 93 rfl w.heap.size 64 i0 (.int .u32 0) 1 Tryz.underlying93 hi hz0 hz1 .i64 .i64 _ _ (52) rfl rfl rfl rfl hby hmax (Nat.le_refl _) ?_; intro w1 hown hgrow)
  have hown2 : At w1 w.heap.size 0 (wcells (keyL key.toList 0 ++ List.replicate (52 - (keyL key.toList 0).length) 0)) := by
    have := At.ofOwn hown
    rw [HF.out] at this
    exact this
  have hbel := (Below.refl w.heap.size w).grown hgrow (Nat.le_refl _) (by simp)
  have hsz := hgrow.size
  clear hgrow hown
  clear hmax hby HF
  go_loopw [31] (fun i wr => ∃ k : Nat, k ≤ 6 ∧ i = .int .i64 k ∧ At wr w.heap.size 0 (wcells (keyL key.toList k ++ List.replicate (52 - (keyL key.toList k).length) 0)) ∧ Below w.heap.size w wr) (fun i _ => 6 - (intOf i).toNat)
  case atStart => exact ⟨0, Nat.zero_le _, rfl, hown2, hbel⟩
  case round =>
    clear hown2 hbel hd e1 e2 hsz hi hz0 hz1 hz2
    obtain ⟨k, hk, rfl, hown, hbel⟩ := hrel
    have HO := Lib.hid hown
    clear hown
    by_cases hlt : k < 6
    · have hks : 4 * k + 3 < key.size := by have := HS.out; omega
      obtain ⟨q0, q1, q2, q3, hq0, hq1, hq2, hq3⟩ : ∃ q0 q1 q2 q3 : Nat, q0 = 4 * k ∧ q1 = 4 * k + 1 ∧ q2 = 4 * k + 2 ∧ q3 = 4 * k + 3 := ⟨_, _, _, _, rfl, rfl, rfl, rfl⟩
      have hw0 : IntKind.i64.wrap (4 * (k : Int)) = (q0 : Int) := by rw [wrap_in _ (by omega) (by omega)]; omega
      have hw1 : IntKind.i64.wrap ((q0 : Int) + 1) = (q1 : Int) := by rw [wrap_in _ (by omega) (by omega)]; omega
      have hw2 : IntKind.i64.wrap ((q0 : Int) + 2) = (q2 : Int) := by rw [wrap_in _ (by omega) (by omega)]; omega
      have hw3 : IntKind.i64.wrap ((q0 : Int) + 3) = (q3 : Int) := by rw [wrap_in _ (by omega) (by omega)]; omega
      have hs0 : q0 < key.size := by omega
      have hs1 : q1 < key.size := by omega
      have hs2 : q2 < key.size := by omega
      have hs3 : q3 < key.size := by omega
      have HK : Hid (wd key[q0] key[q1] key[q2] key[q3] = keyW key.toList k) := by
        show _ = _
        rw [keyW, ← hq3, ← hq2, ← hq1, ← hq0, at0_tl _ _ hs0, at0_tl _ _ hs1, at0_tl _ _ hs2, at0_tl _ _ hs3]
      clear hq0 hq1 hq2 hq3 hks
      have hkN : k < 52 := by omega
      have hkI : (k : Int) < 52 := by omega
      go_wp2
      go_still_tail 23, (by kernel_rfl)
      still_call (still_w (word_any _ _ _ _ _))
      repeat still_step
      refine wpStill_nil ?_
      have hN2 : (keyL key.toList k).length + 1 ≤ 52 := by rw [keyL_length]; exact hkN
      have hcell := HO.out.w32 k (by simp; rw [keyL_length]; omega)
      have hfr := HO.out.froz k (by simp [wcells_length]; rw [keyL_length]; omega)
      rw [Nat.zero_add] at hcell hfr
      change wpList _ _ _ _ _ wr.drew
      go_wp2
      go_roundw
      case rel =>
        refine ⟨k + 1, by omega, by go_num, ?_, (hbel.drew.setCell (p := ⟨w.heap.size, k, none⟩) (Nat.le_refl _) _)⟩
        have h := HO.out.drew.w32set k (keyW key.toList k)
        have h2 := grow_set (keyL key.toList k) 0 (keyW key.toList k) 52 (by rw [keyL_length]; exact hkN)
        rw [keyL_length] at h2
        rw [keyL_length, h2, ← keyL_succ, Nat.zero_add] at h
        rw [HK.out]
        exact h
      case measure => simp [intOf]; omega
    · have hkn : 6 = k := by omega
      subst hkn
      go_wp2
      rw [show ((6 : Nat) : Int) = (6 : Int) from rfl]
      have hbel0 := hbel
      have HO0 := HO
      clear hbel HO hlt hk
      go_loopw [7, 8] (fun p i wq => ∃ k : Nat, ∃ s : List UInt32 × UInt8, 6 ≤ k ∧ k ≤ 52 ∧ s.1.length = k ∧ i = .int .i64 k ∧ p = .int .u8 (s.2.toNat : Int) ∧ erun 6 (52 - k) s = erun 6 (46) (keyL key.toList 6, 1) ∧ At wq w.heap.size 0 (wcells (s.1 ++ List.replicate (52 - s.1.length) 0)) ∧ Below w.heap.size w wq) (fun _ i _ => 52 - (intOf i).toNat)
      case atStart => exact ⟨6, (keyL key.toList 6, 1), Nat.le_refl _, by omega, keyL_length _ _, rfl, rfl, rfl, HO0.out, hbel0⟩
      case round =>
        clear hbel0 HO0
        obtain ⟨k, ⟨l, p⟩, hnk, hk, hl, rfl, rfl, hrun, hown, hbel⟩ := hrel
        have HO := Lib.hid hown
        have HR := Lib.hid hrun
        have HLL := Lib.hid hl
        clear hown hrun hl
        simp only at HO HR HLL
        by_cases hlt : k < 52
        · obtain ⟨d, hd⟩ : ∃ d : Nat, (k : Int) - 1 = (d : Int) := ⟨k - 1, by omega⟩
          obtain ⟨e, he⟩ : ∃ e : Nat, (k : Int) - (6 : Int) = (e : Int) := ⟨k - 6, by omega⟩
          have hdk : d < l.length := by have := HLL.out; omega
          have hek : e < l.length := by have := HLL.out; omega
          have hcd := HO.out.w32 d (by simp; omega)
          have hce := HO.out.w32 e (by simp; omega)
          have hck := HO.out.w32 k (by have := HLL.out; simp; omega)
          have hfr := HO.out.froz k (by have := HLL.out; simp [wcells_length]; omega)
          rw [Nat.zero_add] at hcd hce hck hfr
          obtain ⟨xd, hxd, hxd2⟩ : ∃ x : UInt32, (l ++ List.replicate (52 - l.length) 0).getD d 0 = x ∧ l.getD (l.length - 1) 0 = x := ⟨_, rfl, by have := HLL.out; rw [show l.length - 1 = d by omega]; simp only [List.getD]; rw [List.getElem?_append_left hdk]⟩
          obtain ⟨xe, hxe, hxe2⟩ : ∃ x : UInt32, (l ++ List.replicate (52 - l.length) 0).getD e 0 = x ∧ l.getD (l.length - 6) 0 = x := ⟨_, rfl, by have := HLL.out; rw [show l.length - 6 = e by omega]; simp only [List.getD]; rw [List.getElem?_append_left hek]⟩
          rw [hxd] at hcd
          rw [hxe] at hce
          have HXD := Lib.hid hxd2
          have HXE := Lib.hid hxe2
          have hdN : d < 52 := by have := HLL.out; omega
          have heN : e < 52 := by omega
          clear hxd hxd2 hxe hxe2 hdk hek
          by_cases hc1 : k % 6 = 0
          · have t1 : ((k : Int) % (6 : Int) == 0) = true := by rw [beq_iff_eq]; omega
            go_wp2_with fail
            refine (rotl32_any xd 8 _).mono ?_
            rw [show ((8 : Int) % 32).toNat = 8 by rfl]
            rintro e w' ⟨rfl, rfl⟩
            go_wp2_with fail
            refine (subWord_any (rotl32 xd 8) _).mono ?_
            rintro e w' ⟨rfl, rfl⟩
            obtain ⟨tt, htt, htt2⟩ : ∃ tt : UInt32, bits .xor .u32 ((wd (gsub (rw_ (rotl32 xd 8) 0)) (gsub (rw_ (rotl32 xd 8) 1)) (gsub (rw_ (rotl32 xd 8) 2)) (gsub (rw_ (rotl32 xd 8) 3))).toNat : Int) ((p.toNat : Int) * 16777216) = (tt.toNat : Int) ∧ turned 6 k xd p = tt := ⟨_, by rw [hi_val, u32x], by rw [turned, if_pos hc1]; rfl⟩
            have HT := Lib.hid htt2
            have hp8 := p.toNat_lt
            clear htt2
            go_wp2_with fail
            refine (double_any p _).mono ?_
            rintro e w' ⟨rfl, rfl⟩
            go_wp2_with fail
            go_roundw
            case rel =>
              have hstep : estep 6 (l, p) = (l ++ [xe ^^^ tt], dbl p) := estep_eq 6 k l p xd xe _ _ HLL.out HXD.out HXE.out HT.out (if_pos hc1)
              have hrun := HR.out
              rw [show 52 - k = (52 - (k + 1)) + 1 by omega, erun, hstep] at hrun
              refine ⟨k + 1, (l ++ [xe ^^^ tt], dbl p), by omega, by omega, by have := HLL.out; simp; omega, by go_num, rfl, hrun, ?_, hbel.setCell (p := ⟨w.heap.size, k, none⟩) (Nat.le_refl _) _⟩
              have h := HO.out.w32set k (xe ^^^ tt)
              have h2 := grow_set l 0 (xe ^^^ tt) 52 (by have := HLL.out; omega)
              rw [HLL.out] at h2
              rw [HLL.out, h2, Nat.zero_add] at h
              rw [u32x]
              exact h
            case measure => simp [intOf]; omega
          · have t1 : ((k : Int) % (6 : Int) == 0) = false := by rw [beq_eq_false_iff_ne]; omega
            go_wp2_with fail
            go_roundw
            case rel =>
              have hstep : estep 6 (l, p) = (l ++ [xe ^^^ xd], p) := estep_eq 6 k l p xd xe _ _ HLL.out HXD.out HXE.out (by rw [turned, if_neg hc1, if_neg (by omega)]) (if_neg hc1)
              have hrun := HR.out
              rw [show 52 - k = (52 - (k + 1)) + 1 by omega, erun, hstep] at hrun
              refine ⟨k + 1, (l ++ [xe ^^^ xd], p), by omega, by omega, by have := HLL.out; simp; omega, by go_num, rfl, hrun, ?_, hbel.setCell (p := ⟨w.heap.size, k, none⟩) (Nat.le_refl _) _⟩
              have h := HO.out.w32set k (xe ^^^ xd)
              have h2 := grow_set l 0 (xe ^^^ xd) 52 (by have := HLL.out; omega)
              rw [HLL.out] at h2
              rw [HLL.out, h2, Nat.zero_add] at h
              rw [u32x]
              exact h
            case measure => simp [intOf]; omega
        · have hkn : k = 52 := by omega
          subst hkn
          go_wp2
          go_ret2
          have hr := HR.out
          have hlen := HLL.out
          have hexp : expW key.toList = l := by
            have h4n : key.toList.length / 4 = 6 := by rw [tl_size]; have := HS.out; omega
            rw [expW, h4n, ← hr, Nat.sub_self]
            rfl
          refine ⟨52, by rw [hexp, hlen]; rfl, ?_, hbel⟩
          have h := HO.out
          rw [hlen, Nat.sub_self, List.replicate_zero, List.append_nil] at h
          rw [hexp]
          exact h
set_option maxRecDepth 100000 in
set_option maxHeartbeats 3200000 in
theorem expand_8 (key : ByteArray) (w : World) (hs : key.size = 32) :
    Calls Tryz.prog 49 #[.string key] w (RetWs (expW key.toList) w) := by
  have e1 : ((key.size : Int) != 16) = true := by rw [bne_iff_ne]; omega
  have e2 : ((key.size : Int) != 24) = true := by rw [bne_iff_ne]; omega
  have e3 : ((key.size : Int) != 32) = false := by rw [bne_eq_false_iff_eq]; omega
  obtain ⟨i0, hi, hz0, hz1, hz2⟩ := info_parts info38
  have hmax : 60 ≤ maxLen := by unfold maxLen; omega
  have hby : i0.bytes * (60) ≤ 281474976710656 := by rw [hz2]; omega
  have hd : (key.size : Int) / 4 = (8 : Int) := by omega
  have HF := Lib.hid (wcells_made (60))
  have HS := Lib.hid hs
  clear hs
  go_enter Tryz.func49, Tryz.ntmps49
  go_wp2_with (at_make; refine wpList_make_full _ rfl (.tmp 28) (.tmp 28) 93 rfl w.heap.size 64 i0 (.int .u32 0) 1 Tryz.underlying93 hi hz0 hz1 .i64 .i64 _ _ (60) rfl rfl rfl rfl hby hmax (Nat.le_refl _) ?_; intro w1 hown hgrow)
  have hown2 : At w1 w.heap.size 0 (wcells (keyL key.toList 0 ++ List.replicate (60 - (keyL key.toList 0).length) 0)) := by
    have := At.ofOwn hown
    rw [HF.out] at this
    exact this
  have hbel := (Below.refl w.heap.size w).grown hgrow (Nat.le_refl _) (by simp)
  have hsz := hgrow.size
  clear hgrow hown
  clear hmax hby HF
  go_loopw [31] (fun i wr => ∃ k : Nat, k ≤ 8 ∧ i = .int .i64 k ∧ At wr w.heap.size 0 (wcells (keyL key.toList k ++ List.replicate (60 - (keyL key.toList k).length) 0)) ∧ Below w.heap.size w wr) (fun i _ => 8 - (intOf i).toNat)
  case atStart => exact ⟨0, Nat.zero_le _, rfl, hown2, hbel⟩
  case round =>
    clear hown2 hbel hd e1 e2 e3 hsz hi hz0 hz1 hz2
    obtain ⟨k, hk, rfl, hown, hbel⟩ := hrel
    have HO := Lib.hid hown
    clear hown
    by_cases hlt : k < 8
    · have hks : 4 * k + 3 < key.size := by have := HS.out; omega
      obtain ⟨q0, q1, q2, q3, hq0, hq1, hq2, hq3⟩ : ∃ q0 q1 q2 q3 : Nat, q0 = 4 * k ∧ q1 = 4 * k + 1 ∧ q2 = 4 * k + 2 ∧ q3 = 4 * k + 3 := ⟨_, _, _, _, rfl, rfl, rfl, rfl⟩
      have hw0 : IntKind.i64.wrap (4 * (k : Int)) = (q0 : Int) := by rw [wrap_in _ (by omega) (by omega)]; omega
      have hw1 : IntKind.i64.wrap ((q0 : Int) + 1) = (q1 : Int) := by rw [wrap_in _ (by omega) (by omega)]; omega
      have hw2 : IntKind.i64.wrap ((q0 : Int) + 2) = (q2 : Int) := by rw [wrap_in _ (by omega) (by omega)]; omega
      have hw3 : IntKind.i64.wrap ((q0 : Int) + 3) = (q3 : Int) := by rw [wrap_in _ (by omega) (by omega)]; omega
      have hs0 : q0 < key.size := by omega
      have hs1 : q1 < key.size := by omega
      have hs2 : q2 < key.size := by omega
      have hs3 : q3 < key.size := by omega
      have HK : Hid (wd key[q0] key[q1] key[q2] key[q3] = keyW key.toList k) := by
        show _ = _
        rw [keyW, ← hq3, ← hq2, ← hq1, ← hq0, at0_tl _ _ hs0, at0_tl _ _ hs1, at0_tl _ _ hs2, at0_tl _ _ hs3]
      clear hq0 hq1 hq2 hq3 hks
      have hkN : k < 60 := by omega
      have hkI : (k : Int) < 60 := by omega
      go_wp2
      go_still_tail 23, (by kernel_rfl)
      still_call (still_w (word_any _ _ _ _ _))
      repeat still_step
      refine wpStill_nil ?_
      have hN2 : (keyL key.toList k).length + 1 ≤ 60 := by rw [keyL_length]; exact hkN
      have hcell := HO.out.w32 k (by simp; rw [keyL_length]; omega)
      have hfr := HO.out.froz k (by simp [wcells_length]; rw [keyL_length]; omega)
      rw [Nat.zero_add] at hcell hfr
      change wpList _ _ _ _ _ wr.drew
      go_wp2
      go_roundw
      case rel =>
        refine ⟨k + 1, by omega, by go_num, ?_, (hbel.drew.setCell (p := ⟨w.heap.size, k, none⟩) (Nat.le_refl _) _)⟩
        have h := HO.out.drew.w32set k (keyW key.toList k)
        have h2 := grow_set (keyL key.toList k) 0 (keyW key.toList k) 60 (by rw [keyL_length]; exact hkN)
        rw [keyL_length] at h2
        rw [keyL_length, h2, ← keyL_succ, Nat.zero_add] at h
        rw [HK.out]
        exact h
      case measure => simp [intOf]; omega
    · have hkn : 8 = k := by omega
      subst hkn
      go_wp2
      rw [show ((8 : Nat) : Int) = (8 : Int) from rfl]
      have hbel0 := hbel
      have HO0 := HO
      clear hbel HO hlt hk
      go_loopw [7, 8] (fun p i wq => ∃ k : Nat, ∃ s : List UInt32 × UInt8, 8 ≤ k ∧ k ≤ 60 ∧ s.1.length = k ∧ i = .int .i64 k ∧ p = .int .u8 (s.2.toNat : Int) ∧ erun 8 (60 - k) s = erun 8 (52) (keyL key.toList 8, 1) ∧ At wq w.heap.size 0 (wcells (s.1 ++ List.replicate (60 - s.1.length) 0)) ∧ Below w.heap.size w wq) (fun _ i _ => 60 - (intOf i).toNat)
      case atStart => exact ⟨8, (keyL key.toList 8, 1), Nat.le_refl _, by omega, keyL_length _ _, rfl, rfl, rfl, HO0.out, hbel0⟩
      case round =>
        clear hbel0 HO0
        obtain ⟨k, ⟨l, p⟩, hnk, hk, hl, rfl, rfl, hrun, hown, hbel⟩ := hrel
        have HO := Lib.hid hown
        have HR := Lib.hid hrun
        have HLL := Lib.hid hl
        clear hown hrun hl
        simp only at HO HR HLL
        by_cases hlt : k < 60
        · obtain ⟨d, hd⟩ : ∃ d : Nat, (k : Int) - 1 = (d : Int) := ⟨k - 1, by omega⟩
          obtain ⟨e, he⟩ : ∃ e : Nat, (k : Int) - (8 : Int) = (e : Int) := ⟨k - 8, by omega⟩
          have hdk : d < l.length := by have := HLL.out; omega
          have hek : e < l.length := by have := HLL.out; omega
          have hcd := HO.out.w32 d (by simp; omega)
          have hce := HO.out.w32 e (by simp; omega)
          have hck := HO.out.w32 k (by have := HLL.out; simp; omega)
          have hfr := HO.out.froz k (by have := HLL.out; simp [wcells_length]; omega)
          rw [Nat.zero_add] at hcd hce hck hfr
          obtain ⟨xd, hxd, hxd2⟩ : ∃ x : UInt32, (l ++ List.replicate (60 - l.length) 0).getD d 0 = x ∧ l.getD (l.length - 1) 0 = x := ⟨_, rfl, by have := HLL.out; rw [show l.length - 1 = d by omega]; simp only [List.getD]; rw [List.getElem?_append_left hdk]⟩
          obtain ⟨xe, hxe, hxe2⟩ : ∃ x : UInt32, (l ++ List.replicate (60 - l.length) 0).getD e 0 = x ∧ l.getD (l.length - 8) 0 = x := ⟨_, rfl, by have := HLL.out; rw [show l.length - 8 = e by omega]; simp only [List.getD]; rw [List.getElem?_append_left hek]⟩
          rw [hxd] at hcd
          rw [hxe] at hce
          have HXD := Lib.hid hxd2
          have HXE := Lib.hid hxe2
          have hdN : d < 60 := by have := HLL.out; omega
          have heN : e < 60 := by omega
          clear hxd hxd2 hxe hxe2 hdk hek
          by_cases hc1 : k % 8 = 0
          · have t1 : ((k : Int) % (8 : Int) == 0) = true := by rw [beq_iff_eq]; omega
            go_wp2_with fail
            refine (rotl32_any xd 8 _).mono ?_
            rw [show ((8 : Int) % 32).toNat = 8 by rfl]
            rintro e w' ⟨rfl, rfl⟩
            go_wp2_with fail
            refine (subWord_any (rotl32 xd 8) _).mono ?_
            rintro e w' ⟨rfl, rfl⟩
            obtain ⟨tt, htt, htt2⟩ : ∃ tt : UInt32, bits .xor .u32 ((wd (gsub (rw_ (rotl32 xd 8) 0)) (gsub (rw_ (rotl32 xd 8) 1)) (gsub (rw_ (rotl32 xd 8) 2)) (gsub (rw_ (rotl32 xd 8) 3))).toNat : Int) ((p.toNat : Int) * 16777216) = (tt.toNat : Int) ∧ turned 8 k xd p = tt := ⟨_, by rw [hi_val, u32x], by rw [turned, if_pos hc1]; rfl⟩
            have HT := Lib.hid htt2
            have hp8 := p.toNat_lt
            clear htt2
            go_wp2_with fail
            refine (double_any p _).mono ?_
            rintro e w' ⟨rfl, rfl⟩
            go_wp2_with fail
            go_roundw
            case rel =>
              have hstep : estep 8 (l, p) = (l ++ [xe ^^^ tt], dbl p) := estep_eq 8 k l p xd xe _ _ HLL.out HXD.out HXE.out HT.out (if_pos hc1)
              have hrun := HR.out
              rw [show 60 - k = (60 - (k + 1)) + 1 by omega, erun, hstep] at hrun
              refine ⟨k + 1, (l ++ [xe ^^^ tt], dbl p), by omega, by omega, by have := HLL.out; simp; omega, by go_num, rfl, hrun, ?_, hbel.setCell (p := ⟨w.heap.size, k, none⟩) (Nat.le_refl _) _⟩
              have h := HO.out.w32set k (xe ^^^ tt)
              have h2 := grow_set l 0 (xe ^^^ tt) 60 (by have := HLL.out; omega)
              rw [HLL.out] at h2
              rw [HLL.out, h2, Nat.zero_add] at h
              rw [u32x]
              exact h
            case measure => simp [intOf]; omega
          · have t1 : ((k : Int) % (8 : Int) == 0) = false := by rw [beq_eq_false_iff_ne]; omega
            by_cases hc4 : k % 8 = 4
            · have t4 : ((k : Int) % 8 == 4) = true := by rw [beq_iff_eq]; omega
              go_wp2_with fail
              refine (subWord_any xd _).mono ?_
              rintro e w' ⟨rfl, rfl⟩
              have hsub : wd (gsub (rw_ xd 0)) (gsub (rw_ xd 1)) (gsub (rw_ xd 2)) (gsub (rw_ xd 3)) = subW xd := rfl
              rw [hsub]
              clear hsub
              go_wp2_with fail
              go_roundw
              case rel =>
                have hstep : estep 8 (l, p) = (l ++ [xe ^^^ subW xd], p) := estep_eq 8 k l p xd xe _ _ HLL.out HXD.out HXE.out (by rw [turned, if_neg hc1, if_pos (by omega)]) (if_neg hc1)
                have hrun := HR.out
                rw [show 60 - k = (60 - (k + 1)) + 1 by omega, erun, hstep] at hrun
                refine ⟨k + 1, (l ++ [xe ^^^ subW xd], p), by omega, by omega, by have := HLL.out; simp; omega, by go_num, rfl, hrun, ?_, hbel.setCell (p := ⟨w.heap.size, k, none⟩) (Nat.le_refl _) _⟩
                have h := HO.out.w32set k (xe ^^^ subW xd)
                have h2 := grow_set l 0 (xe ^^^ subW xd) 60 (by have := HLL.out; omega)
                rw [HLL.out] at h2
                rw [HLL.out, h2, Nat.zero_add] at h
                rw [u32x]
                exact h
              case measure => simp [intOf]; omega
            · have t4 : ((k : Int) % 8 == 4) = false := by rw [beq_eq_false_iff_ne]; omega
              go_wp2_with fail
              go_roundw
              case rel =>
                have hstep : estep 8 (l, p) = (l ++ [xe ^^^ xd], p) := estep_eq 8 k l p xd xe _ _ HLL.out HXD.out HXE.out (by rw [turned, if_neg hc1, if_neg (by omega)]) (if_neg hc1)
                have hrun := HR.out
                rw [show 60 - k = (60 - (k + 1)) + 1 by omega, erun, hstep] at hrun
                refine ⟨k + 1, (l ++ [xe ^^^ xd], p), by omega, by omega, by have := HLL.out; simp; omega, by go_num, rfl, hrun, ?_, hbel.setCell (p := ⟨w.heap.size, k, none⟩) (Nat.le_refl _) _⟩
                have h := HO.out.w32set k (xe ^^^ xd)
                have h2 := grow_set l 0 (xe ^^^ xd) 60 (by have := HLL.out; omega)
                rw [HLL.out] at h2
                rw [HLL.out, h2, Nat.zero_add] at h
                rw [u32x]
                exact h
              case measure => simp [intOf]; omega
        · have hkn : k = 60 := by omega
          subst hkn
          go_wp2
          go_ret2
          have hr := HR.out
          have hlen := HLL.out
          have hexp : expW key.toList = l := by
            have h4n : key.toList.length / 4 = 8 := by rw [tl_size]; have := HS.out; omega
            rw [expW, h4n, ← hr, Nat.sub_self]
            rfl
          refine ⟨60, by rw [hexp, hlen]; rfl, ?_, hbel⟩
          have h := HO.out
          rw [hlen, Nat.sub_self, List.replicate_zero, List.append_nil] at h
          rw [hexp]
          exact h
theorem expand_any (key : ByteArray) (w : World) (h : key.size = 16 ∨ key.size = 24 ∨ key.size = 32) : Calls Tryz.prog 49 #[.string key] w (RetWs (expW key.toList) w) := by
  rcases h with h | h | h
  · exact expand_4 key w h
  · exact expand_6 key w h
  · exact expand_8 key w h
end Go.Proofs.YtflofbimecnakaaGreat
namespace Go.Proofs.YtflofbimecnakaaGreat
open Go.RowKit
set_option linter.unusedVariables false
set_option linter.unusedSimpArgs false
theorem zero45 : Tryz.zeroCells96.toList = bcells (List.replicate 256 0) := by kernel_rfl
theorem zero68 : Tryz.zeroCells146.toList = bcells (List.replicate 255 0) := by kernel_rfl
theorem size45 : (Tryz.prog.info? 96).map (·.size) = some 256 := by kernel_rfl
/-- an array of bytes -/
def RetA8 (l : List UInt8) (w : World) (e : Ending) (w' : World) : Prop := e = .returned (.agg (bcells l).toArray) ∧ Below w.heap.size w w'
set_option maxRecDepth 100000 in
set_option maxHeartbeats 3200000 in
theorem subs_any (w : World) : Calls Tryz.prog 50 #[] w (RetA8 sboxL w) := by
  go_enter Tryz.func50, Tryz.ntmps50
  go_wp2_with fail
  generalize hw0 : (w.alloc (Obj.cells Tryz.zeroCells96 96)).alloc (Obj.cells Tryz.zeroCells146 146) = w0
  have hA0 : At w0 w.heap.size 0 (bcells (List.replicate 256 0)) := by
    rw [← hw0, ← zero45]
    exact (At.ofAlloc w _ _).alloc _
  have hA1 : At w0 (w.heap.size + 1) 0 (bcells (pwL 0 ++ List.replicate (255 - (pwL 0).length) 0)) := by
    have h := At.ofAlloc (w.alloc (Obj.cells Tryz.zeroCells96 96)) Tryz.zeroCells146 146
    rw [zero68, World.size_alloc, hw0] at h
    exact h
  have hb0 : Below w.heap.size w w0 := by
    rw [← hw0]
    exact ((Below.refl _ _).alloc (Nat.le_refl _) _).alloc (by simp) _
  have hs0 : w0.heap.size = w.heap.size + 2 := by
    rw [← hw0]
    simp
  clear hw0
  go_loopw [2, 6] (fun p i wr => ∃ k : Nat, k ≤ 255 ∧ i = .int .i64 k ∧ p = .int .u8 ((pw k).toNat : Int) ∧ At wr w.heap.size 0 (bcells (List.replicate 256 0)) ∧ At wr (w.heap.size + 1) 0 (bcells (pwL k ++ List.replicate (255 - (pwL k).length) 0)) ∧ Below w.heap.size w wr ∧ wr.heap.size = w.heap.size + 2) (fun _ i _ => 255 - (intOf i).toNat)
  case atStart => exact ⟨0, Nat.zero_le _, rfl, rfl, hA0, hA1, hb0, hs0⟩
  case round =>
    clear hA0 hA1 hb0 hs0
    obtain ⟨k, hk, rfl, rfl, hA0, hA1, hb0, hs0⟩ := hrel
    have H0 := Lib.hid hA0
    have H1 := Lib.hid hA1
    clear hA0 hA1
    by_cases hlt : k < 255
    · have hcell := H1.out.cell k _ (bcells_get _ k (by simp; rw [pwL_length]; omega))
      have hfr := H1.out.froz k (by rw [bcells_length]; simp; rw [pwL_length]; omega)
      rw [Nat.zero_add] at hcell hfr
      have hkI : (k : Int) < 255 := by omega
      go_wp2_with fail
      refine (double_any (pw k) _).mono ?_
      rintro e w' ⟨rfl, rfl⟩
      obtain ⟨q, hq, hq2⟩ : ∃ q : UInt8, bits .xor .u8 ((pw k).toNat : Int) ((dbl (pw k)).toNat : Int) = (q.toNat : Int) ∧ q = pw (k + 1) := ⟨_, u8x _ _, rfl⟩
      have HQ := Lib.hid hq2
      clear hq2
      go_wp2_with fail
      go_roundw
      case rel =>
        refine ⟨k + 1, by omega, by go_num, by rw [HQ.out], H0.out.other _ _ _ (.inl (by omega)), ?_, hb0.setCell (p := ⟨w.heap.size + 1, k, none⟩) (by simp only; omega) _, by simp [World.setCell]; exact hs0⟩
        have h := H1.out.b8set k (pw k)
        have h2 := grow_set (pwL k) 0 (pw k) 255 (by rw [pwL_length]; exact hlt)
        rw [pwL_length] at h2
        rw [pwL_length, h2, ← pwL_succ, Nat.zero_add] at h
        exact h
      case measure => simp [intOf]; omega
    · have hkn : k = 255 := by omega
      subst hkn
      go_wp2_with fail
      have hA2 := At.ofAlloc wr Tryz.zeroCells96 96
      rw [zero45, hs0] at hA2
      have hA0 := H0.out.alloc (Obj.cells Tryz.zeroCells96 96)
      have hA1 := H1.out.alloc (Obj.cells Tryz.zeroCells96 96)
      rw [pwL_length, Nat.sub_self, List.replicate_zero, List.append_nil] at hA1
      have hb1 := hb0.alloc (by omega) (Obj.cells Tryz.zeroCells96 96)
      have hs1 : (wr.alloc (Obj.cells Tryz.zeroCells96 96)).heap.size = w.heap.size + 3 := by
        rw [World.size_alloc, hs0]
      generalize wr.alloc (Obj.cells Tryz.zeroCells96 96) = w1 at hA0 hA1 hA2 hb1 hs1 ⊢
      rw [show ((255 : Nat) : Int) = (255 : Int) from rfl]
      refine (spread_any 0 _).mono ?_
      rintro e w' ⟨rfl, rfl⟩
      have hcell := hA2.cell 0 _ (bcells_get _ 0 (by simp))
      have hfr := hA2.froz 0 (by rw [bcells_length]; simp)
      rw [Nat.zero_add] at hcell hfr
      have HA2 : Hid (At (w1.setCell ⟨w.heap.size + 2, 0, none⟩ (.int .u8 ((spr 0).toNat : Int))) (w.heap.size + 2) 0 (bcells (outL 0))) := hA2.b8set 0 (spr 0)
      have HA0 : Hid (At (w1.setCell ⟨w.heap.size + 2, 0, none⟩ (.int .u8 ((spr 0).toNat : Int))) w.heap.size 0 (bcells (List.replicate 256 0))) := hA0.other _ _ _ (.inl (by omega))
      have HA1 : Hid (At (w1.setCell ⟨w.heap.size + 2, 0, none⟩ (.int .u8 ((spr 0).toNat : Int))) (w.heap.size + 1) 0 (bcells (pwL 255))) := hA1.other _ _ _ (.inl (by omega))
      have hb2 := hb1.setCell (p := ⟨w.heap.size + 2, 0, none⟩) (by simp only; omega) (.int .u8 ((spr 0).toNat : Int))
      have hs2 : (w1.setCell ⟨w.heap.size + 2, 0, none⟩ (.int .u8 ((spr 0).toNat : Int))).heap.size = w.heap.size + 3 := by
        rw [← hs1]
        simp [World.setCell]
      clear hA0 hA1 hA2 H0 H1 hb0 hb1 hs0 hs1
      go_wp2_with fail
      go_loopw [19] (fun i wr => ∃ k : Nat, k ≤ 255 ∧ i = .int .i64 k ∧ At wr w.heap.size 0 (bcells (List.replicate 256 0)) ∧ At wr (w.heap.size + 1) 0 (bcells (pwL 255)) ∧ At wr (w.heap.size + 2) 0 (bcells (outL k)) ∧ Below w.heap.size w wr ∧ wr.heap.size = w.heap.size + 3) (fun i _ => 255 - (intOf i).toNat)
      case atStart => exact ⟨0, Nat.zero_le _, rfl, HA0.out, HA1.out, HA2.out, hb2, hs2⟩
      case round =>
        clear HA0 HA1 HA2 hb2 hs2 hcell hfr
        obtain ⟨k, hk, rfl, hA0, hA1, hA2, hb0, hs0⟩ := hrel
        have H0 := Lib.hid hA0
        have H1 := Lib.hid hA1
        have H2 := Lib.hid hA2
        clear hA0 hA1 hA2
        by_cases hlt : k < 255
        · obtain ⟨d, hd⟩ : ∃ d : Nat, d = 255 - k := ⟨_, rfl⟩
          obtain ⟨r, hr⟩ : ∃ r : Nat, r = (255 - k) % 255 := ⟨_, rfl⟩
          have hwd : IntKind.i64.wrap (255 - (k : Int)) = (d : Int) := by rw [wrap_in _ (by omega) (by omega)]; omega
          have hwr : (d : Int).tmod 255 = (r : Int) := by rw [Int.tmod_eq_emod_of_nonneg (by omega)]; omega
          have hrl : r < 255 := by omega
          have hb := (pw k).toNat_lt
          have hbI : ((pw k).toNat : Int) < 256 := by omega
          have hc1 := H1.out.b8 k (by rw [pwL_length]; omega)
          have hc2 := H1.out.b8 r (by rw [pwL_length]; omega)
          rw [pwL_get _ _ hlt] at hc1
          rw [pwL_get _ _ hrl] at hc2
          have hc3 := H2.out.b8 (pw k).toNat (by rw [outL_length]; omega)
          have hfr := H2.out.froz (pw k).toNat (by rw [bcells_length, outL_length]; omega)
          rw [Nat.zero_add] at hc1 hc2 hc3 hfr
          have hkI : (k : Int) < 255 := by omega
          have hrI : (r : Int) < 255 := by omega
          have HR := Lib.hid hr
          clear hr hd
          go_wp2_with fail
          go_still_tail 10, (by kernel_rfl)
          still_call (still_y (spread_any _ _))
          repeat still_step
          refine wpStill_nil ?_
          change wpList _ _ _ _ _ wr.drew
          go_wp2_with fail
          go_roundw
          case rel =>
            refine ⟨k + 1, by omega, by go_num, H0.out.drew.other _ _ _ (.inl (by omega)), H1.out.drew.other _ _ _ (.inl (by omega)), ?_, hb0.drew.setCell (p := ⟨w.heap.size + 2, (pw k).toNat, none⟩) (by simp only; omega) _, by simp [World.setCell]; exact hs0⟩
            have h := H2.out.drew.b8set (pw k).toNat (spr (pw r))
            rw [Nat.zero_add, HR.out] at h
            rw [HR.out]
            exact h
          case measure => simp [intOf]; omega
        · have hkn : k = 255 := by omega
          subst hkn
          have h1 : (Tryz.prog.info? 96).map (·.size) = some (bcells (outL 255)).length := by rw [bcells_length, outL_length]; exact size45
          have hst := run_store_at (P := Tryz.prog) H0.out (cs := bcells (outL 255)) (by rw [bcells_length, bcells_length, List.length_replicate, outL_length]) (bcells_one _)
          go_wp2_with fail
          refine wp_load_mid 96 (.tmp 4) rfl (w.heap.size + 2) 0 rfl (bcells (outL 255)) _ H2.out.range Tryz.underlying96 rfl h1 ?_
          go_wp2_with fail
          clear hst
          have hfin : At (wr.setCells w.heap.size 0 (bcells (outL 255))) w.heap.size 0 (bcells (outL 255)) := H0.out.ofSets (by rw [bcells_length, bcells_length, List.length_replicate, outL_length])
          have hbf := below_sets w.heap.size w.heap.size (Nat.le_refl _) (bcells (outL 255)) 0 w wr hb0
          generalize wr.setCells w.heap.size 0 (bcells (outL 255)) = w3 at hfin hbf ⊢
          go_wp2_with fail
          (try simp only [Exit.inBlock, Exit.then])
          refine bodyPost_ret (results_at rfl _ w.heap.size _ _ rfl hfin Tryz.underlying96 rfl h1) rfl ?_
          rw [outL_all]
          exact ⟨rfl, hbf⟩
end Go.Proofs.YtflofbimecnakaaGreat
namespace Go.Proofs.YtflofbimecnakaaGreat
open Go.RowKit
set_option linter.unusedVariables false
set_option linter.unusedSimpArgs false
def mixW (i : Nat) : UInt32 := wd (dbl (gsub (UInt8.ofNat i))) (gsub (UInt8.ofNat i)) (gsub (UInt8.ofNat i)) (dbl (gsub (UInt8.ofNat i)) ^^^ gsub (UInt8.ofNat i))
def mixL (n : Nat) : List UInt32 := (List.range n).map mixW
theorem mixL_succ (n : Nat) : mixL (n + 1) = mixL n ++ [mixW n] := by simp [mixL, List.range_succ]
theorem mixL_length (n : Nat) : (mixL n).length = n := by simp [mixL]
/-- block g is a cipher of the key K: what Encrypt wants -/
def Ciph (w : World) (g : Nat) (K : List UInt8) : Prop := ∃ gw cap, gw < g ∧ At w g 0 [.slice (some ⟨gw, 0, none⟩) (expW K).length cap] ∧ At w gw 0 (wcells (expW K)) ∧ At w g 1 (bcells sboxL) ∧ At w g 257 (wcells (mixL 256))
/-- nobody has decrypted yet -/
def Fresh (w : World) (g : Nat) : Prop := At w g 513 [.int .u32 0, .int .i32 0, .int .u32 0] ∧ At w g 516 (bcells (List.replicate 256 0)) ∧ At w g 772 (wcells (List.replicate 256 0))
def tail59 : List Value := wcells (List.replicate 256 0) ++ ([.int .u32 0, .int .i32 0, .int .u32 0] ++ (bcells (List.replicate 256 0) ++ wcells (List.replicate 256 0)))
def zero59 : List Value := .slice none 0 0 :: (bcells (List.replicate 256 0) ++ tail59)
theorem cells59 : Tryz.zeroCells110.toList = zero59 := by kernel_rfl
theorem zero59_drop : zero59.drop (1 + 256) = tail59 := by
  rw [zero59, Nat.add_comm, List.drop_succ_cons, List.drop_left' (by rw [bcells_length, List.length_replicate])]
theorem zero59_len : zero59.length = 1028 := by
  rw [zero59, tail59, List.length_cons, List.length_append, List.length_append, List.length_append, List.length_append, bcells_length, wcells_length, List.length_replicate, List.length_replicate]
  rfl
theorem box59 (v : Value) (l : List UInt8) (hl : l.length = 256) : (List.foldl (fun (cs : Array Value) (x : Value × Nat) => cs.setIfInBounds (1 + x.2) x.1) (Tryz.zeroCells110.setIfInBounds 0 v) (bcells l).zipIdx).toList = v :: (bcells l ++ tail59) := by
  have hs : Tryz.zeroCells110.size = 1028 := by rw [← Array.length_toList, cells59, zero59_len]
  have h := lay_list (bcells l) 1 (Tryz.zeroCells110.setIfInBounds 0 v) 0 (by rw [Array.size_setIfInBounds, hs, bcells_length, hl]; decide)
  rw [h, Array.toList_setIfInBounds, cells59, bcells_length, hl]
  rw [List.drop_set_of_lt (by decide), show 1 + 0 + 256 = 1 + 256 from rfl, zero59_drop, zero59, List.set_cons_zero, Nat.add_zero, List.take_succ_cons, List.take_zero]
  rfl
theorem At.split {w : World} {g o : Nat} {a b : List Value} (h : At w g o (a ++ b)) : At w g o a ∧ At w g (o + a.length) b := by
  constructor
  · intro j v hv
    have hj : j < a.length := (List.getElem?_eq_some_iff.1 hv).1
    exact h j v (by rw [List.getElem?_append_left hj]; exact hv)
  · intro j v hv
    have := h (a.length + j) v (by rw [List.getElem?_append_right (by omega), Nat.add_sub_cancel_left]; exact hv)
    rw [Nat.add_assoc]
    exact this
/-- a cipher of its own -/
def RetC (K : List UInt8) (w : World) (e : Ending) (w' : World) : Prop := ∃ g, w.heap.size ≤ g ∧ e = .returned (.tuple #[.pointer (some ⟨g, 0, none⟩), .int .i64 0]) ∧ Ciph w' g K ∧ Fresh w' g ∧ Below w.heap.size w w'
set_option maxRecDepth 100000 in
theorem new_bad (key : ByteArray) (w : World) (h1 : key.size ≠ 16) (h2 : key.size ≠ 24) (h3 : key.size ≠ 32) : Calls Tryz.prog 39 #[.string key] w (fun e w' => e = .returned (.tuple #[.pointer none, .int .i64 3]) ∧ w = w') := by
  go_enter Tryz.func39, Tryz.ntmps39
  go_wp2_with fail
  refine (expand_bad key _ h1 h2 h3).mono ?_
  rintro e w' ⟨rfl, rfl⟩
  go_wp2_with fail
  go_ret2
  exact ⟨rfl, rfl⟩
set_option maxRecDepth 100000 in
set_option maxHeartbeats 3200000 in
theorem new_any (key : ByteArray) (w : World) (h : key.size = 16 ∨ key.size = 24 ∨ key.size = 32) : Calls Tryz.prog 39 #[.string key] w (RetC key.toList w) := by
  go_enter Tryz.func39, Tryz.ntmps39
  go_wp2_with fail
  refine (expand_any key _ h).mono ?_
  rintro e w1 ⟨cap, rfl, hW, hb⟩
  have hlt := hW.lt (by intro he; have := congrArg List.length he; rw [wcells_length, expW_length] at this; simp at this)
  have HW := Lib.hid hW
  clear hW
  go_wp2_with fail
  refine (subs_any _).mono ?_
  rintro e w2 ⟨rfl, hb2⟩
  go_wp2_with fail
  have hA2 := box59 (.slice (some ⟨w.heap.size, 0, none⟩) (expW key.toList).length cap) sboxL sboxL_length
  generalize List.foldl (fun (cs : Array Value) (x : Value × Nat) => cs.setIfInBounds (1 + x.2) x.1) (Tryz.zeroCells110.setIfInBounds 0 (.slice (some ⟨w.heap.size, 0, none⟩) (expW key.toList).length cap)) (bcells sboxL).zipIdx = A at hA2 ⊢
  have hAt := At.ofAlloc w2 A 110
  rw [hA2, ← List.singleton_append] at hAt
  have hW2 := (HW.out.below hb2 hlt).alloc (Obj.cells A 110)
  have hbA := (hb.trans (hb2.mono (Nat.le_of_lt hlt))).alloc (by have := hb2.size; omega) (Obj.cells A 110)
  have hg : w.heap.size < w2.heap.size := by have := hb2.size; omega
  generalize w2.alloc (Obj.cells A 110) = w3 at hAt hW2 hbA ⊢
  obtain ⟨g, hgg⟩ : ∃ g, w2.heap.size = g := ⟨_, rfl⟩
  rw [hgg] at hAt hg ⊢
  have h0 := hAt.split.1
  have h1 := hAt.split.2.split.1
  have h2 := hAt.split.2.split.2
  rw [bcells_length, sboxL_length, tail59] at h2
  have h3 := h2.split.1
  have h4 := h2.split.2
  rw [wcells_length, List.length_replicate] at h4
  have h5 := h4.split.1
  have h6 := h4.split.2.split.1
  have h7 := h4.split.2.split.2
  rw [bcells_length, List.length_replicate] at h7
  simp only [List.length_cons, List.length_nil, Nat.zero_add, Nat.reduceAdd] at h0 h1 h3 h5 h6 h7
  clear hAt h2 h4 hA2 hgg HW hb hb2
  have H0 := Lib.hid h0
  have H1 := Lib.hid h1
  have H5 := Lib.hid h5
  have H6 := Lib.hid h6
  have H7 := Lib.hid h7
  have HW := Lib.hid hW2
  clear h0 h1 h5 h6 h7 hW2
  have h3' : At w3 g 257 (wcells (mixL 0 ++ List.replicate (256 - (mixL 0).length) 0)) := h3
  clear h3 h
  go_loopw [21] (fun i wr => ∃ k : Nat, k ≤ 256 ∧ i = .int .i64 k ∧ At wr w.heap.size 0 (wcells (expW key.toList)) ∧ At wr g 0 [.slice (some ⟨w.heap.size, 0, none⟩) (expW key.toList).length cap] ∧ At wr g 1 (bcells sboxL) ∧ At wr g 257 (wcells (mixL k ++ List.replicate (256 - (mixL k).length) 0)) ∧ Fresh wr g ∧ Below w.heap.size w wr) (fun i _ => 256 - (intOf i).toNat)
  case atStart => exact ⟨0, Nat.zero_le _, rfl, HW.out, H0.out, H1.out, h3', ⟨H5.out, H6.out, H7.out⟩, hbA⟩
  case round =>
    clear h3' H0 H1 H5 H6 H7 HW hbA
    obtain ⟨k, hk, rfl, hW, h0, h1, h3, ⟨h5, h6, h7⟩, hb⟩ := hrel
    have H0 := Lib.hid h0
    have H1 := Lib.hid h1
    have H3 := Lib.hid h3
    have H5 := Lib.hid h5
    have H6 := Lib.hid h6
    have H7 := Lib.hid h7
    have HW := Lib.hid hW
    clear h0 h1 h3 h5 h6 h7 hW
    by_cases hlt : k < 256
    · obtain ⟨s, hs⟩ : ∃ s : UInt8, gsub (UInt8.ofNat k) = s := ⟨_, rfl⟩
      have hc1 := H1.out.b8 k (by rw [sboxL_length]; exact hlt)
      have hsb := sboxL_get (UInt8.ofNat k)
      rw [show (UInt8.ofNat k).toNat = k by simp; omega, hs] at hsb
      rw [hsb] at hc1
      have HS := Lib.hid hs
      have hc3 := H3.out.cell k _ (wcells_get _ k (by simp; rw [mixL_length]; omega))
      have hfr := H3.out.froz k (by rw [wcells_length]; simp; rw [mixL_length]; omega)
      have hkI : (k : Int) < 256 := by omega
      obtain ⟨q, hq, hq2⟩ : ∃ q : UInt8, bits .xor .u8 ((dbl s).toNat : Int) (s.toNat : Int) = (q.toNat : Int) ∧ q = dbl s ^^^ s := ⟨_, u8x _ _, rfl⟩
      have HQ := Lib.hid hq2
      clear hs hsb hq2
      go_wp2_with fail
      go_still_tail 14, (by kernel_rfl)
      still_call (still_y (double_any _ _))
      repeat still_step
      still_call (still_y (double_any _ _))
      repeat still_step
      still_call (still_w (word_any _ _ _ _ _))
      repeat still_step
      refine wpStill_nil ?_
      change wpList _ _ _ _ _ wr.drew
      go_wp2_with fail
      go_roundw
      case rel =>
        refine ⟨k + 1, by omega, by go_num, HW.out.drew.other _ _ _ (.inl (by omega)), H0.out.drew.other _ _ _ (.inr (.inr (by simp; omega))), H1.out.drew.other _ _ _ (.inr (.inr (by rw [bcells_length, sboxL_length]; omega))), ?_, ⟨H5.out.drew.other _ _ _ (.inr (.inl (by omega))), H6.out.drew.other _ _ _ (.inr (.inl (by omega))), H7.out.drew.other _ _ _ (.inr (.inl (by omega)))⟩, hb.drew.setCell (p := ⟨g, 257 + k, none⟩) (Nat.le_of_lt hg) _⟩
        have h := H3.out.drew.w32set k (wd (dbl s) s s q)
        have h2 := grow_set (mixL k) 0 (wd (dbl s) s s q) 256 (by rw [mixL_length]; exact hlt)
        rw [mixL_length] at h2
        rw [mixL_length, h2] at h
        have h4 : mixL k ++ [wd (dbl s) s s q] = mixL (k + 1) := by rw [mixL_succ, mixW, HS.out, HQ.out]
        rw [h4] at h
        exact h
      case measure => simp [intOf]; omega
    · have hkn : k = 256 := by omega
      subst hkn
      go_wp2_with fail
      go_ret2
      have h := H3.out
      rw [mixL_length, Nat.sub_self, List.replicate_zero, List.append_nil] at h
      exact ⟨g, Nat.le_of_lt hg, rfl, ⟨w.heap.size, cap, hg, H0.out, HW.out, H1.out, h⟩, ⟨H5.out, H6.out, H7.out⟩, hb⟩
end Go.Proofs.YtflofbimecnakaaGreat
namespace Go.Proofs.YtflofbimecnakaaGreat
open Go.RowKit
set_option linter.unusedVariables false
set_option linter.unusedSimpArgs false
theorem size71 : (Tryz.prog.info? 114).map (·.size) = some 4 := by kernel_rfl
/-- a column block that begins with zeros -/
abbrev zc : Obj := Obj.cells #[Value.int .u32 0, Value.int .u32 0, Value.int .u32 0, Value.int .u32 0] 114
theorem two_cols (w : World) : ∃ w0, (w.alloc zc).alloc zc = w0 ∧ At w0 w.heap.size 0 (wcells [0, 0, 0, 0]) ∧ At w0 (w.heap.size + 1) 0 (wcells [0, 0, 0, 0]) ∧ Below w.heap.size w w0 ∧ w0.heap.size = w.heap.size + 2 := by
  refine ⟨_, rfl, ?_, ?_, ?_, by simp⟩
  · exact (At.ofAlloc w _ _).alloc _
  · have h := At.ofAlloc (w.alloc zc) #[Value.int .u32 0, Value.int .u32 0, Value.int .u32 0, Value.int .u32 0] 114
    rw [World.size_alloc] at h
    exact h
  · exact ((Below.refl _ _).alloc (Nat.le_refl _) _).alloc (by simp) _
theorem wlen4 (l : List UInt32) (h : l.length = 4) : (Tryz.prog.info? 114).map (·.size) = some (wcells l).length := by rw [wcells_length, h]; exact size71
set_option maxRecDepth 100000 in
set_option maxHeartbeats 3200000 in
theorem start_any (b : ByteArray) (w : World) (g : Nat) (K : List UInt8) (hC : Ciph w g K) (hb : b.size = 16) : Calls Tryz.prog 53 #[.pointer (some ⟨g, 0, none⟩), .string b] w
    (fun e w' => e = .returned (.tuple #[.agg (wcells (keyL b.toList 4)).toArray, .int .i64 0]) ∧ Below w.heap.size w w') := by
  obtain ⟨gw, cap, hgw, h0, hx1, hx2, hx3⟩ := hC
  clear hx1 hx2 hx3
  have hg := h0.lt (by simp)
  have hc0 := h0.cell 0 _ rfl
  rw [Nat.add_zero] at hc0
  have hlen : ((((expW K).length : Nat) : Int) == 0) = false := by
    rw [beq_eq_false_iff_ne, expW_length]
    omega
  have hb2 : ((b.size : Int) != 16) = false := by rw [bne_eq_false_iff_eq]; omega
  go_enter Tryz.func53, Tryz.ntmps53
  go_wp2_with fail
  obtain ⟨w0, hw0, hA0, hA1, hb0, hs0⟩ := two_cols w
  rw [hw0]
  clear hc0 h0 hw0
  clear hlen hb2
  have hA1' : At w0 (w.heap.size + 1) 0 (wcells (keyL b.toList 0 ++ List.replicate (4 - (keyL b.toList 0).length) 0)) := hA1
  clear hA1
  go_loopw [23] (fun i wr => ∃ k : Nat, k ≤ 4 ∧ i = .int .i64 k ∧ At wr w.heap.size 0 (wcells [0, 0, 0, 0]) ∧ At wr (w.heap.size + 1) 0 (wcells (keyL b.toList k ++ List.replicate (4 - (keyL b.toList k).length) 0)) ∧ Below w.heap.size w wr) (fun i _ => 4 - (intOf i).toNat)
  case atStart => exact ⟨0, Nat.zero_le _, rfl, hA0, hA1', hb0⟩
  case round =>
    clear hA0 hA1' hb0 hs0
    obtain ⟨k, hk, rfl, hA0, hA1, hb0⟩ := hrel
    have H0 := Lib.hid hA0
    have H1 := Lib.hid hA1
    have HS := Lib.hid hb
    clear hA0 hA1 hb
    by_cases hlt : k < 4
    · have hks : 4 * k + 3 < b.size := by have := HS.out; omega
      obtain ⟨q0, q1, q2, q3, hq0, hq1, hq2, hq3⟩ : ∃ q0 q1 q2 q3 : Nat, q0 = 4 * k ∧ q1 = 4 * k + 1 ∧ q2 = 4 * k + 2 ∧ q3 = 4 * k + 3 := ⟨_, _, _, _, rfl, rfl, rfl, rfl⟩
      have hw0 : IntKind.i64.wrap (4 * (k : Int)) = (q0 : Int) := by rw [wrap_in _ (by omega) (by omega)]; omega
      have hw1 : IntKind.i64.wrap ((q0 : Int) + 1) = (q1 : Int) := by rw [wrap_in _ (by omega) (by omega)]; omega
      have hw2 : IntKind.i64.wrap ((q0 : Int) + 2) = (q2 : Int) := by rw [wrap_in _ (by omega) (by omega)]; omega
      have hw3 : IntKind.i64.wrap ((q0 : Int) + 3) = (q3 : Int) := by rw [wrap_in _ (by omega) (by omega)]; omega
      have hs0 : q0 < b.size := by omega
      have hs1 : q1 < b.size := by omega
      have hs2 : q2 < b.size := by omega
      have hs3 : q3 < b.size := by omega
      have HK : Hid (wd b[q0] b[q1] b[q2] b[q3] = keyW b.toList k) := by
        show _ = _
        rw [keyW, ← hq3, ← hq2, ← hq1, ← hq0, at0_tl _ _ hs0, at0_tl _ _ hs1, at0_tl _ _ hs2, at0_tl _ _ hs3]
      clear hq0 hq1 hq2 hq3 hks
      have hkI : (k : Int) < 4 := by omega
      have hcell := H1.out.w32 k (by simp; rw [keyL_length]; omega)
      have hfr := H1.out.froz k (by simp [wcells_length]; rw [keyL_length]; omega)
      rw [Nat.zero_add] at hcell hfr
      go_wp2_with fail
      go_still_tail 22, (by kernel_rfl)
      still_call (still_w (word_any _ _ _ _ _))
      repeat still_step
      refine wpStill_nil ?_
      change wpList _ _ _ _ _ wr.drew
      go_wp2_with fail
      go_roundw
      case rel =>
        refine ⟨k + 1, by omega, by go_num, H0.out.drew.other _ _ _ (.inl (by omega)), ?_, (hb0.drew.setCell (p := ⟨w.heap.size + 1, k, none⟩) (by simp only; omega) _)⟩
        have h := H1.out.drew.w32set k (keyW b.toList k)
        have h2 := grow_set (keyL b.toList k) 0 (keyW b.toList k) 4 (by rw [keyL_length]; exact hlt)
        rw [keyL_length] at h2
        rw [keyL_length, h2, ← keyL_succ, Nat.zero_add] at h
        rw [HK.out]
        exact h
      case measure => simp [intOf]; omega
    · have hkn : k = 4 := by omega
      subst hkn
      have h1 := H1.out
      rw [keyL_length, Nat.sub_self, List.replicate_zero, List.append_nil] at h1
      have hst := run_store_at (P := Tryz.prog) H0.out (cs := wcells (keyL b.toList 4)) (by rw [wcells_length, wcells_length, keyL_length]; rfl) (wcells_one _)
      go_wp2_with (refine wpList_load_at 114 (.tmp 6) (w.heap.size + 1) 0 _ _ h1 Tryz.underlying114 rfl (wlen4 _ (keyL_length _ _)) ⟨rfl, rfl, rfl⟩ ?_)
      have hfin : At (wr.setCells w.heap.size 0 (wcells (keyL b.toList 4))) w.heap.size 0 (wcells (keyL b.toList 4)) := H0.out.ofSets (by rw [wcells_length, wcells_length, keyL_length]; rfl)
      have hbf := below_sets w.heap.size w.heap.size (Nat.le_refl _) (wcells (keyL b.toList 4)) 0 w wr hb0
      (try simp only [Exit.inBlock, Exit.then])
      refine bodyPost_ret (results_at_two rfl _ w.heap.size _ _ rfl hfin Tryz.underlying114 rfl (wlen4 _ (keyL_length _ _)) _ rfl) rfl ?_
      exact ⟨rfl, hbf⟩
end Go.Proofs.YtflofbimecnakaaGreat
namespace Go.Proofs.YtflofbimecnakaaGreat
open Go.RowKit
set_option linter.unusedVariables false
set_option linter.unusedSimpArgs false
def colV (S : List UInt32) : Value := .agg (wcells S).toArray
def RetK (S : List UInt32) (w : World) (e : Ending) (w' : World) : Prop := e = .returned (.agg (wcells S).toArray) ∧ Below w.heap.size w w'
def addF (S W : List UInt32) (o : Nat) (i : Nat) : UInt32 := S.getD i 0 ^^^ W.getD (o + i) 0
def addL (S W : List UInt32) (o : Nat) : List UInt32 := (List.range 4).map (addF S W o)
theorem addL_length (S W : List UInt32) (o : Nat) : (addL S W o).length = 4 := by simp [addL]
theorem box_cols (w : World) (S : List UInt32) : ∃ w0, (w.alloc (Obj.cells (wcells S).toArray 114)).alloc zc = w0 ∧ At w0 w.heap.size 0 (wcells S) ∧ At w0 (w.heap.size + 1) 0 (wcells [0, 0, 0, 0]) ∧ Below w.heap.size w w0 ∧ w0.heap.size = w.heap.size + 2 := by
  refine ⟨_, rfl, ?_, ?_, ?_, by simp⟩
  · have h := At.ofAlloc w (wcells S).toArray 114
    simp only at h
    exact h.alloc _
  · have h := At.ofAlloc (w.alloc (Obj.cells (wcells S).toArray 114)) #[Value.int .u32 0, Value.int .u32 0, Value.int .u32 0, Value.int .u32 0] 114
    rw [World.size_alloc] at h
    exact h
  · exact ((Below.refl _ _).alloc (Nat.le_refl _) _).alloc (by simp) _
set_option maxRecDepth 100000 in
set_option maxHeartbeats 3200000 in
theorem add_any (S : List UInt32) (o : Nat) (w : World) (g : Nat) (K : List UInt8) (hC : Ciph w g K) (hS : S.length = 4) (ho : o + 4 ≤ (expW K).length) (hK : (expW K).length ≤ 60) : Calls Tryz.prog 54 #[.pointer (some ⟨g, 0, none⟩), .agg (wcells S).toArray, .int .i64 (o : Int)] w (RetK (addL S (expW K) o) w) := by
  obtain ⟨gw, cap, hgw, h0, hw, hx2, hx3⟩ := hC
  clear hx2 hx3
  have hg := h0.lt (by simp)
  go_enter Tryz.func54, Tryz.ntmps54
  go_wp2_with fail
  obtain ⟨w0, hw0, hA0, hA1, hb0, hs0⟩ := box_cols w S
  rw [hw0]
  have hP0 : At w0 g 0 [.slice (some ⟨gw, 0, none⟩) (expW K).length cap] := h0.below hb0 hg
  have hQ0 : At w0 gw 0 (wcells (expW K)) := hw.below hb0 (by omega)
  clear hw0 h0 hw
  have hA0' : At w0 w.heap.size 0 (wcells (mixP 4 (addF S (expW K) o) (fun i => S.getD i 0) 0)) := by
    rw [mixP_zero, map_getD S 0 4 hS]
    exact hA0
  clear hA0
  go_loopw [8] (fun i wr => ∃ k : Nat, k ≤ 4 ∧ i = .int .i64 k ∧ At wr w.heap.size 0 (wcells (mixP 4 (addF S (expW K) o) (fun i => S.getD i 0) k)) ∧ At wr (w.heap.size + 1) 0 (wcells [0, 0, 0, 0]) ∧ At wr g 0 [.slice (some ⟨gw, 0, none⟩) (expW K).length cap] ∧ At wr gw 0 (wcells (expW K)) ∧ Below w.heap.size w wr) (fun i _ => 4 - (intOf i).toNat)
  case atStart => exact ⟨0, Nat.zero_le _, rfl, hA0', hA1, hP0, hQ0, hb0⟩
  case round =>
    clear hA0' hA1 hb0 hs0 hP0 hQ0
    obtain ⟨k, hk, rfl, hA0, hA1, hP, hQ, hb0⟩ := hrel
    have H0 := Lib.hid hA0
    have H1 := Lib.hid hA1
    have HP := Lib.hid hP
    have HQ := Lib.hid hQ
    clear hA0 hA1 hP hQ
    by_cases hlt : k < 4
    · obtain ⟨q, hq⟩ : ∃ q : Nat, q = o + k := ⟨_, rfl⟩
      have hwq : IntKind.i64.wrap ((o : Int) + (k : Int)) = (q : Int) := by rw [wrap_in _ (by omega) (by omega)]; omega
      have hql : q < (expW K).length := by omega
      have hqI : (q : Int) < ((expW K).length : Int) := by omega
      have hkI : (k : Int) < 4 := by omega
      have hc0 := H0.out.w32 k (by rw [mixP_length]; exact hlt)
      have hfr := H0.out.froz k (by rw [wcells_length, mixP_length]; exact hlt)
      rw [mixP_at _ _ _ _ _ _ hlt, if_neg (by omega)] at hc0
      have hcp := HP.out.cell 0 _ rfl
      have hcq := HQ.out.w32 q hql
      rw [Nat.zero_add] at hc0 hcq hfr
      rw [Nat.add_zero] at hcp
      obtain ⟨x, hx⟩ : ∃ x, S.getD k 0 = x := ⟨_, rfl⟩
      obtain ⟨y, hy⟩ : ∃ y, (expW K).getD q 0 = y := ⟨_, rfl⟩
      rw [hx] at hc0
      rw [hy] at hcq
      obtain ⟨z, hz, hz2⟩ : ∃ z : UInt32, bits .xor .u32 (x.toNat : Int) (y.toNat : Int) = (z.toNat : Int) ∧ addF S (expW K) o k = z := ⟨_, u32x _ _, by rw [addF, ← hq, hx, hy]⟩
      have HZ := Lib.hid hz2
      clear hz2 hx hy hq ho hK
      go_wp2_with fail
      go_still_tail 14, (by kernel_rfl)
      change wpList _ _ _ _ _ wr.drew
      go_wp2_with fail
      go_roundw
      case rel =>
        refine ⟨k + 1, by omega, by go_num, ?_, H1.out.drew.other _ _ _ (.inl (by omega)), HP.out.drew.other _ _ _ (.inl (by omega)), HQ.out.drew.other _ _ _ (.inl (by omega)), (hb0.drew.setCell (p := ⟨w.heap.size, k, none⟩) (Nat.le_refl _) _)⟩
        have h := H0.out.drew.w32set k z
        rw [← HZ.out, mixP_set, HZ.out, Nat.zero_add] at h
        exact h
      case measure => simp [intOf]; omega
    · have hkn : k = 4 := by omega
      subst hkn
      have h1 := H0.out
      rw [mixP_full] at h1
      have hst := run_store_at (P := Tryz.prog) H1.out (cs := wcells (addL S (expW K) o)) (by rw [wcells_length, wcells_length, addL_length]; rfl) (wcells_one _)
      go_wp2_with (refine wpList_load_at 114 (.tmp 4) w.heap.size 0 (wcells (addL S (expW K) o)) _ h1 Tryz.underlying114 rfl (wlen4 _ (addL_length _ _ _)) ⟨rfl, rfl, rfl⟩ ?_)
      have hfin : At (wr.setCells (w.heap.size + 1) 0 (wcells (addL S (expW K) o))) (w.heap.size + 1) 0 (wcells (addL S (expW K) o)) := H1.out.ofSets (by rw [wcells_length, wcells_length, addL_length]; rfl)
      have hbf := below_sets w.heap.size (w.heap.size + 1) (by omega) (wcells (addL S (expW K) o)) 0 w wr hb0
      (try simp only [Exit.inBlock, Exit.then])
      refine bodyPost_ret (results_at rfl _ (w.heap.size + 1) _ _ rfl hfin Tryz.underlying114 rfl (wlen4 _ (addL_length _ _ _))) rfl ?_
      exact ⟨rfl, hbf⟩
end Go.Proofs.YtflofbimecnakaaGreat
namespace Go.Proofs.YtflofbimecnakaaGreat
open Go.RowKit
set_option linter.unusedVariables false
set_option linter.unusedSimpArgs false
theorem row_nat (x : UInt32) (n : Nat) (w : World) (h : n ≤ 3) : Calls Tryz.prog 76 #[.int .u32 (x.toNat : Int), .int .i64 (n : Int)] w (RetY (rw_ x n) w) := by
  have := row_any x (n : Int) w (by omega) (by omega)
  rwa [Int.toNat_natCast] at this
def tn (n : Nat) : Nat := ((-8 * (n : Int)) % 32).toNat
def rcol (f : UInt8 → UInt32) (pick : Nat → UInt32) : Nat → UInt32
  | 0 => 0
  | n + 1 => rcol f pick n ^^^ rotl32 (f (rw_ (pick n) n)) (tn n)
def mixB (b : UInt8) : UInt32 := wd (dbl (gsub b)) (gsub b) (gsub b) (dbl (gsub b) ^^^ gsub b)
theorem mixL_get (b : UInt8) : (mixL 256).getD b.toNat 0 = mixB b := by
  have := b.toNat_lt
  simp [mixL, List.getD, this, mixW, mixB]
def rouF (S : List UInt32) (i : Nat) : UInt32 := rcol mixB (fun n => S.getD ((i + n) % 4) 0) 4
def rouL (S : List UInt32) : List UInt32 := (List.range 4).map (rouF S)
theorem rouL_length (S : List UInt32) : (rouL S).length = 4 := by simp [rouL]
theorem three_cols (w : World) (S : List UInt32) : ∃ w0, ((w.alloc (Obj.cells (wcells S).toArray 114)).alloc zc).alloc zc = w0 ∧ At w0 w.heap.size 0 (wcells S) ∧ At w0 (w.heap.size + 1) 0 (wcells [0, 0, 0, 0]) ∧ At w0 (w.heap.size + 2) 0 (wcells [0, 0, 0, 0]) ∧ Below w.heap.size w w0 ∧ w0.heap.size = w.heap.size + 3 := by
  obtain ⟨w1, h1, hA, hB, hb, hs⟩ := box_cols w S
  rw [h1]
  refine ⟨_, rfl, hA.alloc _, hB.alloc _, ?_, hb.alloc (by omega) _, by simp [hs]⟩
  have h := At.ofAlloc w1 #[Value.int .u32 0, Value.int .u32 0, Value.int .u32 0, Value.int .u32 0] 114
  rw [hs] at h
  exact h
set_option maxRecDepth 100000 in
set_option maxHeartbeats 3200000 in
theorem round_any (S : List UInt32) (w : World) (g : Nat) (K : List UInt8) (hC : Ciph w g K) (hS : S.length = 4) : Calls Tryz.prog 55 #[.pointer (some ⟨g, 0, none⟩), .agg (wcells S).toArray] w (RetK (rouL S) w) := by
  obtain ⟨gw, cap, hgw, h0, hw, hx2, hm⟩ := hC
  have hg := h0.lt (by simp)
  clear hx2 h0 hw
  go_enter Tryz.func55, Tryz.ntmps55
  go_wp2_with fail
  obtain ⟨w0, hw0, hA0, hA1, hA2, hb0, hs0⟩ := three_cols w S
  rw [hw0]
  have hM0 : At w0 g 257 (wcells (mixL 256)) := hm.below hb0 hg
  clear hw0 hm
  have hA2' : At w0 (w.heap.size + 2) 0 (wcells (mixP 4 (rouF S) (fun _ => 0) 0)) := hA2
  clear hA2
  go_loopw [8] (fun i wr => ∃ k : Nat, k ≤ 4 ∧ i = .int .i64 k ∧ At wr w.heap.size 0 (wcells S) ∧ At wr (w.heap.size + 1) 0 (wcells [0, 0, 0, 0]) ∧ At wr (w.heap.size + 2) 0 (wcells (mixP 4 (rouF S) (fun _ => 0) k)) ∧ At wr g 257 (wcells (mixL 256)) ∧ Below w.heap.size w wr) (fun i _ => 4 - (intOf i).toNat)
  case atStart => exact ⟨0, Nat.zero_le _, rfl, hA0, hA1, hA2', hM0, hb0⟩
  case round =>
    clear hA0 hA1 hA2' hb0 hs0 hM0
    obtain ⟨k, hk, rfl, hA0, hA1, hA2, hM, hb0⟩ := hrel
    have H0 := Lib.hid hA0
    have H1 := Lib.hid hA1
    have H2 := Lib.hid hA2
    have HM := Lib.hid hM
    clear hA0 hA1 hA2 hM
    by_cases hlt : k < 4
    · have hkI : (k : Int) < 4 := by omega
      go_wp2_with fail
      have hset : (mixP 4 (rouF S) (fun _ => 0) k).set k (rcol mixB (fun n => S.getD ((k + n) % 4) 0) 0) = mixP 4 (rouF S) (fun _ => 0) k := by
        have hl : k < (mixP 4 (rouF S) (fun _ => 0) k).length := by rw [mixP_length]; exact hlt
        apply List.ext_getElem
        · simp
        · intro i h1 h2
          rw [List.getElem_set]
          by_cases e : k = i
          · subst e
            rw [if_pos rfl]
            simp [mixP, rcol]
          · rw [if_neg e]
      have H2' : Hid (At wr (w.heap.size + 2) 0 (wcells ((mixP 4 (rouF S) (fun _ => 0) k).set k (rcol mixB (fun n => S.getD ((k + n) % 4) 0) 0)))) := by
        rw [hset]
        exact H2
      have H0' := H0
      have H1' := H1
      have HM' := HM
      have hb0' := hb0
      clear H0 H1 H2 HM hb0 hset
      go_loopw [11] (fun i wr => ∃ n : Nat, n ≤ 4 ∧ i = .int .i64 n ∧ At wr w.heap.size 0 (wcells S) ∧ At wr (w.heap.size + 1) 0 (wcells [0, 0, 0, 0]) ∧ At wr (w.heap.size + 2) 0 (wcells ((mixP 4 (rouF S) (fun _ => 0) k).set k (rcol mixB (fun n => S.getD ((k + n) % 4) 0) n))) ∧ At wr g 257 (wcells (mixL 256)) ∧ Below w.heap.size w wr) (fun i _ => 4 - (intOf i).toNat)
      case atStart => exact ⟨0, Nat.zero_le _, rfl, H0'.out, H1'.out, H2'.out, HM'.out, hb0'⟩
      case round =>
        clear H0' H1' H2' HM' hb0'
        obtain ⟨n, hn, rfl, hA0, hA1, hA2, hM, hb0⟩ := hrel
        have H0 := Lib.hid hA0
        have H1 := Lib.hid hA1
        have H2 := Lib.hid hA2
        have HM := Lib.hid hM
        clear hA0 hA1 hA2 hM
        by_cases hlt2 : n < 4
        · obtain ⟨q, hq⟩ : ∃ q : Nat, q = k + n := ⟨_, rfl⟩
          obtain ⟨r, hr⟩ : ∃ r : Nat, r = q % 4 := ⟨_, rfl⟩
          have hwq : IntKind.i64.wrap ((k : Int) + (n : Int)) = (q : Int) := by rw [wrap_in _ (by omega) (by omega)]; omega
          have hwr : (q : Int).tmod 4 = (r : Int) := by rw [Int.tmod_eq_emod_of_nonneg (by omega)]; omega
          have hrl : r < 4 := by omega
          have hrI : (r : Int) < 4 := by omega
          obtain ⟨m, hm⟩ : ∃ m : Int, m = -8 * (n : Int) := ⟨_, rfl⟩
          have hwm : IntKind.i64.wrap (-8 * (n : Int)) = m := by
            subst hm
            have : ∀ j : Fin 4, IntKind.i64.wrap (-8 * (j.val : Int)) = -8 * (j.val : Int) := by decide
            exact this ⟨n, hlt2⟩
          have hc0 := H0.out.w32 r (by omega)
          obtain ⟨x, hx⟩ : ∃ x, S.getD r 0 = x := ⟨_, rfl⟩
          rw [hx, Nat.zero_add] at hc0
          have hxb := (rw_ x n).toNat_lt
          have hxI : ((rw_ x n).toNat : Int) < 256 := by omega
          have hcm := HM.out.w32 (rw_ x n).toNat (by rw [mixL_length]; omega)
          rw [mixL_get] at hcm
          have hc2 := H2.out.w32 k (by rw [List.length_set, mixP_length]; exact hlt)
          have hfr := H2.out.froz k (by rw [wcells_length, List.length_set, mixP_length]; exact hlt)
          have hget : ((mixP 4 (rouF S) (fun _ => 0) k).set k (rcol mixB (fun n => S.getD ((k + n) % 4) 0) n)).getD k 0 = rcol mixB (fun n => S.getD ((k + n) % 4) 0) n := by
            have hl : k < (mixP 4 (rouF S) (fun _ => 0) k).length := by rw [mixP_length]; exact hlt
            simp [List.getD, hl]
          rw [hget] at hc2
          rw [Nat.zero_add] at hc2 hfr
          obtain ⟨y, hy⟩ : ∃ y, rcol mixB (fun n => S.getD ((k + n) % 4) 0) n = y := ⟨_, rfl⟩
          obtain ⟨u, hu⟩ : ∃ u, mixB (rw_ x n) = u := ⟨_, rfl⟩
          rw [hy] at hc2
          rw [hu] at hcm
          obtain ⟨z, hz, hz2⟩ : ∃ z : UInt32, bits .xor .u32 (y.toNat : Int) ((rotl32 u (m % 32).toNat).toNat : Int) = (z.toNat : Int) ∧ rcol mixB (fun n => S.getD ((k + n) % 4) 0) (n + 1) = z := ⟨_, u32x _ _, by
            rw [rcol, hy, ← hq, ← hr, hx, hu, tn, ← hm]⟩
          have HZ := Lib.hid hz2
          have HY := Lib.hid hy
          have hn3 : n ≤ 3 := by omega
          clear hz2 hx hy hu hq hr hm hget
          go_wp2_with fail
          go_still_tail 21, (by kernel_rfl)
          still_call (still_y (row_nat x n _ hn3))
          repeat still_step
          still_call (still_w (rotl32_any u m _))
          repeat still_step
          refine wpStill_nil ?_
          change wpList _ _ _ _ _ wr.drew
          go_wp2_with fail
          go_roundw
          case rel =>
            refine ⟨n + 1, by omega, by go_num, H0.out.drew.other _ _ _ (.inl (by omega)), H1.out.drew.other _ _ _ (.inl (by omega)), ?_, HM.out.drew.other _ _ _ (.inl (by omega)), (hb0.drew.setCell (p := ⟨w.heap.size + 2, k, none⟩) (by simp only; omega) _)⟩
            have h := H2.out.drew.w32set k z
            rw [List.set_set, ← HZ.out, HZ.out, Nat.zero_add] at h
            rw [HZ.out]
            exact h
          case measure => simp [intOf]; omega
        · have hkn : n = 4 := by omega
          subst hkn
          go_wp2_with fail
          go_roundw
          case rel =>
            refine ⟨k + 1, by omega, by go_num, H0.out, H1.out, ?_, HM.out, hb0⟩
            have h := H2.out
            rw [show rcol mixB (fun n => S.getD ((k + n) % 4) 0) 4 = rouF S k from rfl, mixP_set] at h
            exact h
          case measure => simp [intOf]; omega
    · have hkn : k = 4 := by omega
      subst hkn
      have h1 := H2.out
      rw [mixP_full] at h1
      have hst := run_store_at (P := Tryz.prog) H1.out (cs := wcells (rouL S)) (by rw [wcells_length, wcells_length, rouL_length]; rfl) (wcells_one _)
      go_wp2_with (refine wpList_load_at 114 (.tmp 5) (w.heap.size + 2) 0 (wcells (rouL S)) _ h1 Tryz.underlying114 rfl (wlen4 _ (rouL_length _)) ⟨rfl, rfl, rfl⟩ ?_)
      have hfin : At (wr.setCells (w.heap.size + 1) 0 (wcells (rouL S))) (w.heap.size + 1) 0 (wcells (rouL S)) := H1.out.ofSets (by rw [wcells_length, wcells_length, rouL_length]; rfl)
      have hbf := below_sets w.heap.size (w.heap.size + 1) (by omega) (wcells (rouL S)) 0 w wr hb0
      (try simp only [Exit.inBlock, Exit.then])
      refine bodyPost_ret (results_at rfl _ (w.heap.size + 1) _ _ rfl hfin Tryz.underlying114 rfl (wlen4 _ (rouL_length _))) rfl ?_
      exact ⟨rfl, hbf⟩
end Go.Proofs.YtflofbimecnakaaGreat
namespace Go.Proofs.YtflofbimecnakaaGreat
open Go.RowKit
set_option linter.unusedVariables false
set_option linter.unusedSimpArgs false
def lasF (f : UInt8 → UInt8) (a b c : Nat) (S : List UInt32) (i : Nat) : UInt32 := wd (f (rw_ (S.getD i 0) 0)) (f (rw_ (S.getD ((i + a) % 4) 0) 1)) (f (rw_ (S.getD ((i + b) % 4) 0) 2)) (f (rw_ (S.getD ((i + c) % 4) 0) 3))
def lasL (f : UInt8 → UInt8) (a b c : Nat) (S : List UInt32) : List UInt32 := (List.range 4).map (lasF f a b c S)
theorem lasL_length (f : UInt8 → UInt8) (a b c : Nat) (S : List UInt32) : (lasL f a b c S).length = 4 := by simp [lasL]
set_option maxRecDepth 100000 in
set_option maxHeartbeats 6400000 in
theorem last_any (S : List UInt32) (w : World) (g : Nat) (T : List UInt8) (f : UInt8 → UInt8) (hm : At w g 1 (bcells T)) (hT : T.length = 256) (hTf : ∀ b : UInt8, T.getD b.toNat 0 = f b) (hg : g < w.heap.size) (hS : S.length = 4) : Calls Tryz.prog 56 #[.pointer (some ⟨g, 0, none⟩), .agg (wcells S).toArray] w (RetK (lasL f 1 2 3 S) w) := by
  go_enter Tryz.func56, Tryz.ntmps56
  go_wp2_with fail
  obtain ⟨w0, hw0, hA0, hA1, hA2, hb0, hs0⟩ := three_cols w S
  rw [hw0]
  have hM0 : At w0 g 1 (bcells T) := hm.below hb0 hg
  clear hw0 hm
  have hA2' : At w0 (w.heap.size + 2) 0 (wcells (mixP 4 (lasF f 1 2 3 S) (fun _ => 0) 0)) := hA2
  clear hA2
  go_loopw [7] (fun i wr => ∃ k : Nat, k ≤ 4 ∧ i = .int .i64 k ∧ At wr w.heap.size 0 (wcells S) ∧ At wr (w.heap.size + 1) 0 (wcells [0, 0, 0, 0]) ∧ At wr (w.heap.size + 2) 0 (wcells (mixP 4 (lasF f 1 2 3 S) (fun _ => 0) k)) ∧ At wr g 1 (bcells T) ∧ Below w.heap.size w wr) (fun i _ => 4 - (intOf i).toNat)
  case atStart => exact ⟨0, Nat.zero_le _, rfl, hA0, hA1, hA2', hM0, hb0⟩
  case round =>
    clear hA0 hA1 hA2' hb0 hs0 hM0
    obtain ⟨k, hk, rfl, hA0, hA1, hA2, hM, hb0⟩ := hrel
    have H0 := Lib.hid hA0
    have H1 := Lib.hid hA1
    have H2 := Lib.hid hA2
    have HM := Lib.hid hM
    clear hA0 hA1 hA2 hM
    by_cases hlt : k < 4
    · have HTf := Lib.hid hTf
      obtain ⟨q1, hq1⟩ : ∃ q : Nat, q = k + 1 := ⟨_, rfl⟩
      obtain ⟨r1, hr1⟩ : ∃ r : Nat, r = (k + 1) % 4 := ⟨_, rfl⟩
      have hwq1 : IntKind.i64.wrap ((k : Int) + 1) = (q1 : Int) := by rw [wrap_in _ (by omega) (by omega)]; omega
      have hwr1 : (q1 : Int).tmod 4 = (r1 : Int) := by rw [Int.tmod_eq_emod_of_nonneg (by omega)]; omega
      have hrI1 : (r1 : Int) < 4 := by omega
      obtain ⟨q2, hq2⟩ : ∃ q : Nat, q = k + 2 := ⟨_, rfl⟩
      obtain ⟨r2, hr2⟩ : ∃ r : Nat, r = (k + 2) % 4 := ⟨_, rfl⟩
      have hwq2 : IntKind.i64.wrap ((k : Int) + 2) = (q2 : Int) := by rw [wrap_in _ (by omega) (by omega)]; omega
      have hwr2 : (q2 : Int).tmod 4 = (r2 : Int) := by rw [Int.tmod_eq_emod_of_nonneg (by omega)]; omega
      have hrI2 : (r2 : Int) < 4 := by omega
      obtain ⟨q3, hq3⟩ : ∃ q : Nat, q = k + 3 := ⟨_, rfl⟩
      obtain ⟨r3, hr3⟩ : ∃ r : Nat, r = (k + 3) % 4 := ⟨_, rfl⟩
      have hwq3 : IntKind.i64.wrap ((k : Int) + 3) = (q3 : Int) := by rw [wrap_in _ (by omega) (by omega)]; omega
      have hwr3 : (q3 : Int).tmod 4 = (r3 : Int) := by rw [Int.tmod_eq_emod_of_nonneg (by omega)]; omega
      have hrI3 : (r3 : Int) < 4 := by omega
      have hkI : (k : Int) < 4 := by omega
      have hc0 := H0.out.w32 k (by omega)
      obtain ⟨x0, hx0⟩ : ∃ x, S.getD k 0 = x := ⟨_, rfl⟩
      rw [hx0, Nat.zero_add] at hc0
      have hxb0 := (rw_ x0 0).toNat_lt
      have hxI0 : ((rw_ x0 0).toNat : Int) < 256 := by omega
      have hcm0 := HM.out.b8 (rw_ x0 0).toNat (by omega)
      rw [hTf] at hcm0
      obtain ⟨y0, hy0⟩ : ∃ y, f (rw_ x0 0) = y := ⟨_, rfl⟩
      rw [hy0] at hcm0
      have hc1 := H0.out.w32 r1 (by omega)
      obtain ⟨x1, hx1⟩ : ∃ x, S.getD r1 0 = x := ⟨_, rfl⟩
      rw [hx1, Nat.zero_add] at hc1
      have hxb1 := (rw_ x1 1).toNat_lt
      have hxI1 : ((rw_ x1 1).toNat : Int) < 256 := by omega
      have hcm1 := HM.out.b8 (rw_ x1 1).toNat (by omega)
      rw [hTf] at hcm1
      obtain ⟨y1, hy1⟩ : ∃ y, f (rw_ x1 1) = y := ⟨_, rfl⟩
      rw [hy1] at hcm1
      have hc2 := H0.out.w32 r2 (by omega)
      obtain ⟨x2, hx2⟩ : ∃ x, S.getD r2 0 = x := ⟨_, rfl⟩
      rw [hx2, Nat.zero_add] at hc2
      have hxb2 := (rw_ x2 2).toNat_lt
      have hxI2 : ((rw_ x2 2).toNat : Int) < 256 := by omega
      have hcm2 := HM.out.b8 (rw_ x2 2).toNat (by omega)
      rw [hTf] at hcm2
      obtain ⟨y2, hy2⟩ : ∃ y, f (rw_ x2 2) = y := ⟨_, rfl⟩
      rw [hy2] at hcm2
      have hc3 := H0.out.w32 r3 (by omega)
      obtain ⟨x3, hx3⟩ : ∃ x, S.getD r3 0 = x := ⟨_, rfl⟩
      rw [hx3, Nat.zero_add] at hc3
      have hxb3 := (rw_ x3 3).toNat_lt
      have hxI3 : ((rw_ x3 3).toNat : Int) < 256 := by omega
      have hcm3 := HM.out.b8 (rw_ x3 3).toNat (by omega)
      rw [hTf] at hcm3
      obtain ⟨y3, hy3⟩ : ∃ y, f (rw_ x3 3) = y := ⟨_, rfl⟩
      rw [hy3] at hcm3
      have hc4 := H2.out.w32 k (by rw [mixP_length]; exact hlt)
      have hfr := H2.out.froz k (by rw [wcells_length, mixP_length]; exact hlt)
      rw [Nat.zero_add] at hc4 hfr
      have HZ : Hid (lasF f 1 2 3 S k = wd y0 y1 y2 y3) := by
        show _ = _
        rw [lasF, ← hr1, ← hr2, ← hr3, hx0, hx1, hx2, hx3, hy0, hy1, hy2, hy3]
      have HQ1 := Lib.hid hq1
      have HQ2 := Lib.hid hq2
      have HQ3 := Lib.hid hq3
      clear hq1 hq2 hq3 hr1 hr2 hr3 hx0 hx1 hx2 hx3 hy0 hy1 hy2 hy3
      clear hTf
      go_wp2_with fail
      go_still_tail 45, (by kernel_rfl)
      still_call (still_y (row_nat x0 0 _ (by omega)))
      repeat still_step
      still_call (still_y (row_nat x1 1 _ (by omega)))
      repeat still_step
      still_call (still_y (row_nat x2 2 _ (by omega)))
      repeat still_step
      still_call (still_y (row_nat x3 3 _ (by omega)))
      repeat still_step
      still_call (still_w (word_any y0 y1 y2 y3 _))
      repeat still_step
      refine wpStill_nil ?_
      change wpList _ _ _ _ _ wr.drew
      go_wp2_with fail
      go_roundw
      case rel =>
        refine ⟨k + 1, by omega, (by rw [HQ1.out]; try go_num), H0.out.drew.other _ _ _ (.inl (by omega)), H1.out.drew.other _ _ _ (.inl (by omega)), ?_, HM.out.drew.other _ _ _ (.inl (by omega)), (hb0.drew.setCell (p := ⟨w.heap.size + 2, k, none⟩) (by simp only; omega) _)⟩
        have h := H2.out.drew.w32set k (wd y0 y1 y2 y3)
        rw [← HZ.out, mixP_set, HZ.out, Nat.zero_add] at h
        exact h
      case measure =>
        have h1 := HQ1.out
        simp [intOf]
        omega
    · have hkn : k = 4 := by omega
      subst hkn
      have h1 := H2.out
      rw [mixP_full] at h1
      have hst := run_store_at (P := Tryz.prog) H1.out (cs := wcells (lasL f 1 2 3 S)) (by rw [wcells_length, wcells_length, lasL_length]; rfl) (wcells_one _)
      go_wp2_with (refine wpList_load_at 114 (.tmp 5) (w.heap.size + 2) 0 (wcells (lasL f 1 2 3 S)) _ h1 Tryz.underlying114 rfl (wlen4 _ (lasL_length _ _ _ _ _)) ⟨rfl, rfl, rfl⟩ ?_)
      have hfin : At (wr.setCells (w.heap.size + 1) 0 (wcells (lasL f 1 2 3 S))) (w.heap.size + 1) 0 (wcells (lasL f 1 2 3 S)) := H1.out.ofSets (by rw [wcells_length, wcells_length, lasL_length]; rfl)
      have hbf := below_sets w.heap.size (w.heap.size + 1) (by omega) (wcells (lasL f 1 2 3 S)) 0 w wr hb0
      (try simp only [Exit.inBlock, Exit.then])
      refine bodyPost_ret (results_at rfl _ (w.heap.size + 1) _ _ rfl hfin Tryz.underlying114 rfl (wlen4 _ (lasL_length _ _ _ _ _))) rfl ?_
      exact ⟨rfl, hbf⟩
end Go.Proofs.YtflofbimecnakaaGreat
