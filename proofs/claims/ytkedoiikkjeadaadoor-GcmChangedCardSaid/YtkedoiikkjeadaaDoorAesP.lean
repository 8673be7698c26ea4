/- Plain words for the field and the substitution. -/
import Derived.Test.YtkedoiikkjeadaaDoorBase
namespace Go.Proofs.YtkedoiikkjeadaaDoor
open Go.RowKit
set_option linter.unusedVariables false
set_option linter.unusedSimpArgs false
def dbl (a : UInt8) : UInt8 := if 128 ≤ a.toNat then (a <<< 1) ^^^ 27 else a <<< 1
theorem u8_all {P : UInt8 → Prop} (h : ∀ n : Fin 256, P (UInt8.ofNat n.val)) (a : UInt8) : P a := by
  have := h ⟨a.toNat, a.toNat_lt⟩
  simpa using this
theorem shl1 (a : UInt8) : (a.toNat : Int) * (2 : Int) % (256 : Int) = ((a <<< 1).toNat : Int) := by
  have h : (a <<< 1).toNat = a.toNat * 2 % 256 := by
    revert a
    exact u8_all (by decide +kernel)
  rw [h]
  omega
theorem dbl_hi (a : UInt8) (h : 128 ≤ a.toNat) : bits .xor .u8 ((a.toNat : Int) * (2 : Int) % (256 : Int)) (27 : Int) = ((dbl a).toNat : Int) := by
  rw [shl1, show (27 : Int) = ((27 : UInt8).toNat : Int) by rfl, u8x, dbl, if_pos h]
theorem dbl_lo (a : UInt8) (h : ¬ 128 ≤ a.toNat) : (a.toNat : Int) * (2 : Int) = ((dbl a).toNat : Int) := by
  rw [dbl, if_neg h, ← shl1]
  omega
def mulL : Nat → UInt8 → UInt8 → UInt8 → UInt8
  | 0, _, _, p => p
  | n + 1, a, b, p => mulL n (dbl a) (b >>> 1) (if b.toNat % 2 = 1 then p ^^^ a else p)
def gmul (a b : UInt8) : UInt8 := mulL 8 a b 0
theorem shr1 (a : UInt8) : (a.toNat : Int) / (2 : Int) = ((a >>> 1).toNat : Int) := by
  have h : (a >>> 1).toNat = a.toNat / 2 := by
    revert a
    exact u8_all (by decide +kernel)
  rw [h]
  omega
theorem bit0 (a : UInt8) : bits .and .u8 (a.toNat : Int) (1 : Int) = ((a.toNat % 2 : Nat) : Int) := by
  have h := u8_and_nat a.toNat 1 a.toNat_lt (by decide)
  rw [nat_mask1] at h
  exact h
def invL : Nat → UInt8 → UInt8 → UInt8
  | 0, _, p => p
  | n + 1, b, p => invL n (gmul b b) (gmul p (gmul b b))
def ginv (b : UInt8) : UInt8 := invL 7 b 1
def rotl8 (b : UInt8) (n : Nat) : UInt8 := UInt8.ofNat (b.toNat * 2 ^ n % 256 + b.toNat / 2 ^ (8 - n))
def sprL : Nat → Nat → UInt8 → UInt8 → UInt8
  | 0, _, _, s => s
  | m + 1, n, b, s => sprL m (n + 1) b (s ^^^ rotl8 b (n + 1))
def spr (b : UInt8) : UInt8 := sprL 4 0 b (b ^^^ 99)
def gsub (b : UInt8) : UInt8 := spr (ginv b)
theorem rot8_nat (b : UInt8) (n : Nat) (h : n ≤ 7) : (rotl8 b n).toNat = b.toNat * 2 ^ n % 256 + b.toNat / 2 ^ (8 - n) := by
  have hb := b.toNat_lt
  rw [rotl8, UInt8.toNat_ofNat', Nat.mod_eq_of_lt]
  have h1 : (256 : Nat) = 2 ^ n * 2 ^ (8 - n) := by rw [← Nat.pow_add, show n + (8 - n) = 8 by omega]
  have h2 : b.toNat * 2 ^ n % 256 = 2 ^ n * (b.toNat % 2 ^ (8 - n)) := by
    conv => lhs; rw [h1, Nat.mul_comm b.toNat]
    rw [Nat.mul_mod_mul_left]
  have h3 : b.toNat / 2 ^ (8 - n) < 2 ^ n := Nat.div_lt_of_lt_mul (by rw [Nat.mul_comm, ← h1]; exact hb)
  have h4 : b.toNat % 2 ^ (8 - n) + 1 ≤ 2 ^ (8 - n) := Nat.mod_lt _ (Nat.pow_pos (by decide))
  have h5 : 2 ^ n * (b.toNat % 2 ^ (8 - n) + 1) ≤ 2 ^ n * 2 ^ (8 - n) := Nat.mul_le_mul_left _ h4
  rw [← h1, Nat.mul_add] at h5
  omega
theorem rot8_val (b : UInt8) (n : Nat) (h : n ≤ 7) : bits .or .u8 ((b.toNat : Int) * (2 : Int) ^ n % (256 : Int)) ((b.toNat : Int) / (2 : Int) ^ (8 - n)) = ((rotl8 b n).toNat : Int) := by
  have hb := b.toNat_lt
  have h1 : (256 : Nat) = 2 ^ n * 2 ^ (8 - n) := by rw [← Nat.pow_add, show n + (8 - n) = 8 by omega]
  have h3 : b.toNat / 2 ^ (8 - n) < 2 ^ n := Nat.div_lt_of_lt_mul (by rw [Nat.mul_comm, ← h1]; exact hb)
  have h6 : (2 : Nat) ^ n ≤ 2 ^ 7 := Nat.pow_le_pow_right (by decide) h
  have h2 : b.toNat * 2 ^ n % 256 % 2 ^ n = 0 := by
    rw [Nat.mod_mod_of_dvd _ ⟨2 ^ (8 - n), h1⟩, Nat.mul_mod_left]
  have hv := u8_or_nat (b.toNat * 2 ^ n % 256) (b.toNat / 2 ^ (8 - n)) (by omega) (by omega)
  rw [nat_join n _ _ h2 h3, ← rot8_nat b n h] at hv
  rw [← hv, Int.natCast_emod, Int.natCast_mul, Int.natCast_pow, Int.natCast_ediv, Int.natCast_pow]
  rfl
/-! ### words -/
theorem u32x (x y : UInt32) : bits .xor .u32 (x.toNat : Int) (y.toNat : Int) = ((x ^^^ y).toNat : Int) := by
  rw [u32_xor_nat _ _ x.toNat_lt y.toNat_lt, UInt32.toNat_xor]
def rotl32 (x : UInt32) (n : Nat) : UInt32 := UInt32.ofNat (x.toNat * 2 ^ n % 4294967296 + x.toNat / 2 ^ (32 - n))
theorem rot32_nat (b : UInt32) (n : Nat) (h : n ≤ 31) : (rotl32 b n).toNat = b.toNat * 2 ^ n % 4294967296 + b.toNat / 2 ^ (32 - n) := by
  have hb := b.toNat_lt
  rw [rotl32, UInt32.toNat_ofNat', Nat.mod_eq_of_lt]
  have h1 : (4294967296 : Nat) = 2 ^ n * 2 ^ (32 - n) := by rw [← Nat.pow_add, show n + (32 - n) = 32 by omega]
  have h2 : b.toNat * 2 ^ n % 4294967296 = 2 ^ n * (b.toNat % 2 ^ (32 - n)) := by
    conv => lhs; rw [h1, Nat.mul_comm b.toNat]
    rw [Nat.mul_mod_mul_left]
  have h3 : b.toNat / 2 ^ (32 - n) < 2 ^ n := Nat.div_lt_of_lt_mul (by rw [Nat.mul_comm, ← h1]; exact hb)
  have h4 : b.toNat % 2 ^ (32 - n) + 1 ≤ 2 ^ (32 - n) := Nat.mod_lt _ (Nat.pow_pos (by decide))
  have h5 : 2 ^ n * (b.toNat % 2 ^ (32 - n) + 1) ≤ 2 ^ n * 2 ^ (32 - n) := Nat.mul_le_mul_left _ h4
  rw [← h1, Nat.mul_add] at h5
  omega
theorem rot32_val (b : UInt32) (n : Nat) (h : n ≤ 31) : bits .or .u32 ((b.toNat : Int) * (2 : Int) ^ n % (4294967296 : Int)) ((b.toNat : Int) / (2 : Int) ^ (32 - n)) = ((rotl32 b n).toNat : Int) := by
  have hb := b.toNat_lt
  have h1 : (4294967296 : Nat) = 2 ^ n * 2 ^ (32 - n) := by rw [← Nat.pow_add, show n + (32 - n) = 32 by omega]
  have h3 : b.toNat / 2 ^ (32 - n) < 2 ^ n := Nat.div_lt_of_lt_mul (by rw [Nat.mul_comm, ← h1]; exact hb)
  have h6 : (2 : Nat) ^ n ≤ 2 ^ 31 := Nat.pow_le_pow_right (by decide) h
  have h2 : b.toNat * 2 ^ n % 4294967296 % 2 ^ n = 0 := by
    rw [Nat.mod_mod_of_dvd _ ⟨2 ^ (32 - n), h1⟩, Nat.mul_mod_left]
  have hv := u32_or_nat (b.toNat * 2 ^ n % 4294967296) (b.toNat / 2 ^ (32 - n)) (by omega) (by omega)
  rw [nat_join n _ _ h2 h3, ← rot32_nat b n h] at hv
  rw [← hv, Int.natCast_emod, Int.natCast_mul, Int.natCast_pow, Int.natCast_ediv, Int.natCast_pow]
  rfl
theorem and31 (k : Int) : bits .and .u64 (k % (18446744073709551616 : Int)) (31 : Int) = k % (32 : Int) := by
  have h0 : 0 ≤ k % (18446744073709551616 : Int) := by omega
  obtain ⟨m, hm⟩ := Int.eq_ofNat_of_zero_le h0
  have hm2 : m < 18446744073709551616 := by omega
  have h := u64_and_nat m 31 hm2 (by omega)
  rw [nat_mask5] at h
  rw [hm]
  refine h.trans ?_
  omega
/-- four bytes, the highest first -/
def wd (a b c d : UInt8) : UInt32 := UInt32.ofNat (a.toNat * 16777216 + b.toNat * 65536 + c.toNat * 256 + d.toNat)
theorem wd_nat (a b c d : UInt8) : (wd a b c d).toNat = a.toNat * 16777216 + b.toNat * 65536 + c.toNat * 256 + d.toNat := by
  have ha := a.toNat_lt
  have hb := b.toNat_lt
  have hc := c.toNat_lt
  have hd := d.toNat_lt
  rw [wd, UInt32.toNat_ofNat', Nat.mod_eq_of_lt]
  omega
def rw_ (x : UInt32) (n : Nat) : UInt8 := UInt8.ofNat (x.toNat / 2 ^ (24 - 8 * n))
theorem wd_val (a b c d : UInt8) : bits .or .u32 (bits .or .u32 (bits .or .u32 ((a.toNat : Int) * (16777216 : Int)) ((b.toNat : Int) * (65536 : Int))) ((c.toNat : Int) * (256 : Int))) (d.toNat : Int) = ((wd a b c d).toNat : Int) := by
  have ha := a.toNat_lt
  have hb := b.toNat_lt
  have hc := c.toNat_lt
  have hd := d.toNat_lt
  have h1 := u32_or_nat (a.toNat * 16777216) (b.toNat * 65536) (by omega) (by omega)
  rw [nat_join 24 _ _ (by omega) (by omega)] at h1
  have h2 := u32_or_nat (a.toNat * 16777216 + b.toNat * 65536) (c.toNat * 256) (by omega) (by omega)
  rw [nat_join 16 _ _ (by omega) (by omega)] at h2
  have h3 := u32_or_nat (a.toNat * 16777216 + b.toNat * 65536 + c.toNat * 256) d.toNat (by omega) (by omega)
  rw [nat_join 8 _ _ (by omega) (by omega)] at h3
  rw [wd_nat, ← h3]
  simp only [Int.natCast_add, Int.natCast_mul] at h1 h2 ⊢
  rw [← h2, ← h1]
  rfl
theorem row_val (x : UInt32) (m : Nat) : (x.toNat : Int) / (2 : Int) ^ (24 - 8 * m) % (256 : Int) = ((rw_ x m).toNat : Int) := by
  rw [rw_, UInt8.toNat_ofNat', Int.natCast_emod, Int.natCast_ediv, Int.natCast_pow]
  rfl
theorem wrap_in (n : Int) (h0 : 0 ≤ n) (h1 : n < 9223372036854775808) : IntKind.i64.wrap n = n := by
  simp only [IntKind.wrap, IntKind.bits, IntKind.signed]
  simp
  omega
/-! ### round words -/
def subW (x : UInt32) : UInt32 := wd (gsub (rw_ x 0)) (gsub (rw_ x 1)) (gsub (rw_ x 2)) (gsub (rw_ x 3))
def keyW (K : List UInt8) (i : Nat) : UInt32 := wd (at0 K (4 * i)) (at0 K (4 * i + 1)) (at0 K (4 * i + 2)) (at0 K (4 * i + 3))
def keyL (K : List UInt8) (n : Nat) : List UInt32 := (List.range n).map (keyW K)
def turned (n i : Nat) (t : UInt32) (p : UInt8) : UInt32 := if i % n = 0 then subW (rotl32 t 8) ^^^ wd p 0 0 0 else if n = 8 ∧ i % 8 = 4 then subW t else t
def estep (n : Nat) (s : List UInt32 × UInt8) : List UInt32 × UInt8 :=
  (s.1 ++ [s.1.getD (s.1.length - n) 0 ^^^ turned n s.1.length (s.1.getD (s.1.length - 1) 0) s.2], if s.1.length % n = 0 then dbl s.2 else s.2)
def erun (n : Nat) : Nat → List UInt32 × UInt8 → List UInt32 × UInt8
  | 0, s => s
  | k + 1, s => erun n k (estep n s)
def expW (K : List UInt8) : List UInt32 := (erun (K.length / 4) (3 * (K.length / 4) + 28) (keyL K (K.length / 4), 1)).1
theorem hi_val (p : UInt8) : (p.toNat : Int) * (16777216 : Int) = ((wd p 0 0 0).toNat : Int) := by
  rw [wd_nat]
  simp
theorem keyL_succ (K : List UInt8) (n : Nat) : keyL K (n + 1) = keyL K n ++ [keyW K n] := by simp [keyL, List.range_succ]
theorem keyL_length (K : List UInt8) (n : Nat) : (keyL K n).length = n := by simp [keyL]
theorem estep_length (n : Nat) (s : List UInt32 × UInt8) : (estep n s).1.length = s.1.length + 1 := by simp [estep]
theorem erun_length (n k : Nat) : ∀ s : List UInt32 × UInt8, (erun n k s).1.length = s.1.length + k := by
  induction k with
  | zero => intro s; rfl
  | succ k ih => intro s; rw [erun, ih, estep_length]; omega
theorem expW_length (K : List UInt8) : (expW K).length = 4 * (K.length / 4 + 7) := by
  rw [expW, erun_length, keyL_length]
  omega
/-! ### the table -/
def pw : Nat → UInt8
  | 0 => 1
  | n + 1 => pw n ^^^ dbl (pw n)
def pwL (n : Nat) : List UInt8 := (List.range n).map pw
theorem pwL_succ (n : Nat) : pwL (n + 1) = pwL n ++ [pw n] := by simp [pwL, List.range_succ]
theorem pwL_length (n : Nat) : (pwL n).length = n := by simp [pwL]
theorem pwL_get (n i : Nat) (h : i < n) : (pwL n).getD i 0 = pw i := by simp [pwL, List.getD, h]
def outL : Nat → List UInt8
  | 0 => (List.replicate 256 0).set 0 (spr 0)
  | k + 1 => (outL k).set (pw k).toNat (spr (pw ((255 - k) % 255)))
theorem outL_length : ∀ k, (outL k).length = 256
  | 0 => by rw [outL, List.length_set, List.length_replicate]
  | k + 1 => by rw [outL, List.length_set, outL_length k]
def sboxL : List UInt8 := (List.range 256).map fun i => gsub (UInt8.ofNat i)
theorem sboxL_length : sboxL.length = 256 := by simp [sboxL]
theorem outL_all : outL 255 = sboxL := by decide +kernel
theorem sboxL_get (b : UInt8) : sboxL.getD b.toNat 0 = gsub b := by
  have := b.toNat_lt
  simp [sboxL, List.getD, this]
end Go.Proofs.YtkedoiikkjeadaaDoor
