/- Bits of whole numbers that are not below zero. -/
import Derived.Test.YthofcjjllmnjbaaDoorGen
namespace Go.Proofs.YthofcjjllmnjbaaDoor
open Go.RowKit
set_option linter.unusedVariables false
set_option linter.unusedSimpArgs false
theorem i64n_toNat (x : Nat) (h : x < 18446744073709551616) : (BitVec.ofInt 64 (x : Int)).toNat = x := by
  rw [BitVec.toNat_ofInt]
  omega
theorem i64n_xor (x y : Nat) (hx : x < 4611686018427387904) (hy : y < 4611686018427387904) : bits .xor .i64 (x : Int) (y : Int) = ((x ^^^ y : Nat) : Int) := by
  show IntKind.i64.wrap ((BitVec.ofInt 64 (x : Int) ^^^ BitVec.ofInt 64 (y : Int)).toNat : Nat) = _
  rw [BitVec.toNat_xor, i64n_toNat x (by omega), i64n_toNat y (by omega), IntKind.wrap_i64]
  have : x ^^^ y < 2 ^ 62 := Nat.xor_lt_two_pow (by omega) (by omega)
  omega
theorem i64n_or (x y : Nat) (hx : x < 4611686018427387904) (hy : y < 4611686018427387904) : bits .or .i64 (x : Int) (y : Int) = ((x ||| y : Nat) : Int) := by
  show IntKind.i64.wrap ((BitVec.ofInt 64 (x : Int) ||| BitVec.ofInt 64 (y : Int)).toNat : Nat) = _
  rw [BitVec.toNat_or, i64n_toNat x (by omega), i64n_toNat y (by omega), IntKind.wrap_i64]
  have : x ||| y < 2 ^ 62 := Nat.or_lt_two_pow (by omega) (by omega)
  omega
theorem i64n_and1 (n : Int) : bits .and .i64 n 1 = n % 2 := by
  have h1 : (BitVec.ofInt 64 1).toNat = 2 ^ 1 - 1 := by decide
  have key : (BitVec.ofInt 64 n &&& BitVec.ofInt 64 1).toNat = (n % ((2 ^ 64 : Nat) : Int)).toNat % 2 ^ 1 := by
    rw [BitVec.toNat_and, BitVec.toNat_ofInt, h1, Nat.and_two_pow_sub_one_eq_mod]
  show IntKind.i64.wrap ((BitVec.ofInt 64 n &&& BitVec.ofInt 64 1).toNat : Nat) = n % 2
  rw [key, IntKind.wrap_i64]
  omega
theorem i64n_bit (x d : Nat) : bits .and .i64 ((x : Int) / (2 : Int) ^ d) 1 = (((x.testBit d).toNat : Nat) : Int) := by
  rw [i64n_and1, Nat.testBit_eq_decide_div_mod_eq]
  have : (x : Int) / (2 : Int) ^ d = ((x / 2 ^ d : Nat) : Int) := by
    rw [Int.natCast_ediv, Int.natCast_pow]
    rfl
  rw [this]
  rcases Nat.mod_two_eq_zero_or_one (x / 2 ^ d) with h | h <;> rw [h] <;> simp <;> omega
theorem u8n_bit (x d : Nat) (hx : x < 256) : bits .and .u8 ((x : Int) / (2 : Int) ^ d) 1 = (((x.testBit d).toNat : Nat) : Int) := by
  have e : (x : Int) / (2 : Int) ^ d = ((x / 2 ^ d : Nat) : Int) := by
    rw [Int.natCast_ediv, Int.natCast_pow]
    rfl
  have hlt : x / 2 ^ d < 256 := Nat.lt_of_le_of_lt (Nat.div_le_self _ _) hx
  have h := u8_and_nat (x / 2 ^ d) 1 hlt (by decide)
  rw [nat_mask1] at h
  rw [e, Nat.testBit_eq_decide_div_mod_eq]
  refine h.trans ?_
  rcases Nat.mod_two_eq_zero_or_one (x / 2 ^ d) with h | h <;> rw [h] <;> simp
theorem w64n (n : Nat) (h : n < 9223372036854775808) : wrap64 (n : Int) = (n : Int) := by
  rw [← IntWalk.i64_left, IntKind.wrap_i64]
  omega
theorem w64_pow (x k : Nat) (h : x * 2 ^ k < 9223372036854775808) : wrap64 ((x : Int) * (2 : Int) ^ k) = ((x * 2 ^ k : Nat) : Int) := by
  have e : (x : Int) * (2 : Int) ^ k = ((x * 2 ^ k : Nat) : Int) := by
    rw [Int.natCast_mul, Int.natCast_pow]
    rfl
  rw [e, w64n _ h]
end Go.Proofs.YthofcjjllmnjbaaDoor
