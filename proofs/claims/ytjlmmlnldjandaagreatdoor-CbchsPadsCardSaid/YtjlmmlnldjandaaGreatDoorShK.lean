/- Words that turn: RotateLeft32, RotateLeft64 at the program's constants. -/
import Derived.Test.YtjlmmlnldjandaaGreatDoorShG
namespace Go.Proofs.YtjlmmlnldjandaaGreatDoor
open Go.RowKit
set_option linter.unusedVariables false
set_option linter.unusedSimpArgs false
theorem s32_toNat (x : Nat) (h : x < 4294967296) : (BitVec.ofInt 32 (x : Int)).toNat = x := by
  rw [BitVec.toNat_ofInt]
  omega
theorem s32_or (x y : Nat) (hx : x < 4294967296) (hy : y < 4294967296) : bits .or .u32 (x : Int) (y : Int) = ((x ||| y : Nat) : Int) := by
  show IntKind.u32.wrap ((BitVec.ofInt 32 (x : Int) ||| BitVec.ofInt 32 (y : Int)).toNat : Nat) = _
  rw [BitVec.toNat_or, s32_toNat x hx, s32_toNat y hy]
  have := Nat.or_lt_two_pow (n := 32) hx hy
  simp [IntKind.wrap, IntKind.bits, IntKind.signed]
  omega
theorem s32_xor (x y : Nat) (hx : x < 4294967296) (hy : y < 4294967296) : bits .xor .u32 (x : Int) (y : Int) = ((x ^^^ y : Nat) : Int) := by
  show IntKind.u32.wrap ((BitVec.ofInt 32 (x : Int) ^^^ BitVec.ofInt 32 (y : Int)).toNat : Nat) = _
  rw [BitVec.toNat_xor, s32_toNat x hx, s32_toNat y hy]
  have := Nat.xor_lt_two_pow (n := 32) hx hy
  simp [IntKind.wrap, IntKind.bits, IntKind.signed]
  omega
theorem s32_and (x y : Nat) (hx : x < 4294967296) (hy : y < 4294967296) : bits .and .u32 (x : Int) (y : Int) = ((x &&& y : Nat) : Int) := by
  show IntKind.u32.wrap ((BitVec.ofInt 32 (x : Int) &&& BitVec.ofInt 32 (y : Int)).toNat : Nat) = _
  rw [BitVec.toNat_and, s32_toNat x hx, s32_toNat y hy]
  have : x &&& y < 2 ^ 32 := Nat.and_lt_two_pow x hy
  simp [IntKind.wrap, IntKind.bits, IntKind.signed]
  omega
theorem s32_shl (x m : Nat) : IntKind.u32.wrap ((x : Int) * (2 : Int) ^ m) = (((x <<< m) % 2 ^ 32 : Nat) : Int) := by
  rw [show (x : Int) * (2 : Int) ^ m = ((x <<< m : Nat) : Int) by rw [Nat.shiftLeft_eq]; simp]
  generalize x <<< m = q
  simp [IntKind.wrap, IntKind.bits, IntKind.signed]
theorem u32_add (a b c : Nat) (h : (a + b) % 2 ^ 32 = c) : IntKind.u32.wrap ((a : Int) + (b : Int)) = (c : Int) := by
  rw [← h]
  simp [IntKind.wrap, IntKind.bits, IntKind.signed]
theorem u32_fit (n : Nat) (h : n < 2 ^ 32) : IntKind.u32.wrap (n : Int) = (n : Int) := by simp [IntKind.wrap, IntKind.bits, IntKind.signed]; omega
theorem u32_not (e n : Nat) (he : e < 4294967296) (hn : (2 ^ 32 - 1) ^^^ e = n) : bits .xor .u32 IntKind.u32.max (e : Int) = (n : Int) := by
  rw [show IntKind.u32.max = ((2 ^ 32 - 1 : Nat) : Int) by decide, s32_xor _ _ (by decide) he, hn]
theorem rot_eq (b x n : Nat) (hn : n ≤ b) (hx : x < 2 ^ b) : (x <<< (b - n)) % 2 ^ b ||| x >>> n = Sh.rotR b x n := by
  rw [Sh.rotR, Nat.or_mod_two_pow, Nat.or_comm, Nat.mod_eq_of_lt (a := x >>> n) (by rw [Nat.shiftRight_eq_div_pow]; exact Nat.lt_of_le_of_lt (Nat.div_le_self _ _) hx)]
def RetU32 (n : Nat) (w : World) (e : Ending) (w' : World) : Prop := e = .returned (.int .u32 (n : Int)) ∧ w = w'
set_option maxRecDepth 100000 in
theorem rot32_7 (x : Nat) (hx : x < 2 ^ 32) (w : World) : Calls Tryz.prog 119 #[.int .u32 (x : Int), .int .i64 (-7)] w (RetU32 (Sh.rotR 32 x 7) w) := by
  have hr := rot_eq 32 x 7 (by decide) hx
  have s1 := s32_shl x 25
  have s2 := sh_shr x 7
  obtain ⟨p, hp⟩ : ∃ p, (x <<< 25) % 2 ^ 32 = p := ⟨_, rfl⟩
  obtain ⟨q, hq⟩ : ∃ q, x >>> 7 = q := ⟨_, rfl⟩
  have hpl : p < 2 ^ 32 := by rw [← hp]; exact Nat.mod_lt _ (by decide)
  have hql : q < 2 ^ 32 := by rw [← hq, Nat.shiftRight_eq_div_pow]; exact Nat.lt_of_le_of_lt (Nat.div_le_self _ _) hx
  have s3 := s32_or p q hpl hql
  rw [show 32 - 7 = 25 from rfl, hp, hq] at hr
  rw [hr] at s3
  rw [hp] at s1
  rw [hq] at s2
  obtain ⟨y, hy⟩ : ∃ y, Sh.rotR 32 x 7 = y := ⟨_, rfl⟩
  rw [hy] at s3 ⊢
  have k1 : bits .and .u64 (IntKind.u64.wrap (-7)) 31 = 25 := by decide
  have k2 : bits .and .u64 18446744073709551609 31 = 25 := by decide
  rw [show (2 : Int) ^ 25 = 33554432 by decide] at s1
  rw [show (2 : Int) ^ 7 = 128 by decide] at s2
  clear hr hp hq hpl hql hy hx
  go_enter Tryz.func119, Tryz.ntmps119
  go_wp2_with fail
  go_ret
  exact ⟨rfl, rfl⟩
set_option maxRecDepth 100000 in
theorem rot32_18 (x : Nat) (hx : x < 2 ^ 32) (w : World) : Calls Tryz.prog 119 #[.int .u32 (x : Int), .int .i64 (-18)] w (RetU32 (Sh.rotR 32 x 18) w) := by
  have hr := rot_eq 32 x 18 (by decide) hx
  have s1 := s32_shl x 14
  have s2 := sh_shr x 18
  obtain ⟨p, hp⟩ : ∃ p, (x <<< 14) % 2 ^ 32 = p := ⟨_, rfl⟩
  obtain ⟨q, hq⟩ : ∃ q, x >>> 18 = q := ⟨_, rfl⟩
  have hpl : p < 2 ^ 32 := by rw [← hp]; exact Nat.mod_lt _ (by decide)
  have hql : q < 2 ^ 32 := by rw [← hq, Nat.shiftRight_eq_div_pow]; exact Nat.lt_of_le_of_lt (Nat.div_le_self _ _) hx
  have s3 := s32_or p q hpl hql
  rw [show 32 - 18 = 14 from rfl, hp, hq] at hr
  rw [hr] at s3
  rw [hp] at s1
  rw [hq] at s2
  obtain ⟨y, hy⟩ : ∃ y, Sh.rotR 32 x 18 = y := ⟨_, rfl⟩
  rw [hy] at s3 ⊢
  have k1 : bits .and .u64 (IntKind.u64.wrap (-18)) 31 = 14 := by decide
  have k2 : bits .and .u64 18446744073709551598 31 = 14 := by decide
  rw [show (2 : Int) ^ 14 = 16384 by decide] at s1
  rw [show (2 : Int) ^ 18 = 262144 by decide] at s2
  clear hr hp hq hpl hql hy hx
  go_enter Tryz.func119, Tryz.ntmps119
  go_wp2_with fail
  go_ret
  exact ⟨rfl, rfl⟩
set_option maxRecDepth 100000 in
theorem rot32_17 (x : Nat) (hx : x < 2 ^ 32) (w : World) : Calls Tryz.prog 119 #[.int .u32 (x : Int), .int .i64 (-17)] w (RetU32 (Sh.rotR 32 x 17) w) := by
  have hr := rot_eq 32 x 17 (by decide) hx
  have s1 := s32_shl x 15
  have s2 := sh_shr x 17
  obtain ⟨p, hp⟩ : ∃ p, (x <<< 15) % 2 ^ 32 = p := ⟨_, rfl⟩
  obtain ⟨q, hq⟩ : ∃ q, x >>> 17 = q := ⟨_, rfl⟩
  have hpl : p < 2 ^ 32 := by rw [← hp]; exact Nat.mod_lt _ (by decide)
  have hql : q < 2 ^ 32 := by rw [← hq, Nat.shiftRight_eq_div_pow]; exact Nat.lt_of_le_of_lt (Nat.div_le_self _ _) hx
  have s3 := s32_or p q hpl hql
  rw [show 32 - 17 = 15 from rfl, hp, hq] at hr
  rw [hr] at s3
  rw [hp] at s1
  rw [hq] at s2
  obtain ⟨y, hy⟩ : ∃ y, Sh.rotR 32 x 17 = y := ⟨_, rfl⟩
  rw [hy] at s3 ⊢
  have k1 : bits .and .u64 (IntKind.u64.wrap (-17)) 31 = 15 := by decide
  have k2 : bits .and .u64 18446744073709551599 31 = 15 := by decide
  rw [show (2 : Int) ^ 15 = 32768 by decide] at s1
  rw [show (2 : Int) ^ 17 = 131072 by decide] at s2
  clear hr hp hq hpl hql hy hx
  go_enter Tryz.func119, Tryz.ntmps119
  go_wp2_with fail
  go_ret
  exact ⟨rfl, rfl⟩
set_option maxRecDepth 100000 in
theorem rot32_19 (x : Nat) (hx : x < 2 ^ 32) (w : World) : Calls Tryz.prog 119 #[.int .u32 (x : Int), .int .i64 (-19)] w (RetU32 (Sh.rotR 32 x 19) w) := by
  have hr := rot_eq 32 x 19 (by decide) hx
  have s1 := s32_shl x 13
  have s2 := sh_shr x 19
  obtain ⟨p, hp⟩ : ∃ p, (x <<< 13) % 2 ^ 32 = p := ⟨_, rfl⟩
  obtain ⟨q, hq⟩ : ∃ q, x >>> 19 = q := ⟨_, rfl⟩
  have hpl : p < 2 ^ 32 := by rw [← hp]; exact Nat.mod_lt _ (by decide)
  have hql : q < 2 ^ 32 := by rw [← hq, Nat.shiftRight_eq_div_pow]; exact Nat.lt_of_le_of_lt (Nat.div_le_self _ _) hx
  have s3 := s32_or p q hpl hql
  rw [show 32 - 19 = 13 from rfl, hp, hq] at hr
  rw [hr] at s3
  rw [hp] at s1
  rw [hq] at s2
  obtain ⟨y, hy⟩ : ∃ y, Sh.rotR 32 x 19 = y := ⟨_, rfl⟩
  rw [hy] at s3 ⊢
  have k1 : bits .and .u64 (IntKind.u64.wrap (-19)) 31 = 13 := by decide
  have k2 : bits .and .u64 18446744073709551597 31 = 13 := by decide
  rw [show (2 : Int) ^ 13 = 8192 by decide] at s1
  rw [show (2 : Int) ^ 19 = 524288 by decide] at s2
  clear hr hp hq hpl hql hy hx
  go_enter Tryz.func119, Tryz.ntmps119
  go_wp2_with fail
  go_ret
  exact ⟨rfl, rfl⟩
set_option maxRecDepth 100000 in
theorem rot32_6 (x : Nat) (hx : x < 2 ^ 32) (w : World) : Calls Tryz.prog 119 #[.int .u32 (x : Int), .int .i64 (-6)] w (RetU32 (Sh.rotR 32 x 6) w) := by
  have hr := rot_eq 32 x 6 (by decide) hx
  have s1 := s32_shl x 26
  have s2 := sh_shr x 6
  obtain ⟨p, hp⟩ : ∃ p, (x <<< 26) % 2 ^ 32 = p := ⟨_, rfl⟩
  obtain ⟨q, hq⟩ : ∃ q, x >>> 6 = q := ⟨_, rfl⟩
  have hpl : p < 2 ^ 32 := by rw [← hp]; exact Nat.mod_lt _ (by decide)
  have hql : q < 2 ^ 32 := by rw [← hq, Nat.shiftRight_eq_div_pow]; exact Nat.lt_of_le_of_lt (Nat.div_le_self _ _) hx
  have s3 := s32_or p q hpl hql
  rw [show 32 - 6 = 26 from rfl, hp, hq] at hr
  rw [hr] at s3
  rw [hp] at s1
  rw [hq] at s2
  obtain ⟨y, hy⟩ : ∃ y, Sh.rotR 32 x 6 = y := ⟨_, rfl⟩
  rw [hy] at s3 ⊢
  have k1 : bits .and .u64 (IntKind.u64.wrap (-6)) 31 = 26 := by decide
  have k2 : bits .and .u64 18446744073709551610 31 = 26 := by decide
  rw [show (2 : Int) ^ 26 = 67108864 by decide] at s1
  rw [show (2 : Int) ^ 6 = 64 by decide] at s2
  clear hr hp hq hpl hql hy hx
  go_enter Tryz.func119, Tryz.ntmps119
  go_wp2_with fail
  go_ret
  exact ⟨rfl, rfl⟩
set_option maxRecDepth 100000 in
theorem rot32_11 (x : Nat) (hx : x < 2 ^ 32) (w : World) : Calls Tryz.prog 119 #[.int .u32 (x : Int), .int .i64 (-11)] w (RetU32 (Sh.rotR 32 x 11) w) := by
  have hr := rot_eq 32 x 11 (by decide) hx
  have s1 := s32_shl x 21
  have s2 := sh_shr x 11
  obtain ⟨p, hp⟩ : ∃ p, (x <<< 21) % 2 ^ 32 = p := ⟨_, rfl⟩
  obtain ⟨q, hq⟩ : ∃ q, x >>> 11 = q := ⟨_, rfl⟩
  have hpl : p < 2 ^ 32 := by rw [← hp]; exact Nat.mod_lt _ (by decide)
  have hql : q < 2 ^ 32 := by rw [← hq, Nat.shiftRight_eq_div_pow]; exact Nat.lt_of_le_of_lt (Nat.div_le_self _ _) hx
  have s3 := s32_or p q hpl hql
  rw [show 32 - 11 = 21 from rfl, hp, hq] at hr
  rw [hr] at s3
  rw [hp] at s1
  rw [hq] at s2
  obtain ⟨y, hy⟩ : ∃ y, Sh.rotR 32 x 11 = y := ⟨_, rfl⟩
  rw [hy] at s3 ⊢
  have k1 : bits .and .u64 (IntKind.u64.wrap (-11)) 31 = 21 := by decide
  have k2 : bits .and .u64 18446744073709551605 31 = 21 := by decide
  rw [show (2 : Int) ^ 21 = 2097152 by decide] at s1
  rw [show (2 : Int) ^ 11 = 2048 by decide] at s2
  clear hr hp hq hpl hql hy hx
  go_enter Tryz.func119, Tryz.ntmps119
  go_wp2_with fail
  go_ret
  exact ⟨rfl, rfl⟩
set_option maxRecDepth 100000 in
theorem rot32_25 (x : Nat) (hx : x < 2 ^ 32) (w : World) : Calls Tryz.prog 119 #[.int .u32 (x : Int), .int .i64 (-25)] w (RetU32 (Sh.rotR 32 x 25) w) := by
  have hr := rot_eq 32 x 25 (by decide) hx
  have s1 := s32_shl x 7
  have s2 := sh_shr x 25
  obtain ⟨p, hp⟩ : ∃ p, (x <<< 7) % 2 ^ 32 = p := ⟨_, rfl⟩
  obtain ⟨q, hq⟩ : ∃ q, x >>> 25 = q := ⟨_, rfl⟩
  have hpl : p < 2 ^ 32 := by rw [← hp]; exact Nat.mod_lt _ (by decide)
  have hql : q < 2 ^ 32 := by rw [← hq, Nat.shiftRight_eq_div_pow]; exact Nat.lt_of_le_of_lt (Nat.div_le_self _ _) hx
  have s3 := s32_or p q hpl hql
  rw [show 32 - 25 = 7 from rfl, hp, hq] at hr
  rw [hr] at s3
  rw [hp] at s1
  rw [hq] at s2
  obtain ⟨y, hy⟩ : ∃ y, Sh.rotR 32 x 25 = y := ⟨_, rfl⟩
  rw [hy] at s3 ⊢
  have k1 : bits .and .u64 (IntKind.u64.wrap (-25)) 31 = 7 := by decide
  have k2 : bits .and .u64 18446744073709551591 31 = 7 := by decide
  rw [show (2 : Int) ^ 7 = 128 by decide] at s1
  rw [show (2 : Int) ^ 25 = 33554432 by decide] at s2
  clear hr hp hq hpl hql hy hx
  go_enter Tryz.func119, Tryz.ntmps119
  go_wp2_with fail
  go_ret
  exact ⟨rfl, rfl⟩
set_option maxRecDepth 100000 in
theorem rot32_2 (x : Nat) (hx : x < 2 ^ 32) (w : World) : Calls Tryz.prog 119 #[.int .u32 (x : Int), .int .i64 (-2)] w (RetU32 (Sh.rotR 32 x 2) w) := by
  have hr := rot_eq 32 x 2 (by decide) hx
  have s1 := s32_shl x 30
  have s2 := sh_shr x 2
  obtain ⟨p, hp⟩ : ∃ p, (x <<< 30) % 2 ^ 32 = p := ⟨_, rfl⟩
  obtain ⟨q, hq⟩ : ∃ q, x >>> 2 = q := ⟨_, rfl⟩
  have hpl : p < 2 ^ 32 := by rw [← hp]; exact Nat.mod_lt _ (by decide)
  have hql : q < 2 ^ 32 := by rw [← hq, Nat.shiftRight_eq_div_pow]; exact Nat.lt_of_le_of_lt (Nat.div_le_self _ _) hx
  have s3 := s32_or p q hpl hql
  rw [show 32 - 2 = 30 from rfl, hp, hq] at hr
  rw [hr] at s3
  rw [hp] at s1
  rw [hq] at s2
  obtain ⟨y, hy⟩ : ∃ y, Sh.rotR 32 x 2 = y := ⟨_, rfl⟩
  rw [hy] at s3 ⊢
  have k1 : bits .and .u64 (IntKind.u64.wrap (-2)) 31 = 30 := by decide
  have k2 : bits .and .u64 18446744073709551614 31 = 30 := by decide
  rw [show (2 : Int) ^ 30 = 1073741824 by decide] at s1
  rw [show (2 : Int) ^ 2 = 4 by decide] at s2
  clear hr hp hq hpl hql hy hx
  go_enter Tryz.func119, Tryz.ntmps119
  go_wp2_with fail
  go_ret
  exact ⟨rfl, rfl⟩
set_option maxRecDepth 100000 in
theorem rot32_13 (x : Nat) (hx : x < 2 ^ 32) (w : World) : Calls Tryz.prog 119 #[.int .u32 (x : Int), .int .i64 (-13)] w (RetU32 (Sh.rotR 32 x 13) w) := by
  have hr := rot_eq 32 x 13 (by decide) hx
  have s1 := s32_shl x 19
  have s2 := sh_shr x 13
  obtain ⟨p, hp⟩ : ∃ p, (x <<< 19) % 2 ^ 32 = p := ⟨_, rfl⟩
  obtain ⟨q, hq⟩ : ∃ q, x >>> 13 = q := ⟨_, rfl⟩
  have hpl : p < 2 ^ 32 := by rw [← hp]; exact Nat.mod_lt _ (by decide)
  have hql : q < 2 ^ 32 := by rw [← hq, Nat.shiftRight_eq_div_pow]; exact Nat.lt_of_le_of_lt (Nat.div_le_self _ _) hx
  have s3 := s32_or p q hpl hql
  rw [show 32 - 13 = 19 from rfl, hp, hq] at hr
  rw [hr] at s3
  rw [hp] at s1
  rw [hq] at s2
  obtain ⟨y, hy⟩ : ∃ y, Sh.rotR 32 x 13 = y := ⟨_, rfl⟩
  rw [hy] at s3 ⊢
  have k1 : bits .and .u64 (IntKind.u64.wrap (-13)) 31 = 19 := by decide
  have k2 : bits .and .u64 18446744073709551603 31 = 19 := by decide
  rw [show (2 : Int) ^ 19 = 524288 by decide] at s1
  rw [show (2 : Int) ^ 13 = 8192 by decide] at s2
  clear hr hp hq hpl hql hy hx
  go_enter Tryz.func119, Tryz.ntmps119
  go_wp2_with fail
  go_ret
  exact ⟨rfl, rfl⟩
set_option maxRecDepth 100000 in
theorem rot32_22 (x : Nat) (hx : x < 2 ^ 32) (w : World) : Calls Tryz.prog 119 #[.int .u32 (x : Int), .int .i64 (-22)] w (RetU32 (Sh.rotR 32 x 22) w) := by
  have hr := rot_eq 32 x 22 (by decide) hx
  have s1 := s32_shl x 10
  have s2 := sh_shr x 22
  obtain ⟨p, hp⟩ : ∃ p, (x <<< 10) % 2 ^ 32 = p := ⟨_, rfl⟩
  obtain ⟨q, hq⟩ : ∃ q, x >>> 22 = q := ⟨_, rfl⟩
  have hpl : p < 2 ^ 32 := by rw [← hp]; exact Nat.mod_lt _ (by decide)
  have hql : q < 2 ^ 32 := by rw [← hq, Nat.shiftRight_eq_div_pow]; exact Nat.lt_of_le_of_lt (Nat.div_le_self _ _) hx
  have s3 := s32_or p q hpl hql
  rw [show 32 - 22 = 10 from rfl, hp, hq] at hr
  rw [hr] at s3
  rw [hp] at s1
  rw [hq] at s2
  obtain ⟨y, hy⟩ : ∃ y, Sh.rotR 32 x 22 = y := ⟨_, rfl⟩
  rw [hy] at s3 ⊢
  have k1 : bits .and .u64 (IntKind.u64.wrap (-22)) 31 = 10 := by decide
  have k2 : bits .and .u64 18446744073709551594 31 = 10 := by decide
  rw [show (2 : Int) ^ 10 = 1024 by decide] at s1
  rw [show (2 : Int) ^ 22 = 4194304 by decide] at s2
  clear hr hp hq hpl hql hy hx
  go_enter Tryz.func119, Tryz.ntmps119
  go_wp2_with fail
  go_ret
  exact ⟨rfl, rfl⟩
set_option maxRecDepth 100000 in
theorem rot64_1 (x : Nat) (hx : x < 2 ^ 64) (w : World) : Calls Tryz.prog 150 #[.int .u64 (x : Int), .int .i64 (-1)] w (RetUs (Sh.rotR 64 x 1) w) := by
  have hr := rot_eq 64 x 1 (by decide) hx
  have s1 := sh_shl x 63
  have s2 := sh_shr x 1
  obtain ⟨p, hp⟩ : ∃ p, (x <<< 63) % 2 ^ 64 = p := ⟨_, rfl⟩
  obtain ⟨q, hq⟩ : ∃ q, x >>> 1 = q := ⟨_, rfl⟩
  have hpl : p < 2 ^ 64 := by rw [← hp]; exact Nat.mod_lt _ (by decide)
  have hql : q < 2 ^ 64 := by rw [← hq, Nat.shiftRight_eq_div_pow]; exact Nat.lt_of_le_of_lt (Nat.div_le_self _ _) hx
  have s3 := sh_or p q hpl hql
  rw [show 64 - 1 = 63 from rfl, hp, hq] at hr
  rw [hr] at s3
  rw [hp] at s1
  rw [hq] at s2
  obtain ⟨y, hy⟩ : ∃ y, Sh.rotR 64 x 1 = y := ⟨_, rfl⟩
  rw [hy] at s3 ⊢
  have k1 : bits .and .u64 (IntKind.u64.wrap (-1)) 63 = 63 := by decide
  have k2 : bits .and .u64 18446744073709551615 63 = 63 := by decide
  rw [show (2 : Int) ^ 63 = 9223372036854775808 by decide] at s1
  rw [show (2 : Int) ^ 1 = 2 by decide] at s2
  clear hr hp hq hpl hql hy hx
  go_enter Tryz.func150, Tryz.ntmps150
  go_wp2_with fail
  go_ret
  exact ⟨rfl, rfl⟩
set_option maxRecDepth 100000 in
theorem rot64_8 (x : Nat) (hx : x < 2 ^ 64) (w : World) : Calls Tryz.prog 150 #[.int .u64 (x : Int), .int .i64 (-8)] w (RetUs (Sh.rotR 64 x 8) w) := by
  have hr := rot_eq 64 x 8 (by decide) hx
  have s1 := sh_shl x 56
  have s2 := sh_shr x 8
  obtain ⟨p, hp⟩ : ∃ p, (x <<< 56) % 2 ^ 64 = p := ⟨_, rfl⟩
  obtain ⟨q, hq⟩ : ∃ q, x >>> 8 = q := ⟨_, rfl⟩
  have hpl : p < 2 ^ 64 := by rw [← hp]; exact Nat.mod_lt _ (by decide)
  have hql : q < 2 ^ 64 := by rw [← hq, Nat.shiftRight_eq_div_pow]; exact Nat.lt_of_le_of_lt (Nat.div_le_self _ _) hx
  have s3 := sh_or p q hpl hql
  rw [show 64 - 8 = 56 from rfl, hp, hq] at hr
  rw [hr] at s3
  rw [hp] at s1
  rw [hq] at s2
  obtain ⟨y, hy⟩ : ∃ y, Sh.rotR 64 x 8 = y := ⟨_, rfl⟩
  rw [hy] at s3 ⊢
  have k1 : bits .and .u64 (IntKind.u64.wrap (-8)) 63 = 56 := by decide
  have k2 : bits .and .u64 18446744073709551608 63 = 56 := by decide
  rw [show (2 : Int) ^ 56 = 72057594037927936 by decide] at s1
  rw [show (2 : Int) ^ 8 = 256 by decide] at s2
  clear hr hp hq hpl hql hy hx
  go_enter Tryz.func150, Tryz.ntmps150
  go_wp2_with fail
  go_ret
  exact ⟨rfl, rfl⟩
set_option maxRecDepth 100000 in
theorem rot64_19 (x : Nat) (hx : x < 2 ^ 64) (w : World) : Calls Tryz.prog 150 #[.int .u64 (x : Int), .int .i64 (-19)] w (RetUs (Sh.rotR 64 x 19) w) := by
  have hr := rot_eq 64 x 19 (by decide) hx
  have s1 := sh_shl x 45
  have s2 := sh_shr x 19
  obtain ⟨p, hp⟩ : ∃ p, (x <<< 45) % 2 ^ 64 = p := ⟨_, rfl⟩
  obtain ⟨q, hq⟩ : ∃ q, x >>> 19 = q := ⟨_, rfl⟩
  have hpl : p < 2 ^ 64 := by rw [← hp]; exact Nat.mod_lt _ (by decide)
  have hql : q < 2 ^ 64 := by rw [← hq, Nat.shiftRight_eq_div_pow]; exact Nat.lt_of_le_of_lt (Nat.div_le_self _ _) hx
  have s3 := sh_or p q hpl hql
  rw [show 64 - 19 = 45 from rfl, hp, hq] at hr
  rw [hr] at s3
  rw [hp] at s1
  rw [hq] at s2
  obtain ⟨y, hy⟩ : ∃ y, Sh.rotR 64 x 19 = y := ⟨_, rfl⟩
  rw [hy] at s3 ⊢
  have k1 : bits .and .u64 (IntKind.u64.wrap (-19)) 63 = 45 := by decide
  have k2 : bits .and .u64 18446744073709551597 63 = 45 := by decide
  rw [show (2 : Int) ^ 45 = 35184372088832 by decide] at s1
  rw [show (2 : Int) ^ 19 = 524288 by decide] at s2
  clear hr hp hq hpl hql hy hx
  go_enter Tryz.func150, Tryz.ntmps150
  go_wp2_with fail
  go_ret
  exact ⟨rfl, rfl⟩
set_option maxRecDepth 100000 in
theorem rot64_61 (x : Nat) (hx : x < 2 ^ 64) (w : World) : Calls Tryz.prog 150 #[.int .u64 (x : Int), .int .i64 (-61)] w (RetUs (Sh.rotR 64 x 61) w) := by
  have hr := rot_eq 64 x 61 (by decide) hx
  have s1 := sh_shl x 3
  have s2 := sh_shr x 61
  obtain ⟨p, hp⟩ : ∃ p, (x <<< 3) % 2 ^ 64 = p := ⟨_, rfl⟩
  obtain ⟨q, hq⟩ : ∃ q, x >>> 61 = q := ⟨_, rfl⟩
  have hpl : p < 2 ^ 64 := by rw [← hp]; exact Nat.mod_lt _ (by decide)
  have hql : q < 2 ^ 64 := by rw [← hq, Nat.shiftRight_eq_div_pow]; exact Nat.lt_of_le_of_lt (Nat.div_le_self _ _) hx
  have s3 := sh_or p q hpl hql
  rw [show 64 - 61 = 3 from rfl, hp, hq] at hr
  rw [hr] at s3
  rw [hp] at s1
  rw [hq] at s2
  obtain ⟨y, hy⟩ : ∃ y, Sh.rotR 64 x 61 = y := ⟨_, rfl⟩
  rw [hy] at s3 ⊢
  have k1 : bits .and .u64 (IntKind.u64.wrap (-61)) 63 = 3 := by decide
  have k2 : bits .and .u64 18446744073709551555 63 = 3 := by decide
  rw [show (2 : Int) ^ 3 = 8 by decide] at s1
  rw [show (2 : Int) ^ 61 = 2305843009213693952 by decide] at s2
  clear hr hp hq hpl hql hy hx
  go_enter Tryz.func150, Tryz.ntmps150
  go_wp2_with fail
  go_ret
  exact ⟨rfl, rfl⟩
set_option maxRecDepth 100000 in
theorem rot64_14 (x : Nat) (hx : x < 2 ^ 64) (w : World) : Calls Tryz.prog 150 #[.int .u64 (x : Int), .int .i64 (-14)] w (RetUs (Sh.rotR 64 x 14) w) := by
  have hr := rot_eq 64 x 14 (by decide) hx
  have s1 := sh_shl x 50
  have s2 := sh_shr x 14
  obtain ⟨p, hp⟩ : ∃ p, (x <<< 50) % 2 ^ 64 = p := ⟨_, rfl⟩
  obtain ⟨q, hq⟩ : ∃ q, x >>> 14 = q := ⟨_, rfl⟩
  have hpl : p < 2 ^ 64 := by rw [← hp]; exact Nat.mod_lt _ (by decide)
  have hql : q < 2 ^ 64 := by rw [← hq, Nat.shiftRight_eq_div_pow]; exact Nat.lt_of_le_of_lt (Nat.div_le_self _ _) hx
  have s3 := sh_or p q hpl hql
  rw [show 64 - 14 = 50 from rfl, hp, hq] at hr
  rw [hr] at s3
  rw [hp] at s1
  rw [hq] at s2
  obtain ⟨y, hy⟩ : ∃ y, Sh.rotR 64 x 14 = y := ⟨_, rfl⟩
  rw [hy] at s3 ⊢
  have k1 : bits .and .u64 (IntKind.u64.wrap (-14)) 63 = 50 := by decide
  have k2 : bits .and .u64 18446744073709551602 63 = 50 := by decide
  rw [show (2 : Int) ^ 50 = 1125899906842624 by decide] at s1
  rw [show (2 : Int) ^ 14 = 16384 by decide] at s2
  clear hr hp hq hpl hql hy hx
  go_enter Tryz.func150, Tryz.ntmps150
  go_wp2_with fail
  go_ret
  exact ⟨rfl, rfl⟩
set_option maxRecDepth 100000 in
theorem rot64_18 (x : Nat) (hx : x < 2 ^ 64) (w : World) : Calls Tryz.prog 150 #[.int .u64 (x : Int), .int .i64 (-18)] w (RetUs (Sh.rotR 64 x 18) w) := by
  have hr := rot_eq 64 x 18 (by decide) hx
  have s1 := sh_shl x 46
  have s2 := sh_shr x 18
  obtain ⟨p, hp⟩ : ∃ p, (x <<< 46) % 2 ^ 64 = p := ⟨_, rfl⟩
  obtain ⟨q, hq⟩ : ∃ q, x >>> 18 = q := ⟨_, rfl⟩
  have hpl : p < 2 ^ 64 := by rw [← hp]; exact Nat.mod_lt _ (by decide)
  have hql : q < 2 ^ 64 := by rw [← hq, Nat.shiftRight_eq_div_pow]; exact Nat.lt_of_le_of_lt (Nat.div_le_self _ _) hx
  have s3 := sh_or p q hpl hql
  rw [show 64 - 18 = 46 from rfl, hp, hq] at hr
  rw [hr] at s3
  rw [hp] at s1
  rw [hq] at s2
  obtain ⟨y, hy⟩ : ∃ y, Sh.rotR 64 x 18 = y := ⟨_, rfl⟩
  rw [hy] at s3 ⊢
  have k1 : bits .and .u64 (IntKind.u64.wrap (-18)) 63 = 46 := by decide
  have k2 : bits .and .u64 18446744073709551598 63 = 46 := by decide
  rw [show (2 : Int) ^ 46 = 70368744177664 by decide] at s1
  rw [show (2 : Int) ^ 18 = 262144 by decide] at s2
  clear hr hp hq hpl hql hy hx
  go_enter Tryz.func150, Tryz.ntmps150
  go_wp2_with fail
  go_ret
  exact ⟨rfl, rfl⟩
set_option maxRecDepth 100000 in
theorem rot64_41 (x : Nat) (hx : x < 2 ^ 64) (w : World) : Calls Tryz.prog 150 #[.int .u64 (x : Int), .int .i64 (-41)] w (RetUs (Sh.rotR 64 x 41) w) := by
  have hr := rot_eq 64 x 41 (by decide) hx
  have s1 := sh_shl x 23
  have s2 := sh_shr x 41
  obtain ⟨p, hp⟩ : ∃ p, (x <<< 23) % 2 ^ 64 = p := ⟨_, rfl⟩
  obtain ⟨q, hq⟩ : ∃ q, x >>> 41 = q := ⟨_, rfl⟩
  have hpl : p < 2 ^ 64 := by rw [← hp]; exact Nat.mod_lt _ (by decide)
  have hql : q < 2 ^ 64 := by rw [← hq, Nat.shiftRight_eq_div_pow]; exact Nat.lt_of_le_of_lt (Nat.div_le_self _ _) hx
  have s3 := sh_or p q hpl hql
  rw [show 64 - 41 = 23 from rfl, hp, hq] at hr
  rw [hr] at s3
  rw [hp] at s1
  rw [hq] at s2
  obtain ⟨y, hy⟩ : ∃ y, Sh.rotR 64 x 41 = y := ⟨_, rfl⟩
  rw [hy] at s3 ⊢
  have k1 : bits .and .u64 (IntKind.u64.wrap (-41)) 63 = 23 := by decide
  have k2 : bits .and .u64 18446744073709551575 63 = 23 := by decide
  rw [show (2 : Int) ^ 23 = 8388608 by decide] at s1
  rw [show (2 : Int) ^ 41 = 2199023255552 by decide] at s2
  clear hr hp hq hpl hql hy hx
  go_enter Tryz.func150, Tryz.ntmps150
  go_wp2_with fail
  go_ret
  exact ⟨rfl, rfl⟩
set_option maxRecDepth 100000 in
theorem rot64_28 (x : Nat) (hx : x < 2 ^ 64) (w : World) : Calls Tryz.prog 150 #[.int .u64 (x : Int), .int .i64 (-28)] w (RetUs (Sh.rotR 64 x 28) w) := by
  have hr := rot_eq 64 x 28 (by decide) hx
  have s1 := sh_shl x 36
  have s2 := sh_shr x 28
  obtain ⟨p, hp⟩ : ∃ p, (x <<< 36) % 2 ^ 64 = p := ⟨_, rfl⟩
  obtain ⟨q, hq⟩ : ∃ q, x >>> 28 = q := ⟨_, rfl⟩
  have hpl : p < 2 ^ 64 := by rw [← hp]; exact Nat.mod_lt _ (by decide)
  have hql : q < 2 ^ 64 := by rw [← hq, Nat.shiftRight_eq_div_pow]; exact Nat.lt_of_le_of_lt (Nat.div_le_self _ _) hx
  have s3 := sh_or p q hpl hql
  rw [show 64 - 28 = 36 from rfl, hp, hq] at hr
  rw [hr] at s3
  rw [hp] at s1
  rw [hq] at s2
  obtain ⟨y, hy⟩ : ∃ y, Sh.rotR 64 x 28 = y := ⟨_, rfl⟩
  rw [hy] at s3 ⊢
  have k1 : bits .and .u64 (IntKind.u64.wrap (-28)) 63 = 36 := by decide
  have k2 : bits .and .u64 18446744073709551588 63 = 36 := by decide
  rw [show (2 : Int) ^ 36 = 68719476736 by decide] at s1
  rw [show (2 : Int) ^ 28 = 268435456 by decide] at s2
  clear hr hp hq hpl hql hy hx
  go_enter Tryz.func150, Tryz.ntmps150
  go_wp2_with fail
  go_ret
  exact ⟨rfl, rfl⟩
set_option maxRecDepth 100000 in
theorem rot64_34 (x : Nat) (hx : x < 2 ^ 64) (w : World) : Calls Tryz.prog 150 #[.int .u64 (x : Int), .int .i64 (-34)] w (RetUs (Sh.rotR 64 x 34) w) := by
  have hr := rot_eq 64 x 34 (by decide) hx
  have s1 := sh_shl x 30
  have s2 := sh_shr x 34
  obtain ⟨p, hp⟩ : ∃ p, (x <<< 30) % 2 ^ 64 = p := ⟨_, rfl⟩
  obtain ⟨q, hq⟩ : ∃ q, x >>> 34 = q := ⟨_, rfl⟩
  have hpl : p < 2 ^ 64 := by rw [← hp]; exact Nat.mod_lt _ (by decide)
  have hql : q < 2 ^ 64 := by rw [← hq, Nat.shiftRight_eq_div_pow]; exact Nat.lt_of_le_of_lt (Nat.div_le_self _ _) hx
  have s3 := sh_or p q hpl hql
  rw [show 64 - 34 = 30 from rfl, hp, hq] at hr
  rw [hr] at s3
  rw [hp] at s1
  rw [hq] at s2
  obtain ⟨y, hy⟩ : ∃ y, Sh.rotR 64 x 34 = y := ⟨_, rfl⟩
  rw [hy] at s3 ⊢
  have k1 : bits .and .u64 (IntKind.u64.wrap (-34)) 63 = 30 := by decide
  have k2 : bits .and .u64 18446744073709551582 63 = 30 := by decide
  rw [show (2 : Int) ^ 30 = 1073741824 by decide] at s1
  rw [show (2 : Int) ^ 34 = 17179869184 by decide] at s2
  clear hr hp hq hpl hql hy hx
  go_enter Tryz.func150, Tryz.ntmps150
  go_wp2_with fail
  go_ret
  exact ⟨rfl, rfl⟩
set_option maxRecDepth 100000 in
theorem rot64_39 (x : Nat) (hx : x < 2 ^ 64) (w : World) : Calls Tryz.prog 150 #[.int .u64 (x : Int), .int .i64 (-39)] w (RetUs (Sh.rotR 64 x 39) w) := by
  have hr := rot_eq 64 x 39 (by decide) hx
  have s1 := sh_shl x 25
  have s2 := sh_shr x 39
  obtain ⟨p, hp⟩ : ∃ p, (x <<< 25) % 2 ^ 64 = p := ⟨_, rfl⟩
  obtain ⟨q, hq⟩ : ∃ q, x >>> 39 = q := ⟨_, rfl⟩
  have hpl : p < 2 ^ 64 := by rw [← hp]; exact Nat.mod_lt _ (by decide)
  have hql : q < 2 ^ 64 := by rw [← hq, Nat.shiftRight_eq_div_pow]; exact Nat.lt_of_le_of_lt (Nat.div_le_self _ _) hx
  have s3 := sh_or p q hpl hql
  rw [show 64 - 39 = 25 from rfl, hp, hq] at hr
  rw [hr] at s3
  rw [hp] at s1
  rw [hq] at s2
  obtain ⟨y, hy⟩ : ∃ y, Sh.rotR 64 x 39 = y := ⟨_, rfl⟩
  rw [hy] at s3 ⊢
  have k1 : bits .and .u64 (IntKind.u64.wrap (-39)) 63 = 25 := by decide
  have k2 : bits .and .u64 18446744073709551577 63 = 25 := by decide
  rw [show (2 : Int) ^ 25 = 33554432 by decide] at s1
  rw [show (2 : Int) ^ 39 = 549755813888 by decide] at s2
  clear hr hp hq hpl hql hy hx
  go_enter Tryz.func150, Tryz.ntmps150
  go_wp2_with fail
  go_ret
  exact ⟨rfl, rfl⟩
end Go.Proofs.YtjlmmlnldjandaaGreatDoor
