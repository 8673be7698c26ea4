/- The document's sign and number. -/
import Derived.Test.YtkjenmkgamnchaaBasA
import Derived.Test.YtkjenmkgamnchaaRowI
namespace Go.Proofs.Ytkjenmkgamnchaa
open Go.RowKit
set_option linter.unusedVariables false
set_option linter.unusedSimpArgs false
theorem i64_and1 (n : Int) : bits .and .i64 n 1 = n % 2 := by
  have h1 : (BitVec.ofInt 64 1).toNat = 2 ^ 1 - 1 := by decide
  have key : (BitVec.ofInt 64 n &&& BitVec.ofInt 64 1).toNat = (n % ((2 ^ 64 : Nat) : Int)).toNat % 2 ^ 1 := by
    rw [BitVec.toNat_and, BitVec.toNat_ofInt, h1, Nat.and_two_pow_sub_one_eq_mod]
  show IntKind.i64.wrap ((BitVec.ofInt 64 n &&& BitVec.ofInt 64 1).toNat : Nat) = n % 2
  rw [key, IntKind.wrap_i64]
  omega
theorem i64_bit (x d : Nat) : bits .and .i64 ((x : Int) / 2 ^ d) 1 = ((x / 2 ^ d % 2 : Nat) : Int) := by
  rw [i64_and1, Int.natCast_emod, Int.natCast_ediv, Int.natCast_pow]
  rfl
theorem sgB_nat (n : Nat) (h : n < 64) : (sgB n).toNat = if n < 26 then 65 + n else if n < 52 then 71 + n else if n < 62 then n - 4 else if n = 62 then 45 else 95 := by
  rw [sgB, UInt8.toNat_ofNat']
  split
  · omega
  · split
    · omega
    · split
      · omega
      · split <;> rfl
theorem bsign_any (n : Int) (w : World) (h0 : 0 ≤ n) (h : n < 64) : Calls Try.prog 12 #[.int .i64 n] w (RetU8 (sgB n.toNat).toNat w) := by
  obtain ⟨m, rfl⟩ := Int.eq_ofNat_of_zero_le h0
  rw [Int.toNat_natCast]
  have fin : ∀ v : Int, v = ((sgB m).toNat : Int) → RetU8 (sgB m).toNat w (.returned (.int .u8 v)) w := by
    rintro v rfl
    exact ⟨rfl, rfl⟩
  have FIN := Lib.hid fin
  clear fin
  have hs := sgB_nat m (by omega)
  have HS := Lib.hid hs
  clear hs
  by_cases h62 : m = 62
  · have hb : ((m : Int) == 62) = true := by rw [h62]; rfl
    have r1 : ¬ (m : Int) < 62 := by omega
    have r2 : ¬ (m : Int) < 52 := by omega
    have r3 : ¬ (m : Int) < 26 := by omega
    have H := Lib.hid h62
    clear h62
    go_enter Try.func12, Try.ntmps12
    go_wp2
    go_ret
    refine FIN.out _ ?_
    rw [HS.out, H.out]
    rfl
  · have hb : ((m : Int) == 62) = false := by rw [beq_eq_false_iff_ne]; omega
    have H := Lib.hid h62
    clear h62
    go_enter Try.func12, Try.ntmps12
    go_wp2
    all_goals
      go_ret
      refine FIN.out _ ?_
      rw [HS.out]
      have := H.out
      split
      · omega
      · split
        · omega
        · split
          · omega
          · omega
def numB (c : UInt8) : Int := if vaB c < 64 then (vaB c : Int) else -1
theorem numB_hit (c : UInt8) (n : Nat) (h : n < 64) (hc : sgB n = c) : numB c = (n : Int) := by
  rw [numB, ← hc, vaB_sgB n h, if_pos h]
theorem numB_miss (c : UInt8) (h : ∀ j, j < 64 → sgB j ≠ c) : numB c = -1 := by
  rw [numB, if_neg]
  intro h64
  exact h (vaB c) h64 (sgB_vaB c h64)
def RetI (n : Int) (w : World) (e : Ending) (w' : World) : Prop := e = .returned (.int .i64 n) ∧ w = w'
theorem number_any (c : UInt8) (w : World) : Calls Try.prog 14 #[.int .u8 (c.toNat : Int)] w (RetI (numB c) w) := by
  go_enter Try.func14, Try.ntmps14
  go_wp2
  go_loopw [3] (fun i wr => ∃ k : Nat, k ≤ 64 ∧ i = .int .i64 k ∧ (∀ j, j < k → sgB j ≠ c) ∧ w = wr) (fun i _ => 64 - (intOf i).toNat)
  case atStart => exact ⟨0, Nat.zero_le _, rfl, fun j hj => absurd hj (by omega), rfl⟩
  case round =>
    obtain ⟨k, hk, rfl, hno, rfl⟩ := hrel
    have HN := Lib.hid hno
    clear hno
    by_cases hlt : k < 64
    · by_cases he : sgB k = c
      · have hb : (((sgB k).toNat : Int) == (c.toNat : Int)) = true := by rw [he, beq_self_eq_true]
        have H := Lib.hid he
        clear he
        go_wp2_with (go_at_call 12; refine (bsign_any (k : Int) _ (by omega) (by omega)).mono ?_; rw [Int.toNat_natCast]; rintro e w' ⟨rfl, rfl⟩)
        go_ret
        exact ⟨by rw [numB_hit c k hlt H.out]; rfl, rfl⟩
      · have hb : (((sgB k).toNat : Int) == (c.toNat : Int)) = false := by
          rw [beq_eq_false_iff_ne]
          intro h
          exact he (UInt8.toNat_inj.1 (by omega))
        have H := Lib.hid he
        clear he
        go_wp2_with (go_at_call 12; refine (bsign_any (k : Int) _ (by omega) (by omega)).mono ?_; rw [Int.toNat_natCast]; rintro e w' ⟨rfl, rfl⟩)
        go_roundw
        case rel =>
          refine ⟨k + 1, by omega, by go_num, ?_, (by first | rfl | trivial)⟩
          intro j hj
          by_cases e : j = k
          · rw [e]; exact H.out
          · exact HN.out j (by omega)
        case measure => simp [intOf]; omega
    · have hkm : k = 64 := by omega
      subst hkm
      go_wp2
      go_ret
      exact ⟨by rw [numB_miss c HN.out]; rfl, rfl⟩
end Go.Proofs.Ytkjenmkgamnchaa
