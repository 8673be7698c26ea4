/- The document's substitution, and the walk of AesSub. -/
import Derived.Test.YtlfhlnfhmnddkaaAesX
import Derived.Test.YtlfhlnfhmnddkaaAesY
namespace Go.Proofs.Ytlfhlnfhmnddkaa
open Go.RowKit
set_option linter.unusedVariables false
set_option linter.unusedSimpArgs false
set_option maxRecDepth 100000 in
theorem rinverse_any (b : UInt8) (w : World) : Calls Try.prog 27 #[.int .u8 (b.toNat : Int)] w (RetY (ginv b) w) := by
  go_enter Try.func27, Try.ntmps27
  go_wp2_with fail
  go_loopw [3, 4] (fun p i wr => ∃ k : Nat, k ≤ 254 ∧ i = .int .i64 (k : Int) ∧ p = .int .u8 ((gpow b k).toNat : Int) ∧ w = wr) (fun _ i _ => 254 - (intOf i).toNat)
  case atStart => exact ⟨0, by omega, rfl, rfl, rfl⟩
  case round =>
    obtain ⟨k, hk, rfl, rfl, rfl⟩ := hrel
    by_cases hlt : k < 254
    · go_wp2_with fail
      refine (rmul_any (gpow b k) b _).mono ?_
      rintro e w' ⟨rfl, rfl⟩
      go_wp2_with fail
      go_roundw
      case rel => exact ⟨k + 1, by omega, by go_num, rfl, (by first | rfl | trivial)⟩
      case measure => simp [intOf]; omega
    · have hkm : k = 254 := by omega
      subst hkm
      go_wp2_with fail
      go_ret
      refine ret_y ?_
      rw [ginv_pow]
theorem rot1_val (b : UInt8) : bits .or .u8 ((b.toNat : Int) * (2 : Int) % (256 : Int)) ((b.toNat : Int) / (128 : Int)) = ((rotl8 b 1).toNat : Int) := rot8_val b 1 (by omega)
theorem rsub_any (b : UInt8) (w : World) : Calls Try.prog 14 #[.int .u8 (b.toNat : Int)] w (RetY (gsub b) w) := by
  go_enter Try.func14, Try.ntmps14
  go_wp2_with fail
  refine (rinverse_any b _).mono ?_
  rintro e w' ⟨rfl, rfl⟩
  go_wp2_with fail
  go_loopw [3, 4, 5] (fun x o i wr => ∃ k : Nat, ∃ x' o' : UInt8, k ≤ 4 ∧ i = .int .i64 (k : Int) ∧ x = .int .u8 (x'.toNat : Int) ∧ o = .int .u8 (o'.toNat : Int) ∧ rspL (4 - k) x' o' = rspL 4 (ginv b) (ginv b) ∧ w = wr) (fun _ _ i _ => 4 - (intOf i).toNat)
  case atStart => exact ⟨0, ginv b, ginv b, by omega, rfl, rfl, rfl, rfl, rfl⟩
  case round =>
    obtain ⟨k, x', o', hk, rfl, rfl, rfl, hm, rfl⟩ := hrel
    have HM := Lib.hid hm
    clear hm
    have hx := x'.toNat_lt
    by_cases hlt : k < 4
    · have h1 := rot1_val x'
      obtain ⟨y, hy⟩ : ∃ y, rotl8 x' 1 = y := ⟨_, rfl⟩
      rw [hy] at h1
      have HY := Lib.hid hy
      clear hy
      obtain ⟨q, hq, hq2⟩ : ∃ q : UInt8, bits .xor .u8 (o'.toNat : Int) (y.toNat : Int) = (q.toNat : Int) ∧ q = o' ^^^ y := ⟨_, u8x _ _, rfl⟩
      have HQ := Lib.hid hq2
      clear hq2
      go_wp2_with fail
      go_roundw
      case rel =>
        refine ⟨k + 1, y, q, by omega, by go_num, rfl, rfl, ?_, (by first | rfl | trivial)⟩
        have := HM.out
        rw [show 4 - k = (4 - (k + 1)) + 1 by omega, rspL, HY.out, ← HQ.out] at this
        exact this
      case measure => simp [intOf]; omega
    · have hkm : k = 4 := by omega
      subst hkm
      obtain ⟨z, hz, hz2⟩ : ∃ z : UInt8, bits .xor .u8 (o'.toNat : Int) (99 : Int) = (z.toNat : Int) ∧ z = o' ^^^ 99 := ⟨_, by rw [show (99 : Int) = ((99 : UInt8).toNat : Int) by rfl, u8x], rfl⟩
      have HZ := Lib.hid hz2
      clear hz2
      go_wp2_with fail
      go_ret
      refine ret_y ?_
      have := HM.out
      rw [Nat.sub_self, rspL] at this
      rw [HZ.out, this, gsub, ← rsp_spr]
      rfl
set_option maxRecDepth 100000 in
set_option maxHeartbeats 3200000 in
theorem aesSub_walk (a0 a1 : Int) (v0 : (Lit.int .u8 a0).wf = true) (v1 : (Lit.int .u8 a1).wf = true) (w : World) : Calls Try.prog 4 #[.int .u8 a0, .int .u8 a1] w (RetT w) := by
  obtain ⟨a, rfl⟩ := u8_of_wf v0
  obtain ⟨b, rfl⟩ := u8_of_wf v1
  clear v0 v1
  have h3 : (((gsub a).toNat : Int) == ((gsub b).toNat : Int)) = ((a.toNat : Int) == (b.toNat : Int)) := by
    rw [Bool.eq_iff_iff, beq_iff_eq, beq_iff_eq]
    constructor
    · intro h
      rw [gsub_inj (UInt8.toNat_inj.1 (Int.ofNat_inj.1 h))]
    · intro h
      rw [UInt8.toNat_inj.1 (Int.ofNat_inj.1 h)]
  go_enter Try.func4, Try.ntmps4
  go_wp2_with fail
  refine (wakes_any _).mono ?_
  rintro e w1 ⟨rfl, hb⟩
  go_wp2_with fail
  refine (sub_any a _).mono ?_
  rintro e w' ⟨rfl, rfl⟩
  go_wp2_with fail
  refine (rsub_any a _).mono ?_
  rintro e w' ⟨rfl, rfl⟩
  go_wp2_with fail
  refine (sub_any a _).mono ?_
  rintro e w' ⟨rfl, rfl⟩
  go_wp2_with fail
  refine (sub_any b _).mono ?_
  rintro e w' ⟨rfl, rfl⟩
  go_wp2_with fail
  go_ret
  exact ⟨rfl, hb⟩
end Go.Proofs.Ytlfhlnfhmnddkaa
