/- The walk of AesMul. -/
import Derived.Test.YtlfhlnfhmnddkaaAesW
import Derived.Test.YtlfhlnfhmnddkaaGen8
namespace Go.Proofs.Ytlfhlnfhmnddkaa
open Go.RowKit
set_option linter.unusedVariables false
set_option linter.unusedSimpArgs false
theorem nat8_eq {x y : UInt8} (h : x = y) : ((x.toNat : Int) == (y.toNat : Int)) = true := by rw [h, beq_self_eq_true]
theorem nat8_ne {x : UInt8} (h : x ≠ 0) : ((x.toNat : Int) == 0) = false := by
  rw [beq_eq_false_iff_ne]
  intro e
  apply h
  apply UInt8.toNat_inj.1
  have : x.toNat = 0 := by omega
  rw [this]
  rfl
set_option maxRecDepth 100000 in
set_option maxHeartbeats 3200000 in
theorem aesMul_walk (a0 a1 a2 : Int) (v0 : (Lit.int .u8 a0).wf = true) (v1 : (Lit.int .u8 a1).wf = true) (v2 : (Lit.int .u8 a2).wf = true) (w : World) : Calls Try.prog 3 #[.int .u8 a0, .int .u8 a1, .int .u8 a2] w (RetT w) := by
  obtain ⟨a, rfl⟩ := u8_of_wf v0
  obtain ⟨b, rfl⟩ := u8_of_wf v1
  obtain ⟨c, rfl⟩ := u8_of_wf v2
  clear v0 v1 v2
  obtain ⟨z, hz, hz2⟩ : ∃ z : UInt8, bits .xor .u8 (b.toNat : Int) (c.toNat : Int) = (z.toNat : Int) ∧ z = b ^^^ c := ⟨_, u8x _ _, rfl⟩
  have hy : bits .xor .u8 ((gmul a b).toNat : Int) ((gmul a c).toNat : Int) = ((gmul a z).toNat : Int) := by
    have h : gmul a (b ^^^ c) = gmul a b ^^^ gmul a c := gmul_right a b c
    rw [hz2, h, u8x]
  have hnull : ((gmul a b).toNat : Int) = 0 → (a.toNat : Int) = 0 ∨ (b.toNat : Int) = 0 := by
    intro h
    have h0 : gmul a b = 0 := UInt8.toNat_inj.1 (by have : (gmul a b).toNat = 0 := by omega
                                                    rw [this]; rfl)
    rcases gmul_nought a b h0 with h | h
    · left; rw [h]; rfl
    · right; rw [h]; rfl
  have HN := Lib.hid hnull
  clear hz2 hnull
  go_enter Try.func3, Try.ntmps3
  go_wp2_with fail
  refine (mul_any a b _).mono ?_
  rintro e w' ⟨rfl, rfl⟩
  go_wp2_with fail
  refine (wakes_any _).mono ?_
  rintro e w1 ⟨rfl, hb⟩
  go_wp2_with fail
  refine (rmul_any a b _).mono ?_
  rintro e w' ⟨rfl, rfl⟩
  go_wp2_with fail
  refine (mul_any b a _).mono ?_
  rintro e w' ⟨rfl, rfl⟩
  rw [gmul_comm b a]
  go_wp2_with fail
  refine (mul_any (gmul a b) c _).mono ?_
  rintro e w' ⟨rfl, rfl⟩
  go_wp2_with fail
  refine (mul_any b c _).mono ?_
  rintro e w' ⟨rfl, rfl⟩
  go_wp2_with fail
  refine (mul_any a (gmul b c) _).mono ?_
  rintro e w' ⟨rfl, rfl⟩
  rw [← gmul_assoc a b c]
  go_wp2_with fail
  refine (mul_any a z _).mono ?_
  rintro e w' ⟨rfl, rfl⟩
  go_wp2_with fail
  refine (mul_any a c _).mono ?_
  rintro e w' ⟨rfl, rfl⟩
  go_wp2_with fail
  refine (mul_any a 1 _).mono ?_
  rintro e w' ⟨rfl, rfl⟩
  rw [gmul_one]
  by_cases h0 : ((gmul a b).toNat : Int) = 0
  · have t0 : (((gmul a b).toNat : Int) != 0) = false := by rw [bne_eq_false_iff_eq]; exact h0
    rcases HN.out h0 with h | h
    · have t1 : ((a.toNat : Int) == 0) = true := by rw [beq_iff_eq]; exact h
      clear h h0
      go_wp2_with fail
      go_ret
      exact ⟨rfl, hb⟩
    · have t1 : ((b.toNat : Int) == 0) = true := by rw [beq_iff_eq]; exact h
      by_cases h2 : (a.toNat : Int) = 0
      · have t2 : ((a.toNat : Int) == 0) = true := by rw [beq_iff_eq]; exact h2
        clear h h0 h2
        go_wp2_with fail
        go_ret
        exact ⟨rfl, hb⟩
      · have t2 : ((a.toNat : Int) == 0) = false := by rw [beq_eq_false_iff_ne]; exact h2
        clear h h0 h2
        go_wp2_with fail
        go_ret
        exact ⟨rfl, hb⟩
  · have t0 : (((gmul a b).toNat : Int) != 0) = true := by rw [bne_iff_ne]; exact h0
    clear h0
    go_wp2_with fail
    go_ret
    exact ⟨rfl, hb⟩
end Go.Proofs.Ytlfhlnfhmnddkaa
