/- The document's product, and the walk of AesMul. -/
import Derived.Test.YtkedoiikkjeadaaDoorAesT
import Derived.Test.YtkedoiikkjeadaaDoorAesV
import Derived.Test.YtkedoiikkjeadaaDoorBitI
namespace Go.Proofs.YtkedoiikkjeadaaDoor
open Go.RowKit
set_option linter.unusedVariables false
set_option linter.unusedSimpArgs false
theorem m1_lt (a b : Nat) (ha : a < 256) : ∀ k, k ≤ 8 → m1 a b k < 2 ^ 15
  | 0, _ => by simp [m1]
  | k + 1, hk => by
    have ih := m1_lt a b ha k (by omega)
    have h2 : a * 2 ^ k < 2 ^ 15 := by
      have h3 : (2 : Nat) ^ k ≤ 2 ^ 7 := Nat.pow_le_pow_right (by decide) (by omega)
      have h4 : a * 2 ^ k ≤ 255 * 2 ^ 7 := Nat.mul_le_mul (by omega) h3
      omega
    rw [m1]
    split
    · exact Nat.xor_lt_two_pow ih h2
    · exact ih
theorem m2_lt (p : Nat) (hp : p < 2 ^ 15) : ∀ j, m2 p j < 2 ^ 15
  | 0 => hp
  | j + 1 => by
    have ih := m2_lt p hp j
    have h2 : 283 * 2 ^ (6 - j) < 2 ^ 15 := by
      have h3 : (2 : Nat) ^ (6 - j) ≤ 2 ^ 6 := Nat.pow_le_pow_right (by decide) (by omega)
      have h4 : 283 * 2 ^ (6 - j) ≤ 283 * 2 ^ 6 := Nat.mul_le_mul (by omega) h3
      omega
    rw [m2]
    split
    · exact Nat.xor_lt_two_pow ih h2
    · exact ih
set_option maxRecDepth 100000 in
theorem rmul_any (a b : UInt8) (w : World) : Calls Tryd.prog 64 #[.int .u8 (a.toNat : Int), .int .u8 (b.toNat : Int)] w (RetY (gmul a b) w) := by
  have hG := Lib.hid (rmul_gmul a b)
  go_enter Tryd.func64, Tryd.ntmps64
  go_wp2_with fail
  go_loopw [5, 6] (fun p i wr => ∃ k m : Nat, k ≤ 8 ∧ i = .int .i64 (k : Int) ∧ p = .int .i64 (m : Int) ∧ m = m1 a.toNat b.toNat k ∧ m < 32768 ∧ w = wr) (fun _ i _ => 8 - (intOf i).toNat)
  case atStart => exact ⟨0, 0, by omega, rfl, rfl, rfl, by omega, rfl⟩
  case round =>
    obtain ⟨k, m, hk, rfl, rfl, hm, hml, rfl⟩ := hrel
    have HM := Lib.hid hm
    clear hm
    have ha := a.toNat_lt
    have hb := b.toNat_lt
    by_cases hlt : k < 8
    · have hbit := u8n_bit b.toNat k hb
      cases ht : b.toNat.testBit k with
      | true =>
        rw [ht] at hbit
        have hb1 : (bits .and .u8 ((b.toNat : Int) / (2 : Int) ^ k) (1 : Int) == (1 : Int)) = true := by rw [hbit]; rfl
        have HT := Lib.hid ht
        clear hbit ht
        have hs2 : a.toNat * 2 ^ k < 2 ^ 15 := by
          have h3 : (2 : Nat) ^ k ≤ 2 ^ 7 := Nat.pow_le_pow_right (by decide) (by omega)
          have h4 : a.toNat * 2 ^ k ≤ 255 * 2 ^ 7 := Nat.mul_le_mul (by omega) h3
          omega
        obtain ⟨z, hz, hz2⟩ : ∃ z : Nat, bits .xor .i64 (m : Int) (wrap64 ((a.toNat : Int) * (2 : Int) ^ k)) = (z : Int) ∧ z = m1 a.toNat b.toNat (k + 1) := ⟨_, by rw [w64_pow _ _ (by omega), i64n_xor _ _ (by omega) (by omega)], by rw [m1, HT.out, ← HM.out]; rfl⟩
        have hzl : z < 32768 := by rw [hz2]; exact m1_lt a.toNat b.toNat ha (k + 1) (by omega)
        have HZ := Lib.hid hz2
        clear hz2 hs2
        go_wp2_with fail
        go_roundw
        case rel => exact ⟨k + 1, z, by omega, by go_num, rfl, HZ.out, hzl, (by first | rfl | trivial)⟩
        case measure => simp [intOf]; omega
      | false =>
        rw [ht] at hbit
        have hb1 : (bits .and .u8 ((b.toNat : Int) / (2 : Int) ^ k) (1 : Int) == (1 : Int)) = false := by rw [hbit]; rfl
        have HT := Lib.hid ht
        clear hbit ht
        go_wp2_with fail
        go_roundw
        case rel => exact ⟨k + 1, m, by omega, by go_num, rfl, by rw [m1, HT.out]; exact HM.out, hml, (by first | rfl | trivial)⟩
        case measure => simp [intOf]; omega
    · have hkm : k = 8 := by omega
      subst hkm
      go_wp2_with fail
      rw [show ((8 : Nat) : Int) = (8 : Int) from rfl]
      have HM0 := HM
      have hml0 := hml
      clear HM hml hk hlt
      go_loopw [5, 7] (fun p i wr => ∃ j d q : Nat, j ≤ 7 ∧ d = 14 - j ∧ i = .int .i64 (d : Int) ∧ p = .int .i64 (q : Int) ∧ q = m2 (m1 a.toNat b.toNat 8) j ∧ q < 32768 ∧ w = wr) (fun _ i _ => (intOf i).toNat)
      case atStart => exact ⟨0, 14, m, by omega, rfl, rfl, rfl, HM0.out, hml0, rfl⟩
      case round =>
        obtain ⟨j, d, q, hj, hd, rfl, rfl, hq, hql, rfl⟩ := hrel
        have HQ := Lib.hid hq
        have HD := Lib.hid hd
        have hd14 : d ≤ 14 := by omega
        have hd7 : 7 ≤ d := by omega
        clear hq hd
        by_cases hlt : j < 7
        · have hdI : (8 : Int) ≤ (d : Int) := by have := HD.out; omega
          have hd1 : (d : Int) - 1 = ((d - 1 : Nat) : Int) := by omega
          obtain ⟨d1, hd1e⟩ : ∃ d1 : Nat, d - 1 = d1 := ⟨_, rfl⟩
          rw [hd1e] at hd1
          have hbit := i64n_bit q d
          cases ht : q.testBit d with
          | true =>
            rw [ht] at hbit
            have hb1 : (bits .and .i64 ((q : Int) / (2 : Int) ^ d) (1 : Int) == (1 : Int)) = true := by rw [hbit]; rfl
            have HT := Lib.hid ht
            clear hbit ht
            obtain ⟨f, hf⟩ : ∃ f : Nat, d - 8 = f := ⟨_, rfl⟩
            have hf8 : (d : Int) - 8 = (f : Int) := by omega
            have hf6 : f = 6 - j := by have := HD.out; omega
            have hs2 : 283 * 2 ^ f < 2 ^ 15 := by
              have h3 : (2 : Nat) ^ f ≤ 2 ^ 6 := Nat.pow_le_pow_right (by decide) (by omega)
              have h4 : 283 * 2 ^ f ≤ 283 * 2 ^ 6 := Nat.mul_le_mul (by omega) h3
              omega
            obtain ⟨z, hz, hz2⟩ : ∃ z : Nat, bits .xor .i64 (q : Int) (wrap64 ((283 : Int) * (2 : Int) ^ f)) = (z : Int) ∧ z = m2 (m1 a.toNat b.toNat 8) (j + 1) := ⟨_, by
              have h5 := w64_pow 283 f (by omega)
              rw [show ((283 : Nat) : Int) = (283 : Int) from rfl] at h5
              rw [h5, i64n_xor _ _ (by omega) (by omega)], by
              have h6 := HT.out
              rw [HD.out, HQ.out] at h6
              rw [m2, h6, ← HQ.out, hf6]
              rfl⟩
            have hzl : z < 32768 := by rw [hz2]; exact m2_lt _ (m1_lt a.toNat b.toNat ha 8 (by omega)) (j + 1)
            have HZ := Lib.hid hz2
            have hf6' : f ≤ 6 := by omega
            clear hz2 hs2 hf6 hf
            have HE := Lib.hid hd1e
            clear hd1e
            go_wp2_with fail
            go_roundw
            case rel => exact ⟨j + 1, d1, z, by omega, by have := HE.out; have := HD.out; omega, rfl, rfl, HZ.out, hzl, (by first | rfl | trivial)⟩
            case measure =>
              have := HE.out
              simp [intOf]
              omega
          | false =>
            rw [ht] at hbit
            have hb1 : (bits .and .i64 ((q : Int) / (2 : Int) ^ d) (1 : Int) == (1 : Int)) = false := by rw [hbit]; rfl
            have HT := Lib.hid ht
            clear hbit ht
            have HE := Lib.hid hd1e
            clear hd1e
            go_wp2_with fail
            go_roundw
            case rel => exact ⟨j + 1, d1, q, by omega, by have := HE.out; have := HD.out; omega, rfl, rfl, by
              have h6 := HT.out
              rw [HD.out, HQ.out] at h6
              rw [m2, h6]
              exact HQ.out, hql, (by first | rfl | trivial)⟩
            case measure =>
              have := HE.out
              simp [intOf]
              omega
        · have hjm : j = 7 := by omega
          subst hjm
          have hdI : ¬ (8 : Int) ≤ (d : Int) := by have := HD.out; omega
          go_wp2_with fail
          go_ret
          refine ret_y ?_
          rw [← hG.out, rmul, UInt8.toNat_ofNat', ← HQ.out]
          omega
end Go.Proofs.YtkedoiikkjeadaaDoor
