/- The contracts of the field's functions. -/
import Derived.Test.YtkedoiikkjeadaaDoorGen
import Derived.Test.YtkedoiikkjeadaaDoorAesP
namespace Go.Proofs.YtkedoiikkjeadaaDoor
open Go.RowKit
set_option linter.unusedVariables false
set_option linter.unusedSimpArgs false
def RetY (b : UInt8) (w : World) (e : Ending) (w' : World) : Prop := e = .returned (.int .u8 (b.toNat : Int)) ∧ w = w'
theorem ret_y {b : UInt8} {n : Int} {w : World} (h : n = (b.toNat : Int)) : RetY b w (.returned (.int .u8 n)) w := by
  subst h
  exact ⟨rfl, rfl⟩
set_option maxRecDepth 100000 in
theorem double_any (a : UInt8) (w : World) : Calls Tryd.prog 71 #[.int .u8 (a.toNat : Int)] w (RetY (dbl a) w) := by
  have ha := a.toNat_lt
  by_cases h : 128 ≤ a.toNat
  · obtain ⟨r, h1, hr⟩ : ∃ r : UInt8, bits .xor .u8 ((a.toNat : Int) * (2 : Int) % (256 : Int)) (27 : Int) = (r.toNat : Int) ∧ r = dbl a := ⟨_, dbl_hi a h, rfl⟩
    have HR := Lib.hid hr
    clear hr
    have hI : (128 : Int) ≤ (a.toNat : Int) := by omega
    clear h
    go_enter Tryd.func71, Tryd.ntmps71
    go_wp2
    go_ret
    rw [← HR.out]
    exact ret_y rfl
  · have hI : ¬ (128 : Int) ≤ (a.toNat : Int) := by omega
    have H1 := Lib.hid (dbl_lo a h)
    go_enter Tryd.func71, Tryd.ntmps71
    go_wp2
    go_ret
    exact ret_y H1.out
set_option maxRecDepth 100000 in
theorem mul_any (a b : UInt8) (w : World) : Calls Tryd.prog 104 #[.int .u8 (a.toNat : Int), .int .u8 (b.toNat : Int)] w (RetY (gmul a b) w) := by
  go_enter Tryd.func104, Tryd.ntmps104
  go_wp2
  go_loopw [0, 1, 5, 6] (fun x y p i wr => ∃ k : Nat, ∃ a' b' p' : UInt8, k ≤ 8 ∧ i = .int .i64 (k : Int) ∧ x = .int .u8 (a'.toNat : Int) ∧ y = .int .u8 (b'.toNat : Int) ∧ p = .int .u8 (p'.toNat : Int) ∧ mulL (8 - k) a' b' p' = gmul a b ∧ w = wr) (fun _ _ _ i _ => 8 - (intOf i).toNat)
  case atStart => exact ⟨0, a, b, 0, by omega, rfl, rfl, rfl, rfl, rfl, rfl⟩
  case round =>
    obtain ⟨k, a', b', p', hk, rfl, rfl, rfl, rfl, hm, rfl⟩ := hrel
    have HM := Lib.hid hm
    clear hm
    have ha := a'.toNat_lt
    have hb := b'.toNat_lt
    by_cases hlt : k < 8
    · have hs := shr1 b'
      have HS := Lib.hid hs
      clear hs
      by_cases h1 : b'.toNat % 2 = 1
      · have hb1 : (bits .and .u8 (b'.toNat : Int) (1 : Int) == (1 : Int)) = true := by rw [bit0, beq_iff_eq]; omega
        have H1 := Lib.hid h1
        clear h1
        go_wp2_with (go_at_call 71; refine (double_any _ _).mono ?_; rintro e w' ⟨rfl, rfl⟩)
        go_roundw
        case rel =>
          refine ⟨k + 1, dbl a', b' >>> 1, p' ^^^ a', by omega, by go_num, rfl, by rw [HS.out], by rw [u8x], ?_, (by first | rfl | trivial)⟩
          have := HM.out
          rw [show 8 - k = (8 - (k + 1)) + 1 by omega, mulL, if_pos H1.out] at this
          exact this
        case measure => simp [intOf]; omega
      · have hb1 : (bits .and .u8 (b'.toNat : Int) (1 : Int) == (1 : Int)) = false := by rw [bit0, beq_eq_false_iff_ne]; omega
        have H1 := Lib.hid h1
        clear h1
        go_wp2_with (go_at_call 71; refine (double_any _ _).mono ?_; rintro e w' ⟨rfl, rfl⟩)
        go_roundw
        case rel =>
          refine ⟨k + 1, dbl a', b' >>> 1, p', by omega, by go_num, rfl, by rw [HS.out], rfl, ?_, (by first | rfl | trivial)⟩
          have := HM.out
          rw [show 8 - k = (8 - (k + 1)) + 1 by omega, mulL, if_neg H1.out] at this
          exact this
        case measure => simp [intOf]; omega
    · have hkm : k = 8 := by omega
      subst hkm
      go_wp2
      go_ret
      refine ret_y ?_
      have := HM.out
      rw [← this]
      rfl
set_option maxRecDepth 100000 in
theorem inverse_any (b : UInt8) (w : World) : Calls Tryd.prog 103 #[.int .u8 (b.toNat : Int)] w (RetY (ginv b) w) := by
  go_enter Tryd.func103, Tryd.ntmps103
  go_wp2
  go_loopw [0, 3, 4] (fun x p i wr => ∃ k : Nat, ∃ b' p' : UInt8, k ≤ 7 ∧ i = .int .i64 (k : Int) ∧ x = .int .u8 (b'.toNat : Int) ∧ p = .int .u8 (p'.toNat : Int) ∧ invL (7 - k) b' p' = ginv b ∧ w = wr) (fun _ _ i _ => 7 - (intOf i).toNat)
  case atStart => exact ⟨0, b, 1, by omega, rfl, rfl, rfl, rfl, rfl⟩
  case round =>
    obtain ⟨k, b', p', hk, rfl, rfl, rfl, hm, rfl⟩ := hrel
    have HM := Lib.hid hm
    clear hm
    by_cases hlt : k < 7
    · go_wp2_with fail
      refine (mul_any b' b' _).mono ?_
      rintro e w' ⟨rfl, rfl⟩
      go_wp2_with fail
      refine (mul_any p' (gmul b' b') _).mono ?_
      rintro e w' ⟨rfl, rfl⟩
      go_wp2_with fail
      go_roundw
      case rel =>
        refine ⟨k + 1, gmul b' b', gmul p' (gmul b' b'), by omega, by go_num, rfl, rfl, ?_, (by first | rfl | trivial)⟩
        have := HM.out
        rw [show 7 - k = (7 - (k + 1)) + 1 by omega, invL] at this
        exact this
      case measure => simp [intOf]; omega
    · have hkm : k = 7 := by omega
      subst hkm
      go_wp2
      go_ret
      refine ret_y ?_
      rw [← HM.out]
      rfl
set_option maxRecDepth 100000 in
theorem rotl8_any (b : UInt8) (n : Int) (w : World) (h0 : 0 ≤ n) (h7 : n ≤ 7) : Calls Tryd.prog 100 #[.int .u8 (b.toNat : Int), .int .i64 n] w (RetY (rotl8 b n.toNat) w) := by
  obtain ⟨m, rfl⟩ := Int.eq_ofNat_of_zero_le h0
  have hb := b.toNat_lt
  have hm : m < 8 := by omega
  have e7 : bits .and .u64 (m : Int) (7 : Int) = (m : Int) := by
    have h := u64_and_nat m 7 (by omega) (by omega)
    rw [nat_mask3, Nat.mod_eq_of_lt hm] at h
    exact h
  go_enter Tryd.func100, Tryd.ntmps100
  go_wp2
  go_ret
  refine ret_y ?_
  rw [Int.toNat_natCast]
  exact rot8_val b m (by omega)
set_option maxRecDepth 100000 in
theorem spread_any (b : UInt8) (w : World) : Calls Tryd.prog 90 #[.int .u8 (b.toNat : Int)] w (RetY (spr b) w) := by
  have h99 : bits .xor .u8 (b.toNat : Int) (99 : Int) = ((b ^^^ 99).toNat : Int) := by
    rw [show (99 : Int) = ((99 : UInt8).toNat : Int) by rfl, u8x]
  obtain ⟨s0, hs0, hs1⟩ : ∃ s0 : UInt8, bits .xor .u8 (b.toNat : Int) (99 : Int) = (s0.toNat : Int) ∧ s0 = b ^^^ 99 := ⟨_, h99, rfl⟩
  have HS1 := Lib.hid hs1
  clear h99 hs1
  go_enter Tryd.func90, Tryd.ntmps90
  go_wp2
  clear hs0
  go_loopw [3, 7] (fun p i wr => ∃ k : Nat, ∃ p' : UInt8, k ≤ 4 ∧ i = .int .i64 (k : Int) ∧ p = .int .u8 (p'.toNat : Int) ∧ sprL (4 - k) k b p' = spr b ∧ w = wr) (fun _ i _ => 4 - (intOf i).toNat)
  case atStart => exact ⟨0, s0, by omega, rfl, rfl, by rw [HS1.out]; rfl, rfl⟩
  case round =>
    obtain ⟨k, p', hk, rfl, rfl, hm, rfl⟩ := hrel
    have HM := Lib.hid hm
    clear hm
    by_cases hlt : k < 4
    · go_wp2_with fail
      refine (rotl8_any b ((k : Int) + 1) _ (by omega) (by omega)).mono ?_
      rw [show ((k : Int) + 1).toNat = k + 1 by omega]
      rintro e w' ⟨rfl, rfl⟩
      obtain ⟨q, hq, hq2⟩ : ∃ q : UInt8, bits .xor .u8 (p'.toNat : Int) ((rotl8 b (k + 1)).toNat : Int) = (q.toNat : Int) ∧ q = p' ^^^ rotl8 b (k + 1) := ⟨_, u8x _ _, rfl⟩
      have HQ := Lib.hid hq2
      clear hq2
      go_wp2_with fail
      go_roundw
      case rel =>
        refine ⟨k + 1, q, by omega, by go_num, rfl, ?_, (by first | rfl | trivial)⟩
        have := HM.out
        rw [show 4 - k = (4 - (k + 1)) + 1 by omega, sprL, ← HQ.out] at this
        exact this
      case measure => simp [intOf]; omega
    · have hkm : k = 4 := by omega
      subst hkm
      go_wp2
      go_ret
      refine ret_y ?_
      rw [← HM.out]
      rfl
set_option maxRecDepth 100000 in
theorem sub_any (b : UInt8) (w : World) : Calls Tryd.prog 99 #[.int .u8 (b.toNat : Int)] w (RetY (gsub b) w) := by
  go_enter Tryd.func99, Tryd.ntmps99
  go_wp2_with fail
  refine (inverse_any b _).mono ?_
  rintro e w' ⟨rfl, rfl⟩
  go_wp2_with fail
  refine (spread_any _ _).mono ?_
  rintro e w' ⟨rfl, rfl⟩
  go_wp2_with fail
  go_ret
  exact ret_y rfl
end Go.Proofs.YtkedoiikkjeadaaDoor
