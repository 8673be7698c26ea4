/- The contracts of fits, may and the document's Wrong. -/
import Derived.Test.YtflofbimecnakaaGreatCcmP
namespace Go.Proofs.YtflofbimecnakaaGreat
open Go.RowKit
set_option linter.unusedVariables false
set_option linter.unusedSimpArgs false
set_option maxRecDepth 100000 in
theorem fits_low (v n : Int) (hv : v = 7 ∨ v = 8 ∨ v = 9 ∨ v = 10 ∨ v = 11 ∨ v = 12) (w : World) : Calls Tryz.prog 164 #[.int .i64 v, .int .i64 n] w (RetBq (decide (0 ≤ n ∧ n ≤ 70000)) w) := by
  by_cases h0 : 0 ≤ n
  · by_cases h1 : n ≤ 70000
    · rw [decide_eq_true ⟨h0, h1⟩]
      rcases hv with rfl | rfl | rfl | rfl | rfl | rfl
      all_goals
        go_enter Tryz.func164, Tryz.ntmps164
        go_wp2_with fail
        go_ret
        exact ⟨rfl, rfl⟩
    · rw [decide_eq_false (by omega)]
      rcases hv with rfl | rfl | rfl | rfl | rfl | rfl
      all_goals
        go_enter Tryz.func164, Tryz.ntmps164
        go_wp2_with fail
        go_ret
        exact ⟨rfl, rfl⟩
  · rw [decide_eq_false (by omega)]
    rcases hv with rfl | rfl | rfl | rfl | rfl | rfl
    all_goals
      go_enter Tryz.func164, Tryz.ntmps164
      go_wp2_with fail
      go_ret
      exact ⟨rfl, rfl⟩
set_option maxRecDepth 100000 in
theorem fits_top (n : Int) (w : World) : Calls Tryz.prog 164 #[.int .i64 13, .int .i64 n] w (RetBq (decide (0 ≤ n ∧ n < 65536)) w) := by
  by_cases h1 : 65536 ≤ n
  · rw [decide_eq_false (by omega)]
    go_enter Tryz.func164, Tryz.ntmps164
    go_wp2_with fail
    go_ret
    exact ⟨rfl, rfl⟩
  · by_cases h0 : 0 ≤ n
    · rw [decide_eq_true ⟨h0, by omega⟩]
      have h2 : n ≤ 70000 := by omega
      go_enter Tryz.func164, Tryz.ntmps164
      go_wp2_with fail
      go_ret
      exact ⟨rfl, rfl⟩
    · rw [decide_eq_false (by omega)]
      go_enter Tryz.func164, Tryz.ntmps164
      go_wp2_with fail
      go_ret
      exact ⟨rfl, rfl⟩
theorem fits_any (v : Nat) (n : Int) (h7 : 7 ≤ v) (h13 : v ≤ 13) (w : World) : Calls Tryz.prog 164 #[.int .i64 (v : Int), .int .i64 n] w (RetBq (ccFits v n) w) := by
  by_cases h : v = 13
  · subst h
    have : ccFits 13 n = decide (0 ≤ n ∧ n < 65536) := by
      unfold ccFits
      exact decide_eq_decide.2 (by omega)
    rw [this]
    exact fits_top n w
  · have : ccFits v n = decide (0 ≤ n ∧ n ≤ 70000) := by
      unfold ccFits
      exact decide_eq_decide.2 (by omega)
    rw [this]
    exact fits_low (v : Int) n (by omega) w
/-- what s says of a size -/
theorem ccE_key {k v a : Nat} {s n : Int} (h1 : k ≠ 16) (h2 : k ≠ 24) (h3 : k ≠ 32) : ccE k v a s n = 3 := by rw [ccE, keyOk_no h1 h2 h3]; rfl
theorem ccE_iv {k v a : Nat} {s n : Int} (hk : k = 16 ∨ k = 24 ∨ k = 32) (h : v < 7 ∨ 13 < v) : ccE k v a s n = 4 := by rw [ccE, if_pos (keyOk_yes hk), if_pos h]
theorem ccE_tag {k v a : Nat} {s n : Int} (hk : k = 16 ∨ k = 24 ∨ k = 32) (h : ¬ (v < 7 ∨ 13 < v)) (hs : s < 4 ∨ 16 < s ∨ s % 2 ≠ 0) : ccE k v a s n = 5 := by rw [ccE, if_pos (keyOk_yes hk), if_neg h, if_pos hs]
theorem ccE_aad {k v a : Nat} {s n : Int} (hk : k = 16 ∨ k = 24 ∨ k = 32) (h : ¬ (v < 7 ∨ 13 < v)) (hs : ¬ (s < 4 ∨ 16 < s ∨ s % 2 ≠ 0)) (ha : 70000 < a) : ccE k v a s n = 6 := by rw [ccE, if_pos (keyOk_yes hk), if_neg h, if_neg hs, if_pos (.inl ha)]
theorem ccE_fits {k v a : Nat} {s n : Int} (hk : k = 16 ∨ k = 24 ∨ k = 32) (h : ¬ (v < 7 ∨ 13 < v)) (hs : ¬ (s < 4 ∨ 16 < s ∨ s % 2 ≠ 0)) (ha : ¬ 70000 < a) : ccE k v a s n = if ccFits v n then 0 else 6 := by
  rw [ccE, if_pos (keyOk_yes hk), if_neg h, if_neg hs]
  cases ccFits v n
  · rw [if_pos (.inr rfl)]; rfl
  · rw [if_neg (by intro hc; rcases hc with hc | hc; exact ha hc; cases hc)]; rfl
set_option maxRecDepth 100000 in
set_option maxHeartbeats 1600000 in
theorem may_16 (key nonce aad : ByteArray) (s n : Int) (w : World) (h : key.size = 16) : Calls Tryz.prog 161 #[.string key, .string nonce, .string aad, .int .i64 s, .int .i64 n] w (RetI64 (ccE key.size nonce.size aad.size s n) w) := by
  have e16 : ((key.size : Int) != 16) = false := by rw [bne_eq_false_iff_eq]; omega
  have hk : key.size = 16 ∨ key.size = 24 ∨ key.size = 32 := by omega
  clear h
  by_cases hv : nonce.size < 7 ∨ 13 < nonce.size
  · rw [ccE_iv hk hv]
    clear hk
    by_cases hv1 : nonce.size < 7
    · have i1 : (nonce.size : Int) < 7 := by omega
      clear hv hv1
      go_enter Tryz.func161, Tryz.ntmps161
      go_wp2_with fail
      go_ret
      exact ⟨rfl, rfl⟩
    · have i1 : ¬ (nonce.size : Int) < 7 := by omega
      have i2 : (13 : Int) < (nonce.size : Int) := by omega
      clear hv hv1
      go_enter Tryz.func161, Tryz.ntmps161
      go_wp2_with fail
      go_ret
      exact ⟨rfl, rfl⟩
  · have i1 : ¬ (nonce.size : Int) < 7 := by omega
    have i2 : ¬ (13 : Int) < (nonce.size : Int) := by omega
    have v7 : 7 ≤ nonce.size := by omega
    have v13 : nonce.size ≤ 13 := by omega
    by_cases hs : s < 4 ∨ 16 < s ∨ s % 2 ≠ 0
    · rw [ccE_tag hk hv hs]
      clear hk hv v7 v13
      by_cases hs1 : s < 4
      · clear hs
        go_enter Tryz.func161, Tryz.ntmps161
        go_wp2_with fail
        go_ret
        exact ⟨rfl, rfl⟩
      · by_cases hs2 : 16 < s
        · clear hs
          go_enter Tryz.func161, Tryz.ntmps161
          go_wp2_with fail
          go_ret
          exact ⟨rfl, rfl⟩
        · obtain ⟨m, rfl⟩ := Int.eq_ofNat_of_zero_le (a := s) (by omega)
          have r3 : (m : Int).tmod 2 = 1 := tmod_nat m 2 1 (by omega)
          have r4 : (m : Int) % 2 = 1 := by omega
          clear hs
          go_enter Tryz.func161, Tryz.ntmps161
          go_wp2_with fail
          go_ret
          exact ⟨rfl, rfl⟩
    · obtain ⟨m, rfl⟩ := Int.eq_ofNat_of_zero_le (a := s) (by omega)
      have s1 : ¬ (m : Int) < 4 := by omega
      have s2 : ¬ (16 : Int) < (m : Int) := by omega
      have r3 : (m : Int).tmod 2 = 0 := tmod_nat m 2 0 (by omega)
      have r4 : (m : Int) % 2 = 0 := by omega
      by_cases ha : 70000 < aad.size
      · rw [ccE_aad hk hv hs ha]
        have a1 : (70000 : Int) < (aad.size : Int) := by omega
        clear hk hv v7 v13 hs ha
        go_enter Tryz.func161, Tryz.ntmps161
        go_wp2_with fail
        go_ret
        exact ⟨rfl, rfl⟩
      · rw [ccE_fits hk hv hs ha]
        have a1 : ¬ (70000 : Int) < (aad.size : Int) := by omega
        obtain ⟨b, hb⟩ : ∃ b, ccFits nonce.size n = b := ⟨_, rfl⟩
        have HB := Lib.hid hb
        rw [hb]
        clear hk hv hs ha hb
        cases b
        · show Calls _ _ _ _ (RetI64 6 w)
          go_enter Tryz.func161, Tryz.ntmps161
          go_wp2_with fail
          refine (fits_any nonce.size n v7 v13 _).mono ?_
          rintro e w1 ⟨rfl, rfl⟩
          rw [HB.out]
          go_wp2_with fail
          go_ret
          exact ⟨rfl, rfl⟩
        · show Calls _ _ _ _ (RetI64 0 w)
          go_enter Tryz.func161, Tryz.ntmps161
          go_wp2_with fail
          refine (fits_any nonce.size n v7 v13 _).mono ?_
          rintro e w1 ⟨rfl, rfl⟩
          rw [HB.out]
          go_wp2_with fail
          go_ret
          exact ⟨rfl, rfl⟩
set_option maxRecDepth 100000 in
set_option maxHeartbeats 1600000 in
theorem may_24 (key nonce aad : ByteArray) (s n : Int) (w : World) (h : key.size = 24) : Calls Tryz.prog 161 #[.string key, .string nonce, .string aad, .int .i64 s, .int .i64 n] w (RetI64 (ccE key.size nonce.size aad.size s n) w) := by
  have e16 : ((key.size : Int) != 16) = true := by rw [bne_iff_ne]; omega
  have e24 : ((key.size : Int) != 24) = false := by rw [bne_eq_false_iff_eq]; omega
  have hk : key.size = 16 ∨ key.size = 24 ∨ key.size = 32 := by omega
  clear h
  by_cases hv : nonce.size < 7 ∨ 13 < nonce.size
  · rw [ccE_iv hk hv]
    clear hk
    by_cases hv1 : nonce.size < 7
    · have i1 : (nonce.size : Int) < 7 := by omega
      clear hv hv1
      go_enter Tryz.func161, Tryz.ntmps161
      go_wp2_with fail
      go_ret
      exact ⟨rfl, rfl⟩
    · have i1 : ¬ (nonce.size : Int) < 7 := by omega
      have i2 : (13 : Int) < (nonce.size : Int) := by omega
      clear hv hv1
      go_enter Tryz.func161, Tryz.ntmps161
      go_wp2_with fail
      go_ret
      exact ⟨rfl, rfl⟩
  · have i1 : ¬ (nonce.size : Int) < 7 := by omega
    have i2 : ¬ (13 : Int) < (nonce.size : Int) := by omega
    have v7 : 7 ≤ nonce.size := by omega
    have v13 : nonce.size ≤ 13 := by omega
    by_cases hs : s < 4 ∨ 16 < s ∨ s % 2 ≠ 0
    · rw [ccE_tag hk hv hs]
      clear hk hv v7 v13
      by_cases hs1 : s < 4
      · clear hs
        go_enter Tryz.func161, Tryz.ntmps161
        go_wp2_with fail
        go_ret
        exact ⟨rfl, rfl⟩
      · by_cases hs2 : 16 < s
        · clear hs
          go_enter Tryz.func161, Tryz.ntmps161
          go_wp2_with fail
          go_ret
          exact ⟨rfl, rfl⟩
        · obtain ⟨m, rfl⟩ := Int.eq_ofNat_of_zero_le (a := s) (by omega)
          have r3 : (m : Int).tmod 2 = 1 := tmod_nat m 2 1 (by omega)
          have r4 : (m : Int) % 2 = 1 := by omega
          clear hs
          go_enter Tryz.func161, Tryz.ntmps161
          go_wp2_with fail
          go_ret
          exact ⟨rfl, rfl⟩
    · obtain ⟨m, rfl⟩ := Int.eq_ofNat_of_zero_le (a := s) (by omega)
      have s1 : ¬ (m : Int) < 4 := by omega
      have s2 : ¬ (16 : Int) < (m : Int) := by omega
      have r3 : (m : Int).tmod 2 = 0 := tmod_nat m 2 0 (by omega)
      have r4 : (m : Int) % 2 = 0 := by omega
      by_cases ha : 70000 < aad.size
      · rw [ccE_aad hk hv hs ha]
        have a1 : (70000 : Int) < (aad.size : Int) := by omega
        clear hk hv v7 v13 hs ha
        go_enter Tryz.func161, Tryz.ntmps161
        go_wp2_with fail
        go_ret
        exact ⟨rfl, rfl⟩
      · rw [ccE_fits hk hv hs ha]
        have a1 : ¬ (70000 : Int) < (aad.size : Int) := by omega
        obtain ⟨b, hb⟩ : ∃ b, ccFits nonce.size n = b := ⟨_, rfl⟩
        have HB := Lib.hid hb
        rw [hb]
        clear hk hv hs ha hb
        cases b
        · show Calls _ _ _ _ (RetI64 6 w)
          go_enter Tryz.func161, Tryz.ntmps161
          go_wp2_with fail
          refine (fits_any nonce.size n v7 v13 _).mono ?_
          rintro e w1 ⟨rfl, rfl⟩
          rw [HB.out]
          go_wp2_with fail
          go_ret
          exact ⟨rfl, rfl⟩
        · show Calls _ _ _ _ (RetI64 0 w)
          go_enter Tryz.func161, Tryz.ntmps161
          go_wp2_with fail
          refine (fits_any nonce.size n v7 v13 _).mono ?_
          rintro e w1 ⟨rfl, rfl⟩
          rw [HB.out]
          go_wp2_with fail
          go_ret
          exact ⟨rfl, rfl⟩
set_option maxRecDepth 100000 in
set_option maxHeartbeats 1600000 in
theorem may_32 (key nonce aad : ByteArray) (s n : Int) (w : World) (h : key.size = 32) : Calls Tryz.prog 161 #[.string key, .string nonce, .string aad, .int .i64 s, .int .i64 n] w (RetI64 (ccE key.size nonce.size aad.size s n) w) := by
  have e16 : ((key.size : Int) != 16) = true := by rw [bne_iff_ne]; omega
  have e24 : ((key.size : Int) != 24) = true := by rw [bne_iff_ne]; omega
  have e32 : ((key.size : Int) != 32) = false := by rw [bne_eq_false_iff_eq]; omega
  have hk : key.size = 16 ∨ key.size = 24 ∨ key.size = 32 := by omega
  clear h
  by_cases hv : nonce.size < 7 ∨ 13 < nonce.size
  · rw [ccE_iv hk hv]
    clear hk
    by_cases hv1 : nonce.size < 7
    · have i1 : (nonce.size : Int) < 7 := by omega
      clear hv hv1
      go_enter Tryz.func161, Tryz.ntmps161
      go_wp2_with fail
      go_ret
      exact ⟨rfl, rfl⟩
    · have i1 : ¬ (nonce.size : Int) < 7 := by omega
      have i2 : (13 : Int) < (nonce.size : Int) := by omega
      clear hv hv1
      go_enter Tryz.func161, Tryz.ntmps161
      go_wp2_with fail
      go_ret
      exact ⟨rfl, rfl⟩
  · have i1 : ¬ (nonce.size : Int) < 7 := by omega
    have i2 : ¬ (13 : Int) < (nonce.size : Int) := by omega
    have v7 : 7 ≤ nonce.size := by omega
    have v13 : nonce.size ≤ 13 := by omega
    by_cases hs : s < 4 ∨ 16 < s ∨ s % 2 ≠ 0
    · rw [ccE_tag hk hv hs]
      clear hk hv v7 v13
      by_cases hs1 : s < 4
      · clear hs
        go_enter Tryz.func161, Tryz.ntmps161
        go_wp2_with fail
        go_ret
        exact ⟨rfl, rfl⟩
      · by_cases hs2 : 16 < s
        · clear hs
          go_enter Tryz.func161, Tryz.ntmps161
          go_wp2_with fail
          go_ret
          exact ⟨rfl, rfl⟩
        · obtain ⟨m, rfl⟩ := Int.eq_ofNat_of_zero_le (a := s) (by omega)
          have r3 : (m : Int).tmod 2 = 1 := tmod_nat m 2 1 (by omega)
          have r4 : (m : Int) % 2 = 1 := by omega
          clear hs
          go_enter Tryz.func161, Tryz.ntmps161
          go_wp2_with fail
          go_ret
          exact ⟨rfl, rfl⟩
    · obtain ⟨m, rfl⟩ := Int.eq_ofNat_of_zero_le (a := s) (by omega)
      have s1 : ¬ (m : Int) < 4 := by omega
      have s2 : ¬ (16 : Int) < (m : Int) := by omega
      have r3 : (m : Int).tmod 2 = 0 := tmod_nat m 2 0 (by omega)
      have r4 : (m : Int) % 2 = 0 := by omega
      by_cases ha : 70000 < aad.size
      · rw [ccE_aad hk hv hs ha]
        have a1 : (70000 : Int) < (aad.size : Int) := by omega
        clear hk hv v7 v13 hs ha
        go_enter Tryz.func161, Tryz.ntmps161
        go_wp2_with fail
        go_ret
        exact ⟨rfl, rfl⟩
      · rw [ccE_fits hk hv hs ha]
        have a1 : ¬ (70000 : Int) < (aad.size : Int) := by omega
        obtain ⟨b, hb⟩ : ∃ b, ccFits nonce.size n = b := ⟨_, rfl⟩
        have HB := Lib.hid hb
        rw [hb]
        clear hk hv hs ha hb
        cases b
        · show Calls _ _ _ _ (RetI64 6 w)
          go_enter Tryz.func161, Tryz.ntmps161
          go_wp2_with fail
          refine (fits_any nonce.size n v7 v13 _).mono ?_
          rintro e w1 ⟨rfl, rfl⟩
          rw [HB.out]
          go_wp2_with fail
          go_ret
          exact ⟨rfl, rfl⟩
        · show Calls _ _ _ _ (RetI64 0 w)
          go_enter Tryz.func161, Tryz.ntmps161
          go_wp2_with fail
          refine (fits_any nonce.size n v7 v13 _).mono ?_
          rintro e w1 ⟨rfl, rfl⟩
          rw [HB.out]
          go_wp2_with fail
          go_ret
          exact ⟨rfl, rfl⟩
set_option maxRecDepth 100000 in
set_option maxHeartbeats 1600000 in
theorem ccmay_any (key nonce aad : ByteArray) (s n : Int) (w : World) : Calls Tryz.prog 161 #[.string key, .string nonce, .string aad, .int .i64 s, .int .i64 n] w (RetI64 (ccE key.size nonce.size aad.size s n) w) := by
  rcases key_cases key with (h | h | h) | ⟨h1, h2, h3⟩
  · exact may_16 key nonce aad s n w h
  · exact may_24 key nonce aad s n w h
  · exact may_32 key nonce aad s n w h
  · rw [ccE_key h1 h2 h3]
    have e1 : ((key.size : Int) != 16) = true := by rw [bne_iff_ne]; omega
    have e2 : ((key.size : Int) != 24) = true := by rw [bne_iff_ne]; omega
    have e3 : ((key.size : Int) != 32) = true := by rw [bne_iff_ne]; omega
    clear h1 h2 h3
    go_enter Tryz.func161, Tryz.ntmps161
    go_wp2_with fail
    go_ret
    exact ⟨rfl, rfl⟩
end Go.Proofs.YtflofbimecnakaaGreat
