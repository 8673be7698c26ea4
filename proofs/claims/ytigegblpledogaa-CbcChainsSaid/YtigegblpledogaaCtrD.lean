/- Xor, whatever it is asked: the program's and the document's. -/
import Derived.Test.YtigegblpledogaaCtrC
namespace Go.Proofs.Ytigegblpledogaa
open Go.RowKit
set_option linter.unusedVariables false
set_option linter.unusedSimpArgs false
theorem keyOk_yes {n : Nat} (h : n = 16 ∨ n = 24 ∨ n = 32) : keyOk n = true := by simp [keyOk, h]
theorem keyOk_no {n : Nat} (h1 : n ≠ 16) (h2 : n ≠ 24) (h3 : n ≠ 32) : keyOk n = false := by simp [keyOk, h1, h2, h3]
theorem ctrR_ne {K S T : List UInt8} {wd : Int} (h : ctrE K.length S.length wd T.length ≠ 0) : ctrR K S wd T = [] := by rw [ctrR, if_neg h]
theorem ctrR_ok {K S T : List UInt8} {wd : Nat} (h : ctrE K.length S.length (wd : Int) T.length = 0) : ctrR K S (wd : Int) T = ctrL K S wd T := by rw [ctrR, if_pos h, Int.toNat_natCast]
theorem ctrE_zero {k n t : Nat} {wd : Int} (h : ctrE k n wd t = 0) : (k = 16 ∨ k = 24 ∨ k = 32) ∧ n = 16 ∧ 1 ≤ wd ∧ wd ≤ 16 ∧ t ≤ 70000 := by
  unfold ctrE at h
  split at h
  · rename_i hk
    split at h
    · rename_i hm
      split at h
      · cases h
      · obtain ⟨a, b, c⟩ := may_zero hm
        exact ⟨by simpa [keyOk] using hk, a, b, c, by omega⟩
    · rename_i hm; exact absurd h hm
  · cases h
theorem may_range (n : Nat) (wd : Int) : mayE n wd = 0 ∨ mayE n wd = 2 ∨ mayE n wd = 4 := by
  unfold mayE
  split
  · split <;> simp
  · simp
set_option maxRecDepth 100000 in
set_option maxHeartbeats 1600000 in
theorem cxor_any (key start text : ByteArray) (wd : Int) (w : World) : Calls Try.prog 35 #[.string key, .string start, .int .i64 wd, .string text] w (RetSE (ctrR key.toList start.toList wd text.toList) (ctrE key.size start.size wd text.size) w) := by
  have htl : ctrE key.toList.length start.toList.length wd text.toList.length = ctrE key.size start.size wd text.size := by rw [tl_size, tl_size, tl_size]
  rcases key_cases key with hk | ⟨h1, h2, h3⟩
  · by_cases hm : mayE start.size wd = 0
    · obtain ⟨hs, hw1, hw2⟩ := may_zero hm
      obtain ⟨k, rfl⟩ := Int.eq_ofNat_of_zero_le (a := wd) (by omega)
      by_cases ht : text.size ≤ 70000
      · have hE : ctrE key.size start.size (k : Int) text.size = 0 := by rw [ctrE, if_pos (keyOk_yes hk), if_pos hm, if_neg (by omega)]
        rw [ctrR_ok (by rw [htl, hE]), hE]
        exact cxor_ok key start text k w hk hs (by omega) (by omega) ht
      · have hE : ctrE key.size start.size (k : Int) text.size = 6 := by rw [ctrE, if_pos (keyOk_yes hk), if_pos hm, if_pos (by omega)]
        rw [ctrR_ne (by rw [htl, hE]; decide), hE]
        have hTI : (70000 : Int) < (text.size : Int) := by omega
        have HM := Lib.hid hm
        clear hm hE htl hs ht
        go_enter Try.func35, Try.ntmps35
        go_wp2_with fail
        refine (new_q key _ hk).mono ?_
        rintro e w1 ⟨g, hg, rfl, hQ, hb1⟩
        go_wp2_with fail
        refine (may_any start _ _).mono ?_
        rintro e w1' ⟨rfl, rfl⟩
        rw [HM.out]
        go_wp2_with fail
        go_ret2
        exact ret_se (tl_mk []) rfl rfl hb1
    · obtain ⟨c, hc⟩ : ∃ c, mayE start.size wd = c := ⟨_, rfl⟩
      have hE : ctrE key.size start.size wd text.size = c := by rw [ctrE, if_pos (keyOk_yes hk), if_neg hm, hc]
      rw [hc] at hm
      rw [ctrR_ne (by rw [htl, hE]; exact hm), hE]
      have e1 : (c == 0) = false := by rw [beq_eq_false_iff_ne]; exact hm
      have e2 : (c != 0) = true := by rw [bne_iff_ne]; exact hm
      have HC := Lib.hid hc
      clear hc hE htl hm
      go_enter Try.func35, Try.ntmps35
      go_wp2_with fail
      refine (new_q key _ hk).mono ?_
      rintro e w1 ⟨g, hg, rfl, hQ, hb1⟩
      go_wp2_with fail
      refine (may_any start _ _).mono ?_
      rintro e w1' ⟨rfl, rfl⟩
      rw [HC.out]
      go_wp2_with fail
      go_ret2
      exact ret_se (tl_mk []) rfl rfl hb1
  · have hE : ctrE key.size start.size wd text.size = 3 := by rw [ctrE, keyOk_no h1 h2 h3]; rfl
    rw [ctrR_ne (by rw [htl, hE]; decide), hE]
    clear hE htl
    go_enter Try.func35, Try.ntmps35
    go_wp2_with fail
    refine (new_bad key _ h1 h2 h3).mono ?_
    rintro e w1 ⟨rfl, rfl⟩
    go_wp2_with fail
    go_ret2
    exact ret_se (tl_mk []) rfl rfl (Below.refl _ _)
set_option maxRecDepth 100000 in
set_option maxHeartbeats 1600000 in
theorem rcxor_any (key start text : ByteArray) (wd : Int) (w : World) : Calls Try.prog 36 #[.string key, .string start, .int .i64 wd, .string text] w (RetSE (ctrR key.toList start.toList wd text.toList) (ctrE key.size start.size wd text.size) w) := by
  have htl : ctrE key.toList.length start.toList.length wd text.toList.length = ctrE key.size start.size wd text.size := by rw [tl_size, tl_size, tl_size]
  rcases key_cases key with hk | ⟨h1, h2, h3⟩
  · by_cases hm : mayE start.size wd = 0
    · obtain ⟨hs, hw1, hw2⟩ := may_zero hm
      obtain ⟨k, rfl⟩ := Int.eq_ofNat_of_zero_le (a := wd) (by omega)
      by_cases ht : text.size ≤ 70000
      · have hE : ctrE key.size start.size (k : Int) text.size = 0 := by rw [ctrE, if_pos (keyOk_yes hk), if_pos hm, if_neg (by omega)]
        rw [ctrR_ok (by rw [htl, hE]), hE]
        exact rcxor_ok key start text k w hk hs (by omega) (by omega) ht
      · have hE : ctrE key.size start.size (k : Int) text.size = 6 := by rw [ctrE, if_pos (keyOk_yes hk), if_pos hm, if_pos (by omega)]
        rw [ctrR_ne (by rw [htl, hE]; decide), hE]
        have hTI : (70000 : Int) < (text.size : Int) := by omega
        have HM := Lib.hid hm
        clear hm hE htl hs ht
        go_enter Try.func36, Try.ntmps36
        go_wp2_with fail
        refine (right_yes key _ hk).mono ?_
        rintro e w1 ⟨rfl, rfl⟩
        go_wp2_with fail
        refine (rcnext_any start _ 0 _ (by decide)).mono ?_
        rintro e w1 ⟨c, rfl, hc, hb1⟩
        rw [HM.out]
        go_wp2_with fail
        go_ret2
        exact ret_se (tl_mk []) rfl rfl hb1
    · obtain ⟨c, hc⟩ : ∃ c, mayE start.size wd = c := ⟨_, rfl⟩
      have hE : ctrE key.size start.size wd text.size = c := by rw [ctrE, if_pos (keyOk_yes hk), if_neg hm, hc]
      rw [hc] at hm
      rw [ctrR_ne (by rw [htl, hE]; exact hm), hE]
      have e2 : (c != 0) = true := by rw [bne_iff_ne]; exact hm
      have HC := Lib.hid hc
      clear hc hE htl hm
      go_enter Try.func36, Try.ntmps36
      go_wp2_with fail
      refine (right_yes key _ hk).mono ?_
      rintro e w1 ⟨rfl, rfl⟩
      go_wp2_with fail
      refine (rcnext_any start _ 0 _ (by decide)).mono ?_
      rintro e w1 ⟨d, rfl, hd, hb1⟩
      rw [HC.out]
      go_wp2_with fail
      go_ret2
      exact ret_se (tl_mk []) rfl rfl hb1
  · have hE : ctrE key.size start.size wd text.size = 3 := by rw [ctrE, keyOk_no h1 h2 h3]; rfl
    rw [ctrR_ne (by rw [htl, hE]; decide), hE]
    clear hE htl
    go_enter Try.func36, Try.ntmps36
    go_wp2_with fail
    refine (right_no key _ h1 h2 h3).mono ?_
    rintro e w1 ⟨rfl, rfl⟩
    go_wp2_with fail
    go_ret2
    exact ret_se (tl_mk []) rfl rfl (Below.refl _ _)
end Go.Proofs.Ytigegblpledogaa
