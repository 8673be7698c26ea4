/- The walks of AesEncrypts and AesWords. -/
import Derived.Test.YtlfhlnfhmnddkaaAesBo
import Derived.Test.YtlfhlnfhmnddkaaAesBd
import Derived.Test.YtlfhlnfhmnddkaaAesBw
namespace Go.Proofs.Ytlfhlnfhmnddkaa
open Go.RowKit
set_option linter.unusedVariables false
set_option linter.unusedSimpArgs false
theorem below_drewN {B : Nat} {a w : World} (h : Below B a w) (n : Nat) : Below B a (w.drewN n) := ⟨h.os, h.tape, h.output, h.size, h.block⟩
theorem empty_of {s : ByteArray} (h : s.toList = []) : s = ⟨#[]⟩ := tl_inj (by rw [h, Lib.toList_data])
set_option maxRecDepth 100000 in
set_option maxHeartbeats 3200000 in
theorem aesEncrypts_walk (a0 a1 : ByteArray) (z0 : a0.size ≤ 140737488351232) (z1 : a1.size ≤ 140737488351232) (w : World) : Calls Try.prog 6 #[.string a0, .string a1] w (RetT w) := by
  clear z0 z1
  rcases key_cases a0 with h | ⟨h1, h2, h3⟩
  · by_cases hb : a1.size = 16
    · have e1 : ((a1.size : Int) != 16) = false := by rw [bne_eq_false_iff_eq]; omega
      have HB := Lib.hid hb
      have HK : Hid (a0.toList.length = 16 ∨ a0.toList.length = 24 ∨ a0.toList.length = 32) := by rw [tl_size]; exact h
      clear hb
      go_enter Try.func6, Try.ntmps6
      go_wp2_with fail
      refine (wakes_any _).mono ?_
      rintro e w1 ⟨rfl, hb1⟩
      go_wp2_with fail
      refine (new_q a0 _ h).mono ?_
      rintro e w2 ⟨g, hg, rfl, hQ, hb2⟩
      have hw : w.heap.size ≤ g := Nat.le_trans hb1.size hg
      have hb12 : Below w.heap.size w w2 := below2 hb1 hb2
      clear hb1 hb2 hg
      go_wp2_with fail
      refine (right_yes a0 _ h).mono ?_
      rintro e w2' ⟨rfl, rfl⟩
      go_wp2_with fail
      refine (enc_q a1 _ g _ hQ HB.out).mono ?_
      rintro e w3 ⟨s, rfl, hs, hQ3, hb3⟩
      have hb3' := hb12.trans (hb3.mono hb12.size)
      have HS := Lib.hid hs
      clear hs hb3 hb12 hQ
      go_wp2_with fail
      refine (dec_q a1 _ g _ hQ3 HB.out).mono ?_
      rintro e w4 ⟨t, rfl, ht, hQ4, hT4⟩
      have hb4' := hb3'.trans (hT4.toBelow hQ3.lt hw)
      have HT := Lib.hid ht
      clear hT4 hQ3 hQ4 ht hb3'
      go_wp2_with fail
      refine (rnew_any a0 _ h).mono ?_
      rintro e w5 ⟨gb, hgb, rfl, hBox, hb5⟩
      have hb5' := hb4'.trans (hb5.mono hb4'.size)
      clear hb4' hb5
      go_wp2_with fail
      refine (rencrypt_any a1 _ gb _ hBox HK.out HB.out).mono ?_
      rintro e w6 ⟨s2, rfl, hs2, hb6⟩
      obtain rfl : s2 = s := tl_inj (hs2.trans HS.out.symm)
      have hb6' := hb5'.trans (hb6.mono hb5'.size)
      have hBox6 := hBox.below hb6 (Nat.le_refl _)
      clear hs2 hb5' hb6 hBox
      go_wp2_with fail
      refine (rdecrypt_any a1 _ gb _ hBox6 HK.out HB.out).mono ?_
      rintro e w7 ⟨t2, rfl, ht2, hb7⟩
      obtain rfl : t2 = t := tl_inj (ht2.trans HT.out.symm)
      have hb7' := hb6'.trans (hb7.mono hb6'.size)
      clear ht2 hb6' hb7 hBox6
      go_wp2_with fail
      go_ret
      exact ⟨rfl, hb7'⟩
    · have e1 : ((a1.size : Int) != 16) = true := by rw [bne_iff_ne]; omega
      have HB := Lib.hid hb
      clear hb
      go_enter Try.func6, Try.ntmps6
      go_wp2_with fail
      refine (wakes_any _).mono ?_
      rintro e w1 ⟨rfl, hb1⟩
      go_wp2_with fail
      refine (new_q a0 _ h).mono ?_
      rintro e w2 ⟨g, hg, rfl, hQ, hb2⟩
      have hb12 : Below w.heap.size w w2 := below2 hb1 hb2
      clear hb1 hb2 hg
      go_wp2_with fail
      refine (right_yes a0 _ h).mono ?_
      rintro e w2' ⟨rfl, rfl⟩
      go_wp2_with fail
      refine (enc_sz a1 _ g _ hQ HB.out).mono ?_
      rintro e w3 ⟨s, rfl, hs, hb3⟩
      obtain rfl := empty_of hs
      have hb3' := hb12.trans (hb3.mono hb12.size)
      have hQ3 := hQ.below hb3 hQ.lt
      clear hs hb3 hb12 hQ
      go_wp2_with fail
      refine (dec_sz a1 _ g _ hQ3 HB.out).mono ?_
      rintro e w4 ⟨t, rfl, ht, hb4⟩
      obtain rfl := empty_of ht
      have hb4' := hb3'.trans (hb4.mono hb3'.size)
      clear ht hb4 hb3' hQ3
      go_wp2_with fail
      go_ret
      exact ⟨rfl, hb4'⟩
  · go_enter Try.func6, Try.ntmps6
    go_wp2_with fail
    refine (wakes_any _).mono ?_
    rintro e w1 ⟨rfl, hb1⟩
    go_wp2_with fail
    refine (new_bad a0 _ h1 h2 h3).mono ?_
    rintro e w2 ⟨rfl, rfl⟩
    go_wp2_with fail
    refine (right_no a0 _ h1 h2 h3).mono ?_
    rintro e w2 ⟨rfl, rfl⟩
    go_wp2_with fail
    go_ret
    exact ⟨rfl, hb1⟩
set_option maxRecDepth 100000 in
set_option maxHeartbeats 3200000 in
theorem aesWords_walk (a0 : ByteArray) (z0 : a0.size ≤ 140737488351232) (w : World) : Calls Try.prog 5 #[.string a0] w (RetT w) := by
  clear z0
  rcases key_cases a0 with h | ⟨h1, h2, h3⟩
  · have hK : a0.toList.length = 16 ∨ a0.toList.length = 24 ∨ a0.toList.length = 32 := by rw [tl_size]; exact h
    obtain ⟨M, hM, hM1, hM2⟩ := wlen hK
    have HM := Lib.hid hM
    clear hK hM
    go_enter Try.func5, Try.ntmps5
    go_wp2_with fail
    refine (wakes_any _).mono ?_
    rintro e w1 ⟨rfl, hb1⟩
    go_wp2_with fail
    refine (expand_any a0 _ h).mono ?_
    rintro e w2 ⟨cap, rfl, hA2, hb2⟩
    obtain ⟨gl, hgl⟩ : ∃ gl, w1.heap.size = gl := ⟨_, rfl⟩
    rw [hgl] at hA2 ⊢
    have hb2' := below2 hb1 hb2
    have hl2 : gl < w2.heap.size := hA2.lt (by intro he; have := congrArg List.length he; rw [wcells_length, HM.out] at this; simp at this)
    have HA2 := Lib.hid hA2
    clear hb1 hb2 hA2 hgl
    go_wp2_with fail
    refine (new_q a0 _ h).mono ?_
    rintro e w3 ⟨g, hg, rfl, hQ, hb3⟩
    have hb3' := hb2'.trans (hb3.mono hb2'.size)
    have hA3 := HA2.out.below hb3 hl2
    have hl3 : gl < w3.heap.size := Nat.lt_of_lt_of_le hl2 hb3.size
    have HA3 := Lib.hid hA3
    clear hb2' hb3 hQ HA2 hA3 hl2 hg
    go_wp2_with fail
    refine (right_yes a0 _ h).mono ?_
    rintro e w3' ⟨rfl, rfl⟩
    go_wp2_with fail
    refine (rnew_any a0 _ h).mono ?_
    rintro e w4 ⟨gb, hgb, rfl, hBox, hb4⟩
    have hb4' := hb3'.trans (hb4.mono hb3'.size)
    have HA4 := Lib.hid (HA3.out.below hb4 hl3)
    have hl4 : gl < w4.heap.size := Nat.lt_of_lt_of_le hl3 hb4.size
    clear hb3' hb4 HA3 hgb hl3
    go_wp2_with fail
    refine (rwords_any _ gb _ hBox (by rw [HM.out]; omega)).mono ?_
    rintro e w5 ⟨gm, cap2, rfl, hgm, hA5, hb5⟩
    have hb5' := hb4'.trans (hb5.mono hb4'.size)
    have HL := Lib.hid (HA4.out.below hb5 hl4)
    have HW := Lib.hid hA5
    obtain ⟨n, hn⟩ : ∃ n, (expW a0.toList).length = n := ⟨_, rfl⟩
    rw [hn]
    have HN := Lib.hid hn
    have hnb : n ≤ 60 := by rw [← hn, HM.out]; omega
    clear hb4' hb5 HA4 hA5 hgm hl4 hBox hn
    go_wp2_with fail
    go_loopw [61] (fun i wr => ∃ k : Nat, k ≤ n ∧ i = .int .i64 k ∧ ∃ m, wr = w5.drewN m) (fun i _ => n - (intOf i).toNat)
    case atStart => exact ⟨0, Nat.zero_le _, rfl, 0, rfl⟩
    case round =>
      obtain ⟨k, hk, rfl, m, rfl⟩ := hrel
      by_cases hlt : k < n
      · have hkI : (k : Int) < (n : Int) := by omega
        have hc1 := HL.out.w32 k (by rw [HN.out]; exact hlt)
        have hc2 := HW.out.w32 k (by rw [HN.out]; exact hlt)
        rw [Nat.zero_add] at hc1 hc2
        go_wp2_with (fail)
        go_quiet (fail)
        go_wp2
        go_roundw
        case rel => exact ⟨k + 1, by omega, by go_num, _, rfl⟩
        case measure => simp [intOf]; omega
      · have hkI : ¬ (k : Int) < (n : Int) := by omega
        go_wp2_with fail
        go_ret
        exact ⟨rfl, below_drewN hb5' _⟩
  · go_enter Try.func5, Try.ntmps5
    go_wp2_with fail
    refine (wakes_any _).mono ?_
    rintro e w1 ⟨rfl, hb1⟩
    go_wp2_with fail
    refine (expand_bad a0 _ h1 h2 h3).mono ?_
    rintro e w2 ⟨rfl, rfl⟩
    go_wp2_with fail
    refine (new_bad a0 _ h1 h2 h3).mono ?_
    rintro e w2 ⟨rfl, rfl⟩
    go_wp2_with fail
    refine (right_no a0 _ h1 h2 h3).mono ?_
    rintro e w2 ⟨rfl, rfl⟩
    go_wp2_with fail
    go_ret
    exact ⟨rfl, hb1⟩
end Go.Proofs.Ytlfhlnfhmnddkaa
