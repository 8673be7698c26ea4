/- The walks of GhashSums, GhashJoins, GhashShares (where the table is laid). -/
import Derived.Test.YtkedoiikkjeadaaDoorGhM
import Derived.Test.YtkedoiikkjeadaaDoorGhN
namespace Go.Proofs.YtkedoiikkjeadaaDoor
open Go.RowKit
set_option linter.unusedVariables false
set_option linter.unusedSimpArgs false
theorem gsum16 (key text : ByteArray) (hk : key.size = 16) (hm : text.size % 16 = 0) (hl : text.size ≤ 210000) (w : World) (hF : Fal w) : Calls Tryd.prog 17 #[.string key, .string text] w (RetSE (gsL key.toList text.toList) 0 w) := by
  have h := gsum_any key text w hF
  obtain ⟨h1, h2⟩ := gs_ok key.toList text.toList (by rw [tl_size]; exact hk) (by rw [tl_size]; exact hm) (by rw [tl_size]; exact hl)
  rwa [h1, h2] at h
theorem sz_gs {s : ByteArray} {K T : List UInt8} (h : s.toList = gsL K T) : s.size = 16 := by rw [← tl_size, h, gsL_length]
set_option maxRecDepth 100000 in
theorem ghashSums_walk (key text : ByteArray) (w : World) (hF : Fal w) : Calls Tryd.prog 5 #[.string key, .string text] w (RetT w) := by
  have HF := Lib.hid hF
  clear hF
  obtain ⟨c, hc⟩ : ∃ c, gsE key.toList text.toList = c := ⟨_, rfl⟩
  have HE := Lib.hid hc
  clear hc
  obtain ⟨r, hr⟩ : ∃ r, text.size % 16 = r := ⟨_, rfl⟩
  have e3 : (text.size : Int).tmod 16 = (r : Int) := gh_tmod text.size 16 r hr.symm
  have e4 : IntKind.i64.wrap (r : Int) = (r : Int) := gh_wrap _ (by omega) (by omega)
  clear hr
  rcases Decidable.em ((1000 : Int) < (text.size : Int)) with h1 | h1
  · rcases Decidable.em (((r : Int) == 0) = true) with h2 | h2
    · rcases Decidable.em ((text.size : Int) ≤ 210000) with h3 | h3
      · go_enter Tryd.func5, Tryd.ntmps5
        go_wp2_with fail
        refine (wakes8_any _ HF.out).mono ?_
        rintro e w1 ⟨rfl, hb01⟩
        go_wp2_with fail
        go_ret
        exact ⟨rfl, hb01⟩
      · go_enter Tryd.func5, Tryd.ntmps5
        go_wp2_with fail
        refine (wakes8_any _ HF.out).mono ?_
        rintro e w1 ⟨rfl, hb01⟩
        have HF1 := Lib.hid (HF.out.below hb01 HF.out.2)
        go_wp2_with fail
        refine (gsum_any key text _ HF1.out).mono ?_
        rintro e w2 ⟨s, rfl, hs, hb2⟩
        rw [HE.out]
        have hb02 := below2 hb01 hb2
        have HS := Lib.hid hs
        clear hb01 hb2 hs
        go_wp2_with fail
        refine (rgsum_any key text _).mono ?_
        rintro e w3 ⟨t, rfl, ht, hb3⟩
        rw [HE.out]
        obtain rfl : s = t := tl_inj (by rw [HS.out, ht])
        have hb03 := below2 hb02 hb3
        clear hb02 hb3 ht
        go_wp2_with fail
        go_ret
        exact ⟨rfl, hb03⟩
    · have h2 : ((r : Int) == 0) = false := by rw [Bool.eq_false_iff]; exact h2
      go_enter Tryd.func5, Tryd.ntmps5
      go_wp2_with fail
      refine (wakes8_any _ HF.out).mono ?_
      rintro e w1 ⟨rfl, hb01⟩
      have HF1 := Lib.hid (HF.out.below hb01 HF.out.2)
      go_wp2_with fail
      refine (gsum_any key text _ HF1.out).mono ?_
      rintro e w2 ⟨s, rfl, hs, hb2⟩
      rw [HE.out]
      have hb02 := below2 hb01 hb2
      have HS := Lib.hid hs
      clear hb01 hb2 hs
      go_wp2_with fail
      refine (rgsum_any key text _).mono ?_
      rintro e w3 ⟨t, rfl, ht, hb3⟩
      rw [HE.out]
      obtain rfl : s = t := tl_inj (by rw [HS.out, ht])
      have hb03 := below2 hb02 hb3
      clear hb02 hb3 ht
      go_wp2_with fail
      go_ret
      exact ⟨rfl, hb03⟩
  · go_enter Tryd.func5, Tryd.ntmps5
    go_wp2_with fail
    refine (wakes8_any _ HF.out).mono ?_
    rintro e w1 ⟨rfl, hb01⟩
    have HF1 := Lib.hid (HF.out.below hb01 HF.out.2)
    go_wp2_with fail
    refine (gsum_any key text _ HF1.out).mono ?_
    rintro e w2 ⟨s, rfl, hs, hb2⟩
    rw [HE.out]
    have hb02 := below2 hb01 hb2
    have HS := Lib.hid hs
    clear hb01 hb2 hs
    go_wp2_with fail
    refine (rgsum_any key text _).mono ?_
    rintro e w3 ⟨t, rfl, ht, hb3⟩
    rw [HE.out]
    obtain rfl : s = t := tl_inj (by rw [HS.out, ht])
    have hb03 := below2 hb02 hb3
    clear hb02 hb3 ht
    go_wp2_with fail
    go_ret
    exact ⟨rfl, hb03⟩
set_option maxRecDepth 100000 in
set_option maxHeartbeats 1600000 in
theorem ghashJoins_walk (key a b : ByteArray) (w : World) (hF : Fal w) : Calls Tryd.prog 6 #[.string key, .string a, .string b] w (RetT w) := by
  have HF := Lib.hid hF
  clear hF
  obtain ⟨ra, hra⟩ : ∃ r, a.size % 16 = r := ⟨_, rfl⟩
  have a3 : (a.size : Int).tmod 16 = (ra : Int) := gh_tmod a.size 16 ra hra.symm
  have a4 : IntKind.i64.wrap (ra : Int) = (ra : Int) := gh_wrap _ (by omega) (by omega)
  obtain ⟨rb, hrb⟩ : ∃ r, b.size % 16 = r := ⟨_, rfl⟩
  have b3 : (b.size : Int).tmod 16 = (rb : Int) := gh_tmod b.size 16 rb hrb.symm
  have b4 : IntKind.i64.wrap (rb : Int) = (rb : Int) := gh_wrap _ (by omega) (by omega)
  by_cases h1 : key.size = 16
  rotate_left
  · have c1 : ((key.size : Int) != 16) = true := by rw [bne_iff_ne]; omega
    go_enter Tryd.func6, Tryd.ntmps6
    go_wp2_with fail
    refine (wakes8_any _ HF.out).mono ?_
    rintro e w1 ⟨rfl, hb01⟩
    go_wp2_with fail
    go_ret
    exact ⟨rfl, hb01⟩
  have c1 : ((key.size : Int) != 16) = false := by rw [bne_eq_false_iff_eq]; omega
  by_cases h2 : ra = 0
  rotate_left
  · have c2 : ((ra : Int) != 0) = true := by rw [bne_iff_ne]; omega
    go_enter Tryd.func6, Tryd.ntmps6
    go_wp2_with fail
    refine (wakes8_any _ HF.out).mono ?_
    rintro e w1 ⟨rfl, hb01⟩
    go_wp2_with fail
    go_ret
    exact ⟨rfl, hb01⟩
  have c2 : ((ra : Int) != 0) = false := by rw [bne_eq_false_iff_eq]; omega
  by_cases h3 : rb = 0
  rotate_left
  · have c3 : ((rb : Int) != 0) = true := by rw [bne_iff_ne]; omega
    go_enter Tryd.func6, Tryd.ntmps6
    go_wp2_with fail
    refine (wakes8_any _ HF.out).mono ?_
    rintro e w1 ⟨rfl, hb01⟩
    go_wp2_with fail
    go_ret
    exact ⟨rfl, hb01⟩
  have c3 : ((rb : Int) != 0) = false := by rw [bne_eq_false_iff_eq]; omega
  by_cases h4 : a.size ≤ 5000
  rotate_left
  · have c4 : (5000 : Int) < (a.size : Int) := by omega
    go_enter Tryd.func6, Tryd.ntmps6
    go_wp2_with fail
    refine (wakes8_any _ HF.out).mono ?_
    rintro e w1 ⟨rfl, hb01⟩
    go_wp2_with fail
    go_ret
    exact ⟨rfl, hb01⟩
  have c4 : ¬ (5000 : Int) < (a.size : Int) := by omega
  by_cases h5 : b.size ≤ 5000
  rotate_left
  · have c5 : (5000 : Int) < (b.size : Int) := by omega
    go_enter Tryd.func6, Tryd.ntmps6
    go_wp2_with fail
    refine (wakes8_any _ HF.out).mono ?_
    rintro e w1 ⟨rfl, hb01⟩
    go_wp2_with fail
    go_ret
    exact ⟨rfl, hb01⟩
  have c5 : ¬ (5000 : Int) < (b.size : Int) := by omega
  by_cases h6 : b = ByteArray.mk #[]
  · subst h6
    go_enter Tryd.func6, Tryd.ntmps6
    go_wp2_with fail
    refine (wakes8_any _ HF.out).mono ?_
    rintro e w1 ⟨rfl, hb01⟩
    go_wp2_with fail
    go_ret
    exact ⟨rfl, hb01⟩
  have c7 : (b.toList == []) = false := by rw [beq_eq_false_iff_ne]; exact fun h => h6 (tl_inj (h.trans emptyL.symm))
  have hb0 : b.size ≠ 0 := fun h => h6 (tl_inj (by rw [emptyL]; exact List.length_eq_zero_iff.1 (by rw [tl_size]; exact h)))
  have hb16 : 16 ≤ b.size := by omega
  have z1 : ¬ 9223372036854775807 < a.size + b.size := by omega
  have z2 : (16 : Int) ≤ (b.size : Int) := by omega
  obtain ⟨b0, hb0x⟩ : ∃ x, b.extract 0 16 = x := ⟨_, rfl⟩
  obtain ⟨b1, hb1x⟩ : ∃ x, b.extract 16 b.size = x := ⟨_, rfl⟩
  have l0 : b0.toList = b.toList.take 16 := by rw [← hb0x, gx_ext0]
  have l1 : b1.toList = b.toList.drop 16 := by rw [← hb1x, gx_extE _ _ _ rfl]
  have s0 : b0.size = 16 := by rw [← tl_size, l0, List.length_take, tl_size]; omega
  have s1 : b1.size = b.size - 16 := by rw [← tl_size, l1, List.length_drop, tl_size]
  obtain ⟨ab, hab⟩ : ∃ x, a ++ b = x := ⟨_, rfl⟩
  have lab : ab.toList = a.toList ++ b.toList := by rw [← hab, gx_app]
  have sab : ab.size = a.size + b.size := by rw [← tl_size, lab, List.length_append, tl_size, tl_size]
  have hj := gsL_join key.toList a.toList b.toList (a.size / 16) (b.size / 16 - 1) (by rw [tl_size]; exact h1) (by rw [tl_size]; omega) (by rw [tl_size]; omega)
  have HJ := Lib.hid hj
  have HAB := Lib.hid lab
  have L0 := Lib.hid l0
  have L1 := Lib.hid l1
  have S0 := Lib.hid s0
  have K1 := Lib.hid (And.intro h1 (And.intro (show ab.size % 16 = 0 by omega) (show ab.size ≤ 210000 by omega)))
  have K2 := Lib.hid (And.intro (show a.size % 16 = 0 by omega) (show a.size ≤ 210000 by omega))
  have K3 := Lib.hid (show b1.size + 16 = b.size ∧ b.size ≤ 5000 ∧ b.size % 16 = 0 by omega)
  clear hj lab l0 l1 s0 s1 sab h1 h2 h3 h4 h5 h6 hb0 hra hrb
  go_enter Tryd.func6, Tryd.ntmps6
  go_wp2_with fail
  refine (wakes8_any _ HF.out).mono ?_
  rintro e w1 ⟨rfl, hb01⟩
  have HF1 := Lib.hid (HF.out.below hb01 HF.out.2)
  go_wp2_with fail
  refine (gsum16 key ab K1.out.1 K1.out.2.1 K1.out.2.2 _ HF1.out).mono ?_
  rintro e w2 ⟨s, rfl, hs, hb2⟩
  have hb02 := below2 hb01 hb2
  have HF2 := Lib.hid (HF.out.below hb02 HF.out.2)
  have HS := Lib.hid hs
  clear hb01 hb2 hs
  go_wp2_with fail
  refine (gsum16 key a K1.out.1 K2.out.1 K2.out.2 _ HF2.out).mono ?_
  rintro e w3 ⟨x, rfl, hx, hb3⟩
  have hb03 := below2 hb02 hb3
  have HF3 := Lib.hid (HF.out.below hb03 HF.out.2)
  have HX := Lib.hid hx
  have HXS := Lib.hid (sz_gs hx)
  have d1 : ((x.size : Int) != 16) = false := by rw [bne_eq_false_iff_eq, HXS.out]; rfl
  clear hb02 hb3 hx
  go_wp2_with fail
  go_region_with ((first
    | (go_at_call 16; refine (lxor16 x b0 _ HXS.out S0.out).mono ?_; rintro e w4 ⟨y, rfl, hy, hb4⟩; have hb04 := (hb03.drew).trans (hb4.mono hb03.drew.size); have HF4 := Lib.hid (HF.out.below hb04 HF.out.2); have HY := Lib.hid hy; have HYS : Hid (y.size = 16) := Lib.hid (sz_xor hy (by rw [tl_size]; exact HXS.out) (by rw [tl_size]; exact S0.out)); have z3 : ¬ 9223372036854775807 < y.size + b1.size := (by have := HYS.out; have := K3.out; omega); obtain ⟨yb, hyb⟩ : ∃ q, y ++ b1 = q := ⟨_, rfl⟩; have lyb : yb.toList = y.toList ++ b1.toList := (by rw [← hyb, gx_app]); have HYB := Lib.hid lyb; have HYZ : Hid (yb.size = b.size) := Lib.hid (by rw [← tl_size, lyb, List.length_append, tl_size, tl_size]; have := HYS.out; have := K3.out; omega); clear hy hb4 lyb)
    | (go_at_call 17; refine (gsum16 key yb K1.out.1 (by rw [HYZ.out]; exact K3.out.2.2) (by rw [HYZ.out]; have := K3.out; omega) _ HF4.out).mono ?_; rintro e w5 ⟨t, rfl, ht, hb5⟩; have hb05 := hb04.trans (hb5.mono hb04.size); obtain rfl : s = t := tl_inj (by rw [HS.out, ht, HAB.out, HYB.out, HY.out, L0.out, L1.out, HX.out, HJ.out]); clear ht hb5)))
  all_goals
    clear hb04 z3 hyb
    go_wp2_with fail
    go_ret
    exact ⟨rfl, hb05⟩
theorem gh_tdiv (a b c : Nat) (h : c = a / b) : (a : Int).tdiv (b : Int) = (c : Int) := by
  rw [Int.tdiv_eq_ediv_of_nonneg (by omega), h]
  rfl
set_option maxRecDepth 100000 in
set_option maxHeartbeats 1600000 in
theorem ghashShares_walk (key a b : ByteArray) (za : a.size ≤ 140737488351232) (zb : b.size ≤ 140737488351232) (w : World) (hF : Fal w) : Calls Tryd.prog 7 #[.string key, .string a, .string b] w (RetT w) := by
  have HF := Lib.hid hF
  clear hF
  obtain ⟨m, hma, hmb, hmm⟩ : ∃ m, m ≤ a.size ∧ m ≤ b.size ∧ ((¬ b.size < a.size ∧ m = a.size) ∨ (b.size < a.size ∧ m = b.size)) := ⟨min a.size b.size, by omega, by omega, by omega⟩
  obtain ⟨q, hq⟩ : ∃ q, m / 16 = q := ⟨_, rfl⟩
  obtain ⟨n, hn⟩ : ∃ n, q * 16 = n := ⟨_, rfl⟩
  have n1 : n ≤ a.size := by omega
  have n2 : n ≤ b.size := by omega
  have x1 := gh_tdiv m 16 q hq.symm
  have x2 : IntKind.i64.wrap (q : Int) = (q : Int) := gh_wrap _ (by omega) (by omega)
  have x3 : (q : Int) * 16 = (n : Int) := by omega
  have x4 : IntKind.i64.wrap (n : Int) = (n : Int) := gh_wrap _ (by omega) (by omega)
  have hn16 : n % 16 = 0 := by omega
  rw [show ((16 : Nat) : Int) = 16 from rfl] at x1
  clear hq hn hma hmb
  rcases hmm with ⟨hlt, rfl⟩ | ⟨hlt, rfl⟩
  · by_cases h1 : key.size = 16
    rotate_left
    · have c1 : ((key.size : Int) != 16) = true := by rw [bne_iff_ne]; omega
      go_enter Tryd.func7, Tryd.ntmps7
      go_wp2_with fail
      refine (wakes8_any _ HF.out).mono ?_
      rintro e w1 ⟨rfl, hb01⟩
      go_wp2_with fail
      go_ret
      exact ⟨rfl, hb01⟩
    have c1 : ((key.size : Int) != 16) = false := by rw [bne_eq_false_iff_eq]; omega
    by_cases h2 : n ≤ 5000
    rotate_left
    · have c2 : (5000 : Int) < (n : Int) := by omega
      go_enter Tryd.func7, Tryd.ntmps7
      go_wp2_with fail
      refine (wakes8_any _ HF.out).mono ?_
      rintro e w1 ⟨rfl, hb01⟩
      go_wp2_with fail
      go_ret
      exact ⟨rfl, hb01⟩
    have c2 : ¬ (5000 : Int) < (n : Int) := by omega
    have p1 : (0 : Int) ≤ (n : Int) := by omega
    have p2 : (n : Int) ≤ (a.size : Int) := by omega
    have p3 : (n : Int) ≤ (b.size : Int) := by omega
    obtain ⟨a0, ha0⟩ : ∃ x, a.extract 0 n = x := ⟨_, rfl⟩
    obtain ⟨b0, hb0⟩ : ∃ x, b.extract 0 n = x := ⟨_, rfl⟩
    have la : a0.toList = a.toList.take n := by rw [← ha0, gx_ext0]
    have lb : b0.toList = b.toList.take n := by rw [← hb0, gx_ext0]
    have sa : a0.size = n := by rw [← tl_size, la, List.length_take, tl_size]; omega
    have sb : b0.size = n := by rw [← tl_size, lb, List.length_take, tl_size]; omega
    have HT := Lib.hid (gsL_xor key.toList a0.toList b0.toList (by rw [tl_size]; exact h1) (by rw [tl_size, tl_size, sa, sb]))
    have K0 := Lib.hid h1
    have KA := Lib.hid (show a0.size % 16 = 0 ∧ a0.size ≤ 5000 by omega)
    have KB := Lib.hid (show b0.size % 16 = 0 ∧ b0.size ≤ 5000 by omega)
    have KS := Lib.hid (show a0.size = b0.size by omega)
    clear la lb sa sb h1 h2 hn16
    go_enter Tryd.func7, Tryd.ntmps7
    go_wp2_with fail
    refine (wakes8_any _ HF.out).mono ?_
    rintro e w1 ⟨rfl, hb01⟩
    have HF1 := Lib.hid (HF.out.below hb01 HF.out.2)
    go_wp2_with fail
    go_region
    go_wp2_with fail
    refine (gsum16 key a0 K0.out KA.out.1 (by have := KA.out.2; omega) _ (HF.out.below hb01.drew HF.out.2)).mono ?_
    rintro e w2 ⟨x, rfl, hx, hb2⟩
    have hb02 := hb01.drew.trans (hb2.mono hb01.drew.size)
    have HF2 := Lib.hid (HF.out.below hb02 HF.out.2)
    have HX := Lib.hid hx
    clear hb01 hb2 hx
    go_wp2_with fail
    refine (gsum16 key b0 K0.out KB.out.1 (by have := KB.out.2; omega) _ HF2.out).mono ?_
    rintro e w3 ⟨y, rfl, hy, hb3⟩
    have hb03 := below2 hb02 hb3
    have HY := Lib.hid hy
    clear hb02 hb3 hy
    go_wp2_with fail
    refine (lxor8_any a0 b0 _ (by have := KA.out.2; omega) (by have := KB.out.2; omega)).mono ?_
    rintro e w4 ⟨u, rfl, hu, hb4⟩
    have hb04 := below2 hb03 hb4
    have HF4 := Lib.hid (HF.out.below hb04 HF.out.2)
    have HU := Lib.hid hu
    have HUS : Hid (u.size = a0.size) := Lib.hid (by rw [← tl_size, hu, xorL_len, tl_size, tl_size, KS.out, Nat.min_self])
    clear hb03 hb4 hu
    go_wp2_with fail
    refine (gsum16 key u K0.out (by rw [HUS.out]; exact KA.out.1) (by rw [HUS.out]; have := KA.out.2; omega) _ HF4.out).mono ?_
    rintro e w5 ⟨z, rfl, hz, hb5⟩
    have hb05 := below2 hb04 hb5
    have d1 : (z.size : Int) = 16 := by rw [sz_gs hz]; rfl
    rw [HU.out, HT.out] at hz
    have HZ := Lib.hid hz
    clear hb04 hb5 hz
    go_wp2_with fail
    refine (lxor16 x y _ (sz_gs HX.out) (sz_gs HY.out)).mono ?_
    rintro e w6 ⟨v, rfl, hv, hb6⟩
    have hb06 := below2 hb05 hb6
    obtain rfl : z = v := tl_inj (by rw [HZ.out, hv, HX.out, HY.out])
    clear hb05 hb6 hv
    go_wp2_with fail
    go_ret
    exact ⟨rfl, hb06⟩
  · by_cases h1 : key.size = 16
    rotate_left
    · have c1 : ((key.size : Int) != 16) = true := by rw [bne_iff_ne]; omega
      go_enter Tryd.func7, Tryd.ntmps7
      go_wp2_with fail
      refine (wakes8_any _ HF.out).mono ?_
      rintro e w1 ⟨rfl, hb01⟩
      go_wp2_with fail
      go_ret
      exact ⟨rfl, hb01⟩
    have c1 : ((key.size : Int) != 16) = false := by rw [bne_eq_false_iff_eq]; omega
    by_cases h2 : n ≤ 5000
    rotate_left
    · have c2 : (5000 : Int) < (n : Int) := by omega
      go_enter Tryd.func7, Tryd.ntmps7
      go_wp2_with fail
      refine (wakes8_any _ HF.out).mono ?_
      rintro e w1 ⟨rfl, hb01⟩
      go_wp2_with fail
      go_ret
      exact ⟨rfl, hb01⟩
    have c2 : ¬ (5000 : Int) < (n : Int) := by omega
    have p1 : (0 : Int) ≤ (n : Int) := by omega
    have p2 : (n : Int) ≤ (a.size : Int) := by omega
    have p3 : (n : Int) ≤ (b.size : Int) := by omega
    obtain ⟨a0, ha0⟩ : ∃ x, a.extract 0 n = x := ⟨_, rfl⟩
    obtain ⟨b0, hb0⟩ : ∃ x, b.extract 0 n = x := ⟨_, rfl⟩
    have la : a0.toList = a.toList.take n := by rw [← ha0, gx_ext0]
    have lb : b0.toList = b.toList.take n := by rw [← hb0, gx_ext0]
    have sa : a0.size = n := by rw [← tl_size, la, List.length_take, tl_size]; omega
    have sb : b0.size = n := by rw [← tl_size, lb, List.length_take, tl_size]; omega
    have HT := Lib.hid (gsL_xor key.toList a0.toList b0.toList (by rw [tl_size]; exact h1) (by rw [tl_size, tl_size, sa, sb]))
    have K0 := Lib.hid h1
    have KA := Lib.hid (show a0.size % 16 = 0 ∧ a0.size ≤ 5000 by omega)
    have KB := Lib.hid (show b0.size % 16 = 0 ∧ b0.size ≤ 5000 by omega)
    have KS := Lib.hid (show a0.size = b0.size by omega)
    clear la lb sa sb h1 h2 hn16
    go_enter Tryd.func7, Tryd.ntmps7
    go_wp2_with fail
    refine (wakes8_any _ HF.out).mono ?_
    rintro e w1 ⟨rfl, hb01⟩
    have HF1 := Lib.hid (HF.out.below hb01 HF.out.2)
    go_wp2_with fail
    go_region
    go_wp2_with fail
    refine (gsum16 key a0 K0.out KA.out.1 (by have := KA.out.2; omega) _ (HF.out.below hb01.drew HF.out.2)).mono ?_
    rintro e w2 ⟨x, rfl, hx, hb2⟩
    have hb02 := hb01.drew.trans (hb2.mono hb01.drew.size)
    have HF2 := Lib.hid (HF.out.below hb02 HF.out.2)
    have HX := Lib.hid hx
    clear hb01 hb2 hx
    go_wp2_with fail
    refine (gsum16 key b0 K0.out KB.out.1 (by have := KB.out.2; omega) _ HF2.out).mono ?_
    rintro e w3 ⟨y, rfl, hy, hb3⟩
    have hb03 := below2 hb02 hb3
    have HY := Lib.hid hy
    clear hb02 hb3 hy
    go_wp2_with fail
    refine (lxor8_any a0 b0 _ (by have := KA.out.2; omega) (by have := KB.out.2; omega)).mono ?_
    rintro e w4 ⟨u, rfl, hu, hb4⟩
    have hb04 := below2 hb03 hb4
    have HF4 := Lib.hid (HF.out.below hb04 HF.out.2)
    have HU := Lib.hid hu
    have HUS : Hid (u.size = a0.size) := Lib.hid (by rw [← tl_size, hu, xorL_len, tl_size, tl_size, KS.out, Nat.min_self])
    clear hb03 hb4 hu
    go_wp2_with fail
    refine (gsum16 key u K0.out (by rw [HUS.out]; exact KA.out.1) (by rw [HUS.out]; have := KA.out.2; omega) _ HF4.out).mono ?_
    rintro e w5 ⟨z, rfl, hz, hb5⟩
    have hb05 := below2 hb04 hb5
    have d1 : (z.size : Int) = 16 := by rw [sz_gs hz]; rfl
    rw [HU.out, HT.out] at hz
    have HZ := Lib.hid hz
    clear hb04 hb5 hz
    go_wp2_with fail
    refine (lxor16 x y _ (sz_gs HX.out) (sz_gs HY.out)).mono ?_
    rintro e w6 ⟨v, rfl, hv, hb6⟩
    have hb06 := below2 hb05 hb6
    obtain rfl : z = v := tl_inj (by rw [HZ.out, hv, HX.out, HY.out])
    clear hb05 hb6 hv
    go_wp2_with fail
    go_ret
    exact ⟨rfl, hb06⟩
end Go.Proofs.YtkedoiikkjeadaaDoor
