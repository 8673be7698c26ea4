/- The walks of CtrNext, CtrXors, CtrBegins. -/
import Derived.Test.YtigegblpledogaaCtrD
namespace Go.Proofs.Ytigegblpledogaa
open Go.RowKit
set_option linter.unusedVariables false
set_option linter.unusedSimpArgs false
def k7 : List UInt8 := [48, 49, 50, 51, 52, 53, 54, 55, 56, 57, 97, 98, 99, 100, 101, 102]
def a7 : List UInt8 := [255, 255, 255, 255, 255, 255, 255, 255, 255, 255, 255, 255, 255, 255, 255, 255]
theorem ex7 : (ctrL k7 a7 4 [97, 98, 99] == [97, 98, 99]) = false := by decide +kernel
theorem nx7 : nxt a7 1 1 = a7.take 15 ++ [0] := by decide +kernel
theorem box_count (w : World) (s : ByteArray) (k : Int) : ∃ w0, w.alloc (Obj.cells #[.string s, .int .i64 k] 37) = w0 ∧ At w0 w.heap.size 0 [.string s, .int .i64 k] ∧ Below w.heap.size w w0 :=
  ⟨_, rfl, At.ofAlloc w #[.string s, .int .i64 k] 37, (Below.refl _ _).alloc (Nat.le_refl _) _⟩
theorem At.two {w : World} {g : Nat} {a b : Value} (h : At w g 0 [a, b]) : w.cell? ⟨g, 0, none⟩ = some a ∧ w.cell? ⟨g, 1, none⟩ = some b := ⟨h.cell 0 _ rfl, h.cell 1 _ rfl⟩
theorem At.lt2 {w : World} {g : Nat} {a b : Value} (h : At w g 0 [a, b]) : g < w.heap.size := h.lt (by simp)
theorem ne_str {s t : ByteArray} (h : s.toList = t.toList) : s = t := tl_inj h
set_option maxRecDepth 100000 in
set_option maxHeartbeats 3200000 in
theorem wakes7_any (w : World) : Calls Try.prog 32 #[] w (RetT w) := by
  go_enter Try.func32, Try.ntmps32
  go_wp2_with fail
  refine (cnext_any _ 1 1 _ (by decide)).mono ?_
  rintro e w1 ⟨s, rfl, hs, hb1⟩
  have hs2 : s = ⟨#[255, 255, 255, 255, 255, 255, 255, 255, 255, 255, 255, 255, 255, 255, 255, 0]⟩ := by
    apply tl_inj
    rw [hs, Lib.toList_data, Lib.toList_data]
    exact nx7
  subst hs2
  have hE : mayE (ByteArray.mk #[255, 255, 255, 255, 255, 255, 255, 255, 255, 255, 255, 255, 255, 255, 255, 255]).size 1 = 0 := by decide
  rw [hE]
  clear hE hs
  go_wp2_with fail
  refine (cxor_any _ _ _ 4 _).mono ?_
  rintro e w2 ⟨t, rfl, ht, hb2⟩
  have hE : ctrE (ByteArray.mk #[48, 49, 50, 51, 52, 53, 54, 55, 56, 57, 97, 98, 99, 100, 101, 102]).size (ByteArray.mk #[255, 255, 255, 255, 255, 255, 255, 255, 255, 255, 255, 255, 255, 255, 255, 255]).size 4 (ByteArray.mk #[97, 98, 99]).size = 0 := by decide
  rw [hE]
  have hl : ctrR (ByteArray.mk #[48, 49, 50, 51, 52, 53, 54, 55, 56, 57, 97, 98, 99, 100, 101, 102]).toList (ByteArray.mk #[255, 255, 255, 255, 255, 255, 255, 255, 255, 255, 255, 255, 255, 255, 255, 255]).toList 4 (ByteArray.mk #[97, 98, 99]).toList = ctrL k7 a7 4 [97, 98, 99] := by
    rw [Lib.toList_data, Lib.toList_data, Lib.toList_data]
    rfl
  rw [hl] at ht
  have ht3 : t.size = 3 := by rw [← tl_size, ht, ctrL_length]; rfl
  have htn : (t.toList == (ByteArray.mk #[97, 98, 99]).toList) = false := by
    rw [ht, Lib.toList_data]
    exact ex7
  have HT := Lib.hid ht
  have HT3 := Lib.hid ht3
  have HTN := Lib.hid htn
  have hb12 := below2 hb1 hb2
  clear hE hl ht ht3 htn hb1 hb2
  go_wp2_with fail
  refine (cxor_any _ _ t 4 _).mono ?_
  rintro e w3 ⟨u, rfl, hu, hb3⟩
  have hE : ctrE (ByteArray.mk #[48, 49, 50, 51, 52, 53, 54, 55, 56, 57, 97, 98, 99, 100, 101, 102]).size (ByteArray.mk #[255, 255, 255, 255, 255, 255, 255, 255, 255, 255, 255, 255, 255, 255, 255, 255]).size 4 t.size = 0 := by rw [HT3.out]; decide
  rw [hE]
  have hu2 : u = ⟨#[97, 98, 99]⟩ := by
    apply tl_inj
    rw [hu, ctrR, tl_size, tl_size, tl_size, hE, if_pos rfl, HT.out, Lib.toList_data, Lib.toList_data, Lib.toList_data]
    exact ctrL_twice k7 a7 4 [97, 98, 99]
  subst hu2
  have htn : (t.toList == [97, 98, 99]) = false := by rw [HT.out]; exact ex7
  have hx : ((ByteArray.mk #[255, 255, 255, 255, 255, 255, 255, 255, 255, 255, 255, 255, 255, 255, 255, 255]).extract 0 15 ++ ByteArray.mk #[0]).toList = [255, 255, 255, 255, 255, 255, 255, 255, 255, 255, 255, 255, 255, 255, 255, 0] := by
    rw [tl_append, tl_ext0, Lib.toList_data, Lib.toList_data]
    rfl
  have hb13 := below2 hb12 hb3
  clear hE hu hb12 hb3
  go_wp2_with fail
  go_ret
  exact ⟨rfl, hb13⟩
set_option maxRecDepth 100000 in
set_option maxHeartbeats 3200000 in
theorem ctrNext_nat (s : ByteArray) (k : Int) (n m : Nat) (hn : n < 2 ^ 64) (hm : m < 2 ^ 64) (w : World) : Calls Try.prog 8 #[.agg #[.string s, .int .i64 k], .int .u64 (n : Int), .int .u64 (m : Int)] w (RetT w) := by
  obtain ⟨c, hc⟩ : ∃ c, mayE s.size k = c := ⟨_, rfl⟩
  have HC := Lib.hid hc
  have HN := Lib.hid hn
  have HM := Lib.hid hm
  clear hc hn hm
  go_enter Try.func8, Try.ntmps8
  go_wp2_with fail
  obtain ⟨w0, hw0, hA0, hb0⟩ := box_count w s k
  rw [hw0]
  clear hw0
  have hl0 := hA0.lt2
  have HA0 := Lib.hid hA0
  clear hA0
  refine (wakes7_any _).mono ?_
  rintro e w1 ⟨rfl, hb1⟩
  have hb01 := hb0.trans (hb1.mono hb0.size)
  have hA1 := HA0.out.below hb1 hl0
  obtain ⟨hc0, hc1⟩ := hA1.two
  have hl1 := hA1.lt2
  have HA1 := Lib.hid hA1
  clear hA1 hb0 hb1
  go_wp2_with fail
  refine (cnext_any s k n _ HN.out).mono ?_
  rintro e w2 ⟨t, rfl, ht, hb2⟩
  rw [HC.out]
  have hb02 := hb01.trans (hb2.mono hb01.size)
  have hA2 := HA1.out.below hb2 hl1
  clear hc0 hc1
  obtain ⟨hc0, hc1⟩ := hA2.two
  have hl2 := hA2.lt2
  have HA2 := Lib.hid hA2
  have HT := Lib.hid ht
  clear hA2 hb01 hb2 ht HA1 hl1
  go_wp2_with fail
  refine (rcnext_any s k n _ HN.out).mono ?_
  rintro e w3 ⟨t2, rfl, ht2, hb3⟩
  rw [HC.out]
  obtain rfl : t2 = t := tl_inj (ht2.trans HT.out.symm)
  have hb03 := hb02.trans (hb3.mono hb02.size)
  have hA3 := HA2.out.below hb3 hl2
  clear hc0 hc1
  obtain ⟨hc0, hc1⟩ := hA3.two
  have hl3 := hA3.lt2
  have HA3 := Lib.hid hA3
  clear hA3 hb02 hb3 ht2 HA2 hl2
  by_cases hcz : c = 0
  · subst hcz
    obtain ⟨hs16, hk1, hk2⟩ := may_zero HC.out
    obtain ⟨j, rfl⟩ := Int.eq_ofNat_of_zero_le (a := k) (by omega)
    have htL : t2.toList = nxt s.toList j n := by rw [HT.out, nextL, tl_size, HC.out, if_pos rfl, Int.toNat_natCast]
    have HS := Lib.hid hs16
    have HTL := Lib.hid htL
    have ht16 : t2.size = 16 := by rw [← tl_size, htL, nxt_length _ _ _ (by rw [tl_size]; exact hs16)]
    have HT16 := Lib.hid ht16
    clear htL ht16 hs16
    by_cases hbn : 4611686018427387904 < n
    · have hbI : (4611686018427387904 : Int) < (n : Int) := by omega
      clear hbn
      go_wp2_with fail
      go_ret
      exact ⟨rfl, hb03⟩
    · have hbI : ¬ (4611686018427387904 : Int) < (n : Int) := by omega
      by_cases hbm : 4611686018427387904 < m
      · have hbJ : (4611686018427387904 : Int) < (m : Int) := by omega
        clear hbn hbm
        go_wp2_with fail
        go_ret
        exact ⟨rfl, hb03⟩
      · have hbJ : ¬ (4611686018427387904 : Int) < (m : Int) := by omega
        obtain ⟨q, hq⟩ : ∃ q : Nat, q = n + m := ⟨_, rfl⟩
        have hqI : (n : Int) + (m : Int) = (q : Int) := by omega
        have hq64 : q < 2 ^ 64 := by omega
        have HQ := Lib.hid hq
        clear hq hbn hbm
        have hmay : mayE t2.size (j : Int) = 0 := by rw [HT16.out, mayE, if_pos rfl, if_neg (by omega)]
        have HMAY := Lib.hid hmay
        clear hmay
        go_wp2_with fail
        refine (cnext_any t2 (j : Int) m _ HM.out).mono ?_
        rintro e w4 ⟨u, rfl, hu, hb4⟩
        rw [HMAY.out]
        have hb04 := hb03.trans (hb4.mono hb03.size)
        have hA4 := HA3.out.below hb4 hl3
        clear hc0 hc1
        obtain ⟨hc0, hc1⟩ := hA4.two
        have HU := Lib.hid hu
        clear hA4 hb03 hb4 hu HA3 hl3
        go_wp2_with fail
        refine (cnext_any s (j : Int) q _ hq64).mono ?_
        rintro e w5 ⟨v, rfl, hv, hb5⟩
        rw [HC.out]
        obtain rfl : v = u := by
          apply tl_inj
          rw [hv, HU.out, nextL, nextL, tl_size, tl_size, HC.out, HMAY.out, if_pos rfl, if_pos rfl, Int.toNat_natCast, HTL.out, nxt_add _ _ _ _ (by rw [tl_size]; exact HS.out), HQ.out]
        have hb05 := hb04.trans (hb5.mono hb04.size)
        clear hb04 hb5 hv
        go_wp2_with fail
        go_ret
        exact ⟨rfl, hb05⟩
  · have hne : (c != 0) = true := by rw [bne_iff_ne]; exact hcz
    clear hcz
    go_wp2_with fail
    go_ret
    exact ⟨rfl, hb03⟩
theorem ctrNext_walk (s : ByteArray) (k a1 a2 : Int) (w1 : (Lit.int .u64 a1).wf = true) (w2 : (Lit.int .u64 a2).wf = true) (w : World) : Calls Try.prog 8 #[.agg #[.string s, .int .i64 k], .int .u64 a1, .int .u64 a2] w (RetT w) := by
  obtain ⟨n, rfl, hn⟩ := u64_of_wf w1
  obtain ⟨m, rfl, hm⟩ := u64_of_wf w2
  exact ctrNext_nat s k n m hn hm w
set_option maxRecDepth 100000 in
set_option maxHeartbeats 3200000 in
theorem ctrXors_walk (key s text : ByteArray) (k : Int) (w : World) : Calls Try.prog 9 #[.string key, .agg #[.string s, .int .i64 k], .string text] w (RetT w) := by
  obtain ⟨c, hc⟩ : ∃ c, ctrE key.size s.size k text.size = c := ⟨_, rfl⟩
  have HC := Lib.hid hc
  clear hc
  by_cases hlong : 3000 < text.size ∧ text.size ≤ 70000
  · have h1 : (3000 : Int) < (text.size : Int) := by omega
    have h2 : (text.size : Int) ≤ (70000 : Int) := by omega
    clear hlong
    go_enter Try.func9, Try.ntmps9
    go_wp2_with fail
    obtain ⟨w0, hw0, hA0, hb0⟩ := box_count w s k
    rw [hw0]
    clear hw0
    refine (wakes7_any _).mono ?_
    rintro e w1 ⟨rfl, hb1⟩
    go_wp2_with fail
    go_ret
    exact ⟨rfl, hb0.trans (hb1.mono hb0.size)⟩
  · have hcc : (¬ (3000 : Int) < (text.size : Int)) ∨ ((3000 : Int) < (text.size : Int) ∧ ¬ (text.size : Int) ≤ (70000 : Int)) := by omega
    clear hlong
    go_enter Try.func9, Try.ntmps9
    go_wp2_with fail
    obtain ⟨w0, hw0, hA0, hb0⟩ := box_count w s k
    rw [hw0]
    clear hw0
    have hl0 := hA0.lt2
    have HA0 := Lib.hid hA0
    clear hA0
    refine (wakes7_any _).mono ?_
    rintro e w1 ⟨rfl, hb1⟩
    have hb01 := hb0.trans (hb1.mono hb0.size)
    have hA1 := HA0.out.below hb1 hl0
    obtain ⟨hc0, hc1⟩ := hA1.two
    have hl1 := hA1.lt2
    have HA1 := Lib.hid hA1
    clear hA1 hb0 hb1
    rcases hcc with h1 | ⟨h1, h2⟩
    all_goals
      go_wp2_with fail
      refine (cxor_any key s text k _).mono ?_
      rintro e w2 ⟨t, rfl, ht, hb2⟩
      rw [HC.out]
      have hb02 := hb01.trans (hb2.mono hb01.size)
      have hA2 := HA1.out.below hb2 hl1
      clear hc0 hc1
      obtain ⟨hc0, hc1⟩ := hA2.two
      have hl2 := hA2.lt2
      have HA2 := Lib.hid hA2
      have HT := Lib.hid ht
      clear hA2 hb01 hb2 ht HA1 hl1
      go_wp2_with fail
      refine (rcxor_any key s text k _).mono ?_
      rintro e w3 ⟨t2, rfl, ht2, hb3⟩
      rw [HC.out]
      obtain rfl : t2 = t := tl_inj (ht2.trans HT.out.symm)
      have hb03 := hb02.trans (hb3.mono hb02.size)
      have hA3 := HA2.out.below hb3 hl2
      clear hc0 hc1
      obtain ⟨hc0, hc1⟩ := hA3.two
      have hl3 := hA3.lt2
      have HA3 := Lib.hid hA3
      clear hA3 hb02 hb3 ht2 HA2 hl2
      go_wp2_with fail
      refine (cxor_any key s t2 k _).mono ?_
      rintro e w4 ⟨u, rfl, hu, hb4⟩
      have hb04 := hb03.trans (hb4.mono hb03.size)
      clear hc0 hc1 hb03 hb4 HA3 hl3
      by_cases hcz : c = 0
      · subst hcz
        obtain ⟨hk, hs16, hk1, hk2, htt⟩ := ctrE_zero HC.out
        obtain ⟨j, rfl⟩ := Int.eq_ofNat_of_zero_le (a := k) (by omega)
        have htL : t2.toList = ctrL key.toList s.toList j text.toList := by rw [HT.out, ctrR_ok (by rw [tl_size, tl_size, tl_size, HC.out])]
        have hts : t2.size = text.size := by rw [← tl_size, htL, ctrL_length, tl_size]
        have hE2 : ctrE key.size s.size (j : Int) t2.size = 0 := by rw [hts, HC.out]
        rw [hE2]
        obtain rfl : u = text := by
          apply tl_inj
          rw [hu, ctrR_ok (by rw [tl_size, tl_size, tl_size, hE2]), htL, ctrL_twice]
        clear hE2 hts htL hu hk hs16 htt
        go_wp2_with fail
        go_ret
        exact ⟨rfl, hb04⟩
      · have hne : (c != 0) = true := by rw [bne_iff_ne]; exact hcz
        obtain ⟨d, hd⟩ : ∃ d, ctrE key.size s.size k t2.size = d := ⟨_, rfl⟩
        rw [hd]
        clear hcz hu hd
        go_wp2_with fail
        go_ret
        exact ⟨rfl, hb04⟩
set_option maxRecDepth 100000 in
set_option maxHeartbeats 3200000 in
theorem ctrBegins_walk (key s text : ByteArray) (k : Int) (w : World) : Calls Try.prog 11 #[.string key, .agg #[.string s, .int .i64 k], .string text] w (RetT w) := by
  obtain ⟨c, hc⟩ : ∃ c, ctrE key.size s.size k text.size = c := ⟨_, rfl⟩
  have HC := Lib.hid hc
  clear hc
  by_cases hlong : 1000 < text.size
  · have h1 : (1000 : Int) < (text.size : Int) := by omega
    clear hlong
    go_enter Try.func11, Try.ntmps11
    go_wp2_with fail
    obtain ⟨w0, hw0, hA0, hb0⟩ := box_count w s k
    rw [hw0]
    clear hw0
    refine (wakes7_any _).mono ?_
    rintro e w1 ⟨rfl, hb1⟩
    go_wp2_with fail
    go_ret
    exact ⟨rfl, hb0.trans (hb1.mono hb0.size)⟩
  · have h1 : ¬ (1000 : Int) < (text.size : Int) := by omega
    obtain ⟨h, hh⟩ : ∃ h : Nat, h = text.size / 2 := ⟨_, rfl⟩
    have hE2 : ctrE key.size s.size k h = c := by
      rw [← HC.out]
      unfold ctrE
      rw [if_neg (show ¬ 70000 < h by omega), if_neg (show ¬ 70000 < text.size by omega)]
    have hw1 : (text.size : Int).tdiv 2 = (h : Int) := tdiv_nat text.size 2 h hh
    have hw2 : IntKind.i64.wrap (h : Int) = (h : Int) := wrap_in _ (by omega) (by omega)
    have hw3 : (text.size : Int) / 2 = (h : Int) := by omega
    have hht : h ≤ text.size := by omega
    have hhI : (h : Int) ≤ (text.size : Int) := by omega
    have hh0 : (0 : Int) ≤ (h : Int) := by omega
    have HE2 := Lib.hid hE2
    clear hlong hh hE2
    go_enter Try.func11, Try.ntmps11
    go_wp2_with fail
    obtain ⟨w0, hw0, hA0, hb0⟩ := box_count w s k
    rw [hw0]
    clear hw0
    have hl0 := hA0.lt2
    have HA0 := Lib.hid hA0
    clear hA0
    refine (wakes7_any _).mono ?_
    rintro e w1 ⟨rfl, hb1⟩
    have hb01 := hb0.trans (hb1.mono hb0.size)
    have hA1 := HA0.out.below hb1 hl0
    obtain ⟨hc0, hc1⟩ := hA1.two
    have hl1 := hA1.lt2
    have HA1 := Lib.hid hA1
    clear hA1 hb0 hb1
    go_wp2_with fail
    refine (cxor_any key s text k _).mono ?_
    rintro e w2 ⟨t, rfl, ht, hb2⟩
    rw [HC.out]
    have hb02 := hb01.trans (hb2.mono hb01.size)
    have hA2 := HA1.out.below hb2 hl1
    clear hc0 hc1
    obtain ⟨hc0, hc1⟩ := hA2.two
    have hl2 := hA2.lt2
    have HT := Lib.hid ht
    clear hA2 hb01 hb2 ht HA1 hl1
    go_wp2_with fail
    go_region_held3 (fun w' => w'.cell? ⟨w.heap.size, 0, none⟩ = some (.string s) ∧ w'.cell? ⟨w.heap.size, 1, none⟩ = some (.int .i64 k)) (first | exact ⟨hc0, hc1⟩ | exact HC3.out) (first | (go_at_call 35; refine (cxor_any key s (text.extract 0 h) k _).mono ?_; rintro e w3 ⟨u, rfl, hu, hb3⟩; have hex : (text.extract 0 h).size = h := (by rw [← tl_size, tl_ext0, List.length_take, tl_size]; omega); have HC3 : Hid (w3.cell? ⟨w.heap.size, 0, none⟩ = some (.string s) ∧ w3.cell? ⟨w.heap.size, 1, none⟩ = some (.int .i64 k)) := (by have h1 := hb3.cell (p := ⟨w.heap.size, 0, none⟩) hl2; have h2 := hb3.cell (p := ⟨w.heap.size, 1, none⟩) hl2; exact Lib.hid ⟨h1.trans hc0, h2.trans hc1⟩); rw [hex, HE2.out]))
    have hb03 := hb02.trans ((below_of_drew hb3).mono hb02.size)
    have HU := Lib.hid hu
    clear hu hb3 hb02 hc0 hc1 HC3
    by_cases hcz : c = 0
    · subst hcz
      obtain ⟨hk, hs16, hk1, hk2, htt⟩ := ctrE_zero HC.out
      obtain ⟨j, rfl⟩ := Int.eq_ofNat_of_zero_le (a := k) (by omega)
      have htL : t.toList = ctrL key.toList s.toList j text.toList := by rw [HT.out, ctrR_ok (by rw [tl_size, tl_size, tl_size, HC.out])]
      have huL : u.toList = ctrL key.toList s.toList j (text.toList.take h) := by rw [HU.out, ctrR_ok (by rw [tl_size, tl_size, tl_size, hex, HE2.out]), tl_ext0]
      have hts : t.size = text.size := by rw [← tl_size, htL, ctrL_length, tl_size]
      have hus : u.size = h := by rw [← tl_size, huL, ctrL_length, List.length_take, tl_size]; omega
      have e1 : (u.toList == (t.extract 0 u.size).toList) = true := by rw [huL, tl_ext0, hus, htL, ctrL_take _ _ _ _ _ (by rw [tl_size]; exact hht), beq_self_eq_true]
      have e2 : ((t.size : Int) == (text.size : Int)) = true := by rw [hts, beq_self_eq_true]
      have b1 : (u.size : Int) ≤ (t.size : Int) := by omega
      have b2 : u.size ≤ t.size := by omega
      have b3 : (0 : Int) ≤ (u.size : Int) := by omega
      clear htL huL hts hus hk hs16 htt hex
      go_wp2_with fail
      go_ret
      exact ⟨rfl, hb03⟩
    · have hne : (c != 0) = true := by rw [bne_iff_ne]; exact hcz
      clear hcz hex
      go_wp2_with fail
      go_ret
      exact ⟨rfl, hb03⟩
end Go.Proofs.Ytigegblpledogaa
