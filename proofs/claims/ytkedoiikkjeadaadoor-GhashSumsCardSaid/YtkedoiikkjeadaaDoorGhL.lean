/- The field of 128 bits: the document's Sum. -/
import Derived.Test.YtkedoiikkjeadaaDoorGhF
import Derived.Test.YtkedoiikkjeadaaDoorGhK
import Derived.Test.YtkedoiikkjeadaaDoorOctC
namespace Go.Proofs.YtkedoiikkjeadaaDoor
open Go.RowKit
set_option linter.unusedVariables false
set_option linter.unusedSimpArgs false
theorem gx_blk (s : ByteArray) (n o e : Nat) (ho : o = 16 * n) (he : e = o + 16) : (s.extract o e).toList = blk s.toList n := by
  subst he ho
  rw [Lib.extract_toList, ← Lib.toList_data, blk, Nat.add_sub_cancel_left]
theorem gh_tmod (a b c : Nat) (h : c = a % b) : (a : Int).tmod (b : Int) = (c : Int) := by
  rw [Int.tmod_eq_emod_of_nonneg (by omega), h]
  rfl
theorem gh_wrap (n : Int) (h0 : 0 ≤ n) (h1 : n < 9223372036854775808) : IntKind.i64.wrap n = n := by
  simp only [IntKind.wrap, IntKind.bits, IntKind.signed]
  simp
  omega
theorem rgm16 (a b : ByteArray) (ha : a.size = 16) (hb : b.size = 16) (w : World) : Calls Tryd.prog 15 #[.string a, .string b] w (RetSE (gmL a.toList b.toList) 0 w) := by
  have h := rgmul_any a b w
  have hok : gmOk a.toList b.toList = true := by rw [gmOk, tl_size, tl_size, ha, hb]; rfl
  rwa [gmT, gmE, hok, if_pos rfl, if_pos rfl] at h
theorem gs_step (key text : ByteArray) (x y : ByteArray) (n : Nat) (hk : key.size = 16) (hx : x.toList = be 16 (gsF (ofBe key.toList) 0 text.toList n)) (hn : 16 * n + 16 ≤ text.size) (hy : y.toList = xorL x.toList (blk text.toList n)) :
    gmL y.toList key.toList = be 16 (gsF (ofBe key.toList) 0 text.toList (n + 1)) := by
  have hk2 := of16_lt key.toList (by rw [tl_size]; exact hk)
  rw [gmL, hy, ofBe_xor _ _ (by rw [hx, be_length, blk_length _ _ (by rw [tl_size]; exact hn)]), hx, ofBe16 _ (gsF_lt _ _ _ hk2 (by decide) _), gsF_succ]
set_option maxRecDepth 100000 in
theorem rgsum_any (key text : ByteArray) (w : World) : Calls Tryd.prog 18 #[.string key, .string text] w (RetSE (gsT key.toList text.toList) (gsE key.toList text.toList) w) := by
  obtain ⟨i0, hi, hz0, hz1, hz2⟩ := info_parts info5
  by_cases h1 : key.size = 16
  rotate_left
  · have hE : gsE key.toList text.toList = 3 := by rw [gsE, if_neg (by rw [tl_size]; exact h1)]
    have hT : gsT key.toList text.toList = [] := by rw [gsT, hE, if_neg (by decide)]
    rw [hE, hT]
    have e1 : ((key.size : Int) != 16) = true := by rw [bne_iff_ne]; omega
    clear hE hT h1
    go_enter Tryd.func18, Tryd.ntmps18
    go_wp2_with fail
    go_ret2
    exact ret_se emptyL rfl rfl (Below.refl _ _)
  have e1 : ((key.size : Int) != 16) = false := by rw [bne_eq_false_iff_eq]; omega
  obtain ⟨r, hr⟩ : ∃ r, text.size % 16 = r := ⟨_, rfl⟩
  have e3 : (text.size : Int).tmod 16 = (r : Int) := gh_tmod text.size 16 r hr.symm
  have e4 : IntKind.i64.wrap (r : Int) = (r : Int) := gh_wrap _ (by omega) (by omega)
  by_cases h2 : r = 0
  rotate_left
  · have hE : gsE key.toList text.toList = 6 := by rw [gsE, if_pos (by rw [tl_size]; exact h1), if_neg (by rw [tl_size]; omega)]
    have hT : gsT key.toList text.toList = [] := by rw [gsT, hE, if_neg (by decide)]
    rw [hE, hT]
    have e2 : ((r : Int) != 0) = true := by rw [bne_iff_ne]; omega
    clear hE hT h1 hr
    go_enter Tryd.func18, Tryd.ntmps18
    go_wp2_with fail
    go_ret2
    exact ret_se emptyL rfl rfl (Below.refl _ _)
  subst h2
  have e2 : (((0 : Nat) : Int) != 0) = false := rfl
  by_cases h3 : text.size ≤ 210000
  rotate_left
  · have hE : gsE key.toList text.toList = 6 := by rw [gsE, if_pos (by rw [tl_size]; exact h1), if_neg (by rw [tl_size]; omega)]
    have hT : gsT key.toList text.toList = [] := by rw [gsT, hE, if_neg (by decide)]
    rw [hE, hT]
    have e5 : (210000 : Int) < (text.size : Int) := by omega
    clear hE hT h1 hr
    go_enter Tryd.func18, Tryd.ntmps18
    go_wp2_with fail
    go_ret2
    exact ret_se emptyL rfl rfl (Below.refl _ _)
  have e5 : ¬ (210000 : Int) < (text.size : Int) := by omega
  obtain ⟨hE, hT⟩ := gs_ok key.toList text.toList (by rw [tl_size]; exact h1) (by rw [tl_size]; exact hr) (by rw [tl_size]; exact h3)
  rw [hE, hT]
  obtain ⟨n, hn⟩ : ∃ n, text.size = 16 * n := ⟨text.size / 16, by omega⟩
  have hnb : n ≤ 13125 := by omega
  have HN := Lib.hid hn
  have HK := Lib.hid h1
  have HF := Lib.hid (bcells_made 16)
  have hby : i0.bytes * 16 ≤ 281474976710656 := by rw [hz2]; decide
  have hmax : 16 ≤ maxLen := by decide
  obtain ⟨zx, hzx⟩ : ∃ zx : ByteArray, (⟨(List.replicate 16 (0 : UInt8)).toArray⟩ : ByteArray) = zx := ⟨_, rfl⟩
  have HZX := Lib.hid hzx
  have HZL : Hid (zx.toList = be 16 0) := by show _ = _; rw [← hzx, tl_mk]; rfl
  clear hE hT h1 hr hzx h3 hn
  go_enter Tryd.func18, Tryd.ntmps18
  go_wp2_with (at_make; refine wpList_make_full _ rfl (.const (.int .i64 16)) (.const (.int .i64 16)) 56 rfl w.heap.size 5 i0 (.int .u8 0) 1 Tryd.underlying56 hi hz0 hz1 .i64 .i64 _ _ 16 rfl rfl rfl rfl hby hmax (Nat.le_refl _) ?_; intro w2 hown2 hgrow2; rw [HF.out] at hown2; have hcv2 := run_convert_own (P := Tryd.prog) hown2 56 9 Tryd.underlying56 Tryd.underlying5 Tryd.underlying9; rw [HZX.out] at hcv2; have hb02 := (Below.refl w.heap.size w).grown hgrow2 (Nat.le_refl _) (by simp); clear hown2 hgrow2)
  clear hcv2
  go_loopw [6, 7] (fun vi vo wr => ∃ (k o : Nat) (x : ByteArray), o = 16 * k ∧ vi = .string x ∧ vo = .int .i64 (o : Int) ∧ k ≤ n ∧ x.size = 16 ∧ x.toList = be 16 (gsF (ofBe key.toList) 0 text.toList k) ∧ Below w.heap.size w wr) (fun _ vo _ => 16 * n - (intOf vo).toNat)
  case atStart => exact ⟨0, 0, zx, rfl, rfl, rfl, Nat.zero_le _, by rw [← tl_size, HZL.out, be_length], HZL.out, hb02⟩
  case round =>
    clear hb02
    obtain ⟨k, o, x, ho, rfl, rfl, hkn, hxs, hxl, hbel⟩ := hrel
    have HO := Lib.hid ho
    have HXS := Lib.hid hxs
    have HXL := Lib.hid hxl
    by_cases hlt : o < text.size
    · have hltI : (o : Int) < (text.size : Int) := by omega
      have hkn1 : k < n := by have := HN.out; omega
      obtain ⟨e1, he⟩ : ∃ e1, e1 = o + 16 := ⟨_, rfl⟩
      have q1 : (o : Int) + 16 = (e1 : Int) := by omega
      have q2 : IntKind.i64.wrap (e1 : Int) = (e1 : Int) := gh_wrap _ (by omega) (by omega)
      have q3 : (0 : Int) ≤ (o : Int) := by omega
      have q4 : (o : Int) ≤ (e1 : Int) := by omega
      have q5 : o ≤ e1 := by omega
      have q6 : (e1 : Int) ≤ (text.size : Int) := by have := HN.out; omega
      have q7 : e1 ≤ text.size := by have := HN.out; omega
      obtain ⟨bk, hbk⟩ : ∃ bk, text.extract o e1 = bk := ⟨_, rfl⟩
      have hbl : bk.toList = blk text.toList k := by rw [← hbk]; exact gx_blk text k o e1 ho he
      have hbs : bk.size = 16 := by rw [← tl_size, hbl, blk_length _ _ (by rw [tl_size]; omega)]
      have HBL := Lib.hid hbl
      have HBS := Lib.hid hbs
      have HE := Lib.hid he
      have hxz : x.size ≤ 140737488351232 := by omega
      have hbz : bk.size ≤ 140737488351232 := by omega
      clear ho hxs hxl he hbl hbs
      go_wp2_with fail
      refine (rxor_any x bk _ hxz hbz).mono ?_
      rintro e w3 ⟨y, rfl, hy, hb3⟩
      have hys : y.size = 16 := by rw [← tl_size, hy, xorL_len, tl_size, tl_size, HXS.out, HBS.out]; rfl
      have hb03 := hbel.trans (hb3.mono hbel.size)
      rw [HBL.out] at hy
      have HY := Lib.hid hy
      clear hy hb3
      go_wp2_with fail
      refine (rgm16 y key hys HK.out _).mono ?_
      rintro e w4 ⟨z, rfl, hz, hb4⟩
      have hb04 := hb03.trans (hb4.mono hb03.size)
      have hzs : z.size = 16 := by rw [← tl_size, hz, gmL_length]
      rw [gs_step key text x y k HK.out HXL.out (by have := HO.out; have := HE.out; omega) HY.out] at hz
      have HZ := Lib.hid hz
      have HZS := Lib.hid hzs
      clear hz hzs hb4 hb03 hbel hys
      go_wp2_with fail
      go_roundw
      case rel => exact ⟨k + 1, e1, z, by have := HO.out; have := HE.out; omega, rfl, by go_num, hkn1, HZS.out, HZ.out, hb04⟩
      case measure => have := HE.out; have := HN.out; simp [intOf]; omega
    · have hkn1 : k = n := by have := HN.out; omega
      subst hkn1
      have hltI : ¬ (o : Int) < (text.size : Int) := by omega
      clear ho hxs hxl
      go_wp2_with fail
      go_ret2
      refine ret_se HXL.out ?_ rfl hbel
      rw [gsL, tl_size, HN.out, Nat.mul_div_cancel_left _ (by decide)]
end Go.Proofs.YtkedoiikkjeadaaDoor
