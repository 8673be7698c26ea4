/- The contracts of the document's Stream and Xor; what Xor refuses. -/
import Derived.Test.YtigegblpledogaaCtrB
import Derived.Test.YtigegblpledogaaOctC
import Derived.Test.YtigegblpledogaaAesBe
import Derived.Test.YtigegblpledogaaAesBo
namespace Go.Proofs.Ytigegblpledogaa
open Go.RowKit
set_option linter.unusedVariables false
set_option linter.unusedSimpArgs false
theorem At.take {w : World} {g : Nat} {l : List UInt8} (h : At w g 0 (bcells l)) (n : Nat) : At w g 0 (bcells (l.take n)) := by
  rw [← List.take_append_drop n l, bcells_append] at h
  exact h.split.1
theorem rcnext_ok (s : ByteArray) (wd n : Nat) (w : World) (hn : n < 2 ^ 64) (hs : s.size = 16) (h1 : 1 ≤ wd) (h16 : wd ≤ 16) : Calls Try.prog 34 #[.string s, .int .i64 (wd : Int), .int .u64 (n : Int)] w (RetSE (nxt s.toList wd n) 0 w) := by
  have h := rcnext_any s (wd : Int) n w hn
  have hE : mayE s.size (wd : Int) = 0 := by rw [mayE, if_pos hs, if_neg (by omega)]
  have hL : nextL s.toList (wd : Int) n = nxt s.toList wd n := by rw [nextL, tl_size, if_pos hE, Int.toNat_natCast]
  rwa [hE, hL] at h
theorem own_slice {w : World} {B e n : Nat} {v : Value} {xs : List Value} (h : w.ownsRow B e 1 v n xs) : ∃ p cap, v = .slice p n cap := by
  rcases h.2 with ⟨rfl, rfl⟩ | ⟨g, cap, cur, rfl, _⟩
  · exact ⟨none, 0, rfl⟩
  · exact ⟨some ⟨g, 0, none⟩, cap, rfl⟩
set_option maxRecDepth 100000 in
set_option maxHeartbeats 3200000 in
theorem rstream_zero (start : ByteArray) (wd : Nat) (w : World) (g : Nat) : Calls Try.prog 62 #[.pointer (some ⟨g, 0, none⟩), .string start, .int .i64 (wd : Int), .int .i64 0] w (RetS [] w) := by
  go_enter Try.func62, Try.ntmps62
  go_wp2_with fail
  go_loopw [9] (fun v wr => v = .slice none 0 0 ∧ w = wr) (fun _ _ => 0)
  case atStart => exact ⟨rfl, rfl⟩
  case round =>
    obtain ⟨rfl, rfl⟩ := hrel
    have hcv := run_convert_bytes_nil (P := Try.prog) w 52 5 Try.underlying52 Try.underlying5 0 0 9 Try.underlying9
    go_wp2_with fail
    go_ret
    exact ⟨_, rfl, tl_mk [], Below.refl _ _⟩
set_option maxRecDepth 100000 in
set_option maxHeartbeats 3200000 in
theorem rstream_pos (start : ByteArray) (wd n : Nat) (w : World) (g : Nat) (K : List UInt8) (hB : Box w g K) (hK : K.length = 16 ∨ K.length = 24 ∨ K.length = 32) (hs : start.size = 16) (h1 : 1 ≤ wd) (h16 : wd ≤ 16) (hn : n ≤ 70000) (hn0 : 0 < n) :
    Calls Try.prog 62 #[.pointer (some ⟨g, 0, none⟩), .string start, .int .i64 (wd : Int), .int .i64 (n : Int)] w (RetS ((ctrS K start.toList wd (blk n)).take n) w) := by
  obtain ⟨i0, hi, hz0, hz1, hz2⟩ := info_parts info5
  have HB := Lib.hid hB
  have HS := Lib.hid hs
  clear hB hs
  go_enter Try.func62, Try.ntmps62
  go_wp2_with fail
  go_loopw [9, 10] (fun v i wr => ∃ k m : Nat, m = 16 * k ∧ m ≤ n + 15 ∧ i = .int .u64 k ∧ wr.ownsRow w.heap.size 5 1 v m (bcells (ctrS K start.toList wd k)) ∧ Below w.heap.size w wr) (fun v _ _ => n - lenOf v)
  case atStart => exact ⟨0, 0, rfl, by omega, rfl, World.ownsRow_nil _ _ _ _, Below.refl _ _⟩
  case round =>
    obtain ⟨k, m, hm, hmn, rfl, hO, hbl⟩ := hrel
    obtain ⟨p, cap, rfl⟩ := own_slice hO
    have HO := Lib.hid hO
    have HMK := Lib.hid hm
    have hsz := hbl.size
    clear hO
    by_cases hlt : m < n
    · have hltI : (m : Int) < (n : Int) := by omega
      have hkb : k < 2 ^ 64 := by omega
      have hk1 : (k : Int) < 100000 := by omega
      clear hm
      go_wp2_with fail
      refine (rcnext_ok start wd k _ hkb HS.out h1 h16).mono ?_
      rintro e w1 ⟨c, rfl, hc, hb1⟩
      have hcs : c.size = 16 := by rw [← tl_size, hc, nxt_length _ _ _ (by rw [tl_size]; exact HS.out)]
      have hb01 := hbl.trans (hb1.mono hsz)
      have HC := Lib.hid hc
      have HO1 := Lib.hid (own_below HO.out hb1 (Nat.le_refl _))
      clear hc hb1
      go_wp2_with fail
      refine (rencrypt_any c _ g K (HB.out.below hb01 (Nat.le_refl _)) hK hcs).mono ?_
      rintro e w2 ⟨s, rfl, hs2, hb2⟩
      have hss : s.size = 16 := by rw [← tl_size, hs2, encL_length]
      have hb02 := hb01.trans (hb2.mono hb01.size)
      have HO2 := Lib.hid (own_below HO1.out hb2 (Nat.le_refl _))
      have HSS := Lib.hid hss
      have HX := Lib.hid hs2
      have hbs := hb02.size
      clear hss hs2 hb2 HO1 hcs
      go_wp2_with (at_builtin; refine Lib.wpList_append_own_string _ rfl (.tmp 26) (.tmp 29) 52 9 rfl w.heap.size 5 i0 Try.underlying52 Try.underlying9 hi hz0 hz1 hz2 (.slice p m cap) m _ rfl HO2.out s rfl (by rw [HSS.out]; unfold maxLen; omega) (by rw [HSS.out]; omega) hbs ?_; intro v' w3 hown3 hgrow3 _)
      have e1 : Lib.strCells s = bcells s.toList := by
        rw [Lib.toList_data]
        simp [Lib.strCells, bcells]
      rw [e1, ← bcells_append, HX.out, HC.out, HSS.out] at hown3
      have hb03 := hb02.grown hgrow3 hbs (fun b hb => (HO2.out.lt b hb).1)
      obtain ⟨p', cap', rfl⟩ := own_slice hown3
      have HO3 := Lib.hid hown3
      clear hown3 hgrow3 e1 HO2
      go_wp2_with fail
      go_roundw
      case rel => exact ⟨k + 1, m + 16, by have := HMK.out; omega, by omega, by go_num, HO3.out, hb03⟩
      case measure => simp [lenOf]; omega
    · have hm0 : 0 < m := by omega
      obtain ⟨gv, cap', hv⟩ := own_is HO.out hm0
      injection hv with hp _ hcap
      subst hp hcap
      have hcapm : m ≤ cap := by
        rcases HO.out.2 with ⟨h, _⟩ | ⟨g', cap', cur, hv, _, _, hc, _⟩
        · cases h
        · cases hv; exact hc
      have hA := At.ofOwnN HO.out
      have hA2 := hA.take n
      have hl : ((ctrS K start.toList wd k).take n).length = n := by rw [List.length_take, ctrS_length]; omega
      have hk2 : ∃ j, k = blk n + j := ⟨k - blk n, by unfold blk; omega⟩
      obtain ⟨j, hj⟩ := hk2
      have hfin : (ctrS K start.toList wd k).take n = (ctrS K start.toList wd (blk n)).take n := by
        rw [hj, ← ctrS_take K start.toList wd j (blk n), List.take_take, Nat.min_eq_left (by unfold blk; omega)]
      have hcv := convert_at (P := Try.prog) (cap := cap) hA2 52 9 5 n hl Try.underlying52 Try.underlying5 Try.underlying9
      have HF := Lib.hid hfin
      have hltI : ¬ (m : Int) < (n : Int) := by omega
      have hncI : (n : Int) ≤ (cap : Int) := by omega
      have hnc : n ≤ cap := by omega
      have hn0I : (0 : Int) ≤ (n : Int) := by omega
      clear hA hA2 hl hj hfin hm HO HMK
      go_wp2_with fail
      go_ret
      exact ⟨_, rfl, by rw [tl_mk, HF.out], hbl⟩
set_option maxRecDepth 100000 in
set_option maxHeartbeats 3200000 in
theorem rcxor_ok (key start text : ByteArray) (wd : Nat) (w : World) (hk : key.size = 16 ∨ key.size = 24 ∨ key.size = 32) (hs : start.size = 16) (h1 : 1 ≤ wd) (h16 : wd ≤ 16) (ht : text.size ≤ 70000) :
    Calls Try.prog 36 #[.string key, .string start, .int .i64 (wd : Int), .string text] w (RetSE (ctrL key.toList start.toList wd text.toList) 0 w) := by
  have hTI : ¬ (70000 : Int) < (text.size : Int) := by omega
  have hK : Hid (key.toList.length = 16 ∨ key.toList.length = 24 ∨ key.toList.length = 32) := by rw [tl_size]; exact hk
  have HS := Lib.hid hs
  clear hs
  go_enter Try.func36, Try.ntmps36
  go_wp2_with fail
  refine (right_yes key _ hk).mono ?_
  rintro e w1 ⟨rfl, rfl⟩
  go_wp2_with fail
  refine (rcnext_ok start wd 0 _ (by decide) HS.out h1 h16).mono ?_
  rintro e w1 ⟨c, rfl, hc, hb1⟩
  clear hc
  go_wp2_with fail
  refine (rnew_any key _ hk).mono ?_
  rintro e w2 ⟨g, hg, rfl, hB, hb2⟩
  have hb12 := hb1.trans (hb2.mono hb1.size)
  clear hb1 hb2 hg
  go_wp2_with fail
  by_cases h0 : text.size = 0
  · have hnil : text.toList = [] := List.eq_nil_of_length_eq_zero (by rw [tl_size]; exact h0)
    rw [h0]
    refine (rstream_zero start wd _ g).mono ?_
    rintro e w3 ⟨s, rfl, hs3, hb3⟩
    have hb13 := hb12.trans (hb3.mono hb12.size)
    have HS3 := Lib.hid hs3
    have HNIL := Lib.hid hnil
    have hsz : s.size ≤ 140737488351232 := by rw [← tl_size, hs3]; decide
    clear hs3 hnil hb12 hb3 h0
    go_wp2_with fail
    refine (rxor_any text s _ (by omega) hsz).mono ?_
    rintro e w4 ⟨t, rfl, htt, hb4⟩
    go_wp2_with fail
    go_ret2
    refine ret_se htt ?_ rfl (hb13.trans (hb4.mono hb13.size))
    rw [HS3.out, HNIL.out]
    rfl
  · refine (rstream_pos start wd text.size _ g _ hB hK.out HS.out h1 h16 ht (by omega)).mono ?_
    rintro e w3 ⟨s, rfl, hs3, hb3⟩
    have hb13 := hb12.trans (hb3.mono hb12.size)
    have HS3 := Lib.hid hs3
    have hsz : s.size ≤ 140737488351232 := by rw [← tl_size, hs3, List.length_take, ctrS_length]; omega
    clear hs3 hb12 hb3 h0
    go_wp2_with fail
    refine (rxor_any text s _ (by omega) hsz).mono ?_
    rintro e w4 ⟨t, rfl, htt, hb4⟩
    go_wp2_with fail
    go_ret2
    refine ret_se htt ?_ rfl (hb13.trans (hb4.mono hb13.size))
    rw [HS3.out, ← tl_size, xorL_cut _ _ _ (Nat.le_refl _)]
    rfl
end Go.Proofs.Ytigegblpledogaa
