/- The contract of Encode. -/
import Derived.Test.YtkjenmkgamnchaaBasA
namespace Go.Proofs.Ytkjenmkgamnchaa
open Go.RowKit
set_option linter.unusedVariables false
set_option linter.unusedSimpArgs false
set_option maxHeartbeats 1600000 in
theorem encode_any (s : ByteArray) (w : World) (hs : s.size ≤ 1073741824) :
    Calls Try.prog 8 #[.string s] w (RetS (encL s.toList) w) := by
  obtain ⟨i0, hi, hz0, hz1, hz2⟩ := info_parts info5
  obtain ⟨c, hc⟩ : ∃ c, c = encN s.size := ⟨_, rfl⟩
  have hc2 : (8 * (s.size : Int) + 5) / 6 = (c : Int) := by unfold encN at hc; omega
  have hc3 : c ≤ 2147483648 := by unfold encN at hc; omega
  have HC := Lib.hid hc
  have HC2 := Lib.hid hc2
  clear hc hc2
  go_enter Try.func8, Try.ntmps8
  go_wp2_with (at_make; refine wpList_make_own _ rfl (.const (.int .i64 0)) (.tmp 11) 31 rfl w.heap.size 5 i0 (.int .u8 0) 1 Try.underlying31 hi hz0 hz1 .i64 .i64 _ c rfl rfl HC2.out (by rw [hz2]; omega) (by unfold maxLen; omega) (Nat.le_refl _) ?_; intro w1 hown hgrow)
  have hbel := (Below.refl w.heap.size w).grown hgrow (Nat.le_refl _) (by simp)
  clear hgrow
  go_wp2
  go_loopw [3, 4, 5, 15] (fun v g n i wr => ∃ k x : Nat, k ≤ s.size ∧ i = .int .i64 k ∧ n = .int .i64 ((8 * k % 6 : Nat) : Int) ∧ g = .int .u32 (x : Int) ∧ x = ofBe (s.toList.take k) % 4294967296 ∧ wr.ownsRow w.heap.size 5 1 v (8 * k / 6) (bcells ((encL s.toList).take (8 * k / 6))) ∧ Below w.heap.size w wr) (fun _ _ _ i _ => s.size - (intOf i).toNat)
  case atStart => exact ⟨0, 0, Nat.zero_le _, rfl, rfl, rfl, rfl, hown, hbel⟩
  case round =>
    clear hown hbel
    obtain ⟨k, x, hk, rfl, rfl, rfl, hx, hown, hbel⟩ := hrel
    have HO := Lib.hid hown
    have HX := Lib.hid hx
    clear hown hx
    by_cases hlt : k < s.size
    · obtain ⟨b, hb⟩ : ∃ b : UInt8, s[k] = b := ⟨_, rfl⟩
      have hb2 := b.toNat_lt
      have HK : Hid (s.toList[k]? = some b) := by rw [← hb]; exact tl_get s k hlt
      have hx2 : x < 4294967296 := by rw [HX.out]; omega
      obtain ⟨y, hy, hy2⟩ : ∃ y : Nat, bits .or .u32 ((x : Int) * 256 % 4294967296) (b.toNat : Int) = (y : Int) ∧ y = ofBe (s.toList.take (k + 1)) % 4294967296 := ⟨_, or32 (ofBe (s.toList.take k)) b x HX.out, by rw [ofBe_take _ k b HK.out]⟩
      have HY := Lib.hid hy2
      clear hy2
      have hy3 : y < 4294967296 := by rw [HY.out]; omega
      obtain ⟨r, hr⟩ : ∃ r : Nat, 8 * k % 6 = r := ⟨_, rfl⟩
      have hr2 : r ≤ 4 := by omega
      have er : (8 * (k : Int)) % 6 = (r : Int) := by omega
      have HR := Lib.hid hr
      clear hr
      go_wp2
      have hbel0 := hbel
      have HO0 := HO
      clear hbel HO hy er
      go_loopw [3, 5] (fun v n wq => ∃ m j : Nat, n = .int .i64 (m : Int) ∧ 8 * (k + 1) = 6 * j + m ∧ m ≤ 12 ∧ wq.ownsRow w.heap.size 5 1 v j (bcells ((encL s.toList).take j)) ∧ Below w.heap.size w wq) (fun _ n _ => (intOf n).toNat)
      case atStart => exact ⟨r + 8, 8 * k / 6, by go_num, by have := HR.out; omega, by omega, HO0.out, hbel0⟩
      case round =>
        clear hbel0 HO0
        obtain ⟨m, j, rfl, hm, hm12, hown, hbel⟩ := hrel
        have HO := Lib.hid hown
        have HM := Lib.hid hm
        clear hown hm
        have hsz := hbel.size
        by_cases h6 : 6 ≤ m
        · obtain ⟨d, hd⟩ : ∃ d : Nat, (m : Int) - 6 = (d : Int) := ⟨m - 6, by omega⟩
          have hd6 : d ≤ 6 := by omega
          have HD : Hid (m = d + 6) := by show m = d + 6; omega
          obtain ⟨q, hq, hq2⟩ : ∃ q : Nat, bits .and .u32 ((y : Int) / 2 ^ d) 63 = (q : Int) ∧ q = y / 2 ^ d % 64 := ⟨_, and63 y d hy3, rfl⟩
          have hq3 : q < 64 := by omega
          have HQ : Hid (q = sext (ofBe s.toList) s.toList.length j) := by
            have h1 := HM.out
            have h2 := HD.out
            rw [sext_take s.toList (k + 1) j (by rw [tl_size]; omega) (by omega), hq2, HY.out, show 8 * (k + 1) - 6 * (j + 1) = d by omega, cut32 _ _ (by omega)]
            rfl
          clear hq2
          have hidx : ∀ wx : World, _ := fun wx => run_sixtyfour (q : Int) (by omega) (by omega) wx
          rw [Int.toNat_natCast] at hidx
          have hjn : j < encN s.toList.length := by
            have h1 := HM.out
            rw [tl_size]
            unfold encN
            omega
          go_wp2_with (at_builtin; refine wpList_append_u8 rfl (.tmp 31) (.tmp 38) 31 rfl w.heap.size 5 i0 Try.underlying31 hi hz0 hz1 hz2 u3 j _ rfl (HO.out.alloc _) wr.heap.size 1 1 [sgB q] rfl rfl (cells_one (by simp)) (by have := HM.out; omega) (by simp; omega) ?_; intro v' w1 hown1 hgrow)
          have hb1 := below_own (hbel.alloc hsz (Obj.cells #[Value.int IntKind.u8 ↑(sgB q).toNat] 5)) hgrow (by simp; omega) (HO.out.alloc _)
          clear hgrow hq hidx hd
          go_wp2
          go_roundw
          case rel =>
            refine ⟨d, rfl, j + 1, by have := HM.out; have := HD.out; omega, by omega, ?_, hb1⟩
            rw [encL_take _ _ hjn, ← HQ.out]
            exact hown1
          case measure => have := HD.out; simp [intOf]; omega
        · go_wp2
          go_roundw
          case rel =>
            have h1 := HM.out
            have e1 : 8 * (k + 1) % 6 = m := by omega
            have e2 : 8 * (k + 1) / 6 = j := by omega
            refine ⟨k + 1, y, by omega, by go_num, by rw [e1], rfl, HY.out, ?_, hbel⟩
            rw [e2]
            exact HO.out
          case measure => simp [intOf]; omega
    · have hkm : k = s.size := by omega
      subst hkm
      have hx2 : x < 4294967296 := by rw [HX.out]; omega
      have HXX : Hid (x = ofBe s.toList % 4294967296) := by
        have := HX.out
        rwa [List.take_of_length_le (by rw [tl_size]; exact Nat.le_refl _)] at this
      clear HX
      obtain ⟨r, hr⟩ : ∃ r : Nat, 8 * s.size % 6 = r := ⟨_, rfl⟩
      have er : (8 * (s.size : Int)) % 6 = (r : Int) := by omega
      have hr5 : r ≤ 4 := by omega
      obtain ⟨j, hj⟩ : ∃ j : Nat, 8 * s.size / 6 = j := ⟨_, rfl⟩
      have HR := Lib.hid hr
      have HJ := Lib.hid hj
      have HO2 : Hid (wr.ownsRow w.heap.size 5 1 u3 j (bcells ((encL s.toList).take j))) := by
        have := HO.out
        rw [HJ.out] at this
        exact this
      clear hr HO hj
      have hsz := hbel.size
      have hj2 : j ≤ 4294967296 := by have := HJ.out; omega
      by_cases h0 : r = 0
      · subst h0
        have hcv := run_convert_own (P := Try.prog) HO2.out 31 9 Try.underlying31 Try.underlying5 Try.underlying9
        go_wp2
        go_ret
        refine ⟨_, rfl, ?_, hbel⟩
        rw [tl_mk, List.take_of_length_le]
        have h1 := HR.out
        have h2 := HJ.out
        rw [encL_length, tl_size]
        unfold encN
        omega
      · obtain ⟨d, hd⟩ : ∃ d : Nat, (6 : Int) - (r : Int) = (d : Int) := ⟨6 - r, by omega⟩
        have hd6 : d ≤ 5 := by omega
        have HD : Hid (d = 6 - r) := by show d = 6 - r; omega
        have hr0 : (0 : Int) < (r : Int) := by omega
        obtain ⟨q, hq, hq2⟩ : ∃ q : Nat, bits .and .u32 ((x : Int) * 2 ^ d % 4294967296) 63 = (q : Int) ∧ q = ofBe s.toList * 2 ^ d % 64 := ⟨_, and63b (ofBe s.toList) x d HXX.out, rfl⟩
        have hq3 : q < 64 := by omega
        have HQ : Hid (q = sext (ofBe s.toList) s.toList.length j) := by
          have h1 := HR.out
          have h2 := HD.out
          have h3 := HJ.out
          rw [sext, if_neg (by rw [tl_size]; omega), hq2, tl_size, show 6 * (j + 1) - 8 * s.size = d by omega]
          rfl
        clear hq2
        have hidx : ∀ wx : World, _ := fun wx => run_sixtyfour (q : Int) (by omega) (by omega) wx
        rw [Int.toNat_natCast] at hidx
        have hjn : Hid (j + 1 = encN s.toList.length) := by
          have h1 := HR.out
          have h2 := HJ.out
          show j + 1 = _
          rw [tl_size]
          unfold encN
          omega
        go_wp2_with (at_builtin; refine wpList_append_u8 rfl (.tmp 43) (.tmp 50) 31 rfl w.heap.size 5 i0 Try.underlying31 hi hz0 hz1 hz2 u3 j _ rfl (HO2.out.alloc _) wr.heap.size 1 1 [sgB q] rfl rfl (cells_one (by simp)) (by omega) (by simp; omega) ?_; intro v' w1 hown1 hgrow; have hcv := run_convert_own (P := Try.prog) hown1 31 9 Try.underlying31 Try.underlying5 Try.underlying9)
        have hb1 := below_own (hbel.alloc hsz (Obj.cells #[Value.int IntKind.u8 ↑(sgB q).toNat] 5)) hgrow (by simp; omega) (HO2.out.alloc _)
        go_ret
        refine ⟨_, rfl, ?_, hb1⟩
        rw [tl_mk, HQ.out, ← encL_take _ _ (by have := hjn.out; omega), List.take_of_length_le]
        rw [encL_length, ← hjn.out]
        exact Nat.le_refl _
end Go.Proofs.Ytkjenmkgamnchaa
