/- The contract of Decode. -/
import Derived.Test.YtkjenmkgamnchaaBasB
namespace Go.Proofs.Ytkjenmkgamnchaa
open Go.RowKit
set_option linter.unusedVariables false
set_option linter.unusedSimpArgs false
set_option maxRecDepth 100000 in
set_option maxHeartbeats 1600000 in
theorem decode_any (s : ByteArray) (w : World) (hs : s.size ≤ 140737488351232) :
    Calls Try.prog 10 #[.string s] w (RetSPE (decS s.toList) (decP s.toList) (decE s.toList) w) := by
  obtain ⟨i0, hi, hz0, hz1, hz2⟩ := info_parts info5
  obtain ⟨c, hc⟩ : ∃ c, c = s.size / 4 * 3 + 2 := ⟨_, rfl⟩
  have hc2 : (s.size : Int) / 4 * 3 + 2 = (c : Int) := by omega
  have hc3 : c ≤ 140737488351232 := by omega
  have HC2 := Lib.hid hc2
  clear hc hc2
  go_enter Try.func10, Try.ntmps10
  go_wp2_with (at_make; refine wpList_make_own _ rfl (.const (.int .i64 0)) (.tmp 15) 31 rfl w.heap.size 5 i0 (.int .u8 0) 1 Try.underlying31 hi hz0 hz1 .i64 .i64 _ c rfl rfl HC2.out (by rw [hz2]; omega) (by unfold maxLen; omega) (Nat.le_refl _) ?_; intro w1 hown hgrow)
  have hbel := (Below.refl w.heap.size w).grown hgrow (Nat.le_refl _) (by simp)
  clear hgrow
  go_wp2
  go_loopw [5, 6, 7, 19] (fun v g n i wr => ∃ k x r : Nat, k ≤ s.size ∧ i = .int .i64 k ∧ n = .int .i64 (r : Int) ∧ r = 6 * k % 8 ∧ g = .int .u32 (x : Int) ∧ x = ofSx (s.toList.take k) % 4294967296 ∧ okB s.toList k ∧ wr.ownsRow w.heap.size 5 1 v (6 * k / 8) (bcells (decL (s.toList.take k))) ∧ Below w.heap.size w wr) (fun _ _ _ i _ => s.size - (intOf i).toNat)
  case atStart => exact ⟨0, 0, 0, Nat.zero_le _, rfl, rfl, rfl, rfl, rfl, okB_zero _, by rw [show decL (s.toList.take 0) = [] by simp [decL, decN, be]]; exact hown, hbel⟩
  case round =>
    clear hown hbel
    obtain ⟨k, x, r, hk, rfl, rfl, hr, rfl, hx, hok, hown, hbel⟩ := hrel
    have HO := Lib.hid hown
    have HX := Lib.hid hx
    have HR := Lib.hid hr
    have HOK := Lib.hid hok
    have hr6 : r ≤ 6 := by omega
    clear hown hx hr hok
    have hsz := hbel.size
    have hx2 : x < 4294967296 := by rw [HX.out]; omega
    by_cases hlt : k < s.size
    · obtain ⟨b, hb⟩ : ∃ b : UInt8, s[k] = b := ⟨_, rfl⟩
      have hb2 := b.toNat_lt
      have HK : Hid (s.toList[k]? = some b) := by rw [← hb]; exact tl_get s k hlt
      by_cases h64 : vaB b < 64
      · have hd : decide (vaB b < 64) = true := by simpa using h64
        obtain ⟨v, hv⟩ : ∃ v : Nat, vaB b % 64 = v := ⟨_, rfl⟩
        have hv2 : v < 64 := by omega
        have HV : Hid (vaB b = v) := by rw [← hv]; exact (Nat.mod_eq_of_lt h64).symm
        have H64 := Lib.hid h64
        clear h64
        obtain ⟨y, hy, hy2⟩ : ∃ y : Nat, bits .or .u32 ((x : Int) * 64 % 4294967296) (v : Int) = (y : Int) ∧ y = ofSx (s.toList.take (k + 1)) % 4294967296 := ⟨_, or32s (ofSx (s.toList.take k)) v hv2 x HX.out, by rw [ofSx_take _ k b HK.out, HV.out]⟩
        have HY := Lib.hid hy2
        clear hy2
        have hy3 : y < 4294967296 := by rw [HY.out]; omega
        by_cases h8 : 8 ≤ r + 6
        · obtain ⟨d, hd8⟩ : ∃ d : Nat, (r : Int) + 6 - 8 = (d : Int) := ⟨r + 6 - 8, by omega⟩
          have hd4 : d ≤ 4 := by omega
          have hri : (8 : Int) ≤ (r : Int) + 6 := by omega
          have HD : Hid (d = r + 6 - 8) := by show d = r + 6 - 8; omega
          have hvv := base_value_any b
          rw [hv] at hvv
          have HVV := Lib.hid hvv
          clear hvv
          obtain ⟨u, hu, hu2⟩ : ∃ u : UInt8, (y : Int) / 2 ^ d % 256 = (u.toNat : Int) ∧ u = UInt8.ofNat (ofSx (s.toList.take (k + 1)) / 2 ^ d) := ⟨UInt8.ofNat (y / 2 ^ d), by
            rw [← u8mod, Int.natCast_ediv, Int.natCast_pow]; rfl, by
            apply UInt8.toNat_inj.1
            rw [UInt8.toNat_ofNat', UInt8.toNat_ofNat', HY.out]
            exact cut32b _ _ (by omega)⟩
          have HU := Lib.hid hu2
          clear hu2
          have hj2 : 6 * k / 8 + 1 ≤ 140737488355328 := by omega
          go_wp2_with (first | (go_at_call 13; refine (HVV.out _).mono ?_; rintro e w' ⟨rfl, rfl⟩) | (at_builtin; refine wpList_append_u8 rfl (.tmp 42) (.tmp 47) 31 rfl w.heap.size 5 i0 Try.underlying31 hi hz0 hz1 hz2 u5 (6 * k / 8) _ rfl (HO.out.alloc _) wr.heap.size 1 1 [u] rfl rfl (cells_one (by simp)) hj2 (by simp; omega) ?_; intro v' w1 hown1 hgrow; have hb1 := below_own (hbel.alloc hsz (Obj.cells #[Value.int IntKind.u8 ↑u.toNat] 5)) hgrow (by simp; omega) (HO.out.alloc _); clear hgrow))
          go_roundw
          case rel =>
            have h1 := HR.out
            have h2 := HD.out
            have hok1 := okB_succ _ _ _ HOK.out HK.out H64.out
            refine ⟨k + 1, y, d, by omega, by go_num, rfl, by omega, rfl, HY.out, hok1, ?_, hb1⟩
            rw [decL_snoc _ _ b HK.out hok1 (by omega), show 6 * k % 8 + 6 - 8 = d by omega, ← HU.out, show 6 * (k + 1) / 8 = 6 * k / 8 + 1 by omega]
            exact hown1
          case measure => simp [intOf]; omega
        · have hri : ¬ (8 : Int) ≤ (r : Int) + 6 := by omega
          have hvv := base_value_any b
          rw [hv] at hvv
          have HVV := Lib.hid hvv
          clear hvv
          go_wp2_with (go_at_call 13; refine (HVV.out _).mono ?_; rintro e w' ⟨rfl, rfl⟩)
          go_roundw
          case rel =>
            have h1 := HR.out
            have hok1 := okB_succ _ _ _ HOK.out HK.out H64.out
            refine ⟨k + 1, y, r + 6, by omega, by go_num, by go_num, by omega, rfl, HY.out, hok1, ?_, hbel⟩
            rw [decL_stay _ _ b HK.out hok1 (by omega), show 6 * (k + 1) / 8 = 6 * k / 8 by omega]
            exact HO.out
          case measure => simp [intOf]; omega
      · have hd : decide (vaB b < 64) = false := by simpa using h64
        have H64 := Lib.hid h64
        clear h64
        go_wp2_with (go_at_call 13; refine (base_value_any _ _).mono ?_; rintro e w' ⟨rfl, rfl⟩)
        go_ret3
        have hb := badB_found s.toList k b HOK.out HK.out H64.out
        exact ret_spe (tl_mk []) (by rw [decS, hb]) (by rw [decP, hb]) (by rw [decE, hb]) hbel
    · have hkm : k = s.size := by omega
      subst hkm
      have hb : badB s.toList = none := badB_none _ (by rw [tl_size]; exact HOK.out)
      have HB := Lib.hid hb
      clear hb
      have HXX : Hid (x = ofSx s.toList % 4294967296) := by
        have := HX.out
        rwa [List.take_of_length_le (by rw [tl_size]; exact Nat.le_refl _)] at this
      have HO2 : Hid (wr.ownsRow w.heap.size 5 1 u5 (6 * s.size / 8) (bcells (decL s.toList))) := by
        have := HO.out
        rwa [List.take_of_length_le (by rw [tl_size]; exact Nat.le_refl _)] at this
      clear HX HO
      by_cases hod : s.size % 4 = 1
      · have ho : (((s.size : Int) % 4) == 1) = true := by rw [beq_iff_eq]; omega
        have HOD := Lib.hid hod
        clear hod
        go_wp2
        go_ret3
        have ho2 : s.toList.length % 4 = 1 := by rw [tl_size]; exact HOD.out
        exact ret_spe (tl_mk []) (by rw [decS, HB.out, if_pos ho2]) (by rw [decP, HB.out, if_pos ho2, tl_size]) (by rw [decE, HB.out, if_pos ho2]) hbel
      · have ho : (((s.size : Int) % 4) == 1) = false := by rw [beq_eq_false_iff_ne]; omega
        have hr4 : r ≤ 4 := by have := HR.out; omega
        have HOD := Lib.hid hod
        clear hod
        obtain ⟨z, hz, hz2⟩ : ∃ z : Nat, bits .and .u32 (x : Int) ((2 ^ r - 1) % 4294967296) = (z : Int) ∧ z = restB s.toList := ⟨_, and_rest (ofSx s.toList) x r HXX.out hr4, by rw [restB, tl_size, HR.out]⟩
        have HZ := Lib.hid hz2
        clear hz2
        have ho2 : Hid (¬ s.toList.length % 4 = 1) := by show ¬ _; rw [tl_size]; exact HOD.out
        by_cases h0 : z = 0
        · have hb0 : ((z : Int) != 0) = false := by rw [h0]; rfl
          have H0 := Lib.hid h0
          clear h0
          have hcv := run_convert_own (P := Try.prog) HO2.out 31 9 Try.underlying31 Try.underlying5 Try.underlying9
          go_wp2
          go_ret3
          have hr0 : restB s.toList = 0 := by rw [← HZ.out, H0.out]
          exact ret_spe (tl_mk _) (by rw [decS, HB.out, if_neg ho2.out, if_pos hr0]) (by rw [decP, HB.out, if_neg ho2.out, if_pos hr0]; rfl) (by rw [decE, HB.out, if_neg ho2.out, if_pos hr0]) hbel
        · have hb0 : ((z : Int) != 0) = true := by rw [bne_iff_ne]; omega
          have H0 := Lib.hid h0
          clear h0
          go_wp2
          go_ret3
          have hr0 : ¬ restB s.toList = 0 := by rw [← HZ.out]; exact H0.out
          have hpos : 1 ≤ s.size := by
            rcases Nat.eq_zero_or_pos s.size with e | e
            · exfalso
              apply H0.out
              rw [HZ.out, restB, tl_size, e]
              simp [Nat.mod_one]
            · exact e
          have h7 : decP s.toList = s.toList.length - 1 := by simp only [decP, HB.out, if_neg ho2.out, if_neg hr0]
          have h8 : ((s.size : Int) - 1) = ((decP s.toList : Nat) : Int) := by rw [h7, tl_size]; omega
          exact ret_spe (tl_mk []) (by rw [decS, HB.out, if_neg ho2.out, if_neg hr0]) h8 (by rw [decE, HB.out, if_neg ho2.out, if_neg hr0]) hbel
end Go.Proofs.Ytkjenmkgamnchaa
