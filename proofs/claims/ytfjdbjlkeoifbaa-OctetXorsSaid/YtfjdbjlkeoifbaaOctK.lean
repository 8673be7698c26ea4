/- The contract of the document's Unhex. -/
import Derived.Test.YtfjdbjlkeoifbaaOctJ
namespace Go.Proofs.Ytfjdbjlkeoifbaa
open Go.RowKit
set_option linter.unusedVariables false
set_option linter.unusedSimpArgs false
theorem enterHalf (vs : Array Value) (w : World) : (callFunc 25 vs).run Try.prog w = .ok (.enter 25 vs) w := by kernel_rfl
set_option maxHeartbeats 1600000 in
theorem runhex_any (s : ByteArray) (w : World) (hs : s.size ≤ 140737488351232) :
    Calls Try.prog 22 #[.string s] w (RetSPE (unhexL s.toList) (unhexP s.toList) (unhexE s.toList) w) := by
  obtain ⟨i0, hi, hz0, hz1, hz2⟩ := info_parts info5
  go_enter Try.func22, Try.ntmps22
  go_wp2
  go_loopw [5] (fun i wr => ∃ k : Nat, k ≤ s.size ∧ i = .int .i64 k ∧ okTo s.toList k ∧ Below w.heap.size w wr) (fun i _ => s.size - (intOf i).toNat)
  case atStart => exact ⟨0, Nat.zero_le _, rfl, okTo_zero _, Below.refl _ _⟩
  case round =>
    obtain ⟨k, hk, rfl, hok, hbel⟩ := hrel
    have HOK := Lib.hid hok
    clear hok
    by_cases hlt : k < s.size
    · obtain ⟨c, hc⟩ : ∃ c : UInt8, s[k] = c := ⟨_, rfl⟩
      have HK : Hid (s.toList[k]? = some c) := by rw [← hc]; exact tl_get s k hlt
      by_cases h16 : half c < 16
      · have hd : ((half c : Int)) ≤ 15 := by omega
        have hd2 : ¬ (15 : Int) < (half c : Int) := by omega
        have H16 := Lib.hid h16
        clear h16
        go_wp2_with (go_at_call 25; refine (half_any _ _).mono ?_; rintro e w' ⟨rfl, rfl⟩)
        go_roundw
        case rel => exact ⟨k + 1, by omega, by go_num, okTo_succ _ _ _ HOK.out HK.out H16.out, hbel⟩
        case measure => simp [intOf]; omega
      · have hd : (15 : Int) < (half c : Int) := by omega
        have H16 := Lib.hid h16
        clear h16
        go_wp2_with (go_at_call 25; refine (half_any _ _).mono ?_; rintro e w' ⟨rfl, rfl⟩)
        go_ret3
        have hb := bad_found s.toList k c HOK.out HK.out H16.out
        exact ret_spe (tl_mk []) (by rw [unhexL, hb]) (by rw [unhexP, hb]) (by rw [unhexE, hb]) hbel
    · have hkm : k = s.size := by omega
      subst hkm
      have hb : badAt s.toList = none := bad_none _ (by rw [tl_size]; exact HOK.out)
      have HB := Lib.hid hb
      clear hb
      by_cases hod : s.size % 2 = 1
      · have ho : (((s.size : Int) % 2) == 1) = true := by rw [beq_iff_eq]; omega
        have HOD := Lib.hid hod
        clear hod
        go_wp2
        go_ret3
        have ho2 : s.toList.length % 2 = 1 := by rw [tl_size]; exact HOD.out
        exact ret_spe (tl_mk []) (by rw [unhexL, HB.out, if_pos ho2]) (by rw [unhexP, HB.out, if_pos ho2, tl_size]) (by rw [unhexE, HB.out, if_pos ho2]) hbel
      · have ho : (((s.size : Int) % 2) == 1) = false := by rw [beq_eq_false_iff_ne]; omega
        have HOD := Lib.hid hod
        clear hod
        go_wp2
        have hbel0 := hbel
        clear hbel
        go_loopw [6, 7] (fun v i wq => ∃ m j : Nat, m = 2 * j ∧ m ≤ s.size ∧ i = .int .i64 m ∧ wq.ownsRow w.heap.size 5 1 v j (bcells ((pairs s.toList).take j)) ∧ Below w.heap.size w wq) (fun _ i _ => s.size - (intOf i).toNat)
        case atStart => exact ⟨0, 0, rfl, Nat.zero_le _, rfl, World.ownsRow_nil _ _ _ _, hbel0⟩
        case round =>
          clear hbel0
          obtain ⟨m, j, hm, hms, rfl, hown, hbel⟩ := hrel
          have HO := Lib.hid hown
          have HM := Lib.hid hm
          clear hown hm
          have hsz := hbel.size
          by_cases hlt : m < s.size
          · have hlt2 : m + 1 < s.size := by have := HM.out; have := HOD.out; omega
            obtain ⟨a, ha⟩ : ∃ a : UInt8, s[m] = a := ⟨_, rfl⟩
            obtain ⟨b, hb⟩ : ∃ b : UInt8, s[m + 1] = b := ⟨_, rfl⟩
            have HA : Hid (s.toList[2 * j]? = some a) := by rw [← ha, ← HM.out]; exact tl_get s m hlt
            have HB2 : Hid (s.toList[2 * j + 1]? = some b) := by rw [← hb, ← HM.out]; exact tl_get s (m + 1) hlt2
            have la : half a < 16 := HOK.out m hlt a (by rw [← ha]; exact tl_get s m hlt)
            have lb : half b < 16 := HOK.out (m + 1) hlt2 b (by rw [← hb]; exact tl_get s (m + 1) hlt2)
            obtain ⟨u, hu⟩ : ∃ u : UInt8, u = UInt8.ofNat (16 * half a + half b) := ⟨_, rfl⟩
            have v1 : IntKind.u8.wrap (16 * (half a : Int)) = 16 * (half a : Int) := by rw [IntKind.wrap_u8']; omega
            have v2 : IntKind.u8.wrap (16 * (half a : Int) + (half b : Int)) = (u.toNat : Int) := by rw [IntKind.wrap_u8', hu, UInt8.toNat_ofNat']; omega
            have HU := Lib.hid hu
            clear hu
            have hm0 : (0 : Int) ≤ (m : Int) + 1 := by omega
            have hm1 : (m : Int) + 1 < (s.size : Int) := by omega
            have v3 : IntKind.i64.wrap ((m : Int) + 1) = (m : Int) + 1 := IntWalk.i64_in _ (by omega)
            have v4 : ((m : Int) + 1).toNat = m + 1 := by omega
            go_wp2_with fail
            go_region_law (first | (refine step_call1 25 (.tmp 35) #[5] rfl rfl enterHalf (.int .u8 (a.toNat : Int)) rfl _ (half_any a _) ?_; rintro e w' ⟨rfl, rfl⟩; refine ⟨_, rfl, ?_⟩) | (refine step_call1 25 (.tmp 41) #[5] rfl rfl enterHalf (.int .u8 (b.toNat : Int)) rfl _ (half_any b _) ?_; rintro e w' ⟨rfl, rfl⟩; refine ⟨_, rfl, ?_⟩) | (refine step_append_u8 rfl (.tmp 32) (.tmp 44) 44 rfl w.heap.size 5 i0 Try.underlying44 hi hz0 hz1 hz2 u6 j _ rfl (HO.out.alloc _) wr.heap.size 1 1 [u] rfl rfl (cells_one (by simp)) (by have := HM.out; omega) (by simp; omega) ?_; intro v' w1 hown1 hgrow))
            all_goals
              have hb1 := below_own ((hbel.alloc hsz (Obj.cells #[Value.int IntKind.u8 ↑u.toNat] 5)).drew) hgrow (by simp; omega) (HO.out.alloc _)
              clear hgrow v1 v2 v3 v4 hm0 hm1 ha hb
              go_wp2
              go_roundw
              case rel =>
                refine ⟨m + 2, j + 1, by have := HM.out; omega, by omega, by go_num, ?_, hb1⟩
                rw [pairs_take _ _ _ _ HA.out HB2.out, ← HU.out]
                exact hown1
              case measure => simp [intOf]; omega
          · have hcv := run_convert_own (P := Try.prog) HO.out 44 9 Try.underlying44 Try.underlying5 Try.underlying9
            go_wp2
            go_ret3
            have ho2 : ¬ s.toList.length % 2 = 1 := by rw [tl_size]; exact HOD.out
            refine ret_spe (tl_mk _) ?_ (by rw [unhexP, HB.out, if_neg ho2]; rfl) (by rw [unhexE, HB.out, if_neg ho2]) hbel
            rw [unhexL, HB.out, if_neg ho2, List.take_of_length_le]
            rw [pairs_length, tl_size]
            have := HM.out
            have := HOD.out
            omega
end Go.Proofs.Ytfjdbjlkeoifbaa
