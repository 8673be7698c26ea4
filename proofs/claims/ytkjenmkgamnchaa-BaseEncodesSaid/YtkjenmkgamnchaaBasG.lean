/- The document's Decode. -/
import Derived.Test.YtkjenmkgamnchaaBasF
namespace Go.Proofs.Ytkjenmkgamnchaa
open Go.RowKit
set_option linter.unusedVariables false
set_option linter.unusedSimpArgs false
set_option maxRecDepth 100000 in
set_option maxHeartbeats 3200000 in
theorem rdecode_any (s : ByteArray) (w : World) (hs : s.size ≤ 1048576) :
    Calls Try.prog 11 #[.string s] w (RetSPE (decS s.toList) (decP s.toList) (decE s.toList) w) := by
  obtain ⟨i0, hi, hz0, hz1, hz2⟩ := info_parts info5
  obtain ⟨j0, hj, hy0, hy1, hy2⟩ := info_parts info3
  go_enter Try.func11, Try.ntmps11
  go_wp2
  go_loopw [5, 6] (fun v i wr => ∃ k : Nat, k ≤ s.size ∧ i = .int .i64 k ∧ okB s.toList k ∧ wr.ownsRow w.heap.size 3 1 v (6 * k) (icells (bitL (Vp s.toList) (6 * k))) ∧ Below w.heap.size w wr) (fun _ i _ => s.size - (intOf i).toNat)
  case atStart => exact ⟨0, Nat.zero_le _, rfl, okB_zero _, World.ownsRow_nil _ _ _ _, Below.refl _ _⟩
  case round =>
    obtain ⟨k, hk, rfl, hok, hown, hbel⟩ := hrel
    have HO := Lib.hid hown
    have HOK := Lib.hid hok
    clear hown hok
    by_cases hlt : k < s.size
    · obtain ⟨b, hb⟩ : ∃ b : UInt8, s[k] = b := ⟨_, rfl⟩
      have HK : Hid (s.toList[k]? = some b) := by rw [← hb]; exact tl_get s k hlt
      by_cases h64 : vaB b < 64
      · have hnb : numB b = (vaB b : Int) := by rw [numB, if_pos h64]
        have hcc := number_any b
        rw [hnb] at hcc
        have HCC := Lib.hid hcc
        have H64 := Lib.hid h64
        clear hcc hnb
        go_wp2_with (fail)
        refine (HCC.out _).mono ?_
        rintro e w' ⟨rfl, rfl⟩
        go_wp2_with (fail)
        have hbel0 := hbel
        have HO0 := HO
        clear hbel HO
        go_loopw [5, 8] (fun v n wq => ∃ j : Nat, j ≤ 6 ∧ n = .int .i64 (5 - (j : Int)) ∧ wq.ownsRow w.heap.size 3 1 v (6 * k + j) (icells (bitL (Vp s.toList) (6 * k + j))) ∧ Below w.heap.size w wq) (fun _ n _ => (intOf n + 1).toNat)
        case atStart => exact ⟨0, by omega, by go_num, HO0.out, hbel0⟩
        case round =>
          clear hbel0 HO0
          obtain ⟨j, hj8, rfl, hown, hbel⟩ := hrel
          have HO := Lib.hid hown
          clear hown
          have hsz := hbel.size
          by_cases h8 : j < 6
          · obtain ⟨d, hd⟩ : ∃ d : Nat, (5 : Int) - (j : Int) = (d : Int) := ⟨5 - j, by omega⟩
            have HD : Hid (d = 5 - j) := by show d = 5 - j; omega
            have hd7 : d ≤ 5 := by omega
            rw [hd]
            clear hd
            obtain ⟨u, hu, hu2⟩ : ∃ u : Int, bits .and .i64 ((vaB b : Int) / 2 ^ d) 1 = u ∧ u = ((Vp s.toList (6 * k + j + 1) % 2 : Nat) : Int) := ⟨_, rfl, by
              rw [i64_bit, Vp_bit s.toList k j b HK.out h8, HD.out]⟩
            have HU := Lib.hid hu2
            clear hu2
            have hn7 : 6 * k + j ≤ 17592186044415 := by omega
            go_wp2_with (at_builtin; refine wpList_append_i64 rfl (.tmp 30) (.tmp 36) 34 rfl w.heap.size 3 j0 Try.underlying34 hj hy0 hy1 hy2 u5 (6 * k + j) _ rfl (HO.out.alloc _) wr.heap.size 1 u rfl (by simp) hn7 (by simp; omega) ?_; intro v' w1 hown1 hgrow)
            have hb1 := below_own (hbel.alloc hsz (Obj.cells #[Value.int IntKind.i64 u] 3)) hgrow (by simp; omega) (HO.out.alloc _)
            clear hgrow hu
            go_wp2
            go_roundw
            case rel =>
              refine ⟨j + 1, by omega, ?_, ?_, hb1⟩
              · have := HD.out
                go_num
              · rw [← Nat.add_assoc, bitL_succ, ← HU.out]
                exact hown1
            case measure => have := HD.out; simp [intOf]
          · have hj : j = 6 := by omega
            subst hj
            have e7 : (5 : Int) - ((6 : Nat) : Int) = -1 := by omega
            rw [e7]
            go_wp2
            go_roundw
            case rel => exact ⟨k + 1, by omega, by go_num, okB_succ _ _ _ HOK.out HK.out H64.out, HO.out, hbel⟩
            case measure => simp [intOf]; omega
      · have hnb : numB b = -1 := by rw [numB, if_neg h64]
        have hcc := number_any b
        rw [hnb] at hcc
        have HCC := Lib.hid hcc
        have H64 := Lib.hid h64
        clear hcc hnb h64
        go_wp2_with (fail)
        refine (HCC.out _).mono ?_
        rintro e w' ⟨rfl, rfl⟩
        go_wp2_with (fail)
        go_ret3
        have hb := badB_found s.toList k b HOK.out HK.out H64.out
        exact ret_spe (tl_mk []) (by rw [decS, hb]) (by rw [decP, hb]) (by rw [decE, hb]) hbel
    · have hkm : k = s.size := by omega
      subst hkm
      have hb : badB s.toList = none := badB_none _ (by rw [tl_size]; exact HOK.out)
      have HB := Lib.hid hb
      clear hb
      by_cases hod : s.size % 4 = 1
      · have ho : (((s.size : Int) % 4) == 1) = true := by rw [beq_iff_eq]; omega
        have HOD := Lib.hid hod
        clear hod
        go_wp2
        go_ret3
        have ho2 : s.toList.length % 4 = 1 := by rw [tl_size]; exact HOD.out
        exact ret_spe (tl_mk []) (by rw [decS, HB.out, if_pos ho2]) (by rw [decP, HB.out, if_pos ho2, tl_size]) (by rw [decE, HB.out, if_pos ho2]) hbel
      · have ho : (((s.size : Int) % 4) == 1) = false := by rw [beq_eq_false_iff_ne]; omega
        have HOD := Lib.hid hod
        clear hod
        have ho2 : Hid (¬ s.toList.length % 4 = 1) := by show ¬ _; rw [tl_size]; exact HOD.out
        go_wp2
        obtain ⟨m, hm⟩ : ∃ m : Nat, m = 6 * s.size := ⟨_, rfl⟩
        have hmb : m ≤ 16777216 := by omega
        have hbits0 := HO.out
        rw [bitL_congr (Vp s.toList) (Vf s.toList) _ (fun t ht => by rw [Vp_Vf _ _ (by rw [tl_size]; exact HOK.out) (by rw [tl_size]; omega)]), ← hm] at hbits0
        obtain ⟨a, cp, rfl, hfm⟩ := own_form hbits0
        have HB0 := Lib.hid hbits0
        have HFM := Lib.hid hfm
        have HM := Lib.hid hm
        have hbel0 := hbel
        clear hbits0 hfm hm HO hbel
        go_loopw [9, 10] (fun v at_ wq => ∃ q j : Nat, q = 8 * j ∧ q ≤ m ∧ at_ = .int .i64 (q : Int) ∧ wq.ownsRow w.heap.size 3 1 (.slice a m cp) m (icells (bitL (Vf s.toList) m)) ∧ wq.ownsRow w.heap.size 5 1 v j (bcells ((decL s.toList).take j)) ∧ Below w.heap.size w wq) (fun _ at_ _ => m - (intOf at_).toNat)
        case atStart => exact ⟨0, 0, rfl, Nat.zero_le _, rfl, HB0.out, World.ownsRow_nil _ _ _ _, hbel0⟩
        case round =>
          clear hbel0 HB0
          obtain ⟨q, j, hq, hqm, rfl, hbits, hown, hbel⟩ := hrel
          have HBT := Lib.hid hbits
          have HO := Lib.hid hown
          have HQ := Lib.hid hq
          clear hbits hown hq
          have hsz := hbel.size
          by_cases hlt : q + 8 ≤ m
          · obtain ⟨g, hg⟩ := HFM.out (by omega)
            subst hg
            go_wp2
            go_loopw [11, 12] (fun n k wz => ∃ kk x : Nat, kk ≤ 8 ∧ k = .int .i64 (kk : Int) ∧ n = .int .i64 (x : Int) ∧ x = Vf s.toList (q + kk) % 2 ^ kk ∧ wr = wz) (fun _ k _ => 8 - (intOf k).toNat)
            case atStart => exact ⟨0, 0, by omega, rfl, rfl, by simp [Nat.mod_one], rfl⟩
            case round =>
              obtain ⟨kk, x, hk6, rfl, rfl, hx, rfl⟩ := hrel
              have HX := Lib.hid hx
              clear hx
              have hx64 : x < 256 := by
                rw [HX.out]
                have h1 := Nat.mod_lt (Vf s.toList (q + kk)) (y := 2 ^ kk) (Nat.pow_pos (by decide))
                have h2 : 2 ^ kk ≤ 2 ^ 8 := Nat.pow_le_pow_right (by decide) hk6
                omega
              by_cases h6k : kk < 8
              · obtain ⟨u, hu, hcell, hfr⟩ := icell HBT.out (q + kk) (by omega)
                rw [bitL_get _ _ _ (by omega)] at hu
                have HU := Lib.hid (Option.some.inj hu)
                clear hu
                obtain ⟨y, hy⟩ : ∃ y : Nat, u = (y : Int) := ⟨_, HU.out.symm⟩
                have hy2 : y < 2 := by have := HU.out; omega
                have HY : Hid (y = Vf s.toList (q + kk + 1) % 2) := by have := HU.out; show y = _; omega
                subst hy
                clear HU
                go_wp2
                go_roundw
                case rel =>
                  refine ⟨kk + 1, 2 * x + y, by omega, by go_num, by go_num, ?_, (by first | rfl | trivial)⟩
                  rw [HX.out, HY.out, ← Nat.add_assoc]
                  exact Vf_step _ _ _ (by have := HM.out; rw [tl_size]; omega)
                case measure => simp [intOf]; omega
              · have hkk : kk = 8 := by omega
                subst hkk
                have hj7 : j + 1 ≤ 140737488355328 := by have := HQ.out; omega
                obtain ⟨u, hu, hu2⟩ : ∃ u : UInt8, (x : Int) % 256 = (u.toNat : Int) ∧ u = UInt8.ofNat (ofSx (s.toList.take s.toList.length) / 2 ^ (6 * s.toList.length - 8 * (j + 1))) := ⟨UInt8.ofNat x, u8mod x, by
                  have h1 := HQ.out
                  have h2 := HX.out
                  rw [List.take_length, h2, show q + 8 = 8 * (j + 1) by omega]
                  apply UInt8.toNat_inj.1
                  rw [UInt8.toNat_ofNat', UInt8.toNat_ofNat']
                  unfold Vf
                  omega⟩
                have hu3 : (x : Int) = (u.toNat : Int) := by omega
                have HU2 := Lib.hid hu2
                clear hu2
                go_wp2_with (at_builtin; refine wpList_append_u8 rfl (.tmp 62) (.tmp 65) 31 rfl w.heap.size 5 i0 Try.underlying31 hi hz0 hz1 hz2 u9 j _ rfl (HO.out.alloc _) _ 1 1 [u] rfl rfl (cells_one (by simp)) hj7 (by simp; omega) ?_; intro v' w1 hown1 hgrow)
                have hb1 := below_own (hbel.alloc hsz (Obj.cells #[Value.int IntKind.u8 ↑u.toNat] 5)) hgrow (by simp; omega) (HO.out.alloc _)
                have hbits1 := (HBT.out.alloc (Obj.cells #[Value.int IntKind.u8 ↑u.toNat] 5)).kept hgrow (own_ne HBT.out HO.out (by decide))
                clear hgrow hu hu3
                go_wp2
                go_roundw
                case rel =>
                  refine ⟨q + 8, j + 1, by have := HQ.out; omega, by omega, by go_num, hbits1, ?_, hb1⟩
                  rw [decL_take s.toList s.toList.length j (by rw [tl_size]; exact HOK.out) (Nat.le_refl _) (by have := HM.out; have := HQ.out; rw [tl_size]; omega), ← HU2.out]
                  exact hown1
                case measure => simp [intOf]; omega
          · have hJ : Hid (q = 8 * (6 * s.toList.length / 8)) := by
              have h1 := HQ.out
              have h2 := HM.out
              show q = _
              rw [tl_size]
              omega
            have hlt2 : ¬ (q : Int) + 8 ≤ (m : Int) := by omega
            go_wp2_with fail
            go_loopw [10] (fun at_ wz => ∃ t : Nat, q ≤ t ∧ t ≤ m ∧ at_ = .int .i64 (t : Int) ∧ Vf s.toList t % 2 ^ (t - q) = 0 ∧ wr = wz) (fun at_ _ => m - (intOf at_).toNat)
            case atStart => exact ⟨q, Nat.le_refl _, hqm, rfl, by simp [Nat.mod_one], rfl⟩
            case round =>
              obtain ⟨t, hqt, htm, rfl, hz, rfl⟩ := hrel
              have HZ := Lib.hid hz
              clear hz
              by_cases htl : t < m
              · obtain ⟨g, hg⟩ := HFM.out (by omega)
                subst hg
                obtain ⟨u, hu, hcell, hfr⟩ := icell HBT.out t htl
                rw [bitL_get _ _ _ htl] at hu
                have HU := Lib.hid (Option.some.inj hu)
                clear hu
                obtain ⟨y, hy⟩ : ∃ y : Nat, u = (y : Int) := ⟨_, HU.out.symm⟩
                have hy2 : y < 2 := by have := HU.out; omega
                have HY : Hid (y = Vf s.toList (t + 1) % 2) := by have := HU.out; show y = _; omega
                subst hy
                clear HU
                by_cases hy0 : y = 0
                · have hyb : ((y : Int) != 0) = false := by rw [hy0]; rfl
                  have HY0 := Lib.hid hy0
                  clear hy0
                  go_wp2
                  go_roundw
                  case rel =>
                    refine ⟨t + 1, by omega, by omega, by go_num, ?_, (by first | rfl | trivial)⟩
                    have h1 := Vf_step s.toList t (t - q) (by have := HM.out; rw [tl_size]; omega)
                    rw [HZ.out, ← HY.out, HY0.out] at h1
                    rw [show t + 1 - q = t - q + 1 by omega, ← h1]
                  case measure => simp [intOf]; omega
                · have hyb : ((y : Int) != 0) = true := by rw [bne_iff_ne]; omega
                  have hy1 : Hid (y = 1) := by show y = 1; omega
                  clear hy0
                  go_wp2
                  go_ret3
                  have h1 := HY.out
                  rw [hy1.out] at h1
                  have hr0 : ¬ restB s.toList = 0 := rest_bit s.toList t (by have := hJ.out; omega) (by have := HM.out; rw [tl_size]; omega) h1.symm
                  have h7 : decP s.toList = s.toList.length - 1 := by simp only [decP, HB.out, if_neg ho2.out, if_neg hr0]
                  have h8 : ((s.size : Int) - 1) = ((decP s.toList : Nat) : Int) := by have := HM.out; rw [h7, tl_size]; omega
                  exact ret_spe (tl_mk []) (by rw [decS, HB.out, if_neg ho2.out, if_neg hr0]) h8 (by rw [decE, HB.out, if_neg ho2.out, if_neg hr0]) hbel
              · have htm2 : t = m := by omega
                subst htm2
                have hcv := run_convert_own (P := Try.prog) HO.out 31 9 Try.underlying31 Try.underlying5 Try.underlying9
                go_wp2
                go_ret3
                have h1 := HZ.out
                have h2 := HM.out
                have h3 := hJ.out
                have h4 := HQ.out
                rw [show t = 6 * s.toList.length by rw [tl_size]; exact h2, Vf_all, show 6 * s.toList.length - q = 6 * s.toList.length % 8 by rw [tl_size] at *; omega] at h1
                have hr0 : restB s.toList = 0 := h1
                have hfull : (decL s.toList).take j = decL s.toList := List.take_of_length_le (by rw [decL_length, tl_size]; unfold decN; rw [tl_size] at h3; omega)
                exact ret_spe (tl_mk _) (by rw [decS, HB.out, if_neg ho2.out, if_pos hr0, hfull]) (by rw [decP, HB.out, if_neg ho2.out, if_pos hr0]; rfl) (by rw [decE, HB.out, if_neg ho2.out, if_pos hr0]) hbel
end Go.Proofs.Ytkjenmkgamnchaa
