/- The document's Encode. -/
import Derived.Test.YtkjenmkgamnchaaBasE
namespace Go.Proofs.Ytkjenmkgamnchaa
open Go.RowKit
set_option linter.unusedVariables false
set_option linter.unusedSimpArgs false
set_option maxRecDepth 100000 in
set_option maxHeartbeats 3200000 in
theorem rencode_any (s : ByteArray) (w : World) (hs : s.size ≤ 1048576) :
    Calls Try.prog 9 #[.string s] w (RetS (encL s.toList) w) := by
  obtain ⟨i0, hi, hz0, hz1, hz2⟩ := info_parts info5
  obtain ⟨j0, hj, hy0, hy1, hy2⟩ := info_parts info3
  go_enter Try.func9, Try.ntmps9
  go_wp2
  go_loopw [3, 4] (fun v i wr => ∃ k : Nat, k ≤ s.size ∧ i = .int .i64 k ∧ wr.ownsRow w.heap.size 3 1 v (8 * k) (icells (bitL (Tn (ofBe s.toList) s.toList.length) (8 * k))) ∧ Below w.heap.size w wr) (fun _ i _ => s.size - (intOf i).toNat)
  case atStart => exact ⟨0, Nat.zero_le _, rfl, World.ownsRow_nil _ _ _ _, Below.refl _ _⟩
  case round =>
    obtain ⟨k, hk, rfl, hown, hbel⟩ := hrel
    have HO := Lib.hid hown
    clear hown
    by_cases hlt : k < s.size
    · obtain ⟨b, hb⟩ : ∃ b : UInt8, s[k] = b := ⟨_, rfl⟩
      have hb2 := b.toNat_lt
      have HK : Hid (s.toList[k]? = some b) := by rw [← hb]; exact tl_get s k hlt
      go_wp2
      have hbel0 := hbel
      have HO0 := HO
      clear hbel HO
      go_loopw [3, 5] (fun v n wq => ∃ j : Nat, j ≤ 8 ∧ n = .int .i64 (7 - (j : Int)) ∧ wq.ownsRow w.heap.size 3 1 v (8 * k + j) (icells (bitL (Tn (ofBe s.toList) s.toList.length) (8 * k + j))) ∧ Below w.heap.size w wq) (fun _ n _ => (intOf n + 1).toNat)
      case atStart => exact ⟨0, by omega, by go_num, HO0.out, hbel0⟩
      case round =>
        clear hbel0 HO0
        obtain ⟨j, hj8, rfl, hown, hbel⟩ := hrel
        have HO := Lib.hid hown
        clear hown
        have hsz := hbel.size
        by_cases h8 : j < 8
        · obtain ⟨d, hd⟩ : ∃ d : Nat, (7 : Int) - (j : Int) = (d : Int) := ⟨7 - j, by omega⟩
          have HD : Hid (d = 7 - j) := by show d = 7 - j; omega
          have hd7 : d ≤ 7 := by omega
          rw [hd]
          clear hd
          obtain ⟨u, hu, hu2⟩ : ∃ u : Int, bits .and .i64 ((b.toNat : Int) / 2 ^ d) 1 = u ∧ u = ((Tn (ofBe s.toList) s.toList.length (8 * k + j + 1) % 2 : Nat) : Int) := ⟨_, rfl, by
            rw [i64_bit, Tn_byte s.toList k j b HK.out h8, HD.out]⟩
          have HU := Lib.hid hu2
          clear hu2
          have hn7 : 8 * k + j ≤ 17592186044415 := by omega
          go_wp2_with (at_builtin; refine wpList_append_i64 rfl (.tmp 20) (.tmp 29) 34 rfl w.heap.size 3 j0 Try.underlying34 hj hy0 hy1 hy2 u3 (8 * k + j) _ rfl (HO.out.alloc _) wr.heap.size 1 u rfl (by simp) hn7 (by simp; omega) ?_; intro v' w1 hown1 hgrow)
          have hb1 := below_own (hbel.alloc hsz (Obj.cells #[Value.int IntKind.i64 u] 3)) hgrow (by simp; omega) (HO.out.alloc _)
          clear hgrow hu
          go_wp2
          go_roundw
          case rel =>
            refine ⟨j + 1, by omega, ?_, ?_, hb1⟩
            · have := HD.out
              go_num
            · rw [← Nat.add_assoc, bitL_succ, ← HU.out]
              exact hown1
          case measure => have := HD.out; simp [intOf]
        · have hj : j = 8 := by omega
          subst hj
          have e7 : (7 : Int) - ((8 : Nat) : Int) = -1 := by omega
          rw [e7]
          go_wp2
          go_roundw
          case rel => exact ⟨k + 1, by omega, by go_num, HO.out, hbel⟩
          case measure => simp [intOf]; omega
    · have hkm : k = s.size := by omega
      subst hkm
      go_wp2
      have hbel0 := hbel
      have HO0 := HO
      clear hbel HO
      obtain ⟨M, hM⟩ : ∃ M, M = 6 * encN s.size := ⟨_, rfl⟩
      have hmb : M ≤ 16777216 := by rw [hM]; unfold encN; omega
      have HM := Lib.hid hM
      clear hM
      go_loopw [3] (fun v wq => ∃ m : Nat, 8 * s.size ≤ m ∧ m ≤ M ∧ wq.ownsRow w.heap.size 3 1 v m (icells (bitL (Tn (ofBe s.toList) s.toList.length) m)) ∧ Below w.heap.size w wq) (fun v _ => M - sliceLen v)
      case atStart => exact ⟨8 * s.size, Nat.le_refl _, by rw [HM.out]; unfold encN; omega, HO0.out, hbel0⟩
      case round =>
        clear hbel0 HO0
        obtain ⟨m, hm1, hm2, hown, hbel⟩ := hrel
        obtain ⟨a, cp, rfl, hfm⟩ := own_form hown
        have HO := Lib.hid hown
        have HFM := Lib.hid hfm
        clear hown hfm
        have hsz := hbel.size
        by_cases h6 : m % 6 = 0
        · have hb : (((m : Int) % 6) != 0) = false := by rw [bne_eq_false_iff_eq]; omega
          have hmM : m = M := by
            have := HM.out
            unfold encN at this
            omega
          have H6 := Lib.hid h6
          clear h6
          subst hmM
          go_wp2_with fail
          have hbel0 := hbel
          have HO0 := HO
          clear hbel HO hsz
          go_loopw [6, 7] (fun v at_ wq => ∃ q j : Nat, q = 6 * j ∧ q ≤ m ∧ at_ = .int .i64 (q : Int) ∧ wq.ownsRow w.heap.size 3 1 (.slice a m cp) m (icells (bitL (Tn (ofBe s.toList) s.toList.length) m)) ∧ wq.ownsRow w.heap.size 5 1 v j (bcells ((encL s.toList).take j)) ∧ Below w.heap.size w wq) (fun _ at_ _ => m - (intOf at_).toNat)
          case atStart => exact ⟨0, 0, rfl, Nat.zero_le _, rfl, HO0.out, World.ownsRow_nil _ _ _ _, hbel0⟩
          case round =>
            clear hbel0 HO0
            obtain ⟨q, j, hq, hqm, rfl, hbits, hown, hbel⟩ := hrel
            have HB := Lib.hid hbits
            have HO := Lib.hid hown
            have HQ := Lib.hid hq
            clear hbits hown hq
            have hsz := hbel.size
            by_cases hlt : q < m
            · obtain ⟨g, hg⟩ := HFM.out (by omega)
              subst hg
              have hqm6 : q + 6 ≤ m := by have := HQ.out; have := H6.out; omega
              go_wp2
              go_loopw [8, 9] (fun n k wz => ∃ kk x : Nat, kk ≤ 6 ∧ k = .int .i64 (kk : Int) ∧ n = .int .i64 (x : Int) ∧ x = Tn (ofBe s.toList) s.toList.length (q + kk) % 2 ^ kk ∧ wr = wz) (fun _ k _ => 6 - (intOf k).toNat)
              case atStart => exact ⟨0, 0, by omega, rfl, rfl, by simp [Nat.mod_one], rfl⟩
              case round =>
                obtain ⟨kk, x, hk6, rfl, rfl, hx, rfl⟩ := hrel
                have HX := Lib.hid hx
                clear hx
                have hx64 : x < 64 := by
                  rw [HX.out]
                  have h1 := Nat.mod_lt (Tn (ofBe s.toList) s.toList.length (q + kk)) (y := 2 ^ kk) (Nat.pow_pos (by decide))
                  have h2 : 2 ^ kk ≤ 2 ^ 6 := Nat.pow_le_pow_right (by decide) hk6
                  omega
                by_cases h6k : kk < 6
                · obtain ⟨u, hu, hcell, hfr⟩ := icell HB.out (q + kk) (by omega)
                  rw [bitL_get _ _ _ (by omega)] at hu
                  have HU := Lib.hid (Option.some.inj hu)
                  clear hu
                  obtain ⟨y, hy⟩ : ∃ y : Nat, u = (y : Int) := ⟨_, HU.out.symm⟩
                  have hy2 : y < 2 := by have := HU.out; omega
                  have HY : Hid (y = Tn (ofBe s.toList) s.toList.length (q + kk + 1) % 2) := by have := HU.out; show y = _; omega
                  subst hy
                  clear HU
                  go_wp2
                  go_roundw
                  case rel =>
                    refine ⟨kk + 1, 2 * x + y, by omega, by go_num, by go_num, ?_, (by first | rfl | trivial)⟩
                    rw [HX.out, HY.out, ← Nat.add_assoc]
                    exact Tn_step _ _ _ _
                  case measure => simp [intOf]; omega
                · have hkk : kk = 6 := by omega
                  subst hkk
                  have hjn : j < encN s.toList.length := by
                    have h1 := HQ.out
                    have h2 := HM.out
                    rw [tl_size]
                    omega
                  have HXS : Hid (x = sext (ofBe s.toList) s.toList.length j) := by
                    have h1 := HX.out
                    have h2 := HQ.out
                    rw [show q + 6 = 6 * (j + 1) by omega] at h1
                    rw [h1]
                    exact Tn_sext _ _ _
                  have hj7 : j + 1 ≤ 140737488355328 := by have := HQ.out; omega
                  clear hb
                  go_wp2_with (fail)
                  refine (bsign_any (x : Int) _ (by omega) (by omega)).mono ?_
                  rw [Int.toNat_natCast]
                  rintro e w' ⟨rfl, rfl⟩
                  go_wp2_with (at_builtin; refine wpList_append_u8 rfl (.tmp 57) (.tmp 60) 31 rfl w.heap.size 5 i0 Try.underlying31 hi hz0 hz1 hz2 u6 j _ rfl (HO.out.alloc _) _ 1 1 [sgB x] rfl rfl (cells_one (by simp)) hj7 (by simp; omega) ?_; intro v' w1 hown1 hgrow)
                  have hb1 := below_own (hbel.alloc hsz (Obj.cells #[Value.int IntKind.u8 ↑(sgB x).toNat] 5)) hgrow (by simp; omega) (HO.out.alloc _)
                  have hbits1 := (HB.out.alloc (Obj.cells #[Value.int IntKind.u8 ↑(sgB x).toNat] 5)).kept hgrow (own_ne HB.out HO.out (by decide))
                  clear hgrow
                  go_roundw
                  case rel =>
                    refine ⟨q + 6, j + 1, by have := HQ.out; omega, by omega, by go_num, hbits1, ?_, hb1⟩
                    rw [encL_take _ _ hjn, ← HXS.out]
                    exact hown1
                  case measure => simp [intOf]; omega
            · have hqe : q = m := by omega
              subst hqe
              have hcv := run_convert_own (P := Try.prog) HO.out 31 9 Try.underlying31 Try.underlying5 Try.underlying9
              go_wp2
              go_ret
              refine ⟨_, rfl, ?_, hbel⟩
              rw [tl_mk, List.take_of_length_le]
              have h1 := HQ.out
              have h2 := HM.out
              rw [encL_length, tl_size]
              omega
        · have hb : (((m : Int) % 6) != 0) = true := by rw [bne_iff_ne]; omega
          have hmM : m < M := by
            have := HM.out
            unfold encN at this
            omega
          have hn7 : m ≤ 17592186044415 := by omega
          have hz0' : Tn (ofBe s.toList) s.toList.length (m + 1) % 2 = 0 := Tn_zero _ _ _ (by rw [tl_size]; exact hm1)
          have HZ := Lib.hid hz0'
          clear hz0'
          go_wp2_with (at_builtin; refine wpList_append_i64 rfl (.tmp 35) (.tmp 36) 34 rfl w.heap.size 3 j0 Try.underlying34 hj hy0 hy1 hy2 _ m _ rfl (HO.out.alloc _) wr.heap.size 1 0 rfl (by simp) hn7 (by simp; omega) ?_; intro v' w1 hown1 hgrow; have hb1 := below_own (hbel.alloc hsz (Obj.cells #[Value.int IntKind.i64 0] 3)) hgrow (by simp; omega) (HO.out.alloc _); clear hgrow)
          go_roundw
          case rel =>
            refine ⟨m + 1, by omega, by omega, ?_, hb1⟩
            rw [bitL_succ, HZ.out]
            exact hown1
          case measure => rw [own_len hown1]; simp [sliceLen]; omega
end Go.Proofs.Ytkjenmkgamnchaa
