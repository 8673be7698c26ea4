/- The contracts of Add, the program's and the document's. -/
import Derived.Test.YtkedoiikkjeadaaDoorOctE
import Derived.Test.YtkedoiikkjeadaaDoorOctQ
import Derived.Test.YtkedoiikkjeadaaDoorRowM
namespace Go.Proofs.YtkedoiikkjeadaaDoor
open Go.RowKit
set_option linter.unusedVariables false
set_option linter.unusedSimpArgs false
theorem byte_add (d : UInt8) (x : Nat) : ((d.toNat : Int) + (x : Int)) % 256 = ((d + UInt8.ofNat x).toNat : Int) := by
  rw [UInt8.toNat_add, UInt8.toNat_ofNat']
  omega
set_option maxRecDepth 100000 in
set_option maxHeartbeats 800000 in
theorem oadd_any (s : ByteArray) (n : Nat) (w : World) (hs : s.size ≤ 140737488351232) (hn : n < 2 ^ 64) :
    Calls Tryd.prog 97 #[.string s, .int .u64 (n : Int)] w (RetS (oaddL s.toList n) w) := by
  obtain ⟨i0, hi, hz0, hz1, hz2⟩ := info_parts info5
  have HF := Lib.hid (bcells_made s.size)
  go_enter Tryd.func97, Tryd.ntmps97
  go_wp2_with (at_make; refine wpList_make_full _ rfl (.tmp 10) (.tmp 10) 56 rfl w.heap.size 5 i0 (.int .u8 0) 1 Tryd.underlying56 hi hz0 hz1 .i64 .i64 _ _ s.size rfl rfl rfl rfl (by rw [hz2]; omega) (by unfold maxLen; omega) (Nat.le_refl _) ?_; intro w1 hown hgrow)
  rw [HF.out, ← fillp_none (putF s.size (ofBe s.toList + n)) s.size (fun i => decide (s.size ≤ i + 0)) (by simp)] at hown
  have hbel := (Below.refl w.heap.size w).grown hgrow (Nat.le_refl _) (by simp)
  clear hgrow
  go_wp2
  go_loopw [1, 14] (fun y i wr => ∃ k x : Nat, k ≤ s.size ∧ i = .int .i64 k ∧ y = .int .u64 (x : Int) ∧ x = carry (ofBe s.toList) n k ∧ wr.ownsRow w.heap.size 5 1 (.slice (some ⟨w.heap.size, 0, none⟩) s.size s.size) s.size (bcells (fillp (putF s.size (ofBe s.toList + n)) s.size (fun i => decide (s.size ≤ i + k)))) ∧ Below w.heap.size w wr) (fun _ i _ => s.size - (intOf i).toNat)
  case atStart => exact ⟨0, n, Nat.zero_le _, rfl, rfl, (carry_zero _ _).symm, hown, hbel⟩
  case round =>
    clear hown hbel
    obtain ⟨k, x, hk, rfl, rfl, hx, hown, hbel⟩ := hrel
    have HO := Lib.hid hown
    have HX := Lib.hid hx
    clear hown hx
    by_cases hlt : k < s.size
    · obtain ⟨u0, hu0, hcell, hfr⟩ := fill_cell HO.out (s.size - 1 - k) (by omega)
      clear hu0
      have e1 : (s.size : Int) - 1 - (k : Int) = ((s.size - 1 - k : Nat) : Int) := by omega
      have hx2 : x < 2 ^ 64 := by rw [HX.out]; exact Nat.lt_of_le_of_lt (carry_le _ _ _) hn
      have hj : s.size - 1 - k < s.size := by omega
      obtain ⟨d, hd⟩ : ∃ d : UInt8, s[s.size - 1 - k] = d := ⟨_, rfl⟩
      have hd2 := d.toNat_lt
      have HD : Hid (d = UInt8.ofNat (ofBe s.toList / 256 ^ k)) := by
        have h1 := digit s.toList k (by rw [tl_size]; exact hlt)
        rw [tl_size, tl_get s _ hj, hd] at h1
        exact Option.some.inj h1
      have HB : Hid (d + UInt8.ofNat x = UInt8.ofNat ((ofBe s.toList + n) / 256 ^ k)) := by
        have := add_byte (ofBe s.toList) n k
        rw [← HX.out, ← HD.out] at this
        exact this
      have hcs := add_carry (ofBe s.toList) n k
      rw [← HX.out, ← HB.out] at hcs
      have HC := Lib.hid hcs
      clear hcs
      have hfin : ∀ x' : Nat, x' = carry (ofBe s.toList) n (k + 1) → ∃ k_1 x_1 : Nat, k_1 ≤ s.size ∧ Value.int IntKind.i64 ((k : Int) + 1) = Value.int IntKind.i64 (k_1 : Int) ∧ Value.int IntKind.u64 (x' : Int) = Value.int IntKind.u64 (x_1 : Int) ∧ x_1 = carry (ofBe s.toList) n k_1 ∧ (wr.setCell ⟨w.heap.size, s.size - 1 - k, none⟩ (Value.int IntKind.u8 (((d.toNat : Int) + (x : Int)) % 256))).ownsRow w.heap.size 5 1 (.slice (some ⟨w.heap.size, 0, none⟩) s.size s.size) s.size (bcells (fillp (putF s.size (ofBe s.toList + n)) s.size (fun i => decide (s.size ≤ i + k_1)))) ∧ Below w.heap.size w (wr.setCell ⟨w.heap.size, s.size - 1 - k, none⟩ (Value.int IntKind.u8 (((d.toNat : Int) + (x : Int)) % 256))) := by
        intro x' hx'
        refine ⟨k + 1, x', by omega, by go_num, rfl, hx', ?_, hbel.setCell (p := ⟨w.heap.size, s.size - 1 - k, none⟩) (Nat.le_refl _) _⟩
        rw [byte_add]
        exact fill_store HO.out (s.size - 1 - k) _ (by rw [putF_at _ _ k hlt, HB.out]) _ (by intro i hi; rw [Bool.eq_iff_iff]; simp; omega)
      have HFIN := Lib.hid hfin
      clear hfin
      have hch : ((d.toNat : Int) + (x : Int)) % 256 < (x : Int) % 256 ∨ (x : Int) % 256 ≤ ((d.toNat : Int) + (x : Int)) % 256 := by omega
      go_wp2
      · have hlt2 : ((d.toNat : Int) + (x : Int)) % 256 < (x : Int) % 256 := by assumption
        go_roundw
        case rel =>
          refine HFIN.out (x / 256 + 1) ?_
          rw [HC.out, if_pos]
          rw [UInt8.toNat_add, UInt8.toNat_ofNat']
          omega
        case measure => simp [intOf]; omega
      · have hlt2 : (x : Int) % 256 ≤ ((d.toNat : Int) + (x : Int)) % 256 := by assumption
        go_roundw
        case rel =>
          refine HFIN.out (x / 256) ?_
          rw [HC.out, if_neg]
          · rfl
          · rw [UInt8.toNat_add, UInt8.toNat_ofNat']
            omega
        case measure => simp [intOf]; omega
    · have hkm : k = s.size := by omega
      subst hkm
      have hcv := run_convert_own (P := Tryd.prog) HO.out 56 9 Tryd.underlying56 Tryd.underlying5 Tryd.underlying9
      go_wp2
      go_ret
      refine ⟨_, rfl, ?_, hbel⟩
      rw [tl_mk, fillp_all _ _ _ (by intro i hi; simp), ← add_fill, tl_size]
set_option maxRecDepth 100000 in
set_option maxHeartbeats 800000 in
theorem oradd_any (s : ByteArray) (n : Nat) (w : World) (hs : s.size ≤ 140737488351232) (hn : n < 2 ^ 64) :
    Calls Tryd.prog 86 #[.string s, .int .u64 (n : Int)] w (RetS (oaddL s.toList n) w) := by
  go_enter Tryd.func86, Tryd.ntmps86
  go_wp2_with (refine wpList_bytes_u8 _ rfl (.tmp 9) 9 56 5 rfl Tryd.underlying9 Tryd.underlying56 Tryd.underlying5 s rfl ?_; intro cap w1 hrow hcap hbel hsz)
  rw [← ovr_none (putF s.size (ofBe s.toList + n)) (at0 s.toList) s.size (fun i => decide (s.size ≤ i + 0)) s.toList (tl_size s) (by simp) (by intro i hi; rw [tl_get s i hi, at0_tl s i hi])] at hrow
  have HR := Lib.hid hrow
  clear hrow hsz
  go_wp2
  go_loopw [1, 6, 7] (fun y c i wr => ∃ k x z : Nat, k ≤ s.size ∧ i = .int .i64 ((s.size : Int) - 1 - (k : Int)) ∧ y = .int .u64 (x : Int) ∧ c = .int .i64 (z : Int) ∧ x = n / 256 ^ k ∧ z = rcarry (ofBe s.toList) n k ∧ MRow wr w.heap.size 5 (ovr (putF s.size (ofBe s.toList + n)) (at0 s.toList) s.size (fun i => decide (s.size ≤ i + k))) ∧ Below w.heap.size w wr) (fun _ _ i _ => (intOf i + 1).toNat)
  case atStart => exact ⟨0, n, 0, Nat.zero_le _, by go_num, rfl, rfl, by simp, (rcarry_zero _ _).symm, HR.out, hbel⟩
  case round =>
    clear hbel HR
    obtain ⟨k, x, z, hk, rfl, rfl, rfl, hx, hz, hrow, hbel⟩ := hrel
    have HO := Lib.hid hrow
    have HX := Lib.hid hx
    have HZ := Lib.hid hz
    clear hrow hx hz
    by_cases hlt : k < s.size
    · have hj : s.size - 1 - k < s.size := by omega
      obtain ⟨u0, hu0, hcell, hfr⟩ := HO.out.cell (s.size - 1 - k) (by rw [ovr_length]; exact hj)
      have HD : Hid (u0 = UInt8.ofNat (ofBe s.toList / 256 ^ k)) := by
        have h1 := digit s.toList k (by rw [tl_size]; exact hlt)
        rw [tl_size] at h1
        rw [ovr_get _ _ _ _ _ hj, if_neg (by simp; omega)] at hu0
        have h2 := Option.some.inj hu0
        rw [at0_of h1] at h2
        exact h2.symm
      clear hu0
      have hd2 := u0.toNat_lt
      have hx2 : x < 2 ^ 64 := by rw [HX.out]; exact Nat.lt_of_le_of_lt (Nat.div_le_self _ _) hn
      have hz2 : z ≤ 1 := by rw [HZ.out]; exact rcarry_le _ _ _
      obtain ⟨m, hm⟩ : ∃ m : Nat, (s.size : Int) - 1 - (k : Int) = (m : Int) := ⟨s.size - 1 - k, by omega⟩
      have hm2 : s.size - 1 - k = m := by omega
      rw [hm2] at hcell hfr
      rw [hm]
      have HM := Lib.hid hm
      clear hm
      have hms : m < s.size := by omega
      have HM2 := Lib.hid hm2
      clear hm2
      go_wp2
      go_roundw
      case rel =>
        refine ⟨k + 1, x / 256, (u0.toNat + x % 256 + z) / 256, by omega, ?_, by go_num, by go_num, by rw [HX.out, div_step], ?_, ?_, hbel.setCell (p := ⟨w.heap.size, m, none⟩) (Nat.le_refl _) _⟩
        · have := HM.out
          go_num
        · have h1 := rcarry_step (ofBe s.toList) n k
          rw [← HX.out, ← HZ.out] at h1
          rw [h1, HD.out, UInt8.toNat_ofNat']
        · have h1 := rsum_digit (ofBe s.toList) n k
          rw [← HX.out, ← HZ.out] at h1
          have h3 : (((u0.toNat : Int) + (x : Int) % 256 + (z : Int)) % 256) = ((UInt8.ofNat ((ofBe s.toList + n) / 256 ^ k)).toNat : Int) := by
            rw [h1, HD.out, UInt8.toNat_ofNat', UInt8.toNat_ofNat']
            omega
          rw [h3]
          exact ovr_store HO.out m _ (by rw [← HM2.out, putF_at _ _ k hlt]) _ (by intro i hi; have := HM2.out; rw [Bool.eq_iff_iff]; simp; omega)
      case measure => simp [intOf]
    · have hkm : k = s.size := by omega
      subst hkm
      have hcv := HO.out.convert (P := Tryd.prog) 56 9 s.size cap (ovr_length _ _ _ _) Tryd.underlying56 Tryd.underlying5 Tryd.underlying9
      have e0 : (s.size : Int) - 1 - (s.size : Int) = -1 := by omega
      rw [e0]
      go_wp2
      go_ret
      refine ⟨_, rfl, ?_, hbel⟩
      rw [tl_mk, ovr_all _ _ _ _ (by intro i hi; simp), ← add_fill, tl_size]
end Go.Proofs.YtkedoiikkjeadaaDoor
