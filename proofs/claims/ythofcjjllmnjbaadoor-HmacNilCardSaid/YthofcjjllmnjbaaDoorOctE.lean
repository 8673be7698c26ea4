/- The contracts of Put, the program's and the document's. -/
import Derived.Test.YthofcjjllmnjbaaDoorOctD
namespace Go.Proofs.YthofcjjllmnjbaaDoor
open Go.RowKit
set_option linter.unusedVariables false
set_option linter.unusedSimpArgs false
set_option maxRecDepth 100000 in
theorem putOk_out (n : Nat) (m : Int) (h : m < 1 ∨ 8 < m) : putOk n m = false := by simp [putOk]; omega
set_option maxRecDepth 100000 in
theorem put_out (n : Nat) (m : Int) (w : World) (h : m < 1 ∨ 8 < m) : Calls Tryd.prog 49 #[.int .u64 (n : Int), .int .i64 m] w (RetSE (putL n m) (putE n m) w) := by
  have H1 := Lib.hid (putOk_out n m h)
  rcases h with h | h
  all_goals
    go_enter Tryd.func49, Tryd.ntmps49
    go_wp2
    go_ret2
    exact ret_se (tl_mk []) (by rw [putL, H1.out]; rfl) (by rw [putE, H1.out]; rfl) (Below.refl _ _)
set_option maxRecDepth 100000 in
theorem rput_out (n : Nat) (m : Int) (w : World) (h : m < 1 ∨ 8 < m) : Calls Tryd.prog 51 #[.int .u64 (n : Int), .int .i64 m] w (RetSE (putL n m) (putE n m) w) := by
  have H1 := Lib.hid (putOk_out n m h)
  rcases h with h | h
  all_goals
    go_enter Tryd.func51, Tryd.ntmps51
    go_wp2
    go_ret2
    exact ret_se (tl_mk []) (by rw [putL, H1.out]; rfl) (by rw [putE, H1.out]; rfl) (Below.refl _ _)
theorem putOk_iff (n m : Nat) (h1 : 1 ≤ m) (h8 : m ≤ 8) : putOk n (m : Int) = decide (n < 256 ^ m) := by
  rw [Bool.eq_iff_iff]
  simp [putOk]
  omega
theorem div_zero (n m : Nat) : n / 256 ^ m = 0 ↔ n < 256 ^ m := Nat.div_eq_zero_iff_lt (Nat.pow_pos (by decide))
set_option maxRecDepth 100000 in
set_option maxHeartbeats 800000 in
theorem put_in (n m : Nat) (w : World) (hn : n < 2 ^ 64) (h1 : 1 ≤ m) (h8 : m ≤ 8) :
    Calls Tryd.prog 49 #[.int .u64 (n : Int), .int .i64 (m : Int)] w (RetSE (putL n m) (putE n m) w) := by
  obtain ⟨i0, hi, hz0, hz1, hz2⟩ := info_parts info5
  have HF := Lib.hid (bcells_made m)
  go_enter Tryd.func49, Tryd.ntmps49
  go_wp2_with (at_make; refine wpList_make_full _ rfl (.tmp 14) (.tmp 14) 80 rfl w.heap.size 5 i0 (.int .u8 0) 1 Tryd.underlying80 hi hz0 hz1 .i64 .i64 _ _ m rfl rfl rfl rfl (by rw [hz2]; omega) (by unfold maxLen; omega) (Nat.le_refl _) ?_; intro w1 hown hgrow)
  rw [HF.out, ← fillp_none (putF m n) m (fun i => decide (m ≤ i + 0)) (by simp)] at hown
  have hbel := (Below.refl w.heap.size w).grown hgrow (Nat.le_refl _) (by simp)
  clear hgrow
  go_wp2
  go_loopw [0, 17] (fun y i wr => ∃ k x : Nat, k ≤ m ∧ i = .int .i64 k ∧ y = .int .u64 (x : Int) ∧ x = n / 256 ^ k ∧ wr.ownsRow w.heap.size 5 1 (.slice (some ⟨w.heap.size, 0, none⟩) m m) m (bcells (fillp (putF m n) m (fun i => decide (m ≤ i + k)))) ∧ Below w.heap.size w wr) (fun _ i _ => m - (intOf i).toNat)
  case atStart => exact ⟨0, n, Nat.zero_le _, rfl, rfl, by simp, hown, hbel⟩
  case round =>
    clear hown hbel
    obtain ⟨k, x, hk, rfl, rfl, hx, hown, hbel⟩ := hrel
    have HO := Lib.hid hown
    have HX := Lib.hid hx
    clear hown hx
    by_cases hlt : k < m
    · obtain ⟨u0, _, hcell, hfr⟩ := fill_cell HO.out (m - 1 - k) (by omega)
      have e1 : (m : Int) - 1 - (k : Int) = ((m - 1 - k : Nat) : Int) := by omega
      have hx2 : x < 2 ^ 64 := by rw [HX.out]; exact Nat.lt_of_le_of_lt (Nat.div_le_self _ _) hn
      go_wp2
      go_roundw
      case rel =>
        refine ⟨k + 1, x / 256, by omega, by go_num, by go_num, by rw [HX.out, div_step], ?_, hbel.setCell (p := ⟨w.heap.size, m - 1 - k, none⟩) (Nat.le_refl _) _⟩
        rw [u8mod]
        exact fill_store HO.out (m - 1 - k) (UInt8.ofNat x) (by rw [putF_at m n k hlt, HX.out]) _ (by intro i hi; rw [Bool.eq_iff_iff]; simp; omega)
      case measure => simp [intOf]; omega
    · have hkm : k = m := by omega
      subst hkm
      have hcv := run_convert_own (P := Tryd.prog) HO.out 80 9 Tryd.underlying80 Tryd.underlying5 Tryd.underlying9
      by_cases hx0 : x = 0
      · have hb : ((x : Int) != 0) = false := by simp [hx0]
        have H0 := Lib.hid hx0
        clear hx0
        go_wp2
        go_ret2
        have hok : putOk n (k : Int) = true := by rw [putOk_iff n k h1 h8, decide_eq_true_iff, ← div_zero, ← HX.out, H0.out]
        exact ret_se (tl_mk _) (by rw [putL, hok, fillp_all _ _ _ (by intro i hi; simp)]; rfl) (by rw [putE, hok]; rfl) hbel
      · have hb : ((x : Int) != 0) = true := by simp [hx0]
        have H0 := Lib.hid hx0
        clear hx0
        go_wp2
        go_ret2
        have hok : putOk n (k : Int) = false := by rw [putOk_iff n k h1 h8, decide_eq_false_iff_not, ← div_zero, ← HX.out]; exact H0.out
        exact ret_se (tl_mk []) (by rw [putL, hok]; rfl) (by rw [putE, hok]; rfl) hbel
set_option maxRecDepth 100000 in
set_option maxHeartbeats 800000 in
theorem rput_in (n m : Nat) (w : World) (hn : n < 2 ^ 64) (h1 : 1 ≤ m) (h8 : m ≤ 8) :
    Calls Tryd.prog 51 #[.int .u64 (n : Int), .int .i64 (m : Int)] w (RetSE (putL n m) (putE n m) w) := by
  obtain ⟨i0, hi, hz0, hz1, hz2⟩ := info_parts info5
  go_enter Tryd.func51, Tryd.ntmps51
  go_wp2
  go_loopw [6, 7] (fun v i wr => ∃ k : Nat, k ≤ m ∧ i = .int .i64 k ∧ wr.ownsRow w.heap.size 5 1 v k (bcells ((be m n).take k)) ∧ Below w.heap.size w wr) (fun _ i _ => m - (intOf i).toNat)
  case atStart => exact ⟨0, Nat.zero_le _, rfl, World.ownsRow_nil _ _ _ _, Below.refl _ _⟩
  case round =>
    obtain ⟨k, hk, rfl, hown, hbel⟩ := hrel
    have HO := Lib.hid hown
    clear hown
    have hsz := hbel.size
    by_cases hlt : k < m
    · have e1 : (8 : Int) * ((m : Int) - 1 - (k : Int)) = ((8 * (m - 1 - k) : Nat) : Int) := by omega
      have e2 : 8 * (m - 1 - k) < 64 := by omega
      obtain ⟨u, hu, hu2⟩ : ∃ u : UInt8, (n : Int) / 2 ^ (8 * (m - 1 - k)) % 256 = (u.toNat : Int) ∧ u = UInt8.ofNat (n / 256 ^ (m - 1 - k)) := ⟨UInt8.ofNat (n / 256 ^ (m - 1 - k)), by
        rw [← u8mod, Int.natCast_ediv, ← pow8, Int.natCast_pow]; rfl, rfl⟩
      have HU := Lib.hid hu2; clear hu2
      go_wp2_with (at_builtin; refine wpList_append_u8 rfl (.tmp 21) (.tmp 31) 80 rfl w.heap.size 5 i0 Tryd.underlying80 hi hz0 hz1 hz2 u6 k _ rfl (HO.out.alloc _) wr.heap.size 1 1 [u] rfl rfl (cells_one (by simp)) (by omega) (by simp; omega) ?_; intro v' w1 hown1 hgrow)
      have hb1 := below_own (hbel.alloc hsz (Obj.cells #[Value.int IntKind.u8 ↑u.toNat] 5)) hgrow (by simp; omega) (HO.out.alloc _)
      clear hgrow hu e1 e2
      go_wp2
      go_roundw
      case rel =>
        refine ⟨k + 1, by omega, by go_num, ?_, hb1⟩
        rw [be_take m n k hlt, ← HU.out]
        exact hown1
      case measure => simp [intOf]; omega
    · have hkm : k = m := by omega
      subst hkm
      have hcv := run_convert_own (P := Tryd.prog) HO.out 80 9 Tryd.underlying80 Tryd.underlying5 Tryd.underlying9
      rw [List.take_of_length_le (by rw [be_length]; exact Nat.le_refl _)] at hcv
      obtain ⟨s, hs, hs2⟩ : ∃ s : ByteArray, (⟨(be k n).toArray⟩ : ByteArray) = s ∧ s.toList = be k n := ⟨_, rfl, tl_mk _⟩
      rw [hs] at hcv
      have HS := Lib.hid hs
      have HS2 := Lib.hid hs2
      clear hs hs2
      have hN : getN s.toList = n % 256 ^ k := by
        have hg : getOk (be k n) = true := by simp [getOk, be_length]; omega
        rw [HS2.out, getN, if_pos hg, ofBe_be]
      have HN := Lib.hid hN
      clear hN
      have hms : s.size ≤ maxLen := by rw [← tl_size, HS2.out, be_length]; unfold maxLen; omega
      go_wp2_with fail
      refine (rget_any s _ hms).mono ?_
      rintro e w2 ⟨rfl, rfl⟩
      by_cases hok : n < 256 ^ k
      · have hb : ((getN s.toList : Int) != (n : Int)) = false := by rw [HN.out, Nat.mod_eq_of_lt hok]; simp
        have H0 := Lib.hid hok
        clear hok
        go_wp2
        go_ret2
        have hok : putOk n (k : Int) = true := by rw [putOk_iff n k h1 h8, decide_eq_true_iff]; exact H0.out
        exact ret_se HS2.out (by rw [putL, hok]; rfl) (by rw [putE, hok]; rfl) hbel
      · have hb : ((getN s.toList : Int) != (n : Int)) = true := by
          rw [HN.out, bne_iff_ne]
          have := Nat.mod_lt n (y := 256 ^ k) (Nat.pow_pos (by decide))
          omega
        have H0 := Lib.hid hok
        clear hok
        go_wp2
        go_ret2
        have hok : putOk n (k : Int) = false := by rw [putOk_iff n k h1 h8, decide_eq_false_iff_not]; exact H0.out
        exact ret_se (tl_mk []) (by rw [putL, hok]; rfl) (by rw [putE, hok]; rfl) hbel
set_option maxRecDepth 100000 in
theorem put_any (n : Nat) (m : Int) (w : World) (hn : n < 2 ^ 64) : Calls Tryd.prog 49 #[.int .u64 (n : Int), .int .i64 m] w (RetSE (putL n m) (putE n m) w) := by
  by_cases h : 1 ≤ m ∧ m ≤ 8
  · obtain ⟨k, rfl⟩ := Int.eq_ofNat_of_zero_le (show 0 ≤ m by omega)
    exact put_in n k w hn (by omega) (by omega)
  · exact put_out n m w (by omega)
set_option maxRecDepth 100000 in
theorem rput_any (n : Nat) (m : Int) (w : World) (hn : n < 2 ^ 64) : Calls Tryd.prog 51 #[.int .u64 (n : Int), .int .i64 m] w (RetSE (putL n m) (putE n m) w) := by
  by_cases h : 1 ≤ m ∧ m ≤ 8
  · obtain ⟨k, rfl⟩ := Int.eq_ofNat_of_zero_le (show 0 ≤ m by omega)
    exact rput_in n k w hn (by omega) (by omega)
  · exact rput_out n m w (by omega)
end Go.Proofs.YthofcjjllmnjbaaDoor
