/- The contracts of Put, the program's and the document's. -/
import Derived.Test.YthaajaajhddhdaaOctD
namespace Go.Proofs.Ythaajaajhddhdaa
open Go.RowKit
set_option linter.unusedVariables false
set_option linter.unusedSimpArgs false
set_option maxRecDepth 100000 in
theorem putOk_out (n : Nat) (m : Int) (h : m < 1 ∨ 8 < m) : putOk n m = false := by simp [putOk]; omega
set_option maxRecDepth 100000 in
theorem put_out (n : Nat) (m : Int) (w : World) (h : m < 1 ∨ 8 < m) : Calls Try.prog 27 #[.int .u64 (n : Int), .int .i64 m] w (RetSE (putL n m) (putE n m) w) := by
  have H1 := Lib.hid (putOk_out n m h)
  rcases h with h | h
  all_goals
    go_enter Try.func27, Try.ntmps27
    go_wp2
    go_ret2
    exact ret_se (tl_mk []) (by rw [putL, H1.out]; rfl) (by rw [putE, H1.out]; rfl) (Below.refl _ _)
theorem putOk_iff (n m : Nat) (h1 : 1 ≤ m) (h8 : m ≤ 8) : putOk n (m : Int) = decide (n < 256 ^ m) := by
  rw [Bool.eq_iff_iff]
  simp [putOk]
  omega
theorem div_zero (n m : Nat) : n / 256 ^ m = 0 ↔ n < 256 ^ m := Nat.div_eq_zero_iff_lt (Nat.pow_pos (by decide))
set_option maxRecDepth 100000 in
set_option maxHeartbeats 800000 in
theorem put_in (n m : Nat) (w : World) (hn : n < 2 ^ 64) (h1 : 1 ≤ m) (h8 : m ≤ 8) :
    Calls Try.prog 27 #[.int .u64 (n : Int), .int .i64 (m : Int)] w (RetSE (putL n m) (putE n m) w) := by
  obtain ⟨i0, hi, hz0, hz1, hz2⟩ := info_parts info5
  have HF := Lib.hid (bcells_made m)
  go_enter Try.func27, Try.ntmps27
  go_wp2_with (at_make; refine wpList_make_full _ rfl (.tmp 14) (.tmp 14) 33 rfl w.heap.size 5 i0 (.int .u8 0) 1 Try.underlying33 hi hz0 hz1 .i64 .i64 _ _ m rfl rfl rfl rfl (by rw [hz2]; omega) (by unfold maxLen; omega) (Nat.le_refl _) ?_; intro w1 hown hgrow)
  rw [HF.out, ← fillp_none (putF m n) m (fun i => decide (m ≤ i + 0)) (by simp)] at hown
  have hbel := (Below.refl w.heap.size w).grown hgrow (Nat.le_refl _) (by simp)
  clear hgrow
  go_wp2
  go_loopw [0, 17] (fun y i wr => ∃ k x : Nat, k ≤ m ∧ i = .int .i64 k ∧ y = .int .u64 (x : Int) ∧ x = n / 256 ^ k ∧ wr.ownsRow w.heap.size 5 1 (.slice (some ⟨w.heap.size, 0, none⟩) m m) m (bcells (fillp (putF m n) m (fun i => decide (m ≤ i + k)))) ∧ Below w.heap.size w wr) (fun _ i _ => m - (intOf i).toNat)
  case atStart => exact ⟨0, n, Nat.zero_le _, rfl, rfl, by simp, hown, hbel⟩
  case round =>
    clear hown hbel
    obtain ⟨k, x, hk, rfl, rfl, hx, hown, hbel⟩ := hrel
    have HO := Lib.hid hown
    have HX := Lib.hid hx
    clear hown hx
    by_cases hlt : k < m
    · obtain ⟨u0, _, hcell, hfr⟩ := fill_cell HO.out (m - 1 - k) (by omega)
      have e1 : (m : Int) - 1 - (k : Int) = ((m - 1 - k : Nat) : Int) := by omega
      have hx2 : x < 2 ^ 64 := by rw [HX.out]; exact Nat.lt_of_le_of_lt (Nat.div_le_self _ _) hn
      go_wp2
      go_roundw
      case rel =>
        refine ⟨k + 1, x / 256, by omega, by go_num, by go_num, by rw [HX.out, div_step], ?_, hbel.setCell (p := ⟨w.heap.size, m - 1 - k, none⟩) (Nat.le_refl _) _⟩
        rw [u8mod]
        exact fill_store HO.out (m - 1 - k) (UInt8.ofNat x) (by rw [putF_at m n k hlt, HX.out]) _ (by intro i hi; rw [Bool.eq_iff_iff]; simp; omega)
      case measure => simp [intOf]; omega
    · have hkm : k = m := by omega
      subst hkm
      have hcv := run_convert_own (P := Try.prog) HO.out 33 9 Try.underlying33 Try.underlying5 Try.underlying9
      by_cases hx0 : x = 0
      · have hb : ((x : Int) != 0) = false := by simp [hx0]
        have H0 := Lib.hid hx0
        clear hx0
        go_wp2
        go_ret2
        have hok : putOk n (k : Int) = true := by rw [putOk_iff n k h1 h8, decide_eq_true_iff, ← div_zero, ← HX.out, H0.out]
        exact ret_se (tl_mk _) (by rw [putL, hok, fillp_all _ _ _ (by intro i hi; simp)]; rfl) (by rw [putE, hok]; rfl) hbel
      · have hb : ((x : Int) != 0) = true := by simp [hx0]
        have H0 := Lib.hid hx0
        clear hx0
        go_wp2
        go_ret2
        have hok : putOk n (k : Int) = false := by rw [putOk_iff n k h1 h8, decide_eq_false_iff_not, ← div_zero, ← HX.out]; exact H0.out
        exact ret_se (tl_mk []) (by rw [putL, hok]; rfl) (by rw [putE, hok]; rfl) hbel
set_option maxRecDepth 100000 in
theorem put_any (n : Nat) (m : Int) (w : World) (hn : n < 2 ^ 64) : Calls Try.prog 27 #[.int .u64 (n : Int), .int .i64 m] w (RetSE (putL n m) (putE n m) w) := by
  by_cases h : 1 ≤ m ∧ m ≤ 8
  · obtain ⟨k, rfl⟩ := Int.eq_ofNat_of_zero_le (show 0 ≤ m by omega)
    exact put_in n k w hn (by omega) (by omega)
  · exact put_out n m w (by omega)
end Go.Proofs.Ythaajaajhddhdaa
