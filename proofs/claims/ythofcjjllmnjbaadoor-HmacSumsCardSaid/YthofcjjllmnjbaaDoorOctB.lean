/- The contract of Xor. -/
import Derived.Test.YthofcjjllmnjbaaDoorOctA
namespace Go.Proofs.YthofcjjllmnjbaaDoor
open Go.RowKit
set_option linter.unusedVariables false
set_option linter.unusedSimpArgs false

set_option maxRecDepth 100000 in
set_option maxHeartbeats 400000 in
theorem xor_le (a b : ByteArray) (w : World) (ha : a.size ≤ 140737488351232) (hb : b.size ≤ 140737488351232) (hc : a.size ≤ b.size) :
    Calls Tryd.prog 64 #[.string a, .string b] w (RetS (xorL a.toList b.toList) w) := by
  obtain ⟨i0, hi, hz0, hz1, hz2⟩ := info_parts info5
  have hmax : a.size ≤ maxLen := by unfold maxLen; omega
  have hby : i0.bytes * a.size ≤ 281474976710656 := by rw [hz2]; omega
  have HF := Lib.hid (bcells_made a.size)
  go_enter Tryd.func64, Tryd.ntmps64
  go_wp2_with (at_make; refine wpList_make_full _ rfl (.tmp 11) (.tmp 11) 80 rfl w.heap.size 5 i0 (.int .u8 0) 1 Tryd.underlying80 hi hz0 hz1 .i64 .i64 _ _ a.size rfl rfl rfl rfl hby hmax (Nat.le_refl _) ?_; intro w1 hown hgrow)
  rw [HF.out, ← fillp_none (xorF a.toList b.toList) a.size (fun i => decide (i < 0)) (by simp)] at hown
  have hbel := (Below.refl w.heap.size w).grown hgrow (Nat.le_refl _) (by simp)
  clear hgrow
  go_wp2
  go_loopw [15] (fun i wr => ∃ k : Nat, k ≤ a.size ∧ i = .int .i64 k ∧ wr.ownsRow w.heap.size 5 1 (.slice (some ⟨w.heap.size, 0, none⟩) a.size a.size) a.size (bcells (fillp (xorF a.toList b.toList) a.size (fun i => decide (i < k)))) ∧ Below w.heap.size w wr) (fun i _ => a.size - (intOf i).toNat)
  case atStart => exact ⟨0, Nat.zero_le _, rfl, hown, hbel⟩
  case round =>
    clear hown hbel
    obtain ⟨k, hk, rfl, hown, hbel⟩ := hrel
    have HO := Lib.hid hown
    clear hown
    by_cases hlt : k < a.size
    · have hla : k < a.size := by omega
      have hlb : k < b.size := by omega
      obtain ⟨u0, _, hcell, hfr⟩ := fill_cell HO.out k hlt
      go_wp2
      go_region
      go_wp2
      go_roundw
      case rel =>
        refine ⟨k + 1, by omega, by go_num, ?_, (hbel.setCell (p := ⟨w.heap.size, k, none⟩) (Nat.le_refl _) _).drew⟩
        rw [u8x]
        exact (fill_store HO.out k (a[k] ^^^ b[k]) (by unfold xorF; rw [at0_tl _ _ hla, at0_tl _ _ hlb]) _ (by intro i hi; rw [Bool.eq_iff_iff]; simp; omega)).drew
      case measure => simp [intOf]; omega
    · have hcv := run_convert_own (P := Tryd.prog) HO.out 80 9 Tryd.underlying80 Tryd.underlying5 Tryd.underlying9
      go_wp2
      go_ret
      refine ⟨_, rfl, ?_, hbel⟩
      rw [tl_mk, fillp_all _ _ _ (by intro i hi; simp; omega), xorL_range _ _ _ (by rw [tl_size, tl_size]; omega)]

set_option maxRecDepth 100000 in
set_option maxHeartbeats 400000 in
theorem xor_gt (a b : ByteArray) (w : World) (ha : a.size ≤ 140737488351232) (hb : b.size ≤ 140737488351232) (hc : b.size < a.size) :
    Calls Tryd.prog 64 #[.string a, .string b] w (RetS (xorL a.toList b.toList) w) := by
  obtain ⟨i0, hi, hz0, hz1, hz2⟩ := info_parts info5
  have hmax : b.size ≤ maxLen := by unfold maxLen; omega
  have hby : i0.bytes * b.size ≤ 281474976710656 := by rw [hz2]; omega
  have HF := Lib.hid (bcells_made b.size)
  go_enter Tryd.func64, Tryd.ntmps64
  go_wp2_with (at_make; refine wpList_make_full _ rfl (.tmp 11) (.tmp 11) 80 rfl w.heap.size 5 i0 (.int .u8 0) 1 Tryd.underlying80 hi hz0 hz1 .i64 .i64 _ _ b.size rfl rfl rfl rfl hby hmax (Nat.le_refl _) ?_; intro w1 hown hgrow)
  rw [HF.out, ← fillp_none (xorF a.toList b.toList) b.size (fun i => decide (i < 0)) (by simp)] at hown
  have hbel := (Below.refl w.heap.size w).grown hgrow (Nat.le_refl _) (by simp)
  clear hgrow
  go_wp2
  go_loopw [15] (fun i wr => ∃ k : Nat, k ≤ b.size ∧ i = .int .i64 k ∧ wr.ownsRow w.heap.size 5 1 (.slice (some ⟨w.heap.size, 0, none⟩) b.size b.size) b.size (bcells (fillp (xorF a.toList b.toList) b.size (fun i => decide (i < k)))) ∧ Below w.heap.size w wr) (fun i _ => b.size - (intOf i).toNat)
  case atStart => exact ⟨0, Nat.zero_le _, rfl, hown, hbel⟩
  case round =>
    clear hown hbel
    obtain ⟨k, hk, rfl, hown, hbel⟩ := hrel
    have HO := Lib.hid hown
    clear hown
    by_cases hlt : k < b.size
    · have hla : k < a.size := by omega
      have hlb : k < b.size := by omega
      obtain ⟨u0, _, hcell, hfr⟩ := fill_cell HO.out k hlt
      go_wp2
      go_region
      go_wp2
      go_roundw
      case rel =>
        refine ⟨k + 1, by omega, by go_num, ?_, (hbel.setCell (p := ⟨w.heap.size, k, none⟩) (Nat.le_refl _) _).drew⟩
        rw [u8x]
        exact (fill_store HO.out k (a[k] ^^^ b[k]) (by unfold xorF; rw [at0_tl _ _ hla, at0_tl _ _ hlb]) _ (by intro i hi; rw [Bool.eq_iff_iff]; simp; omega)).drew
      case measure => simp [intOf]; omega
    · have hcv := run_convert_own (P := Tryd.prog) HO.out 80 9 Tryd.underlying80 Tryd.underlying5 Tryd.underlying9
      go_wp2
      go_ret
      refine ⟨_, rfl, ?_, hbel⟩
      rw [tl_mk, fillp_all _ _ _ (by intro i hi; simp; omega), xorL_range _ _ _ (by rw [tl_size, tl_size]; omega)]

theorem xor_any (a b : ByteArray) (w : World) (ha : a.size ≤ 140737488351232) (hb : b.size ≤ 140737488351232) :
    Calls Tryd.prog 64 #[.string a, .string b] w (RetS (xorL a.toList b.toList) w) := by
  rcases Nat.lt_or_ge b.size a.size with h | h
  · exact xor_gt a b w ha hb h
  · exact xor_le a b w ha hb h
end Go.Proofs.YthofcjjllmnjbaaDoor
