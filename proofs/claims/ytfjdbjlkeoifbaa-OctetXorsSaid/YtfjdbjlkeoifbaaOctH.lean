/- The contracts of Hex, the program's and the document's. -/
import Derived.Test.YtfjdbjlkeoifbaaOctG
namespace Go.Proofs.Ytfjdbjlkeoifbaa
open Go.RowKit
set_option linter.unusedVariables false
set_option linter.unusedSimpArgs false
def sixteen : ByteArray := ⟨#[48, 49, 50, 51, 52, 53, 54, 55, 56, 57, 97, 98, 99, 100, 101, 102]⟩
theorem run_sixteen (m : Nat) (h : m < 16) (w : World) : (Instr.index 9 (.string ⟨#[48, 49, 50, 51, 52, 53, 54, 55, 56, 57, 97, 98, 99, 100, 101, 102]⟩) (.int .u8 (m : Int))).run Try.prog w = .ok (.int .u8 ((sgn m).toNat : Int)) w := by
  rcases m with _|_|_|_|_|_|_|_|_|_|_|_|_|_|_|_|m
  all_goals first | omega | kernel_rfl
set_option maxHeartbeats 800000 in
theorem hex_any (s : ByteArray) (w : World) (hs : s.size ≤ 1073741824) :
    Calls Try.prog 20 #[.string s] w (RetS (hexL s.toList) w) := by
  obtain ⟨i0, hi, hz0, hz1, hz2⟩ := info_parts info5
  go_enter Try.func20, Try.ntmps20
  go_wp2_with (at_make; refine wpList_make_own _ rfl (.const (.int .i64 0)) (.tmp 7) 44 rfl w.heap.size 5 i0 (.int .u8 0) 1 Try.underlying44 hi hz0 hz1 .i64 .i64 _ (2 * s.size) rfl rfl (by omega) (by rw [hz2]; omega) (by unfold maxLen; omega) (Nat.le_refl _) ?_; intro w1 hown hgrow)
  have hbel := (Below.refl w.heap.size w).grown hgrow (Nat.le_refl _) (by simp)
  clear hgrow
  go_wp2
  go_loopw [3, 11] (fun v i wr => ∃ k : Nat, k ≤ s.size ∧ i = .int .i64 k ∧ wr.ownsRow w.heap.size 5 1 v (2 * k) (bcells (hexL (s.toList.take k))) ∧ Below w.heap.size w wr) (fun _ i _ => s.size - (intOf i).toNat)
  case atStart => exact ⟨0, Nat.zero_le _, rfl, hown, hbel⟩
  case round =>
    clear hown hbel
    obtain ⟨k, hk, rfl, hown, hbel⟩ := hrel
    have HO := Lib.hid hown
    clear hown
    have hsz := hbel.size
    by_cases hlt : k < s.size
    · obtain ⟨b, hb⟩ : ∃ b : UInt8, s[k] = b := ⟨_, rfl⟩
      have hb2 := b.toNat_lt
      have HK : Hid (s.toList[k]? = some b) := by rw [← hb]; exact tl_get s k hlt
      have h1 := run_sixteen (b.toNat / 16) (by omega)
      have h2 := run_sixteen (b.toNat % 16) (by omega)
      rw [show ((b.toNat / 16 : Nat) : Int) = (b.toNat : Int) / 16 by omega] at h1
      have e15 : bits .and .u8 (b.toNat : Int) 15 = (b.toNat : Int) % 16 := by
        have := u8_and_nat b.toNat 15 (by omega) (by omega)
        rw [nat_mask4] at this
        simpa using this
      rw [show ((b.toNat % 16 : Nat) : Int) = (b.toNat : Int) % 16 by omega] at h2
      go_wp2_with fail
      go_region_law (refine step_append_u8 rfl (.tmp 14) (.tmp 25) 44 rfl w.heap.size 5 i0 Try.underlying44 hi hz0 hz1 hz2 u3 (2 * k) _ rfl (HO.out.alloc _) wr.heap.size 2 2 [sgn (b.toNat / 16), sgn (b.toNat % 16)] rfl rfl (cells_two (by simp) (by simp)) (by omega) (by simp; omega) ?_; intro v' w1 hown1 hgrow)
      all_goals
        have hb1 := below_own ((hbel.alloc hsz (Obj.cells #[Value.int IntKind.u8 ↑(sgn (b.toNat / 16)).toNat, Value.int IntKind.u8 ↑(sgn (b.toNat % 16)).toNat] 5)).drew) hgrow (by simp; omega) (HO.out.alloc _)
        clear hgrow h1 h2 e15 hb
        go_wp2
        go_roundw
        case rel =>
          refine ⟨k + 1, by omega, by go_num, ?_, hb1⟩
          rw [hexL_take _ k _ HK.out]
          exact hown1
        case measure => simp [intOf]; omega
    · have hcv := run_convert_own (P := Try.prog) HO.out 44 9 Try.underlying44 Try.underlying5 Try.underlying9
      go_wp2
      go_ret
      exact ⟨_, rfl, by rw [tl_mk, List.take_of_length_le (by rw [tl_size]; omega)], hbel⟩
end Go.Proofs.Ytfjdbjlkeoifbaa
