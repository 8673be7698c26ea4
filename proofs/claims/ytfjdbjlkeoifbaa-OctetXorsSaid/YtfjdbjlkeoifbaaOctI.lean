/- The contract of the document's Hex. -/
import Derived.Test.YtfjdbjlkeoifbaaOctH
namespace Go.Proofs.Ytfjdbjlkeoifbaa
open Go.RowKit
set_option linter.unusedVariables false
set_option linter.unusedSimpArgs false
theorem enterSign (vs : Array Value) (w : World) : (callFunc 26 vs).run Try.prog w = .ok (.enter 26 vs) w := by kernel_rfl
set_option maxHeartbeats 800000 in
theorem rhex_any (s : ByteArray) (w : World) (hs : s.size ≤ 1073741824) :
    Calls Try.prog 23 #[.string s] w (RetS (hexL s.toList) w) := by
  obtain ⟨i0, hi, hz0, hz1, hz2⟩ := info_parts info5
  go_enter Try.func23, Try.ntmps23
  go_wp2
  go_loopw [3, 4] (fun v i wr => ∃ k : Nat, k ≤ s.size ∧ i = .int .i64 k ∧ wr.ownsRow w.heap.size 5 1 v (2 * k) (bcells (hexL (s.toList.take k))) ∧ Below w.heap.size w wr) (fun _ i _ => s.size - (intOf i).toNat)
  case atStart => exact ⟨0, Nat.zero_le _, rfl, World.ownsRow_nil _ _ _ _, Below.refl _ _⟩
  case round =>
    obtain ⟨k, hk, rfl, hown, hbel⟩ := hrel
    have HO := Lib.hid hown
    clear hown
    have hsz := hbel.size
    by_cases hlt : k < s.size
    · obtain ⟨b, hb⟩ : ∃ b : UInt8, s[k] = b := ⟨_, rfl⟩
      have hb2 := b.toNat_lt
      have HK : Hid (s.toList[k]? = some b) := by rw [← hb]; exact tl_get s k hlt
      have e1 : ((b.toNat : Int) / 16).toNat = b.toNat / 16 := by omega
      have e2 : ((b.toNat : Int) % 16).toNat = b.toNat % 16 := by omega
      have E1 := Lib.hid e1
      have E2 := Lib.hid e2
      clear e1 e2
      have v1 : IntKind.u8.wrap ((b.toNat : Int) / 16) = (b.toNat : Int) / 16 := by rw [IntKind.wrap_u8']; omega
      have v2 : IntKind.u8.wrap ((b.toNat : Int) % 16) = (b.toNat : Int) % 16 := by rw [IntKind.wrap_u8']; omega
      go_wp2_with fail
      go_region_law (first | (refine step_call1 26 (.tmp 15) #[5] rfl rfl enterSign (.int .u8 ((b.toNat : Int) / 16)) rfl _ (sign_any ((b.toNat : Int) / 16) _ (by omega) (by omega)) ?_; rw [E1.out]; rintro e w' ⟨rfl, rfl⟩; refine ⟨_, rfl, ?_⟩) | (refine step_call1 26 (.tmp 20) #[5] rfl rfl enterSign (.int .u8 ((b.toNat : Int) % 16)) rfl _ (sign_any ((b.toNat : Int) % 16) _ (by omega) (by omega)) ?_; rw [E2.out]; rintro e w' ⟨rfl, rfl⟩; refine ⟨_, rfl, ?_⟩) | (refine step_append_u8 rfl (.tmp 11) (.tmp 22) 44 rfl w.heap.size 5 i0 Try.underlying44 hi hz0 hz1 hz2 u3 (2 * k) _ rfl (HO.out.alloc _) wr.heap.size 2 2 [sgn (b.toNat / 16), sgn (b.toNat % 16)] rfl rfl (cells_two (by simp) (by simp)) (by omega) (by simp; omega) ?_; intro v' w1 hown1 hgrow))
      all_goals
        have hb1 := below_own ((hbel.alloc hsz (Obj.cells #[Value.int IntKind.u8 ↑(sgn (b.toNat / 16)).toNat, Value.int IntKind.u8 ↑(sgn (b.toNat % 16)).toNat] 5)).drew) hgrow (by simp; omega) (HO.out.alloc _)
        clear hgrow hb v1 v2
        go_wp2
        go_roundw
        case rel =>
          refine ⟨k + 1, by omega, by go_num, ?_, hb1⟩
          rw [hexL_take _ k _ HK.out]
          exact hown1
        case measure => simp [intOf]; omega
    · have hcv := run_convert_own (P := Try.prog) HO.out 44 9 Try.underlying44 Try.underlying5 Try.underlying9
      go_wp2
      go_ret
      exact ⟨_, rfl, by rw [tl_mk, List.take_of_length_le (by rw [tl_size]; omega)], hbel⟩
end Go.Proofs.Ytfjdbjlkeoifbaa
