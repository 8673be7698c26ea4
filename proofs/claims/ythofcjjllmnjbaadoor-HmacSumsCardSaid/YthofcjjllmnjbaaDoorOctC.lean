/- The contract of the document's Xor. -/
import Derived.Test.YthofcjjllmnjbaaDoorOctB
namespace Go.Proofs.YthofcjjllmnjbaaDoor
open Go.RowKit
set_option linter.unusedVariables false
set_option linter.unusedSimpArgs false
set_option maxRecDepth 100000 in
set_option maxHeartbeats 400000 in
theorem rxor_any (a b : ByteArray) (w : World) (ha : a.size ≤ 140737488351232) (hb : b.size ≤ 140737488351232) :
    Calls Tryd.prog 52 #[.string a, .string b] w (RetS (xorL a.toList b.toList) w) := by
  obtain ⟨i0, hi, hz0, hz1, hz2⟩ := info_parts info5
  go_enter Tryd.func52, Tryd.ntmps52
  go_wp2
  go_loopw [5, 6] (fun v i wr => ∃ k : Nat, k ≤ a.size ∧ k ≤ b.size ∧ i = .int .i64 k ∧ wr.ownsRow w.heap.size 5 1 v k (bcells (xorL (a.toList.take k) (b.toList.take k))) ∧ Below w.heap.size w wr) (fun _ i _ => a.size - (intOf i).toNat)
  case atStart => exact ⟨0, Nat.zero_le _, Nat.zero_le _, rfl, World.ownsRow_nil _ _ _ _, Below.refl _ _⟩
  case round =>
    obtain ⟨k, hka, hkb, rfl, hown, hbel⟩ := hrel
    have HO := Lib.hid hown
    clear hown
    have hsz := hbel.size
    by_cases hla : k < a.size
    · by_cases hlb : k < b.size
      · obtain ⟨u, hu, hu2⟩ : ∃ u : UInt8, bits BinOp.xor IntKind.u8 (a[k].toNat : Int) (b[k].toNat : Int) = (u.toNat : Int) ∧ u = a[k] ^^^ b[k] := ⟨_, u8x _ _, rfl⟩
        have HU := Lib.hid hu2; clear hu2
        go_wp2_with fail
        go_region_law (refine step_append_u8 rfl (.tmp 19) (.tmp 27) 80 rfl w.heap.size 5 i0 Tryd.underlying80 hi hz0 hz1 hz2 u5 k _ rfl (HO.out.alloc _) wr.heap.size 1 1 [u] rfl rfl (cells_one (by simp)) (by omega) (by simp; omega) ?_; intro v' w1 hown1 hgrow)
        all_goals
          have hb1 := below_own ((hbel.alloc hsz (Obj.cells #[Value.int IntKind.u8 ↑u.toNat] 5)).drew) hgrow (by simp; omega) (HO.out.alloc _)
          clear hgrow hu
          go_wp2
          go_roundw
          case rel =>
            refine ⟨k + 1, by omega, by omega, by go_num, ?_, hb1⟩
            rw [xorL_take _ _ k _ _ (tl_get a k hla) (tl_get b k hlb), ← HU.out]
            exact hown1
          case measure => simp [intOf]; omega
      · have hcv := run_convert_own (P := Tryd.prog) HO.out 80 9 Tryd.underlying80 Tryd.underlying5 Tryd.underlying9
        go_wp2
        go_ret
        exact ⟨_, rfl, by rw [tl_mk, xorL_full _ _ _ (by rw [tl_size, tl_size]; omega)], hbel⟩
    · have hcv := run_convert_own (P := Tryd.prog) HO.out 80 9 Tryd.underlying80 Tryd.underlying5 Tryd.underlying9
      go_wp2
      go_ret
      exact ⟨_, rfl, by rw [tl_mk, xorL_full _ _ _ (by rw [tl_size, tl_size]; omega)], hbel⟩
end Go.Proofs.YthofcjjllmnjbaaDoor
