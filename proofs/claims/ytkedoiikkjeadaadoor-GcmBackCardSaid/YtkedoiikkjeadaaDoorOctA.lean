/- The contracts of Same and Xor, the program's and the document's. -/
import Derived.Test.YtkedoiikkjeadaaDoorGen
namespace Go.Proofs.YtkedoiikkjeadaaDoor
open Go.RowKit
set_option linter.unusedVariables false
set_option linter.unusedSimpArgs false



set_option maxRecDepth 100000 in
set_option maxHeartbeats 400000 in
theorem same_any (a b : ByteArray) (w : World) (ha : a.size ≤ maxLen) (hb : b.size ≤ maxLen) :
    Calls Tryd.prog 42 #[.string a, .string b] w (RetB (a.toList == b.toList) w) := by
  unfold maxLen at ha hb
  by_cases h : a.size = b.size
  · have hz : ((a.size : Int) != (b.size : Int)) = false := by simp [h]
    have H := Lib.hid h; clear h
    go_enter Tryd.func42, Tryd.ntmps42
    go_wp2
    go_loopw [5, 14] (fun u i wr => ∃ k : Nat, ∃ x : UInt8, k ≤ a.size ∧ i = .int .i64 k ∧ u = .int .u8 (x.toNat : Int) ∧ (x = 0 ↔ a.toList.take k = b.toList.take k) ∧ ∃ n, wr = w.drewN n) (fun _ i _ => a.size - (intOf i).toNat)
    case atStart => exact ⟨0, 0, Nat.zero_le _, rfl, rfl, by simp, 0, rfl⟩
    case round =>
      obtain ⟨k, x, hk, rfl, rfl, hx, n, rfl⟩ := hrel
      have HX := Lib.hid hx; clear hx
      by_cases hlt : k < a.size
      · have hlt2 : k < b.size := by have := H.out; omega
        go_wp2_with (fail)
        go_quiet (fail)
        go_wp2
        go_roundw
        case rel =>
          refine ⟨k + 1, x ||| (a[k] ^^^ b[k]), by omega, by go_num, ?_, same_step _ _ k x _ _ (tl_get a k hlt) (tl_get b k hlt2) HX.out, _, rfl⟩
          rw [u8x, u8o]
        case measure => simp [intOf]; omega
      · go_wp2
        go_ret
        refine ⟨congrArg (fun b => Ending.returned (Value.bool b)) (same_end a.toList b.toList k x ?_ ?_ HX.out), n, rfl⟩
        · rw [tl_size]; omega
        · rw [tl_size]; have := H.out; omega
  · have hz : ((a.size : Int) != (b.size : Int)) = true := by simp; omega
    have H := Lib.hid h; clear h
    go_enter Tryd.func42, Tryd.ntmps42
    go_wp2
    go_ret
    refine ⟨?_, 0, rfl⟩
    have : (a.toList == b.toList) = false := by
      rw [beq_eq_false_iff_ne]
      intro e
      exact H.out (by rw [← tl_size, ← tl_size, e])
    rw [this]
    rfl

end Go.Proofs.YtkedoiikkjeadaaDoor
