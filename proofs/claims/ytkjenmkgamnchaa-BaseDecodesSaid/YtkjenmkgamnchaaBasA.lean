/- The contracts of value and of the sixty-four signs. -/
import Derived.Test.YtkjenmkgamnchaaGen
import Derived.Test.YtkjenmkgamnchaaBasP
namespace Go.Proofs.Ytkjenmkgamnchaa
open Go.RowKit
set_option linter.unusedVariables false
set_option linter.unusedSimpArgs false
def signs64 : ByteArray := ⟨#[65, 66, 67, 68, 69, 70, 71, 72, 73, 74, 75, 76, 77, 78, 79, 80, 81, 82, 83, 84, 85, 86, 87, 88, 89, 90, 97, 98, 99, 100, 101, 102, 103, 104, 105, 106, 107, 108, 109, 110, 111, 112, 113, 114, 115, 116, 117, 118, 119, 120, 121, 122, 48, 49, 50, 51, 52, 53, 54, 55, 56, 57, 45, 95]⟩
theorem signs64_get : ∀ m : Fin 64, signs64[m.val]'(m.isLt) = sgB m.val := by decide +kernel
theorem run_sixtyfour (m : Int) (h0 : 0 ≤ m) (h : m < 64) (w : World) : (Instr.index 9 (.string ⟨#[65, 66, 67, 68, 69, 70, 71, 72, 73, 74, 75, 76, 77, 78, 79, 80, 81, 82, 83, 84, 85, 86, 87, 88, 89, 90, 97, 98, 99, 100, 101, 102, 103, 104, 105, 106, 107, 108, 109, 110, 111, 112, 113, 114, 115, 116, 117, 118, 119, 120, 121, 122, 48, 49, 50, 51, 52, 53, 54, 55, 56, 57, 45, 95]⟩) (.int .u32 m)).run Try.prog w = .ok (.int .u8 ((sgB m.toNat).toNat : Int)) w := by
  obtain ⟨n, rfl⟩ := Int.eq_ofNat_of_zero_le h0
  have hn : n < 64 := by omega
  have h2 := signs64_get ⟨n, hn⟩
  have e : (Instr.index 9 (.string signs64) (.int .u32 (n : Int))).run Try.prog w = .ok (.int .u8 ((sgB n).toNat : Int)) w := by
    rw [run_index_string (P := Try.prog) w 9 signs64 .u32 (n : Int) Try.underlying9]
    have hs : signs64.size = 64 := by decide
    rw [dif_pos ⟨by omega, by rw [hs]; omega⟩]
    simp only [Int.toNat_natCast]
    have h3 : signs64[n]'(by rw [hs]; exact hn) = sgB n := h2
    rw [← h3]
  exact e
def RetU32B (n : Nat) (b : Bool) (w : World) (e : Ending) (w' : World) : Prop := e = .returned (.tuple #[.int .u32 (n : Int), .bool b]) ∧ w = w'
theorem base_value_any (c : UInt8) (w : World) : Calls Try.prog 13 #[.int .u8 (c.toNat : Int)] w (RetU32B (vaB c % 64) (decide (vaB c < 64)) w) := by
  have hc := c.toNat_lt
  have fin : ∀ (v : Int) (b : Bool), v = ((vaB c % 64 : Nat) : Int) → (b = true ↔ vaB c < 64) → RetU32B (vaB c % 64) (decide (vaB c < 64)) w (.returned (.tuple #[.int .u32 v, .bool b])) w := by
    rintro v b rfl hb
    refine ⟨?_, rfl⟩
    have : b = decide (vaB c < 64) := by rw [Bool.eq_iff_iff, hb, decide_eq_true_iff]
    rw [this]
  have FIN := Lib.hid fin
  clear fin
  by_cases e45 : c.toNat = 45
  · have b45 : ((c.toNat : Int) == 45) = true := by rw [e45]; rfl
    have E := Lib.hid e45
    have r1 : (c.toNat : Int) < 48 := by omega
    clear e45
    go_enter Try.func13, Try.ntmps13
    go_wp2
    go_ret2
    have e45 := E.out
    exact FIN.out _ _ (by unfold vaB; rw [if_neg (by omega), if_neg (by omega), if_neg (by omega), if_pos e45]; rfl) (by unfold vaB; rw [if_neg (by omega), if_neg (by omega), if_neg (by omega), if_pos e45]; simp)
  · have b45 : ((c.toNat : Int) == 45) = false := by rw [beq_eq_false_iff_ne]; omega
    by_cases e95 : c.toNat = 95
    · have b95 : ((c.toNat : Int) == 95) = true := by rw [e95]; rfl
      have E := Lib.hid e95
      have r1 : (c.toNat : Int) < 97 := by omega
      have r2 : (90 : Int) < (c.toNat : Int) := by omega
      have E2 := Lib.hid e45
      clear e95 e45
      go_enter Try.func13, Try.ntmps13
      go_wp2
      go_ret2
      have e95 := E.out
      have e45 := E2.out
      exact FIN.out _ _ (by unfold vaB; rw [if_neg (by omega), if_neg (by omega), if_neg (by omega), if_neg e45, if_pos e95]; rfl) (by unfold vaB; rw [if_neg (by omega), if_neg (by omega), if_neg (by omega), if_neg e45, if_pos e95]; simp)
    · have b95 : ((c.toNat : Int) == 95) = false := by rw [beq_eq_false_iff_ne]; omega
      have E := Lib.hid e95
      have E2 := Lib.hid e45
      clear e95 e45
      go_enter Try.func13, Try.ntmps13
      go_wp2
      all_goals
        go_ret2
        have e95 := E.out
        have e45 := E2.out
        refine FIN.out _ _ ?_ ?_
        · unfold vaB
          rw [if_neg e45, if_neg e95]
          split
          · omega
          · split
            · omega
            · split <;> omega
        · unfold vaB
          rw [if_neg e45, if_neg e95]
          split
          · constructor <;> intro _ <;> first | omega | rfl | contradiction
          · split
            · constructor <;> intro _ <;> first | omega | rfl | contradiction
            · split <;> constructor <;> intro _ <;> first | omega | rfl | contradiction
end Go.Proofs.Ytkjenmkgamnchaa
