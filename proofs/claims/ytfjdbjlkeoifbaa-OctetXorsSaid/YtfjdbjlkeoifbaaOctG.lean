/- The contracts of Hex, the program's and the document's. -/
import Derived.Test.YtfjdbjlkeoifbaaOctF
import Derived.Test.YtfjdbjlkeoifbaaOctR
namespace Go.Proofs.Ytfjdbjlkeoifbaa
open Go.RowKit
set_option linter.unusedVariables false
set_option linter.unusedSimpArgs false
def RetU8 (n : Nat) (w : World) (e : Ending) (w' : World) : Prop := e = .returned (.int .u8 (n : Int)) ∧ w = w'
theorem sign_any (n : Int) (w : World) (h0 : 0 ≤ n) (h : n < 16) : Calls Try.prog 26 #[.int .u8 n] w (RetU8 (sgn n.toNat).toNat w) := by
  obtain ⟨m, rfl⟩ := Int.eq_ofNat_of_zero_le h0
  by_cases h10 : (m : Int) < 10
  all_goals
    go_enter Try.func26, Try.ntmps26
    go_wp2
    go_ret
    refine ⟨congrArg (fun x => Ending.returned (Value.int .u8 x)) ?_, rfl⟩
    simp only [sgn, UInt8.toNat_ofNat', Int.toNat_natCast]
    split <;> omega
def RetU8B (n : Nat) (b : Bool) (w : World) (e : Ending) (w' : World) : Prop := e = .returned (.tuple #[.int .u8 (n : Int), .bool b]) ∧ w = w'
theorem value_any (c : UInt8) (w : World) : Calls Try.prog 24 #[.int .u8 (c.toNat : Int)] w (RetU8B (halfU c).toNat (decide (half c < 16)) w) := by
  have hc := c.toNat_lt
  have fin : ∀ (v : Int) (b : Bool), v = ((half c % 16 : Nat) : Int) → b = decide (half c < 16) → RetU8B (halfU c).toNat (decide (half c < 16)) w (.returned (.tuple #[.int .u8 v, .bool b])) w := by
    rw [halfU_nat]
    rintro v b rfl rfl
    exact ⟨rfl, rfl⟩
  have FIN := Lib.hid fin
  clear fin
  by_cases h1 : 48 ≤ (c.toNat : Int)
  · by_cases h2 : (c.toNat : Int) ≤ 57
    · go_enter Try.func24, Try.ntmps24
      go_wp2
      go_ret2
      exact FIN.out _ _ (by rw [half, if_pos (by omega)]; omega) (by symm; rw [half, if_pos (by omega), decide_eq_true_iff]; omega)
    · by_cases h3 : 97 ≤ (c.toNat : Int)
      · by_cases h4 : (c.toNat : Int) ≤ 102
        · go_enter Try.func24, Try.ntmps24
          go_wp2
          go_ret2
          exact FIN.out _ _ (by rw [half, if_neg (by omega), if_pos (by omega)]; omega) (by symm; rw [half, if_neg (by omega), if_pos (by omega), decide_eq_true_iff]; omega)
        · go_enter Try.func24, Try.ntmps24
          go_wp2
          go_ret2
          exact FIN.out _ _ (by rw [half, if_neg (by omega), if_neg (by omega)]; omega) (by symm; rw [half, if_neg (by omega), if_neg (by omega), decide_eq_false_iff_not]; omega)
      · go_enter Try.func24, Try.ntmps24
        go_wp2
        go_ret2
        exact FIN.out _ _ (by rw [half, if_neg (by omega), if_neg (by omega)]; omega) (by symm; rw [half, if_neg (by omega), if_neg (by omega), decide_eq_false_iff_not]; omega)
  · go_enter Try.func24, Try.ntmps24
    go_wp2
    go_ret2
    exact FIN.out _ _ (by rw [half, if_neg (by omega), if_neg (by omega)]; omega) (by symm; rw [half, if_neg (by omega), if_neg (by omega), decide_eq_false_iff_not]; omega)
theorem half_any (c : UInt8) (w : World) : Calls Try.prog 25 #[.int .u8 (c.toNat : Int)] w (RetU8 (half c) w) := by
  have hc := c.toNat_lt
  have fin : ∀ v : Int, v = (half c : Int) → RetU8 (half c) w (.returned (.int .u8 v)) w := by
    rintro v rfl
    exact ⟨rfl, rfl⟩
  have FIN := Lib.hid fin
  clear fin
  by_cases h1 : 48 ≤ (c.toNat : Int)
  · by_cases h2 : (c.toNat : Int) ≤ 57
    · go_enter Try.func25, Try.ntmps25
      go_wp2
      go_ret
      exact FIN.out _ (by rw [half, if_pos (by omega)]; omega)
    · by_cases h3 : 97 ≤ (c.toNat : Int)
      · by_cases h4 : (c.toNat : Int) ≤ 102
        · go_enter Try.func25, Try.ntmps25
          go_wp2
          go_ret
          exact FIN.out _ (by rw [half, if_neg (by omega), if_pos (by omega)]; omega)
        · go_enter Try.func25, Try.ntmps25
          go_wp2
          go_ret
          exact FIN.out _ (by rw [half, if_neg (by omega), if_neg (by omega)]; omega)
      · go_enter Try.func25, Try.ntmps25
        go_wp2
        go_ret
        exact FIN.out _ (by rw [half, if_neg (by omega), if_neg (by omega)]; omega)
  · go_enter Try.func25, Try.ntmps25
    go_wp2
    go_ret
    exact FIN.out _ (by rw [half, if_neg (by omega), if_neg (by omega)]; omega)
end Go.Proofs.Ytfjdbjlkeoifbaa
