/- The document's Tag. -/
import Derived.Test.YteglahkgnggmgaaDoorDrA
namespace Go.Proofs.YteglahkgnggmgaaDoor
open Go.RowKit
set_option linter.unusedVariables false
set_option linter.unusedSimpArgs false
set_option maxRecDepth 100000 in
set_option maxHeartbeats 3200000 in
theorem rtag00 (t n : Nat) (w : World) (q1 : (t : Int) / 64 = 0) (q2 : (t : Int) % 32 = (n : Int)) (q3 : (t : Int) / 32 % 2 = 0) (hn2 : n < 32) : Calls Tryd.prog 37 #[.int .u8 (t : Int)] w (RetVal (.int .i64 (Dr.tagF 0 n 0)) w) := by
  rcases (by omega : n = 0 ∨ (1 ≤ n ∧ n ≤ 6) ∨ (7 ≤ n ∧ n ≤ 11) ∨ n = 12 ∨ (13 ≤ n ∧ n ≤ 15) ∨ n = 16 ∨ n = 17 ∨ (18 ≤ n ∧ n ≤ 30) ∨ n = 31) with h | h | h | h | h | h | h | h | h
  · have p1 : ¬ (1 : Int) ≤ (n : Int) := by omega
    have p2 : (n : Int) ≤ 6 := by omega
    have p3 : ((n : Int) == 12) = false := by rw [beq_eq_false_iff_ne]; omega
    have p4 : ((n : Int) == 16) = false := by rw [beq_eq_false_iff_ne]; omega
    have p5 : ((n : Int) == 17) = false := by rw [beq_eq_false_iff_ne]; omega
    have p6 : ((n : Int) == 31) = false := by rw [beq_eq_false_iff_ne]; omega
    rw [show Dr.tagF 0 n 0 = 11 by unfold Dr.tagF; rw [if_neg (by omega), if_neg (by omega), if_neg (by omega), if_neg (by omega)]]
    clear h hn2
    go_enter Tryd.func37, Tryd.ntmps37
    go_wp2_with fail
    go_ret
    exact ⟨rfl, rfl⟩
  · have p1 : (1 : Int) ≤ (n : Int) := by omega
    have p2 : (n : Int) ≤ 6 := by omega
    have p3 : ((n : Int) == 12) = false := by rw [beq_eq_false_iff_ne]; omega
    have p4 : ((n : Int) == 16) = false := by rw [beq_eq_false_iff_ne]; omega
    have p5 : ((n : Int) == 17) = false := by rw [beq_eq_false_iff_ne]; omega
    have p6 : ((n : Int) == 31) = false := by rw [beq_eq_false_iff_ne]; omega
    rw [show Dr.tagF 0 n 0 = 0 by unfold Dr.tagF; rw [if_neg (by omega), if_neg (by omega), if_neg (by omega), if_pos (by omega), if_neg (by omega)]]
    clear h hn2
    go_enter Tryd.func37, Tryd.ntmps37
    go_wp2_with fail
    go_ret
    exact ⟨rfl, rfl⟩
  · have p1 : (1 : Int) ≤ (n : Int) := by omega
    have p2 : ¬ (n : Int) ≤ 6 := by omega
    have p3 : ((n : Int) == 12) = false := by rw [beq_eq_false_iff_ne]; omega
    have p4 : ((n : Int) == 16) = false := by rw [beq_eq_false_iff_ne]; omega
    have p5 : ((n : Int) == 17) = false := by rw [beq_eq_false_iff_ne]; omega
    have p6 : ((n : Int) == 31) = false := by rw [beq_eq_false_iff_ne]; omega
    rw [show Dr.tagF 0 n 0 = 11 by unfold Dr.tagF; rw [if_neg (by omega), if_neg (by omega), if_neg (by omega), if_neg (by omega)]]
    clear h hn2
    go_enter Tryd.func37, Tryd.ntmps37
    go_wp2_with fail
    go_ret
    exact ⟨rfl, rfl⟩
  · have p1 : (1 : Int) ≤ (n : Int) := by omega
    have p2 : ¬ (n : Int) ≤ 6 := by omega
    have p3 : ((n : Int) == 12) = true := by rw [beq_iff_eq]; omega
    have p4 : ((n : Int) == 16) = false := by rw [beq_eq_false_iff_ne]; omega
    have p5 : ((n : Int) == 17) = false := by rw [beq_eq_false_iff_ne]; omega
    have p6 : ((n : Int) == 31) = false := by rw [beq_eq_false_iff_ne]; omega
    rw [show Dr.tagF 0 n 0 = 0 by unfold Dr.tagF; rw [if_neg (by omega), if_neg (by omega), if_neg (by omega), if_pos (by omega), if_neg (by omega)]]
    clear h hn2
    go_enter Tryd.func37, Tryd.ntmps37
    go_wp2_with fail
    go_ret
    exact ⟨rfl, rfl⟩
  · have p1 : (1 : Int) ≤ (n : Int) := by omega
    have p2 : ¬ (n : Int) ≤ 6 := by omega
    have p3 : ((n : Int) == 12) = false := by rw [beq_eq_false_iff_ne]; omega
    have p4 : ((n : Int) == 16) = false := by rw [beq_eq_false_iff_ne]; omega
    have p5 : ((n : Int) == 17) = false := by rw [beq_eq_false_iff_ne]; omega
    have p6 : ((n : Int) == 31) = false := by rw [beq_eq_false_iff_ne]; omega
    rw [show Dr.tagF 0 n 0 = 11 by unfold Dr.tagF; rw [if_neg (by omega), if_neg (by omega), if_neg (by omega), if_neg (by omega)]]
    clear h hn2
    go_enter Tryd.func37, Tryd.ntmps37
    go_wp2_with fail
    go_ret
    exact ⟨rfl, rfl⟩
  · have p1 : (1 : Int) ≤ (n : Int) := by omega
    have p2 : ¬ (n : Int) ≤ 6 := by omega
    have p3 : ((n : Int) == 12) = false := by rw [beq_eq_false_iff_ne]; omega
    have p4 : ((n : Int) == 16) = true := by rw [beq_iff_eq]; omega
    have p5 : ((n : Int) == 17) = false := by rw [beq_eq_false_iff_ne]; omega
    have p6 : ((n : Int) == 31) = false := by rw [beq_eq_false_iff_ne]; omega
    rw [show Dr.tagF 0 n 0 = 9 by unfold Dr.tagF; rw [if_neg (by omega), if_neg (by omega), if_pos (by omega), if_neg (by omega)]]
    clear h hn2
    go_enter Tryd.func37, Tryd.ntmps37
    go_wp2_with fail
    go_ret
    exact ⟨rfl, rfl⟩
  · have p1 : (1 : Int) ≤ (n : Int) := by omega
    have p2 : ¬ (n : Int) ≤ 6 := by omega
    have p3 : ((n : Int) == 12) = false := by rw [beq_eq_false_iff_ne]; omega
    have p4 : ((n : Int) == 16) = false := by rw [beq_eq_false_iff_ne]; omega
    have p5 : ((n : Int) == 17) = true := by rw [beq_iff_eq]; omega
    have p6 : ((n : Int) == 31) = false := by rw [beq_eq_false_iff_ne]; omega
    rw [show Dr.tagF 0 n 0 = 9 by unfold Dr.tagF; rw [if_neg (by omega), if_neg (by omega), if_pos (by omega), if_neg (by omega)]]
    clear h hn2
    go_enter Tryd.func37, Tryd.ntmps37
    go_wp2_with fail
    go_ret
    exact ⟨rfl, rfl⟩
  · have p1 : (1 : Int) ≤ (n : Int) := by omega
    have p2 : ¬ (n : Int) ≤ 6 := by omega
    have p3 : ((n : Int) == 12) = false := by rw [beq_eq_false_iff_ne]; omega
    have p4 : ((n : Int) == 16) = false := by rw [beq_eq_false_iff_ne]; omega
    have p5 : ((n : Int) == 17) = false := by rw [beq_eq_false_iff_ne]; omega
    have p6 : ((n : Int) == 31) = false := by rw [beq_eq_false_iff_ne]; omega
    rw [show Dr.tagF 0 n 0 = 11 by unfold Dr.tagF; rw [if_neg (by omega), if_neg (by omega), if_neg (by omega), if_neg (by omega)]]
    clear h hn2
    go_enter Tryd.func37, Tryd.ntmps37
    go_wp2_with fail
    go_ret
    exact ⟨rfl, rfl⟩
  · have p1 : (1 : Int) ≤ (n : Int) := by omega
    have p2 : ¬ (n : Int) ≤ 6 := by omega
    have p3 : ((n : Int) == 12) = false := by rw [beq_eq_false_iff_ne]; omega
    have p4 : ((n : Int) == 16) = false := by rw [beq_eq_false_iff_ne]; omega
    have p5 : ((n : Int) == 17) = false := by rw [beq_eq_false_iff_ne]; omega
    have p6 : ((n : Int) == 31) = true := by rw [beq_iff_eq]; omega
    rw [show Dr.tagF 0 n 0 = 11 by unfold Dr.tagF; rw [if_pos (by omega)]]
    clear h hn2
    go_enter Tryd.func37, Tryd.ntmps37
    go_wp2_with fail
    go_ret
    exact ⟨rfl, rfl⟩
set_option maxRecDepth 100000 in
set_option maxHeartbeats 3200000 in
theorem rtag01 (t n : Nat) (w : World) (q1 : (t : Int) / 64 = 0) (q2 : (t : Int) % 32 = (n : Int)) (q3 : (t : Int) / 32 % 2 = 1) (hn2 : n < 32) : Calls Tryd.prog 37 #[.int .u8 (t : Int)] w (RetVal (.int .i64 (Dr.tagF 0 n 1)) w) := by
  rcases (by omega : n = 0 ∨ (1 ≤ n ∧ n ≤ 6) ∨ (7 ≤ n ∧ n ≤ 11) ∨ n = 12 ∨ (13 ≤ n ∧ n ≤ 15) ∨ n = 16 ∨ n = 17 ∨ (18 ≤ n ∧ n ≤ 30) ∨ n = 31) with h | h | h | h | h | h | h | h | h
  · have p1 : ¬ (1 : Int) ≤ (n : Int) := by omega
    have p2 : (n : Int) ≤ 6 := by omega
    have p3 : ((n : Int) == 12) = false := by rw [beq_eq_false_iff_ne]; omega
    have p4 : ((n : Int) == 16) = false := by rw [beq_eq_false_iff_ne]; omega
    have p5 : ((n : Int) == 17) = false := by rw [beq_eq_false_iff_ne]; omega
    have p6 : ((n : Int) == 31) = false := by rw [beq_eq_false_iff_ne]; omega
    rw [show Dr.tagF 0 n 1 = 11 by unfold Dr.tagF; rw [if_neg (by omega), if_neg (by omega), if_neg (by omega), if_neg (by omega)]]
    clear h hn2
    go_enter Tryd.func37, Tryd.ntmps37
    go_wp2_with fail
    go_ret
    exact ⟨rfl, rfl⟩
  · have p1 : (1 : Int) ≤ (n : Int) := by omega
    have p2 : (n : Int) ≤ 6 := by omega
    have p3 : ((n : Int) == 12) = false := by rw [beq_eq_false_iff_ne]; omega
    have p4 : ((n : Int) == 16) = false := by rw [beq_eq_false_iff_ne]; omega
    have p5 : ((n : Int) == 17) = false := by rw [beq_eq_false_iff_ne]; omega
    have p6 : ((n : Int) == 31) = false := by rw [beq_eq_false_iff_ne]; omega
    rw [show Dr.tagF 0 n 1 = 9 by unfold Dr.tagF; rw [if_neg (by omega), if_neg (by omega), if_neg (by omega), if_pos (by omega), if_pos rfl]]
    clear h hn2
    go_enter Tryd.func37, Tryd.ntmps37
    go_wp2_with fail
    go_ret
    exact ⟨rfl, rfl⟩
  · have p1 : (1 : Int) ≤ (n : Int) := by omega
    have p2 : ¬ (n : Int) ≤ 6 := by omega
    have p3 : ((n : Int) == 12) = false := by rw [beq_eq_false_iff_ne]; omega
    have p4 : ((n : Int) == 16) = false := by rw [beq_eq_false_iff_ne]; omega
    have p5 : ((n : Int) == 17) = false := by rw [beq_eq_false_iff_ne]; omega
    have p6 : ((n : Int) == 31) = false := by rw [beq_eq_false_iff_ne]; omega
    rw [show Dr.tagF 0 n 1 = 11 by unfold Dr.tagF; rw [if_neg (by omega), if_neg (by omega), if_neg (by omega), if_neg (by omega)]]
    clear h hn2
    go_enter Tryd.func37, Tryd.ntmps37
    go_wp2_with fail
    go_ret
    exact ⟨rfl, rfl⟩
  · have p1 : (1 : Int) ≤ (n : Int) := by omega
    have p2 : ¬ (n : Int) ≤ 6 := by omega
    have p3 : ((n : Int) == 12) = true := by rw [beq_iff_eq]; omega
    have p4 : ((n : Int) == 16) = false := by rw [beq_eq_false_iff_ne]; omega
    have p5 : ((n : Int) == 17) = false := by rw [beq_eq_false_iff_ne]; omega
    have p6 : ((n : Int) == 31) = false := by rw [beq_eq_false_iff_ne]; omega
    rw [show Dr.tagF 0 n 1 = 9 by unfold Dr.tagF; rw [if_neg (by omega), if_neg (by omega), if_neg (by omega), if_pos (by omega), if_pos rfl]]
    clear h hn2
    go_enter Tryd.func37, Tryd.ntmps37
    go_wp2_with fail
    go_ret
    exact ⟨rfl, rfl⟩
  · have p1 : (1 : Int) ≤ (n : Int) := by omega
    have p2 : ¬ (n : Int) ≤ 6 := by omega
    have p3 : ((n : Int) == 12) = false := by rw [beq_eq_false_iff_ne]; omega
    have p4 : ((n : Int) == 16) = false := by rw [beq_eq_false_iff_ne]; omega
    have p5 : ((n : Int) == 17) = false := by rw [beq_eq_false_iff_ne]; omega
    have p6 : ((n : Int) == 31) = false := by rw [beq_eq_false_iff_ne]; omega
    rw [show Dr.tagF 0 n 1 = 11 by unfold Dr.tagF; rw [if_neg (by omega), if_neg (by omega), if_neg (by omega), if_neg (by omega)]]
    clear h hn2
    go_enter Tryd.func37, Tryd.ntmps37
    go_wp2_with fail
    go_ret
    exact ⟨rfl, rfl⟩
  · have p1 : (1 : Int) ≤ (n : Int) := by omega
    have p2 : ¬ (n : Int) ≤ 6 := by omega
    have p3 : ((n : Int) == 12) = false := by rw [beq_eq_false_iff_ne]; omega
    have p4 : ((n : Int) == 16) = true := by rw [beq_iff_eq]; omega
    have p5 : ((n : Int) == 17) = false := by rw [beq_eq_false_iff_ne]; omega
    have p6 : ((n : Int) == 31) = false := by rw [beq_eq_false_iff_ne]; omega
    rw [show Dr.tagF 0 n 1 = 0 by unfold Dr.tagF; rw [if_neg (by omega), if_neg (by omega), if_pos (by omega), if_pos rfl]]
    clear h hn2
    go_enter Tryd.func37, Tryd.ntmps37
    go_wp2_with fail
    go_ret
    exact ⟨rfl, rfl⟩
  · have p1 : (1 : Int) ≤ (n : Int) := by omega
    have p2 : ¬ (n : Int) ≤ 6 := by omega
    have p3 : ((n : Int) == 12) = false := by rw [beq_eq_false_iff_ne]; omega
    have p4 : ((n : Int) == 16) = false := by rw [beq_eq_false_iff_ne]; omega
    have p5 : ((n : Int) == 17) = true := by rw [beq_iff_eq]; omega
    have p6 : ((n : Int) == 31) = false := by rw [beq_eq_false_iff_ne]; omega
    rw [show Dr.tagF 0 n 1 = 0 by unfold Dr.tagF; rw [if_neg (by omega), if_neg (by omega), if_pos (by omega), if_pos rfl]]
    clear h hn2
    go_enter Tryd.func37, Tryd.ntmps37
    go_wp2_with fail
    go_ret
    exact ⟨rfl, rfl⟩
  · have p1 : (1 : Int) ≤ (n : Int) := by omega
    have p2 : ¬ (n : Int) ≤ 6 := by omega
    have p3 : ((n : Int) == 12) = false := by rw [beq_eq_false_iff_ne]; omega
    have p4 : ((n : Int) == 16) = false := by rw [beq_eq_false_iff_ne]; omega
    have p5 : ((n : Int) == 17) = false := by rw [beq_eq_false_iff_ne]; omega
    have p6 : ((n : Int) == 31) = false := by rw [beq_eq_false_iff_ne]; omega
    rw [show Dr.tagF 0 n 1 = 11 by unfold Dr.tagF; rw [if_neg (by omega), if_neg (by omega), if_neg (by omega), if_neg (by omega)]]
    clear h hn2
    go_enter Tryd.func37, Tryd.ntmps37
    go_wp2_with fail
    go_ret
    exact ⟨rfl, rfl⟩
  · have p1 : (1 : Int) ≤ (n : Int) := by omega
    have p2 : ¬ (n : Int) ≤ 6 := by omega
    have p3 : ((n : Int) == 12) = false := by rw [beq_eq_false_iff_ne]; omega
    have p4 : ((n : Int) == 16) = false := by rw [beq_eq_false_iff_ne]; omega
    have p5 : ((n : Int) == 17) = false := by rw [beq_eq_false_iff_ne]; omega
    have p6 : ((n : Int) == 31) = true := by rw [beq_iff_eq]; omega
    rw [show Dr.tagF 0 n 1 = 11 by unfold Dr.tagF; rw [if_pos (by omega)]]
    clear h hn2
    go_enter Tryd.func37, Tryd.ntmps37
    go_wp2_with fail
    go_ret
    exact ⟨rfl, rfl⟩
set_option maxRecDepth 100000 in
set_option maxHeartbeats 3200000 in
theorem rtag10 (t n : Nat) (w : World) (q1 : (t : Int) / 64 = 1) (q2 : (t : Int) % 32 = (n : Int)) (q3 : (t : Int) / 32 % 2 = 0) (hn2 : n < 32) : Calls Tryd.prog 37 #[.int .u8 (t : Int)] w (RetVal (.int .i64 (Dr.tagF 1 n 0)) w) := by
  rcases (by omega : n = 0 ∨ (1 ≤ n ∧ n ≤ 6) ∨ (7 ≤ n ∧ n ≤ 11) ∨ n = 12 ∨ (13 ≤ n ∧ n ≤ 15) ∨ n = 16 ∨ n = 17 ∨ (18 ≤ n ∧ n ≤ 30) ∨ n = 31) with h | h | h | h | h | h | h | h | h
  · have p1 : ¬ (1 : Int) ≤ (n : Int) := by omega
    have p2 : (n : Int) ≤ 6 := by omega
    have p3 : ((n : Int) == 12) = false := by rw [beq_eq_false_iff_ne]; omega
    have p4 : ((n : Int) == 16) = false := by rw [beq_eq_false_iff_ne]; omega
    have p5 : ((n : Int) == 17) = false := by rw [beq_eq_false_iff_ne]; omega
    have p6 : ((n : Int) == 31) = false := by rw [beq_eq_false_iff_ne]; omega
    rw [show Dr.tagF 1 n 0 = 11 by unfold Dr.tagF; rw [if_pos (by omega)]]
    clear h hn2
    go_enter Tryd.func37, Tryd.ntmps37
    go_wp2_with fail
    go_ret
    exact ⟨rfl, rfl⟩
  · have p1 : (1 : Int) ≤ (n : Int) := by omega
    have p2 : (n : Int) ≤ 6 := by omega
    have p3 : ((n : Int) == 12) = false := by rw [beq_eq_false_iff_ne]; omega
    have p4 : ((n : Int) == 16) = false := by rw [beq_eq_false_iff_ne]; omega
    have p5 : ((n : Int) == 17) = false := by rw [beq_eq_false_iff_ne]; omega
    have p6 : ((n : Int) == 31) = false := by rw [beq_eq_false_iff_ne]; omega
    rw [show Dr.tagF 1 n 0 = 11 by unfold Dr.tagF; rw [if_pos (by omega)]]
    clear h hn2
    go_enter Tryd.func37, Tryd.ntmps37
    go_wp2_with fail
    go_ret
    exact ⟨rfl, rfl⟩
  · have p1 : (1 : Int) ≤ (n : Int) := by omega
    have p2 : ¬ (n : Int) ≤ 6 := by omega
    have p3 : ((n : Int) == 12) = false := by rw [beq_eq_false_iff_ne]; omega
    have p4 : ((n : Int) == 16) = false := by rw [beq_eq_false_iff_ne]; omega
    have p5 : ((n : Int) == 17) = false := by rw [beq_eq_false_iff_ne]; omega
    have p6 : ((n : Int) == 31) = false := by rw [beq_eq_false_iff_ne]; omega
    rw [show Dr.tagF 1 n 0 = 11 by unfold Dr.tagF; rw [if_pos (by omega)]]
    clear h hn2
    go_enter Tryd.func37, Tryd.ntmps37
    go_wp2_with fail
    go_ret
    exact ⟨rfl, rfl⟩
  · have p1 : (1 : Int) ≤ (n : Int) := by omega
    have p2 : ¬ (n : Int) ≤ 6 := by omega
    have p3 : ((n : Int) == 12) = true := by rw [beq_iff_eq]; omega
    have p4 : ((n : Int) == 16) = false := by rw [beq_eq_false_iff_ne]; omega
    have p5 : ((n : Int) == 17) = false := by rw [beq_eq_false_iff_ne]; omega
    have p6 : ((n : Int) == 31) = false := by rw [beq_eq_false_iff_ne]; omega
    rw [show Dr.tagF 1 n 0 = 11 by unfold Dr.tagF; rw [if_pos (by omega)]]
    clear h hn2
    go_enter Tryd.func37, Tryd.ntmps37
    go_wp2_with fail
    go_ret
    exact ⟨rfl, rfl⟩
  · have p1 : (1 : Int) ≤ (n : Int) := by omega
    have p2 : ¬ (n : Int) ≤ 6 := by omega
    have p3 : ((n : Int) == 12) = false := by rw [beq_eq_false_iff_ne]; omega
    have p4 : ((n : Int) == 16) = false := by rw [beq_eq_false_iff_ne]; omega
    have p5 : ((n : Int) == 17) = false := by rw [beq_eq_false_iff_ne]; omega
    have p6 : ((n : Int) == 31) = false := by rw [beq_eq_false_iff_ne]; omega
    rw [show Dr.tagF 1 n 0 = 11 by unfold Dr.tagF; rw [if_pos (by omega)]]
    clear h hn2
    go_enter Tryd.func37, Tryd.ntmps37
    go_wp2_with fail
    go_ret
    exact ⟨rfl, rfl⟩
  · have p1 : (1 : Int) ≤ (n : Int) := by omega
    have p2 : ¬ (n : Int) ≤ 6 := by omega
    have p3 : ((n : Int) == 12) = false := by rw [beq_eq_false_iff_ne]; omega
    have p4 : ((n : Int) == 16) = true := by rw [beq_iff_eq]; omega
    have p5 : ((n : Int) == 17) = false := by rw [beq_eq_false_iff_ne]; omega
    have p6 : ((n : Int) == 31) = false := by rw [beq_eq_false_iff_ne]; omega
    rw [show Dr.tagF 1 n 0 = 11 by unfold Dr.tagF; rw [if_pos (by omega)]]
    clear h hn2
    go_enter Tryd.func37, Tryd.ntmps37
    go_wp2_with fail
    go_ret
    exact ⟨rfl, rfl⟩
  · have p1 : (1 : Int) ≤ (n : Int) := by omega
    have p2 : ¬ (n : Int) ≤ 6 := by omega
    have p3 : ((n : Int) == 12) = false := by rw [beq_eq_false_iff_ne]; omega
    have p4 : ((n : Int) == 16) = false := by rw [beq_eq_false_iff_ne]; omega
    have p5 : ((n : Int) == 17) = true := by rw [beq_iff_eq]; omega
    have p6 : ((n : Int) == 31) = false := by rw [beq_eq_false_iff_ne]; omega
    rw [show Dr.tagF 1 n 0 = 11 by unfold Dr.tagF; rw [if_pos (by omega)]]
    clear h hn2
    go_enter Tryd.func37, Tryd.ntmps37
    go_wp2_with fail
    go_ret
    exact ⟨rfl, rfl⟩
  · have p1 : (1 : Int) ≤ (n : Int) := by omega
    have p2 : ¬ (n : Int) ≤ 6 := by omega
    have p3 : ((n : Int) == 12) = false := by rw [beq_eq_false_iff_ne]; omega
    have p4 : ((n : Int) == 16) = false := by rw [beq_eq_false_iff_ne]; omega
    have p5 : ((n : Int) == 17) = false := by rw [beq_eq_false_iff_ne]; omega
    have p6 : ((n : Int) == 31) = false := by rw [beq_eq_false_iff_ne]; omega
    rw [show Dr.tagF 1 n 0 = 11 by unfold Dr.tagF; rw [if_pos (by omega)]]
    clear h hn2
    go_enter Tryd.func37, Tryd.ntmps37
    go_wp2_with fail
    go_ret
    exact ⟨rfl, rfl⟩
  · have p1 : (1 : Int) ≤ (n : Int) := by omega
    have p2 : ¬ (n : Int) ≤ 6 := by omega
    have p3 : ((n : Int) == 12) = false := by rw [beq_eq_false_iff_ne]; omega
    have p4 : ((n : Int) == 16) = false := by rw [beq_eq_false_iff_ne]; omega
    have p5 : ((n : Int) == 17) = false := by rw [beq_eq_false_iff_ne]; omega
    have p6 : ((n : Int) == 31) = true := by rw [beq_iff_eq]; omega
    rw [show Dr.tagF 1 n 0 = 11 by unfold Dr.tagF; rw [if_pos (by omega)]]
    clear h hn2
    go_enter Tryd.func37, Tryd.ntmps37
    go_wp2_with fail
    go_ret
    exact ⟨rfl, rfl⟩
set_option maxRecDepth 100000 in
set_option maxHeartbeats 3200000 in
theorem rtag11 (t n : Nat) (w : World) (q1 : (t : Int) / 64 = 1) (q2 : (t : Int) % 32 = (n : Int)) (q3 : (t : Int) / 32 % 2 = 1) (hn2 : n < 32) : Calls Tryd.prog 37 #[.int .u8 (t : Int)] w (RetVal (.int .i64 (Dr.tagF 1 n 1)) w) := by
  rcases (by omega : n = 0 ∨ (1 ≤ n ∧ n ≤ 6) ∨ (7 ≤ n ∧ n ≤ 11) ∨ n = 12 ∨ (13 ≤ n ∧ n ≤ 15) ∨ n = 16 ∨ n = 17 ∨ (18 ≤ n ∧ n ≤ 30) ∨ n = 31) with h | h | h | h | h | h | h | h | h
  · have p1 : ¬ (1 : Int) ≤ (n : Int) := by omega
    have p2 : (n : Int) ≤ 6 := by omega
    have p3 : ((n : Int) == 12) = false := by rw [beq_eq_false_iff_ne]; omega
    have p4 : ((n : Int) == 16) = false := by rw [beq_eq_false_iff_ne]; omega
    have p5 : ((n : Int) == 17) = false := by rw [beq_eq_false_iff_ne]; omega
    have p6 : ((n : Int) == 31) = false := by rw [beq_eq_false_iff_ne]; omega
    rw [show Dr.tagF 1 n 1 = 11 by unfold Dr.tagF; rw [if_pos (by omega)]]
    clear h hn2
    go_enter Tryd.func37, Tryd.ntmps37
    go_wp2_with fail
    go_ret
    exact ⟨rfl, rfl⟩
  · have p1 : (1 : Int) ≤ (n : Int) := by omega
    have p2 : (n : Int) ≤ 6 := by omega
    have p3 : ((n : Int) == 12) = false := by rw [beq_eq_false_iff_ne]; omega
    have p4 : ((n : Int) == 16) = false := by rw [beq_eq_false_iff_ne]; omega
    have p5 : ((n : Int) == 17) = false := by rw [beq_eq_false_iff_ne]; omega
    have p6 : ((n : Int) == 31) = false := by rw [beq_eq_false_iff_ne]; omega
    rw [show Dr.tagF 1 n 1 = 11 by unfold Dr.tagF; rw [if_pos (by omega)]]
    clear h hn2
    go_enter Tryd.func37, Tryd.ntmps37
    go_wp2_with fail
    go_ret
    exact ⟨rfl, rfl⟩
  · have p1 : (1 : Int) ≤ (n : Int) := by omega
    have p2 : ¬ (n : Int) ≤ 6 := by omega
    have p3 : ((n : Int) == 12) = false := by rw [beq_eq_false_iff_ne]; omega
    have p4 : ((n : Int) == 16) = false := by rw [beq_eq_false_iff_ne]; omega
    have p5 : ((n : Int) == 17) = false := by rw [beq_eq_false_iff_ne]; omega
    have p6 : ((n : Int) == 31) = false := by rw [beq_eq_false_iff_ne]; omega
    rw [show Dr.tagF 1 n 1 = 11 by unfold Dr.tagF; rw [if_pos (by omega)]]
    clear h hn2
    go_enter Tryd.func37, Tryd.ntmps37
    go_wp2_with fail
    go_ret
    exact ⟨rfl, rfl⟩
  · have p1 : (1 : Int) ≤ (n : Int) := by omega
    have p2 : ¬ (n : Int) ≤ 6 := by omega
    have p3 : ((n : Int) == 12) = true := by rw [beq_iff_eq]; omega
    have p4 : ((n : Int) == 16) = false := by rw [beq_eq_false_iff_ne]; omega
    have p5 : ((n : Int) == 17) = false := by rw [beq_eq_false_iff_ne]; omega
    have p6 : ((n : Int) == 31) = false := by rw [beq_eq_false_iff_ne]; omega
    rw [show Dr.tagF 1 n 1 = 11 by unfold Dr.tagF; rw [if_pos (by omega)]]
    clear h hn2
    go_enter Tryd.func37, Tryd.ntmps37
    go_wp2_with fail
    go_ret
    exact ⟨rfl, rfl⟩
  · have p1 : (1 : Int) ≤ (n : Int) := by omega
    have p2 : ¬ (n : Int) ≤ 6 := by omega
    have p3 : ((n : Int) == 12) = false := by rw [beq_eq_false_iff_ne]; omega
    have p4 : ((n : Int) == 16) = false := by rw [beq_eq_false_iff_ne]; omega
    have p5 : ((n : Int) == 17) = false := by rw [beq_eq_false_iff_ne]; omega
    have p6 : ((n : Int) == 31) = false := by rw [beq_eq_false_iff_ne]; omega
    rw [show Dr.tagF 1 n 1 = 11 by unfold Dr.tagF; rw [if_pos (by omega)]]
    clear h hn2
    go_enter Tryd.func37, Tryd.ntmps37
    go_wp2_with fail
    go_ret
    exact ⟨rfl, rfl⟩
  · have p1 : (1 : Int) ≤ (n : Int) := by omega
    have p2 : ¬ (n : Int) ≤ 6 := by omega
    have p3 : ((n : Int) == 12) = false := by rw [beq_eq_false_iff_ne]; omega
    have p4 : ((n : Int) == 16) = true := by rw [beq_iff_eq]; omega
    have p5 : ((n : Int) == 17) = false := by rw [beq_eq_false_iff_ne]; omega
    have p6 : ((n : Int) == 31) = false := by rw [beq_eq_false_iff_ne]; omega
    rw [show Dr.tagF 1 n 1 = 11 by unfold Dr.tagF; rw [if_pos (by omega)]]
    clear h hn2
    go_enter Tryd.func37, Tryd.ntmps37
    go_wp2_with fail
    go_ret
    exact ⟨rfl, rfl⟩
  · have p1 : (1 : Int) ≤ (n : Int) := by omega
    have p2 : ¬ (n : Int) ≤ 6 := by omega
    have p3 : ((n : Int) == 12) = false := by rw [beq_eq_false_iff_ne]; omega
    have p4 : ((n : Int) == 16) = false := by rw [beq_eq_false_iff_ne]; omega
    have p5 : ((n : Int) == 17) = true := by rw [beq_iff_eq]; omega
    have p6 : ((n : Int) == 31) = false := by rw [beq_eq_false_iff_ne]; omega
    rw [show Dr.tagF 1 n 1 = 11 by unfold Dr.tagF; rw [if_pos (by omega)]]
    clear h hn2
    go_enter Tryd.func37, Tryd.ntmps37
    go_wp2_with fail
    go_ret
    exact ⟨rfl, rfl⟩
  · have p1 : (1 : Int) ≤ (n : Int) := by omega
    have p2 : ¬ (n : Int) ≤ 6 := by omega
    have p3 : ((n : Int) == 12) = false := by rw [beq_eq_false_iff_ne]; omega
    have p4 : ((n : Int) == 16) = false := by rw [beq_eq_false_iff_ne]; omega
    have p5 : ((n : Int) == 17) = false := by rw [beq_eq_false_iff_ne]; omega
    have p6 : ((n : Int) == 31) = false := by rw [beq_eq_false_iff_ne]; omega
    rw [show Dr.tagF 1 n 1 = 11 by unfold Dr.tagF; rw [if_pos (by omega)]]
    clear h hn2
    go_enter Tryd.func37, Tryd.ntmps37
    go_wp2_with fail
    go_ret
    exact ⟨rfl, rfl⟩
  · have p1 : (1 : Int) ≤ (n : Int) := by omega
    have p2 : ¬ (n : Int) ≤ 6 := by omega
    have p3 : ((n : Int) == 12) = false := by rw [beq_eq_false_iff_ne]; omega
    have p4 : ((n : Int) == 16) = false := by rw [beq_eq_false_iff_ne]; omega
    have p5 : ((n : Int) == 17) = false := by rw [beq_eq_false_iff_ne]; omega
    have p6 : ((n : Int) == 31) = true := by rw [beq_iff_eq]; omega
    rw [show Dr.tagF 1 n 1 = 11 by unfold Dr.tagF; rw [if_pos (by omega)]]
    clear h hn2
    go_enter Tryd.func37, Tryd.ntmps37
    go_wp2_with fail
    go_ret
    exact ⟨rfl, rfl⟩
set_option maxRecDepth 100000 in
set_option maxHeartbeats 3200000 in
theorem rtag20 (t n : Nat) (w : World) (q1 : (t : Int) / 64 = 2) (q2 : (t : Int) % 32 = (n : Int)) (q3 : (t : Int) / 32 % 2 = 0) (hn2 : n < 32) : Calls Tryd.prog 37 #[.int .u8 (t : Int)] w (RetVal (.int .i64 (Dr.tagF 2 n 0)) w) := by
  rcases (by omega : n = 0 ∨ (1 ≤ n ∧ n ≤ 6) ∨ (7 ≤ n ∧ n ≤ 11) ∨ n = 12 ∨ (13 ≤ n ∧ n ≤ 15) ∨ n = 16 ∨ n = 17 ∨ (18 ≤ n ∧ n ≤ 30) ∨ n = 31) with h | h | h | h | h | h | h | h | h
  · have p1 : ¬ (1 : Int) ≤ (n : Int) := by omega
    have p2 : (n : Int) ≤ 6 := by omega
    have p3 : ((n : Int) == 12) = false := by rw [beq_eq_false_iff_ne]; omega
    have p4 : ((n : Int) == 16) = false := by rw [beq_eq_false_iff_ne]; omega
    have p5 : ((n : Int) == 17) = false := by rw [beq_eq_false_iff_ne]; omega
    have p6 : ((n : Int) == 31) = false := by rw [beq_eq_false_iff_ne]; omega
    rw [show Dr.tagF 2 n 0 = 0 by unfold Dr.tagF; rw [if_neg (by omega), if_pos rfl]]
    clear h hn2
    go_enter Tryd.func37, Tryd.ntmps37
    go_wp2_with fail
    go_ret
    exact ⟨rfl, rfl⟩
  · have p1 : (1 : Int) ≤ (n : Int) := by omega
    have p2 : (n : Int) ≤ 6 := by omega
    have p3 : ((n : Int) == 12) = false := by rw [beq_eq_false_iff_ne]; omega
    have p4 : ((n : Int) == 16) = false := by rw [beq_eq_false_iff_ne]; omega
    have p5 : ((n : Int) == 17) = false := by rw [beq_eq_false_iff_ne]; omega
    have p6 : ((n : Int) == 31) = false := by rw [beq_eq_false_iff_ne]; omega
    rw [show Dr.tagF 2 n 0 = 0 by unfold Dr.tagF; rw [if_neg (by omega), if_pos rfl]]
    clear h hn2
    go_enter Tryd.func37, Tryd.ntmps37
    go_wp2_with fail
    go_ret
    exact ⟨rfl, rfl⟩
  · have p1 : (1 : Int) ≤ (n : Int) := by omega
    have p2 : ¬ (n : Int) ≤ 6 := by omega
    have p3 : ((n : Int) == 12) = false := by rw [beq_eq_false_iff_ne]; omega
    have p4 : ((n : Int) == 16) = false := by rw [beq_eq_false_iff_ne]; omega
    have p5 : ((n : Int) == 17) = false := by rw [beq_eq_false_iff_ne]; omega
    have p6 : ((n : Int) == 31) = false := by rw [beq_eq_false_iff_ne]; omega
    rw [show Dr.tagF 2 n 0 = 0 by unfold Dr.tagF; rw [if_neg (by omega), if_pos rfl]]
    clear h hn2
    go_enter Tryd.func37, Tryd.ntmps37
    go_wp2_with fail
    go_ret
    exact ⟨rfl, rfl⟩
  · have p1 : (1 : Int) ≤ (n : Int) := by omega
    have p2 : ¬ (n : Int) ≤ 6 := by omega
    have p3 : ((n : Int) == 12) = true := by rw [beq_iff_eq]; omega
    have p4 : ((n : Int) == 16) = false := by rw [beq_eq_false_iff_ne]; omega
    have p5 : ((n : Int) == 17) = false := by rw [beq_eq_false_iff_ne]; omega
    have p6 : ((n : Int) == 31) = false := by rw [beq_eq_false_iff_ne]; omega
    rw [show Dr.tagF 2 n 0 = 0 by unfold Dr.tagF; rw [if_neg (by omega), if_pos rfl]]
    clear h hn2
    go_enter Tryd.func37, Tryd.ntmps37
    go_wp2_with fail
    go_ret
    exact ⟨rfl, rfl⟩
  · have p1 : (1 : Int) ≤ (n : Int) := by omega
    have p2 : ¬ (n : Int) ≤ 6 := by omega
    have p3 : ((n : Int) == 12) = false := by rw [beq_eq_false_iff_ne]; omega
    have p4 : ((n : Int) == 16) = false := by rw [beq_eq_false_iff_ne]; omega
    have p5 : ((n : Int) == 17) = false := by rw [beq_eq_false_iff_ne]; omega
    have p6 : ((n : Int) == 31) = false := by rw [beq_eq_false_iff_ne]; omega
    rw [show Dr.tagF 2 n 0 = 0 by unfold Dr.tagF; rw [if_neg (by omega), if_pos rfl]]
    clear h hn2
    go_enter Tryd.func37, Tryd.ntmps37
    go_wp2_with fail
    go_ret
    exact ⟨rfl, rfl⟩
  · have p1 : (1 : Int) ≤ (n : Int) := by omega
    have p2 : ¬ (n : Int) ≤ 6 := by omega
    have p3 : ((n : Int) == 12) = false := by rw [beq_eq_false_iff_ne]; omega
    have p4 : ((n : Int) == 16) = true := by rw [beq_iff_eq]; omega
    have p5 : ((n : Int) == 17) = false := by rw [beq_eq_false_iff_ne]; omega
    have p6 : ((n : Int) == 31) = false := by rw [beq_eq_false_iff_ne]; omega
    rw [show Dr.tagF 2 n 0 = 0 by unfold Dr.tagF; rw [if_neg (by omega), if_pos rfl]]
    clear h hn2
    go_enter Tryd.func37, Tryd.ntmps37
    go_wp2_with fail
    go_ret
    exact ⟨rfl, rfl⟩
  · have p1 : (1 : Int) ≤ (n : Int) := by omega
    have p2 : ¬ (n : Int) ≤ 6 := by omega
    have p3 : ((n : Int) == 12) = false := by rw [beq_eq_false_iff_ne]; omega
    have p4 : ((n : Int) == 16) = false := by rw [beq_eq_false_iff_ne]; omega
    have p5 : ((n : Int) == 17) = true := by rw [beq_iff_eq]; omega
    have p6 : ((n : Int) == 31) = false := by rw [beq_eq_false_iff_ne]; omega
    rw [show Dr.tagF 2 n 0 = 0 by unfold Dr.tagF; rw [if_neg (by omega), if_pos rfl]]
    clear h hn2
    go_enter Tryd.func37, Tryd.ntmps37
    go_wp2_with fail
    go_ret
    exact ⟨rfl, rfl⟩
  · have p1 : (1 : Int) ≤ (n : Int) := by omega
    have p2 : ¬ (n : Int) ≤ 6 := by omega
    have p3 : ((n : Int) == 12) = false := by rw [beq_eq_false_iff_ne]; omega
    have p4 : ((n : Int) == 16) = false := by rw [beq_eq_false_iff_ne]; omega
    have p5 : ((n : Int) == 17) = false := by rw [beq_eq_false_iff_ne]; omega
    have p6 : ((n : Int) == 31) = false := by rw [beq_eq_false_iff_ne]; omega
    rw [show Dr.tagF 2 n 0 = 0 by unfold Dr.tagF; rw [if_neg (by omega), if_pos rfl]]
    clear h hn2
    go_enter Tryd.func37, Tryd.ntmps37
    go_wp2_with fail
    go_ret
    exact ⟨rfl, rfl⟩
  · have p1 : (1 : Int) ≤ (n : Int) := by omega
    have p2 : ¬ (n : Int) ≤ 6 := by omega
    have p3 : ((n : Int) == 12) = false := by rw [beq_eq_false_iff_ne]; omega
    have p4 : ((n : Int) == 16) = false := by rw [beq_eq_false_iff_ne]; omega
    have p5 : ((n : Int) == 17) = false := by rw [beq_eq_false_iff_ne]; omega
    have p6 : ((n : Int) == 31) = true := by rw [beq_iff_eq]; omega
    rw [show Dr.tagF 2 n 0 = 11 by unfold Dr.tagF; rw [if_pos (by omega)]]
    clear h hn2
    go_enter Tryd.func37, Tryd.ntmps37
    go_wp2_with fail
    go_ret
    exact ⟨rfl, rfl⟩
set_option maxRecDepth 100000 in
set_option maxHeartbeats 3200000 in
theorem rtag21 (t n : Nat) (w : World) (q1 : (t : Int) / 64 = 2) (q2 : (t : Int) % 32 = (n : Int)) (q3 : (t : Int) / 32 % 2 = 1) (hn2 : n < 32) : Calls Tryd.prog 37 #[.int .u8 (t : Int)] w (RetVal (.int .i64 (Dr.tagF 2 n 1)) w) := by
  rcases (by omega : n = 0 ∨ (1 ≤ n ∧ n ≤ 6) ∨ (7 ≤ n ∧ n ≤ 11) ∨ n = 12 ∨ (13 ≤ n ∧ n ≤ 15) ∨ n = 16 ∨ n = 17 ∨ (18 ≤ n ∧ n ≤ 30) ∨ n = 31) with h | h | h | h | h | h | h | h | h
  · have p1 : ¬ (1 : Int) ≤ (n : Int) := by omega
    have p2 : (n : Int) ≤ 6 := by omega
    have p3 : ((n : Int) == 12) = false := by rw [beq_eq_false_iff_ne]; omega
    have p4 : ((n : Int) == 16) = false := by rw [beq_eq_false_iff_ne]; omega
    have p5 : ((n : Int) == 17) = false := by rw [beq_eq_false_iff_ne]; omega
    have p6 : ((n : Int) == 31) = false := by rw [beq_eq_false_iff_ne]; omega
    rw [show Dr.tagF 2 n 1 = 0 by unfold Dr.tagF; rw [if_neg (by omega), if_pos rfl]]
    clear h hn2
    go_enter Tryd.func37, Tryd.ntmps37
    go_wp2_with fail
    go_ret
    exact ⟨rfl, rfl⟩
  · have p1 : (1 : Int) ≤ (n : Int) := by omega
    have p2 : (n : Int) ≤ 6 := by omega
    have p3 : ((n : Int) == 12) = false := by rw [beq_eq_false_iff_ne]; omega
    have p4 : ((n : Int) == 16) = false := by rw [beq_eq_false_iff_ne]; omega
    have p5 : ((n : Int) == 17) = false := by rw [beq_eq_false_iff_ne]; omega
    have p6 : ((n : Int) == 31) = false := by rw [beq_eq_false_iff_ne]; omega
    rw [show Dr.tagF 2 n 1 = 0 by unfold Dr.tagF; rw [if_neg (by omega), if_pos rfl]]
    clear h hn2
    go_enter Tryd.func37, Tryd.ntmps37
    go_wp2_with fail
    go_ret
    exact ⟨rfl, rfl⟩
  · have p1 : (1 : Int) ≤ (n : Int) := by omega
    have p2 : ¬ (n : Int) ≤ 6 := by omega
    have p3 : ((n : Int) == 12) = false := by rw [beq_eq_false_iff_ne]; omega
    have p4 : ((n : Int) == 16) = false := by rw [beq_eq_false_iff_ne]; omega
    have p5 : ((n : Int) == 17) = false := by rw [beq_eq_false_iff_ne]; omega
    have p6 : ((n : Int) == 31) = false := by rw [beq_eq_false_iff_ne]; omega
    rw [show Dr.tagF 2 n 1 = 0 by unfold Dr.tagF; rw [if_neg (by omega), if_pos rfl]]
    clear h hn2
    go_enter Tryd.func37, Tryd.ntmps37
    go_wp2_with fail
    go_ret
    exact ⟨rfl, rfl⟩
  · have p1 : (1 : Int) ≤ (n : Int) := by omega
    have p2 : ¬ (n : Int) ≤ 6 := by omega
    have p3 : ((n : Int) == 12) = true := by rw [beq_iff_eq]; omega
    have p4 : ((n : Int) == 16) = false := by rw [beq_eq_false_iff_ne]; omega
    have p5 : ((n : Int) == 17) = false := by rw [beq_eq_false_iff_ne]; omega
    have p6 : ((n : Int) == 31) = false := by rw [beq_eq_false_iff_ne]; omega
    rw [show Dr.tagF 2 n 1 = 0 by unfold Dr.tagF; rw [if_neg (by omega), if_pos rfl]]
    clear h hn2
    go_enter Tryd.func37, Tryd.ntmps37
    go_wp2_with fail
    go_ret
    exact ⟨rfl, rfl⟩
  · have p1 : (1 : Int) ≤ (n : Int) := by omega
    have p2 : ¬ (n : Int) ≤ 6 := by omega
    have p3 : ((n : Int) == 12) = false := by rw [beq_eq_false_iff_ne]; omega
    have p4 : ((n : Int) == 16) = false := by rw [beq_eq_false_iff_ne]; omega
    have p5 : ((n : Int) == 17) = false := by rw [beq_eq_false_iff_ne]; omega
    have p6 : ((n : Int) == 31) = false := by rw [beq_eq_false_iff_ne]; omega
    rw [show Dr.tagF 2 n 1 = 0 by unfold Dr.tagF; rw [if_neg (by omega), if_pos rfl]]
    clear h hn2
    go_enter Tryd.func37, Tryd.ntmps37
    go_wp2_with fail
    go_ret
    exact ⟨rfl, rfl⟩
  · have p1 : (1 : Int) ≤ (n : Int) := by omega
    have p2 : ¬ (n : Int) ≤ 6 := by omega
    have p3 : ((n : Int) == 12) = false := by rw [beq_eq_false_iff_ne]; omega
    have p4 : ((n : Int) == 16) = true := by rw [beq_iff_eq]; omega
    have p5 : ((n : Int) == 17) = false := by rw [beq_eq_false_iff_ne]; omega
    have p6 : ((n : Int) == 31) = false := by rw [beq_eq_false_iff_ne]; omega
    rw [show Dr.tagF 2 n 1 = 0 by unfold Dr.tagF; rw [if_neg (by omega), if_pos rfl]]
    clear h hn2
    go_enter Tryd.func37, Tryd.ntmps37
    go_wp2_with fail
    go_ret
    exact ⟨rfl, rfl⟩
  · have p1 : (1 : Int) ≤ (n : Int) := by omega
    have p2 : ¬ (n : Int) ≤ 6 := by omega
    have p3 : ((n : Int) == 12) = false := by rw [beq_eq_false_iff_ne]; omega
    have p4 : ((n : Int) == 16) = false := by rw [beq_eq_false_iff_ne]; omega
    have p5 : ((n : Int) == 17) = true := by rw [beq_iff_eq]; omega
    have p6 : ((n : Int) == 31) = false := by rw [beq_eq_false_iff_ne]; omega
    rw [show Dr.tagF 2 n 1 = 0 by unfold Dr.tagF; rw [if_neg (by omega), if_pos rfl]]
    clear h hn2
    go_enter Tryd.func37, Tryd.ntmps37
    go_wp2_with fail
    go_ret
    exact ⟨rfl, rfl⟩
  · have p1 : (1 : Int) ≤ (n : Int) := by omega
    have p2 : ¬ (n : Int) ≤ 6 := by omega
    have p3 : ((n : Int) == 12) = false := by rw [beq_eq_false_iff_ne]; omega
    have p4 : ((n : Int) == 16) = false := by rw [beq_eq_false_iff_ne]; omega
    have p5 : ((n : Int) == 17) = false := by rw [beq_eq_false_iff_ne]; omega
    have p6 : ((n : Int) == 31) = false := by rw [beq_eq_false_iff_ne]; omega
    rw [show Dr.tagF 2 n 1 = 0 by unfold Dr.tagF; rw [if_neg (by omega), if_pos rfl]]
    clear h hn2
    go_enter Tryd.func37, Tryd.ntmps37
    go_wp2_with fail
    go_ret
    exact ⟨rfl, rfl⟩
  · have p1 : (1 : Int) ≤ (n : Int) := by omega
    have p2 : ¬ (n : Int) ≤ 6 := by omega
    have p3 : ((n : Int) == 12) = false := by rw [beq_eq_false_iff_ne]; omega
    have p4 : ((n : Int) == 16) = false := by rw [beq_eq_false_iff_ne]; omega
    have p5 : ((n : Int) == 17) = false := by rw [beq_eq_false_iff_ne]; omega
    have p6 : ((n : Int) == 31) = true := by rw [beq_iff_eq]; omega
    rw [show Dr.tagF 2 n 1 = 11 by unfold Dr.tagF; rw [if_pos (by omega)]]
    clear h hn2
    go_enter Tryd.func37, Tryd.ntmps37
    go_wp2_with fail
    go_ret
    exact ⟨rfl, rfl⟩
set_option maxRecDepth 100000 in
set_option maxHeartbeats 3200000 in
theorem rtag30 (t n : Nat) (w : World) (q1 : (t : Int) / 64 = 3) (q2 : (t : Int) % 32 = (n : Int)) (q3 : (t : Int) / 32 % 2 = 0) (hn2 : n < 32) : Calls Tryd.prog 37 #[.int .u8 (t : Int)] w (RetVal (.int .i64 (Dr.tagF 3 n 0)) w) := by
  rcases (by omega : n = 0 ∨ (1 ≤ n ∧ n ≤ 6) ∨ (7 ≤ n ∧ n ≤ 11) ∨ n = 12 ∨ (13 ≤ n ∧ n ≤ 15) ∨ n = 16 ∨ n = 17 ∨ (18 ≤ n ∧ n ≤ 30) ∨ n = 31) with h | h | h | h | h | h | h | h | h
  · have p1 : ¬ (1 : Int) ≤ (n : Int) := by omega
    have p2 : (n : Int) ≤ 6 := by omega
    have p3 : ((n : Int) == 12) = false := by rw [beq_eq_false_iff_ne]; omega
    have p4 : ((n : Int) == 16) = false := by rw [beq_eq_false_iff_ne]; omega
    have p5 : ((n : Int) == 17) = false := by rw [beq_eq_false_iff_ne]; omega
    have p6 : ((n : Int) == 31) = false := by rw [beq_eq_false_iff_ne]; omega
    rw [show Dr.tagF 3 n 0 = 11 by unfold Dr.tagF; rw [if_pos (by omega)]]
    clear h hn2
    go_enter Tryd.func37, Tryd.ntmps37
    go_wp2_with fail
    go_ret
    exact ⟨rfl, rfl⟩
  · have p1 : (1 : Int) ≤ (n : Int) := by omega
    have p2 : (n : Int) ≤ 6 := by omega
    have p3 : ((n : Int) == 12) = false := by rw [beq_eq_false_iff_ne]; omega
    have p4 : ((n : Int) == 16) = false := by rw [beq_eq_false_iff_ne]; omega
    have p5 : ((n : Int) == 17) = false := by rw [beq_eq_false_iff_ne]; omega
    have p6 : ((n : Int) == 31) = false := by rw [beq_eq_false_iff_ne]; omega
    rw [show Dr.tagF 3 n 0 = 11 by unfold Dr.tagF; rw [if_pos (by omega)]]
    clear h hn2
    go_enter Tryd.func37, Tryd.ntmps37
    go_wp2_with fail
    go_ret
    exact ⟨rfl, rfl⟩
  · have p1 : (1 : Int) ≤ (n : Int) := by omega
    have p2 : ¬ (n : Int) ≤ 6 := by omega
    have p3 : ((n : Int) == 12) = false := by rw [beq_eq_false_iff_ne]; omega
    have p4 : ((n : Int) == 16) = false := by rw [beq_eq_false_iff_ne]; omega
    have p5 : ((n : Int) == 17) = false := by rw [beq_eq_false_iff_ne]; omega
    have p6 : ((n : Int) == 31) = false := by rw [beq_eq_false_iff_ne]; omega
    rw [show Dr.tagF 3 n 0 = 11 by unfold Dr.tagF; rw [if_pos (by omega)]]
    clear h hn2
    go_enter Tryd.func37, Tryd.ntmps37
    go_wp2_with fail
    go_ret
    exact ⟨rfl, rfl⟩
  · have p1 : (1 : Int) ≤ (n : Int) := by omega
    have p2 : ¬ (n : Int) ≤ 6 := by omega
    have p3 : ((n : Int) == 12) = true := by rw [beq_iff_eq]; omega
    have p4 : ((n : Int) == 16) = false := by rw [beq_eq_false_iff_ne]; omega
    have p5 : ((n : Int) == 17) = false := by rw [beq_eq_false_iff_ne]; omega
    have p6 : ((n : Int) == 31) = false := by rw [beq_eq_false_iff_ne]; omega
    rw [show Dr.tagF 3 n 0 = 11 by unfold Dr.tagF; rw [if_pos (by omega)]]
    clear h hn2
    go_enter Tryd.func37, Tryd.ntmps37
    go_wp2_with fail
    go_ret
    exact ⟨rfl, rfl⟩
  · have p1 : (1 : Int) ≤ (n : Int) := by omega
    have p2 : ¬ (n : Int) ≤ 6 := by omega
    have p3 : ((n : Int) == 12) = false := by rw [beq_eq_false_iff_ne]; omega
    have p4 : ((n : Int) == 16) = false := by rw [beq_eq_false_iff_ne]; omega
    have p5 : ((n : Int) == 17) = false := by rw [beq_eq_false_iff_ne]; omega
    have p6 : ((n : Int) == 31) = false := by rw [beq_eq_false_iff_ne]; omega
    rw [show Dr.tagF 3 n 0 = 11 by unfold Dr.tagF; rw [if_pos (by omega)]]
    clear h hn2
    go_enter Tryd.func37, Tryd.ntmps37
    go_wp2_with fail
    go_ret
    exact ⟨rfl, rfl⟩
  · have p1 : (1 : Int) ≤ (n : Int) := by omega
    have p2 : ¬ (n : Int) ≤ 6 := by omega
    have p3 : ((n : Int) == 12) = false := by rw [beq_eq_false_iff_ne]; omega
    have p4 : ((n : Int) == 16) = true := by rw [beq_iff_eq]; omega
    have p5 : ((n : Int) == 17) = false := by rw [beq_eq_false_iff_ne]; omega
    have p6 : ((n : Int) == 31) = false := by rw [beq_eq_false_iff_ne]; omega
    rw [show Dr.tagF 3 n 0 = 11 by unfold Dr.tagF; rw [if_pos (by omega)]]
    clear h hn2
    go_enter Tryd.func37, Tryd.ntmps37
    go_wp2_with fail
    go_ret
    exact ⟨rfl, rfl⟩
  · have p1 : (1 : Int) ≤ (n : Int) := by omega
    have p2 : ¬ (n : Int) ≤ 6 := by omega
    have p3 : ((n : Int) == 12) = false := by rw [beq_eq_false_iff_ne]; omega
    have p4 : ((n : Int) == 16) = false := by rw [beq_eq_false_iff_ne]; omega
    have p5 : ((n : Int) == 17) = true := by rw [beq_iff_eq]; omega
    have p6 : ((n : Int) == 31) = false := by rw [beq_eq_false_iff_ne]; omega
    rw [show Dr.tagF 3 n 0 = 11 by unfold Dr.tagF; rw [if_pos (by omega)]]
    clear h hn2
    go_enter Tryd.func37, Tryd.ntmps37
    go_wp2_with fail
    go_ret
    exact ⟨rfl, rfl⟩
  · have p1 : (1 : Int) ≤ (n : Int) := by omega
    have p2 : ¬ (n : Int) ≤ 6 := by omega
    have p3 : ((n : Int) == 12) = false := by rw [beq_eq_false_iff_ne]; omega
    have p4 : ((n : Int) == 16) = false := by rw [beq_eq_false_iff_ne]; omega
    have p5 : ((n : Int) == 17) = false := by rw [beq_eq_false_iff_ne]; omega
    have p6 : ((n : Int) == 31) = false := by rw [beq_eq_false_iff_ne]; omega
    rw [show Dr.tagF 3 n 0 = 11 by unfold Dr.tagF; rw [if_pos (by omega)]]
    clear h hn2
    go_enter Tryd.func37, Tryd.ntmps37
    go_wp2_with fail
    go_ret
    exact ⟨rfl, rfl⟩
  · have p1 : (1 : Int) ≤ (n : Int) := by omega
    have p2 : ¬ (n : Int) ≤ 6 := by omega
    have p3 : ((n : Int) == 12) = false := by rw [beq_eq_false_iff_ne]; omega
    have p4 : ((n : Int) == 16) = false := by rw [beq_eq_false_iff_ne]; omega
    have p5 : ((n : Int) == 17) = false := by rw [beq_eq_false_iff_ne]; omega
    have p6 : ((n : Int) == 31) = true := by rw [beq_iff_eq]; omega
    rw [show Dr.tagF 3 n 0 = 11 by unfold Dr.tagF; rw [if_pos (by omega)]]
    clear h hn2
    go_enter Tryd.func37, Tryd.ntmps37
    go_wp2_with fail
    go_ret
    exact ⟨rfl, rfl⟩
set_option maxRecDepth 100000 in
set_option maxHeartbeats 3200000 in
theorem rtag31 (t n : Nat) (w : World) (q1 : (t : Int) / 64 = 3) (q2 : (t : Int) % 32 = (n : Int)) (q3 : (t : Int) / 32 % 2 = 1) (hn2 : n < 32) : Calls Tryd.prog 37 #[.int .u8 (t : Int)] w (RetVal (.int .i64 (Dr.tagF 3 n 1)) w) := by
  rcases (by omega : n = 0 ∨ (1 ≤ n ∧ n ≤ 6) ∨ (7 ≤ n ∧ n ≤ 11) ∨ n = 12 ∨ (13 ≤ n ∧ n ≤ 15) ∨ n = 16 ∨ n = 17 ∨ (18 ≤ n ∧ n ≤ 30) ∨ n = 31) with h | h | h | h | h | h | h | h | h
  · have p1 : ¬ (1 : Int) ≤ (n : Int) := by omega
    have p2 : (n : Int) ≤ 6 := by omega
    have p3 : ((n : Int) == 12) = false := by rw [beq_eq_false_iff_ne]; omega
    have p4 : ((n : Int) == 16) = false := by rw [beq_eq_false_iff_ne]; omega
    have p5 : ((n : Int) == 17) = false := by rw [beq_eq_false_iff_ne]; omega
    have p6 : ((n : Int) == 31) = false := by rw [beq_eq_false_iff_ne]; omega
    rw [show Dr.tagF 3 n 1 = 11 by unfold Dr.tagF; rw [if_pos (by omega)]]
    clear h hn2
    go_enter Tryd.func37, Tryd.ntmps37
    go_wp2_with fail
    go_ret
    exact ⟨rfl, rfl⟩
  · have p1 : (1 : Int) ≤ (n : Int) := by omega
    have p2 : (n : Int) ≤ 6 := by omega
    have p3 : ((n : Int) == 12) = false := by rw [beq_eq_false_iff_ne]; omega
    have p4 : ((n : Int) == 16) = false := by rw [beq_eq_false_iff_ne]; omega
    have p5 : ((n : Int) == 17) = false := by rw [beq_eq_false_iff_ne]; omega
    have p6 : ((n : Int) == 31) = false := by rw [beq_eq_false_iff_ne]; omega
    rw [show Dr.tagF 3 n 1 = 11 by unfold Dr.tagF; rw [if_pos (by omega)]]
    clear h hn2
    go_enter Tryd.func37, Tryd.ntmps37
    go_wp2_with fail
    go_ret
    exact ⟨rfl, rfl⟩
  · have p1 : (1 : Int) ≤ (n : Int) := by omega
    have p2 : ¬ (n : Int) ≤ 6 := by omega
    have p3 : ((n : Int) == 12) = false := by rw [beq_eq_false_iff_ne]; omega
    have p4 : ((n : Int) == 16) = false := by rw [beq_eq_false_iff_ne]; omega
    have p5 : ((n : Int) == 17) = false := by rw [beq_eq_false_iff_ne]; omega
    have p6 : ((n : Int) == 31) = false := by rw [beq_eq_false_iff_ne]; omega
    rw [show Dr.tagF 3 n 1 = 11 by unfold Dr.tagF; rw [if_pos (by omega)]]
    clear h hn2
    go_enter Tryd.func37, Tryd.ntmps37
    go_wp2_with fail
    go_ret
    exact ⟨rfl, rfl⟩
  · have p1 : (1 : Int) ≤ (n : Int) := by omega
    have p2 : ¬ (n : Int) ≤ 6 := by omega
    have p3 : ((n : Int) == 12) = true := by rw [beq_iff_eq]; omega
    have p4 : ((n : Int) == 16) = false := by rw [beq_eq_false_iff_ne]; omega
    have p5 : ((n : Int) == 17) = false := by rw [beq_eq_false_iff_ne]; omega
    have p6 : ((n : Int) == 31) = false := by rw [beq_eq_false_iff_ne]; omega
    rw [show Dr.tagF 3 n 1 = 11 by unfold Dr.tagF; rw [if_pos (by omega)]]
    clear h hn2
    go_enter Tryd.func37, Tryd.ntmps37
    go_wp2_with fail
    go_ret
    exact ⟨rfl, rfl⟩
  · have p1 : (1 : Int) ≤ (n : Int) := by omega
    have p2 : ¬ (n : Int) ≤ 6 := by omega
    have p3 : ((n : Int) == 12) = false := by rw [beq_eq_false_iff_ne]; omega
    have p4 : ((n : Int) == 16) = false := by rw [beq_eq_false_iff_ne]; omega
    have p5 : ((n : Int) == 17) = false := by rw [beq_eq_false_iff_ne]; omega
    have p6 : ((n : Int) == 31) = false := by rw [beq_eq_false_iff_ne]; omega
    rw [show Dr.tagF 3 n 1 = 11 by unfold Dr.tagF; rw [if_pos (by omega)]]
    clear h hn2
    go_enter Tryd.func37, Tryd.ntmps37
    go_wp2_with fail
    go_ret
    exact ⟨rfl, rfl⟩
  · have p1 : (1 : Int) ≤ (n : Int) := by omega
    have p2 : ¬ (n : Int) ≤ 6 := by omega
    have p3 : ((n : Int) == 12) = false := by rw [beq_eq_false_iff_ne]; omega
    have p4 : ((n : Int) == 16) = true := by rw [beq_iff_eq]; omega
    have p5 : ((n : Int) == 17) = false := by rw [beq_eq_false_iff_ne]; omega
    have p6 : ((n : Int) == 31) = false := by rw [beq_eq_false_iff_ne]; omega
    rw [show Dr.tagF 3 n 1 = 11 by unfold Dr.tagF; rw [if_pos (by omega)]]
    clear h hn2
    go_enter Tryd.func37, Tryd.ntmps37
    go_wp2_with fail
    go_ret
    exact ⟨rfl, rfl⟩
  · have p1 : (1 : Int) ≤ (n : Int) := by omega
    have p2 : ¬ (n : Int) ≤ 6 := by omega
    have p3 : ((n : Int) == 12) = false := by rw [beq_eq_false_iff_ne]; omega
    have p4 : ((n : Int) == 16) = false := by rw [beq_eq_false_iff_ne]; omega
    have p5 : ((n : Int) == 17) = true := by rw [beq_iff_eq]; omega
    have p6 : ((n : Int) == 31) = false := by rw [beq_eq_false_iff_ne]; omega
    rw [show Dr.tagF 3 n 1 = 11 by unfold Dr.tagF; rw [if_pos (by omega)]]
    clear h hn2
    go_enter Tryd.func37, Tryd.ntmps37
    go_wp2_with fail
    go_ret
    exact ⟨rfl, rfl⟩
  · have p1 : (1 : Int) ≤ (n : Int) := by omega
    have p2 : ¬ (n : Int) ≤ 6 := by omega
    have p3 : ((n : Int) == 12) = false := by rw [beq_eq_false_iff_ne]; omega
    have p4 : ((n : Int) == 16) = false := by rw [beq_eq_false_iff_ne]; omega
    have p5 : ((n : Int) == 17) = false := by rw [beq_eq_false_iff_ne]; omega
    have p6 : ((n : Int) == 31) = false := by rw [beq_eq_false_iff_ne]; omega
    rw [show Dr.tagF 3 n 1 = 11 by unfold Dr.tagF; rw [if_pos (by omega)]]
    clear h hn2
    go_enter Tryd.func37, Tryd.ntmps37
    go_wp2_with fail
    go_ret
    exact ⟨rfl, rfl⟩
  · have p1 : (1 : Int) ≤ (n : Int) := by omega
    have p2 : ¬ (n : Int) ≤ 6 := by omega
    have p3 : ((n : Int) == 12) = false := by rw [beq_eq_false_iff_ne]; omega
    have p4 : ((n : Int) == 16) = false := by rw [beq_eq_false_iff_ne]; omega
    have p5 : ((n : Int) == 17) = false := by rw [beq_eq_false_iff_ne]; omega
    have p6 : ((n : Int) == 31) = true := by rw [beq_iff_eq]; omega
    rw [show Dr.tagF 3 n 1 = 11 by unfold Dr.tagF; rw [if_pos (by omega)]]
    clear h hn2
    go_enter Tryd.func37, Tryd.ntmps37
    go_wp2_with fail
    go_ret
    exact ⟨rfl, rfl⟩
theorem rtag_any (t : Nat) (h : t < 256) (w : World) : Calls Tryd.prog 37 #[.int .u8 (t : Int)] w (RetVal (.int .i64 (Dr.tagF (t / 64) (t % 32) (t / 32 % 2))) w) := by
  obtain ⟨c, hc⟩ : ∃ c, t / 64 = c := ⟨_, rfl⟩
  obtain ⟨i, hi⟩ : ∃ i, t / 32 % 2 = i := ⟨_, rfl⟩
  rw [hc, hi]
  rcases (by omega : c = 0 ∨ c = 1 ∨ c = 2 ∨ c = 3) with rfl | rfl | rfl | rfl
  · rcases (by omega : i = 0 ∨ i = 1) with rfl | rfl
    · exact rtag00 t (t % 32) w (by omega) (by omega) (by omega) (by omega)
    · exact rtag01 t (t % 32) w (by omega) (by omega) (by omega) (by omega)
  · rcases (by omega : i = 0 ∨ i = 1) with rfl | rfl
    · exact rtag10 t (t % 32) w (by omega) (by omega) (by omega) (by omega)
    · exact rtag11 t (t % 32) w (by omega) (by omega) (by omega) (by omega)
  · rcases (by omega : i = 0 ∨ i = 1) with rfl | rfl
    · exact rtag20 t (t % 32) w (by omega) (by omega) (by omega) (by omega)
    · exact rtag21 t (t % 32) w (by omega) (by omega) (by omega) (by omega)
  · rcases (by omega : i = 0 ∨ i = 1) with rfl | rfl
    · exact rtag30 t (t % 32) w (by omega) (by omega) (by omega) (by omega)
    · exact rtag31 t (t % 32) w (by omega) (by omega) (by omega) (by omega)
end Go.Proofs.YteglahkgnggmgaaDoor
