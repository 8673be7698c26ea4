/- Limits that may be: both texts. -/
import Derived.Test.YteglahkgnggmgaaDoorDrR
namespace Go.Proofs.YteglahkgnggmgaaDoor
open Go.RowKit
set_option linter.unusedVariables false
set_option linter.unusedSimpArgs false
open Dr
def mayOk (d i b r : Int) : Bool := decide (1 ≤ d ∧ d ≤ 32 ∧ 1 ≤ i ∧ i ≤ 4096 ∧ 1 ≤ b ∧ b ≤ 262144 ∧ 1 ≤ r ∧ r ≤ 4096)
theorem mayOk_yes {d i b r : Int} (h : mayOk d i b r = true) : 1 ≤ d ∧ d ≤ 32 ∧ 1 ≤ i ∧ i ≤ 4096 ∧ 1 ≤ b ∧ b ≤ 262144 ∧ 1 ≤ r ∧ r ≤ 4096 := by rw [mayOk, decide_eq_true_iff] at h; exact h
structure HBool (p : Bool) (b : Bool) : Prop where
  out : p = b
set_option maxRecDepth 100000 in
set_option maxHeartbeats 3200000 in
theorem may_any (d i b r : Int) (w : World) : Calls Tryd.prog 21 #[.agg #[.int .i64 d, .int .i64 i, .int .i64 b, .int .i64 r]] w (fun e w' => e = .returned (.bool (mayOk d i b r)) ∧ Below w.heap.size w w') := by
  obtain ⟨R, hR⟩ : ∃ R, mayOk d i b r = R := ⟨_, rfl⟩
  rw [hR]
  rw [mayOk] at hR
  have ENTER : True := trivial
  by_cases h0 : (1 : Int) ≤ (d : Int)
  case neg =>
    obtain rfl : R = false := by rw [← hR]; exact decide_eq_false (fun h => by omega)
    have f0 : decide ((1 : Int) ≤ (d : Int)) = false := decide_eq_false h0
    clear hR ENTER h0
    go_enter Tryd.func21, Tryd.ntmps21
    go_wp2_with fail
    go_ret
    exact ⟨rfl, (Below.refl _ _).alloc (Nat.le_refl _) _⟩
  by_cases h1 : (d : Int) ≤ (32 : Int)
  case neg =>
    obtain rfl : R = false := by rw [← hR]; exact decide_eq_false (fun h => by omega)
    have f1 : decide ((d : Int) ≤ (32 : Int)) = false := decide_eq_false h1
    have t0 : decide ((1 : Int) ≤ (d : Int)) = true := decide_eq_true h0
    clear hR ENTER h0 h1
    go_enter Tryd.func21, Tryd.ntmps21
    go_wp2_with fail
    go_ret
    exact ⟨rfl, (Below.refl _ _).alloc (Nat.le_refl _) _⟩
  by_cases h2 : (1 : Int) ≤ (i : Int)
  case neg =>
    obtain rfl : R = false := by rw [← hR]; exact decide_eq_false (fun h => by omega)
    have f2 : decide ((1 : Int) ≤ (i : Int)) = false := decide_eq_false h2
    have t0 : decide ((1 : Int) ≤ (d : Int)) = true := decide_eq_true h0
    have t1 : decide ((d : Int) ≤ (32 : Int)) = true := decide_eq_true h1
    clear hR ENTER h0 h1 h2
    go_enter Tryd.func21, Tryd.ntmps21
    go_wp2_with fail
    go_ret
    exact ⟨rfl, (Below.refl _ _).alloc (Nat.le_refl _) _⟩
  by_cases h3 : (i : Int) ≤ (4096 : Int)
  case neg =>
    obtain rfl : R = false := by rw [← hR]; exact decide_eq_false (fun h => by omega)
    have f3 : decide ((i : Int) ≤ (4096 : Int)) = false := decide_eq_false h3
    have t0 : decide ((1 : Int) ≤ (d : Int)) = true := decide_eq_true h0
    have t1 : decide ((d : Int) ≤ (32 : Int)) = true := decide_eq_true h1
    have t2 : decide ((1 : Int) ≤ (i : Int)) = true := decide_eq_true h2
    clear hR ENTER h0 h1 h2 h3
    go_enter Tryd.func21, Tryd.ntmps21
    go_wp2_with fail
    go_ret
    exact ⟨rfl, (Below.refl _ _).alloc (Nat.le_refl _) _⟩
  by_cases h4 : (1 : Int) ≤ (b : Int)
  case neg =>
    obtain rfl : R = false := by rw [← hR]; exact decide_eq_false (fun h => by omega)
    have f4 : decide ((1 : Int) ≤ (b : Int)) = false := decide_eq_false h4
    have t0 : decide ((1 : Int) ≤ (d : Int)) = true := decide_eq_true h0
    have t1 : decide ((d : Int) ≤ (32 : Int)) = true := decide_eq_true h1
    have t2 : decide ((1 : Int) ≤ (i : Int)) = true := decide_eq_true h2
    have t3 : decide ((i : Int) ≤ (4096 : Int)) = true := decide_eq_true h3
    clear hR ENTER h0 h1 h2 h3 h4
    go_enter Tryd.func21, Tryd.ntmps21
    go_wp2_with fail
    go_ret
    exact ⟨rfl, (Below.refl _ _).alloc (Nat.le_refl _) _⟩
  by_cases h5 : (b : Int) ≤ (262144 : Int)
  case neg =>
    obtain rfl : R = false := by rw [← hR]; exact decide_eq_false (fun h => by omega)
    have f5 : decide ((b : Int) ≤ (262144 : Int)) = false := decide_eq_false h5
    have t0 : decide ((1 : Int) ≤ (d : Int)) = true := decide_eq_true h0
    have t1 : decide ((d : Int) ≤ (32 : Int)) = true := decide_eq_true h1
    have t2 : decide ((1 : Int) ≤ (i : Int)) = true := decide_eq_true h2
    have t3 : decide ((i : Int) ≤ (4096 : Int)) = true := decide_eq_true h3
    have t4 : decide ((1 : Int) ≤ (b : Int)) = true := decide_eq_true h4
    clear hR ENTER h0 h1 h2 h3 h4 h5
    go_enter Tryd.func21, Tryd.ntmps21
    go_wp2_with fail
    go_ret
    exact ⟨rfl, (Below.refl _ _).alloc (Nat.le_refl _) _⟩
  by_cases h6 : (1 : Int) ≤ (r : Int)
  case neg =>
    obtain rfl : R = false := by rw [← hR]; exact decide_eq_false (fun h => by omega)
    have f6 : decide ((1 : Int) ≤ (r : Int)) = false := decide_eq_false h6
    have t0 : decide ((1 : Int) ≤ (d : Int)) = true := decide_eq_true h0
    have t1 : decide ((d : Int) ≤ (32 : Int)) = true := decide_eq_true h1
    have t2 : decide ((1 : Int) ≤ (i : Int)) = true := decide_eq_true h2
    have t3 : decide ((i : Int) ≤ (4096 : Int)) = true := decide_eq_true h3
    have t4 : decide ((1 : Int) ≤ (b : Int)) = true := decide_eq_true h4
    have t5 : decide ((b : Int) ≤ (262144 : Int)) = true := decide_eq_true h5
    clear hR ENTER h0 h1 h2 h3 h4 h5 h6
    go_enter Tryd.func21, Tryd.ntmps21
    go_wp2_with fail
    go_ret
    exact ⟨rfl, (Below.refl _ _).alloc (Nat.le_refl _) _⟩
  by_cases h7 : (r : Int) ≤ (4096 : Int)
  case neg =>
    obtain rfl : R = false := by rw [← hR]; exact decide_eq_false (fun h => by omega)
    have f7 : decide ((r : Int) ≤ (4096 : Int)) = false := decide_eq_false h7
    have t0 : decide ((1 : Int) ≤ (d : Int)) = true := decide_eq_true h0
    have t1 : decide ((d : Int) ≤ (32 : Int)) = true := decide_eq_true h1
    have t2 : decide ((1 : Int) ≤ (i : Int)) = true := decide_eq_true h2
    have t3 : decide ((i : Int) ≤ (4096 : Int)) = true := decide_eq_true h3
    have t4 : decide ((1 : Int) ≤ (b : Int)) = true := decide_eq_true h4
    have t5 : decide ((b : Int) ≤ (262144 : Int)) = true := decide_eq_true h5
    have t6 : decide ((1 : Int) ≤ (r : Int)) = true := decide_eq_true h6
    clear hR ENTER h0 h1 h2 h3 h4 h5 h6 h7
    go_enter Tryd.func21, Tryd.ntmps21
    go_wp2_with fail
    go_ret
    exact ⟨rfl, (Below.refl _ _).alloc (Nat.le_refl _) _⟩
  obtain rfl : R = true := by rw [← hR]; exact decide_eq_true ⟨h0, h1, h2, h3, h4, h5, h6, h7⟩
  have t0 : decide ((1 : Int) ≤ (d : Int)) = true := decide_eq_true h0
  have t1 : decide ((d : Int) ≤ (32 : Int)) = true := decide_eq_true h1
  have t2 : decide ((1 : Int) ≤ (i : Int)) = true := decide_eq_true h2
  have t3 : decide ((i : Int) ≤ (4096 : Int)) = true := decide_eq_true h3
  have t4 : decide ((1 : Int) ≤ (b : Int)) = true := decide_eq_true h4
  have t5 : decide ((b : Int) ≤ (262144 : Int)) = true := decide_eq_true h5
  have t6 : decide ((1 : Int) ≤ (r : Int)) = true := decide_eq_true h6
  have t7 : decide ((r : Int) ≤ (4096 : Int)) = true := decide_eq_true h7
  clear hR ENTER h0 h1 h2 h3 h4 h5 h6 h7
  go_enter Tryd.func21, Tryd.ntmps21
  go_wp2_with fail
  go_ret
  exact ⟨rfl, (Below.refl _ _).alloc (Nat.le_refl _) _⟩
set_option maxRecDepth 100000 in
set_option maxHeartbeats 3200000 in
theorem rmay_any (d i b r : Int) (w : World) : Calls Tryd.prog 24 #[.agg #[.int .i64 d, .int .i64 i, .int .i64 b, .int .i64 r]] w (fun e w' => e = .returned (.bool (mayOk d i b r)) ∧ Below w.heap.size w w') := by
  obtain ⟨R, hR⟩ : ∃ R, mayOk d i b r = R := ⟨_, rfl⟩
  rw [hR]
  rw [mayOk] at hR
  have ENTER : True := trivial
  by_cases h0 : (1 : Int) ≤ (d : Int)
  case neg =>
    obtain rfl : R = false := by rw [← hR]; exact decide_eq_false (fun h => by omega)
    have f0 : decide ((1 : Int) ≤ (d : Int)) = false := decide_eq_false h0
    clear hR ENTER h0
    go_enter Tryd.func24, Tryd.ntmps24
    go_wp2_with fail
    go_ret
    exact ⟨rfl, (Below.refl _ _).alloc (Nat.le_refl _) _⟩
  by_cases h1 : (d : Int) ≤ (32 : Int)
  case neg =>
    obtain rfl : R = false := by rw [← hR]; exact decide_eq_false (fun h => by omega)
    have f1 : decide ((d : Int) ≤ (32 : Int)) = false := decide_eq_false h1
    have t0 : decide ((1 : Int) ≤ (d : Int)) = true := decide_eq_true h0
    clear hR ENTER h0 h1
    go_enter Tryd.func24, Tryd.ntmps24
    go_wp2_with fail
    go_ret
    exact ⟨rfl, (Below.refl _ _).alloc (Nat.le_refl _) _⟩
  by_cases h2 : (1 : Int) ≤ (i : Int)
  case neg =>
    obtain rfl : R = false := by rw [← hR]; exact decide_eq_false (fun h => by omega)
    have f2 : decide ((1 : Int) ≤ (i : Int)) = false := decide_eq_false h2
    have t0 : decide ((1 : Int) ≤ (d : Int)) = true := decide_eq_true h0
    have t1 : decide ((d : Int) ≤ (32 : Int)) = true := decide_eq_true h1
    clear hR ENTER h0 h1 h2
    go_enter Tryd.func24, Tryd.ntmps24
    go_wp2_with fail
    go_ret
    exact ⟨rfl, (Below.refl _ _).alloc (Nat.le_refl _) _⟩
  by_cases h3 : (i : Int) ≤ (4096 : Int)
  case neg =>
    obtain rfl : R = false := by rw [← hR]; exact decide_eq_false (fun h => by omega)
    have f3 : decide ((i : Int) ≤ (4096 : Int)) = false := decide_eq_false h3
    have t0 : decide ((1 : Int) ≤ (d : Int)) = true := decide_eq_true h0
    have t1 : decide ((d : Int) ≤ (32 : Int)) = true := decide_eq_true h1
    have t2 : decide ((1 : Int) ≤ (i : Int)) = true := decide_eq_true h2
    clear hR ENTER h0 h1 h2 h3
    go_enter Tryd.func24, Tryd.ntmps24
    go_wp2_with fail
    go_ret
    exact ⟨rfl, (Below.refl _ _).alloc (Nat.le_refl _) _⟩
  by_cases h4 : (1 : Int) ≤ (b : Int)
  case neg =>
    obtain rfl : R = false := by rw [← hR]; exact decide_eq_false (fun h => by omega)
    have f4 : decide ((1 : Int) ≤ (b : Int)) = false := decide_eq_false h4
    have t0 : decide ((1 : Int) ≤ (d : Int)) = true := decide_eq_true h0
    have t1 : decide ((d : Int) ≤ (32 : Int)) = true := decide_eq_true h1
    have t2 : decide ((1 : Int) ≤ (i : Int)) = true := decide_eq_true h2
    have t3 : decide ((i : Int) ≤ (4096 : Int)) = true := decide_eq_true h3
    clear hR ENTER h0 h1 h2 h3 h4
    go_enter Tryd.func24, Tryd.ntmps24
    go_wp2_with fail
    go_ret
    exact ⟨rfl, (Below.refl _ _).alloc (Nat.le_refl _) _⟩
  by_cases h5 : (b : Int) ≤ (262144 : Int)
  case neg =>
    obtain rfl : R = false := by rw [← hR]; exact decide_eq_false (fun h => by omega)
    have f5 : decide ((b : Int) ≤ (262144 : Int)) = false := decide_eq_false h5
    have t0 : decide ((1 : Int) ≤ (d : Int)) = true := decide_eq_true h0
    have t1 : decide ((d : Int) ≤ (32 : Int)) = true := decide_eq_true h1
    have t2 : decide ((1 : Int) ≤ (i : Int)) = true := decide_eq_true h2
    have t3 : decide ((i : Int) ≤ (4096 : Int)) = true := decide_eq_true h3
    have t4 : decide ((1 : Int) ≤ (b : Int)) = true := decide_eq_true h4
    clear hR ENTER h0 h1 h2 h3 h4 h5
    go_enter Tryd.func24, Tryd.ntmps24
    go_wp2_with fail
    go_ret
    exact ⟨rfl, (Below.refl _ _).alloc (Nat.le_refl _) _⟩
  by_cases h6 : (1 : Int) ≤ (r : Int)
  case neg =>
    obtain rfl : R = false := by rw [← hR]; exact decide_eq_false (fun h => by omega)
    have f6 : decide ((1 : Int) ≤ (r : Int)) = false := decide_eq_false h6
    have t0 : decide ((1 : Int) ≤ (d : Int)) = true := decide_eq_true h0
    have t1 : decide ((d : Int) ≤ (32 : Int)) = true := decide_eq_true h1
    have t2 : decide ((1 : Int) ≤ (i : Int)) = true := decide_eq_true h2
    have t3 : decide ((i : Int) ≤ (4096 : Int)) = true := decide_eq_true h3
    have t4 : decide ((1 : Int) ≤ (b : Int)) = true := decide_eq_true h4
    have t5 : decide ((b : Int) ≤ (262144 : Int)) = true := decide_eq_true h5
    clear hR ENTER h0 h1 h2 h3 h4 h5 h6
    go_enter Tryd.func24, Tryd.ntmps24
    go_wp2_with fail
    go_ret
    exact ⟨rfl, (Below.refl _ _).alloc (Nat.le_refl _) _⟩
  by_cases h7 : (r : Int) ≤ (4096 : Int)
  case neg =>
    obtain rfl : R = false := by rw [← hR]; exact decide_eq_false (fun h => by omega)
    have f7 : decide ((r : Int) ≤ (4096 : Int)) = false := decide_eq_false h7
    have t0 : decide ((1 : Int) ≤ (d : Int)) = true := decide_eq_true h0
    have t1 : decide ((d : Int) ≤ (32 : Int)) = true := decide_eq_true h1
    have t2 : decide ((1 : Int) ≤ (i : Int)) = true := decide_eq_true h2
    have t3 : decide ((i : Int) ≤ (4096 : Int)) = true := decide_eq_true h3
    have t4 : decide ((1 : Int) ≤ (b : Int)) = true := decide_eq_true h4
    have t5 : decide ((b : Int) ≤ (262144 : Int)) = true := decide_eq_true h5
    have t6 : decide ((1 : Int) ≤ (r : Int)) = true := decide_eq_true h6
    clear hR ENTER h0 h1 h2 h3 h4 h5 h6 h7
    go_enter Tryd.func24, Tryd.ntmps24
    go_wp2_with fail
    go_ret
    exact ⟨rfl, (Below.refl _ _).alloc (Nat.le_refl _) _⟩
  obtain rfl : R = true := by rw [← hR]; exact decide_eq_true ⟨h0, h1, h2, h3, h4, h5, h6, h7⟩
  have t0 : decide ((1 : Int) ≤ (d : Int)) = true := decide_eq_true h0
  have t1 : decide ((d : Int) ≤ (32 : Int)) = true := decide_eq_true h1
  have t2 : decide ((1 : Int) ≤ (i : Int)) = true := decide_eq_true h2
  have t3 : decide ((i : Int) ≤ (4096 : Int)) = true := decide_eq_true h3
  have t4 : decide ((1 : Int) ≤ (b : Int)) = true := decide_eq_true h4
  have t5 : decide ((b : Int) ≤ (262144 : Int)) = true := decide_eq_true h5
  have t6 : decide ((1 : Int) ≤ (r : Int)) = true := decide_eq_true h6
  have t7 : decide ((r : Int) ≤ (4096 : Int)) = true := decide_eq_true h7
  clear hR ENTER h0 h1 h2 h3 h4 h5 h6 h7
  go_enter Tryd.func24, Tryd.ntmps24
  go_wp2_with fail
  go_ret
  exact ⟨rfl, (Below.refl _ _).alloc (Nat.le_refl _) _⟩
end Go.Proofs.YteglahkgnggmgaaDoor
