/- The document's half. -/
import Derived.Test.YthofcjjllmnjbaaDoorShN
import Derived.Test.YthofcjjllmnjbaaDoorRowU
namespace Go.Proofs.YthofcjjllmnjbaaDoor
open Go.RowKit
set_option linter.unusedVariables false
set_option linter.unusedSimpArgs false
/-- a number's word number j -/
def nw (a j : Nat) : Nat := a / 2 ^ (64 * j) % 2 ^ 64
theorem nw_lt (a j : Nat) : nw a j < 2 ^ 64 := Nat.mod_lt _ (by decide)
theorem nw_even (a j : Nat) : nw a j % 4294967296 = Sh.hw a (2 * j) := by
  rw [nw, Sh.hw, show 32 * (2 * j) = 64 * j by omega, show (4294967296 : Nat) = 2 ^ 32 by decide, Nat.mod_mod_of_dvd _ (Nat.pow_dvd_pow 2 (by decide))]
theorem nw_odd (a j : Nat) : nw a j / 4294967296 = Sh.hw a (2 * j + 1) := by
  rw [nw, Sh.hw, show 32 * (2 * j + 1) = 64 * j + 32 by omega, Nat.pow_add, ← Nat.div_div_eq_div_mul, show (4294967296 : Nat) = 2 ^ 32 by decide, show (2 : Nat) ^ 64 = 2 ^ 32 * 2 ^ 32 by decide, Nat.mod_mul_right_div_self]
theorem u64_tmod (x m r : Nat) (h : x % m = r) : (x : Int).tmod (m : Int) = (r : Int) := by
  rw [Int.tmod_eq_emod_of_nonneg (by omega), ← h]
  rfl
set_option maxRecDepth 100000 in
theorem half_any (a i : Nat) (hi : i < 8) (w : World) : Calls Tryd.prog 68 #[.agg #[.int .u64 ((nw a 0 : Nat) : Int), .int .u64 ((nw a 1 : Nat) : Int), .int .u64 ((nw a 2 : Nat) : Int), .int .u64 ((nw a 3 : Nat) : Int)], .int .i64 (i : Int)] w (RetU (Sh.hw a i) w) := by
  obtain ⟨j, hj⟩ : ∃ j, i / 2 = j := ⟨_, rfl⟩
  have hj4 : j < 4 := by omega
  obtain ⟨x, hx⟩ : ∃ x, nw a j = x := ⟨_, rfl⟩
  have hc : ∀ y : World, (y.alloc (Obj.cells #[.int .u64 ((nw a 0 : Nat) : Int), .int .u64 ((nw a 1 : Nat) : Int), .int .u64 ((nw a 2 : Nat) : Int), .int .u64 ((nw a 3 : Nat) : Int)] 89)).cell? ⟨y.heap.size, j, none⟩ = some (.int .u64 (x : Int)) := fun y => by
    have h := At.ofAlloc y #[.int .u64 ((nw a 0 : Nat) : Int), .int .u64 ((nw a 1 : Nat) : Int), .int .u64 ((nw a 2 : Nat) : Int), .int .u64 ((nw a 3 : Nat) : Int)] 89
    have h2 := h.cell j (.int .u64 (x : Int)) (by
      have hjj : j = 0 ∨ j = 1 ∨ j = 2 ∨ j = 3 := by omega
      rcases hjj with rfl | rfl | rfl | rfl <;> rw [← hx] <;> rfl)
    rwa [Nat.zero_add] at h2
  have q1 : (i : Int).tdiv 2 = (j : Int) := by rw [Int.tdiv_eq_ediv_of_nonneg (by omega)]; omega
  have q2 : IntKind.i64.wrap (j : Int) = (j : Int) := by simp only [IntKind.wrap, IntKind.bits, IntKind.signed]; simp; omega
  have q3 : (j : Int) < 4 := by omega
  have q4 : (0 : Int) ≤ (j : Int) := by omega
  by_cases h2 : i % 2 = 1
  · have e1 : (i : Int).tmod 2 = 1 := by rw [Int.tmod_eq_emod_of_nonneg (by omega)]; omega
    have ho := nw_odd a j
    rw [hx, show 2 * j + 1 = i by omega] at ho
    have e2 : (x : Int) / 4294967296 = ((Sh.hw a i : Nat) : Int) := by rw [← ho]; rfl
    have HC := hc w
    clear hc hj hx ho h2 hi hj4
    go_enter Tryd.func68, Tryd.ntmps68
    go_wp2_with fail
    go_ret
    exact ⟨rfl, (Below.refl _ _).alloc (Nat.le_refl _) _⟩
  · have e1 : (i : Int).tmod 2 = 0 := by rw [Int.tmod_eq_emod_of_nonneg (by omega)]; omega
    have ho := nw_even a j
    rw [hx, show 2 * j = i by omega] at ho
    have e2 : (x : Int).tmod 4294967296 = ((Sh.hw a i : Nat) : Int) := u64_tmod x 4294967296 _ ho
    have e3 : (x : Int) % 4294967296 = ((Sh.hw a i : Nat) : Int) := by rw [← ho]; rfl
    have hl := Sh.hw_lt a i
    have e4 : IntKind.u64.wrap ((Sh.hw a i : Nat) : Int) = ((Sh.hw a i : Nat) : Int) := by simp [IntKind.wrap, IntKind.bits, IntKind.signed]; omega
    have HC := hc w
    clear hc hj hx ho h2 hi hj4 hl
    go_enter Tryd.func68, Tryd.ntmps68
    go_wp2_with fail
    go_ret
    exact ⟨rfl, (Below.refl _ _).alloc (Nat.le_refl _) _⟩
end Go.Proofs.YthofcjjllmnjbaaDoor
