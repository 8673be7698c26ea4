/- Plain words for digests: numbers of four words, half word by half word. -/
import Derived.Test.YthofcjjllmnjbaaDoorShP
namespace Go.Proofs.YthofcjjllmnjbaaDoor
open Go.RowKit
set_option linter.unusedVariables false
set_option linter.unusedSimpArgs false
namespace Sh
/-- what half words come to, the lowest first -/
def V : List Nat → Nat
  | [] => 0
  | a :: l => a + 2 ^ 32 * V l
theorem V_set : ∀ (l : List Nat) (j v : Nat), j < l.length → V (l.set j v) + l.getD j 0 * 2 ^ (32 * j) = V l + v * 2 ^ (32 * j)
  | [], _, _, h => absurd h (by simp)
  | a :: l, 0, v, _ => by simp [V]; omega
  | a :: l, j + 1, v, h => by
    have ih := V_set l j v (by simpa using h)
    simp only [List.set_cons_succ, V, List.getD_cons_succ]
    rw [show 32 * (j + 1) = 32 + 32 * j by omega, Nat.pow_add]
    have e1 : l.getD j 0 * (2 ^ 32 * 2 ^ (32 * j)) = 2 ^ 32 * (l.getD j 0 * 2 ^ (32 * j)) := by rw [Nat.mul_left_comm]
    have e2 : v * (2 ^ 32 * 2 ^ (32 * j)) = 2 ^ 32 * (v * 2 ^ (32 * j)) := by rw [Nat.mul_left_comm]
    rw [e1, e2]
    omega
theorem V_lt : ∀ (l : List Nat), (∀ x ∈ l, x < 2 ^ 32) → V l < 2 ^ (32 * l.length)
  | [], _ => by simp [V]
  | a :: l, h => by
    have ih := V_lt l fun x hx => h x (List.mem_cons_of_mem _ hx)
    have ha := h a List.mem_cons_self
    rw [V, List.length_cons, show 32 * (l.length + 1) = 32 + 32 * l.length by omega, Nat.pow_add]
    have : 2 ^ 32 * (V l + 1) ≤ 2 ^ 32 * 2 ^ (32 * l.length) := Nat.mul_le_mul_left _ ih
    omega
theorem V_rep (n : Nat) : V (List.replicate n 0) = 0 := by
  induction n with
  | zero => rfl
  | succ n ih => rw [List.replicate_succ, V, ih]
/-- the half word number k -/
def hw (a k : Nat) : Nat := a / 2 ^ (32 * k) % 2 ^ 32
theorem hw_lt (a k : Nat) : hw a k < 2 ^ 32 := Nat.mod_lt _ (by decide)
theorem hw_step (b k : Nat) : b % 2 ^ (32 * (k + 1)) = b % 2 ^ (32 * k) + hw b k * 2 ^ (32 * k) := by
  rw [show 32 * (k + 1) = 32 * k + 32 by omega, Nat.pow_add, Nat.mod_mul, hw, Nat.mul_comm (2 ^ (32 * k))]
/-- one step: the product of two half words is put in place i + k, and carried -/
theorem in_step (V0 V1 V2 o c x ha b i k : Nat) (hinv : V1 + c * 2 ^ (32 * (i + k)) = V0 + ha * 2 ^ (32 * i) * (b % 2 ^ (32 * k)))
    (hx : x = ha * hw b k + o + c) (hset : V2 + o * 2 ^ (32 * (i + k)) = V1 + (x % 2 ^ 32) * 2 ^ (32 * (i + k))) :
    V2 + x / 2 ^ 32 * 2 ^ (32 * (i + (k + 1))) = V0 + ha * 2 ^ (32 * i) * (b % 2 ^ (32 * (k + 1))) := by
  rw [hw_step, Nat.mul_add (ha * 2 ^ (32 * i)), ← Nat.add_assoc V0, ← hinv, show 32 * (i + (k + 1)) = 32 * (i + k) + 32 by omega, Nat.pow_add 2 (32 * (i + k))]
  have e1 : ha * 2 ^ (32 * i) * (hw b k * 2 ^ (32 * k)) = ha * hw b k * 2 ^ (32 * (i + k)) := by
    rw [show 32 * (i + k) = 32 * i + 32 * k by omega, Nat.pow_add]; ac_rfl
  have e2 : x / 2 ^ 32 * (2 ^ (32 * (i + k)) * 2 ^ 32) = (2 ^ 32 * (x / 2 ^ 32)) * 2 ^ (32 * (i + k)) := by ac_rfl
  have e3 : x * 2 ^ (32 * (i + k)) = (2 ^ 32 * (x / 2 ^ 32)) * 2 ^ (32 * (i + k)) + (x % 2 ^ 32) * 2 ^ (32 * (i + k)) := by
    rw [← Nat.add_mul, Nat.div_add_mod]
  have e4 : x * 2 ^ (32 * (i + k)) = ha * hw b k * 2 ^ (32 * (i + k)) + o * 2 ^ (32 * (i + k)) + c * 2 ^ (32 * (i + k)) := by rw [hx, Nat.add_mul, Nat.add_mul]
  rw [e1, e2]
  omega
/-- a row: V is the product with one more half word, cut to 256 bits -/
theorem row_end (V0 V1 c ha a b i : Nat) (hi : i ≤ 8) (hV : V1 < 2 ^ 256) (hinv : V1 + c * 2 ^ (32 * (i + (8 - i))) = V0 + ha * 2 ^ (32 * i) * (b % 2 ^ (32 * (8 - i)))) (h0 : V0 = (a % 2 ^ (32 * i)) * b % 2 ^ 256) (hh : ha = hw a i) :
    V1 = (a % 2 ^ (32 * (i + 1))) * b % 2 ^ 256 := by
  have h1 : V1 = (V0 + ha * 2 ^ (32 * i) * (b % 2 ^ (32 * (8 - i)))) % 2 ^ 256 := by
    rw [← hinv, show 32 * (i + (8 - i)) = 256 by omega, Nat.add_mul_mod_self_right, Nat.mod_eq_of_lt hV]
  have h2 : ha * 2 ^ (32 * i) * (b % 2 ^ (32 * (8 - i))) % 2 ^ 256 = ha * 2 ^ (32 * i) * b % 2 ^ 256 := by
    have e : (2 : Nat) ^ 256 = 2 ^ (32 * i) * 2 ^ (32 * (8 - i)) := by rw [← Nat.pow_add]; congr 1; omega
    rw [Nat.mul_comm ha, Nat.mul_assoc, Nat.mul_assoc, e, Nat.mul_mod_mul_left, Nat.mul_mod_mul_left, Nat.mul_mod_mod]
  rw [h1, Nat.add_mod, h2, h0, Nat.mod_mod, ← Nat.add_mod, hw_step, Nat.add_mul, hh]
/-- four words -/
def num (w : List Nat) : Nat := w.getD 0 0 + w.getD 1 0 * 2 ^ 64 + w.getD 2 0 * 2 ^ 128 + w.getD 3 0 * 2 ^ 192
def wd4 (n : Nat) : List Nat := [n % 2 ^ 64, n / 2 ^ 64 % 2 ^ 64, n / 2 ^ 128 % 2 ^ 64, n / 2 ^ 192 % 2 ^ 64]
theorem num_wd4 (n : Nat) (h : n < 2 ^ 256) : num (wd4 n) = n := by
  show n % 2 ^ 64 + n / 2 ^ 64 % 2 ^ 64 * 2 ^ 64 + n / 2 ^ 128 % 2 ^ 64 * 2 ^ 128 + n / 2 ^ 192 % 2 ^ 64 * 2 ^ 192 = n
  omega
end Sh
end Go.Proofs.YthofcjjllmnjbaaDoor
