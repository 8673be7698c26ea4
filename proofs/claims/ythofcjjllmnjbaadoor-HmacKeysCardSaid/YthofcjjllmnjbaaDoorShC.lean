/- The document's above. -/
import Derived.Test.YthofcjjllmnjbaaDoorShB
namespace Go.Proofs.YthofcjjllmnjbaaDoor
open Go.RowKit
set_option linter.unusedVariables false
set_option linter.unusedSimpArgs false
theorem nw_step (a k : Nat) : a / 2 ^ (64 * k) = 2 ^ 64 * (a / 2 ^ (64 * (k + 1))) + nw a k := by
  rw [nw, show 64 * (k + 1) = 64 * k + 64 by omega, Nat.pow_add, ← Nat.div_div_eq_div_mul, Nat.div_add_mod]
theorem nw_top (a : Nat) (h : a < 2 ^ 256) : a / 2 ^ (64 * 4) = 0 := Nat.div_eq_of_lt h
theorem nw_dec (a b k : Nat) (he : a / 2 ^ (64 * (k + 1)) = b / 2 ^ (64 * (k + 1))) (hne : nw a k ≠ nw b k) : decide (nw b k < nw a k) = decide (b < a) := by
  have h1 := nw_step a k
  have h2 := nw_step b k
  rw [he] at h1
  rw [decide_eq_decide]
  have hlt : nw b k < nw a k ↔ b / 2 ^ (64 * k) < a / 2 ^ (64 * k) := by omega
  have hne2 : b / 2 ^ (64 * k) ≠ a / 2 ^ (64 * k) := by omega
  rw [hlt]
  constructor
  · intro h
    exact Nat.lt_of_not_le fun hle => absurd (Nat.div_le_div_right (c := 2 ^ (64 * k)) hle) (by omega)
  · intro h
    have := Nat.div_le_div_right (c := 2 ^ (64 * k)) (Nat.le_of_lt h)
    omega
def RetBl (b : Bool) (w : World) (e : Ending) (w' : World) : Prop := e = .returned (.bool b) ∧ Below w.heap.size w w'
theorem two4 (w : World) (a b : Nat) : ∃ w0, (w.alloc (Obj.cells #[.int .u64 ((nw a 0 : Nat) : Int), .int .u64 ((nw a 1 : Nat) : Int), .int .u64 ((nw a 2 : Nat) : Int), .int .u64 ((nw a 3 : Nat) : Int)] 89)).alloc (Obj.cells #[.int .u64 ((nw b 0 : Nat) : Int), .int .u64 ((nw b 1 : Nat) : Int), .int .u64 ((nw b 2 : Nat) : Int), .int .u64 ((nw b 3 : Nat) : Int)] 89) = w0 ∧ At w0 w.heap.size 0 (ucells [nw a 0, nw a 1, nw a 2, nw a 3]) ∧ At w0 (w.heap.size + 1) 0 (ucells [nw b 0, nw b 1, nw b 2, nw b 3]) ∧ Below w.heap.size w w0 := by
  refine ⟨_, rfl, ?_, ?_, ((Below.refl _ _).alloc (Nat.le_refl _) _).alloc (by simp) _⟩
  · exact (At.ofAlloc w #[.int .u64 ((nw a 0 : Nat) : Int), .int .u64 ((nw a 1 : Nat) : Int), .int .u64 ((nw a 2 : Nat) : Int), .int .u64 ((nw a 3 : Nat) : Int)] 89).alloc _
  · have h := At.ofAlloc (w.alloc (Obj.cells #[.int .u64 ((nw a 0 : Nat) : Int), .int .u64 ((nw a 1 : Nat) : Int), .int .u64 ((nw a 2 : Nat) : Int), .int .u64 ((nw a 3 : Nat) : Int)] 89)) #[.int .u64 ((nw b 0 : Nat) : Int), .int .u64 ((nw b 1 : Nat) : Int), .int .u64 ((nw b 2 : Nat) : Int), .int .u64 ((nw b 3 : Nat) : Int)] 89
    rw [World.size_alloc] at h
    exact h
theorem nw_get (a k : Nat) (h : k < 4) : [nw a 0, nw a 1, nw a 2, nw a 3].getD k 0 = nw a k := by
  have hk : k = 0 ∨ k = 1 ∨ k = 2 ∨ k = 3 := by omega
  rcases hk with rfl | rfl | rfl | rfl <;> rfl
set_option maxRecDepth 100000 in
set_option maxHeartbeats 1600000 in
theorem above_any (a b : Nat) (ha : a < 2 ^ 256) (hb : b < 2 ^ 256) (w : World) : Calls Tryd.prog 55 #[.agg #[.int .u64 ((nw a 0 : Nat) : Int), .int .u64 ((nw a 1 : Nat) : Int), .int .u64 ((nw a 2 : Nat) : Int), .int .u64 ((nw a 3 : Nat) : Int)], .agg #[.int .u64 ((nw b 0 : Nat) : Int), .int .u64 ((nw b 1 : Nat) : Int), .int .u64 ((nw b 2 : Nat) : Int), .int .u64 ((nw b 3 : Nat) : Int)]] w (RetBl (decide (b < a)) w) := by
  have h4 : a / 2 ^ (64 * 4) = b / 2 ^ (64 * 4) := by rw [nw_top a ha, nw_top b hb]
  clear ha hb
  go_enter Tryd.func55, Tryd.ntmps55
  go_wp2_with fail
  obtain ⟨w0, hw0, hA, hB, hb0⟩ := two4 w a b
  rw [hw0]
  clear hw0
  go_loopw [5] (fun iv wr => ∃ (k : Nat) (x : Int), k ≤ 4 ∧ iv = .int .i64 x ∧ x = (k : Int) - 1 ∧ a / 2 ^ (64 * k) = b / 2 ^ (64 * k) ∧ At wr w.heap.size 0 (ucells [nw a 0, nw a 1, nw a 2, nw a 3]) ∧ At wr (w.heap.size + 1) 0 (ucells [nw b 0, nw b 1, nw b 2, nw b 3]) ∧ Below w.heap.size w wr) (fun iv _ => (intOf iv + 1).toNat)
  case atStart => exact ⟨4, 3, by omega, rfl, by omega, h4, hA, hB, hb0⟩
  case round =>
    clear hA hB hb0 h4
    obtain ⟨k, x, hk, rfl, hx, he, hA, hB, hb0⟩ := hrel
    by_cases hk0 : k = 0
    · have q0 : ¬ (0 : Int) ≤ x := by omega
      subst hk0
      have hf : decide (b < a) = false := by
        rw [decide_eq_false_iff_not]
        rw [Nat.mul_zero, Nat.pow_zero, Nat.div_one, Nat.div_one] at he
        omega
      have HFF := Lib.hid hf
      clear he hf hA hB hx
      go_wp2_with fail
      go_ret
      exact ⟨by rw [HFF.out]; rfl, hb0⟩
    · obtain ⟨j, hj⟩ : ∃ j, k = j + 1 := ⟨k - 1, by omega⟩
      subst hj
      obtain rfl : x = (j : Int) := by omega
      have q0 : (0 : Int) ≤ (j : Int) := by omega
      have q1 : (j : Int) < 4 := by omega
      obtain ⟨ca, _⟩ := hA.u j (by show j < 4; omega)
      obtain ⟨cb, _⟩ := hB.u j (by show j < 4; omega)
      rw [Nat.zero_add, nw_get a j (by omega)] at ca
      rw [Nat.zero_add, nw_get b j (by omega)] at cb
      by_cases hne : nw a j = nw b j
      · have he2 : a / 2 ^ (64 * j) = b / 2 ^ (64 * j) := by rw [nw_step a j, nw_step b j, he, hne]
        obtain ⟨v, hv⟩ : ∃ v, nw b j = v := ⟨_, rfl⟩
        rw [hne, hv] at ca
        rw [hv] at cb
        have q2 : ((v : Int) != (v : Int)) = false := by simp
        have HE := Lib.hid he2
        have HA := Lib.hid hA
        have HB := Lib.hid hB
        clear he he2 hne hv hA hB hx
        go_wp2_with fail
        go_region
        go_wp2_with fail
        go_roundw
        case rel => exact ⟨j, _, by omega, rfl, by omega, HE.out, HA.out.drew, HB.out.drew, hb0.drew⟩
        case measure => first | (simp [intOf]; done) | (simp [intOf]; omega)
      · have hd := nw_dec a b j he hne
        obtain ⟨va, hva⟩ : ∃ v, nw a j = v := ⟨_, rfl⟩
        obtain ⟨vb, hvb⟩ : ∃ v, nw b j = v := ⟨_, rfl⟩
        rw [hva] at ca hne hd
        rw [hvb] at cb hne hd
        have q2 : ((va : Int) != (vb : Int)) = true := by rw [bne_iff_ne]; omega
        have HD := Lib.hid hd
        clear he hd hne hva hvb hA hB hx
        go_wp2_with fail
        go_region
        go_wp2_with fail
        go_region
        go_wp2_with fail
        go_ret
        exact ⟨by rw [← HD.out]; rfl, hb0.drew.drew⟩
end Go.Proofs.YthofcjjllmnjbaaDoor
