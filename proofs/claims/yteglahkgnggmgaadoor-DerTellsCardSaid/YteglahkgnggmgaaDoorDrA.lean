/- Tags: both sides. -/
import Derived.Test.YteglahkgnggmgaaDoorDrP
import Derived.Test.YteglahkgnggmgaaDoorOctX
namespace Go.Proofs.YteglahkgnggmgaaDoor
open Go.RowKit
set_option linter.unusedVariables false
set_option linter.unusedSimpArgs false
def RetVal (v : Value) (w : World) (e : Ending) (w' : World) : Prop := e = .returned v ∧ w = w'
theorem and32 : ∀ n : Fin 256, n.val &&& 32 = 32 * (n.val / 32 % 2) := by decide +kernel
theorem and31 : ∀ n : Fin 256, n.val &&& 31 = n.val % 32 := by decide +kernel
theorem u8_and32 (t : Nat) (h : t < 256) : bits .and .u8 (t : Int) 32 = ((32 * (t / 32 % 2) : Nat) : Int) := by
  have := u8_and_nat t 32 (by omega) (by omega)
  rw [and32 ⟨t, h⟩] at this
  exact this
theorem u8_and31 (t : Nat) (h : t < 256) : bits .and .u8 (t : Int) 31 = ((t % 32 : Nat) : Int) := by
  have := u8_and_nat t 31 (by omega) (by omega)
  rw [and31 ⟨t, h⟩] at this
  exact this
set_option maxRecDepth 100000 in
set_option maxHeartbeats 1600000 in
theorem within_any (t i : Nat) (h : t < 256) (hi : t / 32 % 2 = i) (w : World) : Calls Tryd.prog 55 #[.int .u8 (t : Int)] w (RetVal (.bool (decide (i = 1))) w) := by
  have e := u8_and32 t h
  rw [hi] at e
  rcases (by omega : i = 0 ∨ i = 1) with rfl | rfl
  · clear hi
    go_enter Tryd.func55, Tryd.ntmps55
    go_wp2_with fail
    go_ret
    exact ⟨rfl, rfl⟩
  · clear hi
    go_enter Tryd.func55, Tryd.ntmps55
    go_wp2_with fail
    go_ret
    exact ⟨rfl, rfl⟩
set_option maxRecDepth 100000 in
set_option maxHeartbeats 6400000 in
theorem ask_any (t : Nat) (h : t < 256) (w : World) : Calls Tryd.prog 54 #[.int .u8 (t : Int)] w (RetVal (.int .i64 (Dr.tagF (t / 64) (t % 32) (t / 32 % 2))) w) := by
  obtain ⟨c, hc⟩ : ∃ c, t / 64 = c := ⟨_, rfl⟩
  obtain ⟨n, hn⟩ : ∃ n, t % 32 = n := ⟨_, rfl⟩
  obtain ⟨i, hi⟩ : ∃ i, t / 32 % 2 = i := ⟨_, rfl⟩
  have W := Lib.hid (fun w => within_any t i h hi w)
  have e31 := u8_and31 t h
  rw [hn] at e31
  rw [hc, hn, hi]
  have q1 : (t : Int) / 64 = (c : Int) := by omega
  have hn2 : n < 32 := by omega
  have hi2 : i < 2 := by omega
  have hc2 : c < 4 := by omega
  clear hc hn hi h
  rcases (by omega : c = 1 ∨ c = 3 ∨ c = 2 ∨ c = 0) with rfl | rfl | rfl | rfl
  · go_enter Tryd.func54, Tryd.ntmps54
    go_wp2_with fail
    go_ret
    exact ⟨rfl, rfl⟩
  · go_enter Tryd.func54, Tryd.ntmps54
    go_wp2_with fail
    go_ret
    exact ⟨rfl, rfl⟩
  · by_cases h31 : n = 31
    · subst h31
      go_enter Tryd.func54, Tryd.ntmps54
      go_wp2_with fail
      go_ret
      exact ⟨rfl, rfl⟩
    · have e1 : ((n : Int) == 31) = false := by rw [beq_eq_false_iff_ne]; omega
      rw [show Dr.tagF 2 n i = 0 by simp [Dr.tagF, h31]]
      go_enter Tryd.func54, Tryd.ntmps54
      go_wp2_with fail
      go_ret
      exact ⟨rfl, rfl⟩
  · by_cases h31 : n = 31
    · subst h31
      go_enter Tryd.func54, Tryd.ntmps54
      go_wp2_with fail
      go_ret
      exact ⟨rfl, rfl⟩
    rcases (by omega : i = 0 ∨ i = 1) with rfl | rfl
    all_goals
      rcases (by omega : n = 0 ∨ n = 1 ∨ n = 2 ∨ n = 3 ∨ n = 4 ∨ n = 5 ∨ n = 6 ∨ n = 7 ∨ n = 8 ∨ n = 9 ∨ n = 10 ∨ n = 11 ∨ n = 12 ∨ n = 13 ∨ n = 14 ∨ n = 15 ∨ n = 16 ∨ n = 17 ∨ n = 18 ∨ n = 19 ∨ n = 20 ∨ n = 21 ∨ n = 22 ∨ n = 23 ∨ n = 24 ∨ n = 25 ∨ n = 26 ∨ n = 27 ∨ n = 28 ∨ n = 29 ∨ n = 30) with rfl | rfl | rfl | rfl | rfl | rfl | rfl | rfl | rfl | rfl | rfl | rfl | rfl | rfl | rfl | rfl | rfl | rfl | rfl | rfl | rfl | rfl | rfl | rfl | rfl | rfl | rfl | rfl | rfl | rfl | rfl
    all_goals
      go_enter Tryd.func54, Tryd.ntmps54
      go_wp2_with (go_at_call 55; refine (W.out _).mono ?_; rintro e w1 ⟨rfl, rfl⟩)
      go_ret
      exact ⟨rfl, rfl⟩
end Go.Proofs.YteglahkgnggmgaaDoor
