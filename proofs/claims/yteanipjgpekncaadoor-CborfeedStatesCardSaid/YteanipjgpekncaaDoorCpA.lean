/- Heads of items: package item, the program's. -/
import Derived.Test.YteanipjgpekncaaDoorDrC
import Derived.Test.YteanipjgpekncaaDoorCoZ
namespace Go.Proofs.YteanipjgpekncaaDoor
open Go.RowKit
set_option linter.unusedVariables false
set_option linter.unusedSimpArgs false
namespace Co
open Dr (Rs Lm has lack at0S)
/-- what is wrong with a first byte, by its number -/
def hdE (c n : Nat) : Int := if 27 < n then 9 else if c = 7 ∧ (n < 20 ∨ 23 < n) then 11 else 0
def hdW (n : Nat) : Nat := if n < 24 then 0 else 2 ^ (n - 24)
theorem headE_eq (t : UInt8) : headE t = hdE (t.toNat / 32) (t.toNat % 32) := rfl
theorem widT_eq (t : UInt8) : widT t = hdW (t.toNat % 32) := rfl
set_option maxRecDepth 100000 in
theorem kind_any (t c : Nat) (h : t < 256) (hc : t / 32 = c) (w : World) : Calls Tryd.prog 66 #[.int .u8 (t : Int)] w (RetVal (.int .i64 (c : Int)) w) := by
  have q1 : (t : Int) / 32 = (c : Int) := by omega
  have hc2 : (c : Int) < 8 := by omega
  clear hc
  go_enter Tryd.func66, Tryd.ntmps66
  go_wp2_with fail
  go_ret
  exact ⟨rfl, rfl⟩
def RetWE (z : Nat) (c : Int) (w : World) (e : Ending) (w' : World) : Prop := e = .returned (.tuple #[.int .i64 (z : Int), .int .i64 c]) ∧ w = w'
set_option maxRecDepth 100000 in
set_option maxHeartbeats 6400000 in
theorem cask_any (t c n : Nat) (h : t < 256) (hc : t / 32 = c) (hn : t % 32 = n) (w : World) : Calls Tryd.prog 82 #[.int .u8 (t : Int)] w (RetWE (if hdE c n = 0 then hdW n else 0) (hdE c n) w) := by
  have KI := Lib.hid (fun w => kind_any t c h hc w)
  have e31 := u8_and31 t h
  rw [hn] at e31
  have hn2 : n < 32 := by omega
  have hc2 : c < 8 := by omega
  obtain ⟨E, hE⟩ : ∃ E, hdE c n = E := ⟨_, rfl⟩
  obtain ⟨W, hW⟩ : ∃ W, (if hdE c n = 0 then hdW n else 0) = W := ⟨_, rfl⟩
  rw [hW]
  rw [hE]
  rw [hE] at hW
  clear hc hn h
  by_cases h27 : 27 < n
  · have e1 : (27 : Int) < (n : Int) := by omega
    obtain rfl : E = 9 := by rw [← hE, hdE, if_pos h27]
    obtain rfl : W = 0 := by rw [← hW]; rfl
    clear hE hW h27 hn2
    go_enter Tryd.func82, Tryd.ntmps82
    go_wp2_with fail
    go_ret2
    exact ⟨rfl, rfl⟩
  · have e1 : ¬ (27 : Int) < (n : Int) := by omega
    have e1b : decide ((27 : Int) < (n : Int)) = false := decide_eq_false e1
    by_cases h7 : c = 7
    · subst h7
      by_cases hs : n < 20
      · have e2 : (n : Int) < 20 := by omega
        obtain rfl : E = 11 := by rw [← hE, hdE, if_neg h27, if_pos ⟨rfl, .inl hs⟩]
        obtain rfl : W = 0 := by rw [← hW]; rfl
        clear hE hW h27 hs hn2
        go_enter Tryd.func82, Tryd.ntmps82
        go_wp2_with (go_at_call 66; refine (KI.out _).mono ?_; rintro e w1 ⟨rfl, rfl⟩)
        go_ret2
        exact ⟨rfl, rfl⟩
      · have e2 : ¬ (n : Int) < 20 := by omega
        have e2b : decide ((n : Int) < 20) = false := decide_eq_false e2
        by_cases h23 : 23 < n
        · have e3 : (23 : Int) < (n : Int) := by omega
          obtain rfl : E = 11 := by rw [← hE, hdE, if_neg h27, if_pos ⟨rfl, .inr h23⟩]
          obtain rfl : W = 0 := by rw [← hW]; rfl
          clear hE hW h27 hs h23 hn2
          go_enter Tryd.func82, Tryd.ntmps82
          go_wp2_with (go_at_call 66; refine (KI.out _).mono ?_; rintro e w1 ⟨rfl, rfl⟩)
          go_ret2
          exact ⟨rfl, rfl⟩
        · have e3 : ¬ (23 : Int) < (n : Int) := by omega
          have e3b : decide ((23 : Int) < (n : Int)) = false := decide_eq_false e3
          have e4 : (n : Int) < 24 := by omega
          obtain rfl : E = 0 := by rw [← hE, hdE, if_neg h27, if_neg (by omega)]
          obtain rfl : W = 0 := by rw [← hW, if_pos rfl, hdW, if_pos (by omega)]
          clear hE hW h27 hs h23 hn2
          go_enter Tryd.func82, Tryd.ntmps82
          go_wp2_with (go_at_call 66; refine (KI.out _).mono ?_; rintro e w1 ⟨rfl, rfl⟩)
          go_ret2
          exact ⟨rfl, rfl⟩
    · have e2 : ((c : Int) == 7) = false := by rw [beq_eq_false_iff_ne]; omega
      obtain rfl : E = 0 := by rw [← hE, hdE, if_neg h27, if_neg (by omega)]
      rw [if_pos rfl] at hW
      by_cases h24 : n < 24
      · have e4 : (n : Int) < 24 := by omega
        obtain rfl : W = 0 := by rw [← hW, hdW, if_pos (by omega)]
        clear hE hW h27 h24 hn2 h7
        go_enter Tryd.func82, Tryd.ntmps82
        go_wp2_with (go_at_call 66; refine (KI.out _).mono ?_; rintro e w1 ⟨rfl, rfl⟩)
        go_ret2
        exact ⟨rfl, rfl⟩
      · rcases (by omega : n = 24 ∨ n = 25 ∨ n = 26 ∨ n = 27) with rfl | rfl | rfl | rfl
        all_goals
          rw [hdW, if_neg (by decide)] at hW
          subst hW
          clear hE h27 h24 hn2 h7
          go_enter Tryd.func82, Tryd.ntmps82
          go_wp2_with (go_at_call 66; refine (KI.out _).mono ?_; rintro e w1 ⟨rfl, rfl⟩)
          go_ret2
          exact ⟨rfl, rfl⟩
theorem div_ne (n k : Nat) (hk : 0 < k) (z : Nat) (h : n / k = z) : (!((z : Int) == 0)) = decide (k ≤ n) := by
  by_cases h1 : k ≤ n
  · have : 1 ≤ n / k := (Nat.one_le_div_iff hk).2 h1
    rw [decide_eq_true h1, show ((z : Int) == 0) = false by rw [beq_eq_false_iff_ne]; omega]
    rfl
  · have : n / k = 0 := Nat.div_eq_of_lt (by omega)
    rw [decide_eq_false h1, show ((z : Int) == 0) = true by rw [beq_iff_eq]; omega]
    rfl
set_option maxRecDepth 100000 in
set_option maxHeartbeats 1600000 in
theorem short_any (k n : Nat) (hk : k = 0 ∨ k = 1 ∨ k = 2 ∨ k = 4 ∨ k = 8) (hn : n < 18446744073709551616) (w : World) : Calls Tryd.prog 83 #[.int .i64 (k : Int), .int .u64 (n : Int)] w (RetVal (.bool (short k n)) w) := by
  obtain ⟨R, hR⟩ : ∃ R, short k n = R := ⟨_, rfl⟩
  rw [hR]
  rcases hk with rfl | rfl | rfl | rfl | rfl
  · obtain rfl : R = true := by rw [← hR]; rfl
    clear hR
    go_enter Tryd.func83, Tryd.ntmps83
    go_wp2_with fail
    go_ret
    exact ⟨rfl, rfl⟩
  · have e1 : decide ((24 : Int) ≤ (n : Int)) = R := by rw [← hR, short, if_neg (by decide), if_pos rfl]; exact decide_eq_decide.2 (by omega)
    clear hR
    go_enter Tryd.func83, Tryd.ntmps83
    go_wp2_with fail
    go_ret
    exact ⟨by rw [← e1]; first | rfl | simp, rfl⟩
  · obtain ⟨z, hz⟩ : ∃ z, n / 256 = z := ⟨_, rfl⟩
    have e0 := div_ne n 256 (by decide) z hz
    have e1 : (n : Int) / 256 = (z : Int) := by omega
    have e2 : (!((z : Int) == 0)) = R := by rw [e0, ← hR]; rfl
    clear hR hz e0
    go_enter Tryd.func83, Tryd.ntmps83
    go_wp2_with fail
    go_ret
    exact ⟨by rw [← e2]; first | rfl | simp, rfl⟩
  · obtain ⟨z, hz⟩ : ∃ z, n / 65536 = z := ⟨_, rfl⟩
    have e0 := div_ne n 65536 (by decide) z hz
    have e1 : (n : Int) / 65536 = (z : Int) := by omega
    have e2 : (!((z : Int) == 0)) = R := by rw [e0, ← hR]; rfl
    clear hR hz e0
    go_enter Tryd.func83, Tryd.ntmps83
    go_wp2_with fail
    go_ret
    exact ⟨by rw [← e2]; first | rfl | simp, rfl⟩
  · obtain ⟨z, hz⟩ : ∃ z, n / 4294967296 = z := ⟨_, rfl⟩
    have e0 := div_ne n 4294967296 (by decide) z hz
    have e1 : (n : Int) / 4294967296 = (z : Int) := by omega
    have e2 : (!((z : Int) == 0)) = R := by rw [e0, ← hR]; rfl
    clear hR hz e0
    go_enter Tryd.func83, Tryd.ntmps83
    go_wp2_with fail
    go_ret
    exact ⟨by rw [← e2]; first | rfl | simp, rfl⟩
set_option maxRecDepth 100000 in
theorem holds_any (k : Nat) (w : World) : Calls Tryd.prog 57 #[.int .i64 (k : Int)] w (RetVal (.bool (holds k)) w) := by
  rcases (by omega : k = 4 ∨ k = 5 ∨ k = 6 ∨ (k ≠ 4 ∧ k ≠ 5 ∧ k ≠ 6)) with rfl | rfl | rfl | h
  · go_enter Tryd.func57, Tryd.ntmps57
    go_wp2_with fail
    go_ret
    exact ⟨rfl, rfl⟩
  · go_enter Tryd.func57, Tryd.ntmps57
    go_wp2_with fail
    go_ret
    exact ⟨rfl, rfl⟩
  · go_enter Tryd.func57, Tryd.ntmps57
    go_wp2_with fail
    go_ret
    exact ⟨rfl, rfl⟩
  · have e4 : ((k : Int) == 4) = false := by rw [beq_eq_false_iff_ne]; omega
    have e5 : ((k : Int) == 5) = false := by rw [beq_eq_false_iff_ne]; omega
    have e6 : ((k : Int) == 6) = false := by rw [beq_eq_false_iff_ne]; omega
    rw [show holds k = false from decide_eq_false (by omega)]
    clear h
    go_enter Tryd.func57, Tryd.ntmps57
    go_wp2_with fail
    go_ret
    exact ⟨rfl, rfl⟩
set_option maxRecDepth 100000 in
theorem lesser_any (a b : Nat) (w : World) : Calls Tryd.prog 67 #[.int .u64 (a : Int), .int .u64 (b : Int)] w (RetVal (.int .u64 ((min a b : Nat) : Int)) w) := by
  by_cases h : a < b
  · have e1 : (a : Int) < (b : Int) := by omega
    rw [Nat.min_eq_left (by omega)]
    clear h
    go_enter Tryd.func67, Tryd.ntmps67
    go_wp2_with fail
    go_ret
    exact ⟨rfl, rfl⟩
  · have e1 : ¬ (a : Int) < (b : Int) := by omega
    rw [Nat.min_eq_right (by omega)]
    clear h
    go_enter Tryd.func67, Tryd.ntmps67
    go_wp2_with fail
    go_ret
    exact ⟨rfl, rfl⟩
/-- a frame's cells -/
def hv (f : Fr) : List Value := [.int .i64 (f.p0 : Int), .int .u64 (f.left : Int), .bool f.pairs, .bool f.value, .bool f.keys, .string ⟨f.last.toArray⟩]
theorem hv_length (f : Fr) : (hv f).length = 6 := rfl
set_option maxRecDepth 100000 in
set_option maxHeartbeats 1600000 in
theorem hold_any (p k n : Nat) (w : World) : Calls Tryd.prog 58 #[.int .i64 (p : Int), .int .i64 (k : Int), .int .u64 (n : Int)] w (fun e w' => e = .returned (.agg #[.int .i64 (p : Int), .int .u64 ((if k = 6 then 1 else n : Nat) : Int), .bool (decide (k = 5)), .bool false, .bool false, .string ByteArray.empty]) ∧ Below w.heap.size w w') := by
  by_cases h6 : k = 6
  · subst h6
    rw [if_pos rfl]
    go_enter Tryd.func58, Tryd.ntmps58
    go_wp2_with fail
    have hA := At.ofAlloc w #[.int .i64 (p : Int), .int .u64 1, .bool false, .bool false, .bool false, .string ByteArray.empty] 89
    refine bodyPost_ret (results_at rfl _ w.heap.size _ _ rfl hA Tryd.underlying89 rfl (by kernel_rfl)) rfl ?_
    exact ⟨rfl, (Below.refl _ _).alloc (Nat.le_refl _) _⟩
  · rw [if_neg h6]
    have e6 : ((k : Int) == 6) = false := by rw [beq_eq_false_iff_ne]; omega
    by_cases h5 : k = 5
    · subst h5
      clear h6
      go_enter Tryd.func58, Tryd.ntmps58
      go_wp2_with fail
      have hA := At.ofAlloc w #[.int .i64 (p : Int), .int .u64 (n : Int), .bool true, .bool false, .bool false, .string ByteArray.empty] 89
      refine bodyPost_ret (results_at rfl _ w.heap.size _ _ rfl hA Tryd.underlying89 rfl (by kernel_rfl)) rfl ?_
      exact ⟨rfl, (Below.refl _ _).alloc (Nat.le_refl _) _⟩
    · have e5 : ((k : Int) == 5) = false := by rw [beq_eq_false_iff_ne]; omega
      rw [decide_eq_false h5]
      clear h6 h5
      go_enter Tryd.func58, Tryd.ntmps58
      go_wp2_with fail
      have hA := At.ofAlloc w #[.int .i64 (p : Int), .int .u64 (n : Int), .bool false, .bool false, .bool false, .string ByteArray.empty] 89
      refine bodyPost_ret (results_at rfl _ w.heap.size _ _ rfl hA Tryd.underlying89 rfl (by kernel_rfl)) rfl ?_
      exact ⟨rfl, (Below.refl _ _).alloc (Nat.le_refl _) _⟩
end Co
end Go.Proofs.YteanipjgpekncaaDoor
