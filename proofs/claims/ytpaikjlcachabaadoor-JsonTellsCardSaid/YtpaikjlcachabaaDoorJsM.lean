/- Limits: those that may be; the greatest; in memory. -/
import Derived.Test.YtpaikjlcachabaaDoorJsV
namespace Go.Proofs.YtpaikjlcachabaaDoor
open Go.RowKit
set_option linter.unusedVariables false
set_option linter.unusedSimpArgs false
namespace Js
open Dr (Rs Lm has lack)
def mayOk (d i b r : Int) : Bool := decide (1 ≤ d ∧ d ≤ 32 ∧ 1 ≤ i ∧ i ≤ 4096 ∧ 1 ≤ b ∧ b ≤ 262144 ∧ 1 ≤ r ∧ r ≤ 4096)
theorem mayOk_yes {d i b r : Int} (h : mayOk d i b r = true) : 1 ≤ d ∧ d ≤ 32 ∧ 1 ≤ i ∧ i ≤ 4096 ∧ 1 ≤ b ∧ b ≤ 262144 ∧ 1 ≤ r ∧ r ≤ 4096 := by rw [mayOk, decide_eq_true_iff] at h; exact h
structure HBool (p : Bool) (b : Bool) : Prop where
  out : p = b
set_option maxRecDepth 100000 in
set_option maxHeartbeats 3200000 in
theorem may_any (d i b r : Int) (w : World) : Calls Tryd.prog 18 #[.agg #[.int .i64 d, .int .i64 i, .int .i64 b, .int .i64 r]] w (fun e w' => e = .returned (.bool (mayOk d i b r)) ∧ Below w.heap.size w w') := by
  obtain ⟨R, hR⟩ : ∃ R, mayOk d i b r = R := ⟨_, rfl⟩
  rw [hR]
  rw [mayOk] at hR
  have ENTER : True := trivial
  by_cases h0 : (1 : Int) ≤ (d : Int)
  case neg =>
    obtain rfl : R = false := by rw [← hR]; exact decide_eq_false (fun h => by omega)
    have f0 : decide ((1 : Int) ≤ (d : Int)) = false := decide_eq_false h0
    clear hR ENTER h0
    go_enter Tryd.func18, Tryd.ntmps18
    go_wp2_with fail
    go_ret
    exact ⟨rfl, (Below.refl _ _).alloc (Nat.le_refl _) _⟩
  by_cases h1 : (d : Int) ≤ (32 : Int)
  case neg =>
    obtain rfl : R = false := by rw [← hR]; exact decide_eq_false (fun h => by omega)
    have f1 : decide ((d : Int) ≤ (32 : Int)) = false := decide_eq_false h1
    have t0 : decide ((1 : Int) ≤ (d : Int)) = true := decide_eq_true h0
    clear hR ENTER h0 h1
    go_enter Tryd.func18, Tryd.ntmps18
    go_wp2_with fail
    go_ret
    exact ⟨rfl, (Below.refl _ _).alloc (Nat.le_refl _) _⟩
  by_cases h2 : (1 : Int) ≤ (i : Int)
  case neg =>
    obtain rfl : R = false := by rw [← hR]; exact decide_eq_false (fun h => by omega)
    have f2 : decide ((1 : Int) ≤ (i : Int)) = false := decide_eq_false h2
    have t0 : decide ((1 : Int) ≤ (d : Int)) = true := decide_eq_true h0
    have t1 : decide ((d : Int) ≤ (32 : Int)) = true := decide_eq_true h1
    clear hR ENTER h0 h1 h2
    go_enter Tryd.func18, Tryd.ntmps18
    go_wp2_with fail
    go_ret
    exact ⟨rfl, (Below.refl _ _).alloc (Nat.le_refl _) _⟩
  by_cases h3 : (i : Int) ≤ (4096 : Int)
  case neg =>
    obtain rfl : R = false := by rw [← hR]; exact decide_eq_false (fun h => by omega)
    have f3 : decide ((i : Int) ≤ (4096 : Int)) = false := decide_eq_false h3
    have t0 : decide ((1 : Int) ≤ (d : Int)) = true := decide_eq_true h0
    have t1 : decide ((d : Int) ≤ (32 : Int)) = true := decide_eq_true h1
    have t2 : decide ((1 : Int) ≤ (i : Int)) = true := decide_eq_true h2
    clear hR ENTER h0 h1 h2 h3
    go_enter Tryd.func18, Tryd.ntmps18
    go_wp2_with fail
    go_ret
    exact ⟨rfl, (Below.refl _ _).alloc (Nat.le_refl _) _⟩
  by_cases h4 : (1 : Int) ≤ (b : Int)
  case neg =>
    obtain rfl : R = false := by rw [← hR]; exact decide_eq_false (fun h => by omega)
    have f4 : decide ((1 : Int) ≤ (b : Int)) = false := decide_eq_false h4
    have t0 : decide ((1 : Int) ≤ (d : Int)) = true := decide_eq_true h0
    have t1 : decide ((d : Int) ≤ (32 : Int)) = true := decide_eq_true h1
    have t2 : decide ((1 : Int) ≤ (i : Int)) = true := decide_eq_true h2
    have t3 : decide ((i : Int) ≤ (4096 : Int)) = true := decide_eq_true h3
    clear hR ENTER h0 h1 h2 h3 h4
    go_enter Tryd.func18, Tryd.ntmps18
    go_wp2_with fail
    go_ret
    exact ⟨rfl, (Below.refl _ _).alloc (Nat.le_refl _) _⟩
  by_cases h5 : (b : Int) ≤ (262144 : Int)
  case neg =>
    obtain rfl : R = false := by rw [← hR]; exact decide_eq_false (fun h => by omega)
    have f5 : decide ((b : Int) ≤ (262144 : Int)) = false := decide_eq_false h5
    have t0 : decide ((1 : Int) ≤ (d : Int)) = true := decide_eq_true h0
    have t1 : decide ((d : Int) ≤ (32 : Int)) = true := decide_eq_true h1
    have t2 : decide ((1 : Int) ≤ (i : Int)) = true := decide_eq_true h2
    have t3 : decide ((i : Int) ≤ (4096 : Int)) = true := decide_eq_true h3
    have t4 : decide ((1 : Int) ≤ (b : Int)) = true := decide_eq_true h4
    clear hR ENTER h0 h1 h2 h3 h4 h5
    go_enter Tryd.func18, Tryd.ntmps18
    go_wp2_with fail
    go_ret
    exact ⟨rfl, (Below.refl _ _).alloc (Nat.le_refl _) _⟩
  by_cases h6 : (1 : Int) ≤ (r : Int)
  case neg =>
    obtain rfl : R = false := by rw [← hR]; exact decide_eq_false (fun h => by omega)
    have f6 : decide ((1 : Int) ≤ (r : Int)) = false := decide_eq_false h6
    have t0 : decide ((1 : Int) ≤ (d : Int)) = true := decide_eq_true h0
    have t1 : decide ((d : Int) ≤ (32 : Int)) = true := decide_eq_true h1
    have t2 : decide ((1 : Int) ≤ (i : Int)) = true := decide_eq_true h2
    have t3 : decide ((i : Int) ≤ (4096 : Int)) = true := decide_eq_true h3
    have t4 : decide ((1 : Int) ≤ (b : Int)) = true := decide_eq_true h4
    have t5 : decide ((b : Int) ≤ (262144 : Int)) = true := decide_eq_true h5
    clear hR ENTER h0 h1 h2 h3 h4 h5 h6
    go_enter Tryd.func18, Tryd.ntmps18
    go_wp2_with fail
    go_ret
    exact ⟨rfl, (Below.refl _ _).alloc (Nat.le_refl _) _⟩
  by_cases h7 : (r : Int) ≤ (4096 : Int)
  case neg =>
    obtain rfl : R = false := by rw [← hR]; exact decide_eq_false (fun h => by omega)
    have f7 : decide ((r : Int) ≤ (4096 : Int)) = false := decide_eq_false h7
    have t0 : decide ((1 : Int) ≤ (d : Int)) = true := decide_eq_true h0
    have t1 : decide ((d : Int) ≤ (32 : Int)) = true := decide_eq_true h1
    have t2 : decide ((1 : Int) ≤ (i : Int)) = true := decide_eq_true h2
    have t3 : decide ((i : Int) ≤ (4096 : Int)) = true := decide_eq_true h3
    have t4 : decide ((1 : Int) ≤ (b : Int)) = true := decide_eq_true h4
    have t5 : decide ((b : Int) ≤ (262144 : Int)) = true := decide_eq_true h5
    have t6 : decide ((1 : Int) ≤ (r : Int)) = true := decide_eq_true h6
    clear hR ENTER h0 h1 h2 h3 h4 h5 h6 h7
    go_enter Tryd.func18, Tryd.ntmps18
    go_wp2_with fail
    go_ret
    exact ⟨rfl, (Below.refl _ _).alloc (Nat.le_refl _) _⟩
  obtain rfl : R = true := by rw [← hR]; exact decide_eq_true ⟨h0, h1, h2, h3, h4, h5, h6, h7⟩
  have t0 : decide ((1 : Int) ≤ (d : Int)) = true := decide_eq_true h0
  have t1 : decide ((d : Int) ≤ (32 : Int)) = true := decide_eq_true h1
  have t2 : decide ((1 : Int) ≤ (i : Int)) = true := decide_eq_true h2
  have t3 : decide ((i : Int) ≤ (4096 : Int)) = true := decide_eq_true h3
  have t4 : decide ((1 : Int) ≤ (b : Int)) = true := decide_eq_true h4
  have t5 : decide ((b : Int) ≤ (262144 : Int)) = true := decide_eq_true h5
  have t6 : decide ((1 : Int) ≤ (r : Int)) = true := decide_eq_true h6
  have t7 : decide ((r : Int) ≤ (4096 : Int)) = true := decide_eq_true h7
  clear hR ENTER h0 h1 h2 h3 h4 h5 h6 h7
  go_enter Tryd.func18, Tryd.ntmps18
  go_wp2_with fail
  go_ret
  exact ⟨rfl, (Below.refl _ _).alloc (Nat.le_refl _) _⟩
set_option maxRecDepth 100000 in
set_option maxHeartbeats 3200000 in
theorem rmay_any (d i b r : Int) (w : World) : Calls Tryd.prog 17 #[.agg #[.int .i64 d, .int .i64 i, .int .i64 b, .int .i64 r]] w (fun e w' => e = .returned (.bool (mayOk d i b r)) ∧ Below w.heap.size w w') := by
  obtain ⟨R, hR⟩ : ∃ R, mayOk d i b r = R := ⟨_, rfl⟩
  rw [hR]
  rw [mayOk] at hR
  have ENTER : True := trivial
  by_cases h0 : (1 : Int) ≤ (d : Int)
  case neg =>
    obtain rfl : R = false := by rw [← hR]; exact decide_eq_false (fun h => by omega)
    have f0 : decide ((1 : Int) ≤ (d : Int)) = false := decide_eq_false h0
    clear hR ENTER h0
    go_enter Tryd.func17, Tryd.ntmps17
    go_wp2_with fail
    go_ret
    exact ⟨rfl, (Below.refl _ _).alloc (Nat.le_refl _) _⟩
  by_cases h1 : (d : Int) ≤ (32 : Int)
  case neg =>
    obtain rfl : R = false := by rw [← hR]; exact decide_eq_false (fun h => by omega)
    have f1 : decide ((d : Int) ≤ (32 : Int)) = false := decide_eq_false h1
    have t0 : decide ((1 : Int) ≤ (d : Int)) = true := decide_eq_true h0
    clear hR ENTER h0 h1
    go_enter Tryd.func17, Tryd.ntmps17
    go_wp2_with fail
    go_ret
    exact ⟨rfl, (Below.refl _ _).alloc (Nat.le_refl _) _⟩
  by_cases h2 : (1 : Int) ≤ (i : Int)
  case neg =>
    obtain rfl : R = false := by rw [← hR]; exact decide_eq_false (fun h => by omega)
    have f2 : decide ((1 : Int) ≤ (i : Int)) = false := decide_eq_false h2
    have t0 : decide ((1 : Int) ≤ (d : Int)) = true := decide_eq_true h0
    have t1 : decide ((d : Int) ≤ (32 : Int)) = true := decide_eq_true h1
    clear hR ENTER h0 h1 h2
    go_enter Tryd.func17, Tryd.ntmps17
    go_wp2_with fail
    go_ret
    exact ⟨rfl, (Below.refl _ _).alloc (Nat.le_refl _) _⟩
  by_cases h3 : (i : Int) ≤ (4096 : Int)
  case neg =>
    obtain rfl : R = false := by rw [← hR]; exact decide_eq_false (fun h => by omega)
    have f3 : decide ((i : Int) ≤ (4096 : Int)) = false := decide_eq_false h3
    have t0 : decide ((1 : Int) ≤ (d : Int)) = true := decide_eq_true h0
    have t1 : decide ((d : Int) ≤ (32 : Int)) = true := decide_eq_true h1
    have t2 : decide ((1 : Int) ≤ (i : Int)) = true := decide_eq_true h2
    clear hR ENTER h0 h1 h2 h3
    go_enter Tryd.func17, Tryd.ntmps17
    go_wp2_with fail
    go_ret
    exact ⟨rfl, (Below.refl _ _).alloc (Nat.le_refl _) _⟩
  by_cases h4 : (1 : Int) ≤ (b : Int)
  case neg =>
    obtain rfl : R = false := by rw [← hR]; exact decide_eq_false (fun h => by omega)
    have f4 : decide ((1 : Int) ≤ (b : Int)) = false := decide_eq_false h4
    have t0 : decide ((1 : Int) ≤ (d : Int)) = true := decide_eq_true h0
    have t1 : decide ((d : Int) ≤ (32 : Int)) = true := decide_eq_true h1
    have t2 : decide ((1 : Int) ≤ (i : Int)) = true := decide_eq_true h2
    have t3 : decide ((i : Int) ≤ (4096 : Int)) = true := decide_eq_true h3
    clear hR ENTER h0 h1 h2 h3 h4
    go_enter Tryd.func17, Tryd.ntmps17
    go_wp2_with fail
    go_ret
    exact ⟨rfl, (Below.refl _ _).alloc (Nat.le_refl _) _⟩
  by_cases h5 : (b : Int) ≤ (262144 : Int)
  case neg =>
    obtain rfl : R = false := by rw [← hR]; exact decide_eq_false (fun h => by omega)
    have f5 : decide ((b : Int) ≤ (262144 : Int)) = false := decide_eq_false h5
    have t0 : decide ((1 : Int) ≤ (d : Int)) = true := decide_eq_true h0
    have t1 : decide ((d : Int) ≤ (32 : Int)) = true := decide_eq_true h1
    have t2 : decide ((1 : Int) ≤ (i : Int)) = true := decide_eq_true h2
    have t3 : decide ((i : Int) ≤ (4096 : Int)) = true := decide_eq_true h3
    have t4 : decide ((1 : Int) ≤ (b : Int)) = true := decide_eq_true h4
    clear hR ENTER h0 h1 h2 h3 h4 h5
    go_enter Tryd.func17, Tryd.ntmps17
    go_wp2_with fail
    go_ret
    exact ⟨rfl, (Below.refl _ _).alloc (Nat.le_refl _) _⟩
  by_cases h6 : (1 : Int) ≤ (r : Int)
  case neg =>
    obtain rfl : R = false := by rw [← hR]; exact decide_eq_false (fun h => by omega)
    have f6 : decide ((1 : Int) ≤ (r : Int)) = false := decide_eq_false h6
    have t0 : decide ((1 : Int) ≤ (d : Int)) = true := decide_eq_true h0
    have t1 : decide ((d : Int) ≤ (32 : Int)) = true := decide_eq_true h1
    have t2 : decide ((1 : Int) ≤ (i : Int)) = true := decide_eq_true h2
    have t3 : decide ((i : Int) ≤ (4096 : Int)) = true := decide_eq_true h3
    have t4 : decide ((1 : Int) ≤ (b : Int)) = true := decide_eq_true h4
    have t5 : decide ((b : Int) ≤ (262144 : Int)) = true := decide_eq_true h5
    clear hR ENTER h0 h1 h2 h3 h4 h5 h6
    go_enter Tryd.func17, Tryd.ntmps17
    go_wp2_with fail
    go_ret
    exact ⟨rfl, (Below.refl _ _).alloc (Nat.le_refl _) _⟩
  by_cases h7 : (r : Int) ≤ (4096 : Int)
  case neg =>
    obtain rfl : R = false := by rw [← hR]; exact decide_eq_false (fun h => by omega)
    have f7 : decide ((r : Int) ≤ (4096 : Int)) = false := decide_eq_false h7
    have t0 : decide ((1 : Int) ≤ (d : Int)) = true := decide_eq_true h0
    have t1 : decide ((d : Int) ≤ (32 : Int)) = true := decide_eq_true h1
    have t2 : decide ((1 : Int) ≤ (i : Int)) = true := decide_eq_true h2
    have t3 : decide ((i : Int) ≤ (4096 : Int)) = true := decide_eq_true h3
    have t4 : decide ((1 : Int) ≤ (b : Int)) = true := decide_eq_true h4
    have t5 : decide ((b : Int) ≤ (262144 : Int)) = true := decide_eq_true h5
    have t6 : decide ((1 : Int) ≤ (r : Int)) = true := decide_eq_true h6
    clear hR ENTER h0 h1 h2 h3 h4 h5 h6 h7
    go_enter Tryd.func17, Tryd.ntmps17
    go_wp2_with fail
    go_ret
    exact ⟨rfl, (Below.refl _ _).alloc (Nat.le_refl _) _⟩
  obtain rfl : R = true := by rw [← hR]; exact decide_eq_true ⟨h0, h1, h2, h3, h4, h5, h6, h7⟩
  have t0 : decide ((1 : Int) ≤ (d : Int)) = true := decide_eq_true h0
  have t1 : decide ((d : Int) ≤ (32 : Int)) = true := decide_eq_true h1
  have t2 : decide ((1 : Int) ≤ (i : Int)) = true := decide_eq_true h2
  have t3 : decide ((i : Int) ≤ (4096 : Int)) = true := decide_eq_true h3
  have t4 : decide ((1 : Int) ≤ (b : Int)) = true := decide_eq_true h4
  have t5 : decide ((b : Int) ≤ (262144 : Int)) = true := decide_eq_true h5
  have t6 : decide ((1 : Int) ≤ (r : Int)) = true := decide_eq_true h6
  have t7 : decide ((r : Int) ≤ (4096 : Int)) = true := decide_eq_true h7
  clear hR ENTER h0 h1 h2 h3 h4 h5 h6 h7
  go_enter Tryd.func17, Tryd.ntmps17
  go_wp2_with fail
  go_ret
  exact ⟨rfl, (Below.refl _ _).alloc (Nat.le_refl _) _⟩

set_option maxRecDepth 100000 in
theorem most_any (w : World) : Calls Tryd.prog 16 #[] w (fun e w' => e = .returned (.agg #[.int .i64 32, .int .i64 4096, .int .i64 262144, .int .i64 4096]) ∧ Below w.heap.size w w') := by
  go_enter Tryd.func16, Tryd.ntmps16
  go_wp2_with fail
  have hA := At.ofAlloc w #[.int .i64 32, .int .i64 4096, .int .i64 262144, .int .i64 4096] 23
  refine bodyPost_ret (results_at rfl _ w.heap.size _ _ rfl hA Tryd.underlying23 rfl (by kernel_rfl)) rfl ?_
  exact ⟨rfl, (Below.refl _ _).alloc (Nat.le_refl _) _⟩
/-- limits that one is handed, in memory -/
structure Lm4 (w : World) (g : Nat) (d i b r : Int) : Prop where
  at0 : At w g 0 [.int .i64 d, .int .i64 i, .int .i64 b, .int .i64 r]
  lt : g < w.heap.size
theorem Lm4.below {w w' : World} {g : Nat} {d i b r : Int} (h : Lm4 w g d i b r) (hb : Below w.heap.size w w') : Lm4 w' g d i b r := ⟨h.at0.below hb h.lt, Nat.lt_of_lt_of_le h.lt hb.size⟩
theorem Lm4.ofAlloc (w : World) (d i b r : Int) : Lm4 (w.alloc (Obj.cells #[.int .i64 d, .int .i64 i, .int .i64 b, .int .i64 r] 23)) w.heap.size d i b r := ⟨At.ofAlloc w #[.int .i64 d, .int .i64 i, .int .i64 b, .int .i64 r] 23, by simp⟩
theorem Lm4.alloc {w : World} {g : Nat} {d i b r : Int} (h : Lm4 w g d i b r) (o : Obj) : Lm4 (w.alloc o) g d i b r := ⟨h.at0.alloc o, by have := h.lt; simp; omega⟩
theorem tl_extract (s : ByteArray) (a b : Nat) : (s.extract a b).toList = (s.toList.drop a).take (b - a) := by
  rw [Lib.toList_data, Lib.toList_data, ByteArray.data_extract, Array.toList_extract, List.extract_eq_take_drop]
def limL (d i b : Int) : Lm := { depth := d.toNat, items := i.toNat, bytes := b.toNat }
/-- limits that may be -/
structure Lok (L : Lm) : Prop where
  i : L.items ≤ 4096
  d : L.depth ≤ 32
  b : L.bytes ≤ 262144
  p : 0 < L.depth
theorem lok {d i b r : Int} (h : mayOk d i b r = true) : Lok (limL d i b) := by
  have h1 := mayOk_yes h
  exact ⟨by show i.toNat ≤ 4096; omega, by show d.toNat ≤ 32; omega, by show b.toNat ≤ 262144; omega, by show 0 < d.toNat; omega⟩
end Js
end Go.Proofs.YtpaikjlcachabaaDoor
