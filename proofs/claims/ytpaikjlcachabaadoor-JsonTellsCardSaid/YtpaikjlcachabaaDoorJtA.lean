/- package token: numbers, taken byte by byte. -/
import Derived.Test.YtpaikjlcachabaaDoorJsQ
import Derived.Test.YtpaikjlcachabaaDoorDrA
import Derived.Deep.CutRange
import Derived.Deep.RegionHeld3
namespace Go.Proofs.YtpaikjlcachabaaDoor
open Go.RowKit
set_option linter.unusedVariables false
set_option linter.unusedSimpArgs false
namespace Js
open Dr (Rs Lm has lack)
def RetNx (r : Option Nat) (w : World) (e : Ending) (w' : World) : Prop := ∃ x : Nat, e = .returned (.tuple #[.int .i64 (x : Int), .bool r.isSome]) ∧ (∀ y, r = some y → x = y) ∧ w = w'
theorem cls (b : UInt8) : b = 45 ∨ b = 48 ∨ (49 ≤ b.toNat ∧ b.toNat ≤ 57) ∨ b = 46 ∨ b = 101 ∨ b = 69 ∨ b = 43 ∨
    (b.toNat ≠ 45 ∧ b.toNat ≠ 48 ∧ ¬ (48 ≤ b.toNat ∧ b.toNat ≤ 57) ∧ b.toNat ≠ 46 ∧ b.toNat ≠ 101 ∧ b.toNat ≠ 69 ∧ b.toNat ≠ 43) := by
  have q : ∀ (c : Nat) (h : c < 256), b.toNat = c → b = UInt8.ofNat c := fun c h e => by rw [← e, UInt8.ofNat_toNat]
  by_cases h1 : b.toNat = 45
  · exact .inl (q _ (by decide) h1)
  by_cases h2 : b.toNat = 48
  · exact .inr (.inl (q _ (by decide) h2))
  by_cases h3 : 49 ≤ b.toNat ∧ b.toNat ≤ 57
  · exact .inr (.inr (.inl h3))
  by_cases h4 : b.toNat = 46
  · exact .inr (.inr (.inr (.inl (q _ (by decide) h4))))
  by_cases h5 : b.toNat = 101
  · exact .inr (.inr (.inr (.inr (.inl (q _ (by decide) h5)))))
  by_cases h6 : b.toNat = 69
  · exact .inr (.inr (.inr (.inr (.inr (.inl (q _ (by decide) h6))))))
  by_cases h7 : b.toNat = 43
  · exact .inr (.inr (.inr (.inr (.inr (.inr (.inl (q _ (by decide) h7)))))))
  · exact .inr (.inr (.inr (.inr (.inr (.inr (.inr ⟨h1, h2, fun h => by omega, h4, h5, h6, h7⟩))))))
theorem u8_ne {b c : UInt8} (h : b.toNat ≠ c.toNat) : b ≠ c := fun e => h (by rw [e])
theorem eqF {n : Nat} {c : Int} (h : (n : Int) ≠ c) : ((n : Int) == c) = false := by rw [beq_eq_false_iff_ne]; exact h
theorem next_digit (w : Nat) (b : UInt8) (h : 49 ≤ b.toNat ∧ b.toNat ≤ 57) : nextN w b = (match w with | 0 => some 3 | 1 => some 3 | 3 => some 3 | 4 => some 5 | 5 => some 5 | 6 => some 8 | 7 => some 8 | 8 => some 8 | _ => none) := by
  have d : isDigit b = true := decide_eq_true ⟨by omega, h.2⟩
  have n : ∀ c : UInt8, (c.toNat < 49 ∨ 57 < c.toNat) → b ≠ c := fun c hc e => by subst e; omega
  have n1 := n 45 (by decide)
  have n2 := n 48 (by decide)
  have n3 := n 46 (by decide)
  have n4 := n 101 (by decide)
  have n5 := n 69 (by decide)
  have n6 := n 43 (by decide)
  clear n h
  unfold nextN
  split <;> simp_all
theorem next_else (w : Nat) (b : UInt8) (h : b.toNat ≠ 45 ∧ b.toNat ≠ 48 ∧ ¬ (48 ≤ b.toNat ∧ b.toNat ≤ 57) ∧ b.toNat ≠ 46 ∧ b.toNat ≠ 101 ∧ b.toNat ≠ 69 ∧ b.toNat ≠ 43) : nextN w b = none := by
  have d : isDigit b = false := decide_eq_false h.2.2.1
  have n1 : b ≠ 45 := u8_ne h.1
  have n2 : b ≠ 48 := u8_ne h.2.1
  have n3 : b ≠ 46 := u8_ne h.2.2.2.1
  have n4 : b ≠ 101 := u8_ne h.2.2.2.2.1
  have n5 : b ≠ 69 := u8_ne h.2.2.2.2.2.1
  have n6 : b ≠ 43 := u8_ne h.2.2.2.2.2.2
  clear h
  unfold nextN
  split <;> simp_all
set_option maxRecDepth 100000 in
set_option maxHeartbeats 1600000 in
theorem first_any (b : UInt8) (w : World) : Calls Tryd.prog 94 #[.int .u8 (b.toNat : Int)] w (RetNx (nextN 0 b) w) := by
  rcases cls b with rfl | rfl | h | rfl | rfl | rfl | rfl | h
  case inr.inr.inl =>
    have hn := next_digit 0 b h
    obtain ⟨n, hb⟩ : ∃ n, b.toNat = n := ⟨_, rfl⟩
    rw [hn, hb]
    rw [hb] at h
    have e1 := eqF (n := n) (c := 45) (by omega)
    have e2 := eqF (n := n) (c := 48) (by omega)
    have e3 : (49 : Int) ≤ n := by omega
    have e4 : (n : Int) ≤ 57 := by omega
    clear hn hb h
    go_enter Tryd.func94, Tryd.ntmps94
    go_wp2_with fail
    exact bodyPost_ret (v := .tuple #[.int .i64 3, .bool true]) (by simp [results, Tryd.results94, go_sem]) rfl ⟨3, rfl, fun y hy => by cases hy; rfl, rfl⟩
  case inr.inr.inr.inr.inr.inr.inr =>
    have hn := next_else 0 b h
    obtain ⟨n, hb⟩ : ∃ n, b.toNat = n := ⟨_, rfl⟩
    rw [hn, hb]
    rw [hb] at h
    have e1 := eqF (n := n) (c := 45) (by omega)
    have e2 := eqF (n := n) (c := 48) (by omega)
    have h3 := h.2.2.1
    have h2 := h.2.1
    clear hn hb h
    by_cases h4 : 49 ≤ n
    · have e3 : (49 : Int) ≤ n := by omega
      have e4 : ¬ (n : Int) ≤ 57 := by omega
      clear h4 h3 h2
      go_enter Tryd.func94, Tryd.ntmps94
      go_wp2_with fail
      exact bodyPost_ret (v := .tuple #[.int .i64 3, .bool false]) (by simp [results, Tryd.results94, go_sem]) rfl ⟨3, rfl, (fun y hy => by cases hy), rfl⟩
    · have e3 : ¬ (49 : Int) ≤ n := by omega
      clear h4 h3 h2
      go_enter Tryd.func94, Tryd.ntmps94
      go_wp2_with fail
      exact bodyPost_ret (v := .tuple #[.int .i64 3, .bool false]) (by simp [results, Tryd.results94, go_sem]) rfl ⟨3, rfl, (fun y hy => by cases hy), rfl⟩
  all_goals
    go_enter Tryd.func94, Tryd.ntmps94
    go_wp2_with fail
    first
      | exact bodyPost_ret (v := .tuple #[.int .i64 1, .bool true]) (by simp [results, Tryd.results94, go_sem]) rfl ⟨1, rfl, fun y hy => by cases hy; rfl, rfl⟩
      | exact bodyPost_ret (v := .tuple #[.int .i64 2, .bool true]) (by simp [results, Tryd.results94, go_sem]) rfl ⟨2, rfl, fun y hy => by cases hy; rfl, rfl⟩
      | exact bodyPost_ret (v := .tuple #[.int .i64 3, .bool false]) (by simp [results, Tryd.results94, go_sem]) rfl ⟨3, rfl, (fun y hy => by cases hy), rfl⟩
set_option maxRecDepth 100000 in
set_option maxHeartbeats 3200000 in
theorem next0_any (h : Nat) (b : UInt8) (w : World) (hc : w.cell? ⟨h, 0, none⟩ = some (.int .i64 0)) : Calls Tryd.prog 84 #[.pointer (some ⟨h, 0, none⟩), .int .u8 (b.toNat : Int)] w (RetNx (nextN 0 b) w) := by
  have F := Lib.hid (fun w => first_any b w)
  have hb := b.toNat_lt
  have e9 : (0 : Int) ≤ (b.toNat : Int) := by omega
  obtain ⟨r, hr⟩ : ∃ r, nextN 0 b = r := ⟨_, rfl⟩
  rw [hr] at F ⊢
  obtain ⟨n, hn⟩ : ∃ n, b.toNat = n := ⟨_, rfl⟩
  rw [hn] at F e9 ⊢
  obtain ⟨q, hq⟩ : ∃ q, r.isSome = q := ⟨_, rfl⟩
  have HQ := Lib.hid hq
  clear hr hb hq hn
  by_cases h48 : (48 : Int) ≤ n
  all_goals
    by_cases h57 : (n : Int) ≤ 57
    all_goals (try (exfalso; omega))
    all_goals
      go_enter Tryd.func84, Tryd.ntmps84
      go_wp2_with (go_at_call 94; refine (F.out _).mono ?_; rintro e w1 ⟨x, rfl, hx, rfl⟩; have HX := Lib.hid hx; clear hx; rw [HQ.out])
      exact bodyPost_ret (v := .tuple #[.int .i64 (x : Int), .bool q]) (by simp [results, Tryd.results84, go_sem]) rfl ⟨x, by rw [HQ.out], HX.out, rfl⟩
theorem next1_some (b : UInt8) (h : b ≠ 45) : nextN 1 b = nextN 0 b := by
  show (if b = 48 then some 2 else if isDigit b = true then some 3 else none) = if b = 45 then some 1 else if b = 48 then some 2 else if isDigit b = true then some 3 else none
  rw [if_neg h]
theorem next0_ne (b : UInt8) (h : b ≠ 45) : ∀ y, nextN 0 b = some y → y ≠ 1 := by
  intro y
  show (if b = 45 then some 1 else if b = 48 then some 2 else if isDigit b = true then some 3 else none) = some y → _
  rw [if_neg h]
  split
  · intro e; cases e; decide
  · split
    · intro e; cases e; decide
    · intro e; cases e
set_option maxRecDepth 100000 in
set_option maxHeartbeats 3200000 in
theorem next1_any (h : Nat) (b : UInt8) (w : World) (hc : w.cell? ⟨h, 0, none⟩ = some (.int .i64 1)) : Calls Tryd.prog 84 #[.pointer (some ⟨h, 0, none⟩), .int .u8 (b.toNat : Int)] w (RetNx (nextN 1 b) w) := by
  have F := Lib.hid (fun w => first_any b w)
  by_cases h45 : b = 45
  · subst h45
    go_enter Tryd.func84, Tryd.ntmps84
    go_wp2_with (go_at_call 94; refine (F.out _).mono ?_; rintro e w1 ⟨x, rfl, hx, rfl⟩; obtain rfl := hx 1 rfl; rw [show (nextN 0 45).isSome = true from rfl])
    exact bodyPost_ret (v := .tuple #[.int .i64 1, .bool false]) (by simp [results, Tryd.results84, go_sem]) rfl ⟨1, rfl, (fun y hy => by cases hy), rfl⟩
  · have HN := Lib.hid (next0_ne b h45)
    rw [next1_some b h45]
    obtain ⟨r, hr⟩ : ∃ r, nextN 0 b = r := ⟨_, rfl⟩
    rw [hr] at F HN ⊢
    have hb := b.toNat_lt
    have e9 : (0 : Int) ≤ (b.toNat : Int) := by omega
    obtain ⟨n, hn⟩ : ∃ n, b.toNat = n := ⟨_, rfl⟩
    rw [hn] at F e9 ⊢
    clear hr hb hn h45
    cases r with
    | none =>
      by_cases h48 : (48 : Int) ≤ n
      all_goals
        by_cases h57 : (n : Int) ≤ 57
        all_goals (try (exfalso; omega))
        all_goals
          go_enter Tryd.func84, Tryd.ntmps84
          go_wp2_with (go_at_call 94; refine (F.out _).mono ?_; rintro e w1 ⟨x, rfl, hx, rfl⟩; clear hx; rw [show (none : Option Nat).isSome = false from rfl])
          exact bodyPost_ret (v := .tuple #[.int .i64 (x : Int), .bool false]) (by simp [results, Tryd.results84, go_sem]) rfl ⟨x, rfl, (fun y hy => by cases hy), rfl⟩
    | some y =>
      have hy1 := HN.out y rfl
      have e1 := eqF (n := y) (c := 1) (by omega)
      have e1b : ¬ (y : Int) = 1 := by omega
      clear hy1
      by_cases h48 : (48 : Int) ≤ n
      all_goals
        by_cases h57 : (n : Int) ≤ 57
        all_goals (try (exfalso; omega))
        all_goals
          go_enter Tryd.func84, Tryd.ntmps84
          go_wp2_with (go_at_call 94; refine (F.out _).mono ?_; rintro e w1 ⟨x, rfl, hx, rfl⟩; obtain rfl := hx y rfl; clear hx; rw [show (some x : Option Nat).isSome = true from rfl])
          exact bodyPost_ret (v := .tuple #[.int .i64 (x : Int), .bool true]) (by simp [results, Tryd.results84, go_sem, e1b]) rfl ⟨x, rfl, (fun z hz => by cases hz; rfl), rfl⟩
set_option maxRecDepth 100000 in
set_option maxHeartbeats 3200000 in
theorem next2_any (h : Nat) (b : UInt8) (w : World) (hc : w.cell? ⟨h, 0, none⟩ = some (.int .i64 2)) : Calls Tryd.prog 84 #[.pointer (some ⟨h, 0, none⟩), .int .u8 (b.toNat : Int)] w (RetNx (nextN 2 b) w) := by
  rcases cls b with rfl | rfl | h | rfl | rfl | rfl | rfl | h
  · go_enter Tryd.func84, Tryd.ntmps84
    go_wp2_with fail
    exact bodyPost_ret (v := .tuple #[.int .i64 0, .bool false]) (by simp [results, Tryd.results84, go_sem]) rfl ⟨0, rfl, (fun y hy => by cases hy), rfl⟩
  · go_enter Tryd.func84, Tryd.ntmps84
    go_wp2_with fail
    exact bodyPost_ret (v := .tuple #[.int .i64 0, .bool false]) (by simp [results, Tryd.results84, go_sem]) rfl ⟨0, rfl, (fun y hy => by cases hy), rfl⟩
  · have hn := next_digit 2 b h
    obtain ⟨n, hb⟩ : ∃ n, b.toNat = n := ⟨_, rfl⟩
    rw [hn, hb]
    rw [hb] at h
    have e1 := eqF (n := n) (c := 45) (by omega)
    have e2 := eqF (n := n) (c := 46) (by omega)
    have e5 := eqF (n := n) (c := 101) (by omega)
    have e6 := eqF (n := n) (c := 69) (by omega)
    have e7 := eqF (n := n) (c := 43) (by omega)
    have e3 : (48 : Int) ≤ n := by omega
    have e4 : (n : Int) ≤ 57 := by omega
    clear hn hb h
    go_enter Tryd.func84, Tryd.ntmps84
    go_wp2_with fail
    exact bodyPost_ret (v := .tuple #[.int .i64 0, .bool false]) (by simp [results, Tryd.results84, go_sem]) rfl ⟨0, rfl, (fun y hy => by cases hy), rfl⟩
  · go_enter Tryd.func84, Tryd.ntmps84
    go_wp2_with fail
    exact bodyPost_ret (v := .tuple #[.int .i64 4, .bool true]) (by simp [results, Tryd.results84, go_sem]) rfl ⟨4, rfl, (fun y hy => by cases hy; rfl), rfl⟩
  · go_enter Tryd.func84, Tryd.ntmps84
    go_wp2_with fail
    exact bodyPost_ret (v := .tuple #[.int .i64 6, .bool true]) (by simp [results, Tryd.results84, go_sem]) rfl ⟨6, rfl, (fun y hy => by cases hy; rfl), rfl⟩
  · go_enter Tryd.func84, Tryd.ntmps84
    go_wp2_with fail
    exact bodyPost_ret (v := .tuple #[.int .i64 6, .bool true]) (by simp [results, Tryd.results84, go_sem]) rfl ⟨6, rfl, (fun y hy => by cases hy; rfl), rfl⟩
  · go_enter Tryd.func84, Tryd.ntmps84
    go_wp2_with fail
    exact bodyPost_ret (v := .tuple #[.int .i64 0, .bool false]) (by simp [results, Tryd.results84, go_sem]) rfl ⟨0, rfl, (fun y hy => by cases hy), rfl⟩
  · have hn := next_else 2 b h
    obtain ⟨n, hb⟩ : ∃ n, b.toNat = n := ⟨_, rfl⟩
    rw [hn, hb]
    rw [hb] at h
    have e1 := eqF (n := n) (c := 45) (by omega)
    have e2 := eqF (n := n) (c := 46) (by omega)
    have e5 := eqF (n := n) (c := 101) (by omega)
    have e6 := eqF (n := n) (c := 69) (by omega)
    have e7 := eqF (n := n) (c := 43) (by omega)
    have h3 := h.2.2.1
    clear hn hb h
    by_cases h4 : 48 ≤ n
    · have e3 : (48 : Int) ≤ n := by omega
      have e4 : ¬ (n : Int) ≤ 57 := by omega
      clear h4 h3
      go_enter Tryd.func84, Tryd.ntmps84
      go_wp2_with fail
      exact bodyPost_ret (v := .tuple #[.int .i64 0, .bool false]) (by simp [results, Tryd.results84, go_sem]) rfl ⟨0, rfl, (fun y hy => by cases hy), rfl⟩
    · have e3 : ¬ (48 : Int) ≤ n := by omega
      clear h4 h3
      go_enter Tryd.func84, Tryd.ntmps84
      go_wp2_with fail
      exact bodyPost_ret (v := .tuple #[.int .i64 0, .bool false]) (by simp [results, Tryd.results84, go_sem]) rfl ⟨0, rfl, (fun y hy => by cases hy), rfl⟩
set_option maxRecDepth 100000 in
set_option maxHeartbeats 3200000 in
theorem next3_any (h : Nat) (b : UInt8) (w : World) (hc : w.cell? ⟨h, 0, none⟩ = some (.int .i64 3)) : Calls Tryd.prog 84 #[.pointer (some ⟨h, 0, none⟩), .int .u8 (b.toNat : Int)] w (RetNx (nextN 3 b) w) := by
  rcases cls b with rfl | rfl | h | rfl | rfl | rfl | rfl | h
  · go_enter Tryd.func84, Tryd.ntmps84
    go_wp2_with fail
    exact bodyPost_ret (v := .tuple #[.int .i64 0, .bool false]) (by simp [results, Tryd.results84, go_sem]) rfl ⟨0, rfl, (fun y hy => by cases hy), rfl⟩
  · go_enter Tryd.func84, Tryd.ntmps84
    go_wp2_with fail
    exact bodyPost_ret (v := .tuple #[.int .i64 3, .bool true]) (by simp [results, Tryd.results84, go_sem]) rfl ⟨3, rfl, (fun y hy => by cases hy; rfl), rfl⟩
  · have hn := next_digit 3 b h
    obtain ⟨n, hb⟩ : ∃ n, b.toNat = n := ⟨_, rfl⟩
    rw [hn, hb]
    rw [hb] at h
    have e1 := eqF (n := n) (c := 45) (by omega)
    have e2 := eqF (n := n) (c := 46) (by omega)
    have e5 := eqF (n := n) (c := 101) (by omega)
    have e6 := eqF (n := n) (c := 69) (by omega)
    have e7 := eqF (n := n) (c := 43) (by omega)
    have e3 : (48 : Int) ≤ n := by omega
    have e4 : (n : Int) ≤ 57 := by omega
    clear hn hb h
    go_enter Tryd.func84, Tryd.ntmps84
    go_wp2_with fail
    exact bodyPost_ret (v := .tuple #[.int .i64 3, .bool true]) (by simp [results, Tryd.results84, go_sem]) rfl ⟨3, rfl, (fun y hy => by cases hy; rfl), rfl⟩
  · go_enter Tryd.func84, Tryd.ntmps84
    go_wp2_with fail
    exact bodyPost_ret (v := .tuple #[.int .i64 4, .bool true]) (by simp [results, Tryd.results84, go_sem]) rfl ⟨4, rfl, (fun y hy => by cases hy; rfl), rfl⟩
  · go_enter Tryd.func84, Tryd.ntmps84
    go_wp2_with fail
    exact bodyPost_ret (v := .tuple #[.int .i64 6, .bool true]) (by simp [results, Tryd.results84, go_sem]) rfl ⟨6, rfl, (fun y hy => by cases hy; rfl), rfl⟩
  · go_enter Tryd.func84, Tryd.ntmps84
    go_wp2_with fail
    exact bodyPost_ret (v := .tuple #[.int .i64 6, .bool true]) (by simp [results, Tryd.results84, go_sem]) rfl ⟨6, rfl, (fun y hy => by cases hy; rfl), rfl⟩
  · go_enter Tryd.func84, Tryd.ntmps84
    go_wp2_with fail
    exact bodyPost_ret (v := .tuple #[.int .i64 0, .bool false]) (by simp [results, Tryd.results84, go_sem]) rfl ⟨0, rfl, (fun y hy => by cases hy), rfl⟩
  · have hn := next_else 3 b h
    obtain ⟨n, hb⟩ : ∃ n, b.toNat = n := ⟨_, rfl⟩
    rw [hn, hb]
    rw [hb] at h
    have e1 := eqF (n := n) (c := 45) (by omega)
    have e2 := eqF (n := n) (c := 46) (by omega)
    have e5 := eqF (n := n) (c := 101) (by omega)
    have e6 := eqF (n := n) (c := 69) (by omega)
    have e7 := eqF (n := n) (c := 43) (by omega)
    have h3 := h.2.2.1
    clear hn hb h
    by_cases h4 : 48 ≤ n
    · have e3 : (48 : Int) ≤ n := by omega
      have e4 : ¬ (n : Int) ≤ 57 := by omega
      clear h4 h3
      go_enter Tryd.func84, Tryd.ntmps84
      go_wp2_with fail
      exact bodyPost_ret (v := .tuple #[.int .i64 0, .bool false]) (by simp [results, Tryd.results84, go_sem]) rfl ⟨0, rfl, (fun y hy => by cases hy), rfl⟩
    · have e3 : ¬ (48 : Int) ≤ n := by omega
      clear h4 h3
      go_enter Tryd.func84, Tryd.ntmps84
      go_wp2_with fail
      exact bodyPost_ret (v := .tuple #[.int .i64 0, .bool false]) (by simp [results, Tryd.results84, go_sem]) rfl ⟨0, rfl, (fun y hy => by cases hy), rfl⟩
set_option maxRecDepth 100000 in
set_option maxHeartbeats 3200000 in
theorem next4_any (h : Nat) (b : UInt8) (w : World) (hc : w.cell? ⟨h, 0, none⟩ = some (.int .i64 4)) : Calls Tryd.prog 84 #[.pointer (some ⟨h, 0, none⟩), .int .u8 (b.toNat : Int)] w (RetNx (nextN 4 b) w) := by
  rcases cls b with rfl | rfl | h | rfl | rfl | rfl | rfl | h
  · go_enter Tryd.func84, Tryd.ntmps84
    go_wp2_with fail
    exact bodyPost_ret (v := .tuple #[.int .i64 5, .bool false]) (by simp [results, Tryd.results84, go_sem]) rfl ⟨5, rfl, (fun y hy => by cases hy), rfl⟩
  · go_enter Tryd.func84, Tryd.ntmps84
    go_wp2_with fail
    exact bodyPost_ret (v := .tuple #[.int .i64 5, .bool true]) (by simp [results, Tryd.results84, go_sem]) rfl ⟨5, rfl, (fun y hy => by cases hy; rfl), rfl⟩
  · have hn := next_digit 4 b h
    obtain ⟨n, hb⟩ : ∃ n, b.toNat = n := ⟨_, rfl⟩
    rw [hn, hb]
    rw [hb] at h
    have e1 := eqF (n := n) (c := 45) (by omega)
    have e2 := eqF (n := n) (c := 46) (by omega)
    have e5 := eqF (n := n) (c := 101) (by omega)
    have e6 := eqF (n := n) (c := 69) (by omega)
    have e7 := eqF (n := n) (c := 43) (by omega)
    have e3 : (48 : Int) ≤ n := by omega
    have e4 : (n : Int) ≤ 57 := by omega
    clear hn hb h
    go_enter Tryd.func84, Tryd.ntmps84
    go_wp2_with fail
    exact bodyPost_ret (v := .tuple #[.int .i64 5, .bool true]) (by simp [results, Tryd.results84, go_sem]) rfl ⟨5, rfl, (fun y hy => by cases hy; rfl), rfl⟩
  · go_enter Tryd.func84, Tryd.ntmps84
    go_wp2_with fail
    exact bodyPost_ret (v := .tuple #[.int .i64 5, .bool false]) (by simp [results, Tryd.results84, go_sem]) rfl ⟨5, rfl, (fun y hy => by cases hy), rfl⟩
  · go_enter Tryd.func84, Tryd.ntmps84
    go_wp2_with fail
    exact bodyPost_ret (v := .tuple #[.int .i64 5, .bool false]) (by simp [results, Tryd.results84, go_sem]) rfl ⟨5, rfl, (fun y hy => by cases hy), rfl⟩
  · go_enter Tryd.func84, Tryd.ntmps84
    go_wp2_with fail
    exact bodyPost_ret (v := .tuple #[.int .i64 5, .bool false]) (by simp [results, Tryd.results84, go_sem]) rfl ⟨5, rfl, (fun y hy => by cases hy), rfl⟩
  · go_enter Tryd.func84, Tryd.ntmps84
    go_wp2_with fail
    exact bodyPost_ret (v := .tuple #[.int .i64 5, .bool false]) (by simp [results, Tryd.results84, go_sem]) rfl ⟨5, rfl, (fun y hy => by cases hy), rfl⟩
  · have hn := next_else 4 b h
    obtain ⟨n, hb⟩ : ∃ n, b.toNat = n := ⟨_, rfl⟩
    rw [hn, hb]
    rw [hb] at h
    have e1 := eqF (n := n) (c := 45) (by omega)
    have e2 := eqF (n := n) (c := 46) (by omega)
    have e5 := eqF (n := n) (c := 101) (by omega)
    have e6 := eqF (n := n) (c := 69) (by omega)
    have e7 := eqF (n := n) (c := 43) (by omega)
    have h3 := h.2.2.1
    clear hn hb h
    by_cases h4 : 48 ≤ n
    · have e3 : (48 : Int) ≤ n := by omega
      have e4 : ¬ (n : Int) ≤ 57 := by omega
      clear h4 h3
      go_enter Tryd.func84, Tryd.ntmps84
      go_wp2_with fail
      exact bodyPost_ret (v := .tuple #[.int .i64 5, .bool false]) (by simp [results, Tryd.results84, go_sem]) rfl ⟨5, rfl, (fun y hy => by cases hy), rfl⟩
    · have e3 : ¬ (48 : Int) ≤ n := by omega
      clear h4 h3
      go_enter Tryd.func84, Tryd.ntmps84
      go_wp2_with fail
      exact bodyPost_ret (v := .tuple #[.int .i64 5, .bool false]) (by simp [results, Tryd.results84, go_sem]) rfl ⟨5, rfl, (fun y hy => by cases hy), rfl⟩
set_option maxRecDepth 100000 in
set_option maxHeartbeats 3200000 in
theorem next5_any (h : Nat) (b : UInt8) (w : World) (hc : w.cell? ⟨h, 0, none⟩ = some (.int .i64 5)) : Calls Tryd.prog 84 #[.pointer (some ⟨h, 0, none⟩), .int .u8 (b.toNat : Int)] w (RetNx (nextN 5 b) w) := by
  rcases cls b with rfl | rfl | h | rfl | rfl | rfl | rfl | h
  · go_enter Tryd.func84, Tryd.ntmps84
    go_wp2_with fail
    exact bodyPost_ret (v := .tuple #[.int .i64 5, .bool false]) (by simp [results, Tryd.results84, go_sem]) rfl ⟨5, rfl, (fun y hy => by cases hy), rfl⟩
  · go_enter Tryd.func84, Tryd.ntmps84
    go_wp2_with fail
    exact bodyPost_ret (v := .tuple #[.int .i64 5, .bool true]) (by simp [results, Tryd.results84, go_sem]) rfl ⟨5, rfl, (fun y hy => by cases hy; rfl), rfl⟩
  · have hn := next_digit 5 b h
    obtain ⟨n, hb⟩ : ∃ n, b.toNat = n := ⟨_, rfl⟩
    rw [hn, hb]
    rw [hb] at h
    have e1 := eqF (n := n) (c := 45) (by omega)
    have e2 := eqF (n := n) (c := 46) (by omega)
    have e5 := eqF (n := n) (c := 101) (by omega)
    have e6 := eqF (n := n) (c := 69) (by omega)
    have e7 := eqF (n := n) (c := 43) (by omega)
    have e3 : (48 : Int) ≤ n := by omega
    have e4 : (n : Int) ≤ 57 := by omega
    clear hn hb h
    go_enter Tryd.func84, Tryd.ntmps84
    go_wp2_with fail
    exact bodyPost_ret (v := .tuple #[.int .i64 5, .bool true]) (by simp [results, Tryd.results84, go_sem]) rfl ⟨5, rfl, (fun y hy => by cases hy; rfl), rfl⟩
  · go_enter Tryd.func84, Tryd.ntmps84
    go_wp2_with fail
    exact bodyPost_ret (v := .tuple #[.int .i64 5, .bool false]) (by simp [results, Tryd.results84, go_sem]) rfl ⟨5, rfl, (fun y hy => by cases hy), rfl⟩
  · go_enter Tryd.func84, Tryd.ntmps84
    go_wp2_with fail
    exact bodyPost_ret (v := .tuple #[.int .i64 6, .bool true]) (by simp [results, Tryd.results84, go_sem]) rfl ⟨6, rfl, (fun y hy => by cases hy; rfl), rfl⟩
  · go_enter Tryd.func84, Tryd.ntmps84
    go_wp2_with fail
    exact bodyPost_ret (v := .tuple #[.int .i64 6, .bool true]) (by simp [results, Tryd.results84, go_sem]) rfl ⟨6, rfl, (fun y hy => by cases hy; rfl), rfl⟩
  · go_enter Tryd.func84, Tryd.ntmps84
    go_wp2_with fail
    exact bodyPost_ret (v := .tuple #[.int .i64 5, .bool false]) (by simp [results, Tryd.results84, go_sem]) rfl ⟨5, rfl, (fun y hy => by cases hy), rfl⟩
  · have hn := next_else 5 b h
    obtain ⟨n, hb⟩ : ∃ n, b.toNat = n := ⟨_, rfl⟩
    rw [hn, hb]
    rw [hb] at h
    have e1 := eqF (n := n) (c := 45) (by omega)
    have e2 := eqF (n := n) (c := 46) (by omega)
    have e5 := eqF (n := n) (c := 101) (by omega)
    have e6 := eqF (n := n) (c := 69) (by omega)
    have e7 := eqF (n := n) (c := 43) (by omega)
    have h3 := h.2.2.1
    clear hn hb h
    by_cases h4 : 48 ≤ n
    · have e3 : (48 : Int) ≤ n := by omega
      have e4 : ¬ (n : Int) ≤ 57 := by omega
      clear h4 h3
      go_enter Tryd.func84, Tryd.ntmps84
      go_wp2_with fail
      exact bodyPost_ret (v := .tuple #[.int .i64 5, .bool false]) (by simp [results, Tryd.results84, go_sem]) rfl ⟨5, rfl, (fun y hy => by cases hy), rfl⟩
    · have e3 : ¬ (48 : Int) ≤ n := by omega
      clear h4 h3
      go_enter Tryd.func84, Tryd.ntmps84
      go_wp2_with fail
      exact bodyPost_ret (v := .tuple #[.int .i64 5, .bool false]) (by simp [results, Tryd.results84, go_sem]) rfl ⟨5, rfl, (fun y hy => by cases hy), rfl⟩
set_option maxRecDepth 100000 in
set_option maxHeartbeats 3200000 in
theorem next6_any (h : Nat) (b : UInt8) (w : World) (hc : w.cell? ⟨h, 0, none⟩ = some (.int .i64 6)) : Calls Tryd.prog 84 #[.pointer (some ⟨h, 0, none⟩), .int .u8 (b.toNat : Int)] w (RetNx (nextN 6 b) w) := by
  rcases cls b with rfl | rfl | h | rfl | rfl | rfl | rfl | h
  · go_enter Tryd.func84, Tryd.ntmps84
    go_wp2_with fail
    exact bodyPost_ret (v := .tuple #[.int .i64 7, .bool true]) (by simp [results, Tryd.results84, go_sem]) rfl ⟨7, rfl, (fun y hy => by cases hy; rfl), rfl⟩
  · go_enter Tryd.func84, Tryd.ntmps84
    go_wp2_with fail
    exact bodyPost_ret (v := .tuple #[.int .i64 8, .bool true]) (by simp [results, Tryd.results84, go_sem]) rfl ⟨8, rfl, (fun y hy => by cases hy; rfl), rfl⟩
  · have hn := next_digit 6 b h
    obtain ⟨n, hb⟩ : ∃ n, b.toNat = n := ⟨_, rfl⟩
    rw [hn, hb]
    rw [hb] at h
    have e1 := eqF (n := n) (c := 45) (by omega)
    have e2 := eqF (n := n) (c := 46) (by omega)
    have e5 := eqF (n := n) (c := 101) (by omega)
    have e6 := eqF (n := n) (c := 69) (by omega)
    have e7 := eqF (n := n) (c := 43) (by omega)
    have e3 : (48 : Int) ≤ n := by omega
    have e4 : (n : Int) ≤ 57 := by omega
    clear hn hb h
    go_enter Tryd.func84, Tryd.ntmps84
    go_wp2_with fail
    exact bodyPost_ret (v := .tuple #[.int .i64 8, .bool true]) (by simp [results, Tryd.results84, go_sem]) rfl ⟨8, rfl, (fun y hy => by cases hy; rfl), rfl⟩
  · go_enter Tryd.func84, Tryd.ntmps84
    go_wp2_with fail
    exact bodyPost_ret (v := .tuple #[.int .i64 8, .bool false]) (by simp [results, Tryd.results84, go_sem]) rfl ⟨8, rfl, (fun y hy => by cases hy), rfl⟩
  · go_enter Tryd.func84, Tryd.ntmps84
    go_wp2_with fail
    exact bodyPost_ret (v := .tuple #[.int .i64 8, .bool false]) (by simp [results, Tryd.results84, go_sem]) rfl ⟨8, rfl, (fun y hy => by cases hy), rfl⟩
  · go_enter Tryd.func84, Tryd.ntmps84
    go_wp2_with fail
    exact bodyPost_ret (v := .tuple #[.int .i64 8, .bool false]) (by simp [results, Tryd.results84, go_sem]) rfl ⟨8, rfl, (fun y hy => by cases hy), rfl⟩
  · go_enter Tryd.func84, Tryd.ntmps84
    go_wp2_with fail
    exact bodyPost_ret (v := .tuple #[.int .i64 7, .bool true]) (by simp [results, Tryd.results84, go_sem]) rfl ⟨7, rfl, (fun y hy => by cases hy; rfl), rfl⟩
  · have hn := next_else 6 b h
    obtain ⟨n, hb⟩ : ∃ n, b.toNat = n := ⟨_, rfl⟩
    rw [hn, hb]
    rw [hb] at h
    have e1 := eqF (n := n) (c := 45) (by omega)
    have e2 := eqF (n := n) (c := 46) (by omega)
    have e5 := eqF (n := n) (c := 101) (by omega)
    have e6 := eqF (n := n) (c := 69) (by omega)
    have e7 := eqF (n := n) (c := 43) (by omega)
    have h3 := h.2.2.1
    clear hn hb h
    by_cases h4 : 48 ≤ n
    · have e3 : (48 : Int) ≤ n := by omega
      have e4 : ¬ (n : Int) ≤ 57 := by omega
      clear h4 h3
      go_enter Tryd.func84, Tryd.ntmps84
      go_wp2_with fail
      exact bodyPost_ret (v := .tuple #[.int .i64 8, .bool false]) (by simp [results, Tryd.results84, go_sem]) rfl ⟨8, rfl, (fun y hy => by cases hy), rfl⟩
    · have e3 : ¬ (48 : Int) ≤ n := by omega
      clear h4 h3
      go_enter Tryd.func84, Tryd.ntmps84
      go_wp2_with fail
      exact bodyPost_ret (v := .tuple #[.int .i64 8, .bool false]) (by simp [results, Tryd.results84, go_sem]) rfl ⟨8, rfl, (fun y hy => by cases hy), rfl⟩
set_option maxRecDepth 100000 in
set_option maxHeartbeats 3200000 in
theorem next7_any (h : Nat) (b : UInt8) (w : World) (hc : w.cell? ⟨h, 0, none⟩ = some (.int .i64 7)) : Calls Tryd.prog 84 #[.pointer (some ⟨h, 0, none⟩), .int .u8 (b.toNat : Int)] w (RetNx (nextN 7 b) w) := by
  rcases cls b with rfl | rfl | h | rfl | rfl | rfl | rfl | h
  · go_enter Tryd.func84, Tryd.ntmps84
    go_wp2_with fail
    exact bodyPost_ret (v := .tuple #[.int .i64 8, .bool false]) (by simp [results, Tryd.results84, go_sem]) rfl ⟨8, rfl, (fun y hy => by cases hy), rfl⟩
  · go_enter Tryd.func84, Tryd.ntmps84
    go_wp2_with fail
    exact bodyPost_ret (v := .tuple #[.int .i64 8, .bool true]) (by simp [results, Tryd.results84, go_sem]) rfl ⟨8, rfl, (fun y hy => by cases hy; rfl), rfl⟩
  · have hn := next_digit 7 b h
    obtain ⟨n, hb⟩ : ∃ n, b.toNat = n := ⟨_, rfl⟩
    rw [hn, hb]
    rw [hb] at h
    have e1 := eqF (n := n) (c := 45) (by omega)
    have e2 := eqF (n := n) (c := 46) (by omega)
    have e5 := eqF (n := n) (c := 101) (by omega)
    have e6 := eqF (n := n) (c := 69) (by omega)
    have e7 := eqF (n := n) (c := 43) (by omega)
    have e3 : (48 : Int) ≤ n := by omega
    have e4 : (n : Int) ≤ 57 := by omega
    clear hn hb h
    go_enter Tryd.func84, Tryd.ntmps84
    go_wp2_with fail
    exact bodyPost_ret (v := .tuple #[.int .i64 8, .bool true]) (by simp [results, Tryd.results84, go_sem]) rfl ⟨8, rfl, (fun y hy => by cases hy; rfl), rfl⟩
  · go_enter Tryd.func84, Tryd.ntmps84
    go_wp2_with fail
    exact bodyPost_ret (v := .tuple #[.int .i64 8, .bool false]) (by simp [results, Tryd.results84, go_sem]) rfl ⟨8, rfl, (fun y hy => by cases hy), rfl⟩
  · go_enter Tryd.func84, Tryd.ntmps84
    go_wp2_with fail
    exact bodyPost_ret (v := .tuple #[.int .i64 8, .bool false]) (by simp [results, Tryd.results84, go_sem]) rfl ⟨8, rfl, (fun y hy => by cases hy), rfl⟩
  · go_enter Tryd.func84, Tryd.ntmps84
    go_wp2_with fail
    exact bodyPost_ret (v := .tuple #[.int .i64 8, .bool false]) (by simp [results, Tryd.results84, go_sem]) rfl ⟨8, rfl, (fun y hy => by cases hy), rfl⟩
  · go_enter Tryd.func84, Tryd.ntmps84
    go_wp2_with fail
    exact bodyPost_ret (v := .tuple #[.int .i64 8, .bool false]) (by simp [results, Tryd.results84, go_sem]) rfl ⟨8, rfl, (fun y hy => by cases hy), rfl⟩
  · have hn := next_else 7 b h
    obtain ⟨n, hb⟩ : ∃ n, b.toNat = n := ⟨_, rfl⟩
    rw [hn, hb]
    rw [hb] at h
    have e1 := eqF (n := n) (c := 45) (by omega)
    have e2 := eqF (n := n) (c := 46) (by omega)
    have e5 := eqF (n := n) (c := 101) (by omega)
    have e6 := eqF (n := n) (c := 69) (by omega)
    have e7 := eqF (n := n) (c := 43) (by omega)
    have h3 := h.2.2.1
    clear hn hb h
    by_cases h4 : 48 ≤ n
    · have e3 : (48 : Int) ≤ n := by omega
      have e4 : ¬ (n : Int) ≤ 57 := by omega
      clear h4 h3
      go_enter Tryd.func84, Tryd.ntmps84
      go_wp2_with fail
      exact bodyPost_ret (v := .tuple #[.int .i64 8, .bool false]) (by simp [results, Tryd.results84, go_sem]) rfl ⟨8, rfl, (fun y hy => by cases hy), rfl⟩
    · have e3 : ¬ (48 : Int) ≤ n := by omega
      clear h4 h3
      go_enter Tryd.func84, Tryd.ntmps84
      go_wp2_with fail
      exact bodyPost_ret (v := .tuple #[.int .i64 8, .bool false]) (by simp [results, Tryd.results84, go_sem]) rfl ⟨8, rfl, (fun y hy => by cases hy), rfl⟩
set_option maxRecDepth 100000 in
set_option maxHeartbeats 3200000 in
theorem next8_any (h : Nat) (b : UInt8) (w : World) (hc : w.cell? ⟨h, 0, none⟩ = some (.int .i64 8)) : Calls Tryd.prog 84 #[.pointer (some ⟨h, 0, none⟩), .int .u8 (b.toNat : Int)] w (RetNx (nextN 8 b) w) := by
  rcases cls b with rfl | rfl | h | rfl | rfl | rfl | rfl | h
  · go_enter Tryd.func84, Tryd.ntmps84
    go_wp2_with fail
    exact bodyPost_ret (v := .tuple #[.int .i64 8, .bool false]) (by simp [results, Tryd.results84, go_sem]) rfl ⟨8, rfl, (fun y hy => by cases hy), rfl⟩
  · go_enter Tryd.func84, Tryd.ntmps84
    go_wp2_with fail
    exact bodyPost_ret (v := .tuple #[.int .i64 8, .bool true]) (by simp [results, Tryd.results84, go_sem]) rfl ⟨8, rfl, (fun y hy => by cases hy; rfl), rfl⟩
  · have hn := next_digit 8 b h
    obtain ⟨n, hb⟩ : ∃ n, b.toNat = n := ⟨_, rfl⟩
    rw [hn, hb]
    rw [hb] at h
    have e1 := eqF (n := n) (c := 45) (by omega)
    have e2 := eqF (n := n) (c := 46) (by omega)
    have e5 := eqF (n := n) (c := 101) (by omega)
    have e6 := eqF (n := n) (c := 69) (by omega)
    have e7 := eqF (n := n) (c := 43) (by omega)
    have e3 : (48 : Int) ≤ n := by omega
    have e4 : (n : Int) ≤ 57 := by omega
    clear hn hb h
    go_enter Tryd.func84, Tryd.ntmps84
    go_wp2_with fail
    exact bodyPost_ret (v := .tuple #[.int .i64 8, .bool true]) (by simp [results, Tryd.results84, go_sem]) rfl ⟨8, rfl, (fun y hy => by cases hy; rfl), rfl⟩
  · go_enter Tryd.func84, Tryd.ntmps84
    go_wp2_with fail
    exact bodyPost_ret (v := .tuple #[.int .i64 8, .bool false]) (by simp [results, Tryd.results84, go_sem]) rfl ⟨8, rfl, (fun y hy => by cases hy), rfl⟩
  · go_enter Tryd.func84, Tryd.ntmps84
    go_wp2_with fail
    exact bodyPost_ret (v := .tuple #[.int .i64 8, .bool false]) (by simp [results, Tryd.results84, go_sem]) rfl ⟨8, rfl, (fun y hy => by cases hy), rfl⟩
  · go_enter Tryd.func84, Tryd.ntmps84
    go_wp2_with fail
    exact bodyPost_ret (v := .tuple #[.int .i64 8, .bool false]) (by simp [results, Tryd.results84, go_sem]) rfl ⟨8, rfl, (fun y hy => by cases hy), rfl⟩
  · go_enter Tryd.func84, Tryd.ntmps84
    go_wp2_with fail
    exact bodyPost_ret (v := .tuple #[.int .i64 8, .bool false]) (by simp [results, Tryd.results84, go_sem]) rfl ⟨8, rfl, (fun y hy => by cases hy), rfl⟩
  · have hn := next_else 8 b h
    obtain ⟨n, hb⟩ : ∃ n, b.toNat = n := ⟨_, rfl⟩
    rw [hn, hb]
    rw [hb] at h
    have e1 := eqF (n := n) (c := 45) (by omega)
    have e2 := eqF (n := n) (c := 46) (by omega)
    have e5 := eqF (n := n) (c := 101) (by omega)
    have e6 := eqF (n := n) (c := 69) (by omega)
    have e7 := eqF (n := n) (c := 43) (by omega)
    have h3 := h.2.2.1
    clear hn hb h
    by_cases h4 : 48 ≤ n
    · have e3 : (48 : Int) ≤ n := by omega
      have e4 : ¬ (n : Int) ≤ 57 := by omega
      clear h4 h3
      go_enter Tryd.func84, Tryd.ntmps84
      go_wp2_with fail
      exact bodyPost_ret (v := .tuple #[.int .i64 8, .bool false]) (by simp [results, Tryd.results84, go_sem]) rfl ⟨8, rfl, (fun y hy => by cases hy), rfl⟩
    · have e3 : ¬ (48 : Int) ≤ n := by omega
      clear h4 h3
      go_enter Tryd.func84, Tryd.ntmps84
      go_wp2_with fail
      exact bodyPost_ret (v := .tuple #[.int .i64 8, .bool false]) (by simp [results, Tryd.results84, go_sem]) rfl ⟨8, rfl, (fun y hy => by cases hy), rfl⟩
theorem next_any (h wv : Nat) (hw : wv ≤ 8) (b : UInt8) (w : World) (hc : w.cell? ⟨h, 0, none⟩ = some (.int .i64 (wv : Int))) : Calls Tryd.prog 84 #[.pointer (some ⟨h, 0, none⟩), .int .u8 (b.toNat : Int)] w (RetNx (nextN wv b) w) := by
  obtain rfl | rfl | rfl | rfl | rfl | rfl | rfl | rfl | rfl : wv = 0 ∨ wv = 1 ∨ wv = 2 ∨ wv = 3 ∨ wv = 4 ∨ wv = 5 ∨ wv = 6 ∨ wv = 7 ∨ wv = 8 := by omega
  · exact next0_any h b w hc
  · exact next1_any h b w hc
  · exact next2_any h b w hc
  · exact next3_any h b w hc
  · exact next4_any h b w hc
  · exact next5_any h b w hc
  · exact next6_any h b w hc
  · exact next7_any h b w hc
  · exact next8_any h b w hc
theorem nextN_le (wv : Nat) (b : UInt8) (y : Nat) (h : nextN wv b = some y) : y ≤ 8 := by
  unfold nextN at h
  repeat' split at h
  all_goals first | (cases h; omega) | (cases h)
end Js
end Go.Proofs.YtpaikjlcachabaaDoor
