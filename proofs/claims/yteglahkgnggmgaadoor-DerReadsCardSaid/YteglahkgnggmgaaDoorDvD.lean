/- The document's reader: a body. -/
import Derived.Test.YteglahkgnggmgaaDoorDvB
import Derived.Test.YteglahkgnggmgaaDoorDvC
namespace Go.Proofs.YteglahkgnggmgaaDoor
open Go.RowKit
set_option linter.unusedVariables false
set_option linter.unusedSimpArgs false
open Dr
theorem bit_next (x i : Nat) (h : x % 2 ^ i = 0) (hb : x / 2 ^ i % 2 = 0) : x % 2 ^ (i + 1) = 0 := by
  rw [Nat.pow_succ, Nat.mod_mul, h, hb]
  rfl
theorem bit_stop (x i a : Nat) (h : i < a) (hb : x / 2 ^ i % 2 = 1) : ¬ x % 2 ^ a = 0 := fun h0 => by
  obtain ⟨k, rfl⟩ : ∃ k, a = i + 1 + k := ⟨a - i - 1, by omega⟩
  have h1 : x % 2 ^ (i + 1) = 0 := by
    have h2 : x % 2 ^ (i + 1 + k) % 2 ^ (i + 1) = x % 2 ^ (i + 1) := Nat.mod_mod_of_dvd x (Nat.pow_dvd_pow 2 (Nat.le_add_right _ _))
    rw [← h2, h0, Nat.zero_mod]
  rw [Nat.pow_succ, Nat.mod_mul, hb] at h1
  have h3 : 0 < 2 ^ i := Nat.pow_pos (by decide)
  omega
set_option maxRecDepth 100000 in
set_option maxHeartbeats 1600000 in
theorem rbody_1 (s : ByteArray) (w : World) : Calls Tryd.prog 38 #[.int .u8 1, .string s] w (RetBb2 (bodyN 1 s.toList) w) := by
  rw [show bodyN 1 s.toList = decide (s.toList = [0] ∨ s.toList = [255]) from rfl]
  by_cases h1 : s.size = 1
  · have hlt : 0 < s.size := by omega
    obtain ⟨b, hb⟩ : ∃ b, (s[0]'hlt).toNat = b := ⟨_, rfl⟩
    have hl : s.toList = [s[0]'hlt] := by
      have h2 : s.toList.length = 1 := by rw [tl_size]; exact h1
      have h3 := tl_getD s 0 hlt
      match hs : s.toList, h2 with
      | [x], _ => rw [hs] at h3; rw [← h3]; rfl
    have hb2 : b < 256 := by rw [← hb]; exact (s[0]'hlt).toNat_lt
    have e1 : (s.size : Int) = 1 := by omega
    have hz : (s.toList = [0] ∨ s.toList = [255]) ↔ (b = 0 ∨ b = 255) := by
      rw [hl]
      constructor
      · rintro (h | h)
        · left; have h4 : s[0]'hlt = 0 := by simpa using h
          rw [← hb, h4]; rfl
        · right; have h4 : s[0]'hlt = 255 := by simpa using h
          rw [← hb, h4]; rfl
      · rintro (h | h)
        · left; have h4 : s[0]'hlt = 0 := by rw [← UInt8.toNat_inj, hb, h]; rfl
          rw [h4]
        · right; have h4 : s[0]'hlt = 255 := by rw [← UInt8.toNat_inj, hb, h]; rfl
          rw [h4]
    have hq : decide (s.toList = [0] ∨ s.toList = [255]) = decide (b = 0 ∨ b = 255) := decide_eq_decide.2 hz
    rw [hq]
    clear hz hl hq
    by_cases h2 : b = 0
    · subst h2
      rw [decide_eq_true (.inl rfl)]
      clear hb2 h1
      go_enter Tryd.func38, Tryd.ntmps38
      go_wp2_with fail
      go_ret
      exact ⟨rfl, Below.refl _ _⟩
    · have e2 : ((b : Int) == 0) = false := by rw [beq_eq_false_iff_ne]; omega
      by_cases h3 : b = 255
      · subst h3
        rw [decide_eq_true (.inr rfl)]
        clear hb2 h1 h2
        go_enter Tryd.func38, Tryd.ntmps38
        go_wp2_with fail
        go_ret
        exact ⟨rfl, Below.refl _ _⟩
      · have e3 : ((b : Int) == 255) = false := by rw [beq_eq_false_iff_ne]; omega
        rw [decide_eq_false (by omega)]
        clear hb2 h1 h2 h3
        go_enter Tryd.func38, Tryd.ntmps38
        go_wp2_with fail
        go_ret
        exact ⟨rfl, Below.refl _ _⟩
  · have e1 : ¬ (s.size : Int) = 1 := by omega
    have e1b : ((s.size : Int) == 1) = false := by rw [beq_eq_false_iff_ne]; exact e1
    rw [decide_eq_false (by
      rintro (h | h)
      · have := congrArg List.length h; rw [tl_size] at this; exact h1 this
      · have := congrArg List.length h; rw [tl_size] at this; exact h1 this)]
    clear h1
    go_enter Tryd.func38, Tryd.ntmps38
    go_wp2_with fail
    go_ret
    exact ⟨rfl, Below.refl _ _⟩
set_option maxRecDepth 100000 in
set_option maxHeartbeats 1600000 in
theorem rbody_2 (s : ByteArray) (hz : s.size ≤ 140737488351232) (w : World) : Calls Tryd.prog 38 #[.int .u8 2, .string s] w (RetBb2 (bodyN 2 s.toList) w) := by
  rw [show bodyN 2 s.toList = numOk s.toList from rfl]
  by_cases h0 : s.size = 0
  · obtain rfl := nil_of s h0
    rw [show numOk ByteArray.empty.toList = false by rw [tl_empty]; decide]
    clear h0 hz
    go_enter Tryd.func38, Tryd.ntmps38
    go_wp2_with fail
    go_ret
    exact ⟨rfl, Below.refl _ _⟩
  by_cases h1 : s.size = 1
  · rw [numOk_one s h1]
    have e1 : (s.size : Int) = 1 := by omega
    clear h0 h1 hz
    go_enter Tryd.func38, Tryd.ntmps38
    go_wp2_with fail
    go_ret
    exact ⟨rfl, Below.refl _ _⟩
  have h2 : 2 ≤ s.size := by omega
  have hlt0 : 0 < s.size := by omega
  have hlt1 : 1 < s.size := by omega
  obtain ⟨a, ha⟩ : ∃ a, (s[0]'hlt0).toNat = a := ⟨_, rfl⟩
  obtain ⟨b, hb⟩ : ∃ b, (s[1]'hlt1).toNat = b := ⟨_, rfl⟩
  have ha2 : a < 256 := by rw [← ha]; exact (s[0]'hlt0).toNat_lt
  have hb2 : b < 256 := by rw [← hb]; exact (s[1]'hlt1).toNat_lt
  rw [numOk_many s h2 a b ha hb]
  have e1 : ¬ (s.size : Int) < 2 := by omega
  have w1 : IntKind.i64.wrap (a : Int) = (a : Int) := wrap_fit a (by unfold maxLen; omega)
  have w2 : IntKind.i64.wrap (b : Int) = (b : Int) := wrap_fit b (by unfold maxLen; omega)
  obtain ⟨y, hy⟩ : ∃ y, a * 2 = y := ⟨_, rfl⟩
  obtain ⟨z, hz⟩ : ∃ z, b / 128 = z := ⟨_, rfl⟩
  obtain ⟨x, hx⟩ : ∃ x, y + z = x := ⟨_, rfl⟩
  have e2 : (a : Int) * 2 = (y : Int) := by omega
  have e3 : (b : Int) / 128 = (z : Int) := by omega
  have e4 : (y : Int) + (z : Int) = (x : Int) := by omega
  have w3 : IntKind.i64.wrap (y : Int) = (y : Int) := wrap_fit y (by unfold maxLen; omega)
  have w4 : IntKind.i64.wrap (z : Int) = (z : Int) := wrap_fit z (by unfold maxLen; omega)
  have w5 : IntKind.i64.wrap (x : Int) = (x : Int) := wrap_fit x (by unfold maxLen; omega)
  have hq : decide (¬ (a = 0 ∧ b < 128) ∧ ¬ (a = 255 ∧ 128 ≤ b)) = decide (¬ x = 0 ∧ ¬ x = 511) := decide_eq_decide.2 (by omega)
  rw [hq]
  clear hq h0 h1 h2 ha2 hb2 hy hz hx
  by_cases h3 : x = 0
  · subst h3
    rw [decide_eq_false (by omega)]
    go_enter Tryd.func38, Tryd.ntmps38
    go_wp2_with fail
    go_quiet (fail)
    go_wp2_with fail
    go_ret
    exact ⟨rfl, below_drewN _ _ _⟩
  · have e5 : ((x : Int) == 0) = false := by rw [beq_eq_false_iff_ne]; omega
    have e5n : ¬ (x : Int) = 0 := by omega
    by_cases h4 : x = 511
    · subst h4
      rw [decide_eq_false (by omega)]
      clear h3
      go_enter Tryd.func38, Tryd.ntmps38
      go_wp2_with fail
      go_quiet (fail)
      go_wp2_with fail
      go_ret
      exact ⟨rfl, below_drewN _ _ _⟩
    · have e6 : ((x : Int) == 511) = false := by rw [beq_eq_false_iff_ne]; omega
      have e6n : ¬ (x : Int) = 511 := by omega
      rw [decide_eq_true (by omega)]
      have f : ((x : Int) != 0 && (x : Int) != 511) = true := by simp [bne, e5, e6]
      have HF := Lib.hid f
      clear h3 h4 f
      go_enter Tryd.func38, Tryd.ntmps38
      go_wp2_with fail
      go_quiet (fail)
      go_wp2_with fail
      go_ret
      exact ⟨congrArg (fun b => Ending.returned (.bool b)) HF.out, below_drewN _ _ _⟩
set_option maxRecDepth 100000 in
set_option maxHeartbeats 1600000 in
theorem rbody_3 (s : ByteArray) (hz : s.size ≤ 140737488351232) (w : World) : Calls Tryd.prog 38 #[.int .u8 3, .string s] w (RetBb2 (bodyN 3 s.toList) w) := by
  rw [show bodyN 3 s.toList = bitsOk s.toList from rfl]
  by_cases h0 : s.size = 0
  · obtain rfl := nil_of s h0
    rw [show bitsOk ByteArray.empty.toList = false by rw [tl_empty]; decide]
    clear h0 hz
    go_enter Tryd.func38, Tryd.ntmps38
    go_wp2_with fail
    go_ret
    exact ⟨rfl, Below.refl _ _⟩
  have hlt0 : 0 < s.size := by omega
  obtain ⟨a, ha⟩ : ∃ a, (s[0]'hlt0).toNat = a := ⟨_, rfl⟩
  have ha2 : a < 256 := by rw [← ha]; exact (s[0]'hlt0).toNat_lt
  have w1 : IntKind.i64.wrap (a : Int) = (a : Int) := wrap_fit a (by unfold maxLen; omega)
  by_cases h1 : s.size = 1
  · have e1 : (s.size : Int) = 1 := by omega
    by_cases h2 : a = 0
    · subst h2
      rw [bits_one s hlt0 0 ha (by omega) h1, decide_eq_true rfl]
      clear h0 h1 hz ha2
      go_enter Tryd.func38, Tryd.ntmps38
      go_wp2_with fail
      go_ret
      exact ⟨rfl, Below.refl _ _⟩
    · have e2 : ((a : Int) == 0) = false := by rw [beq_eq_false_iff_ne]; omega
      have hF : bitsOk s.toList = false := by
        by_cases h7 : 7 < a
        · exact bits_gt s hlt0 a ha h7
        · rw [bits_one s hlt0 a ha h7 h1, decide_eq_false h2]
      rw [hF]
      clear h0 h1 hz ha2 h2
      go_enter Tryd.func38, Tryd.ntmps38
      go_wp2_with fail
      go_ret
      exact ⟨rfl, Below.refl _ _⟩
  · have e1 : ¬ (s.size : Int) < 2 := by omega
    by_cases h7 : 7 < a
    · rw [bits_gt s hlt0 a ha h7]
      have e2 : (7 : Int) < (a : Int) := by omega
      clear h0 h1 hz ha2 h7
      go_enter Tryd.func38, Tryd.ntmps38
      go_wp2_with fail
      go_ret
      exact ⟨rfl, Below.refl _ _⟩
    · have e2 : ¬ (7 : Int) < (a : Int) := by omega
      obtain ⟨m, hm⟩ : ∃ m, s.size - 1 = m := ⟨_, rfl⟩
      have em : (s.size : Int) - 1 = (m : Int) := by omega
      have w2 : IntKind.i64.wrap (m : Int) = (m : Int) := wrap_fit m (by unfold maxLen; omega)
      have hlt1 : m < s.size := by omega
      obtain ⟨x, hx⟩ : ∃ x, (s[m]'hlt1).toNat = x := ⟨_, rfl⟩
      have hx2 : x < 256 := by rw [← hx]; exact (s[m]'hlt1).toNat_lt
      obtain ⟨R, hR⟩ : ∃ R, decide (x % 2 ^ a = 0) = R := ⟨_, rfl⟩
      rw [bits_many s hlt0 a ha h7 h1 m hm hlt1 x _ hx rfl, hR]
      have HR := Lib.hid (And.intro hR (And.intro hx2 h7))
      clear hR h0 h1 hz ha2 h7 hm hx2
      go_enter Tryd.func38, Tryd.ntmps38
      go_wp2_with fail
      go_loop [7] (fun vi => ∃ i : Nat, vi = .int .i64 (i : Int) ∧ i ≤ a ∧ x % 2 ^ i = 0) (fun vi => a - (intOf vi).toNat)
      case atStart => exact ⟨0, rfl, Nat.zero_le _, by rw [Nat.pow_zero, Nat.mod_one]⟩
      case round =>
        obtain ⟨i, rfl, hi, hxi⟩ := hrel
        by_cases hia : i < a
        · have e5 : (i : Int) < (a : Int) := by omega
          have HI := Lib.hid (And.intro hia hxi)
          have hi8 : i < 7 := by have := HR.out.2.2; omega
          clear hia hxi hi
          rcases (by omega : i = 0 ∨ i = 1 ∨ i = 2 ∨ i = 3 ∨ i = 4 ∨ i = 5 ∨ i = 6) with rfl | rfl | rfl | rfl | rfl | rfl | rfl
          · clear hi8
            by_cases hb : x % 2 = 1
            · have f : ((x : Int) % 2 == 1) = true := by rw [beq_iff_eq]; omega
              obtain rfl : R = false := by rw [← HR.out.1]; exact decide_eq_false (bit_stop x 0 a HI.out.1 (by rw [Nat.pow_zero, Nat.div_one]; exact hb))
              clear hb
              go_wp2_with fail
              go_ret
              exact ⟨rfl, Below.refl _ _⟩
            · have f : ((x : Int) % 2 == 1) = false := by rw [beq_eq_false_iff_ne]; omega
              have HN := Lib.hid (bit_next x 0 HI.out.2 (by rw [Nat.pow_zero, Nat.div_one]; omega))
              clear hb
              go_wp2_with fail
              go_round
              case rel => exact ⟨1, rfl, HI.out.1, HN.out⟩
              case measure => have := HI.out.1; simp [intOf]; omega
          · clear hi8
            by_cases hb : x / 2 % 2 = 1
            · have f : ((x : Int) / 2 % 2 == 1) = true := by rw [beq_iff_eq]; omega
              obtain rfl : R = false := by rw [← HR.out.1]; exact decide_eq_false (bit_stop x 1 a HI.out.1 hb)
              clear hb
              go_wp2_with fail
              go_ret
              exact ⟨rfl, Below.refl _ _⟩
            · have f : ((x : Int) / 2 % 2 == 1) = false := by rw [beq_eq_false_iff_ne]; omega
              have HN := Lib.hid (bit_next x 1 HI.out.2 (show x / 2 ^ 1 % 2 = 0 by show x / 2 % 2 = 0; omega))
              clear hb
              go_wp2_with fail
              go_round
              case rel => exact ⟨2, rfl, HI.out.1, HN.out⟩
              case measure => have := HI.out.1; simp [intOf]; omega
          · clear hi8
            by_cases hb : x / 4 % 2 = 1
            · have f : ((x : Int) / 4 % 2 == 1) = true := by rw [beq_iff_eq]; omega
              obtain rfl : R = false := by rw [← HR.out.1]; exact decide_eq_false (bit_stop x 2 a HI.out.1 hb)
              clear hb
              go_wp2_with fail
              go_ret
              exact ⟨rfl, Below.refl _ _⟩
            · have f : ((x : Int) / 4 % 2 == 1) = false := by rw [beq_eq_false_iff_ne]; omega
              have HN := Lib.hid (bit_next x 2 HI.out.2 (show x / 2 ^ 2 % 2 = 0 by show x / 4 % 2 = 0; omega))
              clear hb
              go_wp2_with fail
              go_round
              case rel => exact ⟨3, rfl, HI.out.1, HN.out⟩
              case measure => have := HI.out.1; simp [intOf]; omega
          · clear hi8
            by_cases hb : x / 8 % 2 = 1
            · have f : ((x : Int) / 8 % 2 == 1) = true := by rw [beq_iff_eq]; omega
              obtain rfl : R = false := by rw [← HR.out.1]; exact decide_eq_false (bit_stop x 3 a HI.out.1 hb)
              clear hb
              go_wp2_with fail
              go_ret
              exact ⟨rfl, Below.refl _ _⟩
            · have f : ((x : Int) / 8 % 2 == 1) = false := by rw [beq_eq_false_iff_ne]; omega
              have HN := Lib.hid (bit_next x 3 HI.out.2 (show x / 2 ^ 3 % 2 = 0 by show x / 8 % 2 = 0; omega))
              clear hb
              go_wp2_with fail
              go_round
              case rel => exact ⟨4, rfl, HI.out.1, HN.out⟩
              case measure => have := HI.out.1; simp [intOf]; omega
          · clear hi8
            by_cases hb : x / 16 % 2 = 1
            · have f : ((x : Int) / 16 % 2 == 1) = true := by rw [beq_iff_eq]; omega
              obtain rfl : R = false := by rw [← HR.out.1]; exact decide_eq_false (bit_stop x 4 a HI.out.1 hb)
              clear hb
              go_wp2_with fail
              go_ret
              exact ⟨rfl, Below.refl _ _⟩
            · have f : ((x : Int) / 16 % 2 == 1) = false := by rw [beq_eq_false_iff_ne]; omega
              have HN := Lib.hid (bit_next x 4 HI.out.2 (show x / 2 ^ 4 % 2 = 0 by show x / 16 % 2 = 0; omega))
              clear hb
              go_wp2_with fail
              go_round
              case rel => exact ⟨5, rfl, HI.out.1, HN.out⟩
              case measure => have := HI.out.1; simp [intOf]; omega
          · clear hi8
            by_cases hb : x / 32 % 2 = 1
            · have f : ((x : Int) / 32 % 2 == 1) = true := by rw [beq_iff_eq]; omega
              obtain rfl : R = false := by rw [← HR.out.1]; exact decide_eq_false (bit_stop x 5 a HI.out.1 hb)
              clear hb
              go_wp2_with fail
              go_ret
              exact ⟨rfl, Below.refl _ _⟩
            · have f : ((x : Int) / 32 % 2 == 1) = false := by rw [beq_eq_false_iff_ne]; omega
              have HN := Lib.hid (bit_next x 5 HI.out.2 (show x / 2 ^ 5 % 2 = 0 by show x / 32 % 2 = 0; omega))
              clear hb
              go_wp2_with fail
              go_round
              case rel => exact ⟨6, rfl, HI.out.1, HN.out⟩
              case measure => have := HI.out.1; simp [intOf]; omega
          · clear hi8
            by_cases hb : x / 64 % 2 = 1
            · have f : ((x : Int) / 64 % 2 == 1) = true := by rw [beq_iff_eq]; omega
              obtain rfl : R = false := by rw [← HR.out.1]; exact decide_eq_false (bit_stop x 6 a HI.out.1 hb)
              clear hb
              go_wp2_with fail
              go_ret
              exact ⟨rfl, Below.refl _ _⟩
            · have f : ((x : Int) / 64 % 2 == 1) = false := by rw [beq_eq_false_iff_ne]; omega
              have HN := Lib.hid (bit_next x 6 HI.out.2 (show x / 2 ^ 6 % 2 = 0 by show x / 64 % 2 = 0; omega))
              clear hb
              go_wp2_with fail
              go_round
              case rel => exact ⟨7, rfl, HI.out.1, HN.out⟩
              case measure => have := HI.out.1; simp [intOf]; omega
        · obtain rfl : i = a := by omega
          have e5 : ¬ (i : Int) < (i : Int) := by omega
          obtain rfl : R = true := by rw [← HR.out.1]; exact decide_eq_true hxi
          clear hia hi hxi
          go_wp2_with fail
          go_ret
          exact ⟨rfl, Below.refl _ _⟩
set_option maxRecDepth 100000 in
set_option maxHeartbeats 1600000 in
theorem rbody_6 (s : ByteArray) (hz : s.size ≤ 140737488351232) (w : World) : Calls Tryd.prog 38 #[.int .u8 6, .string s] w (RetBb2 (bodyN 6 s.toList) w) := by
  rw [show bodyN 6 s.toList = typeOk s.toList from rfl]
  obtain ⟨n, hn⟩ : ∃ n, s.size = n := ⟨_, rfl⟩
  obtain ⟨R, hR⟩ : ∃ R, typeGo true s.toList = R := ⟨_, rfl⟩
  rw [typeOk_of s n hn, hR]
  have HR := Lib.hid hR
  have HN := Lib.hid hn
  have HZ := Lib.hid hz
  clear hR hz
  go_enter Tryd.func38, Tryd.ntmps38
  go_wp2_with fail
  go_loop [8, 9] (fun vb vi => ∃ (b : Bool) (i : Nat), vb = .bool b ∧ vi = .int .i64 (i : Int) ∧ i ≤ n ∧ typeGo b (s.toList.drop i) = R) (fun _ vi => n - (intOf vi).toNat)
  case atStart => exact ⟨true, 0, rfl, rfl, Nat.zero_le _, HR.out⟩
  case round =>
    obtain ⟨b, i, rfl, rfl, hi, hT⟩ := hrel
    have HT := Lib.hid hT
    clear hT
    by_cases hin : i < n
    · have hlt : i < s.size := by omega
      have e1 : (i : Int) < (n : Int) := by omega
      obtain ⟨x, hx⟩ : ∃ x, (s[i]'hlt).toNat = x := ⟨_, rfl⟩
      have hd : typeGo b (s.toList.drop i) = if b = true ∧ x = 128 then false else typeGo (decide (x < 128)) (s.toList.drop (i + 1)) := by
        rw [← List.getElem_cons_drop (h := by rw [tl_size]; exact hlt), typeGo]
        have : (s.toList[i]'(by rw [tl_size]; exact hlt)).toNat = x := by
          have h2 := tl_getD s i hlt
          rw [List.getD, List.getElem?_eq_getElem (by rw [tl_size]; exact hlt)] at h2
          rw [← hx, ← h2]; rfl
        rw [this]
      have HD := Lib.hid hd
      have HI := Lib.hid (show ∃ k, n = i + 1 + k from ⟨n - i - 1, by omega⟩)
      have e9 : (i : Int) ≤ 140737488351232 := by have := HZ.out; omega
      clear hd
      by_cases h1 : b = true ∧ x = 128
      · obtain ⟨rfl, rfl⟩ := h1
        have HF : Hid (R = false) := by rw [← HT.out, HD.out, if_pos ⟨rfl, rfl⟩]; rfl
        clear hin hi
        go_wp2_with fail
        go_ret
        exact ⟨by rw [HF.out, Bool.and_false]; rfl, Below.refl _ _⟩
      · by_cases h2 : x < 128
        · have f1 : (x : Int) < 128 := by omega
          have HF : Hid (typeGo true (s.toList.drop (i + 1)) = R) := by rw [← HT.out, HD.out, if_neg h1, decide_eq_true h2]; rfl
          have f3 : ((x : Int) == 128) = false := by rw [beq_eq_false_iff_ne]; omega
          cases b
          all_goals
            clear hin hi h1 h2
            go_wp2_with fail
            go_round
            case rel => exact ⟨true, i + 1, rfl, by go_num, by obtain ⟨k, hk⟩ := HI.out; omega, HF.out⟩
            case measure => obtain ⟨k, hk⟩ := HI.out; simp [intOf]; omega
        · have f1 : ¬ (x : Int) < 128 := by omega
          have f2 : decide ((x : Int) < 128) = false := decide_eq_false f1
          have HF : Hid (typeGo false (s.toList.drop (i + 1)) = R) := by rw [← HT.out, HD.out, if_neg h1, decide_eq_false h2]; rfl
          cases b
          · clear hin hi h1 h2
            go_wp2_with fail
            go_round
            case rel => exact ⟨false, i + 1, rfl, by go_num, by obtain ⟨k, hk⟩ := HI.out; omega, HF.out⟩
            case measure => obtain ⟨k, hk⟩ := HI.out; simp [intOf]; omega
          · have f3 : ((x : Int) == 128) = false := by
              have hne : x ≠ 128 := fun h => h1 ⟨rfl, h⟩
              rw [beq_eq_false_iff_ne]; omega
            clear hin hi h1 h2
            go_wp2_with fail
            go_round
            case rel => exact ⟨false, i + 1, rfl, by go_num, by obtain ⟨k, hk⟩ := HI.out; omega, HF.out⟩
            case measure => obtain ⟨k, hk⟩ := HI.out; simp [intOf]; omega
    · obtain rfl : i = n := by omega
      have e1 : ¬ (i : Int) < (i : Int) := by omega
      have HF : Hid (R = b) := by rw [← HT.out, List.drop_eq_nil_of_le (by rw [tl_size]; omega)]; rfl
      by_cases h0 : 0 < i
      · have e2 : (0 : Int) < (i : Int) := by omega
        clear hin hi
        go_wp2_with fail
        go_ret
        exact ⟨by rw [HF.out]; rfl, Below.refl _ _⟩
      · obtain rfl : i = 0 := by omega
        clear hin hi
        go_wp2_with fail
        go_ret
        exact ⟨rfl, Below.refl _ _⟩
set_option maxRecDepth 100000 in
set_option maxHeartbeats 1600000 in
theorem rbody_any (t : Nat) (ht : t < 256) (s : ByteArray) (hz : s.size ≤ 140737488351232) (w : World) : Calls Tryd.prog 38 #[.int .u8 (t : Int), .string s] w (RetBb2 (bodyN t s.toList) w) := by
  by_cases h1 : t = 1
  · subst h1; exact rbody_1 s w
  by_cases h2 : t = 2
  · subst h2; exact rbody_2 s hz w
  by_cases h3 : t = 3
  · subst h3; exact rbody_3 s hz w
  by_cases h5 : t = 5
  · subst h5
    by_cases h0 : s.size = 0
    · have e0 : (s.size : Int) = 0 := by omega
      rw [show bodyN 5 s.toList = true from decide_eq_true (by rw [← List.length_eq_zero_iff, tl_size]; exact h0)]
      clear ht h1 h2 h3 h0 hz
      go_enter Tryd.func38, Tryd.ntmps38
      go_wp2_with fail
      go_ret
      exact ⟨rfl, Below.refl _ _⟩
    · have e0 : ((s.size : Int) == 0) = false := by rw [beq_eq_false_iff_ne]; omega
      rw [show bodyN 5 s.toList = false from decide_eq_false (by rw [← List.length_eq_zero_iff, tl_size]; exact h0)]
      clear ht h1 h2 h3 h0 hz
      go_enter Tryd.func38, Tryd.ntmps38
      go_wp2_with fail
      go_ret
      exact ⟨rfl, Below.refl _ _⟩
  by_cases h6 : t = 6
  · subst h6; exact rbody_6 s hz w
  by_cases h7 : t = 12
  · subst h7
    rw [show bodyN 12 s.toList = Lib.validD s.toList from rfl]
    have TX := Lib.hid (text_any s w hz)
    clear ht h1 h2 h3 h5 h6 hz
    go_enter Tryd.func38, Tryd.ntmps38
    go_wp2_with (first | (go_at_call 60; refine TX.out.mono ?_; rintro e w1 ⟨rfl, hb1⟩))
    go_ret
    exact ⟨rfl, hb1⟩
  · rw [bodyN, if_neg h1, if_neg h2, if_neg h3, if_neg h5, if_neg h6, if_neg h7]
    have e1 : ¬ (t : Int) = 1 := by omega
    have e2 : ¬ (t : Int) = 2 := by omega
    have e3 : ¬ (t : Int) = 3 := by omega
    have e5 : ¬ (t : Int) = 5 := by omega
    have e6 : ¬ (t : Int) = 6 := by omega
    have e7 : ¬ (t : Int) = 12 := by omega
    clear ht h1 h2 h3 h5 h6 h7 hz
    go_enter Tryd.func38, Tryd.ntmps38
    go_wp2_with fail
    go_ret
    exact ⟨rfl, Below.refl _ _⟩
end Go.Proofs.YteglahkgnggmgaaDoor
