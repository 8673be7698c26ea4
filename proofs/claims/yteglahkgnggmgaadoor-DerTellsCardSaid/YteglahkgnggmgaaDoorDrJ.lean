/- Bodies of elements without elements: the program's side. -/
import Derived.Test.YteglahkgnggmgaaDoorDrI
namespace Go.Proofs.YteglahkgnggmgaaDoor
open Go.RowKit
set_option linter.unusedVariables false
set_option linter.unusedSimpArgs false
open Dr
theorem tl_empty : ByteArray.empty.toList = [] := by rw [Lib.toList_data]; rfl
theorem nil_of (s : ByteArray) (h : s.size = 0) : s = ByteArray.empty := tl_inj (by
  have : s.toList.length = 0 := by rw [tl_size]; exact h
  rw [List.length_eq_zero_iff.1 this, tl_empty])
theorem tl_nil_no (s : ByteArray) (h : 0 < s.size) : (s.toList == []) = false := by
  rw [beq_eq_false_iff_ne]
  intro e
  have : s.toList.length = 0 := by rw [e]; rfl
  rw [tl_size] at this
  omega
theorem tl_getD (s : ByteArray) (k : Nat) (h : k < s.size) : s.toList.getD k 0 = s[k] := by rw [List.getD, tl_get s k h]; rfl
theorem numOk_one (s : ByteArray) (h : s.size = 1) : numOk s.toList = true := by
  rw [numOk, decide_eq_true_iff]
  refine ⟨fun e => ?_, fun h2 => ?_⟩
  · have : s.toList.length = 0 := by rw [e]; rfl
    rw [tl_size] at this
    omega
  · rw [tl_size] at h2; omega
theorem numOk_many (s : ByteArray) (h : 2 ≤ s.size) (a b : Nat) (ha : (s[0]'(by omega)).toNat = a) (hb : (s[1]'(by omega)).toNat = b) : numOk s.toList = decide (¬ (a = 0 ∧ b < 128) ∧ ¬ (a = 255 ∧ 128 ≤ b)) := by
  rw [numOk]
  refine decide_eq_decide.2 ?_
  rw [tl_getD s 0 (by omega), tl_getD s 1 (by omega), ha, hb]
  constructor
  · intro ⟨_, h2⟩
    exact h2 (by rw [tl_size]; exact h)
  · intro h2
    refine ⟨fun e => ?_, fun _ => h2⟩
    have : s.toList.length = 0 := by rw [e]; rfl
    rw [tl_size] at this
    omega
set_option maxRecDepth 100000 in
set_option maxHeartbeats 1600000 in
theorem rightNumber_any (s : ByteArray) (w : World) : Calls Tryd.prog 72 #[.string s] w (RetVal (.bool (numOk s.toList)) w) := by
  by_cases h0 : s.size = 0
  · obtain rfl := nil_of s h0
    rw [show numOk ByteArray.empty.toList = false by rw [tl_empty]; decide]
    clear h0
    go_enter Tryd.func72, Tryd.ntmps72
    go_wp2_with fail
    go_ret
    exact ⟨rfl, rfl⟩
  by_cases h1 : s.size = 1
  · rw [numOk_one s h1]
    have e1 : (s.size : Int) < 2 := by omega
    have e2 := tl_nil_no s (by omega)
    clear h0
    go_enter Tryd.func72, Tryd.ntmps72
    go_wp2_with fail
    go_ret
    exact ⟨rfl, rfl⟩
  have h2 : 2 ≤ s.size := by omega
  have hlt0 : 0 < s.size := by omega
  have hlt1 : 1 < s.size := by omega
  obtain ⟨a, ha⟩ : ∃ a, (s[0]'hlt0).toNat = a := ⟨_, rfl⟩
  obtain ⟨b, hb⟩ : ∃ b, (s[1]'hlt1).toNat = b := ⟨_, rfl⟩
  rw [numOk_many s h2 a b ha hb]
  have e1 : ¬ (s.size : Int) < 2 := by omega
  have e2 : (1 : Int) < (s.size : Int) := by omega
  have e3 : (0 : Int) < (s.size : Int) := by omega
  clear h0 h1 h2
  by_cases hq : 128 ≤ b
  · have f1 : (128 : Int) ≤ (b : Int) := by omega
    by_cases p0 : a = 0
    · subst p0
      rw [show decide (¬ (0 = 0 ∧ b < 128) ∧ ¬ (0 = 255 ∧ 128 ≤ b)) = true from decide_eq_true (by omega)]
      clear hq
      go_enter Tryd.func72, Tryd.ntmps72
      go_wp2_with fail
      go_ret
      exact ⟨rfl, rfl⟩
    by_cases p1 : a = 255
    · subst p1
      rw [show decide (¬ (255 = 0 ∧ b < 128) ∧ ¬ (255 = 255 ∧ 128 ≤ b)) = false from decide_eq_false (by omega)]
      clear hq p0
      go_enter Tryd.func72, Tryd.ntmps72
      go_wp2_with fail
      go_ret
      exact ⟨rfl, rfl⟩
    · rw [show decide (¬ (a = 0 ∧ b < 128) ∧ ¬ (a = 255 ∧ 128 ≤ b)) = true from decide_eq_true (by omega)]
      have g0 : ((a : Int) == 0) = false := by rw [beq_eq_false_iff_ne]; omega
      have g1 : ((a : Int) == 255) = false := by rw [beq_eq_false_iff_ne]; omega
      clear hq p0 p1
      go_enter Tryd.func72, Tryd.ntmps72
      go_wp2_with fail
      go_ret
      exact ⟨rfl, rfl⟩
  · have f1 : decide ((128 : Int) ≤ (b : Int)) = false := decide_eq_false (by omega)
    have f2 : ¬ (128 : Int) ≤ (b : Int) := by omega
    by_cases p0 : a = 0
    · subst p0
      rw [show decide (¬ (0 = 0 ∧ b < 128) ∧ ¬ (0 = 255 ∧ 128 ≤ b)) = false from decide_eq_false (by omega)]
      clear hq
      go_enter Tryd.func72, Tryd.ntmps72
      go_wp2_with fail
      go_ret
      exact ⟨rfl, rfl⟩
    by_cases p1 : a = 255
    · subst p1
      rw [show decide (¬ (255 = 0 ∧ b < 128) ∧ ¬ (255 = 255 ∧ 128 ≤ b)) = true from decide_eq_true (by omega)]
      clear hq p0
      go_enter Tryd.func72, Tryd.ntmps72
      go_wp2_with fail
      go_ret
      exact ⟨rfl, rfl⟩
    · rw [show decide (¬ (a = 0 ∧ b < 128) ∧ ¬ (a = 255 ∧ 128 ≤ b)) = true from decide_eq_true (by omega)]
      have g0 : ((a : Int) == 0) = false := by rw [beq_eq_false_iff_ne]; omega
      have g1 : ((a : Int) == 255) = false := by rw [beq_eq_false_iff_ne]; omega
      clear hq p0 p1
      go_enter Tryd.func72, Tryd.ntmps72
      go_wp2_with fail
      go_ret
      exact ⟨rfl, rfl⟩
theorem and_low : ∀ (a : Fin 8) (x : Fin 256), x.val &&& (2 ^ a.val - 1) = x.val % 2 ^ a.val := by decide +kernel
theorem u8_low (a x : Nat) (ha : a < 8) (hx : x < 256) (k : Int) (hk : ((2 ^ a - 1 : Nat) : Int) = k) : bits .and .u8 (x : Int) k = ((x % 2 ^ a : Nat) : Int) := by
  have h2 : 2 ^ a ≤ 128 := Nat.pow_le_pow_right (by decide) (show a ≤ 7 by omega)
  have := u8_and_nat x (2 ^ a - 1) (by omega) (by omega)
  rw [and_low ⟨a, ha⟩ ⟨x, hx⟩] at this
  rw [← hk]
  exact this
theorem bits_of (s : ByteArray) (h : 0 < s.size) (a : Nat) (ha : (s[0]'h).toNat = a) : bitsOk s.toList = decide (a ≤ 7 ∧ (if s.size = 1 then a = 0 else (s.toList.getD (s.size - 1) 0).toNat % 2 ^ a = 0)) := by
  rw [bitsOk]
  refine decide_eq_decide.2 ?_
  rw [tl_getD s 0 h, ha, tl_size]
  constructor
  · exact fun h2 => h2.2
  · exact fun h2 => ⟨fun e => by have : s.toList.length = 0 := by rw [e]; rfl
                                 rw [tl_size] at this; omega, h2⟩
theorem bits_gt (s : ByteArray) (h : 0 < s.size) (a : Nat) (ha : (s[0]'h).toNat = a) (h7 : 7 < a) : bitsOk s.toList = false := by rw [bits_of s h a ha]; exact decide_eq_false (fun h => by omega)
theorem bits_one (s : ByteArray) (h : 0 < s.size) (a : Nat) (ha : (s[0]'h).toNat = a) (h7 : ¬ 7 < a) (h1 : s.size = 1) : bitsOk s.toList = decide (a = 0) := by
  rw [bits_of s h a ha]
  refine decide_eq_decide.2 ?_
  rw [if_pos h1]
  exact ⟨fun h => h.2, fun h => ⟨by omega, h⟩⟩
theorem bits_many (s : ByteArray) (h : 0 < s.size) (a : Nat) (ha : (s[0]'h).toNat = a) (h7 : ¬ 7 < a) (h1 : ¬ s.size = 1) (m : Nat) (hm : s.size - 1 = m) (hlt : m < s.size) (x r : Nat) (hx : (s[m]'hlt).toNat = x) (hr : x % 2 ^ a = r) : bitsOk s.toList = decide (r = 0) := by
  rw [bits_of s h a ha]
  refine decide_eq_decide.2 ?_
  rw [if_neg h1, hm, tl_getD s m hlt, hx, hr]
  exact ⟨fun h => h.2, fun h => ⟨by omega, h⟩⟩
set_option maxRecDepth 100000 in
set_option maxHeartbeats 3200000 in
theorem rightBits_any (s : ByteArray) (hz : s.size ≤ 140737488351232) (w : World) : Calls Tryd.prog 73 #[.string s] w (fun e w' => e = .returned (.bool (bitsOk s.toList)) ∧ Below w.heap.size w w') := by
  by_cases h0 : s.size = 0
  · obtain rfl := nil_of s h0
    rw [show bitsOk ByteArray.empty.toList = false by rw [tl_empty]; decide]
    clear h0 hz
    go_enter Tryd.func73, Tryd.ntmps73
    go_wp2_with fail
    go_ret
    exact ⟨rfl, Below.refl _ _⟩
  have hlt0 : 0 < s.size := by omega
  obtain ⟨a, ha⟩ : ∃ a, (s[0]'hlt0).toNat = a := ⟨_, rfl⟩
  have e1 := tl_nil_no s hlt0
  have e3 : (0 : Int) < (s.size : Int) := by omega
  by_cases h7 : 7 < a
  · rw [bits_gt s hlt0 a ha h7]
    have f1 : (7 : Int) < (a : Int) := by omega
    clear h0 hz h7
    go_enter Tryd.func73, Tryd.ntmps73
    go_wp2_with fail
    go_ret
    exact ⟨rfl, Below.refl _ _⟩
  have f1 : decide ((7 : Int) < (a : Int)) = false := decide_eq_false (by omega)
  have f2 : ¬ (7 : Int) < (a : Int) := by omega
  by_cases h1 : s.size = 1
  · rw [bits_one s hlt0 a ha h7 h1]
    have f3 : ((s.size : Int) == 1) = true := by rw [beq_iff_eq]; omega
    by_cases p0 : a = 0
    · subst p0
      clear h0 hz h7 h1
      go_enter Tryd.func73, Tryd.ntmps73
      go_wp2_with fail
      go_ret
      exact ⟨rfl, Below.refl _ _⟩
    · have f4 : ((a : Int) == 0) = false := by rw [beq_eq_false_iff_ne]; omega
      rw [show decide (a = 0) = false from decide_eq_false p0]
      clear h0 hz h7 h1 p0
      go_enter Tryd.func73, Tryd.ntmps73
      go_wp2_with fail
      go_ret
      exact ⟨rfl, Below.refl _ _⟩
  have f3 : ((s.size : Int) == 1) = false := by rw [beq_eq_false_iff_ne]; omega
  obtain ⟨m, hm⟩ : ∃ m, s.size - 1 = m := ⟨_, rfl⟩
  have hlt1 : m < s.size := by omega
  obtain ⟨x, hx⟩ : ∃ x, (s[m]'hlt1).toNat = x := ⟨_, rfl⟩
  have hx2 : x < 256 := by rw [← hx]; exact (s[m]'hlt1).toNat_lt
  have f5 : IntKind.i64.wrap (m : Int) = (m : Int) := wrap_fit m (by unfold maxLen; omega)
  have f6 : (m : Int) < (s.size : Int) := by omega
  have f7 : (s.size : Int) - 1 = (m : Int) := by omega
  have ha8 : a < 8 := by omega
  have HX := Lib.hid (fun k hk => u8_low a x ha8 hx2 k hk)
  obtain ⟨r, hr⟩ : ∃ r, x % 2 ^ a = r := ⟨_, rfl⟩
  rw [hr] at HX
  rw [bits_many s hlt0 a ha h7 h1 m hm hlt1 x r hx hr]
  clear h0 hz h1 h7 hm hx2 hr
  rcases (by omega : r = 0 ∨ r ≠ 0) with rfl | hr
  all_goals
    rcases (by omega : a = 0 ∨ a = 1 ∨ a = 2 ∨ a = 3 ∨ a = 4 ∨ a = 5 ∨ a = 6 ∨ a = 7) with rfl | rfl | rfl | rfl | rfl | rfl | rfl | rfl
  all_goals
    have f8 := HX.out _ rfl
    first
      | (have f9 : ((r : Int) == 0) = false := by rw [beq_eq_false_iff_ne]; omega
         rw [show decide (r = 0) = false from decide_eq_false hr]
         clear hr f1 f2 ha8)
      | clear f1 f2 ha8
    simp only [Nat.reducePow, Nat.reduceSub, Int.cast_ofNat_Int] at f8
    go_enter Tryd.func73, Tryd.ntmps73
    go_wp2_with fail
    go_quiet (fail)
    go_wp2_with fail
    go_ret
    exact ⟨rfl, below_drewN _ _ _⟩
theorem typeOk_of (s : ByteArray) (n : Nat) (h : s.size = n) : typeOk s.toList = (decide (0 < n) && typeGo true s.toList) := by
  rw [typeOk]
  congr 1
  refine decide_eq_decide.2 ?_
  rw [← h, ← tl_size]
  exact ⟨fun h2 => List.length_pos_iff.2 h2, fun h2 => List.length_pos_iff.1 h2⟩
set_option maxRecDepth 100000 in
set_option maxHeartbeats 1600000 in
theorem rightType_any (s : ByteArray) (hz : s.size ≤ 140737488351232) (w : World) : Calls Tryd.prog 74 #[.string s] w (RetVal (.bool (typeOk s.toList)) w) := by
  obtain ⟨n, hn⟩ : ∃ n, s.size = n := ⟨_, rfl⟩
  obtain ⟨R, hR⟩ : ∃ R, typeGo true s.toList = R := ⟨_, rfl⟩
  rw [typeOk_of s n hn, hR]
  have HR := Lib.hid hR
  have HN := Lib.hid hn
  have HZ := Lib.hid hz
  clear hR hz
  go_enter Tryd.func74, Tryd.ntmps74
  go_wp2_with fail
  go_loop [3, 7] (fun vb vi => ∃ (b : Bool) (i : Nat), vb = .bool b ∧ vi = .int .i64 (i : Int) ∧ i ≤ n ∧ typeGo b (s.toList.drop i) = R) (fun _ vi => n - (intOf vi).toNat)
  case atStart => exact ⟨true, 0, rfl, rfl, Nat.zero_le _, HR.out⟩
  case round =>
    obtain ⟨b, i, rfl, rfl, hi, hT⟩ := hrel
    have HT := Lib.hid hT
    clear hT
    by_cases hin : i < n
    · have hlt : i < s.size := by omega
      have e1 : (i : Int) < (n : Int) := by omega
      obtain ⟨x, hx⟩ : ∃ x, (s[i]'hlt).toNat = x := ⟨_, rfl⟩
      have hd : typeGo b (s.toList.drop i) = if b = true ∧ x = 128 then false else typeGo (decide (x < 128)) (s.toList.drop (i + 1)) := by
        rw [← List.getElem_cons_drop (h := by rw [tl_size]; exact hlt), typeGo]
        have : (s.toList[i]'(by rw [tl_size]; exact hlt)).toNat = x := by
          have h2 := tl_getD s i hlt
          rw [List.getD, List.getElem?_eq_getElem (by rw [tl_size]; exact hlt)] at h2
          rw [← hx, ← h2]; rfl
        rw [this]
      have HD := Lib.hid hd
      have HI := Lib.hid (show ∃ k, n = i + 1 + k from ⟨n - i - 1, by omega⟩)
      have e9 : (i : Int) ≤ 140737488351232 := by have := HZ.out; omega
      clear hd
      by_cases h1 : b = true ∧ x = 128
      · obtain ⟨rfl, rfl⟩ := h1
        have HF : Hid (R = false) := by rw [← HT.out, HD.out, if_pos ⟨rfl, rfl⟩]; rfl
        clear hin hi
        go_wp2_with fail
        go_ret
        exact ⟨by rw [HF.out, Bool.and_false]; rfl, rfl⟩
      · by_cases h2 : x < 128
        · have f1 : (x : Int) < 128 := by omega
          have HF : Hid (typeGo true (s.toList.drop (i + 1)) = R) := by rw [← HT.out, HD.out, if_neg h1, decide_eq_true h2]; rfl
          have f3 : ((x : Int) == 128) = false := by rw [beq_eq_false_iff_ne]; omega
          cases b
          all_goals
            clear hin hi h1 h2
            go_wp2_with fail
            go_round
            case rel => exact ⟨true, i + 1, rfl, by go_num, by obtain ⟨k, hk⟩ := HI.out; omega, HF.out⟩
            case measure => simp [intOf]; omega
        · have f1 : ¬ (x : Int) < 128 := by omega
          have f2 : decide ((x : Int) < 128) = false := decide_eq_false f1
          have HF : Hid (typeGo false (s.toList.drop (i + 1)) = R) := by rw [← HT.out, HD.out, if_neg h1, decide_eq_false h2]; rfl
          cases b
          · clear hin hi h1 h2
            go_wp2_with fail
            go_round
            case rel => exact ⟨false, i + 1, rfl, by go_num, by obtain ⟨k, hk⟩ := HI.out; omega, HF.out⟩
            case measure => simp [intOf]; omega
          · have f3 : ((x : Int) == 128) = false := by
              have hne : x ≠ 128 := fun h => h1 ⟨rfl, h⟩
              rw [beq_eq_false_iff_ne]; omega
            clear hin hi h1 h2
            go_wp2_with fail
            go_round
            case rel => exact ⟨false, i + 1, rfl, by go_num, by obtain ⟨k, hk⟩ := HI.out; omega, HF.out⟩
            case measure => simp [intOf]; omega
    · obtain rfl : i = n := by omega
      have e1 : ¬ (i : Int) < (i : Int) := by omega
      have HF : Hid (R = b) := by rw [← HT.out, List.drop_eq_nil_of_le (by rw [tl_size]; omega)]; rfl
      by_cases h0 : 0 < i
      · have e2 := tl_nil_no s (by omega)
        clear hin hi
        go_wp2_with fail
        go_ret
        exact ⟨by rw [HF.out]; rfl, rfl⟩
      · obtain rfl := nil_of s (by omega)
        clear hin hi
        go_wp2_with fail
        go_ret
        exact ⟨rfl, rfl⟩
end Go.Proofs.YteglahkgnggmgaaDoor
