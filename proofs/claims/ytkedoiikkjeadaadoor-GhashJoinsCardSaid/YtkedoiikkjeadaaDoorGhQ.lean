/- The field of 128 bits: sums of powers by lists of bools, four powers at once, halves. -/
import Derived.Test.YtkedoiikkjeadaaDoorGhP
namespace Go.Proofs.YtkedoiikkjeadaaDoor.Gh
set_option linter.unusedSimpArgs false
set_option linter.unusedVariables false
/-! ### powers and their sums by a list of bools -/
theorem pw_add (m k : Nat) : mxn m (pw k) = pw (m + k) := by rw [pw, mxn_add]; rfl
theorem pw_red (m : Nat) : pw (m + 128) = pw m ^^^ pw (m + 1) ^^^ pw (m + 2) ^^^ pw (m + 7) := by
  have h : pw 128 = pw 0 ^^^ pw 1 ^^^ pw 2 ^^^ pw 7 := by decide +kernel
  rw [← pw_add, h, mxn_xor, mxn_xor, mxn_xor, pw_add, pw_add, pw_add, pw_add]
  rfl
def V (l : List Bool) (n : Nat) : Nat := xs (fun k => sel (l.getD k false) (pw k)) n
theorem V_ge (l : List Bool) (k n : Nat) (c : Bool) (h : n ≤ k) : V (l.set k c) n = V l n :=
  xs_congr fun i hi => by rw [List.getD, List.getD, List.getElem?_set_ne (by omega)]
theorem V_set (l : List Bool) (k n : Nat) (c : Bool) (h : k < n) (hl : k < l.length) : V (l.set k c) n = V l n ^^^ sel (l.getD k false ^^ c) (pw k) := by
  induction n with
  | zero => omega
  | succ n ih =>
    show V (l.set k c) n ^^^ sel ((l.set k c).getD n false) (pw n) = (V l n ^^^ sel (l.getD n false) (pw n)) ^^^ _
    by_cases hk : k = n
    · subst hk
      rw [V_ge l k k c (Nat.le_refl _), show (l.set k c).getD k false = c by simp [List.getD, hl], sel_bxor]
      generalize sel (l.getD k false) (pw k) = x
      generalize sel c (pw k) = y
      rw [show (V l k ^^^ x) ^^^ (x ^^^ y) = V l k ^^^ ((x ^^^ x) ^^^ y) by ac_rfl, Nat.xor_self, Nat.zero_xor]
    · rw [ih (by omega), show (l.set k c).getD n false = l.getD n false by rw [List.getD, List.getD, List.getElem?_set_ne hk]]
      ac_rfl
theorem V_succ (l : List Bool) (n : Nat) : V l (n + 1) = V l n ^^^ sel (l.getD n false) (pw n) := rfl
theorem V_flip (l : List Bool) (k n : Nat) (h : k < n) (hl : k < l.length) : V (l.set k (!l.getD k false)) n = V l n ^^^ pw k := by
  rw [V_set l k n _ h hl, show (l.getD k false ^^ !l.getD k false) = true by cases l.getD k false <;> rfl]
  rfl
/-- one power above is taken down -/
def down (l : List Bool) (i : Nat) : List Bool :=
  let l1 := l.set (i - 128) (!l.getD (i - 128) false)
  let l2 := l1.set (i - 127) (!l1.getD (i - 127) false)
  let l3 := l2.set (i - 126) (!l2.getD (i - 126) false)
  l3.set (i - 121) (!l3.getD (i - 121) false)
theorem down_length (l : List Bool) (i : Nat) : (down l i).length = l.length := by simp [down]
theorem down_V (l : List Bool) (i : Nat) (h : 128 ≤ i) (hl : i < l.length) (hp : l.getD i false = true) : V (down l i) i = V l (i + 1) := by
  rw [V_succ, hp, down]
  show _ = V l i ^^^ pw i
  rw [V_flip _ _ _ (by omega) (by simp; omega), V_flip _ _ _ (by omega) (by simp; omega), V_flip _ _ _ (by omega) (by simp; omega), V_flip _ _ _ (by omega) (by omega)]
  obtain ⟨m, rfl⟩ := Nat.exists_eq_add_of_le' h
  rw [pw_red, show m + 128 - 128 = m by omega, show m + 128 - 127 = m + 1 by omega, show m + 128 - 126 = m + 2 by omega, show m + 128 - 121 = m + 7 by omega]
  ac_rfl
theorem sum_bit (p : Nat → Bool) (n j : Nat) (hn : n ≤ 128) : (xs (fun i => sel (p i) (pw i)) n).testBit j = (p (127 - j) && decide (j ≤ 127) && decide (127 - j < n)) := by
  induction n with
  | zero => simp [xs]
  | succ n ih =>
    rw [xs, Nat.testBit_xor, ih (by omega), pw_small n (by omega)]
    by_cases h : 127 - n = j
    · subst h
      have e : 127 - (127 - n) = n := by omega
      rw [e]
      cases hc : p n
      · simp [hc, sel]
      · simp [hc, sel, Nat.testBit_two_pow]
    · have e : (sel (p n) (2 ^ (127 - n))).testBit j = false := by
        cases p n
        · simp [sel]
        · simp only [sel, if_true, Nat.testBit_two_pow]; simpa using h
      rw [e]
      by_cases hj : j ≤ 127
      · have : (127 - j < n + 1) ↔ (127 - j < n) := by omega
        simp [this]
      · simp [hj]
theorem V_co (l : List Bool) (i : Nat) (h : i < 128) : co (V l 128) i = l.getD i false := by
  rw [co, V, sum_bit _ _ _ (Nat.le_refl _), show 127 - (127 - i) = i by omega]
  simp; omega
theorem V_lt (l : List Bool) : V l 128 < 2 ^ 128 := by
  refine Nat.lt_pow_two_of_testBit _ fun j hj => ?_
  rw [V, sum_bit _ _ _ (Nat.le_refl _)]
  simp; omega
/-- the bits of a number, the factor of 1 first -/
def bits (a : Nat) : List Bool := (List.range 128).map (co a)
theorem bits_length (a : Nat) : (bits a).length = 128 := by simp [bits]
theorem bits_getD (a i : Nat) (h : i < 128) : (bits a).getD i false = co a i := by simp [bits, List.getD, h]
theorem bits_V (l : List Bool) (h : l.length = 128) : bits (V l 128) = l := by
  refine List.ext_getElem (by simp [bits, h]) fun i h1 h2 => ?_
  have := V_co l i (by omega)
  simp only [bits, List.getElem_map, List.getElem_range, this, List.getD]
  simp [h2]
theorem V_bits (a : Nat) (h : a < 2 ^ 128) : V (bits a) 128 = a := by
  exact (xs_congr (g := fun i => sel (co a i) (pw i)) fun i hi => by rw [bits_getD a i hi]).trans (basis a h)
/-! ### four powers at once -/
def C4 : Nat := 0xe1 <<< 120
theorem mx_eq (v : Nat) : mx v = (v >>> 1) ^^^ sel (v.testBit 0) C4 := rfl
def fal : List Nat := [0x0000, 0x1c20, 0x3840, 0x2460, 0x7080, 0x6ca0, 0x48c0, 0x54e0, 0xe100, 0xfd20, 0xd940, 0xc560, 0x9180, 0x8da0, 0xa9c0, 0xb5e0]
def f4 (a b c d : Bool) : Nat := sel a (C4 >>> 3) ^^^ sel b (C4 >>> 2) ^^^ sel c (C4 >>> 1) ^^^ sel d C4
theorem sel_shift (b : Bool) (v k : Nat) : (sel b v) >>> k = sel b (v >>> k) := by cases b; exact Nat.zero_shiftRight k; rfl
theorem sel_test (b : Bool) (v k : Nat) : (sel b v).testBit k = (b && v.testBit k) := by cases b; simp [sel]; simp [sel]
theorem mxn4 (v : Nat) : mxn 4 v = (v >>> 4) ^^^ f4 (v.testBit 0) (v.testBit 1) (v.testBit 2) (v.testBit 3) := by
  have c0 : C4.testBit 0 = false := by decide +kernel
  have c1 : (C4 >>> 1).testBit 0 = false := by decide +kernel
  have c2 : (C4 >>> 2).testBit 0 = false := by decide +kernel
  have e1 : mx v = (v >>> 1) ^^^ sel (v.testBit 0) C4 := rfl
  have e2 : mx (mx v) = (v >>> 2) ^^^ sel (v.testBit 0) (C4 >>> 1) ^^^ sel (v.testBit 1) C4 := by
    rw [mx_eq (mx v), e1, Nat.shiftRight_xor_distrib, sel_shift, ← Nat.shiftRight_add, Nat.testBit_xor, sel_test, c0, Bool.and_false, Bool.xor_false, Nat.testBit_shiftRight]
  have e3 : mx (mx (mx v)) = (v >>> 3) ^^^ sel (v.testBit 0) (C4 >>> 2) ^^^ sel (v.testBit 1) (C4 >>> 1) ^^^ sel (v.testBit 2) C4 := by
    rw [mx_eq (mx (mx v)), e2, Nat.shiftRight_xor_distrib, Nat.shiftRight_xor_distrib, sel_shift, sel_shift, ← Nat.shiftRight_add, ← Nat.shiftRight_add, Nat.testBit_xor, Nat.testBit_xor, sel_test, sel_test, Nat.testBit_shiftRight, c0, c1]
    simp
  show mx (mx (mx (mx v))) = _
  rw [mx_eq (mx (mx (mx v))), e3, Nat.shiftRight_xor_distrib, Nat.shiftRight_xor_distrib, Nat.shiftRight_xor_distrib, sel_shift, sel_shift, sel_shift, ← Nat.shiftRight_add, ← Nat.shiftRight_add, ← Nat.shiftRight_add, Nat.testBit_xor, Nat.testBit_xor, Nat.testBit_xor, sel_test, sel_test, sel_test, Nat.testBit_shiftRight (i := 3), c0, c1, c2, f4]
  simp only [Bool.and_false, Bool.xor_false, Nat.reduceAdd]
  ac_rfl
theorem fal_f4 : ∀ n, n < 16 → f4 (n.testBit 0) (n.testBit 1) (n.testBit 2) (n.testBit 3) = (fal.getD n 0) <<< 112 := by decide +kernel
theorem mxn4_fal (v : Nat) : mxn 4 v = (v >>> 4) ^^^ (fal.getD (v % 16) 0) <<< 112 := by
  rw [mxn4, ← fal_f4 _ (Nat.mod_lt _ (by decide)), show (16 : Nat) = 2 ^ 4 from rfl, Nat.testBit_mod_two_pow, Nat.testBit_mod_two_pow, Nat.testBit_mod_two_pow, Nat.testBit_mod_two_pow]
  rfl
/-! ### four bits at a time -/
def tab (b n : Nat) : Nat := mul (n <<< 124) b
def hor (b a t : Nat) : Nat := mul ((a % 2 ^ (4 * t)) <<< (128 - 4 * t)) b
theorem hor_zero (b a : Nat) : hor b a 0 = 0 := by
  rw [hor, show a % 2 ^ (4 * 0) = 0 by simp [Nat.mod_one], Nat.zero_shiftLeft, zero_mul]
theorem hor_all (b a : Nat) (h : a < 2 ^ 128) : hor b a 32 = mul a b := by
  rw [hor, show 4 * 32 = 128 from rfl, Nat.mod_eq_of_lt h]
  rfl
theorem hor_step (b a t : Nat) (hb : b < 2 ^ 128) (ht : t < 32) : hor b a (t + 1) = mxn 4 (hor b a t) ^^^ tab b ((a >>> (4 * t)) % 16) := by
  rw [hor, hor, tab, ← mxn_mul 4 _ b ?_ hb, ← xor_mul]
  · refine congrArg (mul · b) ?_
    have hz : ∀ i, i < 4 → ((a % 2 ^ (4 * t)) <<< (128 - 4 * t)).testBit i = false := fun i hi => by
      rw [Nat.testBit_shiftLeft]
      simp; omega
    rw [mxn4, hz 0 (by decide), hz 1 (by decide), hz 2 (by decide), hz 3 (by decide), show f4 false false false false = 0 by decide +kernel, Nat.xor_zero]
    refine Nat.eq_of_testBit_eq fun j => ?_
    rw [Nat.testBit_xor, Nat.testBit_shiftLeft, Nat.testBit_shiftLeft, Nat.testBit_shiftRight, Nat.testBit_shiftLeft, show (16 : Nat) = 2 ^ 4 from rfl, Nat.testBit_mod_two_pow, Nat.testBit_mod_two_pow, Nat.testBit_mod_two_pow, Nat.testBit_shiftRight]
    by_cases h1 : 124 ≤ j
    · rw [show decide (4 + j - (128 - 4 * t) < 4 * t) = false by simp; omega, Bool.false_and, Bool.and_false, Bool.false_xor, show j - (128 - 4 * (t + 1)) = 4 * t + (j - 124) by omega,
        show decide (j ≥ 124) = true by simpa using h1, show decide (j ≥ 128 - 4 * (t + 1)) = true by simp; omega, Bool.true_and, Bool.true_and,
        decide_eq_decide.2 (show 4 * t + (j - 124) < 4 * (t + 1) ↔ j - 124 < 4 by omega)]
    · rw [show decide (j ≥ 124) = false by simpa using h1, Bool.false_and, Bool.xor_false]
      by_cases h2 : 128 - 4 * (t + 1) ≤ j
      · rw [show j - (128 - 4 * (t + 1)) = 4 + j - (128 - 4 * t) by omega, show decide (j ≥ 128 - 4 * (t + 1)) = true by simpa using h2, show decide (4 + j ≥ 128 - 4 * t) = true by simp; omega,
          decide_eq_decide.2 (show 4 + j - (128 - 4 * t) < 4 * (t + 1) ↔ 4 + j - (128 - 4 * t) < 4 * t by omega)]
      · rw [show decide (j ≥ 128 - 4 * (t + 1)) = false by simpa using h2, show decide (4 + j ≥ 128 - 4 * t) = false by simp; omega, Bool.false_and, Bool.false_and]
  · have h1 : a % 2 ^ (4 * t) < 2 ^ (4 * t) := Nat.mod_lt _ (Nat.two_pow_pos _)
    rw [Nat.shiftLeft_eq, show (128 : Nat) = 4 * t + (128 - 4 * t) by omega, Nat.pow_add, show 4 * t + (128 - 4 * t) - 4 * t = 128 - 4 * t by omega]
    exact Nat.mul_lt_mul_of_pos_right h1 (Nat.two_pow_pos _)
theorem tab_lt (b n : Nat) (hb : b < 2 ^ 128) : tab b n < 2 ^ 128 := mul_lt _ _ hb
theorem tab8 (b : Nat) : tab b 8 = b := one_mul b
theorem tab_mx (b n : Nat) (hb : b < 2 ^ 128) (hn : n = 8 ∨ n = 4 ∨ n = 2) : tab b (n / 2) = mx (tab b n) := by
  rw [tab, tab, ← mx_mul _ _ (by rcases hn with rfl | rfl | rfl <;> decide +kernel) hb]
  refine congrArg (mul · b) ?_
  rcases hn with rfl | rfl | rfl <;> decide +kernel
theorem tab_xor (b n m : Nat) : tab b (n ^^^ m) = tab b n ^^^ tab b m := by
  rw [tab, tab, tab, ← xor_mul, Nat.shiftLeft_xor_distrib]
/-! ### halves -/
def hi (v : Nat) : Nat := v >>> 64
def lo (v : Nat) : Nat := v % 2 ^ 64
theorem hi_lt (v : Nat) (h : v < 2 ^ 128) : hi v < 2 ^ 64 := by rw [hi, Nat.shiftRight_eq_div_pow]; omega
theorem lo_lt (v : Nat) : lo v < 2 ^ 64 := Nat.mod_lt _ (by decide)
theorem hi_xor (u v : Nat) : hi (u ^^^ v) = hi u ^^^ hi v := Nat.shiftRight_xor_distrib
theorem lo_xor (u v : Nat) : lo (u ^^^ v) = lo u ^^^ lo v := Nat.xor_mod_two_pow
theorem hilo (v : Nat) : hi v * 2 ^ 64 + lo v = v := by rw [hi, lo, Nat.shiftRight_eq_div_pow]; omega
theorem hi_mk (h l : Nat) (hl : l < 2 ^ 64) : hi (h * 2 ^ 64 + l) = h := by rw [hi, Nat.shiftRight_eq_div_pow]; omega
theorem lo_mk (h l : Nat) (hl : l < 2 ^ 64) : lo (h * 2 ^ 64 + l) = l := by rw [lo]; omega
theorem lo_bit (v i : Nat) (h : i < 64) : (lo v).testBit i = v.testBit i := by rw [lo, Nat.testBit_mod_two_pow]; simp [h]
theorem hi_shr (v k : Nat) : hi (v >>> k) = hi v >>> k := by rw [hi, hi, ← Nat.shiftRight_add, ← Nat.shiftRight_add, Nat.add_comm]
theorem lo_shr (v k : Nat) (h : k ≤ 64) : lo (v >>> k) = (hi v <<< (64 - k)) % 2 ^ 64 ||| lo v >>> k := by
  refine Nat.eq_of_testBit_eq fun j => ?_
  rw [lo, lo, hi, Nat.testBit_mod_two_pow, Nat.testBit_or, Nat.testBit_mod_two_pow, Nat.testBit_shiftLeft, Nat.testBit_shiftRight, Nat.testBit_shiftRight, Nat.testBit_shiftRight, Nat.testBit_mod_two_pow]
  by_cases h1 : j < 64 - k
  · rw [show decide (j ≥ 64 - k) = false by simp; omega, show decide (k + j < 64) = true by simp; omega, show decide (j < 64) = true by simp; omega]
    simp
  · rw [show decide (j ≥ 64 - k) = true by simp; omega, show decide (k + j < 64) = false by simp; omega, show 64 + (j - (64 - k)) = k + j by omega]
    simp
theorem hi_mx (v : Nat) : hi (mx v) = (hi v >>> 1) ^^^ sel (v.testBit 0) (0xe1 <<< 56) := by
  rw [mx_eq, hi_xor, hi_shr, show hi (sel (v.testBit 0) C4) = sel (v.testBit 0) (0xe1 <<< 56) by cases v.testBit 0 <;> decide +kernel]
theorem lo_mx (v : Nat) : lo (mx v) = (hi v <<< 63) % 2 ^ 64 ||| lo v >>> 1 := by
  rw [mx_eq, lo_xor, lo_shr v 1 (by decide), show lo (sel (v.testBit 0) C4) = 0 by cases v.testBit 0 <;> decide +kernel, Nat.xor_zero]
theorem fal_hi : ∀ n, n < 16 → hi ((fal.getD n 0) <<< 112) = (fal.getD n 0) <<< 48 ∧ lo ((fal.getD n 0) <<< 112) = 0 ∧ fal.getD n 0 < 65536 := by decide +kernel
theorem lo_mod16 (v : Nat) : lo v % 16 = v % 16 := by rw [lo, show (16 : Nat) = 2 ^ 4 from rfl, Nat.mod_mod_of_dvd v (Nat.pow_dvd_pow 2 (by decide))]
theorem hi_mx4 (v : Nat) : hi (mxn 4 v) = (hi v >>> 4) ^^^ (fal.getD (lo v % 16) 0) <<< 48 := by
  rw [mxn4_fal, hi_xor, hi_shr, (fal_hi _ (Nat.mod_lt _ (by decide))).1, lo_mod16]
theorem lo_mx4 (v : Nat) : lo (mxn 4 v) = (hi v <<< 60) % 2 ^ 64 ||| lo v >>> 4 := by
  rw [mxn4_fal, lo_xor, lo_shr v 4 (by decide), (fal_hi _ (Nat.mod_lt _ (by decide))).2.1, Nat.xor_zero]
end Go.Proofs.YtkedoiikkjeadaaDoor.Gh
