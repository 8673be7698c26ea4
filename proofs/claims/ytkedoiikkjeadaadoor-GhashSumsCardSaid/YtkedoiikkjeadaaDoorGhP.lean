/- The field of 128 bits, over numbers: mx (times x), mul, its laws. -/
namespace Go.Proofs.YtkedoiikkjeadaaDoor.Gh
set_option linter.unusedSimpArgs false
set_option linter.unusedVariables false
/-- the product with x -/
def mx (v : Nat) : Nat := (v >>> 1) ^^^ (if v.testBit 0 then 0xe1 <<< 120 else 0)
def mxn : Nat → Nat → Nat
  | 0, v => v
  | n + 1, v => mx (mxn n v)
/-- the sum of the first n -/
def xs (f : Nat → Nat) : Nat → Nat
  | 0 => 0
  | n + 1 => xs f n ^^^ f n
def sel (b : Bool) (v : Nat) : Nat := if b then v else 0
def co (a i : Nat) : Bool := a.testBit (127 - i)
def mul (a b : Nat) : Nat := xs (fun i => sel (co a i) (mxn i b)) 128
def pw (k : Nat) : Nat := mxn k (2 ^ 127)
theorem sel_xor (b : Bool) (u v : Nat) : sel b (u ^^^ v) = sel b u ^^^ sel b v := by cases b <;> simp [sel]
theorem sel_bxor (a b : Bool) (v : Nat) : sel (a ^^ b) v = sel a v ^^^ sel b v := by cases a <;> cases b <;> simp [sel]
theorem sel_and (a b : Bool) (v : Nat) : sel (a && b) v = sel a (sel b v) := by cases a <;> cases b <;> simp [sel]
theorem sel_zero (b : Bool) : sel b 0 = 0 := by cases b <;> rfl
theorem sel_comm (a b : Bool) (v : Nat) : sel a (sel b v) = sel b (sel a v) := by cases a <;> cases b <;> rfl
theorem mx_xor (u v : Nat) : mx (u ^^^ v) = mx u ^^^ mx v := by
  have h : (if (u ^^^ v).testBit 0 = true then 0xe1 <<< 120 else 0 : Nat) = (if u.testBit 0 = true then 0xe1 <<< 120 else 0) ^^^ (if v.testBit 0 = true then 0xe1 <<< 120 else 0) := by
    rw [Nat.testBit_xor]
    cases u.testBit 0 <;> cases v.testBit 0 <;> simp
  unfold mx
  rw [h, Nat.shiftRight_xor_distrib]
  ac_rfl
theorem mx_zero : mx 0 = 0 := by decide
theorem mx_sel (b : Bool) (v : Nat) : mx (sel b v) = sel b (mx v) := by cases b; exact mx_zero; rfl
theorem mxn_xor (n u v : Nat) : mxn n (u ^^^ v) = mxn n u ^^^ mxn n v := by
  induction n with
  | zero => rfl
  | succ n ih => show mx _ = _; rw [ih, mx_xor]; rfl
theorem mxn_zero (n : Nat) : mxn n 0 = 0 := by
  induction n with
  | zero => rfl
  | succ n ih => show mx _ = _; rw [ih, mx_zero]
theorem mxn_sel (n : Nat) (b : Bool) (v : Nat) : mxn n (sel b v) = sel b (mxn n v) := by cases b; exact mxn_zero n; rfl
theorem mxn_add (m n v : Nat) : mxn m (mxn n v) = mxn (m + n) v := by
  induction m with
  | zero => rw [Nat.zero_add]; rfl
  | succ m ih => rw [Nat.succ_add]; show mx _ = mx _; rw [ih]
theorem mxn_mx (n v : Nat) : mxn n (mx v) = mx (mxn n v) := by
  show mxn n (mxn 1 v) = mxn 1 (mxn n v)
  rw [mxn_add, mxn_add, Nat.add_comm]
theorem xs_congr {f g : Nat → Nat} {n : Nat} (h : ∀ i, i < n → f i = g i) : xs f n = xs g n := by
  induction n with
  | zero => rfl
  | succ n ih => rw [xs, xs, ih fun i hi => h i (by omega), h n (by omega)]
theorem xs_zero (n : Nat) : xs (fun _ => 0) n = 0 := by
  induction n with
  | zero => rfl
  | succ n ih => rw [xs, ih]; rfl
theorem xs_xor (f g : Nat → Nat) (n : Nat) : xs (fun i => f i ^^^ g i) n = xs f n ^^^ xs g n := by
  induction n with
  | zero => simp [xs]
  | succ n ih => rw [xs, xs, xs, ih]; ac_rfl
theorem xs_swap (f : Nat → Nat → Nat) (n m : Nat) : xs (fun i => xs (fun j => f i j) m) n = xs (fun j => xs (fun i => f i j) n) m := by
  induction n with
  | zero => show 0 = _; rw [show (fun j => xs (fun i => f i j) 0) = fun _ => 0 from rfl, xs_zero]
  | succ n ih => rw [xs, ih, show (fun j => xs (fun i => f i j) (n + 1)) = fun j => xs (fun i => f i j) n ^^^ f n j from rfl, xs_xor]
theorem mxn_xs (k : Nat) (f : Nat → Nat) (n : Nat) : mxn k (xs f n) = xs (fun i => mxn k (f i)) n := by
  induction n with
  | zero => exact mxn_zero k
  | succ n ih => rw [xs, xs, mxn_xor, ih]
theorem sel_xs (b : Bool) (f : Nat → Nat) (n : Nat) : sel b (xs f n) = xs (fun i => sel b (f i)) n := by
  induction n with
  | zero => exact sel_zero b
  | succ n ih => rw [xs, xs, sel_xor, ih]
theorem mul_xor (a b c : Nat) : mul a (b ^^^ c) = mul a b ^^^ mul a c := by
  unfold mul
  rw [← xs_xor]
  exact xs_congr fun i _ => by rw [mxn_xor, sel_xor]
theorem xor_mul (a b c : Nat) : mul (a ^^^ b) c = mul a c ^^^ mul b c := by
  unfold mul
  rw [← xs_xor]
  exact xs_congr fun i _ => by rw [co, Nat.testBit_xor, sel_bxor]; rfl
theorem zero_mul (c : Nat) : mul 0 c = 0 := by
  unfold mul
  rw [xs_congr (g := fun _ => 0) fun i _ => by rw [co, Nat.zero_testBit]; rfl, xs_zero]
theorem sel_mul (b : Bool) (v c : Nat) : mul (sel b v) c = sel b (mul v c) := by cases b; exact zero_mul c; rfl
theorem xs_mul (f : Nat → Nat) (n c : Nat) : mul (xs f n) c = xs (fun i => mul (f i) c) n := by
  induction n with
  | zero => exact zero_mul c
  | succ n ih => rw [xs, xs, xor_mul, ih]
theorem pw_small (k : Nat) (h : k < 128) : pw k = 2 ^ (127 - k) := by
  revert h
  induction k with
  | zero => intro _; rfl
  | succ k ih =>
    intro h
    show mx (pw k) = _
    rw [ih (by omega), mx, show 127 - k = (127 - (k + 1)) + 1 by omega]
    generalize 127 - (k + 1) = d
    rw [Nat.testBit_two_pow]
    simp [Nat.shiftRight_eq_div_pow, Nat.pow_succ]
theorem xs_bit (a n j : Nat) (hn : n ≤ 128) : (xs (fun i => sel (co a i) (2 ^ (127 - i))) n).testBit j = (a.testBit j && decide (j ≤ 127) && decide (127 - j < n)) := by
  induction n with
  | zero => simp [xs]
  | succ n ih =>
    rw [xs, Nat.testBit_xor, ih (by omega)]
    by_cases h : 127 - n = j
    · subst h
      have e : 127 - (127 - n) = n := by omega
      rw [e]
      cases hc : co a n
      · rw [co] at hc; simp [hc, sel]
      · rw [co] at hc; simp [hc, sel, Nat.testBit_two_pow]
    · have e : (sel (co a n) (2 ^ (127 - n))).testBit j = false := by
        cases co a n
        · simp [sel]
        · simp only [sel, if_true, Nat.testBit_two_pow]; simpa using h
      rw [e]
      by_cases hj : j ≤ 127
      · have : (127 - j < n + 1) ↔ (127 - j < n) := by omega
        simp [this]
      · simp [hj]
theorem basis (a : Nat) (h : a < 2 ^ 128) : xs (fun i => sel (co a i) (pw i)) 128 = a := by
  rw [xs_congr (g := fun i => sel (co a i) (2 ^ (127 - i))) fun i hi => by rw [pw_small i hi]]
  refine Nat.eq_of_testBit_eq fun j => ?_
  rw [xs_bit a 128 j (Nat.le_refl _)]
  by_cases hj : j ≤ 127
  · simp [hj]; omega
  · simp only [hj, decide_false, Bool.and_false, Bool.false_and]
    exact (Nat.testBit_lt_two_pow (Nat.lt_of_lt_of_le h (Nat.pow_le_pow_right (by decide) (by omega)))).symm
theorem mul_double (a b : Nat) (hb : b < 2 ^ 128) : mul a b = xs (fun i => xs (fun j => sel (co a i) (sel (co b j) (pw (i + j)))) 128) 128 := by
  rw [mul]
  refine xs_congr fun i _ => ?_
  rw [← sel_xs, ← congrArg (mxn i) (basis b hb), mxn_xs]
  refine congrArg _ (xs_congr fun j _ => ?_)
  rw [mxn_sel, pw, mxn_add]
  rfl
theorem mul_comm (a b : Nat) (ha : a < 2 ^ 128) (hb : b < 2 ^ 128) : mul a b = mul b a := by
  rw [mul_double a b hb, mul_double b a ha, xs_swap]
  exact xs_congr fun j _ => xs_congr fun i _ => by rw [sel_comm, Nat.add_comm]
theorem mx_lt (v : Nat) (h : v < 2 ^ 128) : mx v < 2 ^ 128 := by
  unfold mx
  refine Nat.xor_lt_two_pow ?_ ?_
  · rw [Nat.shiftRight_eq_div_pow]; omega
  · split <;> decide
theorem mxn_lt (n v : Nat) (h : v < 2 ^ 128) : mxn n v < 2 ^ 128 := by
  induction n with
  | zero => exact h
  | succ n ih => exact mx_lt _ ih
theorem sel_lt (b : Bool) (v : Nat) (h : v < 2 ^ 128) : sel b v < 2 ^ 128 := by cases b; exact Nat.two_pow_pos 128; exact h
theorem xs_lt (f : Nat → Nat) (n : Nat) (h : ∀ i, i < n → f i < 2 ^ 128) : xs f n < 2 ^ 128 := by
  induction n with
  | zero => exact Nat.two_pow_pos 128
  | succ n ih => exact Nat.xor_lt_two_pow (ih fun i hi => h i (by omega)) (h n (by omega))
theorem mul_lt (a b : Nat) (hb : b < 2 ^ 128) : mul a b < 2 ^ 128 := xs_lt _ _ fun i _ => sel_lt _ _ (mxn_lt _ _ hb)
theorem mul_mx (a b : Nat) : mul a (mx b) = mx (mul a b) := by
  show _ = mxn 1 _
  unfold mul
  rw [mxn_xs]
  exact xs_congr fun i _ => by rw [mxn_mx, mxn_sel]; rfl
theorem mx_mul (a b : Nat) (ha : a < 2 ^ 128) (hb : b < 2 ^ 128) : mul (mx a) b = mx (mul a b) := by
  rw [mul_comm _ _ (mx_lt a ha) hb, mul_mx, mul_comm a b ha hb]
theorem mxn_mul (n a b : Nat) (ha : a < 2 ^ 128) (hb : b < 2 ^ 128) : mul (mxn n a) b = mxn n (mul a b) := by
  induction n with
  | zero => rfl
  | succ n ih => show mul (mx _) b = mx _; rw [mx_mul _ _ (mxn_lt n a ha) hb, ih]
theorem mul_assoc (a b c : Nat) (hb : b < 2 ^ 128) (hc : c < 2 ^ 128) : mul (mul a b) c = mul a (mul b c) := by
  rw [show mul a b = xs (fun i => sel (co a i) (mxn i b)) 128 from rfl, xs_mul]
  exact xs_congr fun i _ => by rw [sel_mul, mxn_mul i b c hb hc]
theorem one_mul (a : Nat) : mul (2 ^ 127) a = a := by
  unfold mul
  rw [show (128 : Nat) = 127 + 1 from rfl]
  have h : ∀ n, n ≤ 127 → xs (fun i => sel (co (2 ^ 127) i) (mxn i a)) (n + 1) = a := by
    intro n
    induction n with
    | zero => intro _; show 0 ^^^ sel (co (2 ^ 127) 0) a = a; rw [show co (2 ^ 127) 0 = true by decide]; simp [sel]
    | succ n ih =>
      intro hn
      rw [xs, ih (by omega), co, Nat.testBit_two_pow, show decide (127 = 127 - (n + 1)) = false by simp; omega]
      simp [sel]
  exact h 127 (by decide)
end Go.Proofs.YtkedoiikkjeadaaDoor.Gh
