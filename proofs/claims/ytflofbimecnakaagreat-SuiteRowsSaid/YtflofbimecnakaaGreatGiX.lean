/- ghash over any table, out of: GhP GhQ GhR GhA GhB GhC GhD GhE GhF GhG GhH GhI GhK GhL GhN. -/
import Derived.Test.YtflofbimecnakaaGreatOctX
import Derived.Test.YtflofbimecnakaaGreatRowX
namespace Go.Proofs.YtflofbimecnakaaGreat.Gh
set_option linter.unusedSimpArgs false
set_option linter.unusedVariables false
/-- the product with x -/
def mx (v : Nat) : Nat := (v >>> 1) ^^^ (if v.testBit 0 then 0xe1 <<< 120 else 0)
def mxn : Nat → Nat → Nat
  | 0, v => v
  | n + 1, v => mx (mxn n v)
/-- the sum of the first n -/
def xs (f : Nat → Nat) : Nat → Nat
  | 0 => 0
  | n + 1 => xs f n ^^^ f n
def sel (b : Bool) (v : Nat) : Nat := if b then v else 0
def co (a i : Nat) : Bool := a.testBit (127 - i)
def mul (a b : Nat) : Nat := xs (fun i => sel (co a i) (mxn i b)) 128
def pwG (k : Nat) : Nat := mxn k (2 ^ 127)
theorem sel_xor (b : Bool) (u v : Nat) : sel b (u ^^^ v) = sel b u ^^^ sel b v := by cases b <;> simp [sel]
theorem sel_bxor (a b : Bool) (v : Nat) : sel (a ^^ b) v = sel a v ^^^ sel b v := by cases a <;> cases b <;> simp [sel]
theorem sel_and (a b : Bool) (v : Nat) : sel (a && b) v = sel a (sel b v) := by cases a <;> cases b <;> simp [sel]
theorem sel_zero (b : Bool) : sel b 0 = 0 := by cases b <;> rfl
theorem sel_comm (a b : Bool) (v : Nat) : sel a (sel b v) = sel b (sel a v) := by cases a <;> cases b <;> rfl
theorem mx_xor (u v : Nat) : mx (u ^^^ v) = mx u ^^^ mx v := by
  have h : (if (u ^^^ v).testBit 0 = true then 0xe1 <<< 120 else 0 : Nat) = (if u.testBit 0 = true then 0xe1 <<< 120 else 0) ^^^ (if v.testBit 0 = true then 0xe1 <<< 120 else 0) := by
    rw [Nat.testBit_xor]
    cases u.testBit 0 <;> cases v.testBit 0 <;> simp
  unfold mx
  rw [h, Nat.shiftRight_xor_distrib]
  ac_rfl
theorem mx_zero : mx 0 = 0 := by decide
theorem mx_sel (b : Bool) (v : Nat) : mx (sel b v) = sel b (mx v) := by cases b; exact mx_zero; rfl
theorem mxn_xor (n u v : Nat) : mxn n (u ^^^ v) = mxn n u ^^^ mxn n v := by
  induction n with
  | zero => rfl
  | succ n ih => show mx _ = _; rw [ih, mx_xor]; rfl
theorem mxn_zero (n : Nat) : mxn n 0 = 0 := by
  induction n with
  | zero => rfl
  | succ n ih => show mx _ = _; rw [ih, mx_zero]
theorem mxn_sel (n : Nat) (b : Bool) (v : Nat) : mxn n (sel b v) = sel b (mxn n v) := by cases b; exact mxn_zero n; rfl
theorem mxn_add (m n v : Nat) : mxn m (mxn n v) = mxn (m + n) v := by
  induction m with
  | zero => rw [Nat.zero_add]; rfl
  | succ m ih => rw [Nat.succ_add]; show mx _ = mx _; rw [ih]
theorem mxn_mx (n v : Nat) : mxn n (mx v) = mx (mxn n v) := by
  show mxn n (mxn 1 v) = mxn 1 (mxn n v)
  rw [mxn_add, mxn_add, Nat.add_comm]
theorem xs_congr {f g : Nat → Nat} {n : Nat} (h : ∀ i, i < n → f i = g i) : xs f n = xs g n := by
  induction n with
  | zero => rfl
  | succ n ih => rw [xs, xs, ih fun i hi => h i (by omega), h n (by omega)]
theorem xs_zero (n : Nat) : xs (fun _ => 0) n = 0 := by
  induction n with
  | zero => rfl
  | succ n ih => rw [xs, ih]; rfl
theorem xs_xor (f g : Nat → Nat) (n : Nat) : xs (fun i => f i ^^^ g i) n = xs f n ^^^ xs g n := by
  induction n with
  | zero => simp [xs]
  | succ n ih => rw [xs, xs, xs, ih]; ac_rfl
theorem xs_swap (f : Nat → Nat → Nat) (n m : Nat) : xs (fun i => xs (fun j => f i j) m) n = xs (fun j => xs (fun i => f i j) n) m := by
  induction n with
  | zero => show 0 = _; rw [show (fun j => xs (fun i => f i j) 0) = fun _ => 0 from rfl, xs_zero]
  | succ n ih => rw [xs, ih, show (fun j => xs (fun i => f i j) (n + 1)) = fun j => xs (fun i => f i j) n ^^^ f n j from rfl, xs_xor]
theorem mxn_xs (k : Nat) (f : Nat → Nat) (n : Nat) : mxn k (xs f n) = xs (fun i => mxn k (f i)) n := by
  induction n with
  | zero => exact mxn_zero k
  | succ n ih => rw [xs, xs, mxn_xor, ih]
theorem sel_xs (b : Bool) (f : Nat → Nat) (n : Nat) : sel b (xs f n) = xs (fun i => sel b (f i)) n := by
  induction n with
  | zero => exact sel_zero b
  | succ n ih => rw [xs, xs, sel_xor, ih]
theorem mul_xor (a b c : Nat) : mul a (b ^^^ c) = mul a b ^^^ mul a c := by
  unfold mul
  rw [← xs_xor]
  exact xs_congr fun i _ => by rw [mxn_xor, sel_xor]
theorem xor_mul (a b c : Nat) : mul (a ^^^ b) c = mul a c ^^^ mul b c := by
  unfold mul
  rw [← xs_xor]
  exact xs_congr fun i _ => by rw [co, Nat.testBit_xor, sel_bxor]; rfl
theorem zero_mul (c : Nat) : mul 0 c = 0 := by
  unfold mul
  rw [xs_congr (g := fun _ => 0) fun i _ => by rw [co, Nat.zero_testBit]; rfl, xs_zero]
theorem sel_mul (b : Bool) (v c : Nat) : mul (sel b v) c = sel b (mul v c) := by cases b; exact zero_mul c; rfl
theorem xs_mul (f : Nat → Nat) (n c : Nat) : mul (xs f n) c = xs (fun i => mul (f i) c) n := by
  induction n with
  | zero => exact zero_mul c
  | succ n ih => rw [xs, xs, xor_mul, ih]
theorem pw_small (k : Nat) (h : k < 128) : pwG k = 2 ^ (127 - k) := by
  revert h
  induction k with
  | zero => intro _; rfl
  | succ k ih =>
    intro h
    show mx (pwG k) = _
    rw [ih (by omega), mx, show 127 - k = (127 - (k + 1)) + 1 by omega]
    generalize 127 - (k + 1) = d
    rw [Nat.testBit_two_pow]
    simp [Nat.shiftRight_eq_div_pow, Nat.pow_succ]
theorem xs_bit (a n j : Nat) (hn : n ≤ 128) : (xs (fun i => sel (co a i) (2 ^ (127 - i))) n).testBit j = (a.testBit j && decide (j ≤ 127) && decide (127 - j < n)) := by
  induction n with
  | zero => simp [xs]
  | succ n ih =>
    rw [xs, Nat.testBit_xor, ih (by omega)]
    by_cases h : 127 - n = j
    · subst h
      have e : 127 - (127 - n) = n := by omega
      rw [e]
      cases hc : co a n
      · rw [co] at hc; simp [hc, sel]
      · rw [co] at hc; simp [hc, sel, Nat.testBit_two_pow]
    · have e : (sel (co a n) (2 ^ (127 - n))).testBit j = false := by
        cases co a n
        · simp [sel]
        · simp only [sel, if_true, Nat.testBit_two_pow]; simpa using h
      rw [e]
      by_cases hj : j ≤ 127
      · have : (127 - j < n + 1) ↔ (127 - j < n) := by omega
        simp [this]
      · simp [hj]
theorem basis (a : Nat) (h : a < 2 ^ 128) : xs (fun i => sel (co a i) (pwG i)) 128 = a := by
  rw [xs_congr (g := fun i => sel (co a i) (2 ^ (127 - i))) fun i hi => by rw [pw_small i hi]]
  refine Nat.eq_of_testBit_eq fun j => ?_
  rw [xs_bit a 128 j (Nat.le_refl _)]
  by_cases hj : j ≤ 127
  · simp [hj]; omega
  · simp only [hj, decide_false, Bool.and_false, Bool.false_and]
    exact (Nat.testBit_lt_two_pow (Nat.lt_of_lt_of_le h (Nat.pow_le_pow_right (by decide) (by omega)))).symm
theorem mul_double (a b : Nat) (hb : b < 2 ^ 128) : mul a b = xs (fun i => xs (fun j => sel (co a i) (sel (co b j) (pwG (i + j)))) 128) 128 := by
  rw [mul]
  refine xs_congr fun i _ => ?_
  rw [← sel_xs, ← congrArg (mxn i) (basis b hb), mxn_xs]
  refine congrArg _ (xs_congr fun j _ => ?_)
  rw [mxn_sel, pwG, mxn_add]
  rfl
theorem mul_comm (a b : Nat) (ha : a < 2 ^ 128) (hb : b < 2 ^ 128) : mul a b = mul b a := by
  rw [mul_double a b hb, mul_double b a ha, xs_swap]
  exact xs_congr fun j _ => xs_congr fun i _ => by rw [sel_comm, Nat.add_comm]
theorem mx_lt (v : Nat) (h : v < 2 ^ 128) : mx v < 2 ^ 128 := by
  unfold mx
  refine Nat.xor_lt_two_pow ?_ ?_
  · rw [Nat.shiftRight_eq_div_pow]; omega
  · split <;> decide
theorem mxn_lt (n v : Nat) (h : v < 2 ^ 128) : mxn n v < 2 ^ 128 := by
  induction n with
  | zero => exact h
  | succ n ih => exact mx_lt _ ih
theorem sel_lt (b : Bool) (v : Nat) (h : v < 2 ^ 128) : sel b v < 2 ^ 128 := by cases b; exact Nat.two_pow_pos 128; exact h
theorem xs_lt (f : Nat → Nat) (n : Nat) (h : ∀ i, i < n → f i < 2 ^ 128) : xs f n < 2 ^ 128 := by
  induction n with
  | zero => exact Nat.two_pow_pos 128
  | succ n ih => exact Nat.xor_lt_two_pow (ih fun i hi => h i (by omega)) (h n (by omega))
theorem mul_lt (a b : Nat) (hb : b < 2 ^ 128) : mul a b < 2 ^ 128 := xs_lt _ _ fun i _ => sel_lt _ _ (mxn_lt _ _ hb)
theorem mul_mx (a b : Nat) : mul a (mx b) = mx (mul a b) := by
  show _ = mxn 1 _
  unfold mul
  rw [mxn_xs]
  exact xs_congr fun i _ => by rw [mxn_mx, mxn_sel]; rfl
theorem mx_mul (a b : Nat) (ha : a < 2 ^ 128) (hb : b < 2 ^ 128) : mul (mx a) b = mx (mul a b) := by
  rw [mul_comm _ _ (mx_lt a ha) hb, mul_mx, mul_comm a b ha hb]
theorem mxn_mul (n a b : Nat) (ha : a < 2 ^ 128) (hb : b < 2 ^ 128) : mul (mxn n a) b = mxn n (mul a b) := by
  induction n with
  | zero => rfl
  | succ n ih => show mul (mx _) b = mx _; rw [mx_mul _ _ (mxn_lt n a ha) hb, ih]
theorem mul_assoc (a b c : Nat) (hb : b < 2 ^ 128) (hc : c < 2 ^ 128) : mul (mul a b) c = mul a (mul b c) := by
  rw [show mul a b = xs (fun i => sel (co a i) (mxn i b)) 128 from rfl, xs_mul]
  exact xs_congr fun i _ => by rw [sel_mul, mxn_mul i b c hb hc]
theorem one_mul (a : Nat) : mul (2 ^ 127) a = a := by
  unfold mul
  rw [show (128 : Nat) = 127 + 1 from rfl]
  have h : ∀ n, n ≤ 127 → xs (fun i => sel (co (2 ^ 127) i) (mxn i a)) (n + 1) = a := by
    intro n
    induction n with
    | zero => intro _; show 0 ^^^ sel (co (2 ^ 127) 0) a = a; rw [show co (2 ^ 127) 0 = true by decide]; simp [sel]
    | succ n ih =>
      intro hn
      rw [xs, ih (by omega), co, Nat.testBit_two_pow, show decide (127 = 127 - (n + 1)) = false by simp; omega]
      simp [sel]
  exact h 127 (by decide)
end Go.Proofs.YtflofbimecnakaaGreat.Gh
namespace Go.Proofs.YtflofbimecnakaaGreat.Gh
set_option linter.unusedSimpArgs false
set_option linter.unusedVariables false
/-! ### powers and their sums by a list of bools -/
theorem pw_add (m k : Nat) : mxn m (pwG k) = pwG (m + k) := by rw [pwG, mxn_add]; rfl
theorem pw_red (m : Nat) : pwG (m + 128) = pwG m ^^^ pwG (m + 1) ^^^ pwG (m + 2) ^^^ pwG (m + 7) := by
  have h : pwG 128 = pwG 0 ^^^ pwG 1 ^^^ pwG 2 ^^^ pwG 7 := by decide +kernel
  rw [← pw_add, h, mxn_xor, mxn_xor, mxn_xor, pw_add, pw_add, pw_add, pw_add]
  rfl
def V (l : List Bool) (n : Nat) : Nat := xs (fun k => sel (l.getD k false) (pwG k)) n
theorem V_ge (l : List Bool) (k n : Nat) (c : Bool) (h : n ≤ k) : V (l.set k c) n = V l n :=
  xs_congr fun i hi => by rw [List.getD, List.getD, List.getElem?_set_ne (by omega)]
theorem V_set (l : List Bool) (k n : Nat) (c : Bool) (h : k < n) (hl : k < l.length) : V (l.set k c) n = V l n ^^^ sel (l.getD k false ^^ c) (pwG k) := by
  induction n with
  | zero => omega
  | succ n ih =>
    show V (l.set k c) n ^^^ sel ((l.set k c).getD n false) (pwG n) = (V l n ^^^ sel (l.getD n false) (pwG n)) ^^^ _
    by_cases hk : k = n
    · subst hk
      rw [V_ge l k k c (Nat.le_refl _), show (l.set k c).getD k false = c by simp [List.getD, hl], sel_bxor]
      generalize sel (l.getD k false) (pwG k) = x
      generalize sel c (pwG k) = y
      rw [show (V l k ^^^ x) ^^^ (x ^^^ y) = V l k ^^^ ((x ^^^ x) ^^^ y) by ac_rfl, Nat.xor_self, Nat.zero_xor]
    · rw [ih (by omega), show (l.set k c).getD n false = l.getD n false by rw [List.getD, List.getD, List.getElem?_set_ne hk]]
      ac_rfl
theorem V_succ (l : List Bool) (n : Nat) : V l (n + 1) = V l n ^^^ sel (l.getD n false) (pwG n) := rfl
theorem V_flip (l : List Bool) (k n : Nat) (h : k < n) (hl : k < l.length) : V (l.set k (!l.getD k false)) n = V l n ^^^ pwG k := by
  rw [V_set l k n _ h hl, show (l.getD k false ^^ !l.getD k false) = true by cases l.getD k false <;> rfl]
  rfl
/-- one power above is taken down -/
def down (l : List Bool) (i : Nat) : List Bool :=
  let l1 := l.set (i - 128) (!l.getD (i - 128) false)
  let l2 := l1.set (i - 127) (!l1.getD (i - 127) false)
  let l3 := l2.set (i - 126) (!l2.getD (i - 126) false)
  l3.set (i - 121) (!l3.getD (i - 121) false)
theorem down_length (l : List Bool) (i : Nat) : (down l i).length = l.length := by simp [down]
theorem down_V (l : List Bool) (i : Nat) (h : 128 ≤ i) (hl : i < l.length) (hp : l.getD i false = true) : V (down l i) i = V l (i + 1) := by
  rw [V_succ, hp, down]
  show _ = V l i ^^^ pwG i
  rw [V_flip _ _ _ (by omega) (by simp; omega), V_flip _ _ _ (by omega) (by simp; omega), V_flip _ _ _ (by omega) (by simp; omega), V_flip _ _ _ (by omega) (by omega)]
  obtain ⟨m, rfl⟩ := Nat.exists_eq_add_of_le' h
  rw [pw_red, show m + 128 - 128 = m by omega, show m + 128 - 127 = m + 1 by omega, show m + 128 - 126 = m + 2 by omega, show m + 128 - 121 = m + 7 by omega]
  ac_rfl
theorem sum_bit (p : Nat → Bool) (n j : Nat) (hn : n ≤ 128) : (xs (fun i => sel (p i) (pwG i)) n).testBit j = (p (127 - j) && decide (j ≤ 127) && decide (127 - j < n)) := by
  induction n with
  | zero => simp [xs]
  | succ n ih =>
    rw [xs, Nat.testBit_xor, ih (by omega), pw_small n (by omega)]
    by_cases h : 127 - n = j
    · subst h
      have e : 127 - (127 - n) = n := by omega
      rw [e]
      cases hc : p n
      · simp [hc, sel]
      · simp [hc, sel, Nat.testBit_two_pow]
    · have e : (sel (p n) (2 ^ (127 - n))).testBit j = false := by
        cases p n
        · simp [sel]
        · simp only [sel, if_true, Nat.testBit_two_pow]; simpa using h
      rw [e]
      by_cases hj : j ≤ 127
      · have : (127 - j < n + 1) ↔ (127 - j < n) := by omega
        simp [this]
      · simp [hj]
theorem V_co (l : List Bool) (i : Nat) (h : i < 128) : co (V l 128) i = l.getD i false := by
  rw [co, V, sum_bit _ _ _ (Nat.le_refl _), show 127 - (127 - i) = i by omega]
  simp; omega
theorem V_lt (l : List Bool) : V l 128 < 2 ^ 128 := by
  refine Nat.lt_pow_two_of_testBit _ fun j hj => ?_
  rw [V, sum_bit _ _ _ (Nat.le_refl _)]
  simp; omega
/-- the bits of a number, the factor of 1 first -/
def bits (a : Nat) : List Bool := (List.range 128).map (co a)
theorem bits_length (a : Nat) : (bits a).length = 128 := by simp [bits]
theorem bits_getD (a i : Nat) (h : i < 128) : (bits a).getD i false = co a i := by simp [bits, List.getD, h]
theorem bits_V (l : List Bool) (h : l.length = 128) : bits (V l 128) = l := by
  refine List.ext_getElem (by simp [bits, h]) fun i h1 h2 => ?_
  have := V_co l i (by omega)
  simp only [bits, List.getElem_map, List.getElem_range, this, List.getD]
  simp [h2]
theorem V_bits (a : Nat) (h : a < 2 ^ 128) : V (bits a) 128 = a := by
  exact (xs_congr (g := fun i => sel (co a i) (pwG i)) fun i hi => by rw [bits_getD a i hi]).trans (basis a h)
/-! ### four powers at once -/
def C4 : Nat := 0xe1 <<< 120
theorem mx_eq (v : Nat) : mx v = (v >>> 1) ^^^ sel (v.testBit 0) C4 := rfl
def fal : List Nat := [0x0000, 0x1c20, 0x3840, 0x2460, 0x7080, 0x6ca0, 0x48c0, 0x54e0, 0xe100, 0xfd20, 0xd940, 0xc560, 0x9180, 0x8da0, 0xa9c0, 0xb5e0]
def f4 (a b c d : Bool) : Nat := sel a (C4 >>> 3) ^^^ sel b (C4 >>> 2) ^^^ sel c (C4 >>> 1) ^^^ sel d C4
theorem sel_shift (b : Bool) (v k : Nat) : (sel b v) >>> k = sel b (v >>> k) := by cases b; exact Nat.zero_shiftRight k; rfl
theorem sel_test (b : Bool) (v k : Nat) : (sel b v).testBit k = (b && v.testBit k) := by cases b; simp [sel]; simp [sel]
theorem mxn4 (v : Nat) : mxn 4 v = (v >>> 4) ^^^ f4 (v.testBit 0) (v.testBit 1) (v.testBit 2) (v.testBit 3) := by
  have c0 : C4.testBit 0 = false := by decide +kernel
  have c1 : (C4 >>> 1).testBit 0 = false := by decide +kernel
  have c2 : (C4 >>> 2).testBit 0 = false := by decide +kernel
  have e1 : mx v = (v >>> 1) ^^^ sel (v.testBit 0) C4 := rfl
  have e2 : mx (mx v) = (v >>> 2) ^^^ sel (v.testBit 0) (C4 >>> 1) ^^^ sel (v.testBit 1) C4 := by
    rw [mx_eq (mx v), e1, Nat.shiftRight_xor_distrib, sel_shift, ← Nat.shiftRight_add, Nat.testBit_xor, sel_test, c0, Bool.and_false, Bool.xor_false, Nat.testBit_shiftRight]
  have e3 : mx (mx (mx v)) = (v >>> 3) ^^^ sel (v.testBit 0) (C4 >>> 2) ^^^ sel (v.testBit 1) (C4 >>> 1) ^^^ sel (v.testBit 2) C4 := by
    rw [mx_eq (mx (mx v)), e2, Nat.shiftRight_xor_distrib, Nat.shiftRight_xor_distrib, sel_shift, sel_shift, ← Nat.shiftRight_add, ← Nat.shiftRight_add, Nat.testBit_xor, Nat.testBit_xor, sel_test, sel_test, Nat.testBit_shiftRight, c0, c1]
    simp
  show mx (mx (mx (mx v))) = _
  rw [mx_eq (mx (mx (mx v))), e3, Nat.shiftRight_xor_distrib, Nat.shiftRight_xor_distrib, Nat.shiftRight_xor_distrib, sel_shift, sel_shift, sel_shift, ← Nat.shiftRight_add, ← Nat.shiftRight_add, ← Nat.shiftRight_add, Nat.testBit_xor, Nat.testBit_xor, Nat.testBit_xor, sel_test, sel_test, sel_test, Nat.testBit_shiftRight (i := 3), c0, c1, c2, f4]
  simp only [Bool.and_false, Bool.xor_false, Nat.reduceAdd]
  ac_rfl
theorem fal_f4 : ∀ n, n < 16 → f4 (n.testBit 0) (n.testBit 1) (n.testBit 2) (n.testBit 3) = (fal.getD n 0) <<< 112 := by decide +kernel
theorem mxn4_fal (v : Nat) : mxn 4 v = (v >>> 4) ^^^ (fal.getD (v % 16) 0) <<< 112 := by
  rw [mxn4, ← fal_f4 _ (Nat.mod_lt _ (by decide)), show (16 : Nat) = 2 ^ 4 from rfl, Nat.testBit_mod_two_pow, Nat.testBit_mod_two_pow, Nat.testBit_mod_two_pow, Nat.testBit_mod_two_pow]
  rfl
/-! ### four bits at a time -/
def tab (b n : Nat) : Nat := mul (n <<< 124) b
def hor (b a t : Nat) : Nat := mul ((a % 2 ^ (4 * t)) <<< (128 - 4 * t)) b
theorem hor_zero (b a : Nat) : hor b a 0 = 0 := by
  rw [hor, show a % 2 ^ (4 * 0) = 0 by simp [Nat.mod_one], Nat.zero_shiftLeft, zero_mul]
theorem hor_all (b a : Nat) (h : a < 2 ^ 128) : hor b a 32 = mul a b := by
  rw [hor, show 4 * 32 = 128 from rfl, Nat.mod_eq_of_lt h]
  rfl
theorem hor_step (b a t : Nat) (hb : b < 2 ^ 128) (ht : t < 32) : hor b a (t + 1) = mxn 4 (hor b a t) ^^^ tab b ((a >>> (4 * t)) % 16) := by
  rw [hor, hor, tab, ← mxn_mul 4 _ b ?_ hb, ← xor_mul]
  · refine congrArg (mul · b) ?_
    have hz : ∀ i, i < 4 → ((a % 2 ^ (4 * t)) <<< (128 - 4 * t)).testBit i = false := fun i hi => by
      rw [Nat.testBit_shiftLeft]
      simp; omega
    rw [mxn4, hz 0 (by decide), hz 1 (by decide), hz 2 (by decide), hz 3 (by decide), show f4 false false false false = 0 by decide +kernel, Nat.xor_zero]
    refine Nat.eq_of_testBit_eq fun j => ?_
    rw [Nat.testBit_xor, Nat.testBit_shiftLeft, Nat.testBit_shiftLeft, Nat.testBit_shiftRight, Nat.testBit_shiftLeft, show (16 : Nat) = 2 ^ 4 from rfl, Nat.testBit_mod_two_pow, Nat.testBit_mod_two_pow, Nat.testBit_mod_two_pow, Nat.testBit_shiftRight]
    by_cases h1 : 124 ≤ j
    · rw [show decide (4 + j - (128 - 4 * t) < 4 * t) = false by simp; omega, Bool.false_and, Bool.and_false, Bool.false_xor, show j - (128 - 4 * (t + 1)) = 4 * t + (j - 124) by omega,
        show decide (j ≥ 124) = true by simpa using h1, show decide (j ≥ 128 - 4 * (t + 1)) = true by simp; omega, Bool.true_and, Bool.true_and,
        decide_eq_decide.2 (show 4 * t + (j - 124) < 4 * (t + 1) ↔ j - 124 < 4 by omega)]
    · rw [show decide (j ≥ 124) = false by simpa using h1, Bool.false_and, Bool.xor_false]
      by_cases h2 : 128 - 4 * (t + 1) ≤ j
      · rw [show j - (128 - 4 * (t + 1)) = 4 + j - (128 - 4 * t) by omega, show decide (j ≥ 128 - 4 * (t + 1)) = true by simpa using h2, show decide (4 + j ≥ 128 - 4 * t) = true by simp; omega,
          decide_eq_decide.2 (show 4 + j - (128 - 4 * t) < 4 * (t + 1) ↔ 4 + j - (128 - 4 * t) < 4 * t by omega)]
      · rw [show decide (j ≥ 128 - 4 * (t + 1)) = false by simpa using h2, show decide (4 + j ≥ 128 - 4 * t) = false by simp; omega, Bool.false_and, Bool.false_and]
  · have h1 : a % 2 ^ (4 * t) < 2 ^ (4 * t) := Nat.mod_lt _ (Nat.two_pow_pos _)
    rw [Nat.shiftLeft_eq, show (128 : Nat) = 4 * t + (128 - 4 * t) by omega, Nat.pow_add, show 4 * t + (128 - 4 * t) - 4 * t = 128 - 4 * t by omega]
    exact Nat.mul_lt_mul_of_pos_right h1 (Nat.two_pow_pos _)
theorem tab_lt (b n : Nat) (hb : b < 2 ^ 128) : tab b n < 2 ^ 128 := mul_lt _ _ hb
theorem tab8 (b : Nat) : tab b 8 = b := one_mul b
theorem tab_mx (b n : Nat) (hb : b < 2 ^ 128) (hn : n = 8 ∨ n = 4 ∨ n = 2) : tab b (n / 2) = mx (tab b n) := by
  rw [tab, tab, ← mx_mul _ _ (by rcases hn with rfl | rfl | rfl <;> decide +kernel) hb]
  refine congrArg (mul · b) ?_
  rcases hn with rfl | rfl | rfl <;> decide +kernel
theorem tab_xor (b n m : Nat) : tab b (n ^^^ m) = tab b n ^^^ tab b m := by
  rw [tab, tab, tab, ← xor_mul, Nat.shiftLeft_xor_distrib]
/-! ### halves -/
def hi (v : Nat) : Nat := v >>> 64
def lo (v : Nat) : Nat := v % 2 ^ 64
theorem hi_lt (v : Nat) (h : v < 2 ^ 128) : hi v < 2 ^ 64 := by rw [hi, Nat.shiftRight_eq_div_pow]; omega
theorem lo_lt (v : Nat) : lo v < 2 ^ 64 := Nat.mod_lt _ (by decide)
theorem hi_xor (u v : Nat) : hi (u ^^^ v) = hi u ^^^ hi v := Nat.shiftRight_xor_distrib
theorem lo_xor (u v : Nat) : lo (u ^^^ v) = lo u ^^^ lo v := Nat.xor_mod_two_pow
theorem hilo (v : Nat) : hi v * 2 ^ 64 + lo v = v := by rw [hi, lo, Nat.shiftRight_eq_div_pow]; omega
theorem hi_mk (h l : Nat) (hl : l < 2 ^ 64) : hi (h * 2 ^ 64 + l) = h := by rw [hi, Nat.shiftRight_eq_div_pow]; omega
theorem lo_mk (h l : Nat) (hl : l < 2 ^ 64) : lo (h * 2 ^ 64 + l) = l := by rw [lo]; omega
theorem lo_bit (v i : Nat) (h : i < 64) : (lo v).testBit i = v.testBit i := by rw [lo, Nat.testBit_mod_two_pow]; simp [h]
theorem hi_shr (v k : Nat) : hi (v >>> k) = hi v >>> k := by rw [hi, hi, ← Nat.shiftRight_add, ← Nat.shiftRight_add, Nat.add_comm]
theorem lo_shr (v k : Nat) (h : k ≤ 64) : lo (v >>> k) = (hi v <<< (64 - k)) % 2 ^ 64 ||| lo v >>> k := by
  refine Nat.eq_of_testBit_eq fun j => ?_
  rw [lo, lo, hi, Nat.testBit_mod_two_pow, Nat.testBit_or, Nat.testBit_mod_two_pow, Nat.testBit_shiftLeft, Nat.testBit_shiftRight, Nat.testBit_shiftRight, Nat.testBit_shiftRight, Nat.testBit_mod_two_pow]
  by_cases h1 : j < 64 - k
  · rw [show decide (j ≥ 64 - k) = false by simp; omega, show decide (k + j < 64) = true by simp; omega, show decide (j < 64) = true by simp; omega]
    simp
  · rw [show decide (j ≥ 64 - k) = true by simp; omega, show decide (k + j < 64) = false by simp; omega, show 64 + (j - (64 - k)) = k + j by omega]
    simp
theorem hi_mx (v : Nat) : hi (mx v) = (hi v >>> 1) ^^^ sel (v.testBit 0) (0xe1 <<< 56) := by
  rw [mx_eq, hi_xor, hi_shr, show hi (sel (v.testBit 0) C4) = sel (v.testBit 0) (0xe1 <<< 56) by cases v.testBit 0 <;> decide +kernel]
theorem lo_mx (v : Nat) : lo (mx v) = (hi v <<< 63) % 2 ^ 64 ||| lo v >>> 1 := by
  rw [mx_eq, lo_xor, lo_shr v 1 (by decide), show lo (sel (v.testBit 0) C4) = 0 by cases v.testBit 0 <;> decide +kernel, Nat.xor_zero]
theorem fal_hi : ∀ n, n < 16 → hi ((fal.getD n 0) <<< 112) = (fal.getD n 0) <<< 48 ∧ lo ((fal.getD n 0) <<< 112) = 0 ∧ fal.getD n 0 < 65536 := by decide +kernel
theorem lo_mod16 (v : Nat) : lo v % 16 = v % 16 := by rw [lo, show (16 : Nat) = 2 ^ 4 from rfl, Nat.mod_mod_of_dvd v (Nat.pow_dvd_pow 2 (by decide))]
theorem hi_mx4 (v : Nat) : hi (mxn 4 v) = (hi v >>> 4) ^^^ (fal.getD (lo v % 16) 0) <<< 48 := by
  rw [mxn4_fal, hi_xor, hi_shr, (fal_hi _ (Nat.mod_lt _ (by decide))).1, lo_mod16]
theorem lo_mx4 (v : Nat) : lo (mxn 4 v) = (hi v <<< 60) % 2 ^ 64 ||| lo v >>> 4 := by
  rw [mxn4_fal, lo_xor, lo_shr v 4 (by decide), (fal_hi _ (Nat.mod_lt _ (by decide))).2.1, Nat.xor_zero]
end Go.Proofs.YtflofbimecnakaaGreat.Gh
namespace Go.Proofs.YtflofbimecnakaaGreat
open Go.RowKit
set_option linter.unusedVariables false
set_option linter.unusedSimpArgs false
theorem ofBe_bit (l : List UInt8) (j : Nat) (hj : j < 8 * l.length) : (ofBe l).testBit j = (l.getD (l.length - 1 - j / 8) 0).toNat.testBit (j % 8) := by
  suffices h : ∀ k, k ≤ l.length → ∀ j, j < 8 * k → (ofBe (l.take k)).testBit j = (l.getD (k - 1 - j / 8) 0).toNat.testBit (j % 8) by
    have := h l.length (Nat.le_refl _) j hj
    rwa [List.take_length] at this
  clear hj j
  intro k
  induction k with
  | zero => intro _ j hj; omega
  | succ k ih =>
    intro hk j hj
    rw [ofBe_take l k (l[k]'hk) (List.getElem?_eq_getElem hk), show (256 : Nat) = 2 ^ 8 from rfl, Nat.mul_comm, Nat.testBit_two_pow_mul_add _ (by exact (l[k]'hk).toNat_lt)]
    by_cases h : j < 8
    · rw [if_pos h, show k + 1 - 1 - j / 8 = k by omega, show j % 8 = j by omega, List.getD, List.getElem?_eq_getElem hk]
      rfl
    · rw [if_neg h, ih (by omega) (j - 8) (by omega), show (j - 8) % 8 = j % 8 by omega, show k - 1 - (j - 8) / 8 = k + 1 - 1 - j / 8 by omega]
theorem co_of (L : List UInt8) (hL : L.length = 16) (i : Nat) (h : i < 128) : Gh.co (ofBe L) i = (L.getD (i / 8) 0).toNat.testBit (7 - i % 8) := by
  rw [Gh.co, ofBe_bit L _ (by omega), hL, show 16 - 1 - (127 - i) / 8 = i / 8 by omega, show (127 - i) % 8 = 7 - i % 8 by omega]
theorem fold_x (B : List UInt8) : ∀ x : Nat, B.foldl (fun n b => n * 256 + b.toNat) x = x * 256 ^ B.length + B.foldl (fun n b => n * 256 + b.toNat) 0 := by
  induction B with
  | nil => intro x; simp
  | cons b B ih =>
    intro x
    rw [List.foldl_cons, List.foldl_cons, ih, ih (0 * 256 + b.toNat), List.length_cons, Nat.pow_succ, Nat.zero_mul, Nat.zero_add, Nat.add_mul, Nat.mul_assoc, Nat.mul_comm 256, Nat.add_assoc]
theorem ofBe_app (A B : List UInt8) : ofBe (A ++ B) = ofBe A * 256 ^ B.length + ofBe B := by
  rw [ofBe, List.foldl_append]
  exact fold_x B _
theorem of16_lt (L : List UInt8) (hL : L.length = 16) : ofBe L < 2 ^ 128 := by
  have := ofBe_lt L
  rw [hL] at this
  exact this
theorem of8_lt (L : List UInt8) (hL : L.length = 8) : ofBe L < 2 ^ 64 := by
  have := ofBe_lt L
  rw [hL] at this
  exact this
theorem of16_half (L : List UInt8) (hL : L.length = 16) : Gh.hi (ofBe L) = ofBe (L.take 8) ∧ Gh.lo (ofBe L) = ofBe (L.drop 8) := by
  have h := ofBe_app (L.take 8) (L.drop 8)
  rw [List.take_append_drop, List.length_drop, hL] at h
  have h2 := of8_lt (L.drop 8) (by rw [List.length_drop, hL])
  rw [h]
  exact ⟨Gh.hi_mk _ _ h2, Gh.lo_mk _ _ h2⟩
theorem be16 (v : Nat) (h : v < 2 ^ 128) : be 16 v = be 8 (Gh.hi v) ++ be 8 (Gh.lo v) := by
  have h1 : ofBe (be 8 (Gh.hi v) ++ be 8 (Gh.lo v)) = v := by
    rw [ofBe_app, ofBe_be, ofBe_be, be_length, show (256 : Nat) ^ 8 = 2 ^ 64 by decide, Nat.mod_eq_of_lt (Gh.hi_lt v h), Nat.mod_eq_of_lt (Gh.lo_lt v), Gh.hilo]
  have h2 := be_ofBe (be 8 (Gh.hi v) ++ be 8 (Gh.lo v))
  rw [h1, List.length_append, be_length, be_length] at h2
  exact h2
theorem ofBe16 (v : Nat) (h : v < 2 ^ 128) : ofBe (be 16 v) = v := by
  rw [ofBe_be, show (256 : Nat) ^ 16 = 2 ^ 128 by decide, Nat.mod_eq_of_lt h]
/-- an element's bytes, bit by bit -/
def txStep (e : List Bool) (n : Nat) (B : List UInt8) : List UInt8 := if e.getD n false then B.set (n / 8) (B.getD (n / 8) 0 ||| UInt8.ofNat (2 ^ (7 - n % 8))) else B
def tx (e : List Bool) : Nat → List UInt8
  | 0 => List.replicate 16 0
  | n + 1 => txStep e n (tx e n)
theorem tx_length (e : List Bool) (n : Nat) : (tx e n).length = 16 := by
  induction n with
  | zero => rfl
  | succ n ih => rw [tx, txStep]; split <;> simp [ih]
theorem tx_bit (e : List Bool) (n : Nat) (hn : n ≤ 128) : ∀ i, i < 128 → ((tx e n).getD (i / 8) 0).toNat.testBit (7 - i % 8) = (decide (i < n) && e.getD i false) := by
  induction n with
  | zero =>
    intro i hi
    have h0 : (tx e 0).getD (i / 8) 0 = 0 := by
      rw [tx, List.getD, List.getElem?_replicate]
      split <;> rfl
    rw [h0]
    simp
  | succ n ih =>
    intro i hi
    have hl := tx_length e n
    rw [tx, txStep]
    cases he : e.getD n false
    · rw [if_neg (by simp), ih (by omega) i hi]
      by_cases h : i = n
      · subst h; rw [he]; simp
      · rw [decide_eq_decide.2 (show i < n ↔ i < n + 1 by omega)]
    · rw [if_pos rfl]
      by_cases hb : i / 8 = n / 8
      · rw [hb, show ((tx e n).set (n / 8) ((tx e n).getD (n / 8) 0 ||| UInt8.ofNat (2 ^ (7 - n % 8)))).getD (n / 8) 0 = (tx e n).getD (n / 8) 0 ||| UInt8.ofNat (2 ^ (7 - n % 8)) by
          rw [List.getD, List.getElem?_set_self (by omega)]; rfl, UInt8.toNat_or, Nat.testBit_or, ← hb, ih (by omega) i hi, UInt8.toNat_ofNat', Nat.mod_eq_of_lt (Nat.pow_lt_pow_right (by decide) (by omega)), Nat.testBit_two_pow]
        by_cases h : i = n
        · subst h; rw [he]; simp
        · rw [decide_eq_decide.2 (show i < n ↔ i < n + 1 by omega), show decide (7 - n % 8 = 7 - i % 8) = false by simp; omega, Bool.or_false]
      · rw [show ((tx e n).set (n / 8) ((tx e n).getD (n / 8) 0 ||| UInt8.ofNat (2 ^ (7 - n % 8)))).getD (i / 8) 0 = (tx e n).getD (i / 8) 0 by
          rw [List.getD, List.getElem?_set_ne (fun h => hb h.symm)]; rfl, ih (by omega) i hi, decide_eq_decide.2 (show i < n ↔ i < n + 1 by omega)]
theorem tx_all (e : List Bool) : tx e 128 = be 16 (Gh.V e 128) := by
  have hl := tx_length e 128
  have h : ofBe (tx e 128) = Gh.V e 128 := by
    rw [← Gh.basis _ (of16_lt _ hl), Gh.V]
    refine Gh.xs_congr fun i hi => ?_
    rw [co_of _ hl i hi, tx_bit e 128 (Nat.le_refl _) i hi]
    simp [hi]
  rw [← h]
  have := be_ofBe (tx e 128)
  rw [hl] at this
  exact this.symm
/-- the product of texts -/
def gmL (A B : List UInt8) : List UInt8 := be 16 (Gh.mul (ofBe A) (ofBe B))
theorem gmL_length (A B : List UInt8) : (gmL A B).length = 16 := be_length _ _
end Go.Proofs.YtflofbimecnakaaGreat
namespace Go.Proofs.YtflofbimecnakaaGreat
open Go.RowKit
set_option linter.unusedVariables false
set_option linter.unusedSimpArgs false
theorem u64w (n : Nat) (h : n < 18446744073709551616) : IntKind.u64.wrap (n : Int) = (n : Int) := by simp [IntKind.wrap, IntKind.bits, IntKind.signed]; omega
theorem u64n_toNat (x : Nat) (h : x < 18446744073709551616) : (BitVec.ofInt 64 (x : Int)).toNat = x := by
  rw [BitVec.toNat_ofInt]
  omega
theorem u64n_xor (x y : Nat) (hx : x < 18446744073709551616) (hy : y < 18446744073709551616) : bits .xor .u64 (x : Int) (y : Int) = ((x ^^^ y : Nat) : Int) := by
  show IntKind.u64.wrap ((BitVec.ofInt 64 (x : Int) ^^^ BitVec.ofInt 64 (y : Int)).toNat : Nat) = _
  rw [BitVec.toNat_xor, u64n_toNat x hx, u64n_toNat y hy]
  exact u64w _ (Nat.xor_lt_two_pow (n := 64) hx hy)
theorem u64n_or (x y : Nat) (hx : x < 18446744073709551616) (hy : y < 18446744073709551616) : bits .or .u64 (x : Int) (y : Int) = ((x ||| y : Nat) : Int) := by
  show IntKind.u64.wrap ((BitVec.ofInt 64 (x : Int) ||| BitVec.ofInt 64 (y : Int)).toNat : Nat) = _
  rw [BitVec.toNat_or, u64n_toNat x hx, u64n_toNat y hy]
  exact u64w _ (Nat.or_lt_two_pow (n := 64) hx hy)
theorem u64n_and (x y : Nat) (hx : x < 18446744073709551616) (hy : y < 18446744073709551616) : bits .and .u64 (x : Int) (y : Int) = ((x &&& y : Nat) : Int) := by
  show IntKind.u64.wrap ((BitVec.ofInt 64 (x : Int) &&& BitVec.ofInt 64 (y : Int)).toNat : Nat) = _
  rw [BitVec.toNat_and, u64n_toNat x hx, u64n_toNat y hy]
  exact u64w _ (Nat.lt_of_le_of_lt Nat.and_le_left hx)
theorem u64n_wrap (n : Nat) : IntKind.u64.wrap (n : Int) = ((n % 18446744073709551616 : Nat) : Int) := by simp [IntKind.wrap, IntKind.bits, IntKind.signed]
theorem u64n_shl (a k : Nat) (c : Int) (hc : c = ((2 ^ k : Nat) : Int)) : IntKind.u64.wrap ((a : Int) * c) = (((a <<< k) % 2 ^ 64 : Nat) : Int) := by
  rw [hc, ← Int.natCast_mul, u64n_wrap, Nat.shiftLeft_eq]
theorem u64n_shr (a k : Nat) (c : Int) (hc : c = ((2 ^ k : Nat) : Int)) : (a : Int) / c = ((a >>> k : Nat) : Int) := by
  rw [hc, Nat.shiftRight_eq_div_pow, Int.natCast_ediv]
/-- an element's cells -/
def elc (v : Nat) : List Value := [.int .u64 ((Gh.hi v : Nat) : Int), .int .u64 ((Gh.lo v : Nat) : Int)]
def RetEl (v : Nat) (w : World) (e : Ending) (w' : World) : Prop := e = .returned (.agg #[.int .u64 ((Gh.hi v : Nat) : Int), .int .u64 ((Gh.lo v : Nat) : Int)]) ∧ Below w.heap.size w w'
set_option maxRecDepth 100000 in
theorem plus_any (u v : Nat) (hu : u < 2 ^ 128) (hv : v < 2 ^ 128) (w : World) : Calls Tryz.prog 67 #[.agg #[.int .u64 ((Gh.hi u : Nat) : Int), .int .u64 ((Gh.lo u : Nat) : Int)], .agg #[.int .u64 ((Gh.hi v : Nat) : Int), .int .u64 ((Gh.lo v : Nat) : Int)]] w (RetEl (u ^^^ v) w) := by
  have x1 := u64n_xor (Gh.hi u) (Gh.hi v) (Gh.hi_lt u hu) (Gh.hi_lt v hv)
  have x2 := u64n_xor (Gh.lo u) (Gh.lo v) (Gh.lo_lt u) (Gh.lo_lt v)
  rw [← Gh.hi_xor] at x1
  rw [← Gh.lo_xor] at x2
  obtain ⟨a, ha⟩ : ∃ a, Gh.hi u = a := ⟨_, rfl⟩
  obtain ⟨b, hb⟩ : ∃ b, Gh.lo u = b := ⟨_, rfl⟩
  obtain ⟨c, hc⟩ : ∃ c, Gh.hi v = c := ⟨_, rfl⟩
  obtain ⟨d, hd⟩ : ∃ d, Gh.lo v = d := ⟨_, rfl⟩
  obtain ⟨x, hx⟩ : ∃ x, Gh.hi (u ^^^ v) = x := ⟨_, rfl⟩
  obtain ⟨y, hy⟩ : ∃ y, Gh.lo (u ^^^ v) = y := ⟨_, rfl⟩
  have HX := Lib.hid hx
  have HY := Lib.hid hy
  rw [ha, hc, hx] at x1
  rw [hb, hd, hy] at x2
  rw [ha, hb, hc, hd]
  clear ha hb hc hd hx hy
  go_enter Tryz.func67, Tryz.ntmps67
  go_wp2_with fail
  have hA := At.ofAlloc ((w.alloc (Obj.cells #[.int .u64 (a : Int), .int .u64 (b : Int)] 132)).alloc (Obj.cells #[.int .u64 (c : Int), .int .u64 (d : Int)] 132)) #[.int .u64 (x : Int), .int .u64 (y : Int)] 132
  rw [World.size_alloc, World.size_alloc] at hA
  refine bodyPost_ret (results_at rfl _ (w.heap.size + 1 + 1) _ _ rfl hA Tryz.underlying132 rfl rfl) rfl ?_
  exact ⟨by rw [HX.out, HY.out], (((Below.refl _ _).alloc (Nat.le_refl _) _).alloc (by simp) _).alloc (by simp; omega) _⟩
set_option maxRecDepth 100000 in
theorem timesX_any (v : Nat) (hv : v < 2 ^ 128) (w : World) : Calls Tryz.prog 82 #[.agg #[.int .u64 ((Gh.hi v : Nat) : Int), .int .u64 ((Gh.lo v : Nat) : Int)]] w (RetEl (Gh.mx v) w) := by
  have ah := Gh.hi_lt v hv
  have bh := Gh.lo_lt v
  have h0 := Gh.hi_mx v
  have h1 := Gh.lo_mx v
  rw [← Gh.lo_bit v 0 (by decide), Nat.testBit_zero] at h0
  obtain ⟨a, ha⟩ : ∃ a, Gh.hi v = a := ⟨_, rfl⟩
  obtain ⟨b, hb⟩ : ∃ b, Gh.lo v = b := ⟨_, rfl⟩
  rw [ha] at ah h0 h1 ⊢
  rw [hb] at bh h0 h1 ⊢
  have x1 := u64n_shr a 1 2 rfl
  have x2 := u64n_shl a 63 9223372036854775808 (by decide)
  have x3 := u64n_shr b 1 2 rfl
  have l1 : a >>> 1 < 2 ^ 64 := by rw [Nat.shiftRight_eq_div_pow]; omega
  have l2 : (a <<< 63) % 2 ^ 64 < 2 ^ 64 := Nat.mod_lt _ (by decide)
  have l3 : b >>> 1 < 2 ^ 64 := by rw [Nat.shiftRight_eq_div_pow]; omega
  obtain ⟨p, hp⟩ : ∃ p, a >>> 1 = p := ⟨_, rfl⟩
  obtain ⟨q, hq⟩ : ∃ q, (a <<< 63) % 2 ^ 64 = q := ⟨_, rfl⟩
  obtain ⟨r, hr⟩ : ∃ r, b >>> 1 = r := ⟨_, rfl⟩
  rw [hp] at x1 l1 h0
  rw [hq] at x2 l2 h1
  rw [hr] at x3 l3 h1
  have x4 := u64n_or q r l2 l3
  have x5 := u64n_and b 1 bh (by decide)
  rw [Nat.and_one_is_mod, show ((1 : Nat) : Int) = 1 from rfl] at x5
  have x6 := u64n_xor p (0xe1 <<< 56) l1 (by decide)
  rw [show ((0xe1 <<< 56 : Nat) : Int) = 16212958658533785600 by decide] at x6
  rw [← h1] at x4
  have H1 := Lib.hid h1
  obtain ⟨y, hy⟩ : ∃ y, Gh.lo (Gh.mx v) = y := ⟨_, rfl⟩
  rw [hy] at x4
  by_cases hbit : b % 2 = 1
  · rw [hbit] at x5
    have x7 : (bits .and .u64 (b : Int) 1 == 1) = true := by rw [x5]; rfl
    rw [hbit, show (decide (1 = 1) : Bool) = true from rfl, Gh.sel, if_pos rfl] at h0
    rw [← h0] at x6
    obtain ⟨x, hx⟩ : ∃ x, Gh.hi (Gh.mx v) = x := ⟨_, rfl⟩
    rw [hx] at x6
    have HX := Lib.hid hx
    have HY := Lib.hid hy
    clear hx hy h0 h1 x5 hbit hp hq hr ha hb l1 l2 l3 ah bh
    go_enter Tryz.func82, Tryz.ntmps82
    go_wp2_with fail
    have hA := (At.ofAlloc (w.alloc (Obj.cells #[.int .u64 (a : Int), .int .u64 (b : Int)] 132)) #[.int .u64 (x : Int), .int .u64 (y : Int)] 132).alloc (Obj.cells #[.int .u64 (x : Int), .int .u64 (y : Int)] 132)
    rw [World.size_alloc] at hA
    refine bodyPost_ret (results_at rfl _ (w.heap.size + 1) _ _ rfl hA Tryz.underlying132 rfl rfl) rfl ?_
    exact ⟨by rw [HX.out, HY.out], (((Below.refl _ _).alloc (Nat.le_refl _) _).alloc (by simp) _).alloc (by simp; omega) _⟩
  · rw [show b % 2 = 0 by omega] at x5
    have x7 : (bits .and .u64 (b : Int) 1 == 1) = false := by rw [x5]; rfl
    rw [show b % 2 = 0 by omega, show (decide (0 = 1) : Bool) = false from rfl, Gh.sel, if_neg (by decide), Nat.xor_zero] at h0
    have HX := Lib.hid h0
    have HY := Lib.hid hy
    clear hy h0 h1 x5 x6 hbit hp hq hr ha hb l1 l2 l3 ah bh
    go_enter Tryz.func82, Tryz.ntmps82
    go_wp2_with fail
    have hA := (At.ofAlloc (w.alloc (Obj.cells #[.int .u64 (a : Int), .int .u64 (b : Int)] 132)) #[.int .u64 (p : Int), .int .u64 (y : Int)] 132).alloc (Obj.cells #[.int .u64 (p : Int), .int .u64 (y : Int)] 132)
    rw [World.size_alloc] at hA
    refine bodyPost_ret (results_at rfl _ (w.heap.size + 1) _ _ rfl hA Tryz.underlying132 rfl rfl) rfl ?_
    exact ⟨by rw [HX.out, HY.out], (((Below.refl _ _).alloc (Nat.le_refl _) _).alloc (by simp) _).alloc (by simp; omega) _⟩
end Go.Proofs.YtflofbimecnakaaGreat
namespace Go.Proofs.YtflofbimecnakaaGreat
open Go.RowKit
set_option linter.unusedVariables false
set_option linter.unusedSimpArgs false
theorem gx_app (a b : ByteArray) : (a ++ b).toList = a.toList ++ b.toList := by
  rw [Lib.toList_data, Lib.toList_data, Lib.toList_data, ByteArray.data_append]
  simp
theorem gx_ext0 (s : ByteArray) (b : Nat) : (s.extract 0 b).toList = s.toList.take b := by rw [Lib.extract_toList, ← Lib.toList_data]; simp
theorem gx_extE (s : ByteArray) (a n : Nat) (h : n = s.size) : (s.extract a n).toList = s.toList.drop a := by
  rw [Lib.extract_toList, ← Lib.toList_data, List.take_of_length_le (by rw [List.length_drop, Lib.toList_data, Array.length_toList]; subst h; exact Nat.le_refl _)]
theorem get8 (L : List UInt8) (h : L.length = 8) : getN L = ofBe L ∧ getE L = 0 := by
  have : getOk L = true := by rw [getOk, h]; rfl
  rw [getN, getE, this]
  exact ⟨rfl, rfl⟩
theorem put8 (n : Nat) (h : n < 2 ^ 64) : putL n 8 = be 8 n ∧ putE n 8 = 0 := by
  have : putOk n 8 = true := by rw [putOk, decide_eq_true_eq]; exact ⟨by decide, by decide, by exact h⟩
  rw [putL, putE, this]
  exact ⟨rfl, rfl⟩
set_option maxRecDepth 100000 in
theorem gread_any (s : ByteArray) (hs : s.size = 16) (w : World) : Calls Tryz.prog 65 #[.string s] w (RetEl (ofBe s.toList) w) := by
  have hL : s.toList.length = 16 := by rw [tl_size]; exact hs
  obtain ⟨h1, h2⟩ := of16_half _ hL
  obtain ⟨x, hx⟩ : ∃ x, s.extract 0 8 = x := ⟨_, rfl⟩
  obtain ⟨y, hy⟩ : ∃ y, s.extract 8 16 = y := ⟨_, rfl⟩
  have xl : x.toList = s.toList.take 8 := by rw [← hx, gx_ext0]
  have yl : y.toList = s.toList.drop 8 := by rw [← hy, gx_extE _ _ _ hs.symm]
  have xs : x.size = 8 := by rw [← tl_size, xl, List.length_take, hL]; rfl
  have ys : y.size = 8 := by rw [← tl_size, yl, List.length_drop, hL]
  have g1 := get8 x.toList (by rw [tl_size]; exact xs)
  have g2 := get8 y.toList (by rw [tl_size]; exact ys)
  rw [xl, ← h1] at g1
  rw [yl, ← h2] at g2
  rw [← xl] at g1
  rw [← yl] at g2
  have c1 := get_any x
  have c2 := get_any y
  rw [g1.1, g1.2] at c1
  rw [g2.1, g2.2] at c2
  have C1 := Lib.hid c1
  have C2 := Lib.hid c2
  have hsI : (s.size : Int) = 16 := by rw [hs]; rfl
  have XS := Lib.hid xs
  have YS := Lib.hid ys
  clear c1 c2 g1 g2 xl yl h1 h2 hL xs ys
  go_enter Tryz.func65, Tryz.ntmps65
  go_wp2_with fail
  refine (C1.out _ (by have := XS.out; unfold maxLen; omega)).mono ?_
  rintro e w1 ⟨rfl, rfl⟩
  go_wp2_with fail
  refine (C2.out _ (by have := YS.out; unfold maxLen; omega)).mono ?_
  rintro e w2 ⟨rfl, rfl⟩
  go_wp2_with fail
  refine bodyPost_ret (results_at rfl _ w.heap.size _ _ rfl (At.ofAlloc w #[.int .u64 ((Gh.hi (ofBe s.toList) : Nat) : Int), .int .u64 ((Gh.lo (ofBe s.toList) : Nat) : Int)] 132) Tryz.underlying132 rfl rfl) rfl ?_
  exact ⟨rfl, (Below.refl _ _).alloc (Nat.le_refl _) _⟩
set_option maxRecDepth 100000 in
theorem gtell_any (v : Nat) (hv : v < 2 ^ 128) (w : World) : Calls Tryz.prog 68 #[.agg #[.int .u64 ((Gh.hi v : Nat) : Int), .int .u64 ((Gh.lo v : Nat) : Int)]] w (fun e w' => ∃ s : ByteArray, e = .returned (.string s) ∧ s.toList = be 16 v ∧ Below w.heap.size w w') := by
  have ah := Gh.hi_lt v hv
  have bh := Gh.lo_lt v
  have B := be16 v hv
  obtain ⟨a, ha⟩ : ∃ a, Gh.hi v = a := ⟨_, rfl⟩
  obtain ⟨b, hb⟩ : ∃ b, Gh.lo v = b := ⟨_, rfl⟩
  rw [ha] at ah B ⊢
  rw [hb] at bh B ⊢
  have p1 := fun w => put_any a 8 w ah
  have p2 := fun w => put_any b 8 w bh
  rw [(put8 a ah).1, (put8 a ah).2] at p1
  rw [(put8 b bh).1, (put8 b bh).2] at p2
  have P1 := Lib.hid p1
  have P2 := Lib.hid p2
  have HB := Lib.hid B
  clear p1 p2 B ah bh ha hb
  go_enter Tryz.func68, Tryz.ntmps68
  go_wp2_with fail
  obtain ⟨w0, hw0, hb0, hc0⟩ : ∃ w0, w.alloc (Obj.cells #[.int .u64 (a : Int), .int .u64 (b : Int)] 132) = w0 ∧ Below w.heap.size w w0 ∧ w0.cell? ⟨w.heap.size, 1, none⟩ = some (.int .u64 (b : Int)) ∧ w.heap.size < w0.heap.size :=
    ⟨_, rfl, (Below.refl _ _).alloc (Nat.le_refl _) _, (At.ofAlloc w #[.int .u64 (a : Int), .int .u64 (b : Int)] 132).cell 1 _ rfl, by simp⟩
  rw [hw0]
  refine (P1.out w0).mono ?_
  rintro e w1 ⟨s1, rfl, hs1, hb1⟩
  have hc1 := (hb1.cell (p := ⟨w.heap.size, 1, none⟩) hc0.2).trans hc0.1
  have hb01 := hb0.trans (hb1.mono hb0.size)
  have z1 : s1.size = 8 := by rw [← tl_size, hs1, be_length]
  have H1 := Lib.hid hs1
  clear hw0 hb0 hc0 hb1 hs1
  go_wp2_with fail
  refine (P2.out w1).mono ?_
  rintro e w2 ⟨s2, rfl, hs2, hb2⟩
  have hb02 := hb01.trans (hb2.mono hb01.size)
  have z2 : s2.size = 8 := by rw [← tl_size, hs2, be_length]
  have H2 := Lib.hid hs2
  have z3 : ¬ 9223372036854775807 < s1.size + s2.size := by omega
  have H3 : Hid ((s1 ++ s2).toList = be 16 v) := by show _ = _; rw [gx_app, H1.out, hs2, HB.out]
  clear hs2 hb2 hb01 z1 z2 hc1
  go_wp2_with fail
  go_ret
  exact ⟨_, rfl, H3.out, hb02⟩
end Go.Proofs.YtflofbimecnakaaGreat
namespace Go.Proofs.YtflofbimecnakaaGreat
set_option linter.unusedSimpArgs false
set_option linter.unusedVariables false
namespace Gh
/-- what the package's table may hold -/
structure Tw where
  t : List Nat
  lt : ∀ i, t.getD i 0 < 2 ^ 64
def Tt [Inhabited Tw] : List Nat := (default : Tw).t
theorem Tt_lt [Inhabited Tw] (i : Nat) : Tt.getD i 0 < 2 ^ 64 := (default : Tw).lt i
section
variable [Inhabited Tw]
def m4 (v : Nat) : Nat := ((hi v >>> 4) ^^^ (Tt.getD (lo v % 16) 0 <<< 48) % 2 ^ 64) * 2 ^ 64 + ((hi v <<< 60) % 2 ^ 64 ||| lo v >>> 4)
end
theorem m4_low (v : Nat) : (hi v <<< 60) % 2 ^ 64 ||| lo v >>> 4 < 2 ^ 64 := by
  refine Nat.or_lt_two_pow (Nat.mod_lt _ (by decide)) ?_
  have := lo_lt v
  rw [Nat.shiftRight_eq_div_pow]
  omega
section
variable [Inhabited Tw]
theorem hi_m4 (v : Nat) : hi (m4 v) = (hi v >>> 4) ^^^ (Tt.getD (lo v % 16) 0 <<< 48) % 2 ^ 64 := hi_mk _ _ (m4_low v)
theorem lo_m4 (v : Nat) : lo (m4 v) = (hi v <<< 60) % 2 ^ 64 ||| lo v >>> 4 := lo_mk _ _ (m4_low v)
theorem m4_lt (v : Nat) (h : v < 2 ^ 128) : m4 v < 2 ^ 128 := by
  have h1 : (hi v >>> 4) ^^^ (Tt.getD (lo v % 16) 0 <<< 48) % 2 ^ 64 < 2 ^ 64 := by
    refine Nat.xor_lt_two_pow ?_ (Nat.mod_lt _ (by decide))
    have := hi_lt v h
    rw [Nat.shiftRight_eq_div_pow]
    omega
  have h2 := m4_low v
  rw [m4]
  omega
def horT (b a : Nat) : Nat → Nat
  | 0 => 0
  | t + 1 => m4 (horT b a t) ^^^ tab b ((a >>> (4 * t)) % 16)
theorem horT_zero (b a : Nat) : horT b a 0 = 0 := rfl
theorem horT_step (b a t : Nat) (hb : b < 2 ^ 128) (ht : t < 32) : horT b a (t + 1) = m4 (horT b a t) ^^^ tab b ((a >>> (4 * t)) % 16) := rfl
theorem horT_lt (b a t : Nat) (hb : b < 2 ^ 128) : horT b a t < 2 ^ 128 := by
  induction t with
  | zero => exact Nat.two_pow_pos 128
  | succ t ih => exact Nat.xor_lt_two_pow (m4_lt _ ih) (tab_lt _ _ hb)
def mulT (a b : Nat) : Nat := horT b a 32
theorem mulT_lt (a b : Nat) (hb : b < 2 ^ 128) : mulT a b < 2 ^ 128 := horT_lt _ _ _ hb
end
end Gh
end Go.Proofs.YtflofbimecnakaaGreat
namespace Go.Proofs.YtflofbimecnakaaGreat
open Go.RowKit
set_option linter.unusedVariables false
set_option linter.unusedSimpArgs false
def elcs (L : List Nat) : List Value := L.flatMap elc
theorem elcs_length (L : List Nat) : (elcs L).length = 2 * L.length := by
  induction L with
  | nil => rfl
  | cons a L ih => rw [elcs, List.flatMap_cons, List.length_append, show (List.flatMap elc L).length = 2 * L.length from ih, List.length_cons, elc]; simp; omega
theorem elcs_get (L : List Nat) (i : Nat) (h : i < L.length) : (elcs L)[2 * i]? = some (.int .u64 ((Gh.hi (L.getD i 0) : Nat) : Int)) ∧ (elcs L)[2 * i + 1]? = some (.int .u64 ((Gh.lo (L.getD i 0) : Nat) : Int)) := by
  induction L generalizing i with
  | nil => simp at h
  | cons a L ih =>
    cases i with
    | zero => exact ⟨rfl, rfl⟩
    | succ i =>
      have := ih i (by simpa using h)
      rw [show 2 * (i + 1) = 2 * i + 1 + 1 by omega]
      exact this
theorem elcs_set (L : List Nat) (i v : Nat) : ((elcs L).set (2 * i) (.int .u64 ((Gh.hi v : Nat) : Int))).set (2 * i + 1) (.int .u64 ((Gh.lo v : Nat) : Int)) = elcs (L.set i v) := by
  induction L generalizing i with
  | nil => rfl
  | cons a L ih =>
    cases i with
    | zero => rfl
    | succ i =>
      rw [show 2 * (i + 1) = 2 * i + 1 + 1 by omega]
      have := ih i
      simp only [elcs, List.flatMap_cons, elc, List.set_cons_succ, List.cons_append, List.nil_append] at this ⊢
      rw [this]
theorem elcs_one (L : List Nat) : ∀ u ∈ elcs L, u.oneCell' = true := by
  intro u hu
  simp only [elcs, List.mem_flatMap, elc] at hu
  obtain ⟨b, _, hb⟩ := hu
  simp at hb
  rcases hb with rfl | rfl <;> rfl
theorem infoM (L : List Nat) (h : L.length = 16) : (Tryz.prog.info? 134).map (·.size) = some (elcs L).length := by rw [elcs_length, h]; kernel_rfl
theorem At.el {w : World} {g : Nat} {L : List Nat} (h : At w g 0 (elcs L)) (i : Nat) (hi : i < L.length) : w.cell? ⟨g, 2 * i, none⟩ = some (.int .u64 ((Gh.hi (L.getD i 0) : Nat) : Int)) ∧ w.cell? ⟨g, 2 * i + 1, none⟩ = some (.int .u64 ((Gh.lo (L.getD i 0) : Nat) : Int)) ∧ w.frozen? ⟨g, 2 * i, none⟩ = false ∧ w.frozen? ⟨g, 2 * i + 1, none⟩ = false := by
  have h1 := h.cell (2 * i) _ (elcs_get L i hi).1
  have h2 := h.cell (2 * i + 1) _ (elcs_get L i hi).2
  have h3 := h.froz (2 * i) (by rw [elcs_length]; omega)
  have h4 := h.froz (2 * i + 1) (by rw [elcs_length]; omega)
  rw [Nat.zero_add] at h1 h2 h3 h4
  exact ⟨h1, h2, h3, h4⟩
theorem At.elset {w : World} {g : Nat} {L : List Nat} (h : At w g 0 (elcs L)) (i v : Nat) : At ((w.setCell ⟨g, 2 * i, none⟩ (.int .u64 ((Gh.hi v : Nat) : Int))).setCell ⟨g, 2 * i + 1, none⟩ (.int .u64 ((Gh.lo v : Nat) : Int))) g 0 (elcs (L.set i v)) := by
  have := (h.set (2 * i) (.int .u64 ((Gh.hi v : Nat) : Int))).set (2 * i + 1) (.int .u64 ((Gh.lo v : Nat) : Int))
  rw [elcs_set, Nat.zero_add, Nat.zero_add] at this
  exact this
def mt1 (b p : Nat) : List Nat := (List.range 16).map fun i => if p < i ∧ (i = 8 ∨ i = 4 ∨ i = 2 ∨ i = 1) then Gh.tab b i else 0
theorem mt1_length (b p : Nat) : (mt1 b p).length = 16 := by simp [mt1]
theorem mt1_set (b p : Nat) (hp : p = 8 ∨ p = 4 ∨ p = 2 ∨ p = 1) : (mt1 b p).set p (Gh.tab b p) = mt1 b (p / 2) := by
  rcases hp with rfl | rfl | rfl | rfl <;> rfl
theorem elz : elcs (List.replicate 16 0) = [Value.int .u64 0, Value.int .u64 0, Value.int .u64 0, Value.int .u64 0, Value.int .u64 0, Value.int .u64 0, Value.int .u64 0, Value.int .u64 0, Value.int .u64 0, Value.int .u64 0, Value.int .u64 0, Value.int .u64 0, Value.int .u64 0, Value.int .u64 0, Value.int .u64 0, Value.int .u64 0, Value.int .u64 0, Value.int .u64 0, Value.int .u64 0, Value.int .u64 0, Value.int .u64 0, Value.int .u64 0, Value.int .u64 0, Value.int .u64 0, Value.int .u64 0, Value.int .u64 0, Value.int .u64 0, Value.int .u64 0, Value.int .u64 0, Value.int .u64 0, Value.int .u64 0, Value.int .u64 0] := rfl
theorem mt1_zero (b : Nat) : mt1 b 8 = List.replicate 16 0 := rfl
abbrev zm : Obj := Obj.cells #[Value.int .u64 0, Value.int .u64 0, Value.int .u64 0, Value.int .u64 0, Value.int .u64 0, Value.int .u64 0, Value.int .u64 0, Value.int .u64 0, Value.int .u64 0, Value.int .u64 0, Value.int .u64 0, Value.int .u64 0, Value.int .u64 0, Value.int .u64 0, Value.int .u64 0, Value.int .u64 0, Value.int .u64 0, Value.int .u64 0, Value.int .u64 0, Value.int .u64 0, Value.int .u64 0, Value.int .u64 0, Value.int .u64 0, Value.int .u64 0, Value.int .u64 0, Value.int .u64 0, Value.int .u64 0, Value.int .u64 0, Value.int .u64 0, Value.int .u64 0, Value.int .u64 0, Value.int .u64 0] 134
/-- the lowest bit -/
def lowN (n : Nat) : Nat := [0, 1, 2, 1, 4, 1, 2, 1, 8, 1, 2, 1, 4, 1, 2, 1].getD n 0
theorem low_and (n : Nat) (h : n < 16) : bits .and .i64 (n : Int) (-(n : Int)) = ((lowN n : Nat) : Int) ∧ bits .andNot .i64 (n : Int) ((lowN n : Nat) : Int) = ((n - lowN n : Nat) : Int) ∧ lowN n < 16 ∧ lowN n ≤ n ∧ (0 < n → (lowN n = 8 ∨ lowN n = 4 ∨ lowN n = 2 ∨ lowN n = 1)) ∧ (n - lowN n) ^^^ lowN n = n := by
  have hh : n = 0 ∨ n = 1 ∨ n = 2 ∨ n = 3 ∨ n = 4 ∨ n = 5 ∨ n = 6 ∨ n = 7 ∨ n = 8 ∨ n = 9 ∨ n = 10 ∨ n = 11 ∨ n = 12 ∨ n = 13 ∨ n = 14 ∨ n = 15 := by omega
  clear h
  rcases hh with rfl | rfl | rfl | rfl | rfl | rfl | rfl | rfl | rfl | rfl | rfl | rfl | rfl | rfl | rfl | rfl <;> decide
def mt2 (b n : Nat) : List Nat := (List.range 16).map fun i => if i < n ∨ (i = 8 ∨ i = 4 ∨ i = 2 ∨ i = 1) then Gh.tab b i else 0
theorem mt2_length (b n : Nat) : (mt2 b n).length = 16 := by simp [mt2]
theorem mt2_zero (b : Nat) : mt1 b 0 = mt2 b 0 := rfl
def tabL (b : Nat) : List Nat := (List.range 16).map (Gh.tab b)
theorem tabL_length (b : Nat) : (tabL b).length = 16 := by simp [tabL]
theorem tabL_at (b i : Nat) (h : i < 16) : (tabL b).getD i 0 = Gh.tab b i := by simp [tabL, List.getD, h]
theorem mt2_full (b : Nat) : mt2 b 16 = tabL b := rfl
theorem mt2_at (b n i : Nat) (h : i < 16) : (mt2 b n).getD i 0 = if i < n ∨ (i = 8 ∨ i = 4 ∨ i = 2 ∨ i = 1) then Gh.tab b i else 0 := by simp [mt2, List.getD, h]
theorem tab_zero (b : Nat) : Gh.tab b 0 = 0 := by rw [Gh.tab, Nat.zero_shiftLeft, Gh.zero_mul]
theorem mt2_sum (b n : Nat) (h : n < 16) : (mt2 b n).getD (n - lowN n) 0 ^^^ (mt2 b n).getD (lowN n) 0 = Gh.tab b n := by
  obtain ⟨_, _, h1, h2, h3, h4⟩ := low_and n h
  rw [mt2_at _ _ _ (by omega), mt2_at _ _ _ h1]
  by_cases h0 : n = 0
  · subst h0
    rw [tab_zero, if_neg (by decide), if_neg (by decide), Nat.xor_self]
  · have h5 := h3 (by omega)
    rw [if_pos (.inl (by omega)), if_pos (.inr h5), ← Gh.tab_xor, h4]
theorem mt2_step (b n : Nat) (h : n < 16) : (mt2 b n).set n (Gh.tab b n) = mt2 b (n + 1) := by
  refine List.ext_getElem (by simp [mt2]) fun i h1 h2 => ?_
  rw [List.getElem_set]
  simp only [mt2, List.getElem_map, List.getElem_range]
  by_cases e : n = i
  · subst e
    rw [if_pos rfl, if_pos (.inl (by omega))]
  · rw [if_neg e]
    have : (i < n ∨ (i = 8 ∨ i = 4 ∨ i = 2 ∨ i = 1)) ↔ (i < n + 1 ∨ (i = 8 ∨ i = 4 ∨ i = 2 ∨ i = 1)) := by omega
    simp only [this]
theorem mul_by (w : World) (b : Nat) : ∃ w0, ((w.alloc (Obj.cells #[.int .u64 ((Gh.hi b : Nat) : Int), .int .u64 ((Gh.lo b : Nat) : Int)] 132)).alloc zm).alloc zm = w0 ∧ At w0 w.heap.size 0 (elc b) ∧ At w0 (w.heap.size + 1) 0 (elcs (List.replicate 16 0)) ∧ At w0 (w.heap.size + 1 + 1) 0 (elcs (mt1 b 8)) ∧ Below w.heap.size w w0 ∧ w0.heap.size = w.heap.size + 3 := by
  refine ⟨_, rfl, ?_, ?_, ?_, ?_, by simp⟩
  · exact ((At.ofAlloc w #[.int .u64 ((Gh.hi b : Nat) : Int), .int .u64 ((Gh.lo b : Nat) : Int)] 132).alloc _).alloc _
  · have h := At.ofAlloc (w.alloc (Obj.cells #[.int .u64 ((Gh.hi b : Nat) : Int), .int .u64 ((Gh.lo b : Nat) : Int)] 132)) (elcs (List.replicate 16 0)).toArray 134
    rw [World.size_alloc] at h
    simp only at h
    have h2 := h.alloc zm
    rw [elz] at h2 ⊢
    exact h2
  · have h := At.ofAlloc ((w.alloc (Obj.cells #[.int .u64 ((Gh.hi b : Nat) : Int), .int .u64 ((Gh.lo b : Nat) : Int)] 132)).alloc zm) (elcs (List.replicate 16 0)).toArray 134
    rw [World.size_alloc, World.size_alloc] at h
    simp only at h
    rw [mt1_zero]
    rw [elz] at h ⊢
    exact h
  · exact (((Below.refl _ _).alloc (Nat.le_refl _) _).alloc (by simp) _).alloc (by simp; omega) _
set_option maxRecDepth 100000 in
set_option maxHeartbeats 1600000 in
theorem multiples_any (b : Nat) (hb : b < 2 ^ 128) (w : World) : Calls Tryz.prog 64 #[.agg #[.int .u64 ((Gh.hi b : Nat) : Int), .int .u64 ((Gh.lo b : Nat) : Int)]] w (fun e w' => e = .returned (.agg (elcs (tabL b)).toArray) ∧ Below w.heap.size w w') := by
  have HB := Lib.hid hb
  clear hb
  go_enter Tryz.func64, Tryz.ntmps64
  go_wp2_with fail
  obtain ⟨w0, hw0, hA0, hA1, hA2, hb0, hs0⟩ := mul_by w b
  rw [hw0]
  clear hw0
  go_loopw [4] (fun iv w2 => ∃ (p v : Nat), (p = 8 ∨ p = 4 ∨ p = 2 ∨ p = 1 ∨ p = 0) ∧ iv = .int .i64 (p : Int) ∧ v < 2 ^ 128 ∧ (0 < p → v = Gh.tab b p) ∧ At w2 w.heap.size 0 (elc v) ∧ At w2 (w.heap.size + 1) 0 (elcs (List.replicate 16 0)) ∧ At w2 (w.heap.size + 1 + 1) 0 (elcs (mt1 b p)) ∧ Below w.heap.size w w2 ∧ w.heap.size + 3 ≤ w2.heap.size) (fun i _ => (intOf i).toNat)
  case atStart => exact ⟨8, b, .inl rfl, rfl, HB.out, fun _ => (Gh.tab8 b).symm, hA0, hA1, hA2, hb0, by omega⟩
  case round =>
    clear hA0 hA1 hA2 hb0 hs0
    obtain ⟨p, v, hp, rfl, hv, hpv, hA0, hA1, hA2, hb0, hs0⟩ := hrel
    have H0 := Lib.hid hA0
    have H1 := Lib.hid hA1
    have H2 := Lib.hid hA2
    have HV := Lib.hid hv
    have HP := Lib.hid hp
    have HPV := Lib.hid hpv
    clear hA0 hA1 hA2 hv hpv
    by_cases h0 : p = 0
    · subst h0
      go_wp2_with fail
      have h2 := H2.out
      rw [mt2_zero] at h2
      have h1 := H1.out
      clear H0 H1 H2 HV HP HPV
      go_loopw [16] (fun iv w2 => ∃ n : Nat, n ≤ 16 ∧ iv = .int .i64 (n : Int) ∧ At w2 (w.heap.size + 1) 0 (elcs (List.replicate 16 0)) ∧ At w2 (w.heap.size + 1 + 1) 0 (elcs (mt2 b n)) ∧ Below w.heap.size w w2 ∧ w.heap.size + 3 ≤ w2.heap.size) (fun i _ => 16 - (intOf i).toNat)
      case atStart => exact ⟨0, Nat.zero_le _, rfl, h1, h2, hb0, hs0⟩
      case round =>
        clear h1 h2 hb0 hs0
        obtain ⟨n, hn, rfl, h1, h2, hb0, hs0⟩ := hrel
        have H1 := Lib.hid h1
        have H2 := Lib.hid h2
        clear h1 h2
        by_cases hlt : n < 16
        · obtain ⟨l1, l2, l3, l4, l5, l6⟩ := low_and n hlt
          have hsum := mt2_sum b n hlt
          have hste := mt2_step b n hlt
          have wn : IntKind.i64.wrap (-(n : Int)) = -(n : Int) := by simp [IntKind.wrap, IntKind.bits, IntKind.signed]; omega
          obtain ⟨m, hm⟩ : ∃ m, lowN n = m := ⟨_, rfl⟩
          obtain ⟨a, ha⟩ : ∃ a, n - m = a := ⟨_, rfl⟩
          rw [hm] at l1 l2 l3 l4 hsum
          rw [ha] at l2 hsum
          have a16 : a < 16 := by omega
          obtain ⟨fa0, fa1, _, _⟩ := H2.out.el a (by rw [mt2_length]; exact a16)
          obtain ⟨fm0, fm1, _, _⟩ := H2.out.el m (by rw [mt2_length]; exact l3)
          obtain ⟨fn0, fn1, fn2, fn3⟩ := H2.out.el n (by rw [mt2_length]; exact hlt)
          obtain ⟨x, hx⟩ : ∃ x, (mt2 b n).getD a 0 = x := ⟨_, rfl⟩
          obtain ⟨y, hy⟩ : ∃ y, (mt2 b n).getD m 0 = y := ⟨_, rfl⟩
          have hxl : x < 2 ^ 128 := by rw [← hx, mt2_at _ _ _ a16]; split; exact Gh.tab_lt _ _ HB.out; exact Nat.two_pow_pos 128
          have hyl : y < 2 ^ 128 := by rw [← hy, mt2_at _ _ _ l3]; split; exact Gh.tab_lt _ _ HB.out; exact Nat.two_pow_pos 128
          rw [hx] at fa0 fa1 hsum
          rw [hy] at fm0 fm1 hsum
          rw [Nat.mul_comm 2 a] at fa0 fa1
          rw [Nat.mul_comm 2 m] at fm0 fm1
          rw [Nat.mul_comm 2 n] at fn0 fn1 fn2 fn3
          have aI : (a : Int) < 16 := by omega
          have mI : (m : Int) < 16 := by omega
          rw [← hsum] at hste
          have HST := Lib.hid hste
          have HXL := Lib.hid hxl
          have HYL := Lib.hid hyl
          clear hste hsum hx hy hxl hyl ha hm l4 l5 l6
          go_wp2_with fail
          go_region_with ((go_at_call 67; refine (plus_any x y HXL.out HYL.out _).mono ?_; rintro e w3 ⟨rfl, hb3⟩; have g0 := (hb3.cell (p := ⟨w.heap.size + 1 + 1, n * 2, none⟩) hs0).trans fn0; have g1 := (hb3.cell (p := ⟨w.heap.size + 1 + 1, n * 2 + 1, none⟩) hs0).trans fn1; have g2 := (hb3.frozen (p := ⟨w.heap.size + 1 + 1, n * 2, none⟩) hs0).trans fn2; have g3 := (hb3.frozen (p := ⟨w.heap.size + 1 + 1, n * 2 + 1, none⟩) hs0).trans fn3))
          all_goals
            have k2 : At w3 (w.heap.size + 1 + 1) 0 (elcs (mt2 b n)) := by first | exact H2.out.below hb3 hs0 | exact H2.out.drew.below hb3 hs0
            have k1 : At w3 (w.heap.size + 1) 0 (elcs (List.replicate 16 0)) := by first | exact H1.out.below hb3 (Nat.le_of_succ_le hs0) | exact H1.out.drew.below hb3 (Nat.le_of_succ_le hs0)
            have kb : Below w.heap.size w w3 := by first | exact hb0.drew.trans (hb3.mono hb0.size) | exact hb0.trans (hb3.mono hb0.size)
            have ks : w.heap.size + 3 ≤ w3.heap.size := by first | exact Nat.le_trans hs0 hb3.size
            have K2 := Lib.hid k2
            have K1 := Lib.hid k1
            clear k1 k2 hb3 g0 g1 g2 g3 fn0 fn1 fn2 fn3 fa0 fa1 fm0 fm1
            go_wp2_with fail
            go_roundw
            case rel =>
              have h := K2.out.elset n (x ^^^ y)
              rw [HST.out, Nat.mul_comm 2 n] at h
              exact ⟨n + 1, by omega, by go_num, (K1.out.other _ _ _ (.inl (by omega))).other _ _ _ (.inl (by omega)), h, (kb.setCell (p := ⟨w.heap.size + 1 + 1, n * 2, none⟩) (by show w.heap.size ≤ w.heap.size + 1 + 1; omega) _).setCell (p := ⟨w.heap.size + 1 + 1, n * 2 + 1, none⟩) (by show w.heap.size ≤ w.heap.size + 1 + 1; omega) _, by simpa using ks⟩
            case measure => simp [intOf]; omega
        · have hn16 : n = 16 := by omega
          subst hn16
          have h1 := H2.out
          rw [mt2_full] at h1
          have hl : (tabL b).length = 16 := tabL_length b
          have hst := run_store_at (P := Tryz.prog) H1.out (cs := elcs (tabL b)) (by rw [elcs_length, elcs_length, hl, List.length_replicate]) (elcs_one _)
          have hfin : At (wr.setCells (w.heap.size + 1) 0 (elcs (tabL b))) (w.heap.size + 1) 0 (elcs (tabL b)) := H1.out.ofSets (by rw [elcs_length, elcs_length, hl, List.length_replicate])
          have hbf := below_sets w.heap.size (w.heap.size + 1) (by omega) (elcs (tabL b)) 0 w wr hb0
          have HLB := Lib.hid hl
          clear hl
          go_wp2_with (refine wpList_load_at 134 (.tmp 3) (w.heap.size + 1 + 1) 0 (elcs (tabL b)) _ h1 Tryz.underlying134 rfl (infoM _ HLB.out) ⟨rfl, rfl, rfl⟩ ?_)
          (try simp only [Exit.inBlock, Exit.then])
          refine bodyPost_ret (results_at rfl _ (w.heap.size + 1) _ _ rfl hfin Tryz.underlying134 rfl (infoM _ HLB.out)) rfl ?_
          exact ⟨rfl, hbf⟩
    · have p16 : p < 16 := by omega
      clear hp
      have hk0 := H0.out.cell 0 _ rfl
      have hk1 := H0.out.cell 1 _ rfl
      obtain ⟨f0, f1, f2, f3⟩ := H2.out.el p (by rw [mt1_length]; exact p16)
      rw [Nat.mul_comm 2 p] at f0 f1 f2 f3
      rw [Nat.zero_add] at hk0 hk1
      have hpI : (0 : Int) < (p : Int) := by omega
      have hp16 : (p : Int) < 16 := by omega
      obtain ⟨p2, hp2⟩ : ∃ p2, p / 2 = p2 := ⟨_, rfl⟩
      have q1 : (p : Int) / 2 = (p2 : Int) := by omega
      have hvp := HPV.out (by omega)
      have hE := H2.out.elset p v
      rw [hvp, mt1_set b p (by have := HP.out; omega), hp2, ← hvp, Nat.mul_comm 2 p] at hE
      have hE0 := (H0.out.other (w.heap.size + 1 + 1) (p * 2) (.int .u64 ((Gh.hi v : Nat) : Int)) (.inl (by omega))).other (w.heap.size + 1 + 1) (p * 2 + 1) (.int .u64 ((Gh.lo v : Nat) : Int)) (.inl (by omega))
      have hE1 := (H1.out.other (w.heap.size + 1 + 1) (p * 2) (.int .u64 ((Gh.hi v : Nat) : Int)) (.inl (by omega))).other (w.heap.size + 1 + 1) (p * 2 + 1) (.int .u64 ((Gh.lo v : Nat) : Int)) (.inl (by omega))
      have hbE := (hb0.setCell (p := ⟨w.heap.size + 1 + 1, p * 2, none⟩) (by show w.heap.size ≤ w.heap.size + 1 + 1; omega) (.int .u64 ((Gh.hi v : Nat) : Int))).setCell (p := ⟨w.heap.size + 1 + 1, p * 2 + 1, none⟩) (by show w.heap.size ≤ w.heap.size + 1 + 1; omega) (.int .u64 ((Gh.lo v : Nat) : Int))
      have hsE : w.heap.size + 3 ≤ ((wr.setCell ⟨w.heap.size + 1 + 1, p * 2, none⟩ (.int .u64 ((Gh.hi v : Nat) : Int))).setCell ⟨w.heap.size + 1 + 1, p * 2 + 1, none⟩ (.int .u64 ((Gh.lo v : Nat) : Int))).heap.size := by simpa using hs0
      have HE := Lib.hid (And.intro hE (And.intro hE0 (And.intro hE1 (And.intro hbE hsE))))
      have HVP := Lib.hid hvp
      have HP2 := Lib.hid hp2
      have hdn : decide (0 < (p : Int)) = true := decide_eq_true (by omega)
      clear hE hE0 hE1 hbE hsE hvp hp2
      go_wp2_with fail
      obtain ⟨wq, hwq⟩ : ∃ wq, (wr.setCell ⟨w.heap.size + 1 + 1, p * 2, none⟩ (.int .u64 ((Gh.hi v : Nat) : Int))).setCell ⟨w.heap.size + 1 + 1, p * 2 + 1, none⟩ (.int .u64 ((Gh.lo v : Nat) : Int)) = wq := ⟨_, rfl⟩
      rw [hwq] at HE ⊢
      refine (timesX_any v HV.out _).mono ?_
      rintro e w3 ⟨rfl, hb3⟩
      obtain ⟨hE, hE0, hE1, hbE, hsE⟩ := HE.out
      have hF := hE.below hb3 (by omega)
      have hF0 := hE0.below hb3 (by omega)
      have hF1 := hE1.below hb3 (by omega)
      have hbF := hbE.trans (hb3.mono hbE.size)
      have hsF : w.heap.size + 3 ≤ w3.heap.size := by have := hb3.size; omega
      have y0 := hF0.cell 0 _ rfl
      have y1 := hF0.cell 1 _ rfl
      have z0 := hF0.froz 0 (by simp [elc])
      have z1 := hF0.froz 1 (by simp [elc])
      rw [Nat.zero_add] at y0 y1 z0 z1
      have HF := Lib.hid (And.intro hF (And.intro hF0 (And.intro hF1 (And.intro hbF hsF))))
      clear hE hE0 hE1 hbE hsE hF hF0 hF1 hbF hsF hb3 hwq HE f0 f1 f2 f3 hk0 hk1 hb0 hs0 H0 H1 H2
      go_wp2_with fail
      go_roundw
      case rel =>
        obtain ⟨hF, hF0, hF1, hbF, hsF⟩ := HF.out
        have h0' := (hF0.set 0 (.int .u64 ((Gh.hi (Gh.mx v) : Nat) : Int))).set 1 (.int .u64 ((Gh.lo (Gh.mx v) : Nat) : Int))
        rw [Nat.zero_add, Nat.zero_add] at h0'
        refine ⟨p2, Gh.mx v, by have := HP.out; have := HP2.out; omega, by go_num, Gh.mx_lt v HV.out, ?_, h0', (hF1.other _ _ _ (.inl (by omega))).other _ _ _ (.inl (by omega)), (hF.other _ _ _ (.inl (by omega))).other _ _ _ (.inl (by omega)), (hbF.setCell (p := ⟨w.heap.size, 0, none⟩) (Nat.le_refl _) _).setCell (p := ⟨w.heap.size, 1, none⟩) (Nat.le_refl _) _, by simpa using hsF⟩
        intro hp0
        rw [HVP.out, ← HP2.out, ← Gh.tab_mx b p HB.out (by have := HP.out; have := HP2.out; omega)]
      case measure => have := HP2.out; simp [intOf]; omega
end Go.Proofs.YtflofbimecnakaaGreat
namespace Go.Proofs.YtflofbimecnakaaGreat
open Go.RowKit
set_option linter.unusedVariables false
set_option linter.unusedSimpArgs false
section
variable [Inhabited Gh.Tw]
/-- the package's table lies where it is laid -/
def Fal (w : World) : Prop := (∀ i, i < 16 → w.cell? ⟨0, i, none⟩ = some (.int .u64 ((Gh.Tt.getD i 0 : Nat) : Int))) ∧ 0 < w.heap.size
theorem Fal.below {w w' : World} {B : Nat} (h : Fal w) (hb : Below B w w') (hB : 0 < B) : Fal w' :=
  ⟨fun i hi => (hb.cell (p := ⟨0, i, none⟩) hB).trans (h.1 i hi), Nat.lt_of_lt_of_le h.2 hb.size⟩
end
def hf (a t : Nat) : Nat := if t = 0 then Gh.lo a else Gh.hi a
theorem hf_nib (a t k : Nat) (ht : t < 2) (hk : k < 16) : (hf a t >>> (4 * k)) % 16 = (a >>> (4 * (16 * t + k))) % 16 := by
  have ht2 : t = 0 ∨ t = 1 := by omega
  refine Nat.eq_of_testBit_eq fun j => ?_
  rw [show (16 : Nat) = 2 ^ 4 from rfl, Nat.testBit_mod_two_pow, Nat.testBit_mod_two_pow, Nat.testBit_shiftRight, Nat.testBit_shiftRight]
  by_cases hj : j < 4
  · rcases ht2 with rfl | rfl
    · rw [hf, if_pos rfl, Gh.lo_bit _ _ (by omega), show 4 * (2 ^ 4 * 0 + k) + j = 4 * k + j by omega]
    · rw [hf, if_neg (by decide), Gh.hi, Nat.testBit_shiftRight, show 4 * (2 ^ 4 * 1 + k) + j = 64 + (4 * k + j) by omega]
  · simp [hj]
theorem hf_lt (a t : Nat) (ha : a < 2 ^ 128) : hf a t < 2 ^ 64 := by
  rw [hf]
  split
  · exact Gh.lo_lt a
  · exact Gh.hi_lt a ha
theorem elcs_ex (b : Nat) : (elcs (tabL b)).length = 32 := by rw [elcs_length, tabL_length]
theorem times_by (w : World) (a b : Nat) : ∃ w0, (((w.alloc (Obj.cells (elcs (tabL b)).toArray 134)).alloc (Obj.cells #[.int .u64 ((Gh.hi a : Nat) : Int), .int .u64 ((Gh.lo a : Nat) : Int)] 132)).alloc (Obj.cells #[.int .u64 0, .int .u64 0] 132)).alloc (Obj.cells #[.int .u64 0, .int .u64 0] 132) = w0 ∧
    At w0 w.heap.size 0 (elcs (tabL b)) ∧ At w0 (w.heap.size + 1) 0 (elc a) ∧ At w0 (w.heap.size + 1 + 1) 0 (elc 0) ∧ At w0 (w.heap.size + 1 + 1 + 1) 0 (elc 0) ∧ Below w.heap.size w w0 ∧ w0.heap.size = w.heap.size + 4 := by
  refine ⟨_, rfl, ?_, ?_, ?_, ?_, ?_, by simp⟩
  · have h := At.ofAlloc w (elcs (tabL b)).toArray 134
    simp only at h
    exact ((h.alloc _).alloc _).alloc _
  · have h := At.ofAlloc (w.alloc (Obj.cells (elcs (tabL b)).toArray 134)) #[.int .u64 ((Gh.hi a : Nat) : Int), .int .u64 ((Gh.lo a : Nat) : Int)] 132
    rw [World.size_alloc] at h
    exact (h.alloc _).alloc _
  · have h := At.ofAlloc ((w.alloc (Obj.cells (elcs (tabL b)).toArray 134)).alloc (Obj.cells #[.int .u64 ((Gh.hi a : Nat) : Int), .int .u64 ((Gh.lo a : Nat) : Int)] 132)) #[.int .u64 0, .int .u64 0] 132
    rw [World.size_alloc, World.size_alloc] at h
    exact h.alloc _
  · have h := At.ofAlloc (((w.alloc (Obj.cells (elcs (tabL b)).toArray 134)).alloc (Obj.cells #[.int .u64 ((Gh.hi a : Nat) : Int), .int .u64 ((Gh.lo a : Nat) : Int)] 132)).alloc (Obj.cells #[.int .u64 0, .int .u64 0] 132)) #[.int .u64 0, .int .u64 0] 132
    rw [World.size_alloc, World.size_alloc, World.size_alloc] at h
    exact h
  · exact ((((Below.refl _ _).alloc (Nat.le_refl _) _).alloc (by simp) _).alloc (by simp; omega) _).alloc (by simp; omega) _
section
variable [Inhabited Gh.Tw]
/-- what the walk knows of memory -/
structure Tm (w w2 : World) (a b v : Nat) : Prop where
  m : At w2 w.heap.size 0 (elcs (tabL b))
  a : At w2 (w.heap.size + 1) 0 (elc a)
  r : At w2 (w.heap.size + 1 + 1) 0 (elc 0)
  p : At w2 (w.heap.size + 1 + 1 + 1) 0 (elc v)
  f : Fal w2
  b : Below w.heap.size w w2
  s : w.heap.size + 4 ≤ w2.heap.size
theorem Tm.below {w wn w3 : World} {a b v : Nat} (h : Tm w wn a b v) (hb : Below wn.heap.size wn w3) : Tm w w3 a b v := by
  have hs := h.s
  exact ⟨h.m.below hb (by omega), h.a.below hb (by omega), h.r.below hb (by omega), h.p.below hb (by omega), h.f.below hb h.f.2, h.b.trans (hb.mono h.b.size), Nat.le_trans hs hb.size⟩
theorem Tm.drew {w wn : World} {a b v : Nat} (h : Tm w wn a b v) : Tm w wn.drew a b v := ⟨h.m.drew, h.a.drew, h.r.drew, h.p.drew, h.f, h.b.drew, h.s⟩
theorem Tm.put {w wn : World} {a b v : Nat} (h : Tm w wn a b v) (hw : 0 < w.heap.size) (u : Nat) : Tm w ((wn.setCell ⟨w.heap.size + 1 + 1 + 1, 0, none⟩ (.int .u64 ((Gh.hi u : Nat) : Int))).setCell ⟨w.heap.size + 1 + 1 + 1, 1, none⟩ (.int .u64 ((Gh.lo u : Nat) : Int))) a b u := by
  have hp := (h.p.set 0 (.int .u64 ((Gh.hi u : Nat) : Int))).set 1 (.int .u64 ((Gh.lo u : Nat) : Int))
  rw [Nat.zero_add, Nat.zero_add] at hp
  have hbn : Below w.heap.size wn ((wn.setCell ⟨w.heap.size + 1 + 1 + 1, 0, none⟩ (.int .u64 ((Gh.hi u : Nat) : Int))).setCell ⟨w.heap.size + 1 + 1 + 1, 1, none⟩ (.int .u64 ((Gh.lo u : Nat) : Int))) :=
    ((Below.refl _ _).setCell (p := ⟨w.heap.size + 1 + 1 + 1, 0, none⟩) (by show w.heap.size ≤ w.heap.size + 1 + 1 + 1; omega) _).setCell (p := ⟨w.heap.size + 1 + 1 + 1, 1, none⟩) (by show w.heap.size ≤ w.heap.size + 1 + 1 + 1; omega) _
  exact ⟨(h.m.other _ _ _ (.inl (by omega))).other _ _ _ (.inl (by omega)), (h.a.other _ _ _ (.inl (by omega))).other _ _ _ (.inl (by omega)), (h.r.other _ _ _ (.inl (by omega))).other _ _ _ (.inl (by omega)), hp, h.f.below hbn hw, h.b.trans hbn, by simpa using h.s⟩
set_option maxRecDepth 100000 in
set_option maxHeartbeats 3200000 in
theorem times_any (a b : Nat) (ha : a < 2 ^ 128) (hb : b < 2 ^ 128) (w : World) (hF : Fal w) : Calls Tryz.prog 66 #[.agg (elcs (tabL b)).toArray, .agg #[.int .u64 ((Gh.hi a : Nat) : Int), .int .u64 ((Gh.lo a : Nat) : Int)]] w (RetEl (Gh.mulT a b) w) := by
  have HA := Lib.hid ha
  have HB := Lib.hid hb
  have HFw := Lib.hid hF
  clear ha hb hF
  go_enter Tryz.func66, Tryz.ntmps66
  go_wp2_with fail
  obtain ⟨w0, hw0, hA0, hA1, hA2, hA3, hb0, hs0⟩ := times_by w a b
  rw [hw0]
  have hT : Tm w w0 a b (Gh.horT b a (16 * 0)) := ⟨hA0, hA1, hA2, by rw [Gh.horT_zero]; exact hA3, HFw.out.below hb0 HFw.out.2, hb0, by omega⟩
  clear hw0 hA0 hA1 hA2 hA3 hb0 hs0
  go_loopw [15] (fun iv w2 => ∃ t : Nat, t ≤ 2 ∧ iv = .int .i64 (t : Int) ∧ Tm w w2 a b (Gh.horT b a (16 * t))) (fun i _ => 2 - (intOf i).toNat)
  case atStart => exact ⟨0, by omega, rfl, hT⟩
  case round =>
    clear hT
    obtain ⟨t, ht, rfl, hT⟩ := hrel
    have HT := Lib.hid hT
    clear hT
    have ht3 : t = 0 ∨ t = 1 ∨ t = 2 := by omega
    rcases ht3 with rfl | rfl | rfl
    · have hix : ∀ w : World, (Instr.index 155 (.agg #[.int .u64 ((Gh.lo a : Nat) : Int), .int .u64 ((Gh.hi a : Nat) : Int)]) (.int .i64 0)).run Tryz.prog w = .ok (.int .u64 ((hf a 0 : Nat) : Int)) w := fun _ => rfl
      rw [show ((0 : Nat) : Int) = 0 from rfl]
      go_wp2_with fail
      have hh := HT.out
      clear HT
      go_loopw [7, 18] (fun hv kv w2 => ∃ (k e : Nat), k ≤ 16 ∧ kv = .int .i64 (k : Int) ∧ hv = .int .u64 (e : Int) ∧ e = hf a 0 >>> (4 * k) ∧ Tm w w2 a b (Gh.horT b a (16 * 0 + k))) (fun _ k _ => 16 - (intOf k).toNat)
      case atStart => exact ⟨0, hf a 0, by omega, rfl, rfl, rfl, hh⟩
      case round =>
        clear hh
        obtain ⟨k, e, hk, rfl, rfl, he, hT⟩ := hrel
        by_cases hlt : k < 16
        · have hnib := hf_nib a 0 k (by decide) hlt
          have hstep := Gh.horT_step b a (16 * 0 + k) HB.out (by omega)
          have hel : e < 2 ^ 64 := by rw [he, Nat.shiftRight_eq_div_pow]; exact Nat.lt_of_le_of_lt (Nat.div_le_self _ _) (hf_lt a 0 HA.out)
          have hen : e >>> 4 = hf a 0 >>> (4 * (k + 1)) := by rw [he, ← Nat.shiftRight_add]; rfl
          rw [← hnib, ← he] at hstep
          have hvl : Gh.horT b a (16 * 0 + k) < 2 ^ 128 := Gh.horT_lt _ _ _ HB.out
          obtain ⟨v, hv⟩ : ∃ v, Gh.horT b a (16 * 0 + k) = v := ⟨_, rfl⟩
          rw [hv] at hvl hstep hT
          have h1 := Gh.hi_lt v hvl
          have h2 := Gh.lo_lt v
          have m1 := Gh.hi_m4 v
          have m2 := Gh.lo_m4 v
          have y0 := hT.p.cell 0 _ rfl
          have y1 := hT.p.cell 1 _ rfl
          have z0 := hT.p.froz 0 (by simp [elc])
          have z1 := hT.p.froz 1 (by simp [elc])
          rw [Nat.zero_add] at y0 y1 z0 z1
          obtain ⟨vh, hvh⟩ : ∃ vh, Gh.hi v = vh := ⟨_, rfl⟩
          obtain ⟨vo, hvo⟩ : ∃ vo, Gh.lo v = vo := ⟨_, rfl⟩
          rw [hvh] at h1 m1 m2 y0
          rw [hvo] at h2 m1 m2 y1
          have x1 := u64n_and vo 15 h2 (by decide)
          rw [show (15 : Nat) = 2 ^ 4 - 1 from rfl, Nat.and_two_pow_sub_one_eq_mod, show (2 : Nat) ^ 4 = 16 from rfl, show (((16 - 1 : Nat) : Nat) : Int) = 15 from rfl] at x1
          obtain ⟨o, ho⟩ : ∃ o, vo % 16 = o := ⟨_, rfl⟩
          rw [ho] at x1 m1
          have o16 : o < 16 := by omega
          have fc := hT.f.1 o o16
          have fb := Gh.Tt_lt o
          obtain ⟨fv, hfv⟩ : ∃ fv, Gh.Tt.getD o 0 = fv := ⟨_, rfl⟩
          rw [hfv] at fc fb m1
          have x2 := u64n_shr vh 4 16 rfl
          have x3 := u64n_shl fv 48 281474976710656 (by decide)
          have x5 := u64n_shl vh 60 1152921504606846976 (by decide)
          have x6 := u64n_shr vo 4 16 rfl
          have l1 : vh >>> 4 < 2 ^ 64 := by rw [Nat.shiftRight_eq_div_pow]; omega
          have l2 : (fv <<< 48) % 2 ^ 64 < 2 ^ 64 := Nat.mod_lt _ (by decide)
          have l3 : (vh <<< 60) % 2 ^ 64 < 2 ^ 64 := Nat.mod_lt _ (by decide)
          have l4 : vo >>> 4 < 2 ^ 64 := by rw [Nat.shiftRight_eq_div_pow]; omega
          have x4 := u64n_xor _ _ l1 l2
          have x7 := u64n_or _ _ l3 l4
          rw [← m1] at x4
          rw [← m2] at x7
          obtain ⟨p1, hp1⟩ : ∃ p1, vh >>> 4 = p1 := ⟨_, rfl⟩
          obtain ⟨f2, hf2⟩ : ∃ f2, (fv <<< 48) % 2 ^ 64 = f2 := ⟨_, rfl⟩
          obtain ⟨q, hq⟩ : ∃ q, (vh <<< 60) % 2 ^ 64 = q := ⟨_, rfl⟩
          obtain ⟨r, hr⟩ : ∃ r, vo >>> 4 = r := ⟨_, rfl⟩
          rw [hp1] at x2 x4
          rw [hf2] at x3 x4
          rw [hq] at x5 x7
          rw [hr] at x6 x7
          have oI : (o : Int) < 16 := by omega
          have HT := Lib.hid hT
          have HSTEP := Lib.hid hstep
          have HEL := Lib.hid hel
          have HEN := Lib.hid hen
          have HVL := Lib.hid hvl
          have hdn : decide ((k : Int) < 16) = true := decide_eq_true (by omega)
          clear hT hstep hel hen hvl hnib he hv h1 h2 m1 m2 hvh hvo fb hfv ho l1 l2 l3 l4 hp1 hf2 hq hr
          go_wp2_with fail
          go_region
          obtain ⟨wn, hwn⟩ : ∃ wn, ((wr.setCell ⟨w.heap.size + 1 + 1 + 1, 0, none⟩ (.int .u64 ((Gh.hi (Gh.m4 v) : Nat) : Int))).setCell ⟨w.heap.size + 1 + 1 + 1, 1, none⟩ (.int .u64 ((Gh.lo (Gh.m4 v) : Nat) : Int))).drew = wn := ⟨_, rfl⟩
          have hTn := (HT.out.put HFw.out.2 (Gh.m4 v)).drew
          rw [hwn] at hTn ⊢
          have hul := Gh.m4_lt v HVL.out
          obtain ⟨u, hu⟩ : ∃ u, Gh.m4 v = u := ⟨_, rfl⟩
          rw [hu] at hTn hul HSTEP ⊢
          clear hwn hu y0 y1 z0 z1 fc x1 x2 x3 x4 x5 x6 x7 oI hdn HT HVL
          have y0 := hTn.p.cell 0 _ rfl
          have y1 := hTn.p.cell 1 _ rfl
          have z0 := hTn.p.froz 0 (by simp [elc])
          have z1 := hTn.p.froz 1 (by simp [elc])
          rw [Nat.zero_add] at y0 y1 z0 z1
          obtain ⟨nb, hnb⟩ : ∃ nb, e % 16 = nb := ⟨_, rfl⟩
          have nb16 : nb < 16 := by omega
          have x1 := u64n_and e 15 HEL.out (by decide)
          rw [show (15 : Nat) = 2 ^ 4 - 1 from rfl, Nat.and_two_pow_sub_one_eq_mod, show (2 : Nat) ^ 4 = 16 from rfl, show (((16 - 1 : Nat) : Nat) : Int) = 15 from rfl, hnb] at x1
          rw [hnb] at HSTEP
          have x2 := u64n_shr e 4 16 rfl
          obtain ⟨e4, he4⟩ : ∃ e4, e >>> 4 = e4 := ⟨_, rfl⟩
          rw [he4] at x2 HEN
          obtain ⟨f0, f1, _, _⟩ := hTn.m.el nb (by rw [tabL_length]; exact nb16)
          rw [tabL_at _ _ nb16, Nat.mul_comm 2 nb] at f0 f1
          have htl := Gh.tab_lt b nb HB.out
          have HU := Lib.hid hul
          have HTL := Lib.hid htl
          have HTN := Lib.hid hTn
          have hsn := hTn.s
          have nbI : (nb : Int) < 16 := by omega
          clear hTn hul htl hnb he4
          go_wp2_with fail
          go_region_with ((go_at_call 67; refine (plus_any u (Gh.tab b nb) HU.out HTL.out _).mono ?_; rintro e3 w3 ⟨rfl, hb3⟩; have g0 := (hb3.cell (p := ⟨w.heap.size + 1 + 1 + 1, 0, none⟩) hsn).trans y0; have g1 := (hb3.cell (p := ⟨w.heap.size + 1 + 1 + 1, 1, none⟩) hsn).trans y1; have g2 := (hb3.frozen (p := ⟨w.heap.size + 1 + 1 + 1, 0, none⟩) hsn).trans z0; have g3 := (hb3.frozen (p := ⟨w.heap.size + 1 + 1 + 1, 1, none⟩) hsn).trans z1))
          all_goals
            have hT3 : Tm w w3 a b u := by first | exact HTN.out.below hb3 | exact HTN.out.drew.below hb3
            have HT3 := Lib.hid hT3
            clear hT3 hb3 g0 g1 g2 g3 y0 y1 z0 z1 f0 f1
            go_wp2_with fail
            go_roundw
            case rel => exact ⟨k + 1, e4, by omega, by go_num, rfl, HEN.out, by
              have hq : Gh.horT b a (16 * 0 + (k + 1)) = u ^^^ Gh.tab b nb := HSTEP.out
              rw [hq]
              exact HT3.out.put HFw.out.2 (u ^^^ Gh.tab b nb)⟩
            case measure => simp [intOf]; omega
        · have hk16 : k = 16 := by omega
          subst hk16
          go_wp2_with fail
          go_roundw
          case rel => exact ⟨0 + 1, by omega, by go_num, hT⟩
          case measure => simp [intOf]
    · have hix : ∀ w : World, (Instr.index 155 (.agg #[.int .u64 ((Gh.lo a : Nat) : Int), .int .u64 ((Gh.hi a : Nat) : Int)]) (.int .i64 1)).run Tryz.prog w = .ok (.int .u64 ((hf a 1 : Nat) : Int)) w := fun _ => rfl
      rw [show ((1 : Nat) : Int) = 1 from rfl]
      go_wp2_with fail
      have hh := HT.out
      clear HT
      go_loopw [7, 18] (fun hv kv w2 => ∃ (k e : Nat), k ≤ 16 ∧ kv = .int .i64 (k : Int) ∧ hv = .int .u64 (e : Int) ∧ e = hf a 1 >>> (4 * k) ∧ Tm w w2 a b (Gh.horT b a (16 * 1 + k))) (fun _ k _ => 16 - (intOf k).toNat)
      case atStart => exact ⟨0, hf a 1, by omega, rfl, rfl, rfl, hh⟩
      case round =>
        clear hh
        obtain ⟨k, e, hk, rfl, rfl, he, hT⟩ := hrel
        by_cases hlt : k < 16
        · have hnib := hf_nib a 1 k (by decide) hlt
          have hstep := Gh.horT_step b a (16 * 1 + k) HB.out (by omega)
          have hel : e < 2 ^ 64 := by rw [he, Nat.shiftRight_eq_div_pow]; exact Nat.lt_of_le_of_lt (Nat.div_le_self _ _) (hf_lt a 1 HA.out)
          have hen : e >>> 4 = hf a 1 >>> (4 * (k + 1)) := by rw [he, ← Nat.shiftRight_add]; rfl
          rw [← hnib, ← he] at hstep
          have hvl : Gh.horT b a (16 * 1 + k) < 2 ^ 128 := Gh.horT_lt _ _ _ HB.out
          obtain ⟨v, hv⟩ : ∃ v, Gh.horT b a (16 * 1 + k) = v := ⟨_, rfl⟩
          rw [hv] at hvl hstep hT
          have h1 := Gh.hi_lt v hvl
          have h2 := Gh.lo_lt v
          have m1 := Gh.hi_m4 v
          have m2 := Gh.lo_m4 v
          have y0 := hT.p.cell 0 _ rfl
          have y1 := hT.p.cell 1 _ rfl
          have z0 := hT.p.froz 0 (by simp [elc])
          have z1 := hT.p.froz 1 (by simp [elc])
          rw [Nat.zero_add] at y0 y1 z0 z1
          obtain ⟨vh, hvh⟩ : ∃ vh, Gh.hi v = vh := ⟨_, rfl⟩
          obtain ⟨vo, hvo⟩ : ∃ vo, Gh.lo v = vo := ⟨_, rfl⟩
          rw [hvh] at h1 m1 m2 y0
          rw [hvo] at h2 m1 m2 y1
          have x1 := u64n_and vo 15 h2 (by decide)
          rw [show (15 : Nat) = 2 ^ 4 - 1 from rfl, Nat.and_two_pow_sub_one_eq_mod, show (2 : Nat) ^ 4 = 16 from rfl, show (((16 - 1 : Nat) : Nat) : Int) = 15 from rfl] at x1
          obtain ⟨o, ho⟩ : ∃ o, vo % 16 = o := ⟨_, rfl⟩
          rw [ho] at x1 m1
          have o16 : o < 16 := by omega
          have fc := hT.f.1 o o16
          have fb := Gh.Tt_lt o
          obtain ⟨fv, hfv⟩ : ∃ fv, Gh.Tt.getD o 0 = fv := ⟨_, rfl⟩
          rw [hfv] at fc fb m1
          have x2 := u64n_shr vh 4 16 rfl
          have x3 := u64n_shl fv 48 281474976710656 (by decide)
          have x5 := u64n_shl vh 60 1152921504606846976 (by decide)
          have x6 := u64n_shr vo 4 16 rfl
          have l1 : vh >>> 4 < 2 ^ 64 := by rw [Nat.shiftRight_eq_div_pow]; omega
          have l2 : (fv <<< 48) % 2 ^ 64 < 2 ^ 64 := Nat.mod_lt _ (by decide)
          have l3 : (vh <<< 60) % 2 ^ 64 < 2 ^ 64 := Nat.mod_lt _ (by decide)
          have l4 : vo >>> 4 < 2 ^ 64 := by rw [Nat.shiftRight_eq_div_pow]; omega
          have x4 := u64n_xor _ _ l1 l2
          have x7 := u64n_or _ _ l3 l4
          rw [← m1] at x4
          rw [← m2] at x7
          obtain ⟨p1, hp1⟩ : ∃ p1, vh >>> 4 = p1 := ⟨_, rfl⟩
          obtain ⟨f2, hf2⟩ : ∃ f2, (fv <<< 48) % 2 ^ 64 = f2 := ⟨_, rfl⟩
          obtain ⟨q, hq⟩ : ∃ q, (vh <<< 60) % 2 ^ 64 = q := ⟨_, rfl⟩
          obtain ⟨r, hr⟩ : ∃ r, vo >>> 4 = r := ⟨_, rfl⟩
          rw [hp1] at x2 x4
          rw [hf2] at x3 x4
          rw [hq] at x5 x7
          rw [hr] at x6 x7
          have oI : (o : Int) < 16 := by omega
          have HT := Lib.hid hT
          have HSTEP := Lib.hid hstep
          have HEL := Lib.hid hel
          have HEN := Lib.hid hen
          have HVL := Lib.hid hvl
          have hdn : decide ((k : Int) < 16) = true := decide_eq_true (by omega)
          clear hT hstep hel hen hvl hnib he hv h1 h2 m1 m2 hvh hvo fb hfv ho l1 l2 l3 l4 hp1 hf2 hq hr
          go_wp2_with fail
          go_region
          obtain ⟨wn, hwn⟩ : ∃ wn, ((wr.setCell ⟨w.heap.size + 1 + 1 + 1, 0, none⟩ (.int .u64 ((Gh.hi (Gh.m4 v) : Nat) : Int))).setCell ⟨w.heap.size + 1 + 1 + 1, 1, none⟩ (.int .u64 ((Gh.lo (Gh.m4 v) : Nat) : Int))).drew = wn := ⟨_, rfl⟩
          have hTn := (HT.out.put HFw.out.2 (Gh.m4 v)).drew
          rw [hwn] at hTn ⊢
          have hul := Gh.m4_lt v HVL.out
          obtain ⟨u, hu⟩ : ∃ u, Gh.m4 v = u := ⟨_, rfl⟩
          rw [hu] at hTn hul HSTEP ⊢
          clear hwn hu y0 y1 z0 z1 fc x1 x2 x3 x4 x5 x6 x7 oI hdn HT HVL
          have y0 := hTn.p.cell 0 _ rfl
          have y1 := hTn.p.cell 1 _ rfl
          have z0 := hTn.p.froz 0 (by simp [elc])
          have z1 := hTn.p.froz 1 (by simp [elc])
          rw [Nat.zero_add] at y0 y1 z0 z1
          obtain ⟨nb, hnb⟩ : ∃ nb, e % 16 = nb := ⟨_, rfl⟩
          have nb16 : nb < 16 := by omega
          have x1 := u64n_and e 15 HEL.out (by decide)
          rw [show (15 : Nat) = 2 ^ 4 - 1 from rfl, Nat.and_two_pow_sub_one_eq_mod, show (2 : Nat) ^ 4 = 16 from rfl, show (((16 - 1 : Nat) : Nat) : Int) = 15 from rfl, hnb] at x1
          rw [hnb] at HSTEP
          have x2 := u64n_shr e 4 16 rfl
          obtain ⟨e4, he4⟩ : ∃ e4, e >>> 4 = e4 := ⟨_, rfl⟩
          rw [he4] at x2 HEN
          obtain ⟨f0, f1, _, _⟩ := hTn.m.el nb (by rw [tabL_length]; exact nb16)
          rw [tabL_at _ _ nb16, Nat.mul_comm 2 nb] at f0 f1
          have htl := Gh.tab_lt b nb HB.out
          have HU := Lib.hid hul
          have HTL := Lib.hid htl
          have HTN := Lib.hid hTn
          have hsn := hTn.s
          have nbI : (nb : Int) < 16 := by omega
          clear hTn hul htl hnb he4
          go_wp2_with fail
          go_region_with ((go_at_call 67; refine (plus_any u (Gh.tab b nb) HU.out HTL.out _).mono ?_; rintro e3 w3 ⟨rfl, hb3⟩; have g0 := (hb3.cell (p := ⟨w.heap.size + 1 + 1 + 1, 0, none⟩) hsn).trans y0; have g1 := (hb3.cell (p := ⟨w.heap.size + 1 + 1 + 1, 1, none⟩) hsn).trans y1; have g2 := (hb3.frozen (p := ⟨w.heap.size + 1 + 1 + 1, 0, none⟩) hsn).trans z0; have g3 := (hb3.frozen (p := ⟨w.heap.size + 1 + 1 + 1, 1, none⟩) hsn).trans z1))
          all_goals
            have hT3 : Tm w w3 a b u := by first | exact HTN.out.below hb3 | exact HTN.out.drew.below hb3
            have HT3 := Lib.hid hT3
            clear hT3 hb3 g0 g1 g2 g3 y0 y1 z0 z1 f0 f1
            go_wp2_with fail
            go_roundw
            case rel => exact ⟨k + 1, e4, by omega, by go_num, rfl, HEN.out, by
              have hq : Gh.horT b a (16 * 1 + (k + 1)) = u ^^^ Gh.tab b nb := HSTEP.out
              rw [hq]
              exact HT3.out.put HFw.out.2 (u ^^^ Gh.tab b nb)⟩
            case measure => simp [intOf]; omega
        · have hk16 : k = 16 := by omega
          subst hk16
          go_wp2_with fail
          go_roundw
          case rel => exact ⟨1 + 1, by omega, by go_num, hT⟩
          case measure => simp [intOf]
    · have hT := HT.out
      rw [show 16 * 2 = 32 from rfl, show Gh.horT b a 32 = Gh.mulT a b from rfl] at hT
      obtain ⟨m, hm⟩ : ∃ m, Gh.mulT a b = m := ⟨_, rfl⟩
      rw [hm] at hT
      have HM := Lib.hid hm
      have y0 := hT.p.cell 0 _ rfl
      have y1 := hT.p.cell 1 _ rfl
      have c0 := hT.r.cell 0 _ rfl
      have c1 := hT.r.cell 1 _ rfl
      have z0 := hT.r.froz 0 (by simp [elc])
      have z1 := hT.r.froz 1 (by simp [elc])
      rw [Nat.zero_add] at y0 y1 c0 c1 z0 z1
      have hR := (hT.r.set 0 (.int .u64 ((Gh.hi m : Nat) : Int))).set 1 (.int .u64 ((Gh.lo m : Nat) : Int))
      rw [Nat.zero_add, Nat.zero_add] at hR
      have HT2 := Lib.hid hT
      clear HT hT hm
      go_wp2_with fail
      refine bodyPost_ret (results_at rfl _ (w.heap.size + 1 + 1) _ _ rfl hR Tryz.underlying132 rfl rfl) rfl ?_
      exact ⟨by rw [HM.out]; rfl, (HT2.out.b.setCell (p := ⟨w.heap.size + 1 + 1, 0, none⟩) (by show w.heap.size ≤ w.heap.size + 1 + 1; omega) _).setCell (p := ⟨w.heap.size + 1 + 1, 1, none⟩) (by show w.heap.size ≤ w.heap.size + 1 + 1; omega) _⟩
end
end Go.Proofs.YtflofbimecnakaaGreat
namespace Go.Proofs.YtflofbimecnakaaGreat
open Go.RowKit
set_option linter.unusedVariables false
set_option linter.unusedSimpArgs false
theorem xor_byte (a b x y : Nat) (hx : x < 256) (hy : y < 256) : (a * 256 + x) ^^^ (b * 256 + y) = (a ^^^ b) * 256 + (x ^^^ y) := by
  have hxy : x ^^^ y < 2 ^ 8 := Nat.xor_lt_two_pow (by exact hx) (by exact hy)
  refine Nat.eq_of_testBit_eq fun j => ?_
  rw [Nat.testBit_xor, show (256 : Nat) = 2 ^ 8 from rfl, Nat.mul_comm a, Nat.mul_comm b, Nat.mul_comm (a ^^^ b), Nat.testBit_two_pow_mul_add _ (by exact hx), Nat.testBit_two_pow_mul_add _ (by exact hy), Nat.testBit_two_pow_mul_add _ hxy]
  by_cases h : j < 8
  · rw [if_pos h, if_pos h, if_pos h, Nat.testBit_xor]
  · rw [if_neg h, if_neg h, if_neg h, Nat.testBit_xor]
theorem ofBe_xor (A B : List UInt8) (h : A.length = B.length) : ofBe (xorL A B) = ofBe A ^^^ ofBe B := by
  suffices hk : ∀ k, k ≤ A.length → ofBe (xorL (A.take k) (B.take k)) = ofBe (A.take k) ^^^ ofBe (B.take k) by
    have := hk A.length (Nat.le_refl _)
    rwa [List.take_length, h, List.take_length] at this
  intro k
  induction k with
  | zero => intro _; rw [List.take_zero, List.take_zero]; rfl
  | succ k ih =>
    intro hk
    have hA := List.getElem?_eq_getElem (l := A) (show k < A.length by omega)
    have hB := List.getElem?_eq_getElem (l := B) (show k < B.length by omega)
    rw [xorL_take A B k _ _ hA hB, ofBe_snoc, ofBe_take A k _ hA, ofBe_take B k _ hB, ih (by omega), UInt8.toNat_xor, xor_byte _ _ _ _ (UInt8.toNat_lt _) (UInt8.toNat_lt _)]
theorem be_of16 (L : List UInt8) (h : L.length = 16) : be 16 (ofBe L) = L := by
  have := be_ofBe L
  rwa [h] at this
theorem xorL_be (u v : Nat) (hu : u < 2 ^ 128) (hv : v < 2 ^ 128) : xorL (be 16 u) (be 16 v) = be 16 (u ^^^ v) := by
  have h := ofBe_xor (be 16 u) (be 16 v) (by rw [be_length, be_length])
  rw [ofBe16 u hu, ofBe16 v hv] at h
  rw [← h, be_of16 _ (by rw [xorL_len, be_length, be_length]; rfl)]
def gblk (T : List UInt8) (n : Nat) : List UInt8 := (T.drop (16 * n)).take 16
theorem gblk_length (T : List UInt8) (n : Nat) (h : 16 * n + 16 ≤ T.length) : (gblk T n).length = 16 := by
  rw [gblk, List.length_take, List.length_drop]; omega
section
variable [Inhabited Gh.Tw]
/-- the sum, from a start on, over so many blocks -/
def gsF (k s : Nat) (T : List UInt8) : Nat → Nat
  | 0 => s
  | n + 1 => Gh.mulT (gsF k s T n ^^^ ofBe (gblk T n)) k
theorem gsF_succ (k s : Nat) (T : List UInt8) (n : Nat) : gsF k s T (n + 1) = Gh.mulT (gsF k s T n ^^^ ofBe (gblk T n)) k := rfl
theorem gsF_lt (k s : Nat) (T : List UInt8) (hk : k < 2 ^ 128) (hs : s < 2 ^ 128) (n : Nat) : gsF k s T n < 2 ^ 128 := by
  cases n with
  | zero => exact hs
  | succ n => exact Gh.mulT_lt _ _ hk
end
def gsE (K T : List UInt8) : Int := if K.length = 16 then (if T.length % 16 = 0 ∧ T.length ≤ 210000 then 0 else 6) else 3
section
variable [Inhabited Gh.Tw]
def gsL (K T : List UInt8) : List UInt8 := be 16 (gsF (ofBe K) 0 T (T.length / 16))
def gsT (K T : List UInt8) : List UInt8 := if gsE K T = 0 then gsL K T else []
theorem gsL_length (K T : List UInt8) : (gsL K T).length = 16 := be_length _ _
theorem gs_ok (K T : List UInt8) (hK : K.length = 16) (hT : T.length % 16 = 0) (h : T.length ≤ 210000) : gsE K T = 0 ∧ gsT K T = gsL K T := by
  have : gsE K T = 0 := by rw [gsE, if_pos hK, if_pos ⟨hT, h⟩]
  exact ⟨this, by rw [gsT, if_pos this]⟩
end
end Go.Proofs.YtflofbimecnakaaGreat
namespace Go.Proofs.YtflofbimecnakaaGreat
open Go.RowKit
set_option linter.unusedVariables false
set_option linter.unusedSimpArgs false
theorem gx_gblk (s : ByteArray) (n o e : Nat) (ho : o = 16 * n) (he : e = o + 16) : (s.extract o e).toList = gblk s.toList n := by
  subst he ho
  rw [Lib.extract_toList, ← Lib.toList_data, gblk, Nat.add_sub_cancel_left]
theorem gh_tmod (a b c : Nat) (h : c = a % b) : (a : Int).tmod (b : Int) = (c : Int) := by
  rw [Int.tmod_eq_emod_of_nonneg (by omega), h]
  rfl
theorem gh_wrap (n : Int) (h0 : 0 ≤ n) (h1 : n < 9223372036854775808) : IntKind.i64.wrap n = n := by
  simp only [IntKind.wrap, IntKind.bits, IntKind.signed]
  simp
  omega
end Go.Proofs.YtflofbimecnakaaGreat
namespace Go.Proofs.YtflofbimecnakaaGreat
open Go.RowKit
set_option linter.unusedVariables false
set_option linter.unusedSimpArgs false
section
variable [Inhabited Gh.Tw]
/-- what the walk knows of memory -/
structure Gsm (w wn : World) (b v : Nat) : Prop where
  m : At wn w.heap.size 0 (elcs (tabL b))
  p : At wn (w.heap.size + 1) 0 (elc v)
  f : Fal wn
  b : Below w.heap.size w wn
  s : w.heap.size + 2 ≤ wn.heap.size
theorem Gsm.below {w wn w3 : World} {b v : Nat} (h : Gsm w wn b v) (hb : Below wn.heap.size wn w3) : Gsm w w3 b v := by
  have hs := h.s
  exact ⟨h.m.below hb (by omega), h.p.below hb (by omega), h.f.below hb h.f.2, h.b.trans (hb.mono h.b.size), Nat.le_trans hs hb.size⟩
theorem Gsm.drew {w wn : World} {b v : Nat} (h : Gsm w wn b v) : Gsm w wn.drew b v := ⟨h.m.drew, h.p.drew, h.f, h.b.drew, h.s⟩
theorem Gsm.put {w wn : World} {b v : Nat} (h : Gsm w wn b v) (hw : 0 < w.heap.size) (u : Nat) : Gsm w ((wn.setCell ⟨w.heap.size + 1, 0, none⟩ (.int .u64 ((Gh.hi u : Nat) : Int))).setCell ⟨w.heap.size + 1, 1, none⟩ (.int .u64 ((Gh.lo u : Nat) : Int))) b u := by
  have hp := (h.p.set 0 (.int .u64 ((Gh.hi u : Nat) : Int))).set 1 (.int .u64 ((Gh.lo u : Nat) : Int))
  rw [Nat.zero_add, Nat.zero_add] at hp
  have hbn : Below w.heap.size wn ((wn.setCell ⟨w.heap.size + 1, 0, none⟩ (.int .u64 ((Gh.hi u : Nat) : Int))).setCell ⟨w.heap.size + 1, 1, none⟩ (.int .u64 ((Gh.lo u : Nat) : Int))) :=
    ((Below.refl _ _).setCell (p := ⟨w.heap.size + 1, 0, none⟩) (by show w.heap.size ≤ w.heap.size + 1; omega) _).setCell (p := ⟨w.heap.size + 1, 1, none⟩) (by show w.heap.size ≤ w.heap.size + 1; omega) _
  exact ⟨(h.m.other _ _ _ (.inl (by omega))).other _ _ _ (.inl (by omega)), hp, h.f.below hbn hw, h.b.trans hbn, by simpa using h.s⟩
end
theorem sz_sets (g : Nat) : ∀ (vs : List Value) (o : Nat) (w : World), (w.setCells g o vs).heap.size = w.heap.size
  | [], _, _ => rfl
  | v :: vs, o, w => by rw [World.setCells, sz_sets g vs]; simp
section
variable [Inhabited Gh.Tw]
theorem sum_by (w : World) (b : Nat) (hF : Fal w) : ∃ w0, ((w.alloc zm).setCells w.heap.size 0 (elcs (tabL b))).alloc (Obj.cells #[.int .u64 0, .int .u64 0] 132) = w0 ∧ ((w.alloc zm).setCells w.heap.size 0 (elcs (tabL b))).heap.size = w.heap.size + 1 ∧ Gsm w w0 b 0 := by
  have hA0 := At.ofAlloc w (elcs (List.replicate 16 0)).toArray 134
  simp only at hA0
  have hz : w.alloc (Obj.cells (elcs (List.replicate 16 0)).toArray 134) = w.alloc zm := by rw [elz]
  rw [hz] at hA0
  have hl : (tabL b).length = 16 := tabL_length b
  have hA1 := hA0.ofSets (vs := elcs (tabL b)) (by rw [elcs_length, elcs_length, hl, List.length_replicate])
  have hb1 : Below w.heap.size w (w.alloc zm) := (Below.refl _ _).alloc (Nat.le_refl _) _
  have hb2 := below_sets w.heap.size w.heap.size (Nat.le_refl _) (elcs (tabL b)) 0 w _ hb1
  have hs : ((w.alloc zm).setCells w.heap.size 0 (elcs (tabL b))).heap.size = w.heap.size + 1 := by rw [sz_sets, World.size_alloc]
  obtain ⟨w1, hw1⟩ : ∃ w1, (w.alloc zm).setCells w.heap.size 0 (elcs (tabL b)) = w1 := ⟨_, rfl⟩
  rw [hw1] at hA1 hb2 hs ⊢
  have hA2 := At.ofAlloc w1 #[.int .u64 0, .int .u64 0] 132
  rw [hs] at hA2
  have hb3 := hb2.alloc (o := Obj.cells #[.int .u64 0, .int .u64 0] 132) (by omega)
  exact ⟨_, rfl, hs, hA1.alloc _, hA2, hF.below hb3 hF.2, hb3, by simp [hs]⟩
end
theorem emptyL : (ByteArray.mk #[]).toList = [] := tl_mk []
section
variable [Inhabited Gh.Tw]
set_option maxRecDepth 100000 in
set_option maxRecDepth 100000 in
set_option maxHeartbeats 6400000 in
theorem gsum_any (key text : ByteArray) (w : World) (hF : Fal w) : Calls Tryz.prog 43 #[.string key, .string text] w (RetSE (gsT key.toList text.toList) (gsE key.toList text.toList) w) := by
  by_cases h1 : key.size = 16
  rotate_left
  · have hE : gsE key.toList text.toList = 3 := by rw [gsE, if_neg (by rw [tl_size]; exact h1)]
    have hT : gsT key.toList text.toList = [] := by rw [gsT, hE, if_neg (by decide)]
    rw [hE, hT]
    have e1 : ((key.size : Int) != 16) = true := by rw [bne_iff_ne]; omega
    clear hE hT h1
    go_enter Tryz.func43, Tryz.ntmps43
    go_wp2_with fail
    go_ret2
    exact ret_se emptyL rfl rfl (Below.refl _ _)
  have e1 : ((key.size : Int) != 16) = false := by rw [bne_eq_false_iff_eq]; omega
  obtain ⟨r, hr⟩ : ∃ r, text.size % 16 = r := ⟨_, rfl⟩
  have e3 : (text.size : Int).tmod 16 = (r : Int) := gh_tmod text.size 16 r hr.symm
  have e4 : IntKind.i64.wrap (r : Int) = (r : Int) := gh_wrap _ (by omega) (by omega)
  by_cases h2 : r = 0
  rotate_left
  · have hE : gsE key.toList text.toList = 6 := by rw [gsE, if_pos (by rw [tl_size]; exact h1), if_neg (by rw [tl_size]; omega)]
    have hT : gsT key.toList text.toList = [] := by rw [gsT, hE, if_neg (by decide)]
    rw [hE, hT]
    have e2 : ((r : Int) != 0) = true := by rw [bne_iff_ne]; omega
    clear hE hT h1 hr
    go_enter Tryz.func43, Tryz.ntmps43
    go_wp2_with fail
    go_ret2
    exact ret_se emptyL rfl rfl (Below.refl _ _)
  subst h2
  have e2 : (((0 : Nat) : Int) != 0) = false := rfl
  by_cases h3 : text.size ≤ 210000
  rotate_left
  · have hE : gsE key.toList text.toList = 6 := by rw [gsE, if_pos (by rw [tl_size]; exact h1), if_neg (by rw [tl_size]; omega)]
    have hT : gsT key.toList text.toList = [] := by rw [gsT, hE, if_neg (by decide)]
    rw [hE, hT]
    have e5 : (210000 : Int) < (text.size : Int) := by omega
    clear hE hT h1 hr
    go_enter Tryz.func43, Tryz.ntmps43
    go_wp2_with fail
    go_ret2
    exact ret_se emptyL rfl rfl (Below.refl _ _)
  have e5 : ¬ (210000 : Int) < (text.size : Int) := by omega
  obtain ⟨hE, hT⟩ := gs_ok key.toList text.toList (by rw [tl_size]; exact h1) (by rw [tl_size]; exact hr) (by rw [tl_size]; exact h3)
  rw [hE, hT]
  obtain ⟨n, hn⟩ : ∃ n, text.size = 16 * n := ⟨text.size / 16, by omega⟩
  have hnb : n ≤ 13125 := by omega
  obtain ⟨b, hb⟩ : ∃ b, ofBe key.toList = b := ⟨_, rfl⟩
  have hbl := of16_lt key.toList (by rw [tl_size]; exact h1)
  rw [hb] at hbl
  have HN := Lib.hid hn
  have HK := Lib.hid h1
  have HB := Lib.hid hb
  have HBL := Lib.hid hbl
  have HFw := Lib.hid hF
  clear hE hT h1 hr h3 hn hbl hF
  go_enter Tryz.func43, Tryz.ntmps43
  go_wp2_with fail
  refine (gread_any key HK.out _).mono ?_
  rintro e w1 ⟨rfl, hb1⟩
  rw [hb]
  go_wp2_with fail
  refine (multiples_any b HBL.out _).mono ?_
  rintro e w2 ⟨rfl, hb2⟩
  have hb02 := below2 hb1 hb2
  clear hb1 hb2
  have hA0 := At.ofAlloc w2 (elcs (List.replicate 16 0)).toArray 134
  simp only at hA0
  have hl : (tabL b).length = 16 := tabL_length b
  have hst := run_store_at (P := Tryz.prog) hA0 (cs := elcs (tabL b)) (by rw [elcs_length, elcs_length, hl, List.length_replicate]) (elcs_one _)
  rw [elz] at hst
  go_wp2_with fail
  obtain ⟨w0, hw0, hs0, hS⟩ := sum_by w2 b (HFw.out.below hb02 HFw.out.2)
  rw [hw0, hs0]
  clear hw0 hs0 hst hl hA0
  have hw2 : 0 < w2.heap.size := Nat.lt_of_lt_of_le HFw.out.2 hb02.size
  have hinf := infoM (tabL b) (tabL_length b)
  go_loopw [8] (fun vo wr => ∃ (k o : Nat), o = 16 * k ∧ vo = .int .i64 (o : Int) ∧ k ≤ n ∧ Gsm w2 wr b (gsF b 0 text.toList k)) (fun vo _ => 16 * n - (intOf vo).toNat)
  case atStart => exact ⟨0, 0, rfl, rfl, Nat.zero_le _, hS⟩
  case round =>
    clear hS
    obtain ⟨k, o, ho, rfl, hkn, hS⟩ := hrel
    have HO := Lib.hid ho
    by_cases hlt : o < text.size
    · have hltI : (o : Int) < (text.size : Int) := by omega
      have hkn1 : k < n := by have := HN.out; omega
      obtain ⟨e1, he⟩ : ∃ e1, e1 = o + 16 := ⟨_, rfl⟩
      have q1 : (o : Int) + 16 = (e1 : Int) := by omega
      have q2 : IntKind.i64.wrap (e1 : Int) = (e1 : Int) := gh_wrap _ (by omega) (by omega)
      have q3 : (0 : Int) ≤ (o : Int) := by omega
      have q4 : (o : Int) ≤ (e1 : Int) := by omega
      have q5 : o ≤ e1 := by omega
      have q6 : (e1 : Int) ≤ (text.size : Int) := by have := HN.out; omega
      have q7 : e1 ≤ text.size := by have := HN.out; omega
      obtain ⟨bk, hbk⟩ : ∃ bk, text.extract o e1 = bk := ⟨_, rfl⟩
      have hbl : bk.toList = gblk text.toList k := by rw [← hbk]; exact gx_gblk text k o e1 ho he
      have hbs : bk.size = 16 := by rw [← tl_size, hbl, gblk_length _ _ (by rw [tl_size]; omega)]
      have hvl : gsF b 0 text.toList k < 2 ^ 128 := gsF_lt _ _ _ HBL.out (by decide) _
      have hstep : Gh.mulT (gsF b 0 text.toList k ^^^ ofBe bk.toList) b = gsF b 0 text.toList (k + 1) := by rw [hbl, gsF_succ]
      obtain ⟨v, hv⟩ : ∃ v, gsF b 0 text.toList k = v := ⟨_, rfl⟩
      rw [hv] at hvl hstep hS
      have hul := of16_lt bk.toList (by rw [tl_size]; exact hbs)
      have HUL := Lib.hid hul
      have HVL := Lib.hid hvl
      have HST := Lib.hid hstep
      have HBS := Lib.hid hbs
      have HE := Lib.hid he
      have HS := Lib.hid hS
      have HXL : Hid (v ^^^ ofBe bk.toList < 2 ^ 128) := Lib.hid (Nat.xor_lt_two_pow hvl hul)
      have y0 := hS.p.cell 0 _ rfl
      have y1 := hS.p.cell 1 _ rfl
      have z0 := hS.p.froz 0 (by simp [elc])
      have z1 := hS.p.froz 1 (by simp [elc])
      rw [Nat.zero_add] at y0 y1 z0 z1
      clear ho he hbl hbs hvl hstep hul hlt hv
      go_wp2_with fail
      refine wp_region_held_drew (S := fun w' => w'.rangeAt w2.heap.size 0 (elcs (tabL b))) (by kernel_rfl) hS.m.range (fun hHeld => ?_)
      clear hS
      refine wpAnyH_take (i := 2) (v := ?_) rfl (by kernel_rfl) (by kernel_rfl) (by kernel_rfl) (fun _ _ _ h => h) (Or.inl ⟨by rfl, ?_⟩) (by assumption) ?_
      rotate_left
      · intro w hSw
        go_simp
        try with_reducible rfl
      try simp only [Act.put, List.getElem_toArray, List.getElem_cons_zero, List.getElem_cons_succ, List.setIfInBounds_toArray, List.set_cons_zero, List.set_cons_succ]
      refine wpAnyH_take (i := 3) (v := ?_) rfl (by kernel_rfl) (by kernel_rfl) (by kernel_rfl) (fun _ _ _ h => h) (Or.inl ⟨by rfl, ?_⟩) (by assumption) ?_
      rotate_left
      · intro w hSw
        go_simp
        try with_reducible rfl
      try simp only [Act.put, List.getElem_toArray, List.getElem_cons_zero, List.getElem_cons_succ, List.setIfInBounds_toArray, List.set_cons_zero, List.set_cons_succ]
      refine wpAnyH_take (i := 4) (v := ?_) rfl (by kernel_rfl) (by kernel_rfl) (by kernel_rfl) (fun _ _ _ h => h) (Or.inl ⟨by rfl, ?_⟩) (by assumption) ?_
      rotate_left
      · intro w hSw
        go_simp
        try with_reducible rfl
      try simp only [Act.put, List.getElem_toArray, List.getElem_cons_zero, List.getElem_cons_succ, List.setIfInBounds_toArray, List.set_cons_zero, List.set_cons_succ]
      refine wpAnyH_take (i := 5) (v := ?_) rfl (by kernel_rfl) (by kernel_rfl) (by kernel_rfl) (fun _ _ _ h => h) (Or.inl ⟨by rfl, ?_⟩) (by assumption) ?_
      rotate_left
      · intro w hSw
        go_simp
        try with_reducible rfl
      try simp only [Act.put, List.getElem_toArray, List.getElem_cons_zero, List.getElem_cons_succ, List.setIfInBounds_toArray, List.set_cons_zero, List.set_cons_succ]
      refine wpAnyH_take (i := 6) (v := ?_) rfl (by kernel_rfl) (by kernel_rfl) (by kernel_rfl) (fun _ _ _ h => h) (Or.inl ⟨by rfl, ?_⟩) (by assumption) ?_
      rotate_left
      · intro w hSw
        go_simp
        try with_reducible rfl
      try simp only [Act.put, List.getElem_toArray, List.getElem_cons_zero, List.getElem_cons_succ, List.setIfInBounds_toArray, List.set_cons_zero, List.set_cons_succ]
      refine' wpAnyH_take (i := 0) (v := _) rfl (by kernel_rfl) (by kernel_rfl) (by kernel_rfl) (fun _ _ _ h => h) (yieldsIf_load_mid (by rfl) 134 (.tmp 6) rfl w2.heap.size 0 rfl (elcs (tabL b)) _ (fun _ h => h) Tryz.underlying134 rfl hinf) (by assumption) ?_
      try simp only [Act.put, List.getElem_toArray, List.getElem_cons_zero, List.getElem_cons_succ, List.setIfInBounds_toArray, List.set_cons_zero, List.set_cons_succ]
      clear hHeld
      refine wpAnyH_ready (rs := [1, 7]) (by kernel_rfl) (by simp) ?_
      refine AllReadyH.cons (o := _) rfl (fun K hK => ?_) ?_
      · go_simp
        refine hK.out _ _ (HS.out.m.drew.range) (fun hHeld => ?_)
        clear hK K hHeld
        try simp only [Act.put, List.getElem_toArray, List.getElem_cons_zero, List.getElem_cons_succ, List.setIfInBounds_toArray, List.set_cons_zero, List.set_cons_succ]
        refine wpAnyH_ready (rs := [7]) (by kernel_rfl) (by simp) ?_
        refine AllReadyH.cons (o := _) rfl (fun K hK => ?_) AllReadyH.nil
        go_simp
        go_at_call 65
        refine (gread_any bk HBS.out _).mono ?_
        rintro e3 w3 ⟨rfl, hb3⟩
        have S3 := Lib.hid (HS.out.drew.below hb3)
        have y03 := S3.out.p.cell 0 _ rfl
        have y13 := S3.out.p.cell 1 _ rfl
        rw [Nat.zero_add] at y03 y13
        clear hb3
        go_wp2_with fail
        refine hK.out _ _ (S3.out.m.range) (fun hHeld => ?_)
        clear hK K hHeld
        try simp only [Act.put, List.getElem_toArray, List.getElem_cons_zero, List.getElem_cons_succ, List.setIfInBounds_toArray, List.set_cons_zero, List.set_cons_succ]
        refine wpAnyH_ready (rs := [8]) (by kernel_rfl) (by simp) ?_
        refine AllReadyH.cons (o := _) rfl (fun K hK => ?_) AllReadyH.nil
        go_simp
        go_at_call 67
        refine (plus_any v (ofBe bk.toList) HVL.out HUL.out _).mono ?_
        rintro e4 w4 ⟨rfl, hb4⟩
        have S4 := Lib.hid (S3.out.below hb4)
        clear hb4
        go_wp2_with fail
        refine hK.out _ _ (S4.out.m.range) (fun hHeld => ?_)
        clear hK K hHeld
        try simp only [Act.put, List.getElem_toArray, List.getElem_cons_zero, List.getElem_cons_succ, List.setIfInBounds_toArray, List.set_cons_zero, List.set_cons_succ]
        refine wpAnyH_ready (rs := [9]) (by kernel_rfl) (by simp) ?_
        refine AllReadyH.cons (o := _) rfl (fun K hK => ?_) AllReadyH.nil
        go_simp
        go_at_call 66
        refine (times_any (v ^^^ ofBe bk.toList) b HXL.out HBL.out _ S4.out.f).mono ?_
        rintro e5 w5 ⟨rfl, hb5⟩
        rw [HST.out]
        have S5 := Lib.hid (S4.out.below hb5)
        have y05 := S5.out.p.cell 0 _ rfl
        have y15 := S5.out.p.cell 1 _ rfl
        have z05 := S5.out.p.froz 0 (by simp [elc])
        have z15 := S5.out.p.froz 1 (by simp [elc])
        rw [Nat.zero_add] at y05 y15 z05 z15
        clear hb5
        go_wp2_with fail
        refine hK.out _ _ (S5.out.m.range) (fun hHeld => ?_)
        clear hK K hHeld
        try simp only [Act.put, List.getElem_toArray, List.getElem_cons_zero, List.getElem_cons_succ, List.setIfInBounds_toArray, List.set_cons_zero, List.set_cons_succ]
        refine wpAnyH_ready (rs := [10]) (by kernel_rfl) (by simp) ?_
        refine AllReadyH.cons (o := _) rfl (fun K hK => ?_) AllReadyH.nil
        go_simp
        refine hK.out _ _ ((S5.out.put hw2 _).m.range) (fun hHeld => ?_)
        clear hK K hHeld
        try simp only [Act.put, List.getElem_toArray, List.getElem_cons_zero, List.getElem_cons_succ, List.setIfInBounds_toArray, List.set_cons_zero, List.set_cons_succ]
        refine wpAnyH_done (by kernel_rfl) ?_ _
        clear y03 y13 y05 y15 z05 z15
        go_wp2_with fail
        go_roundw
        case rel => exact ⟨k + 1, e1, by have := HO.out; have := HE.out; omega, by go_num, hkn1, S5.out.put hw2 _⟩
        case measure => have := HE.out; have := HN.out; simp [intOf]; omega
      · refine AllReadyH.cons (o := _) rfl (fun K hK => ?_) AllReadyH.nil
        go_simp
        go_at_call 65
        refine (gread_any bk HBS.out _).mono ?_
        rintro e3 w3 ⟨rfl, hb3⟩
        have S3 := Lib.hid (HS.out.drew.below hb3)
        have y03 := S3.out.p.cell 0 _ rfl
        have y13 := S3.out.p.cell 1 _ rfl
        rw [Nat.zero_add] at y03 y13
        clear hb3
        go_wp2_with fail
        refine hK.out _ _ (S3.out.m.range) (fun hHeld => ?_)
        clear hK K hHeld
        try simp only [Act.put, List.getElem_toArray, List.getElem_cons_zero, List.getElem_cons_succ, List.setIfInBounds_toArray, List.set_cons_zero, List.set_cons_succ]
        refine wpAnyH_ready (rs := [1]) (by kernel_rfl) (by simp) ?_
        refine AllReadyH.cons (o := _) rfl (fun K hK => ?_) AllReadyH.nil
        go_simp
        refine hK.out _ _ (S3.out.m.range) (fun hHeld => ?_)
        clear hK K hHeld
        try simp only [Act.put, List.getElem_toArray, List.getElem_cons_zero, List.getElem_cons_succ, List.setIfInBounds_toArray, List.set_cons_zero, List.set_cons_succ]
        refine wpAnyH_ready (rs := [8]) (by kernel_rfl) (by simp) ?_
        refine AllReadyH.cons (o := _) rfl (fun K hK => ?_) AllReadyH.nil
        go_simp
        go_at_call 67
        refine (plus_any v (ofBe bk.toList) HVL.out HUL.out _).mono ?_
        rintro e4 w4 ⟨rfl, hb4⟩
        have S4 := Lib.hid (S3.out.below hb4)
        clear hb4
        go_wp2_with fail
        refine hK.out _ _ (S4.out.m.range) (fun hHeld => ?_)
        clear hK K hHeld
        try simp only [Act.put, List.getElem_toArray, List.getElem_cons_zero, List.getElem_cons_succ, List.setIfInBounds_toArray, List.set_cons_zero, List.set_cons_succ]
        refine wpAnyH_ready (rs := [9]) (by kernel_rfl) (by simp) ?_
        refine AllReadyH.cons (o := _) rfl (fun K hK => ?_) AllReadyH.nil
        go_simp
        go_at_call 66
        refine (times_any (v ^^^ ofBe bk.toList) b HXL.out HBL.out _ S4.out.f).mono ?_
        rintro e5 w5 ⟨rfl, hb5⟩
        rw [HST.out]
        have S5 := Lib.hid (S4.out.below hb5)
        have y05 := S5.out.p.cell 0 _ rfl
        have y15 := S5.out.p.cell 1 _ rfl
        have z05 := S5.out.p.froz 0 (by simp [elc])
        have z15 := S5.out.p.froz 1 (by simp [elc])
        rw [Nat.zero_add] at y05 y15 z05 z15
        clear hb5
        go_wp2_with fail
        refine hK.out _ _ (S5.out.m.range) (fun hHeld => ?_)
        clear hK K hHeld
        try simp only [Act.put, List.getElem_toArray, List.getElem_cons_zero, List.getElem_cons_succ, List.setIfInBounds_toArray, List.set_cons_zero, List.set_cons_succ]
        refine wpAnyH_ready (rs := [10]) (by kernel_rfl) (by simp) ?_
        refine AllReadyH.cons (o := _) rfl (fun K hK => ?_) AllReadyH.nil
        go_simp
        refine hK.out _ _ ((S5.out.put hw2 _).m.range) (fun hHeld => ?_)
        clear hK K hHeld
        try simp only [Act.put, List.getElem_toArray, List.getElem_cons_zero, List.getElem_cons_succ, List.setIfInBounds_toArray, List.set_cons_zero, List.set_cons_succ]
        refine wpAnyH_done (by kernel_rfl) ?_ _
        clear y03 y13 y05 y15 z05 z15
        go_wp2_with fail
        go_roundw
        case rel => exact ⟨k + 1, e1, by have := HO.out; have := HE.out; omega, by go_num, hkn1, S5.out.put hw2 _⟩
        case measure => have := HE.out; have := HN.out; simp [intOf]; omega
    · have hkn1 : k = n := by have := HN.out; omega
      subst hkn1
      have hltI : ¬ (o : Int) < (text.size : Int) := by omega
      have hvl : gsF b 0 text.toList k < 2 ^ 128 := gsF_lt _ _ _ HBL.out (by decide) _
      obtain ⟨v, hv⟩ : ∃ v, gsF b 0 text.toList k = v := ⟨_, rfl⟩
      rw [hv] at hvl hS
      have y0 := hS.p.cell 0 _ rfl
      have y1 := hS.p.cell 1 _ rfl
      rw [Nat.zero_add] at y0 y1
      have hb03 := hb02.trans (hS.b.mono hb02.size)
      have HV := Lib.hid hv
      have HVL := Lib.hid hvl
      clear ho hS hv hvl
      go_wp2_with fail
      refine (gtell_any v HVL.out _).mono ?_
      rintro e w5 ⟨s, rfl, hs, hb5⟩
      have hb05 := hb03.trans (hb5.mono hb03.size)
      have HSS := Lib.hid hs
      clear hs hb5 hb03 y0 y1
      go_wp2_with fail
      go_ret2
      refine ret_se HSS.out ?_ rfl hb05
      rw [gsL, tl_size, HN.out, Nat.mul_div_cancel_left _ (by decide), HB.out, HV.out]
end
end Go.Proofs.YtflofbimecnakaaGreat
