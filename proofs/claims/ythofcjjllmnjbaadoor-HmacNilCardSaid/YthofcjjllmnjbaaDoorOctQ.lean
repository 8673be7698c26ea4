/- Plain words for Add, Hex and Unhex. -/
import Derived.Test.YthofcjjllmnjbaaDoorOctP
namespace Go.Proofs.YthofcjjllmnjbaaDoor
open Go.RowKit
set_option linter.unusedVariables false
set_option linter.unusedSimpArgs false
/-! ### Add -/
def oaddL (s : List UInt8) (n : Nat) : List UInt8 := be s.length (ofBe s + n)
theorem oaddL_length (s : List UInt8) (n : Nat) : (oaddL s n).length = s.length := be_length _ _
theorem digit (l : List UInt8) (k : Nat) (hk : k < l.length) : l[l.length - 1 - k]? = some (UInt8.ofNat (ofBe l / 256 ^ k)) := by
  have h : l[l.length - 1 - k]? = (be l.length (ofBe l))[l.length - 1 - k]? := by rw [be_ofBe]
  rw [h]
  simp only [be, List.getElem?_map]
  rw [List.getElem?_range (by omega)]
  simp only [Option.map_some, putF]
  rw [show l.length - 1 - (l.length - 1 - k) = k by omega]
/-- what is carried behind k places -/
def carry (S n k : Nat) : Nat := (S % 256 ^ k + n) / 256 ^ k
theorem carry_zero (S n : Nat) : carry S n 0 = n := by simp [carry, Nat.mod_one]
theorem carry_le (S n k : Nat) : carry S n k ≤ n := by
  unfold carry
  have hP : 0 < 256 ^ k := Nat.pow_pos (by decide)
  have hm := Nat.mod_lt S hP
  generalize 256 ^ k = P at *
  generalize S % P = r at *
  rcases n with _ | q
  · rw [Nat.div_eq_of_lt (by omega)]; exact Nat.le_refl _
  · apply Nat.div_le_of_le_mul
    obtain ⟨p, rfl⟩ : ∃ p, P = p + 1 := ⟨P - 1, by omega⟩
    rw [Nat.add_mul, Nat.mul_add]
    have : 0 ≤ p * q := Nat.zero_le _
    omega
theorem carry_step (S n k : Nat) : carry S n (k + 1) = (carry S n k + S / 256 ^ k % 256) / 256 := by
  unfold carry
  have hP : 0 < 256 ^ k := Nat.pow_pos (by decide)
  rw [Nat.pow_succ, Nat.mod_mul, ← Nat.div_div_eq_div_mul]
  generalize 256 ^ k = P at *
  rw [show S % P + P * (S / P % 256) + n = (S % P + n) + P * (S / P % 256) by omega, Nat.add_mul_div_left _ _ hP]
theorem sum_digit (S n k : Nat) : (S + n) / 256 ^ k = S / 256 ^ k + carry S n k := by
  unfold carry
  have hP : 0 < 256 ^ k := Nat.pow_pos (by decide)
  generalize 256 ^ k = P at *
  have h := Nat.div_add_mod S P
  have e : S + n = (S % P + n) + P * (S / P) := by omega
  rw [e, Nat.add_mul_div_left _ _ hP, Nat.add_comm]
/-- the byte that a step makes, the carry that it leaves -/
theorem add_byte (S n k : Nat) : UInt8.ofNat (S / 256 ^ k) + UInt8.ofNat (carry S n k) = UInt8.ofNat ((S + n) / 256 ^ k) := by
  rw [sum_digit, UInt8.ofNat_add]
theorem add_carry (S n k : Nat) : carry S n (k + 1) = carry S n k / 256 + (if (UInt8.ofNat ((S + n) / 256 ^ k)).toNat < (UInt8.ofNat (carry S n k)).toNat then 1 else 0) := by
  rw [carry_step, UInt8.toNat_ofNat', UInt8.toNat_ofNat', sum_digit]
  generalize carry S n k = c
  generalize S / 256 ^ k = d
  split <;> omega
theorem add_fill (s : List UInt8) (n : Nat) : (List.range s.length).map (putF s.length (ofBe s + n)) = oaddL s n := rfl
theorem be_mod (m x : Nat) : be m (x % 256 ^ m) = be m x := by
  have h1 := be_ofBe (be m x)
  rw [be_length, ofBe_be] at h1
  exact h1
theorem oaddL_addL (s : List UInt8) (n m : Nat) : oaddL (oaddL s n) m = oaddL s (n + m) := by
  unfold oaddL
  rw [be_length, ofBe_be]
  generalize s.length = L
  rw [← be_mod L (_ + m), Nat.mod_add_mod, be_mod, Nat.add_assoc]
/-- the document's carry -/
def rcarry (S n k : Nat) : Nat := (S % 256 ^ k + n % 256 ^ k) / 256 ^ k
theorem rcarry_zero (S n : Nat) : rcarry S n 0 = 0 := by simp [rcarry, Nat.mod_one]
theorem rcarry_le (S n k : Nat) : rcarry S n k ≤ 1 := by
  unfold rcarry
  have hP : 0 < 256 ^ k := Nat.pow_pos (by decide)
  have h1 := Nat.mod_lt S hP
  have h2 := Nat.mod_lt n hP
  generalize 256 ^ k = P at *
  apply Nat.le_of_lt_succ
  apply Nat.div_lt_of_lt_mul
  omega
theorem rcarry_step (S n k : Nat) : rcarry S n (k + 1) = (S / 256 ^ k % 256 + n / 256 ^ k % 256 + rcarry S n k) / 256 := by
  unfold rcarry
  have hP : 0 < 256 ^ k := Nat.pow_pos (by decide)
  rw [Nat.pow_succ, Nat.mod_mul, Nat.mod_mul, ← Nat.div_div_eq_div_mul]
  generalize 256 ^ k = P at *
  rw [show S % P + P * (S / P % 256) + (n % P + P * (n / P % 256)) = (S % P + n % P) + P * (S / P % 256 + n / P % 256) by rw [Nat.mul_add]; omega, Nat.add_mul_div_left _ _ hP]
  omega
theorem rsum_digit (S n k : Nat) : (S + n) / 256 ^ k = S / 256 ^ k + n / 256 ^ k + rcarry S n k := by
  unfold rcarry
  have hP : 0 < 256 ^ k := Nat.pow_pos (by decide)
  generalize 256 ^ k = P at *
  have h := Nat.div_add_mod S P
  have h2 := Nat.div_add_mod n P
  have e : S + n = (S % P + n % P) + P * (S / P + n / P) := by rw [Nat.mul_add]; omega
  rw [e, Nat.add_mul_div_left _ _ hP]
  omega
/-! ### signs -/
def sgn (n : Nat) : UInt8 := UInt8.ofNat (if n < 10 then 48 + n else 87 + n)
def hexL (l : List UInt8) : List UInt8 := l.flatMap fun b => [sgn (b.toNat / 16), sgn (b.toNat % 16)]
theorem hexL_length (l : List UInt8) : (hexL l).length = 2 * l.length := by
  induction l with
  | nil => rfl
  | cons b l ih => simp only [hexL, List.flatMap_cons, List.length_append, List.length_cons, List.length_nil] at *; omega
theorem hexL_take (l : List UInt8) (k : Nat) (b : UInt8) (h : l[k]? = some b) : hexL (l.take (k + 1)) = hexL (l.take k) ++ [sgn (b.toNat / 16), sgn (b.toNat % 16)] := by
  rw [List.take_add_one, h]
  simp [hexL]
/-- half a byte of a sign; none: 16 -/
def half (c : UInt8) : Nat := if 48 ≤ c.toNat ∧ c.toNat ≤ 57 then c.toNat - 48 else if 97 ≤ c.toNat ∧ c.toNat ≤ 102 then c.toNat - 87 else 16
theorem half_le (c : UInt8) : half c ≤ 16 := by unfold half; split <;> (try split) <;> omega
theorem half_sgn (n : Nat) (h : n < 16) : half (sgn n) = n := by
  have : ∀ n : Fin 16, half (sgn n.val) = n.val := by decide
  exact this ⟨n, h⟩
/-- the first place that is wrong -/
def badAt (l : List UInt8) : Option Nat := l.findIdx? fun c => decide (15 < half c)
def pairs : List UInt8 → List UInt8
  | a :: b :: l => UInt8.ofNat (16 * half a + half b) :: pairs l
  | _ => []
def unhexE (l : List UInt8) : Int := match badAt l with
  | some _ => 9
  | none => if l.length % 2 = 1 then 9 else 0
def unhexP (l : List UInt8) : Nat := match badAt l with
  | some i => i
  | none => if l.length % 2 = 1 then l.length else 0
def unhexL (l : List UInt8) : List UInt8 := match badAt l with
  | some _ => []
  | none => if l.length % 2 = 1 then [] else pairs l
end Go.Proofs.YthofcjjllmnjbaaDoor
