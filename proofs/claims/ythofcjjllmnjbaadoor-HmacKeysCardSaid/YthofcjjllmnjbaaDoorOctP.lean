/- Plain words for numbers in bytes. -/
import Derived.Test.YthofcjjllmnjbaaDoorBase
namespace Go.Proofs.YthofcjjllmnjbaaDoor
open Go.RowKit
set_option linter.unusedVariables false
set_option linter.unusedSimpArgs false
def putF (m n i : Nat) : UInt8 := UInt8.ofNat (n / 256 ^ (m - 1 - i))
def be (m n : Nat) : List UInt8 := (List.range m).map (putF m n)
theorem be_length (m n : Nat) : (be m n).length = m := by simp [be]
theorem u8mod (x : Nat) : ((x : Int) % 256) = ((UInt8.ofNat x).toNat : Int) := by
  rw [UInt8.toNat_ofNat']
  omega
theorem div_step (n k : Nat) : n / 256 ^ k / 256 = n / 256 ^ (k + 1) := by rw [Nat.div_div_eq_div_mul, Nat.pow_succ]
theorem putF_at (m n k : Nat) (h : k < m) : putF m n (m - 1 - k) = UInt8.ofNat (n / 256 ^ k) := by
  unfold putF
  rw [show m - 1 - (m - 1 - k) = k by omega]
theorem pow8 (j : Nat) : 2 ^ (8 * j) = 256 ^ j := by rw [Nat.pow_mul]
theorem be_take (m n k : Nat) (h : k < m) : (be m n).take (k + 1) = (be m n).take k ++ [UInt8.ofNat (n / 256 ^ (m - 1 - k))] := by
  rw [List.take_add_one]
  simp [be, h, putF]
/-- the number of bytes, the highest first -/
def ofBe (l : List UInt8) : Nat := l.foldl (fun n b => n * 256 + b.toNat) 0
theorem ofBe_snoc (l : List UInt8) (b : UInt8) : ofBe (l ++ [b]) = ofBe l * 256 + b.toNat := by simp [ofBe]
theorem ofBe_lt (l : List UInt8) : ofBe l < 256 ^ l.length := by
  suffices h : ∀ (l : List UInt8) (x n : Nat), x < 256 ^ n → l.foldl (fun n b => n * 256 + b.toNat) x < 256 ^ (n + l.length) by
    have := h l 0 0 (by decide)
    simpa [ofBe] using this
  intro l
  induction l with
  | nil => intro x n h; simpa using h
  | cons b l ih =>
    intro x n h
    rw [List.foldl_cons, List.length_cons, show n + (l.length + 1) = (n + 1) + l.length by omega]
    refine ih _ _ ?_
    have hb := b.toNat_lt
    rw [Nat.pow_succ]
    have : (x + 1) * 256 ≤ 256 ^ n * 256 := Nat.mul_le_mul_right _ h
    omega
theorem ofBe_take (l : List UInt8) (k : Nat) (b : UInt8) (h : l[k]? = some b) : ofBe (l.take (k + 1)) = ofBe (l.take k) * 256 + b.toNat := by
  rw [List.take_add_one, h]
  exact ofBe_snoc _ _
theorem ofBe_be (m n : Nat) : ofBe (be m n) = n % 256 ^ m := by
  suffices h : ∀ k, k ≤ m → ofBe ((be m n).take k) = n / 256 ^ (m - k) % 256 ^ k by
    have := h m (Nat.le_refl _)
    rw [List.take_of_length_le (by rw [be_length]; exact Nat.le_refl _)] at this
    simpa using this
  intro k
  induction k with
  | zero => intro _; simp [ofBe, Nat.mod_one]
  | succ k ih =>
    intro hk
    rw [be_take m n k (by omega), ofBe_snoc, ih (by omega), UInt8.toNat_ofNat']
    have e1 : n / 256 ^ (m - k) = n / 256 ^ (m - 1 - k) / 256 := by rw [div_step, show m - 1 - k + 1 = m - k by omega]
    have e2 : m - (k + 1) = m - 1 - k := by omega
    rw [e1, e2]
    generalize n / 256 ^ (m - 1 - k) = y
    have e3 : (256 : Nat) ^ (k + 1) = 256 * 256 ^ k := by rw [Nat.pow_succ, Nat.mul_comm]
    rw [e3, Nat.mod_mul, show (2 : Nat) ^ 8 = 256 by decide]
    omega
def putOk (n : Nat) (m : Int) : Bool := decide (1 ≤ m ∧ m ≤ 8 ∧ n < 256 ^ m.toNat)
def putL (n : Nat) (m : Int) : List UInt8 := if putOk n m then be m.toNat n else []
def putE (n : Nat) (m : Int) : Int := if putOk n m then 0 else 2
def getOk (l : List UInt8) : Bool := decide (1 ≤ l.length ∧ l.length ≤ 8)
def getN (l : List UInt8) : Nat := if getOk l then ofBe l else 0
def getE (l : List UInt8) : Int := if getOk l then 0 else 6
theorem put_get (n : Nat) (m : Int) (h : putE n m = 0) : getE (putL n m) = 0 ∧ getN (putL n m) = n := by
  unfold putE at h
  split at h
  · rename_i hok
    have hk : 1 ≤ m ∧ m ≤ 8 ∧ n < 256 ^ m.toNat := by simpa [putOk] using hok
    have hl : putL n m = be m.toNat n := by simp [putL, hok]
    have hg : getOk (be m.toNat n) = true := by simp [getOk, be_length]; omega
    rw [hl]
    refine ⟨by simp [getE, hg], ?_⟩
    rw [getN, if_pos hg, ofBe_be, Nat.mod_eq_of_lt hk.2.2]
  · cases h
theorem or_join (x : Nat) (b : UInt8) (h : x < 72057594037927936) : bits .or .u64 ((x : Int) * 256) (b.toNat : Int) = ((x * 256 + b.toNat : Nat) : Int) := by
  have hb := b.toNat_lt
  have := u64_or_nat (x * 256) b.toNat (by omega) (by omega)
  rw [show ((x : Int) * 256) = ((x * 256 : Nat) : Int) by omega, this, nat_join 8 (x * 256) b.toNat (by omega) (by omega)]
theorem ofBe_lt7 (l : List UInt8) (k : Nat) (h : k < 8) : ofBe (l.take k) < 72057594037927936 := by
  have h1 := ofBe_lt (l.take k)
  have h2 : (l.take k).length ≤ 7 := by have := List.length_take_le k l; omega
  have h3 : 256 ^ (l.take k).length ≤ 256 ^ 7 := Nat.pow_le_pow_right (by omega) h2
  have h4 : (256 : Nat) ^ 7 = 72057594037927936 := by decide
  omega
theorem be_snoc (m x : Nat) (b : UInt8) : be (m + 1) (x * 256 + b.toNat) = be m x ++ [b] := by
  apply List.ext_getElem
  · simp [be]
  · intro i h1 h2
    have hi : i < m + 1 := by simpa [be] using h1
    have hb := b.toNat_lt
    by_cases e : i < m
    · rw [List.getElem_append_left (by rw [be_length]; exact e)]
      simp only [be, List.getElem_map, List.getElem_range, putF]
      have e1 : m + 1 - 1 - i = (m - 1 - i) + 1 := by omega
      rw [e1, Nat.pow_succ, Nat.mul_comm (256 ^ (m - 1 - i)) 256, ← Nat.div_div_eq_div_mul, show (x * 256 + b.toNat) / 256 = x by omega]
    · have e2 : i = m := by omega
      subst e2
      rw [List.getElem_append_right (by rw [be_length]; exact Nat.le_refl _)]
      simp only [be, List.getElem_map, List.getElem_range, putF, List.length_map, List.length_range, Nat.sub_self, List.getElem_cons_zero]
      rw [show i + 1 - 1 - i = 0 by omega]
      apply UInt8.toNat_inj.1
      rw [UInt8.toNat_ofNat']
      omega
theorem be_ofBe (l : List UInt8) : be l.length (ofBe l) = l := by
  suffices h : ∀ k, k ≤ l.length → be k (ofBe (l.take k)) = l.take k by
    have := h l.length (Nat.le_refl _)
    rwa [List.take_length] at this
  intro k
  induction k with
  | zero => intro _; simp [be]
  | succ k ih =>
    intro hk
    have hl : l[k]? = some l[k] := List.getElem?_eq_getElem (by omega)
    rw [ofBe_take l k _ hl, be_snoc, ih (by omega), List.take_add_one, hl]
    rfl
end Go.Proofs.YthofcjjllmnjbaaDoor
