/- The field of 128 bits: bytes. -/
import Derived.Test.YtkedoiikkjeadaaDoorGhQ
import Derived.Test.YtkedoiikkjeadaaDoorOctQ
namespace Go.Proofs.YtkedoiikkjeadaaDoor
open Go.RowKit
set_option linter.unusedVariables false
set_option linter.unusedSimpArgs false
theorem ofBe_bit (l : List UInt8) (j : Nat) (hj : j < 8 * l.length) : (ofBe l).testBit j = (l.getD (l.length - 1 - j / 8) 0).toNat.testBit (j % 8) := by
  suffices h : ∀ k, k ≤ l.length → ∀ j, j < 8 * k → (ofBe (l.take k)).testBit j = (l.getD (k - 1 - j / 8) 0).toNat.testBit (j % 8) by
    have := h l.length (Nat.le_refl _) j hj
    rwa [List.take_length] at this
  clear hj j
  intro k
  induction k with
  | zero => intro _ j hj; omega
  | succ k ih =>
    intro hk j hj
    rw [ofBe_take l k (l[k]'hk) (List.getElem?_eq_getElem hk), show (256 : Nat) = 2 ^ 8 from rfl, Nat.mul_comm, Nat.testBit_two_pow_mul_add _ (by exact (l[k]'hk).toNat_lt)]
    by_cases h : j < 8
    · rw [if_pos h, show k + 1 - 1 - j / 8 = k by omega, show j % 8 = j by omega, List.getD, List.getElem?_eq_getElem hk]
      rfl
    · rw [if_neg h, ih (by omega) (j - 8) (by omega), show (j - 8) % 8 = j % 8 by omega, show k - 1 - (j - 8) / 8 = k + 1 - 1 - j / 8 by omega]
theorem co_of (L : List UInt8) (hL : L.length = 16) (i : Nat) (h : i < 128) : Gh.co (ofBe L) i = (L.getD (i / 8) 0).toNat.testBit (7 - i % 8) := by
  rw [Gh.co, ofBe_bit L _ (by omega), hL, show 16 - 1 - (127 - i) / 8 = i / 8 by omega, show (127 - i) % 8 = 7 - i % 8 by omega]
theorem fold_x (B : List UInt8) : ∀ x : Nat, B.foldl (fun n b => n * 256 + b.toNat) x = x * 256 ^ B.length + B.foldl (fun n b => n * 256 + b.toNat) 0 := by
  induction B with
  | nil => intro x; simp
  | cons b B ih =>
    intro x
    rw [List.foldl_cons, List.foldl_cons, ih, ih (0 * 256 + b.toNat), List.length_cons, Nat.pow_succ, Nat.zero_mul, Nat.zero_add, Nat.add_mul, Nat.mul_assoc, Nat.mul_comm 256, Nat.add_assoc]
theorem ofBe_app (A B : List UInt8) : ofBe (A ++ B) = ofBe A * 256 ^ B.length + ofBe B := by
  rw [ofBe, List.foldl_append]
  exact fold_x B _
theorem of16_lt (L : List UInt8) (hL : L.length = 16) : ofBe L < 2 ^ 128 := by
  have := ofBe_lt L
  rw [hL] at this
  exact this
theorem of8_lt (L : List UInt8) (hL : L.length = 8) : ofBe L < 2 ^ 64 := by
  have := ofBe_lt L
  rw [hL] at this
  exact this
theorem of16_half (L : List UInt8) (hL : L.length = 16) : Gh.hi (ofBe L) = ofBe (L.take 8) ∧ Gh.lo (ofBe L) = ofBe (L.drop 8) := by
  have h := ofBe_app (L.take 8) (L.drop 8)
  rw [List.take_append_drop, List.length_drop, hL] at h
  have h2 := of8_lt (L.drop 8) (by rw [List.length_drop, hL])
  rw [h]
  exact ⟨Gh.hi_mk _ _ h2, Gh.lo_mk _ _ h2⟩
theorem be16 (v : Nat) (h : v < 2 ^ 128) : be 16 v = be 8 (Gh.hi v) ++ be 8 (Gh.lo v) := by
  have h1 : ofBe (be 8 (Gh.hi v) ++ be 8 (Gh.lo v)) = v := by
    rw [ofBe_app, ofBe_be, ofBe_be, be_length, show (256 : Nat) ^ 8 = 2 ^ 64 by decide, Nat.mod_eq_of_lt (Gh.hi_lt v h), Nat.mod_eq_of_lt (Gh.lo_lt v), Gh.hilo]
  have h2 := be_ofBe (be 8 (Gh.hi v) ++ be 8 (Gh.lo v))
  rw [h1, List.length_append, be_length, be_length] at h2
  exact h2
theorem ofBe16 (v : Nat) (h : v < 2 ^ 128) : ofBe (be 16 v) = v := by
  rw [ofBe_be, show (256 : Nat) ^ 16 = 2 ^ 128 by decide, Nat.mod_eq_of_lt h]
/-- an element's bytes, bit by bit -/
def txStep (e : List Bool) (n : Nat) (B : List UInt8) : List UInt8 := if e.getD n false then B.set (n / 8) (B.getD (n / 8) 0 ||| UInt8.ofNat (2 ^ (7 - n % 8))) else B
def tx (e : List Bool) : Nat → List UInt8
  | 0 => List.replicate 16 0
  | n + 1 => txStep e n (tx e n)
theorem tx_length (e : List Bool) (n : Nat) : (tx e n).length = 16 := by
  induction n with
  | zero => rfl
  | succ n ih => rw [tx, txStep]; split <;> simp [ih]
theorem tx_bit (e : List Bool) (n : Nat) (hn : n ≤ 128) : ∀ i, i < 128 → ((tx e n).getD (i / 8) 0).toNat.testBit (7 - i % 8) = (decide (i < n) && e.getD i false) := by
  induction n with
  | zero =>
    intro i hi
    have h0 : (tx e 0).getD (i / 8) 0 = 0 := by
      rw [tx, List.getD, List.getElem?_replicate]
      split <;> rfl
    rw [h0]
    simp
  | succ n ih =>
    intro i hi
    have hl := tx_length e n
    rw [tx, txStep]
    cases he : e.getD n false
    · rw [if_neg (by simp), ih (by omega) i hi]
      by_cases h : i = n
      · subst h; rw [he]; simp
      · rw [decide_eq_decide.2 (show i < n ↔ i < n + 1 by omega)]
    · rw [if_pos rfl]
      by_cases hb : i / 8 = n / 8
      · rw [hb, show ((tx e n).set (n / 8) ((tx e n).getD (n / 8) 0 ||| UInt8.ofNat (2 ^ (7 - n % 8)))).getD (n / 8) 0 = (tx e n).getD (n / 8) 0 ||| UInt8.ofNat (2 ^ (7 - n % 8)) by
          rw [List.getD, List.getElem?_set_self (by omega)]; rfl, UInt8.toNat_or, Nat.testBit_or, ← hb, ih (by omega) i hi, UInt8.toNat_ofNat', Nat.mod_eq_of_lt (Nat.pow_lt_pow_right (by decide) (by omega)), Nat.testBit_two_pow]
        by_cases h : i = n
        · subst h; rw [he]; simp
        · rw [decide_eq_decide.2 (show i < n ↔ i < n + 1 by omega), show decide (7 - n % 8 = 7 - i % 8) = false by simp; omega, Bool.or_false]
      · rw [show ((tx e n).set (n / 8) ((tx e n).getD (n / 8) 0 ||| UInt8.ofNat (2 ^ (7 - n % 8)))).getD (i / 8) 0 = (tx e n).getD (i / 8) 0 by
          rw [List.getD, List.getElem?_set_ne (fun h => hb h.symm)]; rfl, ih (by omega) i hi, decide_eq_decide.2 (show i < n ↔ i < n + 1 by omega)]
theorem tx_all (e : List Bool) : tx e 128 = be 16 (Gh.V e 128) := by
  have hl := tx_length e 128
  have h : ofBe (tx e 128) = Gh.V e 128 := by
    rw [← Gh.basis _ (of16_lt _ hl), Gh.V]
    refine Gh.xs_congr fun i hi => ?_
    rw [co_of _ hl i hi, tx_bit e 128 (Nat.le_refl _) i hi]
    simp [hi]
  rw [← h]
  have := be_ofBe (tx e 128)
  rw [hl] at this
  exact this.symm
/-- the product of texts -/
def gmL (A B : List UInt8) : List UInt8 := be 16 (Gh.mul (ofBe A) (ofBe B))
theorem gmL_length (A B : List UInt8) : (gmL A B).length = 16 := be_length _ _
end Go.Proofs.YtkedoiikkjeadaaDoor
