/- There and back. -/
import Derived.Test.YtkjenmkgamnchaaBasP
namespace Go.Proofs.Ytkjenmkgamnchaa
open Go.RowKit
set_option linter.unusedVariables false
set_option linter.unusedSimpArgs false
def sx (m M : Nat) : List UInt8 := (List.range m).map fun j => sgB (M / 64 ^ (m - 1 - j) % 64)
theorem sx_length (m M : Nat) : (sx m M).length = m := by simp [sx]
theorem sx_get (m M j : Nat) (h : j < m) : (sx m M)[j]? = some (sgB (M / 64 ^ (m - 1 - j) % 64)) := by simp [sx, h]
theorem sx_ok (m M : Nat) : okB (sx m M) (sx m M).length := by
  intro i hi c hc
  rw [sx_length] at hi
  rw [sx_get _ _ _ hi] at hc
  cases hc
  rw [vaB_sgB _ (by omega)]
  omega
theorem ofSx_sx (m M : Nat) : ofSx (sx m M) = M % 64 ^ m := by
  suffices h : ∀ k, k ≤ m → ofSx ((sx m M).take k) = M / 64 ^ (m - k) % 64 ^ k by
    have := h m (Nat.le_refl _)
    rw [List.take_of_length_le (by rw [sx_length]; exact Nat.le_refl _)] at this
    simpa using this
  intro k
  induction k with
  | zero => intro _; simp [ofSx, Nat.mod_one]
  | succ k ih =>
    intro hk
    rw [ofSx_take _ _ _ (sx_get m M k (by omega)), ih (by omega), vaB_sgB _ (by omega)]
    have e1 : M / 64 ^ (m - k) = M / 64 ^ (m - 1 - k) / 64 := by
      rw [Nat.div_div_eq_div_mul, ← Nat.pow_succ, show (m - 1 - k).succ = m - k by omega]
    have e2 : m - (k + 1) = m - 1 - k := by omega
    rw [e1, e2]
    generalize M / 64 ^ (m - 1 - k) = y
    have e3 : (64 : Nat) ^ (k + 1) = 64 * 64 ^ k := by rw [Nat.pow_succ, Nat.mul_comm]
    rw [e3, Nat.mod_mul]
    omega
theorem sx_ofSx (l : List UInt8) (ok : okB l l.length) : sx l.length (ofSx l) = l := by
  apply List.ext_getElem?
  intro i
  by_cases hi : i < l.length
  · rw [sx_get _ _ _ hi]
    have hl : l[i]? = some l[i] := List.getElem?_eq_getElem hi
    have h1 := ofSx_top l (i + 1) ok (by omega)
    have h2 := ofSx_take l i _ hl
    have h3 := ok i hi _ hl
    rw [show l.length - 1 - i = l.length - (i + 1) by omega, ← h1, h2, hl, show (ofSx (l.take i) * 64 + vaB l[i]) % 64 = vaB l[i] by omega, sgB_vaB _ h3]
  · rw [List.getElem?_eq_none (by rw [sx_length]; omega), List.getElem?_eq_none (by omega)]
theorem encN_decN (L : Nat) (h : ¬ L % 4 = 1) : encN (decN L) = L := by
  unfold decN encN
  have h0 : 6 * L / 8 = 3 * (L / 4) + 6 * (L % 4) / 8 := by omega
  rw [h0]
  have h1 : L % 4 = 0 ∨ L % 4 = 2 ∨ L % 4 = 3 := by omega
  rcases h1 with h1 | h1 | h1 <;> rw [h1] <;> omega
theorem encL_sx (l : List UInt8) : encL l = sx (encN l.length) (ofBe l * 2 ^ (6 * encN l.length - 8 * l.length)) := by
  unfold encL sx
  apply List.map_congr_left
  intro j hj
  have hj2 : j < encN l.length := by simpa using hj
  congr 1
  rw [pow64]
  unfold sext
  unfold encN at *
  generalize l.length = L at *
  split
  · rename_i h
    have e : 6 * ((8 * L + 5) / 6 - 1 - j) = (6 * ((8 * L + 5) / 6) - 8 * L) + (8 * L - 6 * (j + 1)) := by omega
    rw [e, Nat.pow_add, ← Nat.div_div_eq_div_mul, Nat.mul_div_cancel _ (Nat.pow_pos (by decide))]
  · rename_i h
    have e : 6 * ((8 * L + 5) / 6 - 1 - j) = 0 := by omega
    rw [e, Nat.pow_zero, Nat.div_one, show 6 * (j + 1) - 8 * L = 6 * ((8 * L + 5) / 6) - 8 * L by omega]
theorem ofSx_encL (l : List UInt8) : ofSx (encL l) = ofBe l * 2 ^ (6 * encN l.length - 8 * l.length) := by
  rw [encL_sx, ofSx_sx, Nat.mod_eq_of_lt]
  have h1 := ofBe_lt l
  rw [← pow8] at h1
  rw [pow64, show 6 * encN l.length = 8 * l.length + (6 * encN l.length - 8 * l.length) by unfold encN; omega, Nat.pow_add, show 8 * l.length + (6 * encN l.length - 8 * l.length) - 8 * l.length = 6 * encN l.length - 8 * l.length by omega]
  exact Nat.mul_lt_mul_of_pos_right h1 (Nat.pow_pos (by decide))
theorem encL_ok (l : List UInt8) : okB (encL l) (encL l).length := by rw [encL_sx]; exact sx_ok _ _
theorem restB_encL (l : List UInt8) : restB (encL l) = 0 := by
  rw [restB, ofSx_encL, encL_length, show 6 * encN l.length % 8 = 6 * encN l.length - 8 * l.length by unfold encN; omega, Nat.mul_mod_left]
theorem decL_encL (l : List UInt8) : decL (encL l) = l := by
  rw [decL, ofSx_encL, encL_length]
  have e : decN (encN l.length) = l.length := by unfold decN encN; omega
  rw [e, Nat.mul_div_cancel _ (Nat.pow_pos (by decide)), be_ofBe]
theorem dec_enc (l : List UInt8) : decE (encL l) = 0 ∧ decP (encL l) = 0 ∧ decS (encL l) = l := by
  have h1 := badB_none _ (encL_ok l)
  have h2 : ¬ (encL l).length % 4 = 1 := by rw [encL_length]; unfold encN; omega
  have h3 := restB_encL l
  refine ⟨?_, ?_, ?_⟩
  · simp only [decE, h1, if_neg h2, if_pos h3]
  · simp only [decP, h1, if_neg h2, if_pos h3]
  · simp only [decS, h1, if_neg h2, if_pos h3, decL_encL]
theorem badB_ok (l : List UInt8) (h : badB l = none) : okB l l.length := by
  intro i hi c hc
  rw [badB, List.findIdx?_eq_none_iff] at h
  have h2 := h c (List.mem_of_getElem? hc)
  simpa using h2
theorem enc_dec (l : List UInt8) (h : decE l = 0) : encL (decS l) = l := by
  unfold decE at h
  split at h
  · omega
  · rename_i hb
    split at h
    · omega
    · rename_i h4
      split at h
      · rename_i h0
        have ok := badB_ok l hb
        have hs : decS l = decL l := by simp only [decS, hb, if_neg h4, if_pos h0]
        have hlt := ofSx_lt l l.length ok (Nat.le_refl _)
        rw [List.take_length] at hlt
        have hl : (decL l).length = decN l.length := decL_length l
        have e1 := encN_decN l.length h4
        have e2 : 6 * l.length - 8 * decN l.length = 6 * l.length % 8 := by unfold decN; omega
        have hN : ofBe (decL l) = ofSx l / 2 ^ (6 * l.length % 8) := by
          rw [decL, ofBe_be, e2, Nat.mod_eq_of_lt]
          apply Nat.div_lt_of_lt_mul
          rw [← pow8, ← Nat.pow_add, show 6 * l.length % 8 + 8 * decN l.length = 6 * l.length by unfold decN; omega, ← pow64]
          exact hlt
        rw [hs, encL_sx, hl, e1, hN, e2]
        unfold restB at h0
        have hd := Nat.div_add_mod (ofSx l) (2 ^ (6 * l.length % 8))
        rw [h0, Nat.add_zero, Nat.mul_comm] at hd
        rw [hd]
        exact sx_ofSx l ok
      · omega
theorem dec_inj (s t : List UInt8) (hs : decE s = 0) (ht : decE t = 0) (h : decS s = decS t) : s = t := by
  rw [← enc_dec s hs, ← enc_dec t ht, h]
end Go.Proofs.Ytkjenmkgamnchaa
