/- Plain words for Unhex. -/
import Derived.Test.YtfjdbjlkeoifbaaOctQ
namespace Go.Proofs.Ytfjdbjlkeoifbaa
open Go.RowKit
set_option linter.unusedVariables false
set_option linter.unusedSimpArgs false
def halfU (c : UInt8) : UInt8 := UInt8.ofNat (half c % 16)
theorem halfU_nat (c : UInt8) : (halfU c).toNat = half c % 16 := by rw [halfU, UInt8.toNat_ofNat']; omega
theorem halfU_le (c : UInt8) : (halfU c).toNat ≤ 15 := by rw [halfU_nat]; omega
/-- all of the first k places are signs -/
def okTo (l : List UInt8) (k : Nat) : Prop := ∀ i, i < k → ∀ c, l[i]? = some c → half c < 16
theorem okTo_zero (l : List UInt8) : okTo l 0 := fun i hi => absurd hi (by omega)
theorem okTo_succ (l : List UInt8) (k : Nat) (c : UInt8) (h : okTo l k) (hc : l[k]? = some c) (h16 : half c < 16) : okTo l (k + 1) := by
  intro i hi d hd
  by_cases e : i = k
  · subst e
    rw [hc] at hd
    cases hd
    exact h16
  · exact h i (by omega) d hd
theorem bad_found (l : List UInt8) (k : Nat) (c : UInt8) (h : okTo l k) (hc : l[k]? = some c) (h16 : ¬ half c < 16) : badAt l = some k := by
  have hk : k < l.length := by rw [List.getElem?_eq_some_iff] at hc; exact hc.1
  rw [badAt, List.findIdx?_eq_some_iff_getElem]
  refine ⟨hk, ?_, ?_⟩
  · rw [List.getElem?_eq_getElem hk] at hc
    cases hc
    simp
    omega
  · intro j hj
    have := h j hj l[j] (List.getElem?_eq_getElem (by omega))
    simp
    omega
theorem bad_none (l : List UInt8) (h : okTo l l.length) : badAt l = none := by
  rw [badAt, List.findIdx?_eq_none_iff]
  intro c hc
  obtain ⟨i, hi, rfl⟩ := List.mem_iff_getElem.1 hc
  have := h i hi l[i] (List.getElem?_eq_getElem hi)
  simp
  omega
/-- what stands in the row behind k signs -/
def uf (l : List UInt8) (k j : Nat) : UInt8 :=
  if 2 * j + 1 < k then UInt8.ofNat (16 * half (at0 l (2 * j)) + half (at0 l (2 * j + 1))) else if 2 * j < k then UInt8.ofNat (half (at0 l (2 * j))) else 0
def ufL (l : List UInt8) (n k : Nat) : List UInt8 := (List.range n).map (uf l k)
theorem ufL_length (l : List UInt8) (n k : Nat) : (ufL l n k).length = n := by simp [ufL]
theorem ufL_zero (l : List UInt8) (n : Nat) : ufL l n 0 = List.replicate n 0 := by
  apply List.ext_getElem
  · simp [ufL]
  · intro i h1 h2
    simp [ufL, uf]
theorem ufL_get (l : List UInt8) (n k j : Nat) (h : j < n) : (ufL l n k)[j]? = some (uf l k j) := by simp [ufL, h]
theorem ufL_set (l : List UInt8) (n k : Nat) (h : k / 2 < n) : (ufL l n k).set (k / 2) (uf l (k + 1) (k / 2)) = ufL l n (k + 1) := by
  apply List.ext_getElem
  · simp [ufL]
  · intro i h1 h2
    rw [List.getElem_set]
    by_cases e : k / 2 = i
    · subst e
      simp [ufL]
    · rw [if_neg e]
      simp only [ufL, List.getElem_map, List.getElem_range, uf]
      by_cases h3 : 2 * i + 1 < k
      · rw [if_pos h3, if_pos (by omega)]
      · rw [if_neg h3, if_neg (by omega), if_neg (by omega), if_neg (by omega)]
theorem ufL_same (l : List UInt8) (n k : Nat) (h : ¬ k / 2 < n) : ufL l n k = ufL l n (k + 1) := by
  apply List.ext_getElem
  · simp [ufL]
  · intro i h1 h2
    have hi : i < n := by simpa [ufL] using h1
    simp only [ufL, List.getElem_map, List.getElem_range, uf]
    rw [if_pos (by omega), if_pos (by omega)]
/-- one step: the half that stood there, and the new one -/
theorem uf_step (l : List UInt8) (k : Nat) (c : UInt8) (hc : l[k]? = some c) (h16 : half c < 16) (hok : okTo l k) :
    (uf l k (k / 2)).toNat ≤ 15 ∧ (uf l k (k / 2)).toNat * 16 + (halfU c).toNat = (uf l (k + 1) (k / 2)).toNat := by
  have hk : k < l.length := by rw [List.getElem?_eq_some_iff] at hc; exact hc.1
  have h0 := at0_of hc
  have hh : half c % 16 = half c := Nat.mod_eq_of_lt h16
  rcases Nat.mod_two_eq_zero_or_one k with e | e
  · have e1 : 2 * (k / 2) = k := by omega
    unfold uf
    rw [if_neg (by omega), if_neg (by omega), if_neg (by omega), if_pos (by omega), e1, h0, halfU_nat, UInt8.toNat_ofNat']
    refine ⟨by decide, ?_⟩
    rw [show (0 : UInt8).toNat = 0 from rfl]
    omega
  · have e1 : 2 * (k / 2) + 1 = k := by omega
    have hl : l[2 * (k / 2)]? = some l[2 * (k / 2)] := List.getElem?_eq_getElem (by omega)
    have h1 := at0_of hl
    have h2 := hok (2 * (k / 2)) (by omega) _ hl
    unfold uf
    rw [if_neg (by omega), if_pos (by omega), if_pos (by omega), e1, h0, h1, halfU_nat, UInt8.toNat_ofNat', UInt8.toNat_ofNat']
    omega
theorem pairs_length : ∀ l : List UInt8, (pairs l).length = l.length / 2
  | [] => rfl
  | [_] => by simp [pairs]
  | _ :: _ :: l => by
    rw [pairs, List.length_cons, pairs_length l]
    simp only [List.length_cons]
    omega
theorem pairs_get : ∀ (l : List UInt8) (j : Nat), j < l.length / 2 → (pairs l)[j]? = some (UInt8.ofNat (16 * half (at0 l (2 * j)) + half (at0 l (2 * j + 1))))
  | [], j, h => by simp at h
  | [_], j, h => by simp at h
  | a :: b :: l, 0, h => by simp [pairs, at0]
  | a :: b :: l, j + 1, h => by
    have := pairs_get l j (by simp at h; omega)
    rw [pairs, List.getElem?_cons_succ, this]
    rw [show 2 * (j + 1) = 2 * j + 1 + 1 by omega]
    simp [at0]
theorem ufL_done (l : List UInt8) : ufL l (l.length / 2) l.length = pairs l := by
  apply List.ext_getElem?
  intro j
  by_cases h : j < l.length / 2
  · rw [ufL_get _ _ _ _ h, pairs_get l j h, uf, if_pos (by omega)]
  · rw [List.getElem?_eq_none (by rw [ufL_length]; omega), List.getElem?_eq_none (by rw [pairs_length]; omega)]
theorem pairs_take (l : List UInt8) (j : Nat) (a b : UInt8) (ha : l[2 * j]? = some a) (hb : l[2 * j + 1]? = some b) : (pairs l).take (j + 1) = (pairs l).take j ++ [UInt8.ofNat (16 * half a + half b)] := by
  have h1 : 2 * j + 1 < l.length := by rw [List.getElem?_eq_some_iff] at hb; exact hb.1
  rw [List.take_add_one, pairs_get l j (by omega), at0_of ha, at0_of hb]
  rfl
theorem or16 (x y : UInt8) (hx : x.toNat ≤ 15) (hy : y.toNat ≤ 15) : bits .or .u8 ((x.toNat : Int) * 16) (y.toNat : Int) = ((x.toNat * 16 + y.toNat : Nat) : Int) := by
  have := u8_or_nat (x.toNat * 16) y.toNat (by omega) (by omega)
  rw [show ((x.toNat : Int) * 16) = ((x.toNat * 16 : Nat) : Int) by omega, this, nat_join 4 (x.toNat * 16) y.toNat (by omega) (by omega)]
/-! ### Unhex of Hex -/
theorem hexL_ok (l : List UInt8) : badAt (hexL l) = none := by
  rw [badAt, List.findIdx?_eq_none_iff]
  intro c hc
  simp only [hexL, List.mem_flatMap] at hc
  obtain ⟨b, _, hb⟩ := hc
  have h1 := b.toNat_lt
  simp only [List.mem_cons, List.not_mem_nil, or_false] at hb
  rcases hb with rfl | rfl
  · rw [half_sgn _ (by omega)]; simp; omega
  · rw [half_sgn _ (by omega)]; simp; omega
theorem pairs_hexL : ∀ l : List UInt8, pairs (hexL l) = l
  | [] => rfl
  | b :: l => by
    have h1 := b.toNat_lt
    rw [show hexL (b :: l) = sgn (b.toNat / 16) :: sgn (b.toNat % 16) :: hexL l from rfl, pairs, pairs_hexL l, half_sgn _ (by omega), half_sgn _ (by omega)]
    congr 1
    apply UInt8.toNat_inj.1
    rw [UInt8.toNat_ofNat']
    omega
theorem unhex_hex (l : List UInt8) : unhexE (hexL l) = 0 ∧ unhexP (hexL l) = 0 ∧ unhexL (hexL l) = l := by
  have hl : ¬ (hexL l).length % 2 = 1 := by rw [hexL_length]; omega
  refine ⟨?_, ?_, ?_⟩
  · rw [unhexE, hexL_ok, if_neg hl]
  · rw [unhexP, hexL_ok, if_neg hl]
  · rw [unhexL, hexL_ok, if_neg hl, pairs_hexL]
end Go.Proofs.Ytfjdbjlkeoifbaa
