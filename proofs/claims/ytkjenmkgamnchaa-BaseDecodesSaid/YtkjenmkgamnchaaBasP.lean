/- Plain words for bytes by sixty-four signs. -/
import Derived.Test.YtkjenmkgamnchaaOctP
namespace Go.Proofs.Ytkjenmkgamnchaa
open Go.RowKit
set_option linter.unusedVariables false
set_option linter.unusedSimpArgs false
/-! ### signs -/
def sgB (n : Nat) : UInt8 := UInt8.ofNat (if n < 26 then 65 + n else if n < 52 then 71 + n else if n < 62 then n - 4 else if n = 62 then 45 else 95)
def vaB (c : UInt8) : Nat :=
  if 65 ≤ c.toNat ∧ c.toNat ≤ 90 then c.toNat - 65 else if 97 ≤ c.toNat ∧ c.toNat ≤ 122 then c.toNat - 71 else if 48 ≤ c.toNat ∧ c.toNat ≤ 57 then c.toNat + 4 else if c.toNat = 45 then 62 else if c.toNat = 95 then 63 else 64
theorem vaB_le (c : UInt8) : vaB c ≤ 64 := by
  unfold vaB
  split
  · omega
  · split
    · omega
    · split
      · omega
      · split
        · omega
        · split <;> omega
theorem vaB_sgB (n : Nat) (h : n < 64) : vaB (sgB n) = n := by
  have : ∀ n : Fin 64, vaB (sgB n.val) = n.val := by decide
  exact this ⟨n, h⟩
theorem sgB_vaB (c : UInt8) (h : vaB c < 64) : sgB (vaB c) = c := by
  have : ∀ n : Fin 256, vaB (UInt8.ofNat n.val) < 64 → sgB (vaB (UInt8.ofNat n.val)) = UInt8.ofNat n.val := by decide +kernel
  have h2 := this ⟨c.toNat, c.toNat_lt⟩
  simp only [UInt8.ofNat_toNat] at h2
  exact h2 h
/-! ### numbers by their highest bits -/
theorem ofBe_top (l : List UInt8) (k : Nat) (hk : k ≤ l.length) : ofBe (l.take k) = ofBe l / 256 ^ (l.length - k) := by
  suffices h : ∀ d, d ≤ l.length → ofBe (l.take (l.length - d)) = ofBe l / 256 ^ d by
    have := h (l.length - k) (by omega)
    rwa [show l.length - (l.length - k) = k by omega] at this
  intro d
  induction d with
  | zero => intro _; simp
  | succ d ih =>
    intro hd
    have h1 := ih (by omega)
    have hl : l[l.length - (d + 1)]? = some l[l.length - (d + 1)] := List.getElem?_eq_getElem (by omega)
    have h2 := ofBe_take l (l.length - (d + 1)) _ hl
    rw [show l.length - (d + 1) + 1 = l.length - d by omega, h1] at h2
    have hb := (l[l.length - (d + 1)]).toNat_lt
    rw [← div_step, h2]
    omega
/-- the j-th six bits of a number of L bytes, noughts behind -/
def sext (N L j : Nat) : Nat := if 6 * (j + 1) ≤ 8 * L then N / 2 ^ (8 * L - 6 * (j + 1)) % 64 else N * 2 ^ (6 * (j + 1) - 8 * L) % 64
theorem sext_lt (N L j : Nat) : sext N L j < 64 := by unfold sext; split <;> omega
def encN (L : Nat) : Nat := (8 * L + 5) / 6
def encL (l : List UInt8) : List UInt8 := (List.range (encN l.length)).map fun j => sgB (sext (ofBe l) l.length j)
theorem encL_length (l : List UInt8) : (encL l).length = encN l.length := by simp [encL]
theorem encL_take (l : List UInt8) (j : Nat) (h : j < encN l.length) : (encL l).take (j + 1) = (encL l).take j ++ [sgB (sext (ofBe l) l.length j)] := by
  rw [List.take_add_one]
  simp [encL, h]
/-- six bits that k bytes hold already -/
theorem sext_take (l : List UInt8) (k j : Nat) (hk : k ≤ l.length) (h : 6 * (j + 1) ≤ 8 * k) : sext (ofBe l) l.length j = ofBe (l.take k) / 2 ^ (8 * k - 6 * (j + 1)) % 64 := by
  rw [sext, if_pos (by omega), ofBe_top l k hk, ← pow8, Nat.div_div_eq_div_mul, ← Nat.pow_add, show 8 * (l.length - k) + (8 * k - 6 * (j + 1)) = 8 * l.length - 6 * (j + 1) by omega]
/-- of a number that was cut to 32 bits -/
theorem cut32 (N e : Nat) (h : e ≤ 26) : N % 4294967296 / 2 ^ e % 64 = N / 2 ^ e % 64 := by
  have h1 : (4294967296 : Nat) = 2 ^ e * 2 ^ (32 - e) := by rw [← Nat.pow_add, show e + (32 - e) = 32 by omega]
  have h2 : (2 : Nat) ^ (32 - e) = 64 * 2 ^ (26 - e) := by rw [show 32 - e = 6 + (26 - e) by omega, Nat.pow_add]
  rw [h1, Nat.mod_mul_right_div_self, h2, Nat.mod_mul_right_mod]
theorem cut32b (N e : Nat) (h : e ≤ 24) : N % 4294967296 / 2 ^ e % 256 = N / 2 ^ e % 256 := by
  have h1 : (4294967296 : Nat) = 2 ^ e * 2 ^ (32 - e) := by rw [← Nat.pow_add, show e + (32 - e) = 32 by omega]
  have h2 : (2 : Nat) ^ (32 - e) = 256 * 2 ^ (24 - e) := by rw [show 32 - e = 8 + (24 - e) by omega, Nat.pow_add]
  rw [h1, Nat.mod_mul_right_div_self, h2, Nat.mod_mul_right_mod]
theorem or32 (N : Nat) (b : UInt8) (x : Nat) (hx : x = N % 4294967296) : bits .or .u32 ((x : Int) * 256 % 4294967296) (b.toNat : Int) = (((N * 256 + b.toNat) % 4294967296 : Nat) : Int) := by
  have hb := b.toNat_lt
  have e1 : (x : Int) * 256 % 4294967296 = ((x * 256 % 4294967296 : Nat) : Int) := by omega
  have h1 := u32_or_nat (x * 256 % 4294967296) b.toNat (by omega) (by omega)
  rw [e1, h1, nat_join 8 (x * 256 % 4294967296) b.toNat (by omega) (by omega)]
  omega
theorem or32s (N v : Nat) (hv : v < 64) (x : Nat) (hx : x = N % 4294967296) : bits .or .u32 ((x : Int) * 64 % 4294967296) (v : Int) = (((N * 64 + v) % 4294967296 : Nat) : Int) := by
  have e1 : (x : Int) * 64 % 4294967296 = ((x * 64 % 4294967296 : Nat) : Int) := by omega
  have h1 := u32_or_nat (x * 64 % 4294967296) v (by omega) (by omega)
  rw [e1, h1, nat_join 6 (x * 64 % 4294967296) v (by omega) (by omega)]
  omega
theorem and63 (y d : Nat) (hy : y < 4294967296) : bits .and .u32 ((y : Int) / 2 ^ d) 63 = ((y / 2 ^ d % 64 : Nat) : Int) := by
  have h2 : y / 2 ^ d ≤ y := Nat.div_le_self _ _
  have h1 := u32_and_nat (y / 2 ^ d) 63 (by omega) (by omega)
  rw [nat_mask6] at h1
  rw [← h1, Int.natCast_ediv, Int.natCast_pow]
  rfl
theorem and63b (N x d : Nat) (hx : x = N % 4294967296) : bits .and .u32 ((x : Int) * 2 ^ d % 4294967296) 63 = ((N * 2 ^ d % 64 : Nat) : Int) := by
  have e1 : (x : Int) * 2 ^ d % 4294967296 = ((x * 2 ^ d % 4294967296 : Nat) : Int) := by
    rw [Int.natCast_emod, Int.natCast_mul, Int.natCast_pow]
    rfl
  have h1 := u32_and_nat (x * 2 ^ d % 4294967296) 63 (by omega) (by omega)
  rw [nat_mask6] at h1
  rw [e1]
  refine h1.trans ?_
  congr 1
  rw [hx, Nat.mod_mod_of_dvd _ (by decide : 64 ∣ 4294967296), Nat.mul_mod, Nat.mod_mod_of_dvd _ (by decide : 64 ∣ 4294967296), ← Nat.mul_mod]
/-! ### the number of signs -/
def ofSx (l : List UInt8) : Nat := l.foldl (fun n c => n * 64 + vaB c) 0
theorem ofSx_snoc (l : List UInt8) (c : UInt8) : ofSx (l ++ [c]) = ofSx l * 64 + vaB c := by simp [ofSx]
theorem ofSx_take (l : List UInt8) (k : Nat) (c : UInt8) (h : l[k]? = some c) : ofSx (l.take (k + 1)) = ofSx (l.take k) * 64 + vaB c := by
  rw [List.take_add_one, h]
  exact ofSx_snoc _ _
def okB (l : List UInt8) (k : Nat) : Prop := ∀ i, i < k → ∀ c, l[i]? = some c → vaB c < 64
theorem okB_zero (l : List UInt8) : okB l 0 := fun i hi => absurd hi (by omega)
theorem okB_succ (l : List UInt8) (k : Nat) (c : UInt8) (h : okB l k) (hc : l[k]? = some c) (h16 : vaB c < 64) : okB l (k + 1) := by
  intro i hi d hd
  by_cases e : i = k
  · subst e
    rw [hc] at hd
    cases hd
    exact h16
  · exact h i (by omega) d hd
theorem ofSx_lt (l : List UInt8) (k : Nat) (h : okB l k) (hk : k ≤ l.length) : ofSx (l.take k) < 64 ^ k := by
  induction k with
  | zero => simp [ofSx]
  | succ k ih =>
    have hl : l[k]? = some l[k] := List.getElem?_eq_getElem (by omega)
    have h1 := ih (fun i hi => h i (by omega)) (by omega)
    have h2 := h k (by omega) _ hl
    rw [ofSx_take l k _ hl, Nat.pow_succ]
    have : (ofSx (l.take k) + 1) * 64 ≤ 64 ^ k * 64 := Nat.mul_le_mul_right _ h1
    omega
theorem pow64 (n : Nat) : 64 ^ n = 2 ^ (6 * n) := by rw [Nat.pow_mul]
theorem ofSx_top (l : List UInt8) (k : Nat) (h : okB l l.length) (hk : k ≤ l.length) : ofSx (l.take k) = ofSx l / 64 ^ (l.length - k) := by
  suffices hh : ∀ d, d ≤ l.length → ofSx (l.take (l.length - d)) = ofSx l / 64 ^ d by
    have := hh (l.length - k) (by omega)
    rwa [show l.length - (l.length - k) = k by omega] at this
  intro d
  induction d with
  | zero => intro _; simp
  | succ d ih =>
    intro hd
    have h1 := ih (by omega)
    have hl : l[l.length - (d + 1)]? = some l[l.length - (d + 1)] := List.getElem?_eq_getElem (by omega)
    have h2 := ofSx_take l (l.length - (d + 1)) _ hl
    rw [show l.length - (d + 1) + 1 = l.length - d by omega, h1] at h2
    have hb := h (l.length - (d + 1)) (by omega) _ hl
    have h3 : ofSx l / 64 ^ (d + 1) = ofSx l / 64 ^ d / 64 := by rw [Nat.div_div_eq_div_mul, Nat.pow_succ]
    rw [h3, h2]
    omega
/-- the bytes of signs -/
def decN (m : Nat) : Nat := 6 * m / 8
def decL (l : List UInt8) : List UInt8 := be (decN l.length) (ofSx l / 2 ^ (6 * l.length - 8 * decN l.length))
theorem decL_length (l : List UInt8) : (decL l).length = decN l.length := be_length _ _
theorem decL_take (l : List UInt8) (k j : Nat) (hok : okB l l.length) (hk : k ≤ l.length) (h : 8 * (j + 1) ≤ 6 * k) : (decL l).take (j + 1) = (decL l).take j ++ [UInt8.ofNat (ofSx (l.take k) / 2 ^ (6 * k - 8 * (j + 1)))] := by
  have hj : j < decN l.length := by unfold decN; omega
  rw [decL, be_take _ _ _ hj]
  congr 2
  rw [ofSx_top l k hok hk, pow64, ← pow8, Nat.div_div_eq_div_mul, ← Nat.pow_add, Nat.div_div_eq_div_mul, ← Nat.pow_add]
  unfold decN at *
  rw [show 6 * l.length - 8 * (6 * l.length / 8) + 8 * (6 * l.length / 8 - 1 - j) = 6 * (l.length - k) + (6 * k - 8 * (j + 1)) by omega]
theorem decL_get (l : List UInt8) (i : Nat) (h : i < decN l.length) : (decL l)[i]? = some (UInt8.ofNat (ofSx l / 2 ^ (6 * l.length - 8 * (i + 1)))) := by
  unfold decL
  simp only [be, List.getElem?_map]
  rw [List.getElem?_range h]
  simp only [Option.map_some, putF]
  rw [← pow8, Nat.div_div_eq_div_mul, ← Nat.pow_add]
  unfold decN at *
  rw [show 6 * l.length - 8 * (6 * l.length / 8) + 8 * (6 * l.length / 8 - 1 - i) = 6 * l.length - 8 * (i + 1) by omega]
theorem okB_take (l : List UInt8) (k : Nat) (h : okB l k) : okB (l.take k) (l.take k).length := by
  intro i hi c hc
  rw [List.length_take] at hi
  rw [List.getElem?_take] at hc
  split at hc
  · exact h i (by omega) c hc
  · cases hc
theorem decL_pre (l : List UInt8) (k : Nat) (ok : okB l l.length) (hk : k ≤ l.length) : decL (l.take k) = (decL l).take (decN k) := by
  have hl : (l.take k).length = k := by rw [List.length_take]; omega
  apply List.ext_getElem?
  intro i
  rw [List.getElem?_take]
  by_cases hi : i < decN k
  · have h2 : i < decN l.length := by unfold decN at *; omega
    rw [if_pos hi, decL_get _ _ h2, decL_get _ _ (by rw [hl]; exact hi), hl, ofSx_top l k ok hk, pow64, Nat.div_div_eq_div_mul, ← Nat.pow_add]
    unfold decN at *
    rw [show 6 * (l.length - k) + (6 * k - 8 * (i + 1)) = 6 * l.length - 8 * (i + 1) by omega]
  · rw [if_neg hi, List.getElem?_eq_none (by rw [decL_length, hl]; omega)]
theorem decL_snoc (l : List UInt8) (k : Nat) (c : UInt8) (hc : l[k]? = some c) (ok : okB l (k + 1)) (h : 8 ≤ 6 * k % 8 + 6) :
    decL (l.take (k + 1)) = decL (l.take k) ++ [UInt8.ofNat (ofSx (l.take (k + 1)) / 2 ^ (6 * k % 8 + 6 - 8))] := by
  have hk : k < l.length := by rw [List.getElem?_eq_some_iff] at hc; exact hc.1
  have hl : (l.take (k + 1)).length = k + 1 := by rw [List.length_take]; omega
  have h1 := decL_pre (l.take (k + 1)) k (okB_take l (k + 1) ok) (by rw [hl]; omega)
  rw [List.take_take, Nat.min_eq_left (by omega)] at h1
  have h2 := decL_take (l.take (k + 1)) (k + 1) (decN k) (okB_take l (k + 1) ok) (by rw [hl]; exact Nat.le_refl _) (by unfold decN; omega)
  rw [List.take_take, Nat.min_self, ← h1, List.take_of_length_le (by rw [decL_length, hl]; unfold decN; omega)] at h2
  rw [h2]
  unfold decN
  rw [show 6 * (k + 1) - 8 * (6 * k / 8 + 1) = 6 * k % 8 + 6 - 8 by omega]
theorem decL_stay (l : List UInt8) (k : Nat) (c : UInt8) (hc : l[k]? = some c) (ok : okB l (k + 1)) (h : ¬ 8 ≤ 6 * k % 8 + 6) : decL (l.take (k + 1)) = decL (l.take k) := by
  have hk : k < l.length := by rw [List.getElem?_eq_some_iff] at hc; exact hc.1
  have hl : (l.take (k + 1)).length = k + 1 := by rw [List.length_take]; omega
  have h1 := decL_pre (l.take (k + 1)) k (okB_take l (k + 1) ok) (by rw [hl]; omega)
  rw [List.take_take, Nat.min_eq_left (by omega)] at h1
  rw [h1]
  exact (List.take_of_length_le (by rw [decL_length, hl]; unfold decN; omega)).symm
theorem and_rest (N x r : Nat) (hx : x = N % 4294967296) (hr : r ≤ 4) : bits .and .u32 (x : Int) ((2 ^ r - 1) % 4294967296) = ((N % 2 ^ r : Nat) : Int) := by
  have hx2 : x < 4294967296 := by omega
  rcases r with _ | _ | _ | _ | _ | r
  · have h1 := u32_and_nat x 0 hx2 (by omega)
    simpa using h1
  · have h1 := u32_and_nat x 1 hx2 (by omega)
    rw [nat_mask1] at h1
    refine h1.trans ?_
    congr 1
    simp only [Nat.zero_add, Nat.pow_one]
    omega
  · have h1 := u32_and_nat x 3 hx2 (by omega)
    rw [nat_mask2] at h1
    refine h1.trans ?_
    congr 1
    show x % 4 = N % 4
    omega
  · have h1 := u32_and_nat x 7 hx2 (by omega)
    rw [nat_mask3] at h1
    refine h1.trans ?_
    congr 1
    show x % 8 = N % 8
    omega
  · have h1 := u32_and_nat x 15 hx2 (by omega)
    rw [nat_mask4] at h1
    refine h1.trans ?_
    congr 1
    show x % 16 = N % 16
    omega
  · omega
/-! ### what Decode answers -/
def badB (l : List UInt8) : Option Nat := l.findIdx? fun c => decide (¬ vaB c < 64)
theorem badB_found (l : List UInt8) (k : Nat) (c : UInt8) (h : okB l k) (hc : l[k]? = some c) (h16 : ¬ vaB c < 64) : badB l = some k := by
  have hk : k < l.length := by rw [List.getElem?_eq_some_iff] at hc; exact hc.1
  rw [badB, List.findIdx?_eq_some_iff_getElem]
  refine ⟨hk, ?_, ?_⟩
  · rw [List.getElem?_eq_getElem hk] at hc
    cases hc
    simpa using h16
  · intro j hj
    have := h j hj l[j] (List.getElem?_eq_getElem (by omega))
    simpa using this
theorem badB_none (l : List UInt8) (h : okB l l.length) : badB l = none := by
  rw [badB, List.findIdx?_eq_none_iff]
  intro c hc
  obtain ⟨i, hi, rfl⟩ := List.mem_iff_getElem.1 hc
  have := h i hi l[i] (List.getElem?_eq_getElem hi)
  simpa using this
def restB (l : List UInt8) : Nat := ofSx l % 2 ^ (6 * l.length % 8)
def decE (l : List UInt8) : Int := match badB l with
  | some _ => 9
  | none => if l.length % 4 = 1 then 9 else if restB l = 0 then 0 else 9
def decP (l : List UInt8) : Nat := match badB l with
  | some i => i
  | none => if l.length % 4 = 1 then l.length else if restB l = 0 then 0 else l.length - 1
def decS (l : List UInt8) : List UInt8 := match badB l with
  | some _ => []
  | none => if l.length % 4 = 1 then [] else if restB l = 0 then decL l else []
/-! ### bits of a number of L bytes -/
def Tn (N L m : Nat) : Nat := if m ≤ 8 * L then N / 2 ^ (8 * L - m) else N * 2 ^ (m - 8 * L)
theorem Tn_half (N L m : Nat) : Tn N L (m + 1) / 2 = Tn N L m := by
  unfold Tn
  split
  · rw [if_pos (by omega), Nat.div_div_eq_div_mul, ← Nat.pow_succ, show (8 * L - (m + 1)).succ = 8 * L - m by omega]
  · split
    · rw [show m + 1 - 8 * L = 1 by omega, show 8 * L - m = 0 by omega]
      omega
    · rw [show m + 1 - 8 * L = (m - 8 * L) + 1 by omega, Nat.pow_succ, ← Nat.mul_assoc, Nat.mul_div_cancel _ (by decide)]
theorem Tn_sext (N L j : Nat) : Tn N L (6 * (j + 1)) % 64 = sext N L j := by
  unfold Tn sext
  split <;> rfl
theorem Tn_zero (N L m : Nat) (h : 8 * L ≤ m) : Tn N L (m + 1) % 2 = 0 := by
  unfold Tn
  rw [if_neg (by omega), show m + 1 - 8 * L = (m - 8 * L) + 1 by omega, Nat.pow_succ, ← Nat.mul_assoc, Nat.mul_mod_left]
theorem Tn_byte (l : List UInt8) (i j : Nat) (b : UInt8) (hb : l[i]? = some b) (hj : j < 8) : Tn (ofBe l) l.length (8 * i + j + 1) % 2 = b.toNat / 2 ^ (7 - j) % 2 := by
  have hi : i < l.length := by rw [List.getElem?_eq_some_iff] at hb; exact hb.1
  have h1 := ofBe_top l (i + 1) (by omega)
  rw [ofBe_take l i b hb] at h1
  unfold Tn
  rw [if_pos (by omega), show 8 * l.length - (8 * i + j + 1) = 8 * (l.length - (i + 1)) + (7 - j) by omega, Nat.pow_add, ← Nat.div_div_eq_div_mul, pow8, ← h1]
  have h2 : (2 : Nat) ^ 8 = 2 ^ (7 - j) * (2 * 2 ^ j) := by rw [← Nat.pow_succ', ← Nat.pow_add, show 7 - j + j.succ = 8 by omega]
  rw [show ofBe (l.take i) * 256 = 2 ^ (7 - j) * (ofBe (l.take i) * (2 * 2 ^ j)) by rw [Nat.mul_left_comm, ← h2], Nat.mul_add_div (Nat.pow_pos (by decide)), Nat.mul_left_comm, Nat.mul_add_mod]
theorem Tn_step (N L m k : Nat) : 2 * (Tn N L m % 2 ^ k) + Tn N L (m + 1) % 2 = Tn N L (m + 1) % 2 ^ (k + 1) := by
  rw [← Tn_half N L m, Nat.pow_succ, Nat.mul_comm (2 ^ k) 2, Nat.mod_mul]
  omega
/-! ### bits of signs -/
def Vp (l : List UInt8) (t : Nat) : Nat := ofSx (l.take ((t + 5) / 6)) / 2 ^ (6 * ((t + 5) / 6) - t)
theorem Vp_bit (l : List UInt8) (i j : Nat) (c : UInt8) (hc : l[i]? = some c) (hj : j < 6) : Vp l (6 * i + j + 1) % 2 = vaB c / 2 ^ (5 - j) % 2 := by
  unfold Vp
  rw [show (6 * i + j + 1 + 5) / 6 = i + 1 by omega, ofSx_take l i c hc, show 6 * (i + 1) - (6 * i + j + 1) = 5 - j by omega]
  have h2 : (64 : Nat) = 2 ^ (5 - j) * (2 * 2 ^ j) := by rw [← Nat.pow_succ', ← Nat.pow_add, show 5 - j + j.succ = 6 by omega]
  rw [show ofSx (l.take i) * 64 = 2 ^ (5 - j) * (ofSx (l.take i) * (2 * 2 ^ j)) by rw [Nat.mul_left_comm, ← h2], Nat.mul_add_div (Nat.pow_pos (by decide)), Nat.mul_left_comm, Nat.mul_add_mod]
def Vf (l : List UInt8) (t : Nat) : Nat := ofSx l / 2 ^ (6 * l.length - t)
theorem Vp_Vf (l : List UInt8) (t : Nat) (ok : okB l l.length) (h : t ≤ 6 * l.length) : Vp l t = Vf l t := by
  unfold Vp Vf
  rw [ofSx_top l _ ok (by omega), pow64, Nat.div_div_eq_div_mul, ← Nat.pow_add, show 6 * (l.length - (t + 5) / 6) + (6 * ((t + 5) / 6) - t) = 6 * l.length - t by omega]
theorem Vf_half (l : List UInt8) (t : Nat) (h : t < 6 * l.length) : Vf l (t + 1) / 2 = Vf l t := by
  unfold Vf
  rw [Nat.div_div_eq_div_mul, ← Nat.pow_succ, show (6 * l.length - (t + 1)).succ = 6 * l.length - t by omega]
theorem Vf_step (l : List UInt8) (t k : Nat) (h : t < 6 * l.length) : 2 * (Vf l t % 2 ^ k) + Vf l (t + 1) % 2 = Vf l (t + 1) % 2 ^ (k + 1) := by
  rw [← Vf_half l t h, Nat.pow_succ, Nat.mul_comm (2 ^ k) 2, Nat.mod_mul]
  omega
theorem Vf_all (l : List UInt8) : Vf l (6 * l.length) = ofSx l := by simp [Vf]
theorem rest_bit (l : List UInt8) (t : Nat) (h1 : 8 * (6 * l.length / 8) ≤ t) (h : t < 6 * l.length) (hb : Vf l (t + 1) % 2 = 1) : ¬ restB l = 0 := by
  intro h0
  unfold restB at h0
  unfold Vf at hb
  have hd := Nat.div_add_mod (ofSx l) (2 ^ (6 * l.length % 8))
  rw [h0, Nat.add_zero] at hd
  rw [← hd] at hb
  rw [show 6 * l.length % 8 = (6 * l.length - (t + 1)) + ((6 * l.length % 8 - (6 * l.length - (t + 1)) - 1) + 1) by omega, Nat.pow_add, Nat.pow_succ, Nat.mul_assoc, Nat.mul_div_cancel_left _ (Nat.pow_pos (by decide)), Nat.mul_right_comm, Nat.mul_mod_left] at hb
  omega
end Go.Proofs.Ytkjenmkgamnchaa
