/- The field of 128 bits: the sum over blocks. -/
import Derived.Test.YtkedoiikkjeadaaDoorGhR
import Derived.Test.YtkedoiikkjeadaaDoorBase
namespace Go.Proofs.YtkedoiikkjeadaaDoor
open Go.RowKit
set_option linter.unusedVariables false
set_option linter.unusedSimpArgs false
theorem xor_byte (a b x y : Nat) (hx : x < 256) (hy : y < 256) : (a * 256 + x) ^^^ (b * 256 + y) = (a ^^^ b) * 256 + (x ^^^ y) := by
  have hxy : x ^^^ y < 2 ^ 8 := Nat.xor_lt_two_pow (by exact hx) (by exact hy)
  refine Nat.eq_of_testBit_eq fun j => ?_
  rw [Nat.testBit_xor, show (256 : Nat) = 2 ^ 8 from rfl, Nat.mul_comm a, Nat.mul_comm b, Nat.mul_comm (a ^^^ b), Nat.testBit_two_pow_mul_add _ (by exact hx), Nat.testBit_two_pow_mul_add _ (by exact hy), Nat.testBit_two_pow_mul_add _ hxy]
  by_cases h : j < 8
  · rw [if_pos h, if_pos h, if_pos h, Nat.testBit_xor]
  · rw [if_neg h, if_neg h, if_neg h, Nat.testBit_xor]
theorem ofBe_xor (A B : List UInt8) (h : A.length = B.length) : ofBe (xorL A B) = ofBe A ^^^ ofBe B := by
  suffices hk : ∀ k, k ≤ A.length → ofBe (xorL (A.take k) (B.take k)) = ofBe (A.take k) ^^^ ofBe (B.take k) by
    have := hk A.length (Nat.le_refl _)
    rwa [List.take_length, h, List.take_length] at this
  intro k
  induction k with
  | zero => intro _; rw [List.take_zero, List.take_zero]; rfl
  | succ k ih =>
    intro hk
    have hA := List.getElem?_eq_getElem (l := A) (show k < A.length by omega)
    have hB := List.getElem?_eq_getElem (l := B) (show k < B.length by omega)
    rw [xorL_take A B k _ _ hA hB, ofBe_snoc, ofBe_take A k _ hA, ofBe_take B k _ hB, ih (by omega), UInt8.toNat_xor, xor_byte _ _ _ _ (UInt8.toNat_lt _) (UInt8.toNat_lt _)]
theorem be_of16 (L : List UInt8) (h : L.length = 16) : be 16 (ofBe L) = L := by
  have := be_ofBe L
  rwa [h] at this
theorem xorL_be (u v : Nat) (hu : u < 2 ^ 128) (hv : v < 2 ^ 128) : xorL (be 16 u) (be 16 v) = be 16 (u ^^^ v) := by
  have h := ofBe_xor (be 16 u) (be 16 v) (by rw [be_length, be_length])
  rw [ofBe16 u hu, ofBe16 v hv] at h
  rw [← h, be_of16 _ (by rw [xorL_len, be_length, be_length]; rfl)]
def blk (T : List UInt8) (n : Nat) : List UInt8 := (T.drop (16 * n)).take 16
theorem blk_length (T : List UInt8) (n : Nat) (h : 16 * n + 16 ≤ T.length) : (blk T n).length = 16 := by
  rw [blk, List.length_take, List.length_drop]; omega
/-- the sum, from a start on, over so many blocks -/
def gsF (k s : Nat) (T : List UInt8) : Nat → Nat
  | 0 => s
  | n + 1 => Gh.mul (gsF k s T n ^^^ ofBe (blk T n)) k
theorem gsF_succ (k s : Nat) (T : List UInt8) (n : Nat) : gsF k s T (n + 1) = Gh.mul (gsF k s T n ^^^ ofBe (blk T n)) k := rfl
theorem gsF_lt (k s : Nat) (T : List UInt8) (hk : k < 2 ^ 128) (hs : s < 2 ^ 128) (n : Nat) : gsF k s T n < 2 ^ 128 := by
  cases n with
  | zero => exact hs
  | succ n => exact Gh.mul_lt _ _ hk
def gsE (K T : List UInt8) : Int := if K.length = 16 then (if T.length % 16 = 0 ∧ T.length ≤ 210000 then 0 else 6) else 3
def gsL (K T : List UInt8) : List UInt8 := be 16 (gsF (ofBe K) 0 T (T.length / 16))
def gsT (K T : List UInt8) : List UInt8 := if gsE K T = 0 then gsL K T else []
theorem gsL_length (K T : List UInt8) : (gsL K T).length = 16 := be_length _ _
theorem gs_ok (K T : List UInt8) (hK : K.length = 16) (hT : T.length % 16 = 0) (h : T.length ≤ 210000) : gsE K T = 0 ∧ gsT K T = gsL K T := by
  have : gsE K T = 0 := by rw [gsE, if_pos hK, if_pos ⟨hT, h⟩]
  exact ⟨this, by rw [gsT, if_pos this]⟩
theorem blk_app0 (A B : List UInt8) (n : Nat) (h : 16 * n + 16 ≤ A.length) : blk (A ++ B) n = blk A n := by
  rw [blk, blk, List.drop_append_of_le_length (by omega), List.take_append_of_le_length (by rw [List.length_drop]; omega)]
theorem blk_app1 (A B : List UInt8) (a n : Nat) (h : A.length = 16 * a) : blk (A ++ B) (a + n) = blk B n := by
  rw [blk, blk, show 16 * (a + n) = A.length + 16 * n by omega, List.drop_append, List.drop_of_length_le (by omega), List.nil_append, Nat.add_sub_cancel_left]
theorem gsF_app0 (k s : Nat) (A B : List UInt8) (n : Nat) (h : 16 * n ≤ A.length) : gsF k s (A ++ B) n = gsF k s A n := by
  induction n with
  | zero => rfl
  | succ n ih => rw [gsF, gsF, ih (by omega), blk_app0 _ _ _ (by omega)]
theorem gsF_app (k s : Nat) (A B : List UInt8) (a n : Nat) (h : A.length = 16 * a) : gsF k s (A ++ B) (a + n) = gsF k (gsF k s A a) B n := by
  induction n with
  | zero => exact gsF_app0 k s A B a (by omega)
  | succ n ih => rw [show a + (n + 1) = (a + n) + 1 from rfl, gsF, gsF, ih, blk_app1 _ _ _ _ h]
theorem gsF_join (k x : Nat) (hx : x < 2 ^ 128) (B : List UInt8) (hB : 16 ≤ B.length) (n : Nat) : gsF k x B (n + 1) = gsF k 0 (xorL (be 16 x) (B.take 16) ++ B.drop 16) (n + 1) := by
  have hl : (xorL (be 16 x) (B.take 16)).length = 16 := by rw [xorL_len, be_length, List.length_take]; omega
  induction n with
  | zero =>
    rw [gsF, gsF, gsF, gsF, Nat.zero_xor, blk_app0 _ _ _ (by omega)]
    have h1 : blk (xorL (be 16 x) (B.take 16)) 0 = xorL (be 16 x) (B.take 16) := by rw [blk, List.drop_zero, List.take_of_length_le (by omega)]
    have h2 : blk B 0 = B.take 16 := by rw [blk, List.drop_zero]
    rw [h1, h2, ofBe_xor _ _ (by rw [be_length, List.length_take]; omega), ofBe16 x hx]
  | succ n ih =>
    have : blk (xorL (be 16 x) (B.take 16) ++ B.drop 16) (n + 1) = blk B (n + 1) := by
      rw [Nat.add_comm n 1, blk_app1 _ _ 1 n (by omega), blk, blk, List.drop_drop]
      congr 2
      omega
    rw [gsF_succ k x B (n + 1), ih, gsF_succ k 0 _ (n + 1), this]
theorem gsL_join (K A B : List UInt8) (a b : Nat) (hK : K.length = 16) (hA : A.length = 16 * a) (hB : B.length = 16 * (b + 1)) :
    gsL K (A ++ B) = gsL K (xorL (gsL K A) (B.take 16) ++ B.drop 16) := by
  have hk := of16_lt K hK
  have hl : (xorL (gsL K A) (B.take 16)).length = 16 := by rw [xorL_len, gsL_length, List.length_take]; omega
  have h1 : (A ++ B).length / 16 = a + (b + 1) := by rw [List.length_append]; omega
  have h2 : (xorL (gsL K A) (B.take 16) ++ B.drop 16).length / 16 = b + 1 := by rw [List.length_append, hl, List.length_drop]; omega
  rw [gsL, gsL, h1, h2, gsF_app _ _ _ _ _ _ hA]
  have h3 := gsF_join (ofBe K) (gsF (ofBe K) 0 A a) (gsF_lt _ _ _ hk (by decide) _) B (by omega) b
  rw [h3, gsL, show A.length / 16 = a by omega]
theorem blk_xor (A B : List UInt8) (n : Nat) : blk (xorL A B) n = xorL (blk A n) (blk B n) := by
  rw [blk, blk, blk, xorL, xorL, List.drop_zipWith, List.take_zipWith]
theorem gsF_xor (k : Nat) (A B : List UInt8) (h : A.length = B.length) (n : Nat) : gsF k 0 (xorL A B) n = gsF k 0 A n ^^^ gsF k 0 B n := by
  induction n with
  | zero => simp [gsF]
  | succ n ih =>
    rw [gsF_succ, gsF_succ, gsF_succ, ih, blk_xor, ofBe_xor _ _ (by rw [blk, blk, List.length_take, List.length_take, List.length_drop, List.length_drop, h]), ← Gh.xor_mul]
    congr 1
    ac_rfl
theorem gsL_xor (K A B : List UInt8) (hK : K.length = 16) (h : A.length = B.length) : gsL K (xorL A B) = xorL (gsL K A) (gsL K B) := by
  have hk := of16_lt K hK
  rw [gsL, gsL, gsL, xorL_be _ _ (gsF_lt _ _ _ hk (by decide) _) (gsF_lt _ _ _ hk (by decide) _), xorL_len, ← h, Nat.min_self, gsF_xor _ _ _ h]
/-- the field's law over texts -/
theorem gmL_assoc (A B C : List UInt8) (hB : B.length = 16) (hC : C.length = 16) : gmL (gmL A B) C = gmL A (gmL B C) := by
  have hb := of16_lt B hB
  have hc := of16_lt C hC
  rw [gmL, gmL, gmL, gmL, ofBe16 _ (Gh.mul_lt _ _ hb), ofBe16 _ (Gh.mul_lt _ _ hc), Gh.mul_assoc _ _ _ hb hc]
theorem gmL_xor (A B C : List UInt8) (hB : B.length = 16) (hC : C.length = 16) : gmL A (xorL B C) = xorL (gmL A B) (gmL A C) := by
  have hb := of16_lt B hB
  have hc := of16_lt C hC
  rw [gmL, gmL, gmL, ofBe_xor _ _ (by rw [hB, hC]), Gh.mul_xor, xorL_be _ _ (Gh.mul_lt _ _ hb) (Gh.mul_lt _ _ hc)]
end Go.Proofs.YtkedoiikkjeadaaDoor
