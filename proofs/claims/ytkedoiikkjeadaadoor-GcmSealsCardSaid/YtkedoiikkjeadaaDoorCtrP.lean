/- Plain words for counters. -/
import Derived.Test.YtkedoiikkjeadaaDoorAesL
import Derived.Test.YtkedoiikkjeadaaDoorOctQ
namespace Go.Proofs.YtkedoiikkjeadaaDoor
open Go.RowKit
set_option linter.unusedVariables false
set_option linter.unusedSimpArgs false
theorem tl_append (a b : ByteArray) : (a ++ b).toList = a.toList ++ b.toList := by
  rw [Lib.toList_data, Lib.toList_data, Lib.toList_data, ByteArray.data_append]
  simp
theorem tl_ext (s : ByteArray) (a b : Nat) : (s.extract a b).toList = (s.toList.drop a).take (b - a) := by rw [Lib.extract_toList, ← Lib.toList_data]
theorem tl_ext0 (s : ByteArray) (b : Nat) : (s.extract 0 b).toList = s.toList.take b := by rw [tl_ext]; simp
theorem tl_extE (s : ByteArray) (a n : Nat) (h : n = s.size) : (s.extract a n).toList = s.toList.drop a := by
  rw [tl_ext, h, ← tl_size, List.take_of_length_le (by simp)]
def nxt (S : List UInt8) (w n : Nat) : List UInt8 := S.take (16 - w) ++ oaddL (S.drop (16 - w)) n
theorem nxt_length (S : List UInt8) (w n : Nat) (h : S.length = 16) : (nxt S w n).length = 16 := by
  rw [nxt, List.length_append, oaddL_length, List.length_take, List.length_drop]
  omega
theorem nxt_zero (S : List UInt8) (w : Nat) : nxt S w 0 = S := by
  rw [nxt, oaddL, Nat.add_zero, be_ofBe, List.take_append_drop]
theorem nxt_add (S : List UInt8) (w n m : Nat) (h : S.length = 16) : nxt (nxt S w n) w m = nxt S w (n + m) := by
  have hl : (S.take (16 - w)).length = 16 - w := by rw [List.length_take]; omega
  rw [nxt, nxt, nxt, List.take_left' hl, List.drop_left' hl, oaddL_addL]
/-- what a text is joined with: the first m blocks -/
def ctrS (K S : List UInt8) (w : Nat) : Nat → List UInt8
  | 0 => []
  | m + 1 => ctrS K S w m ++ encL K (nxt S w m)
theorem ctrS_length (K S : List UInt8) (w : Nat) : ∀ m, (ctrS K S w m).length = 16 * m
  | 0 => rfl
  | m + 1 => by rw [ctrS, List.length_append, ctrS_length K S w m, encL_length]; omega
theorem ctrS_take (K S : List UInt8) (w : Nat) : ∀ (k m : Nat), (ctrS K S w (m + k)).take (16 * m) = ctrS K S w m
  | 0, m => by rw [Nat.add_zero, List.take_of_length_le (by rw [ctrS_length]; exact Nat.le_refl _)]
  | k + 1, m => by
    rw [← Nat.add_assoc, ctrS, List.take_append_of_le_length (by rw [ctrS_length]; omega), ctrS_take K S w k m]
/-- how many blocks n bytes want -/
def blk (n : Nat) : Nat := (n + 15) / 16
def ctrL (K S : List UInt8) (w : Nat) (T : List UInt8) : List UInt8 := xorL T (ctrS K S w (blk T.length))
theorem xorL_length (A B : List UInt8) : (xorL A B).length = min A.length B.length := by simp [xorL]
theorem ctrL_length (K S : List UInt8) (w : Nat) (T : List UInt8) : (ctrL K S w T).length = T.length := by
  rw [ctrL, xorL_length, ctrS_length, blk]
  omega
theorem xorL_cut (A B : List UInt8) (n : Nat) (h : A.length ≤ n) : xorL A (B.take n) = xorL A B := by
  unfold xorL
  conv => lhs; rw [← List.take_of_length_le h, ← List.take_zipWith]
  rw [List.take_of_length_le (by simp; omega)]
theorem xorL_cutL (A B : List UInt8) (n : Nat) (h : B.length ≤ n) : xorL (A.take n) B = xorL A B := by
  unfold xorL
  conv => lhs; rw [← List.take_of_length_le h, ← List.take_zipWith]
  rw [List.take_of_length_le (by simp; omega)]
/-- any number of blocks that is great enough will do -/
theorem ctrL_any (K S : List UInt8) (w : Nat) (T : List UInt8) (m : Nat) (h : T.length ≤ 16 * m) : xorL T (ctrS K S w m) = ctrL K S w T := by
  have hb : blk T.length ≤ m := by unfold blk; omega
  obtain ⟨k, rfl⟩ : ∃ k, m = blk T.length + k := ⟨m - blk T.length, by omega⟩
  rw [ctrL, ← ctrS_take K S w k (blk T.length), xorL_cut _ _ _ (by unfold blk; omega)]
theorem xorL_app (A B C D : List UInt8) (h : A.length = C.length) : xorL (A ++ B) (C ++ D) = xorL A C ++ xorL B D := by
  unfold xorL
  exact List.zipWith_append h
theorem xorL_twice (A B : List UInt8) (h : A.length ≤ B.length) : xorL (xorL A B) B = A := by
  apply List.ext_getElem
  · simp [xorL]; omega
  · intro i h1 h2
    have hb : i < B.length := by omega
    simp [xorL, UInt8.xor_assoc]
theorem ctrL_twice (K S : List UInt8) (w : Nat) (T : List UInt8) : ctrL K S w (ctrL K S w T) = T := by
  rw [ctrL, ctrL_length, ctrL]
  exact xorL_twice _ _ (by rw [ctrS_length]; unfold blk; omega)
/-- what shorter texts are joined with is the beginning -/
theorem ctrL_take (K S : List UInt8) (w : Nat) (T : List UInt8) (n : Nat) (h : n ≤ T.length) : ctrL K S w (T.take n) = (ctrL K S w T).take n := by
  rw [← ctrL_any K S w (T.take n) (blk T.length) (by rw [List.length_take]; unfold blk; omega), ctrL]
  unfold xorL
  rw [List.take_zipWith]
  apply List.ext_getElem
  · simp [ctrS_length, blk]; omega
  · intro i h1 h2
    simp
theorem nxt_mod (K S : List UInt8) (w n i : Nat) (h : S.length = 16) : encL K (nxt (nxt S w n) w i) = encL K (nxt S w (n + i)) := by rw [nxt_add S w n i h]
theorem ctrS_app (K S : List UInt8) (w n : Nat) (h : S.length = 16) : ∀ m, ctrS K S w (n + m) = ctrS K S w n ++ ctrS K (nxt S w n) w m
  | 0 => by rw [ctrS, Nat.add_zero, List.append_nil]
  | m + 1 => by rw [← Nat.add_assoc, ctrS, ctrS, ctrS_app K S w n h m, nxt_add S w n m h, List.append_assoc]
/-- a text behind whole blocks -/
theorem ctrL_app (K S : List UInt8) (w n : Nat) (A B : List UInt8) (h : S.length = 16) (hA : A.length = 16 * n) : ctrL K S w (A ++ B) = ctrL K S w A ++ ctrL K (nxt S w n) w B := by
  rw [← ctrL_any K S w (A ++ B) (n + blk B.length) (by rw [List.length_append, hA]; unfold blk; omega), ctrS_app K S w n h, xorL_app _ _ _ _ (by rw [hA, ctrS_length]), ctrL_any K S w A n (by omega)]
  rfl
/-- one block more -/
theorem ctr_step (K S : List UInt8) (w i : Nat) (T : List UInt8) (h : 16 * i ≤ T.length) : xorL (T.take (16 * i)) (ctrS K S w i) ++ xorL (T.drop (16 * i)) (encL K (nxt S w i)) = xorL (T.take (16 * (i + 1))) (ctrS K S w (i + 1)) := by
  rw [ctrS]
  have hl : (T.take (16 * i)).length = (ctrS K S w i).length := by rw [List.length_take, ctrS_length]; omega
  rw [show T.take (16 * (i + 1)) = T.take (16 * i) ++ (T.drop (16 * i)).take 16 by rw [show 16 * (i + 1) = 16 * i + 16 by omega, List.take_add], xorL_app _ _ _ _ hl]
  congr 1
  exact (xorL_cutL _ _ 16 (by rw [encL_length]; exact Nat.le_refl _)).symm
/-! ### what is refused -/
def keyOk (n : Nat) : Bool := decide (n = 16 ∨ n = 24 ∨ n = 32)
def mayE (n : Nat) (w : Int) : Int := if n = 16 then (if w < 1 ∨ 16 < w then 2 else 0) else 4
def ctrE (k n : Nat) (w : Int) (t : Nat) : Int := if keyOk k then (if mayE n w = 0 then (if 70000 < t then 6 else 0) else mayE n w) else 3
end Go.Proofs.YtkedoiikkjeadaaDoor
