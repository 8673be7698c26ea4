/- Plain words for sealing by a chain and a counter. -/
import Derived.Test.YtflofbimecnakaaGreatCbcY
namespace Go.Proofs.YtflofbimecnakaaGreat
open Go.RowKit
set_option linter.unusedVariables false
set_option linter.unusedSimpArgs false
/-! ### chains go on -/
theorem blk_app (A B : List UInt8) (n i : Nat) (hA : A.length = 16 * n) : blkL (A ++ B) (n + i) = blkL B i := by
  rw [blkL, blkL, show 16 * (n + i) = A.length + 16 * i by omega, ← List.drop_drop, List.drop_left]
theorem blk_left (A B : List UInt8) (n i : Nat) (hA : A.length = 16 * n) (h : i < n) : blkL (A ++ B) i = blkL A i := by
  rw [blkL, blkL, List.drop_append_of_le_length (by omega), List.take_append_of_le_length (by rw [List.length_drop]; omega)]
theorem chA_left (K V A B : List UInt8) (n : Nat) (hA : A.length = 16 * n) : ∀ i, i ≤ n → chA K V (A ++ B) i = chA K V A i
  | 0, _ => rfl
  | i + 1, h => by rw [chA, chA, chA_left K V A B n hA i (by omega), blk_left A B n i hA (by omega)]
theorem chA_app (K V A B : List UInt8) (n : Nat) (hA : A.length = 16 * n) : ∀ i, chA K V (A ++ B) (n + i) = chA K (chA K V A n) B i
  | 0 => chA_left K V A B n hA n (Nat.le_refl _)
  | i + 1 => by rw [← Nat.add_assoc, chA, chA, chA_app K V A B n hA i, blk_app A B n i hA]
/-! ### counters -/
theorem addL_be (q m n : Nat) : oaddL (be q m) n = be q (m + n) := by
  rw [oaddL, be_length, ofBe_be, ← be_mod q (m + n), ← be_mod q (m % 256 ^ q + n), Nat.mod_add_mod]
def ccCnt (V : List UInt8) (i : Nat) : List UInt8 := UInt8.ofNat (14 - V.length) :: (V ++ be (15 - V.length) i)
theorem ccCnt_length (V : List UInt8) (i : Nat) (h : V.length ≤ 13) : (ccCnt V i).length = 16 := by
  rw [ccCnt, List.length_cons, List.length_append, be_length]
  omega
theorem nxt_cnt (V : List UInt8) (i n : Nat) (h : V.length ≤ 13) : nxt (ccCnt V i) (15 - V.length) n = ccCnt V (i + n) := by
  have e1 : ccCnt V i = (UInt8.ofNat (14 - V.length) :: V) ++ be (15 - V.length) i := rfl
  have hl : (UInt8.ofNat (14 - V.length) :: V).length = 16 - (15 - V.length) := by rw [List.length_cons]; omega
  rw [nxt, e1, List.take_left' hl, List.drop_left' hl, addL_be]
  rfl
/-! ### what goes through the chain -/
def ccFlag (v a s : Nat) : Nat := 8 * ((s - 2) / 2) + (14 - v) + (if a = 0 then 0 else 64)
def ccFirst (V A : List UInt8) (n s : Nat) : List UInt8 := UInt8.ofNat (ccFlag V.length A.length s) :: (V ++ be (15 - V.length) n)
def ccBes (A : List UInt8) : List UInt8 := if A.length = 0 then [] else if A.length < 65280 then filM (be 2 A.length ++ A) else filM (([255, 254] ++ be 4 A.length) ++ A)
def ccHead (V A : List UInt8) (n s : Nat) : List UInt8 := ccFirst V A n s ++ ccBes A
def ccAll (V A T : List UInt8) (s : Nat) : List UInt8 := ccHead V A T.length s ++ filM T
def ccX (K V A T : List UInt8) (s : Nat) : List UInt8 := chA K (zer 16) (ccAll V A T s) ((ccAll V A T s).length / 16)
def ccTag (K V A T : List UInt8) (s : Nat) : List UInt8 := (xorL (ccX K V A T s) (encL K (ccCnt V 0))).take s
def ccJoin (K V : List UInt8) (T : List UInt8) (i : Nat) : List UInt8 := ctrL K (ccCnt V i) (15 - V.length) T
theorem ccFirst_length (V A : List UInt8) (n s : Nat) (h : V.length ≤ 13) : (ccFirst V A n s).length = 16 := by
  rw [ccFirst, List.length_cons, List.length_append, be_length]
  omega
theorem ccBes_mod (A : List UInt8) : (ccBes A).length = 16 * ((ccBes A).length / 16) := by
  unfold ccBes
  split
  · rfl
  · split
    · exact filM_mod _
    · exact filM_mod _
theorem ccBes_size (A : List UInt8) : (ccBes A).length ≤ A.length + 22 := by
  unfold ccBes
  split
  · simp
  · split
    · have := filM_size (be 2 A.length ++ A)
      rw [List.length_append, be_length] at this
      omega
    · have := filM_size (([255, 254] ++ be 4 A.length) ++ A)
      rw [List.length_append, List.length_append, be_length] at this
      simp only [List.length_cons, List.length_nil] at this
      omega
theorem ccHead_mod (V A : List UInt8) (n s : Nat) (h : V.length ≤ 13) : (ccHead V A n s).length = 16 * ((ccHead V A n s).length / 16) := by
  have h1 := ccFirst_length V A n s h
  have h2 := ccBes_mod A
  rw [ccHead, List.length_append, h1]
  omega
theorem ccX_split (K V A T : List UInt8) (s : Nat) (h : V.length ≤ 13) :
    ccX K V A T s = chA K (chA K (zer 16) (ccHead V A T.length s) ((ccHead V A T.length s).length / 16)) (filM T) ((filM T).length / 16) := by
  have h1 := ccHead_mod V A T.length s h
  have h2 := filM_mod T
  rw [ccX, ccAll, List.length_append, show ((ccHead V A T.length s).length + (filM T).length) / 16 = (ccHead V A T.length s).length / 16 + (filM T).length / 16 by omega]
  exact chA_app K _ _ _ _ h1 _
theorem filM_whole (T : List UInt8) (h : T.length % 16 = 0) : filM T = T := by
  rw [filM, h]
  exact List.append_nil T
/-- layer 6's Mac of what is ahead -/
theorem ccMac (K V A : List UInt8) (n s : Nat) (h : V.length ≤ 13) : macF K (ccHead V A n s) = chA K (zer 16) (ccHead V A n s) ((ccHead V A n s).length / 16) := by
  rw [macF, filM_whole _ (by have := ccHead_mod V A n s h; omega)]
theorem ccJoin_tag (K V X : List UInt8) (s : Nat) (h : V.length ≤ 13) (hX : X.length = 16) (hs : s ≤ 16) (h1 : 1 ≤ s) : ccJoin K V (X.take s) 0 = (xorL X (encL K (ccCnt V 0))).take s := by
  have hb : blk (X.take s).length = 1 := by rw [List.length_take, blk]; omega
  rw [ccJoin, ctrL, hb, ctrS, ctrS, List.nil_append, nxt_zero]
  unfold xorL
  rw [List.take_zipWith]
  apply List.ext_getElem
  · simp [encL_length]; omega
  · intro i h1 h2
    simp
theorem ccX_length (K V A T : List UInt8) (s : Nat) : (ccX K V A T s).length = 16 := chA_length _ _ _ (zer_length 16) _
theorem ccTag_length (K V A T : List UInt8) (s : Nat) (h : s ≤ 16) : (ccTag K V A T s).length = s := by
  rw [ccTag, List.length_take, xorL_length, ccX_length, encL_length]
  omega
/-- the counters, one after the other -/
def ccStr (K V : List UInt8) : Nat → List UInt8
  | 0 => []
  | m + 1 => ccStr K V m ++ encL K (ccCnt V (m + 1))
theorem ccStr_ctr (K V : List UInt8) (h : V.length ≤ 13) : ∀ m, ctrS K (ccCnt V 1) (15 - V.length) m = ccStr K V m
  | 0 => rfl
  | m + 1 => by rw [ctrS, ccStr, ccStr_ctr K V h m, nxt_cnt V 1 m h, Nat.add_comm 1 m]
theorem ccStr_length (K V : List UInt8) : ∀ m, (ccStr K V m).length = 16 * m
  | 0 => rfl
  | m + 1 => by rw [ccStr, List.length_append, ccStr_length K V m, encL_length]; omega
/-! ### errors -/
def ccFits (v : Nat) (n : Int) : Bool := decide (7 ≤ v ∧ v ≤ 13 ∧ 0 ≤ n ∧ n ≤ 70000 ∧ (v = 13 → n < 65536))
def ccE (k v a : Nat) (s n : Int) : Int :=
  if keyOk k then if v < 7 ∨ 13 < v then 4 else if s < 4 ∨ 16 < s ∨ s % 2 ≠ 0 then 5 else if 70000 < a ∨ ccFits v n = false then 6 else 0 else 3
theorem ccE_zero {k v a : Nat} {s n : Int} (h : ccE k v a s n = 0) : (k = 16 ∨ k = 24 ∨ k = 32) ∧ 7 ≤ v ∧ v ≤ 13 ∧ 4 ≤ s ∧ s ≤ 16 ∧ s % 2 = 0 ∧ a ≤ 70000 ∧ 0 ≤ n ∧ n ≤ 70000 ∧ (v = 13 → n < 65536) := by
  unfold ccE at h
  split at h
  · rename_i hk
    split at h
    · cases h
    · split at h
      · cases h
      · split at h
        · cases h
        · rename_i h4
          have hf : ccFits v n = true := by
            cases hf : ccFits v n
            · exact absurd (.inr hf) h4
            · rfl
          have := of_decide_eq_true hf
          exact ⟨by simpa [keyOk] using hk, by omega, by omega, by omega, by omega, by omega, by omega, by omega, by omega, this.2.2.2.2⟩
  · cases h
end Go.Proofs.YtflofbimecnakaaGreat
