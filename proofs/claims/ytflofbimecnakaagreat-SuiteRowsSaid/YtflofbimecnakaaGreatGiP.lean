/- Plain words for sealing by a counter and a sum over a field. -/
import Derived.Test.YtflofbimecnakaaGreatCcmK
import Derived.Test.YtflofbimecnakaaGreatGiX
namespace Go.Proofs.YtflofbimecnakaaGreat
open Go.RowKit
set_option linter.unusedVariables false
set_option linter.unusedSimpArgs false
theorem filM_w (T : List UInt8) : (filM T).length % 16 = 0 ∧ T.length ≤ (filM T).length ∧ (filM T).length < T.length + 16 := by
  have h1 := filM_mod T
  have h2 := filM_size T
  refine ⟨by omega, ?_, h2⟩
  rw [filM, List.length_append]
  omega
def bitsL (n : Nat) : List UInt8 := be 8 (8 * n)
theorem bitsL_length (n : Nat) : (bitsL n).length = 8 := be_length _ _
theorem bitsL_zero : bitsL 0 = zer 8 := by decide
def gcH (K : List UInt8) : List UInt8 := encL K (zer 16)
theorem gcH_length (K : List UInt8) : (gcH K).length = 16 := encL_length _ _
def gcFir (V : List UInt8) : List UInt8 := filM V ++ zer 8 ++ bitsL V.length
section
variable [Inhabited Gh.Tw]
def gcFirst (K V : List UInt8) : List UInt8 := if V.length = 12 then V ++ [0, 0, 0, 1] else gsL (gcH K) (gcFir V)
theorem gcFirst_length (K V : List UInt8) : (gcFirst K V).length = 16 := by
  rw [gcFirst]
  split
  · rename_i h
    rw [List.length_append, h]
    rfl
  · exact gsL_length _ _
end
theorem gcFir_length (V : List UInt8) : (gcFir V).length % 16 = 0 ∧ (gcFir V).length ≤ V.length + 32 := by
  have := filM_w V
  rw [gcFir, List.length_append, List.length_append, zer_length, bitsL_length]
  omega
def gcAll (A C : List UInt8) : List UInt8 := filM A ++ filM C ++ bitsL A.length ++ bitsL C.length
theorem gcAll_length (A C : List UInt8) : (gcAll A C).length % 16 = 0 ∧ (gcAll A C).length ≤ A.length + C.length + 48 := by
  have h1 := filM_w A
  have h2 := filM_w C
  rw [gcAll, List.length_append, List.length_append, List.length_append, bitsL_length, bitsL_length]
  omega
section
variable [Inhabited Gh.Tw]
def gcTag (K V A C : List UInt8) (s : Nat) : List UInt8 := (xorL (gsL (gcH K) (gcAll A C)) (encL K (gcFirst K V))).take s
theorem gcTag_length (K V A C : List UInt8) (s : Nat) (h : s ≤ 16) : (gcTag K V A C s).length = s := by
  rw [gcTag, List.length_take, xorL_length, gsL_length, encL_length]
  omega
def gcJoin (K V T : List UInt8) : List UInt8 := ctrL K (nxt (gcFirst K V) 4 1) 4 T
theorem gcJoin_length (K V T : List UInt8) : (gcJoin K V T).length = T.length := ctrL_length _ _ _ _
theorem gcJoin_twice (K V T : List UInt8) : gcJoin K V (gcJoin K V T) = T := ctrL_twice _ _ _ _
/-! ### errors -/
end
def gcE (k v a : Nat) (s : Int) : Int := if keyOk k then if v = 0 ∨ 1024 < v then 4 else if s < 12 ∨ 16 < s then 5 else if 70000 < a then 6 else 0 else 3
theorem gcE_zero {k v a : Nat} {s : Int} (h : gcE k v a s = 0) : (k = 16 ∨ k = 24 ∨ k = 32) ∧ 1 ≤ v ∧ v ≤ 1024 ∧ 12 ≤ s ∧ s ≤ 16 ∧ a ≤ 70000 := by
  unfold gcE at h
  split at h
  · rename_i hk
    split at h
    · cases h
    · split at h
      · cases h
      · split at h
        · cases h
        · exact ⟨by simpa [keyOk] using hk, by omega, by omega, by omega, by omega, by omega⟩
  · cases h
def gcTE (k v a : Nat) (s : Int) (n : Nat) : Int := if gcE k v a s = 0 then (if 70000 < n then 6 else 0) else gcE k v a s
def gcOE (k v a : Nat) (s : Int) (n : Nat) : Int := if gcE k v a s = 0 then (if (n : Int) < s ∨ 70000 + s < (n : Int) then 6 else 0) else gcE k v a s
section
variable [Inhabited Gh.Tw]
def gcSealL (K V A T : List UInt8) (s : Int) : List UInt8 := if gcTE K.length V.length A.length s T.length = 0 then gcJoin K V T ++ gcTag K V A (gcJoin K V T) s.toNat else []
def gcTagL (K V A C : List UInt8) (s : Int) : List UInt8 := if gcTE K.length V.length A.length s C.length = 0 then gcTag K V A C s.toNat else []
end
def gcCut (T : List UInt8) (s : Int) : List UInt8 := T.take (T.length - s.toNat)
section
variable [Inhabited Gh.Tw]
def gcOpenE (K V A T : List UInt8) (s : Int) : Int :=
  if gcOE K.length V.length A.length s T.length = 0 then if gcTag K V A (gcCut T s) s.toNat = T.drop (T.length - s.toNat) then 0 else 8 else gcOE K.length V.length A.length s T.length
def gcOpenL (K V A T : List UInt8) (s : Int) : List UInt8 := if gcOpenE K V A T s = 0 then gcJoin K V (gcCut T s) else []
end
end Go.Proofs.YtflofbimecnakaaGreat
