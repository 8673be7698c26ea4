/- The walks of CcmSeals, CcmOpens, CcmTags and CcmBack. -/
import Derived.Test.YtflofbimecnakaaGreatCcmJ
namespace Go.Proofs.YtflofbimecnakaaGreat
open Go.RowKit
set_option linter.unusedVariables false
set_option linter.unusedSimpArgs false
theorem ccBack (K V A T : List UInt8) (m : Nat) (h : ccE K.length V.length A.length (m : Int) (T.length : Int) = 0) :
    (ccSealL K V A T (m : Int)).length = T.length + m ∧ ccOpenE K V A (ccSealL K V A T (m : Int)) (m : Int) = 0 ∧ ccOpenL K V A (ccSealL K V A T (m : Int)) (m : Int) = T := by
  obtain ⟨hk, h7, h13, s4, s16, sev, ha, hn0, hn7, hnv⟩ := ccE_zero h
  have m16 : m ≤ 16 := by omega
  have hS : ccSealL K V A T (m : Int) = ccJoin K V T 1 ++ ccTag K V A T m := by rw [ccSealL, if_pos h, Int.toNat_natCast]
  have hj : (ccJoin K V T 1).length = T.length := by rw [ccJoin, ctrL_length]
  have ht : (ccTag K V A T m).length = m := ccTag_length _ _ _ _ _ m16
  have hl : (ccSealL K V A T (m : Int)).length = T.length + m := by rw [hS, List.length_append, hj, ht]
  have hE : ccE K.length V.length A.length (m : Int) (((ccSealL K V A T (m : Int)).length : Int) - (m : Int)) = 0 := by
    rw [hl, show ((T.length + m : Nat) : Int) - (m : Int) = (T.length : Int) by omega]
    exact h
  have hO : ccOp K V (ccSealL K V A T (m : Int)) (m : Int) = T := by
    rw [ccOp, Int.toNat_natCast, hl, Nat.add_sub_cancel, hS, List.take_left' hj, ccJoin, ccJoin, ctrL_twice]
  have hD : (ccSealL K V A T (m : Int)).drop ((ccSealL K V A T (m : Int)).length - m) = ccTag K V A T m := by
    rw [hl, Nat.add_sub_cancel, hS, List.drop_left' hj]
  have hOE : ccOpenE K V A (ccSealL K V A T (m : Int)) (m : Int) = 0 := by
    rw [ccOpenE, if_pos hE, hO, Int.toNat_natCast, hD, if_pos rfl]
  exact ⟨hl, hOE, by rw [ccOpenL, if_pos hOE, hO]⟩
theorem emptyB {s : ByteArray} (h : s.toList = []) : s = ByteArray.mk #[] := tl_inj (by rw [h]; exact (tl_mk []).symm)
end Go.Proofs.YtflofbimecnakaaGreat
