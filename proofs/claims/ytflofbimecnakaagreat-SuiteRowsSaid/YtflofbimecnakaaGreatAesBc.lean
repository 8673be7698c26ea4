/- The contract of the document's column. -/
import Derived.Test.YtflofbimecnakaaGreatAesBp
namespace Go.Proofs.YtflofbimecnakaaGreat
open Go.RowKit
set_option linter.unusedVariables false
set_option linter.unusedSimpArgs false
def cpart (F : List UInt8) (x : UInt32) (r : Nat) : Nat → UInt8
  | 0 => 0
  | k + 1 => cpart F x r k ^^^ gmul (F.getD ((k + 4 - r) % 4) 0) (rw_ x k)
theorem cpart4 (f0 f1 f2 f3 : UInt8) (x : UInt32) (r : Nat) (hr : r < 4) : cpart [f0, f1, f2, f3] x r 4 = rw_ (colG f0 f1 f2 f3 x) r := by
  match r, hr with
  | 0, _ => rw [colG, rw_wd0]; simp [cpart]
  | 1, _ => rw [colG, rw_wd1]; simp [cpart]
  | 2, _ => rw [colG, rw_wd2]; simp [cpart]
  | 3, _ => rw [colG, rw_wd3]; simp [cpart]
theorem mixP_self {α : Type} (N : Nat) (f g : Nat → α) (k : Nat) : (mixP N f g k).set k (g k) = mixP N f g k := by
  apply List.ext_getElem
  · simp
  · intro i h1 h2
    rw [List.getElem_set]
    by_cases e : k = i
    · subst e
      rw [if_pos rfl]
      simp [mixP]
    · rw [if_neg e]
theorem mixP_getset {α : Type} (N : Nat) (f g : Nat → α) (k : Nat) (v d : α) (hk : k < N) : ((mixP N f g k).set k v).getD k d = v := by
  have hl : k < (mixP N f g k).length := by rw [mixP_length]; exact hk
  simp [List.getD, hl]
theorem ovr_zero (f g : Nat → UInt8) (n : Nat) (p : Nat → Bool) (h : ∀ i, i < n → p i = false) : ovr f g n p = (List.range n).map g := by
  rw [ovr]
  refine List.map_congr_left fun i hi => ?_
  rw [h i (by simpa using hi)]
  rfl
theorem ovr_fill (f g : Nat → UInt8) (n : Nat) (p : Nat → Bool) (h : ∀ i, i < n → p i = false → g i = f i) : ovr f g n p = (List.range n).map f := by
  rw [ovr]
  refine List.map_congr_left fun i hi => ?_
  cases hp : p i
  · exact h i (by simpa using hi) hp
  · rfl
theorem ovr_at (f g : Nat → UInt8) (n : Nat) (p : Nat → Bool) (i : Nat) (hi : i < n) : (ovr f g n p).getD i 0 = if p i then f i else g i := by simp [ovr, List.getD, hi]
theorem txt_set (S : List UInt32) (c : Nat) (z : UInt32) (hS : S.length = 4) (hc : c < 4) (j : Nat) : txtF (S.set c z) j = if j / 4 = c then rw_ z (j % 4) else txtF S j := by
  rw [txtF, txtF]
  by_cases h : j / 4 = c
  · rw [if_pos h, h]
    congr 1
    simp [List.getD, hS, hc]
  · rw [if_neg h]
    congr 1
    have h' : ¬ c = j / 4 := fun e => h e.symm
    simp [List.getD, h']
end Go.Proofs.YtflofbimecnakaaGreat
