/- The contract of the document's New: what its box holds. -/
import Derived.Test.YtflofbimecnakaaGreatAesBp
import Derived.Test.YtflofbimecnakaaGreatAesQb
import Derived.Test.YtflofbimecnakaaGreatRowX
import Derived.Deep.AppendLies
namespace Go.Proofs.YtflofbimecnakaaGreat
open Go.RowKit
set_option linter.unusedVariables false
set_option linter.unusedSimpArgs false
/-! ### round words, one behind the other -/
def rst (K : List UInt8) (n i : Nat) : List UInt32 × UInt8 := if i ≤ n then (keyL K i, 1) else erun n (i - n) (keyL K n, 1)
theorem erun_succ (n : Nat) : ∀ (k : Nat) (s : List UInt32 × UInt8), erun n (k + 1) s = estep n (erun n k s)
  | 0, s => rfl
  | k + 1, s => by rw [erun, erun_succ n k, ← erun]
theorem rst_length (K : List UInt8) (n i : Nat) : (rst K n i).1.length = i := by
  unfold rst
  split
  · exact keyL_length K i
  · rw [erun_length, keyL_length]; omega
theorem rst_low (K : List UInt8) (n i : Nat) (h : i < n) : (rst K n (i + 1)).1 = (rst K n i).1 ++ [keyW K i] ∧ (rst K n (i + 1)).2 = (rst K n i).2 := by
  unfold rst
  rw [if_pos (by omega), if_pos (by omega)]
  exact ⟨keyL_succ K i, rfl⟩
theorem rst_high (K : List UInt8) (n i : Nat) (h : n ≤ i) : rst K n (i + 1) = estep n (rst K n i) := by
  unfold rst
  rw [if_neg (by omega), show i + 1 - n = (i - n) + 1 by omega, erun_succ]
  congr 1
  by_cases e : i ≤ n
  · have : i = n := by omega
    subst this
    rw [if_pos e, Nat.sub_self, erun]
  · rw [if_neg e]
theorem rst_zero (K : List UInt8) (n : Nat) : rst K n 0 = ([], 1) := by
  unfold rst
  rw [if_pos (Nat.zero_le _)]
  rfl
theorem rst_all (K : List UInt8) (n : Nat) (h : n = K.length / 4) : (rst K n (4 * n + 28)).1 = expW K := by
  unfold rst
  rw [if_neg (by omega), show 4 * n + 28 - n = 3 * n + 28 by omega, expW, ← h]
theorem wb_wd (a b c d : UInt8) : wb (wd a b c d) = [a, b, c, d] := by rw [wb, rw_wd0, rw_wd1, rw_wd2, rw_wd3]
theorem turn_a (x : UInt32) (p : UInt8) : wb (subW (rotl32 x 8) ^^^ wd p 0 0 0) = [gsub (rw_ x 1) ^^^ p, gsub (rw_ x 2), gsub (rw_ x 3), gsub (rw_ x 0)] := by
  have h : rotl32 x 8 = wd (rw_ x 1) (rw_ x 2) (rw_ x 3) (rw_ x 0) := by
    conv => lhs; rw [← wd_rw x]
    exact rotl_wd8 _ _ _ _
  rw [h, subW, rw_wd0, rw_wd1, rw_wd2, rw_wd3, wd_xor, wb_wd, UInt8.xor_zero, UInt8.xor_zero, UInt8.xor_zero]
theorem turn_b (x : UInt32) : wb (subW x) = [gsub (rw_ x 0), gsub (rw_ x 1), gsub (rw_ x 2), gsub (rw_ x 3)] := by rw [subW, wb_wd]
theorem wb_key (K : List UInt8) (i : Nat) : (List.range 4).map (fun j => at0 K (4 * i + j)) = wb (keyW K i) := by rw [keyW, wb_wd]; rfl
theorem wb_xor (x y : UInt32) : (List.range 4).map (fun j => rw_ x j ^^^ rw_ y j) = wb (x ^^^ y) := by
  rw [wb, rw_xor, rw_xor, rw_xor, rw_xor]
  rfl
theorem wb_length (x : UInt32) : (wb x).length = 4 := rfl
theorem wbs_at {w : World} {g : Nat} {L : List UInt32} (h : At w g 0 (bcells (wbs L))) (i : Nat) (hi : i < L.length) : At w g (i * 4) (bcells (wb (L.getD i 0))) := by
  have e0 : L = L.take i ++ (L.getD i 0 :: L.drop (i + 1)) := by rw [show L.getD i 0 = L[i] by simp [List.getD, hi], ← List.drop_eq_getElem_cons hi, List.take_append_drop]
  have e : wbs L = wbs (L.take i) ++ wb (L.getD i 0) ++ wbs (L.drop (i + 1)) :=
    (congrArg wbs e0).trans (by
      generalize L.getD i 0 = x
      simp [wbs])
  rw [e, bcells_append, bcells_append] at h
  have := h.sub
  rw [bcells_length, wbs_length, List.length_take, Nat.min_eq_left (Nat.le_of_lt hi), Nat.zero_add, Nat.mul_comm] at this
  exact this
theorem gpw (n : Nat) : gmul (pw n) 3 = pw (n + 1) := by
  rw [gmul_comm, gm3, pw, UInt8.xor_comm]
theorem spr0 : spr 0 = 99 := by decide +kernel
/-! ### the box that is made of nothing -/
def boxZ : List Value := bcells (List.replicate 256 0) ++ (bcells (List.replicate 256 0) ++ [.slice none 0 0])
def RetBx (K : List UInt8) (w : World) (e : Ending) (w' : World) : Prop := ∃ g, w.heap.size ≤ g ∧ e = .returned (.pointer (some ⟨g, 0, none⟩)) ∧ Box w' g K ∧ Below w.heap.size w w'
theorem Turn.ofSets (g : Nat) : ∀ (vs : List Value) (o : Nat) (w : World), Turn g 0 w (w.setCells g o vs)
  | [], _, w => Turn.refl _ _ _
  | v :: vs, o, w => by
    rw [World.setCells]
    exact ((Turn.refl g 0 w).setCell o (Nat.zero_le _) v).trans (Turn.ofSets g vs _ _)
theorem own_is {w : World} {base e size n : Nat} {v : Value} {xs : List Value} (h : w.ownsRow base e size v n xs) (hn : 0 < n) : ∃ g cap, v = .slice (some ⟨g, 0, none⟩) n cap := by
  rcases h.2 with ⟨_, h0⟩ | ⟨g, cap, cur, hv, _⟩
  · omega
  · exact ⟨g, cap, hv⟩
theorem rst_step (K : List UInt8) (n k : Nat) (xd xe tt : UInt32) (p p5 : UInt8) (hn : n ≤ k) (hp : (rst K n k).2 = p) (hd : (rst K n k).1.getD (k - 1) 0 = xd) (he : (rst K n k).1.getD (k - n) 0 = xe) (ht : turned n k xd p = tt)
    (hp5 : (if k % n = 0 then dbl p else p) = p5) : (rst K n (k + 1)).1 = (rst K n k).1 ++ [xe ^^^ tt] ∧ (rst K n (k + 1)).2 = p5 := by
  rw [rst_high _ _ _ hn, estep, rst_length, hd, he, hp, ht, hp5]
  exact ⟨rfl, rfl⟩
end Go.Proofs.YtflofbimecnakaaGreat
