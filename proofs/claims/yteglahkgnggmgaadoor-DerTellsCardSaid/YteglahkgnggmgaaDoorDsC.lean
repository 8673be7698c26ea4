/- Telling: one tree, and what is made of it. -/
import Derived.Test.YteglahkgnggmgaaDoorDsB
namespace Go.Proofs.YteglahkgnggmgaaDoor
open Go.RowKit
set_option linter.unusedVariables false
set_option linter.unusedSimpArgs false
open Dr
theorem tw_sum : ∀ (W : List Int), W.sum = (tw W).sum
  | [] => rfl
  | x :: W => by
    by_cases h : x = 0
    · subst h
      rw [List.sum_cons, Int.zero_add, tw_sum W]
      rfl
    · have : tw (x :: W) = x :: W := by rw [tw, List.dropWhile_cons]; simp [h]
      rw [this]
theorem sum_nonneg : ∀ (W : List Int), (∀ x ∈ W, 0 ≤ x) → 0 ≤ W.sum
  | [], _ => Int.le_refl _
  | x :: W, h => by
    rw [List.sum_cons]
    have h1 := h x (List.mem_cons_self ..)
    have h2 := sum_nonneg W (fun y hy => h y (List.mem_cons_of_mem _ hy))
    omega
theorem shp_fits : ∀ (l : List Nd) (W : List Int) (dp : Int), (∀ x ∈ W, 0 ≤ x) → (shp W dp l).2 = true → Fits l ∧ ((jnS l).1.length : Int) = W.sum
  | [], W, dp, hW, h => by
    have h1 : tw W = [] := of_decide_eq_true h
    exact ⟨trivial, by rw [tw_sum, h1]; rfl⟩
  | n :: r, W, dp, hW, h => by
    rw [shp] at h
    cases hV : tw W with
    | nil => rw [hV] at h; cases h
    | cons x V =>
      rw [hV] at h
      dsimp only at h
      have hx0 := tw_head hV
      have hx1 := hW x (tw_sub W x (by rw [hV]; exact List.mem_cons_self ..))
      have hVp : ∀ y ∈ V, 0 ≤ y := fun y hy => hW y (tw_sub W y (by rw [hV]; exact List.mem_cons_of_mem _ hy))
      have hs : W.sum = x + V.sum := by rw [tw_sum, hV, List.sum_cons]
      have hp := sum_nonneg V hVp
      by_cases hk : 0 ≤ n.kids
      · rw [if_pos hk] at h
        obtain ⟨h1, h2⟩ := shp_fits r _ _ (fun y hy => by
          rcases List.mem_cons.1 hy with rfl | hy
          · exact hk
          · rcases List.mem_cons.1 hy with rfl | hy
            · omega
            · exact hVp y hy) h
        rw [List.sum_cons, List.sum_cons] at h2
        refine ⟨⟨fun _ => by omega, h1⟩, ?_⟩
        rw [jnS, if_pos hk]
        dsimp only
        rw [List.length_cons, List.length_drop]
        omega
      · rw [if_neg hk] at h
        obtain ⟨h1, h2⟩ := shp_fits r _ _ (fun y hy => by
          rcases List.mem_cons.1 hy with rfl | hy
          · omega
          · exact hVp y hy) h
        rw [List.sum_cons] at h2
        refine ⟨⟨fun h => absurd h hk, h1⟩, ?_⟩
        rw [jnS, if_neg hk]
        dsimp only
        rw [List.length_cons]
        omega
theorem shp_one {l : List Nd} (h : (shp [1] 0 l).2 = true) : Fits l ∧ (jnS l).1.length = 1 ∧ l ≠ [] := by
  obtain ⟨h1, h2⟩ := shp_fits l [1] 0 (by intro x hx; simp at hx; omega) h
  have h3 : (jnS l).1.length = 1 := by simp at h2; omega
  exact ⟨h1, h3, fun h0 => by rw [h0] at h3; simp [jnS] at h3⟩
theorem shp_le : ∀ (l : List Nd) (W : List Int) (dp : Int) , 0 ≤ dp → 0 ≤ (shp W dp l).1
  | [], W, dp, h => h
  | n :: r, W, dp, h => by
    rw [shp]
    split
    · exact Int.le_refl _
    · split
      · exact shp_le r _ _ (by omega)
      · exact shp_le r _ _ h
/-- what telling a tree answers -/
def enc (l : List Nd) : List UInt8 × Int :=
  if 4096 < l.length then ([], 10)
  else if (shp [1] 0 l).2 = false then ([], 9)
  else if l.all nodeOk = false then ([], 9)
  else if 32 < (shp [1] 0 l).1 ∨ 262144 < bods l then ([], 10)
  else if 262144 < ((jnS l).1.getD 0 []).length then ([], 10)
  else if (jnS l).2 = false then ([], 9)
  else ((jnS l).1.getD 0 [], 0)
end Go.Proofs.YteglahkgnggmgaaDoor
