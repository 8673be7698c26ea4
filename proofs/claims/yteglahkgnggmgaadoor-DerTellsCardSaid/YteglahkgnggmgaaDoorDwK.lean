/- The document's telling: what stands behind an element. -/
import Derived.Test.YteglahkgnggmgaaDoorDwG
import Derived.Test.YteglahkgnggmgaaDoorDwJ
namespace Go.Proofs.YteglahkgnggmgaaDoor
open Go.RowKit
set_option linter.unusedVariables false
set_option linter.unusedSimpArgs false
open Dr
def decW2 : List Int → List Int
  | [] => []
  | x :: V => (x - 1) :: V
def incW (k : Int) (W : List Int) : List Int := if 0 ≤ k then k :: W else W
/-- the place behind a tree, and how many stand within one another (the topmost number first) -/
def bhd : List Int → Nat → Nat → List Nd → Int × Nat
  | W, m, i, [] => (-1, m)
  | W, m, i, n :: r =>
    if n.kids < -1 then (-1, m)
    else if tw (incW n.kids (decW2 W)) = [] then ((i : Int) + 1, max m (incW n.kids (decW2 W)).length)
    else bhd (tw (incW n.kids (decW2 W))) (max m (incW n.kids (decW2 W)).length) (i + 1) r
theorem bhd_cons (W : List Int) (m i : Nat) (n : Nd) (r : List Nd) : bhd W m i (n :: r) = if n.kids < -1 then (-1, m) else if tw (incW n.kids (decW2 W)) = [] then ((i : Int) + 1, max m (incW n.kids (decW2 W)).length) else bhd (tw (incW n.kids (decW2 W))) (max m (incW n.kids (decW2 W)).length) (i + 1) r := rfl
theorem tw_app0 (W : List Int) : tw (W ++ [0]) = if tw W = [] then [] else tw W ++ [0] := by
  induction W with
  | nil => rfl
  | cons x W ih =>
    by_cases h : x = 0
    · subst h; rw [List.cons_append, tw_zero, tw_zero, ih]
    · rw [List.cons_append, tw_cons h, tw_cons h, if_neg (List.cons_ne_nil _ _)]; rfl
theorem shp_tw (W : List Int) (dp : Int) (r : List Nd) : shp W dp r = shp (tw W) dp r := by
  have h : tw (tw W) = tw W := by
    induction W with
    | nil => rfl
    | cons x W ih =>
      by_cases h : x = 0
      · subst h; rw [tw_zero, ih]
      · rw [tw_cons h, tw_cons h]
  cases r with
  | nil => rw [shp, shp, h]
  | cons n r => rw [shp, shp, h]
theorem bhd_shp : ∀ (l : List Nd) (W : List Int) (m i : Nat), tw W = W → W ≠ [] → W.length ≤ m → (∀ n ∈ l, -1 ≤ n.kids) →
    ((shp (W ++ [0]) m l).2 = true → (bhd W m i l).1 = ((i + l.length : Nat) : Int) ∧ (((bhd W m i l).2 : Nat) : Int) = (shp (W ++ [0]) m l).1) ∧ ((shp (W ++ [0]) m l).2 = false → (bhd W m i l).1 ≠ ((i + l.length : Nat) : Int))
  | [], W, m, i, ht, hne, hm, _ => by
    rw [shp, tw_app0, ht, if_neg hne, bhd]
    refine ⟨fun h => ?_, fun _ => ?_⟩
    · have h1 : W ++ [0] = [] := of_decide_eq_true h
      simp at h1
    · show (-1 : Int) ≠ _
      rw [List.length_nil]; omega
  | n :: r, W, m, i, ht, hne, hm, hk => by
    obtain ⟨x, V, rfl⟩ : ∃ x V, W = x :: V := by cases W with
      | nil => exact absurd rfl hne
      | cons x V => exact ⟨x, V, rfl⟩
    have hk0 := hk n (List.mem_cons_self ..)
    have hx : tw ((x :: V) ++ [0]) = x :: (V ++ [0]) := by rw [tw_app0, ht, if_neg (List.cons_ne_nil _ _)]; rfl
    have hs : shp ((x :: V) ++ [0]) m (n :: r) = shp (incW n.kids (decW2 (x :: V)) ++ [0]) ((max m (incW n.kids (decW2 (x :: V))).length : Nat) : Int) r := by
      rw [shp, hx]
      dsimp only
      rw [incW, decW2]
      by_cases h : 0 ≤ n.kids
      · rw [if_pos h, if_pos h]
        congr 1
        have h9 : (V ++ [(0 : Int)]).length = V.length + 1 := by rw [List.length_append]; rfl
        rw [h9, List.length_cons, List.length_cons]
        omega
      · rw [if_neg h, if_neg h]
        congr 1
        rw [List.length_cons] at hm ⊢
        omega
    obtain ⟨W2, hW2⟩ : ∃ W2, incW n.kids (decW2 (x :: V)) = W2 := ⟨_, rfl⟩
    rw [bhd_cons, if_neg (by omega), hs, hW2]
    obtain ⟨m2, hm2⟩ : ∃ m2, max m W2.length = m2 := ⟨_, rfl⟩
    rw [hm2]
    by_cases h2 : tw W2 = []
    · rw [if_pos h2]
      have h3 : tw (W2 ++ [0]) = [] := by rw [tw_app0, if_pos h2]
      cases r with
      | nil =>
        rw [shp, h3]
        refine ⟨fun _ => ⟨?_, rfl⟩, fun h => (by cases h)⟩
        show (i : Int) + 1 = ((i + 1 : Nat) : Int)
        omega
      | cons n2 r =>
        rw [shp, h3]
        refine ⟨fun h => (by cases h), fun _ => ?_⟩
        show (i : Int) + 1 ≠ _
        rw [List.length_cons, List.length_cons]
        omega
    · rw [if_neg h2]
      have h3 : tw (W2 ++ [0]) = tw W2 ++ [0] := by rw [tw_app0, if_neg h2]
      have h4 : tw (tw W2) = tw W2 := by
        cases h5 : tw W2 with
        | nil => rfl
        | cons y U => exact tw_cons (tw_head h5)
      rw [shp_tw, h3]
      obtain ⟨ih1, ih2⟩ := bhd_shp r (tw W2) m2 (i + 1) h4 h2 (by have := tw_le W2; omega) (fun n hn => hk n (List.mem_cons_of_mem _ hn))
      rw [List.length_cons, show i + (r.length + 1) = i + 1 + r.length by omega]
      exact ⟨ih1, ih2⟩
/-- Behind, and the shape -/
theorem bhd_one (l : List Nd) (hk : ∀ n ∈ l, -1 ≤ n.kids) (hne : l ≠ []) : ((shp [1] 0 l).2 = true → (bhd [] 0 0 l).1 = (l.length : Int) ∧ (((bhd [] 0 0 l).2 : Nat) : Int) = (shp [1] 0 l).1) ∧ ((shp [1] 0 l).2 = false → (bhd [] 0 0 l).1 ≠ (l.length : Int)) := by
  cases l with
  | nil => exact absurd rfl hne
  | cons n r =>
    have hk0 := hk n (List.mem_cons_self ..)
    rw [bhd_cons, if_neg (by omega), shp, tw_cons (by decide)]
    dsimp only
    rw [show decW2 [] = [] from rfl, incW]
    by_cases h : 0 ≤ n.kids
    · rw [if_pos h, if_pos h]
      by_cases h0 : n.kids = 0
      · rw [h0, show tw [0] = [] from rfl, if_pos rfl]
        have h3 : shp (0 :: (1 - 1) :: ([] : List Int)) (max 0 ((([] : List Int).length : Int) + 1)) r = shp [] 1 r := by rw [shp_zero]; exact shp_zero _ _ _
        rw [h3]
        cases r with
        | nil =>
          rw [shp]
          refine ⟨fun _ => ⟨?_, rfl⟩, fun h => (by cases h)⟩
          rfl
        | cons n2 r =>
          rw [shp, show tw ([] : List Int) = [] from rfl]
          refine ⟨fun h => (by cases h), fun _ => ?_⟩
          show ((0 : Nat) : Int) + 1 ≠ _
          rw [List.length_cons, List.length_cons]
          omega
      · rw [tw_cons h0, if_neg (List.cons_ne_nil _ _)]
        have h4 := bhd_shp r [n.kids] 1 1 (tw_cons h0) (List.cons_ne_nil _ _) (Nat.le_refl _) (fun n hn => hk n (List.mem_cons_of_mem _ hn))
        have h5 : (n :: r).length = 1 + r.length := by rw [List.length_cons]; omega
        rw [h5]
        exact h4
    · rw [if_neg h, if_neg h, show tw ([] : List Int) = [] from rfl, if_pos rfl]
      have h3 : shp ((1 - 1) :: ([] : List Int)) 0 r = shp [] 0 r := shp_zero _ _ _
      rw [h3]
      cases r with
      | nil =>
        rw [shp]
        refine ⟨fun _ => ⟨?_, rfl⟩, fun h => (by cases h)⟩
        rfl
      | cons n2 r =>
        rw [shp, show tw ([] : List Int) = [] from rfl]
        refine ⟨fun h => (by cases h), fun _ => ?_⟩
        show ((0 : Nat) : Int) + 1 ≠ _
        rw [List.length_cons, List.length_cons]
        omega
/-- a number of kids below -1 -/
theorem bhd_bad : ∀ (l : List Nd) (W : List Int) (m i : Nat), (∃ n ∈ l, n.kids < -1) → (bhd W m i l).1 ≠ ((i + l.length : Nat) : Int)
  | [], W, m, i, h => by obtain ⟨n, hn, _⟩ := h; cases hn
  | a :: r, W, m, i, h => by
    rw [bhd_cons]
    split
    · show (-1 : Int) ≠ _; omega
    · rename_i h1
      have h2 : ∃ n ∈ r, n.kids < -1 := by
        obtain ⟨n, hn, hk⟩ := h
        rcases List.mem_cons.1 hn with rfl | hn
        · exact absurd hk h1
        · exact ⟨n, hn, hk⟩
      split
      · obtain ⟨n, hn, _⟩ := h2
        have : 0 < r.length := List.length_pos_of_mem hn
        show (i : Int) + 1 ≠ _
        rw [List.length_cons]
        omega
      · have := bhd_bad r (tw (incW a.kids (decW2 W))) (max m (incW a.kids (decW2 W)).length) (i + 1) h2
        rw [List.length_cons, show i + (r.length + 1) = i + 1 + r.length by omega]
        exact this
end Go.Proofs.YteglahkgnggmgaaDoor
