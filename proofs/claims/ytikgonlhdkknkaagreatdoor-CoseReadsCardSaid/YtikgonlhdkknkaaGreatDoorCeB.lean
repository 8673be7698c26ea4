import Derived.Test.YtikgonlhdkknkaaGreatDoorCuC
import Derived.Test.YtikgonlhdkknkaaGreatDoorCqK
set_option linter.unusedVariables false
set_option linter.unusedSimpArgs false
namespace Go.Proofs.YtikgonlhdkknkaaGreatDoor
namespace Ce
open Co (Am Ra Its need holds tell hdN okA up bhc pushR dec1 pop0 holdR needR)
def cont (U : List Nat) (m i : Nat) (r : List Ra) : Int × Nat := if pop0 U = [] then ((i : Int), m) else bhc (pop0 U) m i r
theorem hold_up (a : Am) : holdR (up a) = holds a.kind := by
 rw [holdR, holds]
 show decide (4 ≤ (a.kind : Int) ∧ (a.kind : Int) ≤ 6) = _
 exact decide_eq_decide.2 (by omega)
theorem need_up {a : Am} (h : holds a.kind = true) : needR (up a) = need a := by
 have h1 : 4 ≤ a.kind ∧ a.kind ≤ 6 := of_decide_eq_true h
 rw [needR, need]
 show (if (a.kind : Int) < 6 then a.num * ((a.kind : Int) - 3).toNat else 1) = _
 rcases (show a.kind = 4 ∨ a.kind = 5 ∨ a.kind = 6 by omega) with h | h | h <;> rw [h] <;> simp <;> omega
theorem bhc_cont (W : List Nat) (m i : Nat) (a : Am) (r : List Ra) (hn : holds a.kind = true → a.num ≤ 5000 ∨ a.kind = 6) :
  ∃ m', bhc W m i (up a :: r) = cont ((if holds a.kind = true then [need a] else []) ++ dec1 W) m' (i + 1) r := by
 rw [bhc]
 have h1 : ¬ (holdR (up a) = true ∧ (up a).kind < 6 ∧ 5000 < (up a).num) := fun h => by
  have h2 := hn (by rw [← hold_up]; exact h.1)
  have h3 : (a.kind : Int) < 6 := h.2.1
  have h4 : 5000 < a.num := h.2.2
  omega
 rw [if_neg h1]
 refine ⟨max m (pushR (up a) (dec1 W)).length, ?_⟩
 have h2 : pushR (up a) (dec1 W) = (if holds a.kind = true then [need a] else []) ++ dec1 W := by
  rw [pushR, hold_up]
  by_cases h : holds a.kind = true
  ·rw [if_pos h, if_pos h, need_up h]; rfl
  ·rw [if_neg h, if_neg h]; rfl
 rw [h2, cont]
 rfl
theorem num_le {a : Am} {M : List (List UInt8)} (h : M.length = need a) (hl : M.length ≤ 5000) : a.num ≤ 5000 ∨ a.kind = 6 := by
 rw [need] at h
 by_cases h6 : a.kind = 6
 ·exact .inr h6
 rw [if_neg h6] at h
 split at h <;> omega
theorem _root_.Go.Proofs.YtikgonlhdkknkaaGreatDoor.Co.Its.cont {d N M o} (h : Its d N M o) : N.length ≤ 5000 → ∀ (x : Nat) (V : List Nat) (m i : Nat) (R : List Ra), M.length ≤ x → ∃ m', cont (x :: V) m i (N.map up ++ R) = cont ((x - M.length) :: V) m' (i + N.length) R := by
 induction h with
 | nil => intro _ x V m i R _; exact ⟨m, rfl⟩
 | @leaf a d N M o hx h ih =>
  intro hl x V m i R hm
  rw [lco] at hm hl
  obtain ⟨m1, h1⟩ := bhc_cont (x :: V) m i a (N.map up ++ R) (fun h => by rw [hx] at h; cases h)
  obtain ⟨m2, h2⟩ := ih (by omega) (x - 1) V m1 (i + 1) R (by omega)
  refine ⟨m2, ?_⟩
  have hp : pop0 (x :: V) = x :: V := by rw [pop0, if_neg (by omega)]
  rw [hx] at h1
  conv => lhs; rw [Ce.cont]
  rw [hp, if_neg (by simp), List.map_cons, List.cons_append, h1]
  show Ce.cont ((x - 1) :: V) m1 (i + 1) (N.map up ++ R) = _
  rw [h2, lco, lco, show x - 1 - M.length = x - (M.length + 1) by omega, show i + 1 + N.length = i + (N.length + 1) by omega]
 | @node a dK K MK oK d N M o hx hm0 hK h ihK ih =>
  intro hl x V m i R hm
  rw [lco] at hm
  rw [lco, lap] at hl
  have hle := hK.lens
  obtain ⟨m1, h1⟩ := bhc_cont (x :: V) m i a (K.map up ++ (N.map up ++ R)) (fun _ => num_le hm0 (by omega))
  obtain ⟨m2, h2⟩ := ihK (by omega) (need a) ((x - 1) :: V) m1 (i + 1) (N.map up ++ R) (by omega)
  obtain ⟨m3, h3⟩ := ih (by omega) (x - 1) V m2 (i + 1 + K.length) R (by omega)
  refine ⟨m3, ?_⟩
  have hp : pop0 (x :: V) = x :: V := by rw [pop0, if_neg (by omega)]
  rw [if_pos hx] at h1
  conv => lhs; rw [Ce.cont]
  rw [hp, if_neg (by simp), List.map_cons, List.map_append, List.cons_append, List.append_assoc, h1]
  show Ce.cont (need a :: (x - 1) :: V) m1 (i + 1) (K.map up ++ (N.map up ++ R)) = _
  rw [h2, hm0, Nat.sub_self]
  have h4 : ∀ r, Ce.cont (0 :: (x - 1) :: V) m2 (i + 1 + K.length) r = Ce.cont ((x - 1) :: V) m2 (i + 1 + K.length) r := fun r => by
   rw [Ce.cont, Ce.cont, show pop0 (0 :: (x - 1) :: V) = pop0 ((x - 1) :: V) from by rw [pop0, if_pos rfl]]
  rw [h4, h3, lco, lco, lap, show x - 1 - M.length = x - (M.length + 1) by omega, show i + 1 + K.length + N.length = i + (K.length + N.length + 1) by omega]
theorem Part.behind {D P B} (h : Part D P B) (hl : P.length ≤ 5000) (i : Nat) (R : List Ra) : (bhc [] 0 i (P.map up ++ R)).1 = ((i + P.length : Nat) : Int) := by
 cases P with
 | nil => exact absurd rfl h.ne
 | cons a r =>
  rw [lco] at hl
  by_cases hx : holds a.kind = true
  ·obtain ⟨Ps, Bs, hF, hr, hn⟩ := h.open
   obtain ⟨d, hI, _⟩ := h
   generalize hN : a :: r = N at hI
   generalize hM : [B] = M at hI
   generalize ho : true = o at hI
   cases hI with
   | nil => cases hN
   | @leaf x d N M o hx2 h =>
    obtain ⟨rfl, rfl⟩ := List.cons.inj hN
    rw [hx] at hx2; cases hx2
   | @node x dK K MK oK d N M o hx2 hm0 hK h =>
    obtain ⟨rfl, h2⟩ := List.cons.inj hN
    obtain ⟨_, rfl⟩ := List.cons.inj hM
    cases h with
    | nil =>
     rw [List.append_nil] at h2
     subst h2
     have hle := hK.lens
     obtain ⟨m1, h1⟩ := bhc_cont [] 0 i a (r.map up ++ R) (fun _ => num_le hm0 (by omega))
     obtain ⟨m2, h2⟩ := hK.cont (by omega) (need a) [] m1 (i + 1) R (by omega)
     rw [if_pos hx] at h1
     rw [List.append_nil, List.map_cons, List.cons_append, h1]
     show (cont (need a :: []) m1 (i + 1) (r.map up ++ R)).1 = _
     rw [h2, hm0, Nat.sub_self, cont, if_pos (by rw [pop0, if_pos rfl]; rfl), lco]
     show ((i + 1 + r.length : Nat) : Int) = _
     rw [show i + 1 + r.length = i + (r.length + 1) by omega]
  ·have h0 : holds a.kind = false := by simpa using hx
   obtain rfl := h.leaf h0
   obtain ⟨m1, h1⟩ := bhc_cont [] 0 i a R (fun h => absurd h hx)
   rw [if_neg hx] at h1
   rw [List.map_cons, List.cons_append]
   show (bhc [] 0 i (up a :: R)).1 = _
   rw [h1]
   rfl
end Ce
end Go.Proofs.YtikgonlhdkknkaaGreatDoor
