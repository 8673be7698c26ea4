/- The document's Encode, in plain words: its checks against the program's. -/
import Derived.Test.YteanipjgpekncaaDoorCqM
namespace Go.Proofs.YteanipjgpekncaaDoor
set_option linter.unusedVariables false
set_option linter.unusedSimpArgs false
namespace Co
open Dr (Rs Lm has lack at0S)
section
variable {txt : List UInt8 → Bool}
theorem go_wrong {b : Bool} : ∀ (r : List Ra) (t : Tl), (∃ a ∈ r, rightR txt a = false) → go txt b r t = ([], 9)
  | [], t, h => by obtain ⟨a, ha, -⟩ := h; cases ha
  | a :: r, t, h => by
    rw [go]
    by_cases h1 : t.done = true ∨ rightR txt a = false
    · rw [if_pos h1]
    · rw [if_neg h1]
      obtain ⟨x, hx, hr⟩ := h
      rcases List.mem_cons.1 hx with rfl | hx
      · exact absurd (.inr hr) h1
      · exact go_wrong r _ ⟨x, hx, hr⟩
theorem enc_wrong {l : List Ra} (hl : l.length ≤ 4096) (h : ∃ a ∈ l, rightR txt a = false) : enc txt l = ([], 9) := by
  rw [enc, if_neg (by omega)]
  exact go_wrong l ini h
/-- no tree: refused -/
theorem enc_notree {l : List Ra} (hl : l.length ≤ 4096) (hb : ∀ a ∈ l, a.num < 18446744073709551616 ∧ a.text.length < 18446744073709551616) (hr : ∀ a ∈ l, rightR txt a = true) (h : (bhc [] 0 0 l).1 ≠ (l.length : Int) ∨ l = []) : enc txt l = ([], 9) := by
  rw [enc_eq, if_neg (by omega)]
  rcases h with h | rfl
  · rcases bhc_go (txt := txt) l ini 0 rfl (fun f hf => absurd hf List.not_mem_nil) (Nat.le_refl _) hl hb hr with ⟨t', h1, h2, h3⟩ | ⟨h1, h2⟩
    · have h4 : bhc [] 0 0 l = _ := h3
      exact absurd (by rw [h4, Nat.zero_add]) h
    · exact h1
  · rfl
end
/-- all texts lie within what is told -/
theorem Its.texts_le {txt : List UInt8 → Bool} {d N M o} (h : Its d N M o) : (∀ a ∈ N, okA txt a) → (N.map fun a => a.text.length).sum ≤ M.flatten.length := by
  have hnil : ∀ a : Am, okA txt a → ¬ (a.kind = 2 ∨ a.kind = 3) → a.text = [] := fun a ha h2 => by
    rcases ha.2.2 with ⟨-, h⟩ | ⟨h, -⟩ | ⟨h, -⟩ | ⟨-, h, -⟩
    · exact h
    · exact absurd (.inl h) h2
    · exact absurd (.inr h) h2
    · exact h
  induction h with
  | nil => intro _; exact Nat.le_refl _
  | @leaf x d N M o hx h ih =>
    intro hall
    have h1 := ih (fun y hy => hall y (List.mem_cons_of_mem _ hy))
    have h2 : x.text.length ≤ (tell x).length := by
      rw [tell]
      split
      · rw [List.length_append]; omega
      · rename_i h3
        rw [hnil x (hall x (List.mem_cons_self ..)) h3]
        exact Nat.zero_le _
    rw [List.map_cons, List.sum_cons, List.flatten_cons, List.length_append]
    omega
  | @node x dK K MK oK d N M o hx hm hK h ihK ih =>
    intro hall
    have h1 := ihK (fun y hy => hall y (List.mem_cons_of_mem _ (List.mem_append_left _ hy)))
    have h2 := ih (fun y hy => hall y (List.mem_cons_of_mem _ (List.mem_append_right _ hy)))
    have h3 := hnil x (hall x (List.mem_cons_self ..)) (holds_not hx)
    rw [List.map_cons, List.sum_cons, List.map_append, List.sum_append, List.flatten_cons, List.length_append, List.length_append, h3, List.length_nil]
    omega
end Co
end Go.Proofs.YteanipjgpekncaaDoor
