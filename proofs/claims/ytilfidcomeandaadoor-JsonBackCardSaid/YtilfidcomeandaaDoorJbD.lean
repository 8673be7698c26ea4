/- What is told is read to the list that it was. -/
import Derived.Test.YtilfidcomeandaaDoorJbC
namespace Go.Proofs.YtilfidcomeandaaDoor
set_option linter.unusedVariables false
set_option linter.unusedSimpArgs false
namespace Jb
open Js Je
open Dr (Rs Lm has lack)
theorem right_kinds {v : Vl} (h : rightV Lib.validD v = true) : (∃ k, v = ⟨k, 0, []⟩ ∧ (k = 0 ∨ k = 1 ∨ k = 2)) ∨ (∃ t, v = ⟨3, 0, t⟩ ∧ numOk t = true) ∨ (∃ t, v = ⟨4, 0, t⟩ ∧ Lib.validD t = true) ∨ (∃ n : Nat, v = ⟨5, (n : Int), []⟩) ∨ (∃ n : Nat, v = ⟨6, (n : Int), []⟩ ∧ n % 2 = 0) := by
  obtain ⟨kind, kids, text⟩ := v
  rw [rightV] at h
  simp only at h
  split at h
  · rename_i h1
    obtain ⟨rfl, rfl⟩ := of_decide_eq_true h
    exact .inl ⟨kind, rfl, h1⟩
  · split at h
    · rename_i h1 h2
      rw [Bool.and_eq_true] at h
      obtain rfl := of_decide_eq_true h.2
      subst h2
      exact .inr (.inl ⟨text, rfl, h.1⟩)
    · split at h
      · rename_i h1 h2 h3
        rw [Bool.and_eq_true] at h
        obtain rfl := of_decide_eq_true h.2
        subst h3
        exact .inr (.inr (.inl ⟨text, rfl, h.1⟩))
      · split at h
        · rename_i h1 h2 h3 h4
          obtain ⟨rfl, h5⟩ := of_decide_eq_true h
          subst h4
          obtain ⟨n, rfl⟩ := Int.eq_ofNat_of_zero_le h5
          exact .inr (.inr (.inr (.inl ⟨n, rfl⟩)))
        · split at h
          · rename_i h1 h2 h3 h4 h5
            obtain ⟨rfl, h6, h7⟩ := of_decide_eq_true h
            subst h5
            obtain ⟨n, rfl⟩ := Int.eq_ofNat_of_zero_le h6
            exact .inr (.inr (.inr (.inr ⟨n, rfl, by omega⟩)))
          · cases h
theorem placed_name {h h' : Hf} {v : Vl} {pre : List UInt8} (hn : isName h = true) (hp : placed h v = some (h', pre)) : v.text ∉ h.names.getD [] ∧ v.kind = 4 ∧ h' = { h with left := h.left - 1, names := some (h.names.getD [] ++ [v.text]) } := by
  rw [placed, if_pos hn] at hp
  split at hp
  · cases hp
  · rename_i h1
    cases hp
    exact ⟨fun h2 => h1 (.inl h2), Decidable.byContradiction fun h2 => h1 (.inr h2), rfl⟩
theorem placed_value {h h' : Hf} {v : Vl} {pre : List UInt8} (hn : isName h = false) (hp : placed h v = some (h', pre)) : h' = { h with left := h.left - 1 } := by
  rw [placed, hn, if_neg (by decide)] at hp
  split at hp <;> cases hp <;> rfl
theorem no_next {w : Nat} (hw : wholeN w = true) {c : UInt8} (hc : c = 44 ∨ c = 58 ∨ c = 93 ∨ c = 125) : nextN w c = none := by
  rw [wholeN, decide_eq_true_iff] at hw
  rcases hw with rfl | rfl | rfl | rfl <;> rcases hc with rfl | rfl | rfl | rfl <;> decide
theorem left_lt {h h' : Hf} {st : List Hf} {G : List Fr} {b D : List Vl} {v : Vl} {pre : List UInt8} (k : Rl (h :: st) G b D) (hl : h.left ≠ 0) (hp : placed h v = some (h', pre)) : h'.left < h'.kids := by
  have h1 : h.left ≤ h.kids := by
    match G, k with
    | [], k => have := k.2.2.2; omega
    | f :: G, k => have := k.1; omega
  rw [placed] at hp
  split at hp
  · split at hp
    · cases hp
    · cases hp; show h.left - 1 < h.kids; omega
  · split at hp <;> cases hp <;> (show h.left - 1 < h.kids; omega)
end Jb
end Go.Proofs.YtilfidcomeandaaDoor
