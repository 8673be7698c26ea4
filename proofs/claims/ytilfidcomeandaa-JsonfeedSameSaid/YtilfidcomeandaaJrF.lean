/- The document's reader of JSON: a word. -/
import Derived.Test.YtilfidcomeandaaJrC
namespace Go.Proofs.Ytilfidcomeandaa
open Go.RowKit
set_option linter.unusedVariables false
set_option linter.unusedSimpArgs false
namespace Jr
open Js
open Dr (Rs Lm has lack lackE lackP)
/-- a word at hand -/
def wx (st : St) (r : List UInt8) : St := { st with hand := .word r }
theorem wx_last (st : St) (r : List UInt8) : (wx st r).last = none := by
  rw [St.last]
  split
  · rfl
  · rfl
theorem wx_act (L : Lm) (st : St) (x : UInt8) (r : List UInt8) (b : UInt8) (p : Nat) : (wx st (x :: r)).act L b p = if b = x then (if r = [] then .go st.ended else .go (wx st r)) else .fl 9 p := rfl
/-- behind the first i bytes of a word x :: r, whose first byte stands at p -/
def WordAt (S : List UInt8) (L : Lm) (st : St) (x : UInt8) (r : List UInt8) (p i : Nat) : Prop :=
  (1 ≤ i → i ≤ r.length → Cl S L (wx st (r.drop (i - 1))) (p + i) (wx st r) (p + 1)) ∧ (i = r.length + 1 → Cl S L st.ended (p + i) (wx st r) (p + 1))
theorem WordAt.zero (S : List UInt8) (L : Lm) (st : St) (x : UInt8) (r : List UInt8) (p : Nat) : WordAt S L st x r p 0 := ⟨fun h => absurd h (by decide), fun h => by omega⟩
theorem WordAt.step {S : List UInt8} {L : Lm} {st : St} {x : UInt8} {r : List UInt8} {p i : Nat} (hr : r ≠ []) (h : WordAt S L st x r p i) (hi : i < r.length + 1) (hh : has S L (p + i) = true) (hb : S.getD (p + i) 0 = (x :: r).getD i 0) : WordAt S L st x r p (i + 1) := by
  have hl : 0 < r.length := List.length_pos_iff.2 hr
  by_cases h0 : i = 0
  · subst h0
    exact ⟨fun _ _ => Cl.refl _ _ _ _, fun h9 => by omega⟩
  · have h2 := h.1 (by omega) (by omega)
    obtain ⟨j, rfl⟩ : ∃ j, i = j + 1 := ⟨i - 1, by omega⟩
    rw [Nat.add_sub_cancel] at h2
    have hd : r.drop j = r[j] :: r.drop (j + 1) := List.drop_eq_getElem_cons (by omega)
    have hx : S.getD (p + (j + 1)) 0 = r[j] := by
      rw [hb, List.getD, List.getElem?_cons_succ, List.getElem?_eq_getElem (by omega)]
      rfl
    rw [hd] at h2
    have ha : (wx st (r[j] :: r.drop (j + 1))).act L (S.getD (p + (j + 1)) 0) (p + (j + 1)) = if r.drop (j + 1) = [] then .go st.ended else .go (wx st (r.drop (j + 1))) := by rw [wx_act, if_pos hx]
    refine ⟨fun _ h8 => ?_, fun h9 => ?_⟩
    · rw [if_neg (by intro e; have := congrArg List.length e; rw [List.length_drop] at this; simp at this; omega)] at ha
      exact Cl.trans (fun r' t k h7 => RunsT.go hh ha h7) h2
    · rw [if_pos (List.drop_eq_nil_of_le (by omega))] at ha
      exact Cl.trans (fun r' t k h7 => RunsT.go hh ha h7) h2
def RetWord (st : St) (x : UInt8) (r : List UInt8) (p : Nat) (g : Nat) (s : ByteArray) (L : Lm) (ro : Int) (O : List Vl) (w : World) (e : Ending) (w' : World) : Prop :=
  (Cl s.toList L st.ended (p + r.length + 1) (wx st r) (p + 1) ∧ GYes (.tuple #[.int .i64 ((p + r.length + 1 : Nat) : Int), .bool true]) g s L ro O st.G.length (p + r.length + 1) w e w') ∨
  (∃ c q b tk, RunsT s.toList L (wx st r) (p + 1) (.no c q b) tk st.G.length ∧ GNay (.tuple #[.int .i64 0, .bool false]) g s L ro c q b tk st.G.length w e w')
end Jr
end Go.Proofs.Ytilfidcomeandaa
