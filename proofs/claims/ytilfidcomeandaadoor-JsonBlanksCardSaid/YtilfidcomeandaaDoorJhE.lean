/- JSON in plain words: where a fault stands is inside the text. -/
import Derived.Test.YtilfidcomeandaaDoorJsQ
namespace Go.Proofs.YtilfidcomeandaaDoor
set_option linter.unusedVariables false
set_option linter.unusedSimpArgs false
namespace Jh
open Js
open Dr (Rs Lm has lack)
def Nm (p : Nat) (s : St) : Prop := ∀ a, s.named = some a → a ≤ p
def PosO (p : Nat) : Out → Prop
  | .go s => Nm p s
  | .fl _ q => q ≤ p
theorem pos_add {L : Lm} {s : St} {p : Nat} {k : Out} (h : PosO p k) : PosO p (s.add L p k) := by
  rw [St.add]
  split
  · exact Nat.le_refl _
  · exact h
theorem nm_ended {p : Nat} {s : St} (h : Nm p s) : Nm p s.ended := fun a ha => h a ha
theorem nm_close {p : Nat} {s : St} (h : Nm p s) : Nm p s.close := by
  rw [St.close]
  split
  · exact h
  · exact fun a ha => h a ha
theorem pos_value {L : Lm} {s : St} {b : UInt8} {p : Nat} (h : Nm p s) : PosO p (s.value L b p) := by
  have h1 : ∀ k hd, PosO p (.go (s.begin k hd)) := fun k hd a ha => h a ha
  have h2 : ∀ o, PosO p (.go (s.hold o)) := fun o a ha => h a ha
  have h3 : ∀ o, PosO p (if L.depth ≤ s.G.length then .fl 10 p else .go (s.hold o)) := fun o => by
    split
    · exact Nat.le_refl _
    · exact h2 _
  rw [St.value]
  iterate 10 (all_goals first | exact pos_add (h1 _ _) | exact pos_add (h3 _) | exact Nat.le_refl _ | split)
theorem pos_name {L : Lm} {s : St} {b : UInt8} {p : Nat} : PosO p (s.name L b p) := by
  rw [St.name]
  split
  · exact pos_add fun a ha => by cases ha; exact Nat.le_refl _
  · exact Nat.le_refl _
theorem pos_pass {s : St} {r : Bool} {nx p : Nat} (h : Nm p s) : PosO p (s.pass r nx p) := by
  rw [St.pass]
  split
  · exact fun a ha => h a ha
  · exact Nat.le_refl _
theorem pos_between {L : Lm} {s : St} {b : UInt8} {p : Nat} (h : Nm p s) : PosO p (s.between L b p) := by
  rw [St.between]
  split
  · exact h
  · rw [St.step]
    split
    · exact pos_value h
    · split
      · exact nm_close h
      · exact pos_value h
    · exact pos_name
    · split
      · exact nm_close h
      · exact pos_name
    · exact pos_pass h
    · rw [St.goOn]
      repeat' split
      all_goals first | exact nm_close h | exact pos_pass h
    · exact Nat.le_refl _
theorem pos_act {L : Lm} {s : St} {b : UInt8} {p : Nat} (h : Nm p s) : PosO p (s.act L b p) := by
  rw [St.act]
  split
  · exact pos_between h
  · exact Nat.le_refl _
  · repeat' split
    all_goals first | exact h | exact Nat.le_refl _
  · split
    · exact h
    · split
      · exact pos_between (fun a ha => h a ha)
      · exact Nat.le_refl _
  · split
    · exact h
    · exact Nat.le_refl _
    · rw [St.endStr]
      split
      · exact fun a ha => h a ha
      · rename_i a ha
        split
        · exact h a ha
        · exact fun a ha => by cases ha
theorem runs_in {S : List UInt8} {L : Lm} {s : St} {p : Nat} {r : Rs (List Vl)} {t k : Nat} (h : RunsT S L s p r t k) : Nm p s → ∀ e q b, r = .no e q b → q ≤ S.length := by
  induction h with
  | stop hh =>
    intro _ e q b hr
    have h2 : (lack S L : Rs (List Vl)) = .no e q b → q ≤ S.length := fun h3 => by
      rw [lack] at h3
      cases h3
      simp only [Dr.lackP]
      split <;> omega
    rw [fin] at hr
    split at hr
    · split at hr
      · cases hr
      · exact h2 hr
    · exact h2 hr
  | fl hh ha =>
    intro hn e q b hr
    rename_i s p e' q'
    have h1 := pos_act (L := L) (b := S.getD p 0) hn
    rw [ha] at h1
    cases hr
    exact Nat.le_trans h1 (Nat.le_of_lt (has_lt hh).1)
  | go hh ha h3 ih =>
    intro hn e q b hr
    rename_i s p s' r t k
    have h1 := pos_act (L := L) (b := S.getD p 0) hn
    rw [ha] at h1
    exact ih (fun a h2 => Nat.le_succ_of_le (h1 a h2)) e q b hr
end Jh
end Go.Proofs.YtilfidcomeandaaDoor
