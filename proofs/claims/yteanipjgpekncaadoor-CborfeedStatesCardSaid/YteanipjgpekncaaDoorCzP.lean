/- The machine that reads items, with how much was taken and how much is begun at its end. -/
import Derived.Test.YteanipjgpekncaaDoorCoZ
namespace Go.Proofs.YteanipjgpekncaaDoor
set_option linter.unusedVariables false
set_option linter.unusedSimpArgs false
namespace Cs
open Co
open Dr (Rs Lm has lack at0S)
/-- what was taken where the text ends, or the bytes that may be -/
def lackK (S : List UInt8) (L : Lm) : Nat := if L.bytes < S.length then L.bytes else S.length
/-- what was taken when an item is refused -/
def elK (S : List UInt8) (L : Lm) (l : List Am) (p : Nat) : Nat :=
  if has S L p = false then lackK S L
  else if L.items ≤ l.length then p + 1
  else if headE (S.getD p 0) ≠ 0 then p + 1
  else match argB S L p (widT (S.getD p 0)) with
    | .no _ _ _ => lackK S L
    | .ok _ => match argR S L p with
      | .no _ _ _ => p + 1 + widT (S.getD p 0)
      | .ok n =>
        if kindT (S.getD p 0) = 2 ∨ kindT (S.getD p 0) = 3 then (if n ≠ 0 ∧ has S L (p + 1 + widT (S.getD p 0) + n - 1) = false then lackK S L else p + 1 + widT (S.getD p 0) + n)
        else p + 1 + widT (S.getD p 0)
def finK (S : List UInt8) (L : Lm) (p : Nat) : Nat := if p < S.length then (if has S L p = true then p + 1 else lackK S L) else p
/-- the machine, with how much was taken and how much is begun at its end -/
inductive RunsT (S : List UInt8) (L : Lm) (txt : List UInt8 → Bool) : St → Rs (List Am) → Nat → Nat → Prop
  | el {G l p s r t k} : elS S L txt G l p = .ok s → RunsT S L txt s r t k → RunsT S L txt (.el G l p) r t k
  | elNo {G l p e q b} : elS S L txt G l p = .no e q b → RunsT S L txt (.el G l p) (.no e q b) (elK S L l p) G.length
  | pend {G l a p s r t k} : pendS S Op.bytesLess G l a p = .ok s → RunsT S L txt s r t k → RunsT S L txt (.pend G l a p) r t k
  | pendNo {G l a p e q b} : pendS S Op.bytesLess G l a p = .no e q b → RunsT S L txt (.pend G l a p) (.no e q b) p G.length
  | loop {f G l p r t k} : RunsT S L txt (loopS f G l p) r t k → RunsT S L txt (.loop (f :: G) l p) r t k
  | fin {l p} : RunsT S L txt (.loop [] l p) (fin S L l p) (finK S L p) 0
theorem RunsT.same {S : List UInt8} {L : Lm} {txt : List UInt8 → Bool} {s : St} {r r' : Rs (List Am)} {t k t' k' : Nat} (h : RunsT S L txt s r t k) : RunsT S L txt s r' t' k' → r = r' ∧ t = t' ∧ k = k' := by
  induction h with
  | el h1 _ ih => intro h'; cases h' with
    | el h2 h3 => rw [h1] at h2; cases h2; exact ih h3
    | elNo h2 => rw [h1] at h2; cases h2
  | elNo h1 => intro h'; cases h' with
    | el h2 h3 => rw [h1] at h2; cases h2
    | elNo h2 => rw [h1] at h2; cases h2; exact ⟨rfl, rfl, rfl⟩
  | pend h1 _ ih => intro h'; cases h' with
    | pend h2 h3 => rw [h1] at h2; cases h2; exact ih h3
    | pendNo h2 => rw [h1] at h2; cases h2
  | pendNo h1 => intro h'; cases h' with
    | pend h2 h3 => rw [h1] at h2; cases h2
    | pendNo h2 => rw [h1] at h2; cases h2; exact ⟨rfl, rfl, rfl⟩
  | loop _ ih => intro h'; cases h' with
    | loop h3 => exact ih h3
  | fin => intro h'; cases h' with
    | fin => exact ⟨rfl, rfl, rfl⟩
theorem RunsT.runs {S : List UInt8} {L : Lm} {txt : List UInt8 → Bool} {s : St} {r : Rs (List Am)} {t k : Nat} (h : RunsT S L txt s r t k) : Runs S L txt Op.bytesLess s r := by
  induction h with
  | el h1 _ ih => exact Runs.el h1 ih
  | elNo h1 => exact Runs.elNo h1
  | pend h1 _ ih => exact Runs.pend h1 ih
  | pendNo h1 => exact Runs.pendNo h1
  | loop _ ih => exact Runs.loop ih
  | fin => exact Runs.fin
theorem argB_ok {S : List UInt8} {L : Lm} {p n : Nat} (h : argR S L p = .ok n) : ∃ m, argB S L p (widT (S.getD p 0)) = .ok m := by
  rw [argR] at h
  cases hB : argB S L p (widT (S.getD p 0)) with
  | no e q b => rw [hB] at h; cases h
  | ok m => exact ⟨m, rfl⟩
end Cs
end Go.Proofs.YteanipjgpekncaaDoor
