/- Arrays of four words, in and out of their variables. -/
import Derived.Test.YthofcjjllmnjbaaDoorRowA
namespace Go.Proofs.YthofcjjllmnjbaaDoor
open Go.RowKit
set_option linter.unusedVariables false
set_option linter.unusedSimpArgs false
/-- a row that is written over from its head on -/
def mixP {α : Type} (N : Nat) (f g : Nat → α) (k : Nat) : List α := (List.range N).map fun i => if i < k then f i else g i
theorem mixP_length {α : Type} (N : Nat) (f g : Nat → α) (k : Nat) : (mixP N f g k).length = N := by simp [mixP]
theorem mixP_zero {α : Type} (N : Nat) (f g : Nat → α) : mixP N f g 0 = (List.range N).map g := by simp [mixP]
theorem mixP_full {α : Type} (N : Nat) (f g : Nat → α) : mixP N f g N = (List.range N).map f := by
  apply List.ext_getElem
  · simp [mixP]
  · intro i h1 h2
    have : i < N := by simpa [mixP] using h1
    simp [mixP, this]
theorem mixP_set {α : Type} (N : Nat) (f g : Nat → α) (k : Nat) : (mixP N f g k).set k (f k) = mixP N f g (k + 1) := by
  apply List.ext_getElem
  · simp [mixP]
  · intro i h1 h2
    have hi : i < N := by simpa [mixP] using h2
    rw [List.getElem_set]
    by_cases e : k = i
    · subst e
      simp [mixP]
    · rw [if_neg e]
      simp only [mixP, List.getElem_map, List.getElem_range]
      by_cases h : i < k
      · rw [if_pos h, if_pos (by omega)]
      · rw [if_neg h, if_neg (by omega)]
theorem mixP_at {α : Type} (N : Nat) (f g : Nat → α) (k j : Nat) (d : α) (hj : j < N) : (mixP N f g k).getD j d = if j < k then f j else g j := by simp [mixP, List.getD, hj]
theorem map_getD {α : Type} (l : List α) (d : α) (N : Nat) (h : l.length = N) : (List.range N).map (fun i => l.getD i d) = l := by
  subst h
  apply List.ext_getElem
  · simp
  · intro i h1 h2
    simp [List.getD, h2]
theorem col_zero : (#[Value.int .u32 0, Value.int .u32 0, Value.int .u32 0, Value.int .u32 0] : Array Value).toList = wcells [0, 0, 0, 0] := rfl
section
variable {P : Program} {w : World}
theorem results_at_two {fn : Func} {p u : Tmp} {ty : TypeId} (h : fn.results = #[.cell p ty, .tmp u]) (tmps : Array Value) (g : Nat) (cs : List Value) (d : TypeDesc)
    (hp : tmps.getD p undef = .pointer (some ⟨g, 0, none⟩)) (hg : At w g 0 cs) (hu : P.underlying ty = some d) (hd : d.isRow = true) (hi : (P.info? ty).map (·.size) = some cs.length) (v : Value) (hv : tmps.getD u undef = v) :
    (results fn tmps).run P w = .ok (.tuple #[.agg cs.toArray, v]) w := by
  subst hv
  have hp' : tmps[p]?.getD undef = .pointer (some ⟨g, 0, none⟩) := by simpa using hp
  simp [results, h, hp', asAddr, run_loadVar_mid w g 0 ty cs d hg.range hu hd hi, Result.andThen]
end
end Go.Proofs.YthofcjjllmnjbaaDoor
