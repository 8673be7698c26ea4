import Derived.Test.YtikgonlhdkknkaaGreatDoorCuX
import Derived.Test.YtikgonlhdkknkaaGreatDoorRows
import Derived.ProofKit
import Derived.LaidMore
import Derived.Lay
import Derived.OpenShut
import Derived.Stop.Joined
import Derived.Lib.LaidU8T
set_option linter.unusedVariables false
set_option linter.unusedSimpArgs false
namespace Go.Proofs.YtikgonlhdkknkaaGreatDoor
open Go.ChangeShapes Go.WideShapes Go.ChangeAt Go.RowKit
namespace Co
def laidF : List (String × DataW Unit) := [("unicode/utf8.acceptRanges", Rows.laid_unicode_utf8_acceptRanges), ("unicode/utf8.first", Rows.laid_unicode_utf8_first)]
theorem first_eq : (Rows.laid_unicode_utf8_first : DataW Unit) = Lib.firstData := by kernel_rfl
theorem accept_eq : (Rows.laid_unicode_utf8_acceptRanges : DataW Unit) = Lib.acceptData := by kernel_rfl
theorem door_met (os : Os) (args : Array Value) : laidMetH Tryz.prog laidF ((World.laidAll Tryz.prog os laidF).forCall (fun _ _ => 0) ⟨#[], args, []⟩).memory := by
 rw [MakeChecks.laidMetH_plain _ _ _ (by kernel_rfl)]
 exact laidMet_laidAll args (by kernel_rfl) (by kernel_rfl)
theorem u8xtra : U8Extra Tryz.prog SlaysValid_ren := { n3 := by kernel_rfl, n4 := by kernel_rfl, y3 := by kernel_rfl, y4 := by kernel_rfl, c5 := by kernel_rfl, c119 := by kernel_rfl, c138 := by kernel_rfl }
theorem cell_in {w : World} {g o : Nat} {v : Value} (h : w.cell? ⟨g, o, none⟩ = some v) : g < w.heap.size := by
 refine Nat.lt_of_not_le fun h0 => ?_
 rw [World.cell?] at h
 have hn : w.heap[g]? = none := Array.getElem?_eq_none h0
 simp [hn] at h
theorem ut_of_laid {W : World} (h : laidMetH Tryz.prog laidF W) : UT W.heap.size W := by
 rw [MakeChecks.laidMetH_plain _ _ _ (by kernel_rfl)] at h
 obtain ⟨ps, hl, _, _⟩ := h
 have h3 := Lib.LaidVars_reads hl "unicode/utf8.first" _ (List.mem_cons_of_mem _ (List.mem_cons_self ..))
 have h4 := Lib.LaidVars_reads hl "unicode/utf8.acceptRanges" _ (List.mem_cons_self ..)
 rw [first_eq] at h3
 rw [accept_eq] at h4
 have hu : U8 W := utf8Tabs_of_readsT (U8Types.of196 SlaysValid) u8xtra h3 h4
 exact ⟨hu, cell_in (hu.1 0 (by decide)), cell_in (hu.2 0 (by decide)).1⟩
end Co
end Go.Proofs.YtikgonlhdkknkaaGreatDoor
