/- The laws' own: what wakes. -/
import Derived.Test.YteglahkgnggmgaaDoorDsF
namespace Go.Proofs.YteglahkgnggmgaaDoor
open Go.RowKit
set_option linter.unusedVariables false
set_option linter.unusedSimpArgs false
open Dr
theorem enc_wake : enc [⟨0x30, 1, []⟩, ⟨4, -1, [97]⟩] = ([0x30, 3, 4, 1, 97], 0) := by decide +kernel
set_option maxRecDepth 100000 in
theorem runs_wake : RunsD [0x30, 3, 4, 1, 97] (limL 32 4096 262144) (.el [] [] 0) (.ok [⟨0x30, 1, []⟩, ⟨4, -1, [97]⟩]) := by
  refine Runs.el (s := .loop [⟨0x30, 0, 0, 5, 0, []⟩] [⟨0x30, 0, []⟩] 2) (by kernel_rfl) (Runs.loop ?_)
  refine Runs.el (s := .pend [⟨0x30, 0, 0, 5, 0, []⟩] [⟨0x30, 0, []⟩, ⟨4, -1, [97]⟩] 2 5) (by kernel_rfl) ?_
  refine Runs.pend (s := .loop [⟨0x30, 0, 0, 5, 1, [4, 1, 97]⟩] [⟨0x30, 0, []⟩, ⟨4, -1, [97]⟩] 5) (by kernel_rfl) (Runs.loop ?_)
  refine Runs.pend (s := .loop [] [⟨0x30, 1, []⟩, ⟨4, -1, [97]⟩] 5) (by kernel_rfl) ?_
  exact Runs.fin
set_option maxRecDepth 100000 in
theorem runs_wake2 : RunsD [4, 0x81, 5] (limL 32 4096 262144) (.el [] [] 0) (.no 9 2 false) := Runs.elNo (by kernel_rfl)
end Go.Proofs.YteglahkgnggmgaaDoor
