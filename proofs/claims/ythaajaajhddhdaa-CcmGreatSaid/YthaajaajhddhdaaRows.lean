/-
  No cell of these rows narrows 'for every input' (looked for: loops, veiled, ifaces, maps, wideKeys, modest, calm, conditions, laid).
  DERIVED. THE GIVEN ROWS OF THIS SEAT. 6 by the template 'for every input the law returns true; each argument reads behind the call as it read before'; 0 by the template 'total and deterministic' (their statements: YthaajaajhddhdaaTotals.lean).
  GIVEN WITH THE SEED: the statements are not yours to turn. If you find one false, say at which input.
  Laid BY PROGRAM, IN A SANDBOX (cutbox-rows.mjs): the forced cells as the released guide's own fill.sh prints them over the translation 62b1b78ea1401191… (all of the seat's roots in one cut). By AI agents, Wed Nov 11 2026. No macro, syntax, notation, axiom, sorry.
-/
import Derived.Test.YthaajaajhddhdaaChecked
import GoSem.Claim
import GoSem.ClaimJoined
import GoSem.ClaimMapViews
import Derived.JoinedTies
import Derived.KernelRfl
namespace Go.Proofs.Ythaajaajhddhdaa
/- THE CELL 'sum', in the pinned program and in every row, IS THE sha256 OF THE DUMP (.gsa) THAT YthaajaajhddhdaaProg.lean LOADS. Nothing in Lean hashes anything: it is a label: what it is worth is what the hold of that sum in a sandbox is worth. -/
noncomputable def Try.pinned : Pinned := { name := "ythaajaajhddhdaa", sum := "62b1b78ea14011914b3a22512a1b29c85cc909eb10bfde6c84c7a6fa8dbd9ba1", checked := Try.checked }
namespace Rows
def none {H : Type} : Left H := { results := [], args := [] }

/-- 'pyxislaw10.CcmSeals': WHATEVER THE INPUT: true; the input reads as it did. -/
def ccmSealsSpec : ChangeSpec := { name := "ccmSeals", fn := fun _ => fun
  | [d1, d2] => { results := [.lit (.bool true)], args := [d1, d2] }
  | _ => none }
def ccmSealsRow : OpenClaim := { program := "ythaajaajhddhdaa", sum := "62b1b78ea14011914b3a22512a1b29c85cc909eb10bfde6c84c7a6fa8dbd9ba1", func := "pyxis/pyxislaw10.CcmSeals", spec := "ccmSeals", inPlace := ["internal/abi.NoEscape", "internal/bytealg.MakeNoZero"], unfollowed := true, recurses := true, apart := false }
def CcmSealsSaid : Prop := ccmSealsRow.holds Try.pinned (OpenSpec.ofChange ccmSealsSpec)

/-- ITS FALSE NEIGHBOUR: 'it returns false'. Refute it at one input. -/
def ccmSealsWrong : ChangeSpec := { name := "ccmSeals", fn := fun _ => fun
  | [d1, d2] => { results := [.lit (.bool false)], args := [d1, d2] }
  | _ => none }
def CcmSealsWrongFalsely : Prop := ccmSealsRow.holds Try.pinned (OpenSpec.ofChange ccmSealsWrong)

/-- 'pyxislaw10.CcmOpens': WHATEVER THE INPUT: true; the input reads as it did. -/
def ccmOpensSpec : ChangeSpec := { name := "ccmOpens", fn := fun _ => fun
  | [d1, d2] => { results := [.lit (.bool true)], args := [d1, d2] }
  | _ => none }
def ccmOpensRow : OpenClaim := { program := "ythaajaajhddhdaa", sum := "62b1b78ea14011914b3a22512a1b29c85cc909eb10bfde6c84c7a6fa8dbd9ba1", func := "pyxis/pyxislaw10.CcmOpens", spec := "ccmOpens", inPlace := ["internal/abi.NoEscape", "internal/bytealg.MakeNoZero"], unfollowed := true, recurses := true, apart := false }
def CcmOpensSaid : Prop := ccmOpensRow.holds Try.pinned (OpenSpec.ofChange ccmOpensSpec)

/-- ITS FALSE NEIGHBOUR: 'it returns false'. Refute it at one input. -/
def ccmOpensWrong : ChangeSpec := { name := "ccmOpens", fn := fun _ => fun
  | [d1, d2] => { results := [.lit (.bool false)], args := [d1, d2] }
  | _ => none }
def CcmOpensWrongFalsely : Prop := ccmOpensRow.holds Try.pinned (OpenSpec.ofChange ccmOpensWrong)

/-- 'pyxislaw10.CcmTags': WHATEVER THE INPUT: true; the input reads as it did. -/
def ccmTagsSpec : ChangeSpec := { name := "ccmTags", fn := fun _ => fun
  | [d1, d2] => { results := [.lit (.bool true)], args := [d1, d2] }
  | _ => none }
def ccmTagsRow : OpenClaim := { program := "ythaajaajhddhdaa", sum := "62b1b78ea14011914b3a22512a1b29c85cc909eb10bfde6c84c7a6fa8dbd9ba1", func := "pyxis/pyxislaw10.CcmTags", spec := "ccmTags", inPlace := ["internal/abi.NoEscape", "internal/bytealg.MakeNoZero"], unfollowed := true, recurses := true, apart := false }
def CcmTagsSaid : Prop := ccmTagsRow.holds Try.pinned (OpenSpec.ofChange ccmTagsSpec)

/-- ITS FALSE NEIGHBOUR: 'it returns false'. Refute it at one input. -/
def ccmTagsWrong : ChangeSpec := { name := "ccmTags", fn := fun _ => fun
  | [d1, d2] => { results := [.lit (.bool false)], args := [d1, d2] }
  | _ => none }
def CcmTagsWrongFalsely : Prop := ccmTagsRow.holds Try.pinned (OpenSpec.ofChange ccmTagsWrong)

/-- 'pyxislaw10.CcmBack': WHATEVER THE INPUT: true; the input reads as it did. -/
def ccmBackSpec : ChangeSpec := { name := "ccmBack", fn := fun _ => fun
  | [d1, d2] => { results := [.lit (.bool true)], args := [d1, d2] }
  | _ => none }
def ccmBackRow : OpenClaim := { program := "ythaajaajhddhdaa", sum := "62b1b78ea14011914b3a22512a1b29c85cc909eb10bfde6c84c7a6fa8dbd9ba1", func := "pyxis/pyxislaw10.CcmBack", spec := "ccmBack", inPlace := ["internal/abi.NoEscape", "internal/bytealg.MakeNoZero"], unfollowed := true, recurses := true, apart := false }
def CcmBackSaid : Prop := ccmBackRow.holds Try.pinned (OpenSpec.ofChange ccmBackSpec)

/-- ITS FALSE NEIGHBOUR: 'it returns false'. Refute it at one input. -/
def ccmBackWrong : ChangeSpec := { name := "ccmBack", fn := fun _ => fun
  | [d1, d2] => { results := [.lit (.bool false)], args := [d1, d2] }
  | _ => none }
def CcmBackWrongFalsely : Prop := ccmBackRow.holds Try.pinned (OpenSpec.ofChange ccmBackWrong)

/-- 'pyxislaw10.CcmGreat': WHATEVER THE INPUT: true; the input reads as it did. -/
def ccmGreatSpec : ChangeSpec := { name := "ccmGreat", fn := fun _ => fun
  | [d1, d2, d3] => { results := [.lit (.bool true)], args := [d1, d2, d3] }
  | _ => none }
def ccmGreatRow : OpenClaim := { program := "ythaajaajhddhdaa", sum := "62b1b78ea14011914b3a22512a1b29c85cc909eb10bfde6c84c7a6fa8dbd9ba1", func := "pyxis/pyxislaw10.CcmGreat", spec := "ccmGreat", inPlace := ["internal/abi.NoEscape", "internal/bytealg.MakeNoZero"], unfollowed := true, recurses := true, apart := false }
def CcmGreatSaid : Prop := ccmGreatRow.holds Try.pinned (OpenSpec.ofChange ccmGreatSpec)

/-- ITS FALSE NEIGHBOUR: 'it returns false'. Refute it at one input. -/
def ccmGreatWrong : ChangeSpec := { name := "ccmGreat", fn := fun _ => fun
  | [d1, d2, d3] => { results := [.lit (.bool false)], args := [d1, d2, d3] }
  | _ => none }
def CcmGreatWrongFalsely : Prop := ccmGreatRow.holds Try.pinned (OpenSpec.ofChange ccmGreatWrong)

/-- 'pyxislaw10.CcmChanged': WHATEVER THE INPUT: true; the input reads as it did. -/
def ccmChangedSpec : ChangeSpec := { name := "ccmChanged", fn := fun _ => fun
  | [d1, d2, d3] => { results := [.lit (.bool true)], args := [d1, d2, d3] }
  | _ => none }
def ccmChangedRow : OpenClaim := { program := "ythaajaajhddhdaa", sum := "62b1b78ea14011914b3a22512a1b29c85cc909eb10bfde6c84c7a6fa8dbd9ba1", func := "pyxis/pyxislaw10.CcmChanged", spec := "ccmChanged", inPlace := ["internal/abi.NoEscape", "internal/bytealg.MakeNoZero"], unfollowed := true, recurses := true, apart := false }
def CcmChangedSaid : Prop := ccmChangedRow.holds Try.pinned (OpenSpec.ofChange ccmChangedSpec)

/-- ITS FALSE NEIGHBOUR: 'it returns false'. Refute it at one input. -/
def ccmChangedWrong : ChangeSpec := { name := "ccmChanged", fn := fun _ => fun
  | [d1, d2, d3] => { results := [.lit (.bool false)], args := [d1, d2, d3] }
  | _ => none }
def CcmChangedWrongFalsely : Prop := ccmChangedRow.holds Try.pinned (OpenSpec.ofChange ccmChangedWrong)

/- THE SECOND FORM. 'bulk': how many values and letters a reading holds, each counted each time it is reached (what is shared counts as often as it is met; a slice's spare places count too). A statement '..UptoSaid' is the law's where the arguments, and the package variables that the reading takes, are together of bulk at most 1048576: NARROWER than '..Said'. Prove '..Said' where nothing that the law and all that it calls make is longer than what came in: it says more and counts as full. Else prove '..UptoSaid'. A law counts once. -/
mutual
def uptoBulk {H : Type} : DataW H → Nat
  | .lit (.string bytes) => bytes.length + 1
  | .lit _ => 1
  | .nil => 1
  | .ptr d => uptoBulk d + 1
  | .slice elems spare => uptoBulkAll elems + uptoBulkAll spare + 1
  | .agg parts => uptoBulkAll parts + 1
  | .iface _ d => uptoBulk d + 1
  | .map entries => uptoBulkEntries entries + 1
  | .held _ => 1
def uptoBulkAll {H : Type} : List (DataW H) → Nat
  | [] => 0
  | d :: r => uptoBulk d + uptoBulkAll r
def uptoBulkEntries {H : Type} : List (Lit × DataW H) → Nat
  | [] => 0
  | x :: r => uptoBulkEntry x + uptoBulkEntries r
def uptoBulkEntry {H : Type} : Lit × DataW H → Nat
  | (.string bytes, d) => bytes.length + uptoBulk d + 1
  | (_, d) => uptoBulk d + 1
 end
def uptoSmall : (H : Type) → List (DataW H) → Bool := fun _ ds => decide (uptoBulkAll ds ≤ 1048576)
def OpenSpec.upto (s : _root_.Go.ChangeSpec) : _root_.Go.OpenSpec := { _root_.Go.OpenSpec.ofChange s with cond := some uptoSmall }

/-- 'pyxislaw10.CcmSeals', WHERE WHAT IT READS IS OF BULK AT MOST 1048576: true; the input reads as it did. -/
def ccmSealsUptoRow : OpenClaim := { program := "ythaajaajhddhdaa", sum := "62b1b78ea14011914b3a22512a1b29c85cc909eb10bfde6c84c7a6fa8dbd9ba1", func := "pyxis/pyxislaw10.CcmSeals", spec := "ccmSeals", inPlace := ["internal/abi.NoEscape", "internal/bytealg.MakeNoZero"], unfollowed := true, recurses := true, apart := false, narrowed := true }
def CcmSealsUptoSaid : Prop := ccmSealsUptoRow.holds Try.pinned (OpenSpec.upto ccmSealsSpec)

/-- 'pyxislaw10.CcmOpens', WHERE WHAT IT READS IS OF BULK AT MOST 1048576: true; the input reads as it did. -/
def ccmOpensUptoRow : OpenClaim := { program := "ythaajaajhddhdaa", sum := "62b1b78ea14011914b3a22512a1b29c85cc909eb10bfde6c84c7a6fa8dbd9ba1", func := "pyxis/pyxislaw10.CcmOpens", spec := "ccmOpens", inPlace := ["internal/abi.NoEscape", "internal/bytealg.MakeNoZero"], unfollowed := true, recurses := true, apart := false, narrowed := true }
def CcmOpensUptoSaid : Prop := ccmOpensUptoRow.holds Try.pinned (OpenSpec.upto ccmOpensSpec)

/-- 'pyxislaw10.CcmTags', WHERE WHAT IT READS IS OF BULK AT MOST 1048576: true; the input reads as it did. -/
def ccmTagsUptoRow : OpenClaim := { program := "ythaajaajhddhdaa", sum := "62b1b78ea14011914b3a22512a1b29c85cc909eb10bfde6c84c7a6fa8dbd9ba1", func := "pyxis/pyxislaw10.CcmTags", spec := "ccmTags", inPlace := ["internal/abi.NoEscape", "internal/bytealg.MakeNoZero"], unfollowed := true, recurses := true, apart := false, narrowed := true }
def CcmTagsUptoSaid : Prop := ccmTagsUptoRow.holds Try.pinned (OpenSpec.upto ccmTagsSpec)

/-- 'pyxislaw10.CcmBack', WHERE WHAT IT READS IS OF BULK AT MOST 1048576: true; the input reads as it did. -/
def ccmBackUptoRow : OpenClaim := { program := "ythaajaajhddhdaa", sum := "62b1b78ea14011914b3a22512a1b29c85cc909eb10bfde6c84c7a6fa8dbd9ba1", func := "pyxis/pyxislaw10.CcmBack", spec := "ccmBack", inPlace := ["internal/abi.NoEscape", "internal/bytealg.MakeNoZero"], unfollowed := true, recurses := true, apart := false, narrowed := true }
def CcmBackUptoSaid : Prop := ccmBackUptoRow.holds Try.pinned (OpenSpec.upto ccmBackSpec)

/-- 'pyxislaw10.CcmGreat', WHERE WHAT IT READS IS OF BULK AT MOST 1048576: true; the input reads as it did. -/
def ccmGreatUptoRow : OpenClaim := { program := "ythaajaajhddhdaa", sum := "62b1b78ea14011914b3a22512a1b29c85cc909eb10bfde6c84c7a6fa8dbd9ba1", func := "pyxis/pyxislaw10.CcmGreat", spec := "ccmGreat", inPlace := ["internal/abi.NoEscape", "internal/bytealg.MakeNoZero"], unfollowed := true, recurses := true, apart := false, narrowed := true }
def CcmGreatUptoSaid : Prop := ccmGreatUptoRow.holds Try.pinned (OpenSpec.upto ccmGreatSpec)

/-- 'pyxislaw10.CcmChanged', WHERE WHAT IT READS IS OF BULK AT MOST 1048576: true; the input reads as it did. -/
def ccmChangedUptoRow : OpenClaim := { program := "ythaajaajhddhdaa", sum := "62b1b78ea14011914b3a22512a1b29c85cc909eb10bfde6c84c7a6fa8dbd9ba1", func := "pyxis/pyxislaw10.CcmChanged", spec := "ccmChanged", inPlace := ["internal/abi.NoEscape", "internal/bytealg.MakeNoZero"], unfollowed := true, recurses := true, apart := false, narrowed := true }
def CcmChangedUptoSaid : Prop := ccmChangedUptoRow.holds Try.pinned (OpenSpec.upto ccmChangedSpec)

end Rows
end Go.Proofs.Ythaajaajhddhdaa
