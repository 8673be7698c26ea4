/-
  NARROWER THAN 'FOR EVERY INPUT', by the rows' own cells (each row's printed sentence says how): DerReads: laid · DerTells: laid · DerBack: laid · DerOneWay: laid · DerLimits: laid · DerCut: laid · DerfeedPieces: laid · DerfeedSame: laid · DerfeedStops: laid · DerfeedNil: laid.
  DERIVED. THE GIVEN ROWS OF THIS SEAT. 10 by the template 'for every input the law returns true; each argument reads behind the call as it read before'; 0 by the template 'total and deterministic' (their statements: YteglahkgnggmgaaDoorTotals.lean).
  GIVEN WITH THE SEED: the statements are not yours to turn. If you find one false, say at which input.
  Laid BY PROGRAM, IN A SANDBOX (cutbox-rows.mjs): the forced cells as the released guide's own fill.sh prints them over the translation 2ebb0b104adab5f9… (all of the seat's roots in one cut). By AI agents, Wed Nov 11 2026. No macro, syntax, notation, axiom, sorry.
-/
import Derived.Test.YteglahkgnggmgaaDoorChecked
import GoSem.PinnedTables
import GoSem.Claim
import GoSem.ClaimJoined
import GoSem.ClaimMapViews
import Derived.JoinedTies
import Derived.KernelRfl
namespace Go.Proofs.YteglahkgnggmgaaDoor
/- THE CELL 'sum', in the pinned program and in every row, IS THE sha256 OF THE DUMP (.gsa) THAT YteglahkgnggmgaaDoorProg.lean LOADS. Nothing in Lean hashes anything: it is a label: what it is worth is what the hold of that sum in a sandbox is worth. -/
noncomputable def Tryd.pinned : Pinned := { name := "yteglahkgnggmgaadoor", sum := "2ebb0b104adab5f9c62af5e4de14424575e91a54e3a1c61bd547f93b6d02208c", checked := Tryd.checked }
namespace Rows
def none {H : Type} : Left H := { results := [], args := [] }

/- WHAT THE LISTED PACKAGE-LEVEL VARIABLES READ AS WHEN THE CALL BEGINS. Each datum BY PROGRAM (the guide's laid-datum.mjs) off the statement by which the dump's own 'gosem.cut.vars' lays the variable. In a bare row this is a premise. The card (YteglahkgnggmgaaDoorCards.lean) ties it to the program's text. -/
def laid_unicode_utf8_acceptRanges {H : Type} : DataW H := .agg [.agg [.lit (.int .u8 128), .lit (.int .u8 191)], .agg [.lit (.int .u8 160), .lit (.int .u8 191)], .agg [.lit (.int .u8 128), .lit (.int .u8 159)], .agg [.lit (.int .u8 144), .lit (.int .u8 191)], .agg [.lit (.int .u8 128), .lit (.int .u8 143)], .agg [.lit (.int .u8 0), .lit (.int .u8 0)], .agg [.lit (.int .u8 0), .lit (.int .u8 0)], .agg [.lit (.int .u8 0), .lit (.int .u8 0)], .agg [.lit (.int .u8 0), .lit (.int .u8 0)], .agg [.lit (.int .u8 0), .lit (.int .u8 0)], .agg [.lit (.int .u8 0), .lit (.int .u8 0)], .agg [.lit (.int .u8 0), .lit (.int .u8 0)], .agg [.lit (.int .u8 0), .lit (.int .u8 0)], .agg [.lit (.int .u8 0), .lit (.int .u8 0)], .agg [.lit (.int .u8 0), .lit (.int .u8 0)], .agg [.lit (.int .u8 0), .lit (.int .u8 0)]]
/-- One of Go's own tables, pinned by name: the form's constant. -/
def laid_unicode_utf8_first : DataW Unit := Go.Pinned.utf8First

/-- 'pyxislaw15.DerReads': WHATEVER THE INPUT: true; the input reads as it did. -/
def derReadsSpec : ChangeSpec := { name := "derReads", fn := fun _ => fun
  | [d1, d2] => { results := [.lit (.bool true)], args := [d1, d2] }
  | _ => none }
def derReadsRow : OpenClaim := { program := "yteglahkgnggmgaadoor", sum := "2ebb0b104adab5f9c62af5e4de14424575e91a54e3a1c61bd547f93b6d02208c", func := "pyxis/pyxislaw15.DerReads", spec := "derReads", inPlace := ["internal/abi.NoEscape"], unfollowed := true, recurses := true, named := ["unicode/utf8.first", "unicode/utf8.acceptRanges"], apart := false, laid := [("unicode/utf8.acceptRanges", laid_unicode_utf8_acceptRanges), ("unicode/utf8.first", laid_unicode_utf8_first)] }
def DerReadsSaid : Prop := derReadsRow.holds Tryd.pinned (OpenSpec.ofChange derReadsSpec)

/-- ITS FALSE NEIGHBOUR: 'it returns false'. Refute it at one input. -/
def derReadsWrong : ChangeSpec := { name := "derReads", fn := fun _ => fun
  | [d1, d2] => { results := [.lit (.bool false)], args := [d1, d2] }
  | _ => none }
def DerReadsWrongFalsely : Prop := derReadsRow.holds Tryd.pinned (OpenSpec.ofChange derReadsWrong)

/-- 'pyxislaw15.DerTells': WHATEVER THE INPUT: true; the input reads as it did. -/
def derTellsSpec : ChangeSpec := { name := "derTells", fn := fun _ => fun
  | [d] => { results := [.lit (.bool true)], args := [d] }
  | _ => none }
def derTellsRow : OpenClaim := { program := "yteglahkgnggmgaadoor", sum := "2ebb0b104adab5f9c62af5e4de14424575e91a54e3a1c61bd547f93b6d02208c", func := "pyxis/pyxislaw15.DerTells", spec := "derTells", inPlace := ["internal/abi.NoEscape"], unfollowed := true, recurses := true, named := ["unicode/utf8.first", "unicode/utf8.acceptRanges"], apart := false, laid := [("unicode/utf8.acceptRanges", laid_unicode_utf8_acceptRanges), ("unicode/utf8.first", laid_unicode_utf8_first)] }
def DerTellsSaid : Prop := derTellsRow.holds Tryd.pinned (OpenSpec.ofChange derTellsSpec)

/-- ITS FALSE NEIGHBOUR: 'it returns false'. Refute it at one input. -/
def derTellsWrong : ChangeSpec := { name := "derTells", fn := fun _ => fun
  | [d] => { results := [.lit (.bool false)], args := [d] }
  | _ => none }
def DerTellsWrongFalsely : Prop := derTellsRow.holds Tryd.pinned (OpenSpec.ofChange derTellsWrong)

/-- 'pyxislaw15.DerBack': WHATEVER THE INPUT: true; the input reads as it did. -/
def derBackSpec : ChangeSpec := { name := "derBack", fn := fun _ => fun
  | [d] => { results := [.lit (.bool true)], args := [d] }
  | _ => none }
def derBackRow : OpenClaim := { program := "yteglahkgnggmgaadoor", sum := "2ebb0b104adab5f9c62af5e4de14424575e91a54e3a1c61bd547f93b6d02208c", func := "pyxis/pyxislaw15.DerBack", spec := "derBack", inPlace := ["internal/abi.NoEscape"], unfollowed := true, recurses := true, named := ["unicode/utf8.first", "unicode/utf8.acceptRanges"], apart := false, laid := [("unicode/utf8.acceptRanges", laid_unicode_utf8_acceptRanges), ("unicode/utf8.first", laid_unicode_utf8_first)] }
def DerBackSaid : Prop := derBackRow.holds Tryd.pinned (OpenSpec.ofChange derBackSpec)

/-- ITS FALSE NEIGHBOUR: 'it returns false'. Refute it at one input. -/
def derBackWrong : ChangeSpec := { name := "derBack", fn := fun _ => fun
  | [d] => { results := [.lit (.bool false)], args := [d] }
  | _ => none }
def DerBackWrongFalsely : Prop := derBackRow.holds Tryd.pinned (OpenSpec.ofChange derBackWrong)

/-- 'pyxislaw15.DerOneWay': WHATEVER THE INPUT: true; the input reads as it did. -/
def derOneWaySpec : ChangeSpec := { name := "derOneWay", fn := fun _ => fun
  | [d1, d2] => { results := [.lit (.bool true)], args := [d1, d2] }
  | _ => none }
def derOneWayRow : OpenClaim := { program := "yteglahkgnggmgaadoor", sum := "2ebb0b104adab5f9c62af5e4de14424575e91a54e3a1c61bd547f93b6d02208c", func := "pyxis/pyxislaw15.DerOneWay", spec := "derOneWay", inPlace := ["internal/abi.NoEscape"], unfollowed := true, recurses := true, named := ["unicode/utf8.first", "unicode/utf8.acceptRanges"], apart := false, laid := [("unicode/utf8.acceptRanges", laid_unicode_utf8_acceptRanges), ("unicode/utf8.first", laid_unicode_utf8_first)] }
def DerOneWaySaid : Prop := derOneWayRow.holds Tryd.pinned (OpenSpec.ofChange derOneWaySpec)

/-- ITS FALSE NEIGHBOUR: 'it returns false'. Refute it at one input. -/
def derOneWayWrong : ChangeSpec := { name := "derOneWay", fn := fun _ => fun
  | [d1, d2] => { results := [.lit (.bool false)], args := [d1, d2] }
  | _ => none }
def DerOneWayWrongFalsely : Prop := derOneWayRow.holds Tryd.pinned (OpenSpec.ofChange derOneWayWrong)

/-- 'pyxislaw15.DerLimits': WHATEVER THE INPUT: true; the input reads as it did. -/
def derLimitsSpec : ChangeSpec := { name := "derLimits", fn := fun _ => fun
  | [d1, d2, d3] => { results := [.lit (.bool true)], args := [d1, d2, d3] }
  | _ => none }
def derLimitsRow : OpenClaim := { program := "yteglahkgnggmgaadoor", sum := "2ebb0b104adab5f9c62af5e4de14424575e91a54e3a1c61bd547f93b6d02208c", func := "pyxis/pyxislaw15.DerLimits", spec := "derLimits", inPlace := ["internal/abi.NoEscape"], unfollowed := true, recurses := true, named := ["unicode/utf8.first", "unicode/utf8.acceptRanges"], apart := false, laid := [("unicode/utf8.acceptRanges", laid_unicode_utf8_acceptRanges), ("unicode/utf8.first", laid_unicode_utf8_first)] }
def DerLimitsSaid : Prop := derLimitsRow.holds Tryd.pinned (OpenSpec.ofChange derLimitsSpec)

/-- ITS FALSE NEIGHBOUR: 'it returns false'. Refute it at one input. -/
def derLimitsWrong : ChangeSpec := { name := "derLimits", fn := fun _ => fun
  | [d1, d2, d3] => { results := [.lit (.bool false)], args := [d1, d2, d3] }
  | _ => none }
def DerLimitsWrongFalsely : Prop := derLimitsRow.holds Tryd.pinned (OpenSpec.ofChange derLimitsWrong)

/-- 'pyxislaw15.DerCut': WHATEVER THE INPUT: true; the input reads as it did. -/
def derCutSpec : ChangeSpec := { name := "derCut", fn := fun _ => fun
  | [d1, d2, d3] => { results := [.lit (.bool true)], args := [d1, d2, d3] }
  | _ => none }
def derCutRow : OpenClaim := { program := "yteglahkgnggmgaadoor", sum := "2ebb0b104adab5f9c62af5e4de14424575e91a54e3a1c61bd547f93b6d02208c", func := "pyxis/pyxislaw15.DerCut", spec := "derCut", inPlace := ["internal/abi.NoEscape"], unfollowed := true, recurses := true, named := ["unicode/utf8.first", "unicode/utf8.acceptRanges"], apart := false, laid := [("unicode/utf8.acceptRanges", laid_unicode_utf8_acceptRanges), ("unicode/utf8.first", laid_unicode_utf8_first)] }
def DerCutSaid : Prop := derCutRow.holds Tryd.pinned (OpenSpec.ofChange derCutSpec)

/-- ITS FALSE NEIGHBOUR: 'it returns false'. Refute it at one input. -/
def derCutWrong : ChangeSpec := { name := "derCut", fn := fun _ => fun
  | [d1, d2, d3] => { results := [.lit (.bool false)], args := [d1, d2, d3] }
  | _ => none }
def DerCutWrongFalsely : Prop := derCutRow.holds Tryd.pinned (OpenSpec.ofChange derCutWrong)

/-- 'pyxislaw18.DerfeedPieces': WHATEVER THE INPUT: true; the input reads as it did. -/
def derfeedPiecesSpec : ChangeSpec := { name := "derfeedPieces", fn := fun _ => fun
  | [d1, d2] => { results := [.lit (.bool true)], args := [d1, d2] }
  | _ => none }
def derfeedPiecesRow : OpenClaim := { program := "yteglahkgnggmgaadoor", sum := "2ebb0b104adab5f9c62af5e4de14424575e91a54e3a1c61bd547f93b6d02208c", func := "pyxis/pyxislaw18.DerfeedPieces", spec := "derfeedPieces", inPlace := ["internal/bytealg.Compare"], unfollowed := true, recurses := true, named := ["unicode/utf8.first", "unicode/utf8.acceptRanges"], apart := false, laid := [("unicode/utf8.acceptRanges", laid_unicode_utf8_acceptRanges), ("unicode/utf8.first", laid_unicode_utf8_first)] }
def DerfeedPiecesSaid : Prop := derfeedPiecesRow.holds Tryd.pinned (OpenSpec.ofChange derfeedPiecesSpec)

/-- ITS FALSE NEIGHBOUR: 'it returns false'. Refute it at one input. -/
def derfeedPiecesWrong : ChangeSpec := { name := "derfeedPieces", fn := fun _ => fun
  | [d1, d2] => { results := [.lit (.bool false)], args := [d1, d2] }
  | _ => none }
def DerfeedPiecesWrongFalsely : Prop := derfeedPiecesRow.holds Tryd.pinned (OpenSpec.ofChange derfeedPiecesWrong)

/-- 'pyxislaw18.DerfeedSame': WHATEVER THE INPUT: true; the input reads as it did. -/
def derfeedSameSpec : ChangeSpec := { name := "derfeedSame", fn := fun _ => fun
  | [d1, d2, d3] => { results := [.lit (.bool true)], args := [d1, d2, d3] }
  | _ => none }
def derfeedSameRow : OpenClaim := { program := "yteglahkgnggmgaadoor", sum := "2ebb0b104adab5f9c62af5e4de14424575e91a54e3a1c61bd547f93b6d02208c", func := "pyxis/pyxislaw18.DerfeedSame", spec := "derfeedSame", inPlace := ["internal/bytealg.Compare"], unfollowed := true, recurses := true, named := ["unicode/utf8.first", "unicode/utf8.acceptRanges"], apart := false, laid := [("unicode/utf8.acceptRanges", laid_unicode_utf8_acceptRanges), ("unicode/utf8.first", laid_unicode_utf8_first)] }
def DerfeedSameSaid : Prop := derfeedSameRow.holds Tryd.pinned (OpenSpec.ofChange derfeedSameSpec)

/-- ITS FALSE NEIGHBOUR: 'it returns false'. Refute it at one input. -/
def derfeedSameWrong : ChangeSpec := { name := "derfeedSame", fn := fun _ => fun
  | [d1, d2, d3] => { results := [.lit (.bool false)], args := [d1, d2, d3] }
  | _ => none }
def DerfeedSameWrongFalsely : Prop := derfeedSameRow.holds Tryd.pinned (OpenSpec.ofChange derfeedSameWrong)

/-- 'pyxislaw18.DerfeedStops': WHATEVER THE INPUT: true; the input reads as it did. -/
def derfeedStopsSpec : ChangeSpec := { name := "derfeedStops", fn := fun _ => fun
  | [d1, d2, d3] => { results := [.lit (.bool true)], args := [d1, d2, d3] }
  | _ => none }
def derfeedStopsRow : OpenClaim := { program := "yteglahkgnggmgaadoor", sum := "2ebb0b104adab5f9c62af5e4de14424575e91a54e3a1c61bd547f93b6d02208c", func := "pyxis/pyxislaw18.DerfeedStops", spec := "derfeedStops", inPlace := ["internal/bytealg.Compare"], unfollowed := true, recurses := true, named := ["unicode/utf8.first", "unicode/utf8.acceptRanges"], apart := false, laid := [("unicode/utf8.acceptRanges", laid_unicode_utf8_acceptRanges), ("unicode/utf8.first", laid_unicode_utf8_first)] }
def DerfeedStopsSaid : Prop := derfeedStopsRow.holds Tryd.pinned (OpenSpec.ofChange derfeedStopsSpec)

/-- ITS FALSE NEIGHBOUR: 'it returns false'. Refute it at one input. -/
def derfeedStopsWrong : ChangeSpec := { name := "derfeedStops", fn := fun _ => fun
  | [d1, d2, d3] => { results := [.lit (.bool false)], args := [d1, d2, d3] }
  | _ => none }
def DerfeedStopsWrongFalsely : Prop := derfeedStopsRow.holds Tryd.pinned (OpenSpec.ofChange derfeedStopsWrong)

/-- 'pyxislaw18.DerfeedNil': WHATEVER THE INPUT: true; the input reads as it did. -/
def derfeedNilSpec : ChangeSpec := { name := "derfeedNil", fn := fun _ => fun
  | [d] => { results := [.lit (.bool true)], args := [d] }
  | _ => none }
def derfeedNilRow : OpenClaim := { program := "yteglahkgnggmgaadoor", sum := "2ebb0b104adab5f9c62af5e4de14424575e91a54e3a1c61bd547f93b6d02208c", func := "pyxis/pyxislaw18.DerfeedNil", spec := "derfeedNil", inPlace := ["internal/bytealg.Compare"], unfollowed := true, recurses := true, named := ["unicode/utf8.first", "unicode/utf8.acceptRanges"], apart := false, laid := [("unicode/utf8.acceptRanges", laid_unicode_utf8_acceptRanges), ("unicode/utf8.first", laid_unicode_utf8_first)] }
def DerfeedNilSaid : Prop := derfeedNilRow.holds Tryd.pinned (OpenSpec.ofChange derfeedNilSpec)

/-- ITS FALSE NEIGHBOUR: 'it returns false'. Refute it at one input. -/
def derfeedNilWrong : ChangeSpec := { name := "derfeedNil", fn := fun _ => fun
  | [d] => { results := [.lit (.bool false)], args := [d] }
  | _ => none }
def DerfeedNilWrongFalsely : Prop := derfeedNilRow.holds Tryd.pinned (OpenSpec.ofChange derfeedNilWrong)

/- THE SECOND FORM. 'bulk': how many values and letters a reading holds, each counted each time it is reached (what is shared counts as often as it is met; a slice's spare places count too). A statement '..UptoSaid' is the law's where the arguments, and the package variables that the reading takes, are together of bulk at most 1048576: NARROWER than '..Said'. Prove '..Said' where nothing that the law and all that it calls make is longer than what came in: it says more and counts as full. Else prove '..UptoSaid'. A law counts once. -/
mutual
def uptoBulk {H : Type} : DataW H → Nat
  | .lit (.string bytes) => bytes.length + 1
  | .lit _ => 1
  | .nil => 1
  | .ptr d => uptoBulk d + 1
  | .slice elems spare => uptoBulkAll elems + uptoBulkAll spare + 1
  | .agg parts => uptoBulkAll parts + 1
  | .iface _ d => uptoBulk d + 1
  | .map entries => uptoBulkEntries entries + 1
  | .held _ => 1
def uptoBulkAll {H : Type} : List (DataW H) → Nat
  | [] => 0
  | d :: r => uptoBulk d + uptoBulkAll r
def uptoBulkEntries {H : Type} : List (Lit × DataW H) → Nat
  | [] => 0
  | x :: r => uptoBulkEntry x + uptoBulkEntries r
def uptoBulkEntry {H : Type} : Lit × DataW H → Nat
  | (.string bytes, d) => bytes.length + uptoBulk d + 1
  | (_, d) => uptoBulk d + 1
 end
def uptoSmall : (H : Type) → List (DataW H) → Bool := fun _ ds => decide (uptoBulkAll ds ≤ 1048576)
def OpenSpec.upto (s : _root_.Go.ChangeSpec) : _root_.Go.OpenSpec := { _root_.Go.OpenSpec.ofChange s with cond := some uptoSmall }

/-- 'pyxislaw15.DerReads', WHERE WHAT IT READS IS OF BULK AT MOST 1048576: true; the input reads as it did. -/
def derReadsUptoRow : OpenClaim := { program := "yteglahkgnggmgaadoor", sum := "2ebb0b104adab5f9c62af5e4de14424575e91a54e3a1c61bd547f93b6d02208c", func := "pyxis/pyxislaw15.DerReads", spec := "derReads", inPlace := ["internal/abi.NoEscape"], unfollowed := true, recurses := true, named := ["unicode/utf8.first", "unicode/utf8.acceptRanges"], apart := false, laid := [("unicode/utf8.acceptRanges", laid_unicode_utf8_acceptRanges), ("unicode/utf8.first", laid_unicode_utf8_first)], narrowed := true }
def DerReadsUptoSaid : Prop := derReadsUptoRow.holds Tryd.pinned (OpenSpec.upto derReadsSpec)

/-- 'pyxislaw15.DerTells', WHERE WHAT IT READS IS OF BULK AT MOST 1048576: true; the input reads as it did. -/
def derTellsUptoRow : OpenClaim := { program := "yteglahkgnggmgaadoor", sum := "2ebb0b104adab5f9c62af5e4de14424575e91a54e3a1c61bd547f93b6d02208c", func := "pyxis/pyxislaw15.DerTells", spec := "derTells", inPlace := ["internal/abi.NoEscape"], unfollowed := true, recurses := true, named := ["unicode/utf8.first", "unicode/utf8.acceptRanges"], apart := false, laid := [("unicode/utf8.acceptRanges", laid_unicode_utf8_acceptRanges), ("unicode/utf8.first", laid_unicode_utf8_first)], narrowed := true }
def DerTellsUptoSaid : Prop := derTellsUptoRow.holds Tryd.pinned (OpenSpec.upto derTellsSpec)

/-- 'pyxislaw15.DerBack', WHERE WHAT IT READS IS OF BULK AT MOST 1048576: true; the input reads as it did. -/
def derBackUptoRow : OpenClaim := { program := "yteglahkgnggmgaadoor", sum := "2ebb0b104adab5f9c62af5e4de14424575e91a54e3a1c61bd547f93b6d02208c", func := "pyxis/pyxislaw15.DerBack", spec := "derBack", inPlace := ["internal/abi.NoEscape"], unfollowed := true, recurses := true, named := ["unicode/utf8.first", "unicode/utf8.acceptRanges"], apart := false, laid := [("unicode/utf8.acceptRanges", laid_unicode_utf8_acceptRanges), ("unicode/utf8.first", laid_unicode_utf8_first)], narrowed := true }
def DerBackUptoSaid : Prop := derBackUptoRow.holds Tryd.pinned (OpenSpec.upto derBackSpec)

/-- 'pyxislaw15.DerOneWay', WHERE WHAT IT READS IS OF BULK AT MOST 1048576: true; the input reads as it did. -/
def derOneWayUptoRow : OpenClaim := { program := "yteglahkgnggmgaadoor", sum := "2ebb0b104adab5f9c62af5e4de14424575e91a54e3a1c61bd547f93b6d02208c", func := "pyxis/pyxislaw15.DerOneWay", spec := "derOneWay", inPlace := ["internal/abi.NoEscape"], unfollowed := true, recurses := true, named := ["unicode/utf8.first", "unicode/utf8.acceptRanges"], apart := false, laid := [("unicode/utf8.acceptRanges", laid_unicode_utf8_acceptRanges), ("unicode/utf8.first", laid_unicode_utf8_first)], narrowed := true }
def DerOneWayUptoSaid : Prop := derOneWayUptoRow.holds Tryd.pinned (OpenSpec.upto derOneWaySpec)

/-- 'pyxislaw15.DerLimits', WHERE WHAT IT READS IS OF BULK AT MOST 1048576: true; the input reads as it did. -/
def derLimitsUptoRow : OpenClaim := { program := "yteglahkgnggmgaadoor", sum := "2ebb0b104adab5f9c62af5e4de14424575e91a54e3a1c61bd547f93b6d02208c", func := "pyxis/pyxislaw15.DerLimits", spec := "derLimits", inPlace := ["internal/abi.NoEscape"], unfollowed := true, recurses := true, named := ["unicode/utf8.first", "unicode/utf8.acceptRanges"], apart := false, laid := [("unicode/utf8.acceptRanges", laid_unicode_utf8_acceptRanges), ("unicode/utf8.first", laid_unicode_utf8_first)], narrowed := true }
def DerLimitsUptoSaid : Prop := derLimitsUptoRow.holds Tryd.pinned (OpenSpec.upto derLimitsSpec)

/-- 'pyxislaw15.DerCut', WHERE WHAT IT READS IS OF BULK AT MOST 1048576: true; the input reads as it did. -/
def derCutUptoRow : OpenClaim := { program := "yteglahkgnggmgaadoor", sum := "2ebb0b104adab5f9c62af5e4de14424575e91a54e3a1c61bd547f93b6d02208c", func := "pyxis/pyxislaw15.DerCut", spec := "derCut", inPlace := ["internal/abi.NoEscape"], unfollowed := true, recurses := true, named := ["unicode/utf8.first", "unicode/utf8.acceptRanges"], apart := false, laid := [("unicode/utf8.acceptRanges", laid_unicode_utf8_acceptRanges), ("unicode/utf8.first", laid_unicode_utf8_first)], narrowed := true }
def DerCutUptoSaid : Prop := derCutUptoRow.holds Tryd.pinned (OpenSpec.upto derCutSpec)

/-- 'pyxislaw18.DerfeedPieces', WHERE WHAT IT READS IS OF BULK AT MOST 1048576: true; the input reads as it did. -/
def derfeedPiecesUptoRow : OpenClaim := { program := "yteglahkgnggmgaadoor", sum := "2ebb0b104adab5f9c62af5e4de14424575e91a54e3a1c61bd547f93b6d02208c", func := "pyxis/pyxislaw18.DerfeedPieces", spec := "derfeedPieces", inPlace := ["internal/bytealg.Compare"], unfollowed := true, recurses := true, named := ["unicode/utf8.first", "unicode/utf8.acceptRanges"], apart := false, laid := [("unicode/utf8.acceptRanges", laid_unicode_utf8_acceptRanges), ("unicode/utf8.first", laid_unicode_utf8_first)], narrowed := true }
def DerfeedPiecesUptoSaid : Prop := derfeedPiecesUptoRow.holds Tryd.pinned (OpenSpec.upto derfeedPiecesSpec)

/-- 'pyxislaw18.DerfeedSame', WHERE WHAT IT READS IS OF BULK AT MOST 1048576: true; the input reads as it did. -/
def derfeedSameUptoRow : OpenClaim := { program := "yteglahkgnggmgaadoor", sum := "2ebb0b104adab5f9c62af5e4de14424575e91a54e3a1c61bd547f93b6d02208c", func := "pyxis/pyxislaw18.DerfeedSame", spec := "derfeedSame", inPlace := ["internal/bytealg.Compare"], unfollowed := true, recurses := true, named := ["unicode/utf8.first", "unicode/utf8.acceptRanges"], apart := false, laid := [("unicode/utf8.acceptRanges", laid_unicode_utf8_acceptRanges), ("unicode/utf8.first", laid_unicode_utf8_first)], narrowed := true }
def DerfeedSameUptoSaid : Prop := derfeedSameUptoRow.holds Tryd.pinned (OpenSpec.upto derfeedSameSpec)

/-- 'pyxislaw18.DerfeedStops', WHERE WHAT IT READS IS OF BULK AT MOST 1048576: true; the input reads as it did. -/
def derfeedStopsUptoRow : OpenClaim := { program := "yteglahkgnggmgaadoor", sum := "2ebb0b104adab5f9c62af5e4de14424575e91a54e3a1c61bd547f93b6d02208c", func := "pyxis/pyxislaw18.DerfeedStops", spec := "derfeedStops", inPlace := ["internal/bytealg.Compare"], unfollowed := true, recurses := true, named := ["unicode/utf8.first", "unicode/utf8.acceptRanges"], apart := false, laid := [("unicode/utf8.acceptRanges", laid_unicode_utf8_acceptRanges), ("unicode/utf8.first", laid_unicode_utf8_first)], narrowed := true }
def DerfeedStopsUptoSaid : Prop := derfeedStopsUptoRow.holds Tryd.pinned (OpenSpec.upto derfeedStopsSpec)

/-- 'pyxislaw18.DerfeedNil', WHERE WHAT IT READS IS OF BULK AT MOST 1048576: true; the input reads as it did. -/
def derfeedNilUptoRow : OpenClaim := { program := "yteglahkgnggmgaadoor", sum := "2ebb0b104adab5f9c62af5e4de14424575e91a54e3a1c61bd547f93b6d02208c", func := "pyxis/pyxislaw18.DerfeedNil", spec := "derfeedNil", inPlace := ["internal/bytealg.Compare"], unfollowed := true, recurses := true, named := ["unicode/utf8.first", "unicode/utf8.acceptRanges"], apart := false, laid := [("unicode/utf8.acceptRanges", laid_unicode_utf8_acceptRanges), ("unicode/utf8.first", laid_unicode_utf8_first)], narrowed := true }
def DerfeedNilUptoSaid : Prop := derfeedNilUptoRow.holds Tryd.pinned (OpenSpec.upto derfeedNilSpec)

end Rows
end Go.Proofs.YteglahkgnggmgaaDoor
