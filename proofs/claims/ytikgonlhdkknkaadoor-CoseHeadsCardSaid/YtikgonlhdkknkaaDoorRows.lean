/-
  NARROWER THAN 'FOR EVERY INPUT', by the rows' own cells (each row's printed sentence says how): CoseBack: laid · CoseOneWay: laid · CoseHeads: laid · CoseStructures: laid.
  DERIVED. THE GIVEN ROWS OF THIS SEAT. 4 by the template 'for every input the law returns true; each argument reads behind the call as it read before'; 0 by the template 'total and deterministic' (their statements: YtikgonlhdkknkaaDoorTotals.lean).
  GIVEN WITH THE SEED: the statements are not yours to turn. If you find one false, say at which input.
  Laid BY PROGRAM, IN A SANDBOX (cutbox-rows.mjs): the forced cells as the released guide's own fill.sh prints them over the translation 0d91a4569da70830… (all of the seat's roots in one cut). By AI agents, Wed Nov 11 2026. No macro, syntax, notation, axiom, sorry.
-/
import Derived.Test.YtikgonlhdkknkaaDoorChecked
import GoSem.PinnedTables
import GoSem.Claim
import GoSem.ClaimJoined
import GoSem.ClaimMapViews
import Derived.JoinedTies
import Derived.KernelRfl
namespace Go.Proofs.YtikgonlhdkknkaaDoor
/- THE CELL 'sum', in the pinned program and in every row, IS THE sha256 OF THE DUMP (.gsa) THAT YtikgonlhdkknkaaDoorProg.lean LOADS. Nothing in Lean hashes anything: it is a label: what it is worth is what the hold of that sum in a sandbox is worth. -/
noncomputable def Tryd.pinned : Pinned := { name := "ytikgonlhdkknkaadoor", sum := "0d91a4569da7083084ed7ac90901aeef1da0df0bee68e771e291ff99884b44d8", checked := Tryd.checked }
namespace Rows
def none {H : Type} : Left H := { results := [], args := [] }

/- WHAT THE LISTED PACKAGE-LEVEL VARIABLES READ AS WHEN THE CALL BEGINS. Each datum BY PROGRAM (the guide's laid-datum.mjs) off the statement by which the dump's own 'gosem.cut.vars' lays the variable. In a bare row this is a premise. The card (YtikgonlhdkknkaaDoorCards.lean) ties it to the program's text. -/
def laid_unicode_utf8_acceptRanges {H : Type} : DataW H := .agg [.agg [.lit (.int .u8 128), .lit (.int .u8 191)], .agg [.lit (.int .u8 160), .lit (.int .u8 191)], .agg [.lit (.int .u8 128), .lit (.int .u8 159)], .agg [.lit (.int .u8 144), .lit (.int .u8 191)], .agg [.lit (.int .u8 128), .lit (.int .u8 143)], .agg [.lit (.int .u8 0), .lit (.int .u8 0)], .agg [.lit (.int .u8 0), .lit (.int .u8 0)], .agg [.lit (.int .u8 0), .lit (.int .u8 0)], .agg [.lit (.int .u8 0), .lit (.int .u8 0)], .agg [.lit (.int .u8 0), .lit (.int .u8 0)], .agg [.lit (.int .u8 0), .lit (.int .u8 0)], .agg [.lit (.int .u8 0), .lit (.int .u8 0)], .agg [.lit (.int .u8 0), .lit (.int .u8 0)], .agg [.lit (.int .u8 0), .lit (.int .u8 0)], .agg [.lit (.int .u8 0), .lit (.int .u8 0)], .agg [.lit (.int .u8 0), .lit (.int .u8 0)]]
/-- One of Go's own tables, pinned by name: the form's constant. -/
def laid_unicode_utf8_first : DataW Unit := Go.Pinned.utf8First

/-- 'pyxislaw25.CoseBack': WHATEVER THE INPUT: true; the input reads as it did. -/
def coseBackSpec : ChangeSpec := { name := "coseBack", fn := fun _ => fun
  | [d] => { results := [.lit (.bool true)], args := [d] }
  | _ => none }
def coseBackRow : OpenClaim := { program := "ytikgonlhdkknkaadoor", sum := "0d91a4569da7083084ed7ac90901aeef1da0df0bee68e771e291ff99884b44d8", func := "pyxis/pyxislaw25.CoseBack", spec := "coseBack", unfollowed := true, recurses := true, named := ["unicode/utf8.first", "unicode/utf8.acceptRanges"], plainKeys := false, apart := false, laid := [("unicode/utf8.acceptRanges", laid_unicode_utf8_acceptRanges), ("unicode/utf8.first", laid_unicode_utf8_first)] }
def CoseBackSaid : Prop := coseBackRow.holds Tryd.pinned (OpenSpec.ofChange coseBackSpec)

/-- ITS FALSE NEIGHBOUR: 'it returns false'. Refute it at one input. -/
def coseBackWrong : ChangeSpec := { name := "coseBack", fn := fun _ => fun
  | [d] => { results := [.lit (.bool false)], args := [d] }
  | _ => none }
def CoseBackWrongFalsely : Prop := coseBackRow.holds Tryd.pinned (OpenSpec.ofChange coseBackWrong)

/-- 'pyxislaw25.CoseOneWay': WHATEVER THE INPUT: true; the input reads as it did. -/
def coseOneWaySpec : ChangeSpec := { name := "coseOneWay", fn := fun _ => fun
  | [d1, d2] => { results := [.lit (.bool true)], args := [d1, d2] }
  | _ => none }
def coseOneWayRow : OpenClaim := { program := "ytikgonlhdkknkaadoor", sum := "0d91a4569da7083084ed7ac90901aeef1da0df0bee68e771e291ff99884b44d8", func := "pyxis/pyxislaw25.CoseOneWay", spec := "coseOneWay", unfollowed := true, recurses := true, named := ["unicode/utf8.first", "unicode/utf8.acceptRanges"], plainKeys := false, apart := false, laid := [("unicode/utf8.acceptRanges", laid_unicode_utf8_acceptRanges), ("unicode/utf8.first", laid_unicode_utf8_first)] }
def CoseOneWaySaid : Prop := coseOneWayRow.holds Tryd.pinned (OpenSpec.ofChange coseOneWaySpec)

/-- ITS FALSE NEIGHBOUR: 'it returns false'. Refute it at one input. -/
def coseOneWayWrong : ChangeSpec := { name := "coseOneWay", fn := fun _ => fun
  | [d1, d2] => { results := [.lit (.bool false)], args := [d1, d2] }
  | _ => none }
def CoseOneWayWrongFalsely : Prop := coseOneWayRow.holds Tryd.pinned (OpenSpec.ofChange coseOneWayWrong)

/-- 'pyxislaw25.CoseHeads': WHATEVER THE INPUT: true; the input reads as it did. -/
def coseHeadsSpec : ChangeSpec := { name := "coseHeads", fn := fun _ => fun
  | [d1, d2, d3] => { results := [.lit (.bool true)], args := [d1, d2, d3] }
  | _ => none }
def coseHeadsRow : OpenClaim := { program := "ytikgonlhdkknkaadoor", sum := "0d91a4569da7083084ed7ac90901aeef1da0df0bee68e771e291ff99884b44d8", func := "pyxis/pyxislaw25.CoseHeads", spec := "coseHeads", unfollowed := true, recurses := true, named := ["unicode/utf8.first", "unicode/utf8.acceptRanges"], plainKeys := false, apart := false, laid := [("unicode/utf8.acceptRanges", laid_unicode_utf8_acceptRanges), ("unicode/utf8.first", laid_unicode_utf8_first)] }
def CoseHeadsSaid : Prop := coseHeadsRow.holds Tryd.pinned (OpenSpec.ofChange coseHeadsSpec)

/-- ITS FALSE NEIGHBOUR: 'it returns false'. Refute it at one input. -/
def coseHeadsWrong : ChangeSpec := { name := "coseHeads", fn := fun _ => fun
  | [d1, d2, d3] => { results := [.lit (.bool false)], args := [d1, d2, d3] }
  | _ => none }
def CoseHeadsWrongFalsely : Prop := coseHeadsRow.holds Tryd.pinned (OpenSpec.ofChange coseHeadsWrong)

/-- 'pyxislaw25.CoseStructures': WHATEVER THE INPUT: true; the input reads as it did. -/
def coseStructuresSpec : ChangeSpec := { name := "coseStructures", fn := fun _ => fun
  | [d1, d2, d3] => { results := [.lit (.bool true)], args := [d1, d2, d3] }
  | _ => none }
def coseStructuresRow : OpenClaim := { program := "ytikgonlhdkknkaadoor", sum := "0d91a4569da7083084ed7ac90901aeef1da0df0bee68e771e291ff99884b44d8", func := "pyxis/pyxislaw25.CoseStructures", spec := "coseStructures", unfollowed := true, recurses := true, named := ["unicode/utf8.first", "unicode/utf8.acceptRanges"], plainKeys := false, apart := false, laid := [("unicode/utf8.acceptRanges", laid_unicode_utf8_acceptRanges), ("unicode/utf8.first", laid_unicode_utf8_first)] }
def CoseStructuresSaid : Prop := coseStructuresRow.holds Tryd.pinned (OpenSpec.ofChange coseStructuresSpec)

/-- ITS FALSE NEIGHBOUR: 'it returns false'. Refute it at one input. -/
def coseStructuresWrong : ChangeSpec := { name := "coseStructures", fn := fun _ => fun
  | [d1, d2, d3] => { results := [.lit (.bool false)], args := [d1, d2, d3] }
  | _ => none }
def CoseStructuresWrongFalsely : Prop := coseStructuresRow.holds Tryd.pinned (OpenSpec.ofChange coseStructuresWrong)

/- THE SECOND FORM. 'bulk': how many values and letters a reading holds, each counted each time it is reached (what is shared counts as often as it is met; a slice's spare places count too). A statement '..UptoSaid' is the law's where the arguments, and the package variables that the reading takes, are together of bulk at most 1048576: NARROWER than '..Said'. Prove '..Said' where nothing that the law and all that it calls make is longer than what came in: it says more and counts as full. Else prove '..UptoSaid'. A law counts once. -/
mutual
def uptoBulk {H : Type} : DataW H → Nat
  | .lit (.string bytes) => bytes.length + 1
  | .lit _ => 1
  | .nil => 1
  | .ptr d => uptoBulk d + 1
  | .slice elems spare => uptoBulkAll elems + uptoBulkAll spare + 1
  | .agg parts => uptoBulkAll parts + 1
  | .iface _ d => uptoBulk d + 1
  | .map entries => uptoBulkEntries entries + 1
  | .held _ => 1
def uptoBulkAll {H : Type} : List (DataW H) → Nat
  | [] => 0
  | d :: r => uptoBulk d + uptoBulkAll r
def uptoBulkEntries {H : Type} : List (Lit × DataW H) → Nat
  | [] => 0
  | x :: r => uptoBulkEntry x + uptoBulkEntries r
def uptoBulkEntry {H : Type} : Lit × DataW H → Nat
  | (.string bytes, d) => bytes.length + uptoBulk d + 1
  | (_, d) => uptoBulk d + 1
 end
def uptoSmall : (H : Type) → List (DataW H) → Bool := fun _ ds => decide (uptoBulkAll ds ≤ 1048576)
def OpenSpec.upto (s : _root_.Go.ChangeSpec) : _root_.Go.OpenSpec := { _root_.Go.OpenSpec.ofChange s with cond := some uptoSmall }

/-- 'pyxislaw25.CoseBack', WHERE WHAT IT READS IS OF BULK AT MOST 1048576: true; the input reads as it did. -/
def coseBackUptoRow : OpenClaim := { program := "ytikgonlhdkknkaadoor", sum := "0d91a4569da7083084ed7ac90901aeef1da0df0bee68e771e291ff99884b44d8", func := "pyxis/pyxislaw25.CoseBack", spec := "coseBack", unfollowed := true, recurses := true, named := ["unicode/utf8.first", "unicode/utf8.acceptRanges"], plainKeys := false, apart := false, laid := [("unicode/utf8.acceptRanges", laid_unicode_utf8_acceptRanges), ("unicode/utf8.first", laid_unicode_utf8_first)], narrowed := true }
def CoseBackUptoSaid : Prop := coseBackUptoRow.holds Tryd.pinned (OpenSpec.upto coseBackSpec)

/-- 'pyxislaw25.CoseOneWay', WHERE WHAT IT READS IS OF BULK AT MOST 1048576: true; the input reads as it did. -/
def coseOneWayUptoRow : OpenClaim := { program := "ytikgonlhdkknkaadoor", sum := "0d91a4569da7083084ed7ac90901aeef1da0df0bee68e771e291ff99884b44d8", func := "pyxis/pyxislaw25.CoseOneWay", spec := "coseOneWay", unfollowed := true, recurses := true, named := ["unicode/utf8.first", "unicode/utf8.acceptRanges"], plainKeys := false, apart := false, laid := [("unicode/utf8.acceptRanges", laid_unicode_utf8_acceptRanges), ("unicode/utf8.first", laid_unicode_utf8_first)], narrowed := true }
def CoseOneWayUptoSaid : Prop := coseOneWayUptoRow.holds Tryd.pinned (OpenSpec.upto coseOneWaySpec)

/-- 'pyxislaw25.CoseHeads', WHERE WHAT IT READS IS OF BULK AT MOST 1048576: true; the input reads as it did. -/
def coseHeadsUptoRow : OpenClaim := { program := "ytikgonlhdkknkaadoor", sum := "0d91a4569da7083084ed7ac90901aeef1da0df0bee68e771e291ff99884b44d8", func := "pyxis/pyxislaw25.CoseHeads", spec := "coseHeads", unfollowed := true, recurses := true, named := ["unicode/utf8.first", "unicode/utf8.acceptRanges"], plainKeys := false, apart := false, laid := [("unicode/utf8.acceptRanges", laid_unicode_utf8_acceptRanges), ("unicode/utf8.first", laid_unicode_utf8_first)], narrowed := true }
def CoseHeadsUptoSaid : Prop := coseHeadsUptoRow.holds Tryd.pinned (OpenSpec.upto coseHeadsSpec)

/-- 'pyxislaw25.CoseStructures', WHERE WHAT IT READS IS OF BULK AT MOST 1048576: true; the input reads as it did. -/
def coseStructuresUptoRow : OpenClaim := { program := "ytikgonlhdkknkaadoor", sum := "0d91a4569da7083084ed7ac90901aeef1da0df0bee68e771e291ff99884b44d8", func := "pyxis/pyxislaw25.CoseStructures", spec := "coseStructures", unfollowed := true, recurses := true, named := ["unicode/utf8.first", "unicode/utf8.acceptRanges"], plainKeys := false, apart := false, laid := [("unicode/utf8.acceptRanges", laid_unicode_utf8_acceptRanges), ("unicode/utf8.first", laid_unicode_utf8_first)], narrowed := true }
def CoseStructuresUptoSaid : Prop := coseStructuresUptoRow.holds Tryd.pinned (OpenSpec.upto coseStructuresSpec)

end Rows
end Go.Proofs.YtikgonlhdkknkaaDoor
