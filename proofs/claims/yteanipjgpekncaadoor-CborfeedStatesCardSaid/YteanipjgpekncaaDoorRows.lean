/-
  NARROWER THAN 'FOR EVERY INPUT', by the rows' own cells (each row's printed sentence says how): CborReads: laid · CborTells: laid · CborBack: laid · CborOneWay: laid · CborLimits: laid · CborCut: laid · CborfeedPieces: laid · CborfeedStates: laid · CborfeedSame: laid · CborfeedStops: laid · CborfeedNil: laid.
  DERIVED. THE GIVEN ROWS OF THIS SEAT. 11 by the template 'for every input the law returns true; each argument reads behind the call as it read before'; 0 by the template 'total and deterministic' (their statements: YteanipjgpekncaaDoorTotals.lean).
  GIVEN WITH THE SEED: the statements are not yours to turn. If you find one false, say at which input.
  Laid BY PROGRAM, IN A SANDBOX (cutbox-rows.mjs): the forced cells as the released guide's own fill.sh prints them over the translation 447c56932fb045a8… (all of the seat's roots in one cut). By AI agents, Wed Nov 11 2026. No macro, syntax, notation, axiom, sorry.
-/
import Derived.Test.YteanipjgpekncaaDoorChecked
import GoSem.PinnedTables
import GoSem.Claim
import GoSem.ClaimJoined
import GoSem.ClaimMapViews
import Derived.JoinedTies
import Derived.KernelRfl
namespace Go.Proofs.YteanipjgpekncaaDoor
/- THE CELL 'sum', in the pinned program and in every row, IS THE sha256 OF THE DUMP (.gsa) THAT YteanipjgpekncaaDoorProg.lean LOADS. Nothing in Lean hashes anything: it is a label: what it is worth is what the hold of that sum in a sandbox is worth. -/
noncomputable def Tryd.pinned : Pinned := { name := "yteanipjgpekncaadoor", sum := "447c56932fb045a80f7db7d1690a68019f32e56e29177cd6bab25b0115962101", checked := Tryd.checked }
namespace Rows
def none {H : Type} : Left H := { results := [], args := [] }

/- WHAT THE LISTED PACKAGE-LEVEL VARIABLES READ AS WHEN THE CALL BEGINS. Each datum BY PROGRAM (the guide's laid-datum.mjs) off the statement by which the dump's own 'gosem.cut.vars' lays the variable. In a bare row this is a premise. The card (YteanipjgpekncaaDoorCards.lean) ties it to the program's text. -/
def laid_unicode_utf8_acceptRanges {H : Type} : DataW H := .agg [.agg [.lit (.int .u8 128), .lit (.int .u8 191)], .agg [.lit (.int .u8 160), .lit (.int .u8 191)], .agg [.lit (.int .u8 128), .lit (.int .u8 159)], .agg [.lit (.int .u8 144), .lit (.int .u8 191)], .agg [.lit (.int .u8 128), .lit (.int .u8 143)], .agg [.lit (.int .u8 0), .lit (.int .u8 0)], .agg [.lit (.int .u8 0), .lit (.int .u8 0)], .agg [.lit (.int .u8 0), .lit (.int .u8 0)], .agg [.lit (.int .u8 0), .lit (.int .u8 0)], .agg [.lit (.int .u8 0), .lit (.int .u8 0)], .agg [.lit (.int .u8 0), .lit (.int .u8 0)], .agg [.lit (.int .u8 0), .lit (.int .u8 0)], .agg [.lit (.int .u8 0), .lit (.int .u8 0)], .agg [.lit (.int .u8 0), .lit (.int .u8 0)], .agg [.lit (.int .u8 0), .lit (.int .u8 0)], .agg [.lit (.int .u8 0), .lit (.int .u8 0)]]
/-- One of Go's own tables, pinned by name: the form's constant. -/
def laid_unicode_utf8_first : DataW Unit := Go.Pinned.utf8First

/-- 'pyxislaw17.CborReads': WHATEVER THE INPUT: true; the input reads as it did. -/
def cborReadsSpec : ChangeSpec := { name := "cborReads", fn := fun _ => fun
  | [d1, d2] => { results := [.lit (.bool true)], args := [d1, d2] }
  | _ => none }
def cborReadsRow : OpenClaim := { program := "yteanipjgpekncaadoor", sum := "447c56932fb045a80f7db7d1690a68019f32e56e29177cd6bab25b0115962101", func := "pyxis/pyxislaw17.CborReads", spec := "cborReads", unfollowed := true, recurses := true, named := ["unicode/utf8.first", "unicode/utf8.acceptRanges"], apart := false, laid := [("unicode/utf8.acceptRanges", laid_unicode_utf8_acceptRanges), ("unicode/utf8.first", laid_unicode_utf8_first)] }
def CborReadsSaid : Prop := cborReadsRow.holds Tryd.pinned (OpenSpec.ofChange cborReadsSpec)

/-- ITS FALSE NEIGHBOUR: 'it returns false'. Refute it at one input. -/
def cborReadsWrong : ChangeSpec := { name := "cborReads", fn := fun _ => fun
  | [d1, d2] => { results := [.lit (.bool false)], args := [d1, d2] }
  | _ => none }
def CborReadsWrongFalsely : Prop := cborReadsRow.holds Tryd.pinned (OpenSpec.ofChange cborReadsWrong)

/-- 'pyxislaw17.CborTells': WHATEVER THE INPUT: true; the input reads as it did. -/
def cborTellsSpec : ChangeSpec := { name := "cborTells", fn := fun _ => fun
  | [d] => { results := [.lit (.bool true)], args := [d] }
  | _ => none }
def cborTellsRow : OpenClaim := { program := "yteanipjgpekncaadoor", sum := "447c56932fb045a80f7db7d1690a68019f32e56e29177cd6bab25b0115962101", func := "pyxis/pyxislaw17.CborTells", spec := "cborTells", unfollowed := true, recurses := true, named := ["unicode/utf8.first", "unicode/utf8.acceptRanges"], apart := false, laid := [("unicode/utf8.acceptRanges", laid_unicode_utf8_acceptRanges), ("unicode/utf8.first", laid_unicode_utf8_first)] }
def CborTellsSaid : Prop := cborTellsRow.holds Tryd.pinned (OpenSpec.ofChange cborTellsSpec)

/-- ITS FALSE NEIGHBOUR: 'it returns false'. Refute it at one input. -/
def cborTellsWrong : ChangeSpec := { name := "cborTells", fn := fun _ => fun
  | [d] => { results := [.lit (.bool false)], args := [d] }
  | _ => none }
def CborTellsWrongFalsely : Prop := cborTellsRow.holds Tryd.pinned (OpenSpec.ofChange cborTellsWrong)

/-- 'pyxislaw17.CborBack': WHATEVER THE INPUT: true; the input reads as it did. -/
def cborBackSpec : ChangeSpec := { name := "cborBack", fn := fun _ => fun
  | [d] => { results := [.lit (.bool true)], args := [d] }
  | _ => none }
def cborBackRow : OpenClaim := { program := "yteanipjgpekncaadoor", sum := "447c56932fb045a80f7db7d1690a68019f32e56e29177cd6bab25b0115962101", func := "pyxis/pyxislaw17.CborBack", spec := "cborBack", unfollowed := true, recurses := true, named := ["unicode/utf8.first", "unicode/utf8.acceptRanges"], apart := false, laid := [("unicode/utf8.acceptRanges", laid_unicode_utf8_acceptRanges), ("unicode/utf8.first", laid_unicode_utf8_first)] }
def CborBackSaid : Prop := cborBackRow.holds Tryd.pinned (OpenSpec.ofChange cborBackSpec)

/-- ITS FALSE NEIGHBOUR: 'it returns false'. Refute it at one input. -/
def cborBackWrong : ChangeSpec := { name := "cborBack", fn := fun _ => fun
  | [d] => { results := [.lit (.bool false)], args := [d] }
  | _ => none }
def CborBackWrongFalsely : Prop := cborBackRow.holds Tryd.pinned (OpenSpec.ofChange cborBackWrong)

/-- 'pyxislaw17.CborOneWay': WHATEVER THE INPUT: true; the input reads as it did. -/
def cborOneWaySpec : ChangeSpec := { name := "cborOneWay", fn := fun _ => fun
  | [d1, d2] => { results := [.lit (.bool true)], args := [d1, d2] }
  | _ => none }
def cborOneWayRow : OpenClaim := { program := "yteanipjgpekncaadoor", sum := "447c56932fb045a80f7db7d1690a68019f32e56e29177cd6bab25b0115962101", func := "pyxis/pyxislaw17.CborOneWay", spec := "cborOneWay", unfollowed := true, recurses := true, named := ["unicode/utf8.first", "unicode/utf8.acceptRanges"], apart := false, laid := [("unicode/utf8.acceptRanges", laid_unicode_utf8_acceptRanges), ("unicode/utf8.first", laid_unicode_utf8_first)] }
def CborOneWaySaid : Prop := cborOneWayRow.holds Tryd.pinned (OpenSpec.ofChange cborOneWaySpec)

/-- ITS FALSE NEIGHBOUR: 'it returns false'. Refute it at one input. -/
def cborOneWayWrong : ChangeSpec := { name := "cborOneWay", fn := fun _ => fun
  | [d1, d2] => { results := [.lit (.bool false)], args := [d1, d2] }
  | _ => none }
def CborOneWayWrongFalsely : Prop := cborOneWayRow.holds Tryd.pinned (OpenSpec.ofChange cborOneWayWrong)

/-- 'pyxislaw17.CborLimits': WHATEVER THE INPUT: true; the input reads as it did. -/
def cborLimitsSpec : ChangeSpec := { name := "cborLimits", fn := fun _ => fun
  | [d1, d2, d3] => { results := [.lit (.bool true)], args := [d1, d2, d3] }
  | _ => none }
def cborLimitsRow : OpenClaim := { program := "yteanipjgpekncaadoor", sum := "447c56932fb045a80f7db7d1690a68019f32e56e29177cd6bab25b0115962101", func := "pyxis/pyxislaw17.CborLimits", spec := "cborLimits", unfollowed := true, recurses := true, named := ["unicode/utf8.first", "unicode/utf8.acceptRanges"], apart := false, laid := [("unicode/utf8.acceptRanges", laid_unicode_utf8_acceptRanges), ("unicode/utf8.first", laid_unicode_utf8_first)] }
def CborLimitsSaid : Prop := cborLimitsRow.holds Tryd.pinned (OpenSpec.ofChange cborLimitsSpec)

/-- ITS FALSE NEIGHBOUR: 'it returns false'. Refute it at one input. -/
def cborLimitsWrong : ChangeSpec := { name := "cborLimits", fn := fun _ => fun
  | [d1, d2, d3] => { results := [.lit (.bool false)], args := [d1, d2, d3] }
  | _ => none }
def CborLimitsWrongFalsely : Prop := cborLimitsRow.holds Tryd.pinned (OpenSpec.ofChange cborLimitsWrong)

/-- 'pyxislaw17.CborCut': WHATEVER THE INPUT: true; the input reads as it did. -/
def cborCutSpec : ChangeSpec := { name := "cborCut", fn := fun _ => fun
  | [d1, d2, d3] => { results := [.lit (.bool true)], args := [d1, d2, d3] }
  | _ => none }
def cborCutRow : OpenClaim := { program := "yteanipjgpekncaadoor", sum := "447c56932fb045a80f7db7d1690a68019f32e56e29177cd6bab25b0115962101", func := "pyxis/pyxislaw17.CborCut", spec := "cborCut", unfollowed := true, recurses := true, named := ["unicode/utf8.first", "unicode/utf8.acceptRanges"], apart := false, laid := [("unicode/utf8.acceptRanges", laid_unicode_utf8_acceptRanges), ("unicode/utf8.first", laid_unicode_utf8_first)] }
def CborCutSaid : Prop := cborCutRow.holds Tryd.pinned (OpenSpec.ofChange cborCutSpec)

/-- ITS FALSE NEIGHBOUR: 'it returns false'. Refute it at one input. -/
def cborCutWrong : ChangeSpec := { name := "cborCut", fn := fun _ => fun
  | [d1, d2, d3] => { results := [.lit (.bool false)], args := [d1, d2, d3] }
  | _ => none }
def CborCutWrongFalsely : Prop := cborCutRow.holds Tryd.pinned (OpenSpec.ofChange cborCutWrong)

/-- 'pyxislaw20.CborfeedPieces': WHATEVER THE INPUT: true; the input reads as it did. -/
def cborfeedPiecesSpec : ChangeSpec := { name := "cborfeedPieces", fn := fun _ => fun
  | [d1, d2] => { results := [.lit (.bool true)], args := [d1, d2] }
  | _ => none }
def cborfeedPiecesRow : OpenClaim := { program := "yteanipjgpekncaadoor", sum := "447c56932fb045a80f7db7d1690a68019f32e56e29177cd6bab25b0115962101", func := "pyxis/pyxislaw20.CborfeedPieces", spec := "cborfeedPieces", recurses := true, named := ["unicode/utf8.first", "unicode/utf8.acceptRanges"], apart := false, laid := [("unicode/utf8.acceptRanges", laid_unicode_utf8_acceptRanges), ("unicode/utf8.first", laid_unicode_utf8_first)] }
def CborfeedPiecesSaid : Prop := cborfeedPiecesRow.holds Tryd.pinned (OpenSpec.ofChange cborfeedPiecesSpec)

/-- ITS FALSE NEIGHBOUR: 'it returns false'. Refute it at one input. -/
def cborfeedPiecesWrong : ChangeSpec := { name := "cborfeedPieces", fn := fun _ => fun
  | [d1, d2] => { results := [.lit (.bool false)], args := [d1, d2] }
  | _ => none }
def CborfeedPiecesWrongFalsely : Prop := cborfeedPiecesRow.holds Tryd.pinned (OpenSpec.ofChange cborfeedPiecesWrong)

/-- 'pyxislaw20.CborfeedStates': WHATEVER THE INPUT: true; the input reads as it did. -/
def cborfeedStatesSpec : ChangeSpec := { name := "cborfeedStates", fn := fun _ => fun
  | [d1, d2] => { results := [.lit (.bool true)], args := [d1, d2] }
  | _ => none }
def cborfeedStatesRow : OpenClaim := { program := "yteanipjgpekncaadoor", sum := "447c56932fb045a80f7db7d1690a68019f32e56e29177cd6bab25b0115962101", func := "pyxis/pyxislaw20.CborfeedStates", spec := "cborfeedStates", recurses := true, named := ["unicode/utf8.first", "unicode/utf8.acceptRanges"], apart := false, laid := [("unicode/utf8.acceptRanges", laid_unicode_utf8_acceptRanges), ("unicode/utf8.first", laid_unicode_utf8_first)] }
def CborfeedStatesSaid : Prop := cborfeedStatesRow.holds Tryd.pinned (OpenSpec.ofChange cborfeedStatesSpec)

/-- ITS FALSE NEIGHBOUR: 'it returns false'. Refute it at one input. -/
def cborfeedStatesWrong : ChangeSpec := { name := "cborfeedStates", fn := fun _ => fun
  | [d1, d2] => { results := [.lit (.bool false)], args := [d1, d2] }
  | _ => none }
def CborfeedStatesWrongFalsely : Prop := cborfeedStatesRow.holds Tryd.pinned (OpenSpec.ofChange cborfeedStatesWrong)

/-- 'pyxislaw20.CborfeedSame': WHATEVER THE INPUT: true; the input reads as it did. -/
def cborfeedSameSpec : ChangeSpec := { name := "cborfeedSame", fn := fun _ => fun
  | [d1, d2, d3] => { results := [.lit (.bool true)], args := [d1, d2, d3] }
  | _ => none }
def cborfeedSameRow : OpenClaim := { program := "yteanipjgpekncaadoor", sum := "447c56932fb045a80f7db7d1690a68019f32e56e29177cd6bab25b0115962101", func := "pyxis/pyxislaw20.CborfeedSame", spec := "cborfeedSame", unfollowed := true, recurses := true, named := ["unicode/utf8.first", "unicode/utf8.acceptRanges"], apart := false, laid := [("unicode/utf8.acceptRanges", laid_unicode_utf8_acceptRanges), ("unicode/utf8.first", laid_unicode_utf8_first)] }
def CborfeedSameSaid : Prop := cborfeedSameRow.holds Tryd.pinned (OpenSpec.ofChange cborfeedSameSpec)

/-- ITS FALSE NEIGHBOUR: 'it returns false'. Refute it at one input. -/
def cborfeedSameWrong : ChangeSpec := { name := "cborfeedSame", fn := fun _ => fun
  | [d1, d2, d3] => { results := [.lit (.bool false)], args := [d1, d2, d3] }
  | _ => none }
def CborfeedSameWrongFalsely : Prop := cborfeedSameRow.holds Tryd.pinned (OpenSpec.ofChange cborfeedSameWrong)

/-- 'pyxislaw20.CborfeedStops': WHATEVER THE INPUT: true; the input reads as it did. -/
def cborfeedStopsSpec : ChangeSpec := { name := "cborfeedStops", fn := fun _ => fun
  | [d1, d2, d3] => { results := [.lit (.bool true)], args := [d1, d2, d3] }
  | _ => none }
def cborfeedStopsRow : OpenClaim := { program := "yteanipjgpekncaadoor", sum := "447c56932fb045a80f7db7d1690a68019f32e56e29177cd6bab25b0115962101", func := "pyxis/pyxislaw20.CborfeedStops", spec := "cborfeedStops", named := ["unicode/utf8.first", "unicode/utf8.acceptRanges"], apart := false, laid := [("unicode/utf8.acceptRanges", laid_unicode_utf8_acceptRanges), ("unicode/utf8.first", laid_unicode_utf8_first)] }
def CborfeedStopsSaid : Prop := cborfeedStopsRow.holds Tryd.pinned (OpenSpec.ofChange cborfeedStopsSpec)

/-- ITS FALSE NEIGHBOUR: 'it returns false'. Refute it at one input. -/
def cborfeedStopsWrong : ChangeSpec := { name := "cborfeedStops", fn := fun _ => fun
  | [d1, d2, d3] => { results := [.lit (.bool false)], args := [d1, d2, d3] }
  | _ => none }
def CborfeedStopsWrongFalsely : Prop := cborfeedStopsRow.holds Tryd.pinned (OpenSpec.ofChange cborfeedStopsWrong)

/-- 'pyxislaw20.CborfeedNil': WHATEVER THE INPUT: true; the input reads as it did. -/
def cborfeedNilSpec : ChangeSpec := { name := "cborfeedNil", fn := fun _ => fun
  | [d] => { results := [.lit (.bool true)], args := [d] }
  | _ => none }
def cborfeedNilRow : OpenClaim := { program := "yteanipjgpekncaadoor", sum := "447c56932fb045a80f7db7d1690a68019f32e56e29177cd6bab25b0115962101", func := "pyxis/pyxislaw20.CborfeedNil", spec := "cborfeedNil", named := ["unicode/utf8.first", "unicode/utf8.acceptRanges"], apart := false, laid := [("unicode/utf8.acceptRanges", laid_unicode_utf8_acceptRanges), ("unicode/utf8.first", laid_unicode_utf8_first)] }
def CborfeedNilSaid : Prop := cborfeedNilRow.holds Tryd.pinned (OpenSpec.ofChange cborfeedNilSpec)

/-- ITS FALSE NEIGHBOUR: 'it returns false'. Refute it at one input. -/
def cborfeedNilWrong : ChangeSpec := { name := "cborfeedNil", fn := fun _ => fun
  | [d] => { results := [.lit (.bool false)], args := [d] }
  | _ => none }
def CborfeedNilWrongFalsely : Prop := cborfeedNilRow.holds Tryd.pinned (OpenSpec.ofChange cborfeedNilWrong)

/- THE SECOND FORM. 'bulk': how many values and letters a reading holds, each counted each time it is reached (what is shared counts as often as it is met; a slice's spare places count too). A statement '..UptoSaid' is the law's where the arguments, and the package variables that the reading takes, are together of bulk at most 1048576: NARROWER than '..Said'. Prove '..Said' where nothing that the law and all that it calls make is longer than what came in: it says more and counts as full. Else prove '..UptoSaid'. A law counts once. -/
mutual
def uptoBulk {H : Type} : DataW H → Nat
  | .lit (.string bytes) => bytes.length + 1
  | .lit _ => 1
  | .nil => 1
  | .ptr d => uptoBulk d + 1
  | .slice elems spare => uptoBulkAll elems + uptoBulkAll spare + 1
  | .agg parts => uptoBulkAll parts + 1
  | .iface _ d => uptoBulk d + 1
  | .map entries => uptoBulkEntries entries + 1
  | .held _ => 1
def uptoBulkAll {H : Type} : List (DataW H) → Nat
  | [] => 0
  | d :: r => uptoBulk d + uptoBulkAll r
def uptoBulkEntries {H : Type} : List (Lit × DataW H) → Nat
  | [] => 0
  | x :: r => uptoBulkEntry x + uptoBulkEntries r
def uptoBulkEntry {H : Type} : Lit × DataW H → Nat
  | (.string bytes, d) => bytes.length + uptoBulk d + 1
  | (_, d) => uptoBulk d + 1
 end
def uptoSmall : (H : Type) → List (DataW H) → Bool := fun _ ds => decide (uptoBulkAll ds ≤ 1048576)
def OpenSpec.upto (s : _root_.Go.ChangeSpec) : _root_.Go.OpenSpec := { _root_.Go.OpenSpec.ofChange s with cond := some uptoSmall }

/-- 'pyxislaw17.CborReads', WHERE WHAT IT READS IS OF BULK AT MOST 1048576: true; the input reads as it did. -/
def cborReadsUptoRow : OpenClaim := { program := "yteanipjgpekncaadoor", sum := "447c56932fb045a80f7db7d1690a68019f32e56e29177cd6bab25b0115962101", func := "pyxis/pyxislaw17.CborReads", spec := "cborReads", unfollowed := true, recurses := true, named := ["unicode/utf8.first", "unicode/utf8.acceptRanges"], apart := false, laid := [("unicode/utf8.acceptRanges", laid_unicode_utf8_acceptRanges), ("unicode/utf8.first", laid_unicode_utf8_first)], narrowed := true }
def CborReadsUptoSaid : Prop := cborReadsUptoRow.holds Tryd.pinned (OpenSpec.upto cborReadsSpec)

/-- 'pyxislaw17.CborTells', WHERE WHAT IT READS IS OF BULK AT MOST 1048576: true; the input reads as it did. -/
def cborTellsUptoRow : OpenClaim := { program := "yteanipjgpekncaadoor", sum := "447c56932fb045a80f7db7d1690a68019f32e56e29177cd6bab25b0115962101", func := "pyxis/pyxislaw17.CborTells", spec := "cborTells", unfollowed := true, recurses := true, named := ["unicode/utf8.first", "unicode/utf8.acceptRanges"], apart := false, laid := [("unicode/utf8.acceptRanges", laid_unicode_utf8_acceptRanges), ("unicode/utf8.first", laid_unicode_utf8_first)], narrowed := true }
def CborTellsUptoSaid : Prop := cborTellsUptoRow.holds Tryd.pinned (OpenSpec.upto cborTellsSpec)

/-- 'pyxislaw17.CborBack', WHERE WHAT IT READS IS OF BULK AT MOST 1048576: true; the input reads as it did. -/
def cborBackUptoRow : OpenClaim := { program := "yteanipjgpekncaadoor", sum := "447c56932fb045a80f7db7d1690a68019f32e56e29177cd6bab25b0115962101", func := "pyxis/pyxislaw17.CborBack", spec := "cborBack", unfollowed := true, recurses := true, named := ["unicode/utf8.first", "unicode/utf8.acceptRanges"], apart := false, laid := [("unicode/utf8.acceptRanges", laid_unicode_utf8_acceptRanges), ("unicode/utf8.first", laid_unicode_utf8_first)], narrowed := true }
def CborBackUptoSaid : Prop := cborBackUptoRow.holds Tryd.pinned (OpenSpec.upto cborBackSpec)

/-- 'pyxislaw17.CborOneWay', WHERE WHAT IT READS IS OF BULK AT MOST 1048576: true; the input reads as it did. -/
def cborOneWayUptoRow : OpenClaim := { program := "yteanipjgpekncaadoor", sum := "447c56932fb045a80f7db7d1690a68019f32e56e29177cd6bab25b0115962101", func := "pyxis/pyxislaw17.CborOneWay", spec := "cborOneWay", unfollowed := true, recurses := true, named := ["unicode/utf8.first", "unicode/utf8.acceptRanges"], apart := false, laid := [("unicode/utf8.acceptRanges", laid_unicode_utf8_acceptRanges), ("unicode/utf8.first", laid_unicode_utf8_first)], narrowed := true }
def CborOneWayUptoSaid : Prop := cborOneWayUptoRow.holds Tryd.pinned (OpenSpec.upto cborOneWaySpec)

/-- 'pyxislaw17.CborLimits', WHERE WHAT IT READS IS OF BULK AT MOST 1048576: true; the input reads as it did. -/
def cborLimitsUptoRow : OpenClaim := { program := "yteanipjgpekncaadoor", sum := "447c56932fb045a80f7db7d1690a68019f32e56e29177cd6bab25b0115962101", func := "pyxis/pyxislaw17.CborLimits", spec := "cborLimits", unfollowed := true, recurses := true, named := ["unicode/utf8.first", "unicode/utf8.acceptRanges"], apart := false, laid := [("unicode/utf8.acceptRanges", laid_unicode_utf8_acceptRanges), ("unicode/utf8.first", laid_unicode_utf8_first)], narrowed := true }
def CborLimitsUptoSaid : Prop := cborLimitsUptoRow.holds Tryd.pinned (OpenSpec.upto cborLimitsSpec)

/-- 'pyxislaw17.CborCut', WHERE WHAT IT READS IS OF BULK AT MOST 1048576: true; the input reads as it did. -/
def cborCutUptoRow : OpenClaim := { program := "yteanipjgpekncaadoor", sum := "447c56932fb045a80f7db7d1690a68019f32e56e29177cd6bab25b0115962101", func := "pyxis/pyxislaw17.CborCut", spec := "cborCut", unfollowed := true, recurses := true, named := ["unicode/utf8.first", "unicode/utf8.acceptRanges"], apart := false, laid := [("unicode/utf8.acceptRanges", laid_unicode_utf8_acceptRanges), ("unicode/utf8.first", laid_unicode_utf8_first)], narrowed := true }
def CborCutUptoSaid : Prop := cborCutUptoRow.holds Tryd.pinned (OpenSpec.upto cborCutSpec)

/-- 'pyxislaw20.CborfeedPieces', WHERE WHAT IT READS IS OF BULK AT MOST 1048576: true; the input reads as it did. -/
def cborfeedPiecesUptoRow : OpenClaim := { program := "yteanipjgpekncaadoor", sum := "447c56932fb045a80f7db7d1690a68019f32e56e29177cd6bab25b0115962101", func := "pyxis/pyxislaw20.CborfeedPieces", spec := "cborfeedPieces", recurses := true, named := ["unicode/utf8.first", "unicode/utf8.acceptRanges"], apart := false, laid := [("unicode/utf8.acceptRanges", laid_unicode_utf8_acceptRanges), ("unicode/utf8.first", laid_unicode_utf8_first)], narrowed := true }
def CborfeedPiecesUptoSaid : Prop := cborfeedPiecesUptoRow.holds Tryd.pinned (OpenSpec.upto cborfeedPiecesSpec)

/-- 'pyxislaw20.CborfeedStates', WHERE WHAT IT READS IS OF BULK AT MOST 1048576: true; the input reads as it did. -/
def cborfeedStatesUptoRow : OpenClaim := { program := "yteanipjgpekncaadoor", sum := "447c56932fb045a80f7db7d1690a68019f32e56e29177cd6bab25b0115962101", func := "pyxis/pyxislaw20.CborfeedStates", spec := "cborfeedStates", recurses := true, named := ["unicode/utf8.first", "unicode/utf8.acceptRanges"], apart := false, laid := [("unicode/utf8.acceptRanges", laid_unicode_utf8_acceptRanges), ("unicode/utf8.first", laid_unicode_utf8_first)], narrowed := true }
def CborfeedStatesUptoSaid : Prop := cborfeedStatesUptoRow.holds Tryd.pinned (OpenSpec.upto cborfeedStatesSpec)

/-- 'pyxislaw20.CborfeedSame', WHERE WHAT IT READS IS OF BULK AT MOST 1048576: true; the input reads as it did. -/
def cborfeedSameUptoRow : OpenClaim := { program := "yteanipjgpekncaadoor", sum := "447c56932fb045a80f7db7d1690a68019f32e56e29177cd6bab25b0115962101", func := "pyxis/pyxislaw20.CborfeedSame", spec := "cborfeedSame", unfollowed := true, recurses := true, named := ["unicode/utf8.first", "unicode/utf8.acceptRanges"], apart := false, laid := [("unicode/utf8.acceptRanges", laid_unicode_utf8_acceptRanges), ("unicode/utf8.first", laid_unicode_utf8_first)], narrowed := true }
def CborfeedSameUptoSaid : Prop := cborfeedSameUptoRow.holds Tryd.pinned (OpenSpec.upto cborfeedSameSpec)

/-- 'pyxislaw20.CborfeedStops', WHERE WHAT IT READS IS OF BULK AT MOST 1048576: true; the input reads as it did. -/
def cborfeedStopsUptoRow : OpenClaim := { program := "yteanipjgpekncaadoor", sum := "447c56932fb045a80f7db7d1690a68019f32e56e29177cd6bab25b0115962101", func := "pyxis/pyxislaw20.CborfeedStops", spec := "cborfeedStops", named := ["unicode/utf8.first", "unicode/utf8.acceptRanges"], apart := false, laid := [("unicode/utf8.acceptRanges", laid_unicode_utf8_acceptRanges), ("unicode/utf8.first", laid_unicode_utf8_first)], narrowed := true }
def CborfeedStopsUptoSaid : Prop := cborfeedStopsUptoRow.holds Tryd.pinned (OpenSpec.upto cborfeedStopsSpec)

/-- 'pyxislaw20.CborfeedNil', WHERE WHAT IT READS IS OF BULK AT MOST 1048576: true; the input reads as it did. -/
def cborfeedNilUptoRow : OpenClaim := { program := "yteanipjgpekncaadoor", sum := "447c56932fb045a80f7db7d1690a68019f32e56e29177cd6bab25b0115962101", func := "pyxis/pyxislaw20.CborfeedNil", spec := "cborfeedNil", named := ["unicode/utf8.first", "unicode/utf8.acceptRanges"], apart := false, laid := [("unicode/utf8.acceptRanges", laid_unicode_utf8_acceptRanges), ("unicode/utf8.first", laid_unicode_utf8_first)], narrowed := true }
def CborfeedNilUptoSaid : Prop := cborfeedNilUptoRow.holds Tryd.pinned (OpenSpec.upto cborfeedNilSpec)

end Rows
end Go.Proofs.YteanipjgpekncaaDoor
