/-
  No cell of these rows narrows 'for every input' (looked for: loops, veiled, ifaces, maps, wideKeys, modest, calm, conditions, laid).
  DERIVED. THE GIVEN ROWS OF THIS SEAT. 5 by the template 'for every input the law returns true; each argument reads behind the call as it read before'; 0 by the template 'total and deterministic' (their statements: YtilfidcomeandaaTotals.lean).
  GIVEN WITH THE SEED: the statements are not yours to turn. If you find one false, say at which input.
  Laid BY PROGRAM, IN A SANDBOX (cutbox-rows.mjs): the forced cells as the released guide's own fill.sh prints them over the translation 82e8b4068bae3aaf… (all of the seat's roots in one cut). By AI agents, Wed Nov 11 2026. No macro, syntax, notation, axiom, sorry.
-/
import Derived.Test.YtilfidcomeandaaChecked
import GoSem.Claim
import GoSem.ClaimJoined
import GoSem.ClaimMapViews
import Derived.JoinedTies
import Derived.KernelRfl
namespace Go.Proofs.Ytilfidcomeandaa
/- THE CELL 'sum', in the pinned program and in every row, IS THE sha256 OF THE DUMP (.gsa) THAT YtilfidcomeandaaProg.lean LOADS. Nothing in Lean hashes anything: it is a label: what it is worth is what the hold of that sum in a sandbox is worth. -/
noncomputable def Try.pinned : Pinned := { name := "ytilfidcomeandaa", sum := "82e8b4068bae3aaf2f586f59cbf9bce5c4c2463ccf1e67408640a18f32f4413b", checked := Try.checked }
namespace Rows
def none {H : Type} : Left H := { results := [], args := [] }

/-- 'pyxislaw19.JsonfeedPieces': WHATEVER THE INPUT: true; the input reads as it did. -/
def jsonfeedPiecesSpec : ChangeSpec := { name := "jsonfeedPieces", fn := fun _ => fun
  | [d1, d2] => { results := [.lit (.bool true)], args := [d1, d2] }
  | _ => none }
def jsonfeedPiecesRow : OpenClaim := { program := "ytilfidcomeandaa", sum := "82e8b4068bae3aaf2f586f59cbf9bce5c4c2463ccf1e67408640a18f32f4413b", func := "pyxis/pyxislaw19.JsonfeedPieces", spec := "jsonfeedPieces", unfollowed := true, recurses := true, apart := false }
def JsonfeedPiecesSaid : Prop := jsonfeedPiecesRow.holds Try.pinned (OpenSpec.ofChange jsonfeedPiecesSpec)

/-- ITS FALSE NEIGHBOUR: 'it returns false'. Refute it at one input. -/
def jsonfeedPiecesWrong : ChangeSpec := { name := "jsonfeedPieces", fn := fun _ => fun
  | [d1, d2] => { results := [.lit (.bool false)], args := [d1, d2] }
  | _ => none }
def JsonfeedPiecesWrongFalsely : Prop := jsonfeedPiecesRow.holds Try.pinned (OpenSpec.ofChange jsonfeedPiecesWrong)

/-- 'pyxislaw19.JsonfeedStates': WHATEVER THE INPUT: true; the input reads as it did. -/
def jsonfeedStatesSpec : ChangeSpec := { name := "jsonfeedStates", fn := fun _ => fun
  | [d1, d2] => { results := [.lit (.bool true)], args := [d1, d2] }
  | _ => none }
def jsonfeedStatesRow : OpenClaim := { program := "ytilfidcomeandaa", sum := "82e8b4068bae3aaf2f586f59cbf9bce5c4c2463ccf1e67408640a18f32f4413b", func := "pyxis/pyxislaw19.JsonfeedStates", spec := "jsonfeedStates", unfollowed := true, recurses := true, apart := false }
def JsonfeedStatesSaid : Prop := jsonfeedStatesRow.holds Try.pinned (OpenSpec.ofChange jsonfeedStatesSpec)

/-- ITS FALSE NEIGHBOUR: 'it returns false'. Refute it at one input. -/
def jsonfeedStatesWrong : ChangeSpec := { name := "jsonfeedStates", fn := fun _ => fun
  | [d1, d2] => { results := [.lit (.bool false)], args := [d1, d2] }
  | _ => none }
def JsonfeedStatesWrongFalsely : Prop := jsonfeedStatesRow.holds Try.pinned (OpenSpec.ofChange jsonfeedStatesWrong)

/-- 'pyxislaw19.JsonfeedSame': WHATEVER THE INPUT: true; the input reads as it did. -/
def jsonfeedSameSpec : ChangeSpec := { name := "jsonfeedSame", fn := fun _ => fun
  | [d1, d2, d3] => { results := [.lit (.bool true)], args := [d1, d2, d3] }
  | _ => none }
def jsonfeedSameRow : OpenClaim := { program := "ytilfidcomeandaa", sum := "82e8b4068bae3aaf2f586f59cbf9bce5c4c2463ccf1e67408640a18f32f4413b", func := "pyxis/pyxislaw19.JsonfeedSame", spec := "jsonfeedSame", unfollowed := true, recurses := true, apart := false }
def JsonfeedSameSaid : Prop := jsonfeedSameRow.holds Try.pinned (OpenSpec.ofChange jsonfeedSameSpec)

/-- ITS FALSE NEIGHBOUR: 'it returns false'. Refute it at one input. -/
def jsonfeedSameWrong : ChangeSpec := { name := "jsonfeedSame", fn := fun _ => fun
  | [d1, d2, d3] => { results := [.lit (.bool false)], args := [d1, d2, d3] }
  | _ => none }
def JsonfeedSameWrongFalsely : Prop := jsonfeedSameRow.holds Try.pinned (OpenSpec.ofChange jsonfeedSameWrong)

/-- 'pyxislaw19.JsonfeedStops': WHATEVER THE INPUT: true; the input reads as it did. -/
def jsonfeedStopsSpec : ChangeSpec := { name := "jsonfeedStops", fn := fun _ => fun
  | [d1, d2, d3] => { results := [.lit (.bool true)], args := [d1, d2, d3] }
  | _ => none }
def jsonfeedStopsRow : OpenClaim := { program := "ytilfidcomeandaa", sum := "82e8b4068bae3aaf2f586f59cbf9bce5c4c2463ccf1e67408640a18f32f4413b", func := "pyxis/pyxislaw19.JsonfeedStops", spec := "jsonfeedStops", unfollowed := true, recurses := true, apart := false }
def JsonfeedStopsSaid : Prop := jsonfeedStopsRow.holds Try.pinned (OpenSpec.ofChange jsonfeedStopsSpec)

/-- ITS FALSE NEIGHBOUR: 'it returns false'. Refute it at one input. -/
def jsonfeedStopsWrong : ChangeSpec := { name := "jsonfeedStops", fn := fun _ => fun
  | [d1, d2, d3] => { results := [.lit (.bool false)], args := [d1, d2, d3] }
  | _ => none }
def JsonfeedStopsWrongFalsely : Prop := jsonfeedStopsRow.holds Try.pinned (OpenSpec.ofChange jsonfeedStopsWrong)

/-- 'pyxislaw19.JsonfeedNil': WHATEVER THE INPUT: true; the input reads as it did. -/
def jsonfeedNilSpec : ChangeSpec := { name := "jsonfeedNil", fn := fun _ => fun
  | [d] => { results := [.lit (.bool true)], args := [d] }
  | _ => none }
def jsonfeedNilRow : OpenClaim := { program := "ytilfidcomeandaa", sum := "82e8b4068bae3aaf2f586f59cbf9bce5c4c2463ccf1e67408640a18f32f4413b", func := "pyxis/pyxislaw19.JsonfeedNil", spec := "jsonfeedNil", unfollowed := true, recurses := true, apart := false }
def JsonfeedNilSaid : Prop := jsonfeedNilRow.holds Try.pinned (OpenSpec.ofChange jsonfeedNilSpec)

/-- ITS FALSE NEIGHBOUR: 'it returns false'. Refute it at one input. -/
def jsonfeedNilWrong : ChangeSpec := { name := "jsonfeedNil", fn := fun _ => fun
  | [d] => { results := [.lit (.bool false)], args := [d] }
  | _ => none }
def JsonfeedNilWrongFalsely : Prop := jsonfeedNilRow.holds Try.pinned (OpenSpec.ofChange jsonfeedNilWrong)

/- THE SECOND FORM. 'bulk': how many values and letters a reading holds, each counted each time it is reached (what is shared counts as often as it is met; a slice's spare places count too). A statement '..UptoSaid' is the law's where the arguments, and the package variables that the reading takes, are together of bulk at most 1048576: NARROWER than '..Said'. Prove '..Said' where nothing that the law and all that it calls make is longer than what came in: it says more and counts as full. Else prove '..UptoSaid'. A law counts once. -/
mutual
def uptoBulk {H : Type} : DataW H → Nat
  | .lit (.string bytes) => bytes.length + 1
  | .lit _ => 1
  | .nil => 1
  | .ptr d => uptoBulk d + 1
  | .slice elems spare => uptoBulkAll elems + uptoBulkAll spare + 1
  | .agg parts => uptoBulkAll parts + 1
  | .iface _ d => uptoBulk d + 1
  | .map entries => uptoBulkEntries entries + 1
  | .held _ => 1
def uptoBulkAll {H : Type} : List (DataW H) → Nat
  | [] => 0
  | d :: r => uptoBulk d + uptoBulkAll r
def uptoBulkEntries {H : Type} : List (Lit × DataW H) → Nat
  | [] => 0
  | x :: r => uptoBulkEntry x + uptoBulkEntries r
def uptoBulkEntry {H : Type} : Lit × DataW H → Nat
  | (.string bytes, d) => bytes.length + uptoBulk d + 1
  | (_, d) => uptoBulk d + 1
 end
def uptoSmall : (H : Type) → List (DataW H) → Bool := fun _ ds => decide (uptoBulkAll ds ≤ 1048576)
def OpenSpec.upto (s : _root_.Go.ChangeSpec) : _root_.Go.OpenSpec := { _root_.Go.OpenSpec.ofChange s with cond := some uptoSmall }

/-- 'pyxislaw19.JsonfeedPieces', WHERE WHAT IT READS IS OF BULK AT MOST 1048576: true; the input reads as it did. -/
def jsonfeedPiecesUptoRow : OpenClaim := { program := "ytilfidcomeandaa", sum := "82e8b4068bae3aaf2f586f59cbf9bce5c4c2463ccf1e67408640a18f32f4413b", func := "pyxis/pyxislaw19.JsonfeedPieces", spec := "jsonfeedPieces", unfollowed := true, recurses := true, apart := false, narrowed := true }
def JsonfeedPiecesUptoSaid : Prop := jsonfeedPiecesUptoRow.holds Try.pinned (OpenSpec.upto jsonfeedPiecesSpec)

/-- 'pyxislaw19.JsonfeedStates', WHERE WHAT IT READS IS OF BULK AT MOST 1048576: true; the input reads as it did. -/
def jsonfeedStatesUptoRow : OpenClaim := { program := "ytilfidcomeandaa", sum := "82e8b4068bae3aaf2f586f59cbf9bce5c4c2463ccf1e67408640a18f32f4413b", func := "pyxis/pyxislaw19.JsonfeedStates", spec := "jsonfeedStates", unfollowed := true, recurses := true, apart := false, narrowed := true }
def JsonfeedStatesUptoSaid : Prop := jsonfeedStatesUptoRow.holds Try.pinned (OpenSpec.upto jsonfeedStatesSpec)

/-- 'pyxislaw19.JsonfeedSame', WHERE WHAT IT READS IS OF BULK AT MOST 1048576: true; the input reads as it did. -/
def jsonfeedSameUptoRow : OpenClaim := { program := "ytilfidcomeandaa", sum := "82e8b4068bae3aaf2f586f59cbf9bce5c4c2463ccf1e67408640a18f32f4413b", func := "pyxis/pyxislaw19.JsonfeedSame", spec := "jsonfeedSame", unfollowed := true, recurses := true, apart := false, narrowed := true }
def JsonfeedSameUptoSaid : Prop := jsonfeedSameUptoRow.holds Try.pinned (OpenSpec.upto jsonfeedSameSpec)

/-- 'pyxislaw19.JsonfeedStops', WHERE WHAT IT READS IS OF BULK AT MOST 1048576: true; the input reads as it did. -/
def jsonfeedStopsUptoRow : OpenClaim := { program := "ytilfidcomeandaa", sum := "82e8b4068bae3aaf2f586f59cbf9bce5c4c2463ccf1e67408640a18f32f4413b", func := "pyxis/pyxislaw19.JsonfeedStops", spec := "jsonfeedStops", unfollowed := true, recurses := true, apart := false, narrowed := true }
def JsonfeedStopsUptoSaid : Prop := jsonfeedStopsUptoRow.holds Try.pinned (OpenSpec.upto jsonfeedStopsSpec)

/-- 'pyxislaw19.JsonfeedNil', WHERE WHAT IT READS IS OF BULK AT MOST 1048576: true; the input reads as it did. -/
def jsonfeedNilUptoRow : OpenClaim := { program := "ytilfidcomeandaa", sum := "82e8b4068bae3aaf2f586f59cbf9bce5c4c2463ccf1e67408640a18f32f4413b", func := "pyxis/pyxislaw19.JsonfeedNil", spec := "jsonfeedNil", unfollowed := true, recurses := true, apart := false, narrowed := true }
def JsonfeedNilUptoSaid : Prop := jsonfeedNilUptoRow.holds Try.pinned (OpenSpec.upto jsonfeedNilSpec)

end Rows
end Go.Proofs.Ytilfidcomeandaa
