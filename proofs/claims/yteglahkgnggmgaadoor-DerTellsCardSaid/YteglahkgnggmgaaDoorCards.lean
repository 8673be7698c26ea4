/-
  DERIVED. GIVEN WITH THE SEED: THE CARDS: each row of YteglahkgnggmgaaDoorRows.lean that lists a variable, with what it lists TIED to the program's text (the seventh form; the later family's looks); each row that meets fmt, with fmt's text TOLD by the authors' own Lean function (tested against real Go, not proved from fmt's source: count such statements apart). THE CARD IS WHAT COUNTS. Prove the row's statement (the work); the ties are given (YteglahkgnggmgaaDoorTie.lean); close each card by the builder's one call (the guide's Derived/Test/ToyasCard.lean, 'card_holds'). Laid BY PROGRAM, IN A SANDBOX (cutbox-door.mjs). By AI agents, Wed Nov 11 2026. No macro, syntax, notation, axiom, sorry.
-/
import Derived.Test.YteglahkgnggmgaaDoorRows
import GoSem.ClaimSeven
namespace Go.Proofs.YteglahkgnggmgaaDoor
namespace Rows

/-- THE TIED CARD OF 'pyxislaw15.DerReads'. -/
def derReadsCard : Claim7 := { stood := { row := derReadsRow, standIns := [], harness := (true, "966f63e895b482a80a72d3d594869bfe5623a907da6772770d2ad95b56cb790e"), looks := true }, kinds := [], alts := [], laidByText := true, laidKinds := [.data, .pinned], laidTests := true, laidLooks := .later }
def DerReadsCardSaid : Prop := Claim7.holds Tryd.pinned (.plain (OpenSpec.ofChange derReadsSpec)) derReadsCard

/-- THE TIED CARD OF 'pyxislaw15.DerTells'. -/
def derTellsCard : Claim7 := { stood := { row := derTellsRow, standIns := [], harness := (true, "966f63e895b482a80a72d3d594869bfe5623a907da6772770d2ad95b56cb790e"), looks := true }, kinds := [], alts := [], laidByText := true, laidKinds := [.data, .pinned], laidTests := true, laidLooks := .later }
def DerTellsCardSaid : Prop := Claim7.holds Tryd.pinned (.plain (OpenSpec.ofChange derTellsSpec)) derTellsCard

/-- THE TIED CARD OF 'pyxislaw15.DerBack'. -/
def derBackCard : Claim7 := { stood := { row := derBackRow, standIns := [], harness := (true, "966f63e895b482a80a72d3d594869bfe5623a907da6772770d2ad95b56cb790e"), looks := true }, kinds := [], alts := [], laidByText := true, laidKinds := [.data, .pinned], laidTests := true, laidLooks := .later }
def DerBackCardSaid : Prop := Claim7.holds Tryd.pinned (.plain (OpenSpec.ofChange derBackSpec)) derBackCard

/-- THE TIED CARD OF 'pyxislaw15.DerOneWay'. -/
def derOneWayCard : Claim7 := { stood := { row := derOneWayRow, standIns := [], harness := (true, "966f63e895b482a80a72d3d594869bfe5623a907da6772770d2ad95b56cb790e"), looks := true }, kinds := [], alts := [], laidByText := true, laidKinds := [.data, .pinned], laidTests := true, laidLooks := .later }
def DerOneWayCardSaid : Prop := Claim7.holds Tryd.pinned (.plain (OpenSpec.ofChange derOneWaySpec)) derOneWayCard

/-- THE TIED CARD OF 'pyxislaw15.DerLimits'. -/
def derLimitsCard : Claim7 := { stood := { row := derLimitsRow, standIns := [], harness := (true, "966f63e895b482a80a72d3d594869bfe5623a907da6772770d2ad95b56cb790e"), looks := true }, kinds := [], alts := [], laidByText := true, laidKinds := [.data, .pinned], laidTests := true, laidLooks := .later }
def DerLimitsCardSaid : Prop := Claim7.holds Tryd.pinned (.plain (OpenSpec.ofChange derLimitsSpec)) derLimitsCard

/-- THE TIED CARD OF 'pyxislaw15.DerCut'. -/
def derCutCard : Claim7 := { stood := { row := derCutRow, standIns := [], harness := (true, "966f63e895b482a80a72d3d594869bfe5623a907da6772770d2ad95b56cb790e"), looks := true }, kinds := [], alts := [], laidByText := true, laidKinds := [.data, .pinned], laidTests := true, laidLooks := .later }
def DerCutCardSaid : Prop := Claim7.holds Tryd.pinned (.plain (OpenSpec.ofChange derCutSpec)) derCutCard

/-- THE TIED CARD OF 'pyxislaw18.DerfeedPieces'. -/
def derfeedPiecesCard : Claim7 := { stood := { row := derfeedPiecesRow, standIns := [], harness := (true, "966f63e895b482a80a72d3d594869bfe5623a907da6772770d2ad95b56cb790e"), looks := true }, kinds := [], alts := [], laidByText := true, laidKinds := [.data, .pinned], laidTests := true, laidLooks := .later }
def DerfeedPiecesCardSaid : Prop := Claim7.holds Tryd.pinned (.plain (OpenSpec.ofChange derfeedPiecesSpec)) derfeedPiecesCard

/-- THE TIED CARD OF 'pyxislaw18.DerfeedSame'. -/
def derfeedSameCard : Claim7 := { stood := { row := derfeedSameRow, standIns := [], harness := (true, "966f63e895b482a80a72d3d594869bfe5623a907da6772770d2ad95b56cb790e"), looks := true }, kinds := [], alts := [], laidByText := true, laidKinds := [.data, .pinned], laidTests := true, laidLooks := .later }
def DerfeedSameCardSaid : Prop := Claim7.holds Tryd.pinned (.plain (OpenSpec.ofChange derfeedSameSpec)) derfeedSameCard

/-- THE TIED CARD OF 'pyxislaw18.DerfeedStops'. -/
def derfeedStopsCard : Claim7 := { stood := { row := derfeedStopsRow, standIns := [], harness := (true, "966f63e895b482a80a72d3d594869bfe5623a907da6772770d2ad95b56cb790e"), looks := true }, kinds := [], alts := [], laidByText := true, laidKinds := [.data, .pinned], laidTests := true, laidLooks := .later }
def DerfeedStopsCardSaid : Prop := Claim7.holds Tryd.pinned (.plain (OpenSpec.ofChange derfeedStopsSpec)) derfeedStopsCard

/-- THE TIED CARD OF 'pyxislaw18.DerfeedNil'. -/
def derfeedNilCard : Claim7 := { stood := { row := derfeedNilRow, standIns := [], harness := (true, "966f63e895b482a80a72d3d594869bfe5623a907da6772770d2ad95b56cb790e"), looks := true }, kinds := [], alts := [], laidByText := true, laidKinds := [.data, .pinned], laidTests := true, laidLooks := .later }
def DerfeedNilCardSaid : Prop := Claim7.holds Tryd.pinned (.plain (OpenSpec.ofChange derfeedNilSpec)) derfeedNilCard

/-- THE SECOND FORM's CARD OF 'pyxislaw15.DerReads'. -/
def derReadsUptoCard : Claim7 := { stood := { row := derReadsUptoRow, standIns := [], harness := (true, "966f63e895b482a80a72d3d594869bfe5623a907da6772770d2ad95b56cb790e"), looks := true }, kinds := [], alts := [], laidByText := true, laidKinds := [.data, .pinned], laidTests := true, laidLooks := .later }
def DerReadsUptoCardSaid : Prop := Claim7.holds Tryd.pinned (.plain (OpenSpec.upto derReadsSpec)) derReadsUptoCard

/-- THE SECOND FORM's CARD OF 'pyxislaw15.DerTells'. -/
def derTellsUptoCard : Claim7 := { stood := { row := derTellsUptoRow, standIns := [], harness := (true, "966f63e895b482a80a72d3d594869bfe5623a907da6772770d2ad95b56cb790e"), looks := true }, kinds := [], alts := [], laidByText := true, laidKinds := [.data, .pinned], laidTests := true, laidLooks := .later }
def DerTellsUptoCardSaid : Prop := Claim7.holds Tryd.pinned (.plain (OpenSpec.upto derTellsSpec)) derTellsUptoCard

/-- THE SECOND FORM's CARD OF 'pyxislaw15.DerBack'. -/
def derBackUptoCard : Claim7 := { stood := { row := derBackUptoRow, standIns := [], harness := (true, "966f63e895b482a80a72d3d594869bfe5623a907da6772770d2ad95b56cb790e"), looks := true }, kinds := [], alts := [], laidByText := true, laidKinds := [.data, .pinned], laidTests := true, laidLooks := .later }
def DerBackUptoCardSaid : Prop := Claim7.holds Tryd.pinned (.plain (OpenSpec.upto derBackSpec)) derBackUptoCard

/-- THE SECOND FORM's CARD OF 'pyxislaw15.DerOneWay'. -/
def derOneWayUptoCard : Claim7 := { stood := { row := derOneWayUptoRow, standIns := [], harness := (true, "966f63e895b482a80a72d3d594869bfe5623a907da6772770d2ad95b56cb790e"), looks := true }, kinds := [], alts := [], laidByText := true, laidKinds := [.data, .pinned], laidTests := true, laidLooks := .later }
def DerOneWayUptoCardSaid : Prop := Claim7.holds Tryd.pinned (.plain (OpenSpec.upto derOneWaySpec)) derOneWayUptoCard

/-- THE SECOND FORM's CARD OF 'pyxislaw15.DerLimits'. -/
def derLimitsUptoCard : Claim7 := { stood := { row := derLimitsUptoRow, standIns := [], harness := (true, "966f63e895b482a80a72d3d594869bfe5623a907da6772770d2ad95b56cb790e"), looks := true }, kinds := [], alts := [], laidByText := true, laidKinds := [.data, .pinned], laidTests := true, laidLooks := .later }
def DerLimitsUptoCardSaid : Prop := Claim7.holds Tryd.pinned (.plain (OpenSpec.upto derLimitsSpec)) derLimitsUptoCard

/-- THE SECOND FORM's CARD OF 'pyxislaw15.DerCut'. -/
def derCutUptoCard : Claim7 := { stood := { row := derCutUptoRow, standIns := [], harness := (true, "966f63e895b482a80a72d3d594869bfe5623a907da6772770d2ad95b56cb790e"), looks := true }, kinds := [], alts := [], laidByText := true, laidKinds := [.data, .pinned], laidTests := true, laidLooks := .later }
def DerCutUptoCardSaid : Prop := Claim7.holds Tryd.pinned (.plain (OpenSpec.upto derCutSpec)) derCutUptoCard

/-- THE SECOND FORM's CARD OF 'pyxislaw18.DerfeedPieces'. -/
def derfeedPiecesUptoCard : Claim7 := { stood := { row := derfeedPiecesUptoRow, standIns := [], harness := (true, "966f63e895b482a80a72d3d594869bfe5623a907da6772770d2ad95b56cb790e"), looks := true }, kinds := [], alts := [], laidByText := true, laidKinds := [.data, .pinned], laidTests := true, laidLooks := .later }
def DerfeedPiecesUptoCardSaid : Prop := Claim7.holds Tryd.pinned (.plain (OpenSpec.upto derfeedPiecesSpec)) derfeedPiecesUptoCard

/-- THE SECOND FORM's CARD OF 'pyxislaw18.DerfeedSame'. -/
def derfeedSameUptoCard : Claim7 := { stood := { row := derfeedSameUptoRow, standIns := [], harness := (true, "966f63e895b482a80a72d3d594869bfe5623a907da6772770d2ad95b56cb790e"), looks := true }, kinds := [], alts := [], laidByText := true, laidKinds := [.data, .pinned], laidTests := true, laidLooks := .later }
def DerfeedSameUptoCardSaid : Prop := Claim7.holds Tryd.pinned (.plain (OpenSpec.upto derfeedSameSpec)) derfeedSameUptoCard

/-- THE SECOND FORM's CARD OF 'pyxislaw18.DerfeedStops'. -/
def derfeedStopsUptoCard : Claim7 := { stood := { row := derfeedStopsUptoRow, standIns := [], harness := (true, "966f63e895b482a80a72d3d594869bfe5623a907da6772770d2ad95b56cb790e"), looks := true }, kinds := [], alts := [], laidByText := true, laidKinds := [.data, .pinned], laidTests := true, laidLooks := .later }
def DerfeedStopsUptoCardSaid : Prop := Claim7.holds Tryd.pinned (.plain (OpenSpec.upto derfeedStopsSpec)) derfeedStopsUptoCard

/-- THE SECOND FORM's CARD OF 'pyxislaw18.DerfeedNil'. -/
def derfeedNilUptoCard : Claim7 := { stood := { row := derfeedNilUptoRow, standIns := [], harness := (true, "966f63e895b482a80a72d3d594869bfe5623a907da6772770d2ad95b56cb790e"), looks := true }, kinds := [], alts := [], laidByText := true, laidKinds := [.data, .pinned], laidTests := true, laidLooks := .later }
def DerfeedNilUptoCardSaid : Prop := Claim7.holds Tryd.pinned (.plain (OpenSpec.upto derfeedNilSpec)) derfeedNilUptoCard
end Rows
end Go.Proofs.YteglahkgnggmgaaDoor
