/-
  DERIVED. GIVEN WITH THE SEED: THE CARDS: each row of YteanipjgpekncaaDoorRows.lean that lists a variable, with what it lists TIED to the program's text (the seventh form; the later family's looks); each row that meets fmt, with fmt's text TOLD by the authors' own Lean function (tested against real Go, not proved from fmt's source: count such statements apart). THE CARD IS WHAT COUNTS. Prove the row's statement (the work); the ties are given (YteanipjgpekncaaDoorTie.lean); close each card by the builder's one call (the guide's Derived/Test/ToyasCard.lean, 'card_holds'). Laid BY PROGRAM, IN A SANDBOX (cutbox-door.mjs). By AI agents, Wed Nov 11 2026. No macro, syntax, notation, axiom, sorry.
-/
import Derived.Test.YteanipjgpekncaaDoorRows
import GoSem.ClaimSeven
namespace Go.Proofs.YteanipjgpekncaaDoor
namespace Rows

/-- THE TIED CARD OF 'pyxislaw17.CborReads'. -/
def cborReadsCard : Claim7 := { stood := { row := cborReadsRow, standIns := [], harness := (true, "efc3c15afd4e0c5842d2ba9731b05d223b955ca620616a2ad4bb68324ab390ad"), looks := true }, kinds := [], alts := [], laidByText := true, laidKinds := [.data, .pinned], laidTests := true, laidLooks := .later }
def CborReadsCardSaid : Prop := Claim7.holds Tryd.pinned (.plain (OpenSpec.ofChange cborReadsSpec)) cborReadsCard

/-- THE TIED CARD OF 'pyxislaw17.CborTells'. -/
def cborTellsCard : Claim7 := { stood := { row := cborTellsRow, standIns := [], harness := (true, "efc3c15afd4e0c5842d2ba9731b05d223b955ca620616a2ad4bb68324ab390ad"), looks := true }, kinds := [], alts := [], laidByText := true, laidKinds := [.data, .pinned], laidTests := true, laidLooks := .later }
def CborTellsCardSaid : Prop := Claim7.holds Tryd.pinned (.plain (OpenSpec.ofChange cborTellsSpec)) cborTellsCard

/-- THE TIED CARD OF 'pyxislaw17.CborBack'. -/
def cborBackCard : Claim7 := { stood := { row := cborBackRow, standIns := [], harness := (true, "efc3c15afd4e0c5842d2ba9731b05d223b955ca620616a2ad4bb68324ab390ad"), looks := true }, kinds := [], alts := [], laidByText := true, laidKinds := [.data, .pinned], laidTests := true, laidLooks := .later }
def CborBackCardSaid : Prop := Claim7.holds Tryd.pinned (.plain (OpenSpec.ofChange cborBackSpec)) cborBackCard

/-- THE TIED CARD OF 'pyxislaw17.CborOneWay'. -/
def cborOneWayCard : Claim7 := { stood := { row := cborOneWayRow, standIns := [], harness := (true, "efc3c15afd4e0c5842d2ba9731b05d223b955ca620616a2ad4bb68324ab390ad"), looks := true }, kinds := [], alts := [], laidByText := true, laidKinds := [.data, .pinned], laidTests := true, laidLooks := .later }
def CborOneWayCardSaid : Prop := Claim7.holds Tryd.pinned (.plain (OpenSpec.ofChange cborOneWaySpec)) cborOneWayCard

/-- THE TIED CARD OF 'pyxislaw17.CborLimits'. -/
def cborLimitsCard : Claim7 := { stood := { row := cborLimitsRow, standIns := [], harness := (true, "efc3c15afd4e0c5842d2ba9731b05d223b955ca620616a2ad4bb68324ab390ad"), looks := true }, kinds := [], alts := [], laidByText := true, laidKinds := [.data, .pinned], laidTests := true, laidLooks := .later }
def CborLimitsCardSaid : Prop := Claim7.holds Tryd.pinned (.plain (OpenSpec.ofChange cborLimitsSpec)) cborLimitsCard

/-- THE TIED CARD OF 'pyxislaw17.CborCut'. -/
def cborCutCard : Claim7 := { stood := { row := cborCutRow, standIns := [], harness := (true, "efc3c15afd4e0c5842d2ba9731b05d223b955ca620616a2ad4bb68324ab390ad"), looks := true }, kinds := [], alts := [], laidByText := true, laidKinds := [.data, .pinned], laidTests := true, laidLooks := .later }
def CborCutCardSaid : Prop := Claim7.holds Tryd.pinned (.plain (OpenSpec.ofChange cborCutSpec)) cborCutCard

/-- THE TIED CARD OF 'pyxislaw20.CborfeedPieces'. -/
def cborfeedPiecesCard : Claim7 := { stood := { row := cborfeedPiecesRow, standIns := [], harness := (true, "efc3c15afd4e0c5842d2ba9731b05d223b955ca620616a2ad4bb68324ab390ad"), looks := true }, kinds := [], alts := [], laidByText := true, laidKinds := [.data, .pinned], laidTests := true, laidLooks := .later }
def CborfeedPiecesCardSaid : Prop := Claim7.holds Tryd.pinned (.plain (OpenSpec.ofChange cborfeedPiecesSpec)) cborfeedPiecesCard

/-- THE TIED CARD OF 'pyxislaw20.CborfeedStates'. -/
def cborfeedStatesCard : Claim7 := { stood := { row := cborfeedStatesRow, standIns := [], harness := (true, "efc3c15afd4e0c5842d2ba9731b05d223b955ca620616a2ad4bb68324ab390ad"), looks := true }, kinds := [], alts := [], laidByText := true, laidKinds := [.data, .pinned], laidTests := true, laidLooks := .later }
def CborfeedStatesCardSaid : Prop := Claim7.holds Tryd.pinned (.plain (OpenSpec.ofChange cborfeedStatesSpec)) cborfeedStatesCard

/-- THE TIED CARD OF 'pyxislaw20.CborfeedSame'. -/
def cborfeedSameCard : Claim7 := { stood := { row := cborfeedSameRow, standIns := [], harness := (true, "efc3c15afd4e0c5842d2ba9731b05d223b955ca620616a2ad4bb68324ab390ad"), looks := true }, kinds := [], alts := [], laidByText := true, laidKinds := [.data, .pinned], laidTests := true, laidLooks := .later }
def CborfeedSameCardSaid : Prop := Claim7.holds Tryd.pinned (.plain (OpenSpec.ofChange cborfeedSameSpec)) cborfeedSameCard

/-- THE TIED CARD OF 'pyxislaw20.CborfeedStops'. -/
def cborfeedStopsCard : Claim7 := { stood := { row := cborfeedStopsRow, standIns := [], harness := (true, "efc3c15afd4e0c5842d2ba9731b05d223b955ca620616a2ad4bb68324ab390ad"), looks := true }, kinds := [], alts := [], laidByText := true, laidKinds := [.data, .pinned], laidTests := true, laidLooks := .later }
def CborfeedStopsCardSaid : Prop := Claim7.holds Tryd.pinned (.plain (OpenSpec.ofChange cborfeedStopsSpec)) cborfeedStopsCard

/-- THE TIED CARD OF 'pyxislaw20.CborfeedNil'. -/
def cborfeedNilCard : Claim7 := { stood := { row := cborfeedNilRow, standIns := [], harness := (true, "efc3c15afd4e0c5842d2ba9731b05d223b955ca620616a2ad4bb68324ab390ad"), looks := true }, kinds := [], alts := [], laidByText := true, laidKinds := [.data, .pinned], laidTests := true, laidLooks := .later }
def CborfeedNilCardSaid : Prop := Claim7.holds Tryd.pinned (.plain (OpenSpec.ofChange cborfeedNilSpec)) cborfeedNilCard

/-- THE SECOND FORM's CARD OF 'pyxislaw17.CborReads'. -/
def cborReadsUptoCard : Claim7 := { stood := { row := cborReadsUptoRow, standIns := [], harness := (true, "efc3c15afd4e0c5842d2ba9731b05d223b955ca620616a2ad4bb68324ab390ad"), looks := true }, kinds := [], alts := [], laidByText := true, laidKinds := [.data, .pinned], laidTests := true, laidLooks := .later }
def CborReadsUptoCardSaid : Prop := Claim7.holds Tryd.pinned (.plain (OpenSpec.upto cborReadsSpec)) cborReadsUptoCard

/-- THE SECOND FORM's CARD OF 'pyxislaw17.CborTells'. -/
def cborTellsUptoCard : Claim7 := { stood := { row := cborTellsUptoRow, standIns := [], harness := (true, "efc3c15afd4e0c5842d2ba9731b05d223b955ca620616a2ad4bb68324ab390ad"), looks := true }, kinds := [], alts := [], laidByText := true, laidKinds := [.data, .pinned], laidTests := true, laidLooks := .later }
def CborTellsUptoCardSaid : Prop := Claim7.holds Tryd.pinned (.plain (OpenSpec.upto cborTellsSpec)) cborTellsUptoCard

/-- THE SECOND FORM's CARD OF 'pyxislaw17.CborBack'. -/
def cborBackUptoCard : Claim7 := { stood := { row := cborBackUptoRow, standIns := [], harness := (true, "efc3c15afd4e0c5842d2ba9731b05d223b955ca620616a2ad4bb68324ab390ad"), looks := true }, kinds := [], alts := [], laidByText := true, laidKinds := [.data, .pinned], laidTests := true, laidLooks := .later }
def CborBackUptoCardSaid : Prop := Claim7.holds Tryd.pinned (.plain (OpenSpec.upto cborBackSpec)) cborBackUptoCard

/-- THE SECOND FORM's CARD OF 'pyxislaw17.CborOneWay'. -/
def cborOneWayUptoCard : Claim7 := { stood := { row := cborOneWayUptoRow, standIns := [], harness := (true, "efc3c15afd4e0c5842d2ba9731b05d223b955ca620616a2ad4bb68324ab390ad"), looks := true }, kinds := [], alts := [], laidByText := true, laidKinds := [.data, .pinned], laidTests := true, laidLooks := .later }
def CborOneWayUptoCardSaid : Prop := Claim7.holds Tryd.pinned (.plain (OpenSpec.upto cborOneWaySpec)) cborOneWayUptoCard

/-- THE SECOND FORM's CARD OF 'pyxislaw17.CborLimits'. -/
def cborLimitsUptoCard : Claim7 := { stood := { row := cborLimitsUptoRow, standIns := [], harness := (true, "efc3c15afd4e0c5842d2ba9731b05d223b955ca620616a2ad4bb68324ab390ad"), looks := true }, kinds := [], alts := [], laidByText := true, laidKinds := [.data, .pinned], laidTests := true, laidLooks := .later }
def CborLimitsUptoCardSaid : Prop := Claim7.holds Tryd.pinned (.plain (OpenSpec.upto cborLimitsSpec)) cborLimitsUptoCard

/-- THE SECOND FORM's CARD OF 'pyxislaw17.CborCut'. -/
def cborCutUptoCard : Claim7 := { stood := { row := cborCutUptoRow, standIns := [], harness := (true, "efc3c15afd4e0c5842d2ba9731b05d223b955ca620616a2ad4bb68324ab390ad"), looks := true }, kinds := [], alts := [], laidByText := true, laidKinds := [.data, .pinned], laidTests := true, laidLooks := .later }
def CborCutUptoCardSaid : Prop := Claim7.holds Tryd.pinned (.plain (OpenSpec.upto cborCutSpec)) cborCutUptoCard

/-- THE SECOND FORM's CARD OF 'pyxislaw20.CborfeedPieces'. -/
def cborfeedPiecesUptoCard : Claim7 := { stood := { row := cborfeedPiecesUptoRow, standIns := [], harness := (true, "efc3c15afd4e0c5842d2ba9731b05d223b955ca620616a2ad4bb68324ab390ad"), looks := true }, kinds := [], alts := [], laidByText := true, laidKinds := [.data, .pinned], laidTests := true, laidLooks := .later }
def CborfeedPiecesUptoCardSaid : Prop := Claim7.holds Tryd.pinned (.plain (OpenSpec.upto cborfeedPiecesSpec)) cborfeedPiecesUptoCard

/-- THE SECOND FORM's CARD OF 'pyxislaw20.CborfeedStates'. -/
def cborfeedStatesUptoCard : Claim7 := { stood := { row := cborfeedStatesUptoRow, standIns := [], harness := (true, "efc3c15afd4e0c5842d2ba9731b05d223b955ca620616a2ad4bb68324ab390ad"), looks := true }, kinds := [], alts := [], laidByText := true, laidKinds := [.data, .pinned], laidTests := true, laidLooks := .later }
def CborfeedStatesUptoCardSaid : Prop := Claim7.holds Tryd.pinned (.plain (OpenSpec.upto cborfeedStatesSpec)) cborfeedStatesUptoCard

/-- THE SECOND FORM's CARD OF 'pyxislaw20.CborfeedSame'. -/
def cborfeedSameUptoCard : Claim7 := { stood := { row := cborfeedSameUptoRow, standIns := [], harness := (true, "efc3c15afd4e0c5842d2ba9731b05d223b955ca620616a2ad4bb68324ab390ad"), looks := true }, kinds := [], alts := [], laidByText := true, laidKinds := [.data, .pinned], laidTests := true, laidLooks := .later }
def CborfeedSameUptoCardSaid : Prop := Claim7.holds Tryd.pinned (.plain (OpenSpec.upto cborfeedSameSpec)) cborfeedSameUptoCard

/-- THE SECOND FORM's CARD OF 'pyxislaw20.CborfeedStops'. -/
def cborfeedStopsUptoCard : Claim7 := { stood := { row := cborfeedStopsUptoRow, standIns := [], harness := (true, "efc3c15afd4e0c5842d2ba9731b05d223b955ca620616a2ad4bb68324ab390ad"), looks := true }, kinds := [], alts := [], laidByText := true, laidKinds := [.data, .pinned], laidTests := true, laidLooks := .later }
def CborfeedStopsUptoCardSaid : Prop := Claim7.holds Tryd.pinned (.plain (OpenSpec.upto cborfeedStopsSpec)) cborfeedStopsUptoCard

/-- THE SECOND FORM's CARD OF 'pyxislaw20.CborfeedNil'. -/
def cborfeedNilUptoCard : Claim7 := { stood := { row := cborfeedNilUptoRow, standIns := [], harness := (true, "efc3c15afd4e0c5842d2ba9731b05d223b955ca620616a2ad4bb68324ab390ad"), looks := true }, kinds := [], alts := [], laidByText := true, laidKinds := [.data, .pinned], laidTests := true, laidLooks := .later }
def CborfeedNilUptoCardSaid : Prop := Claim7.holds Tryd.pinned (.plain (OpenSpec.upto cborfeedNilSpec)) cborfeedNilUptoCard
end Rows
end Go.Proofs.YteanipjgpekncaaDoor
