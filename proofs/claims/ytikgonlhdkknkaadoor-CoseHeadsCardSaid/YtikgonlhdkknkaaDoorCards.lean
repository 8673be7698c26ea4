/-
  DERIVED. GIVEN WITH THE SEED: THE CARDS: each row of YtikgonlhdkknkaaDoorRows.lean that lists a variable, with what it lists TIED to the program's text (the seventh form; the later family's looks); each row that meets fmt, with fmt's text TOLD by the authors' own Lean function (tested against real Go, not proved from fmt's source: count such statements apart). THE CARD IS WHAT COUNTS. Prove the row's statement (the work); the ties are given (YtikgonlhdkknkaaDoorTie.lean); close each card by the builder's one call (the guide's Derived/Test/ToyasCard.lean, 'card_holds'). Laid BY PROGRAM, IN A SANDBOX (cutbox-door.mjs). By AI agents, Wed Nov 11 2026. No macro, syntax, notation, axiom, sorry.
-/
import Derived.Test.YtikgonlhdkknkaaDoorRows
import GoSem.ClaimSeven
namespace Go.Proofs.YtikgonlhdkknkaaDoor
namespace Rows

/-- THE TIED CARD OF 'pyxislaw25.CoseBack'. -/
def coseBackCard : Claim7 := { stood := { row := coseBackRow, standIns := [], harness := (true, "b8241f4259e4e4ae065cb3a00c36751609d76836ff739d250ce084395f28dd59"), looks := true }, kinds := [], alts := [], laidByText := true, laidKinds := [.data, .pinned], laidTests := true, laidLooks := .later }
def CoseBackCardSaid : Prop := Claim7.holds Tryd.pinned (.plain (OpenSpec.ofChange coseBackSpec)) coseBackCard

/-- THE TIED CARD OF 'pyxislaw25.CoseOneWay'. -/
def coseOneWayCard : Claim7 := { stood := { row := coseOneWayRow, standIns := [], harness := (true, "b8241f4259e4e4ae065cb3a00c36751609d76836ff739d250ce084395f28dd59"), looks := true }, kinds := [], alts := [], laidByText := true, laidKinds := [.data, .pinned], laidTests := true, laidLooks := .later }
def CoseOneWayCardSaid : Prop := Claim7.holds Tryd.pinned (.plain (OpenSpec.ofChange coseOneWaySpec)) coseOneWayCard

/-- THE TIED CARD OF 'pyxislaw25.CoseHeads'. -/
def coseHeadsCard : Claim7 := { stood := { row := coseHeadsRow, standIns := [], harness := (true, "b8241f4259e4e4ae065cb3a00c36751609d76836ff739d250ce084395f28dd59"), looks := true }, kinds := [], alts := [], laidByText := true, laidKinds := [.data, .pinned], laidTests := true, laidLooks := .later }
def CoseHeadsCardSaid : Prop := Claim7.holds Tryd.pinned (.plain (OpenSpec.ofChange coseHeadsSpec)) coseHeadsCard

/-- THE TIED CARD OF 'pyxislaw25.CoseStructures'. -/
def coseStructuresCard : Claim7 := { stood := { row := coseStructuresRow, standIns := [], harness := (true, "b8241f4259e4e4ae065cb3a00c36751609d76836ff739d250ce084395f28dd59"), looks := true }, kinds := [], alts := [], laidByText := true, laidKinds := [.data, .pinned], laidTests := true, laidLooks := .later }
def CoseStructuresCardSaid : Prop := Claim7.holds Tryd.pinned (.plain (OpenSpec.ofChange coseStructuresSpec)) coseStructuresCard

/-- THE SECOND FORM's CARD OF 'pyxislaw25.CoseBack'. -/
def coseBackUptoCard : Claim7 := { stood := { row := coseBackUptoRow, standIns := [], harness := (true, "b8241f4259e4e4ae065cb3a00c36751609d76836ff739d250ce084395f28dd59"), looks := true }, kinds := [], alts := [], laidByText := true, laidKinds := [.data, .pinned], laidTests := true, laidLooks := .later }
def CoseBackUptoCardSaid : Prop := Claim7.holds Tryd.pinned (.plain (OpenSpec.upto coseBackSpec)) coseBackUptoCard

/-- THE SECOND FORM's CARD OF 'pyxislaw25.CoseOneWay'. -/
def coseOneWayUptoCard : Claim7 := { stood := { row := coseOneWayUptoRow, standIns := [], harness := (true, "b8241f4259e4e4ae065cb3a00c36751609d76836ff739d250ce084395f28dd59"), looks := true }, kinds := [], alts := [], laidByText := true, laidKinds := [.data, .pinned], laidTests := true, laidLooks := .later }
def CoseOneWayUptoCardSaid : Prop := Claim7.holds Tryd.pinned (.plain (OpenSpec.upto coseOneWaySpec)) coseOneWayUptoCard

/-- THE SECOND FORM's CARD OF 'pyxislaw25.CoseHeads'. -/
def coseHeadsUptoCard : Claim7 := { stood := { row := coseHeadsUptoRow, standIns := [], harness := (true, "b8241f4259e4e4ae065cb3a00c36751609d76836ff739d250ce084395f28dd59"), looks := true }, kinds := [], alts := [], laidByText := true, laidKinds := [.data, .pinned], laidTests := true, laidLooks := .later }
def CoseHeadsUptoCardSaid : Prop := Claim7.holds Tryd.pinned (.plain (OpenSpec.upto coseHeadsSpec)) coseHeadsUptoCard

/-- THE SECOND FORM's CARD OF 'pyxislaw25.CoseStructures'. -/
def coseStructuresUptoCard : Claim7 := { stood := { row := coseStructuresUptoRow, standIns := [], harness := (true, "b8241f4259e4e4ae065cb3a00c36751609d76836ff739d250ce084395f28dd59"), looks := true }, kinds := [], alts := [], laidByText := true, laidKinds := [.data, .pinned], laidTests := true, laidLooks := .later }
def CoseStructuresUptoCardSaid : Prop := Claim7.holds Tryd.pinned (.plain (OpenSpec.upto coseStructuresSpec)) coseStructuresUptoCard
end Rows
end Go.Proofs.YtikgonlhdkknkaaDoor
