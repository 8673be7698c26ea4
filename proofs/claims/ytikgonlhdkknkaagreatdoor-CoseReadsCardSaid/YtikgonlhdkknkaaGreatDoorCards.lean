/-
  DERIVED. GIVEN WITH THE SEED: THE CARDS: each row of YtikgonlhdkknkaaGreatDoorRows.lean that lists a variable, with what it lists TIED to the program's text (the seventh form; the later family's looks); each row that meets fmt, with fmt's text TOLD by the authors' own Lean function (tested against real Go, not proved from fmt's source: count such statements apart). THE CARD IS WHAT COUNTS. Prove the row's statement (the work); the ties are given (YtikgonlhdkknkaaGreatDoorTie.lean); close each card by the builder's one call (the guide's Derived/Test/ToyasCard.lean, 'card_holds'). Laid BY PROGRAM, IN A SANDBOX (cutbox-door.mjs). By AI agents, Wed Nov 11 2026. No macro, syntax, notation, axiom, sorry.
-/
import Derived.Test.YtikgonlhdkknkaaGreatDoorRows
import GoSem.ClaimSeven
namespace Go.Proofs.YtikgonlhdkknkaaGreatDoor
namespace Rows

/-- THE TIED CARD OF 'pyxislaw25.CoseReads'. -/
def coseReadsCard : Claim7 := { stood := { row := coseReadsRow, standIns := [], harness := (true, "82eebc21c4bc1451648c76ee8a8f7282b79cad85494662f497eb294513aee8fd"), looks := true }, kinds := [], alts := [], laidByText := true, laidKinds := [.data, .pinned], laidTests := true, laidLooks := .later }
def CoseReadsCardSaid : Prop := Claim7.holds Tryz.pinned (.plain (OpenSpec.ofChange coseReadsSpec)) coseReadsCard

/-- THE TIED CARD OF 'pyxislaw25.CoseTells'. -/
def coseTellsCard : Claim7 := { stood := { row := coseTellsRow, standIns := [], harness := (true, "82eebc21c4bc1451648c76ee8a8f7282b79cad85494662f497eb294513aee8fd"), looks := true }, kinds := [], alts := [], laidByText := true, laidKinds := [.data, .pinned], laidTests := true, laidLooks := .later }
def CoseTellsCardSaid : Prop := Claim7.holds Tryz.pinned (.plain (OpenSpec.ofChange coseTellsSpec)) coseTellsCard

/-- THE SECOND FORM's CARD OF 'pyxislaw25.CoseReads'. -/
def coseReadsUptoCard : Claim7 := { stood := { row := coseReadsUptoRow, standIns := [], harness := (true, "82eebc21c4bc1451648c76ee8a8f7282b79cad85494662f497eb294513aee8fd"), looks := true }, kinds := [], alts := [], laidByText := true, laidKinds := [.data, .pinned], laidTests := true, laidLooks := .later }
def CoseReadsUptoCardSaid : Prop := Claim7.holds Tryz.pinned (.plain (OpenSpec.upto coseReadsSpec)) coseReadsUptoCard

/-- THE SECOND FORM's CARD OF 'pyxislaw25.CoseTells'. -/
def coseTellsUptoCard : Claim7 := { stood := { row := coseTellsUptoRow, standIns := [], harness := (true, "82eebc21c4bc1451648c76ee8a8f7282b79cad85494662f497eb294513aee8fd"), looks := true }, kinds := [], alts := [], laidByText := true, laidKinds := [.data, .pinned], laidTests := true, laidLooks := .later }
def CoseTellsUptoCardSaid : Prop := Claim7.holds Tryz.pinned (.plain (OpenSpec.upto coseTellsSpec)) coseTellsUptoCard
end Rows
end Go.Proofs.YtikgonlhdkknkaaGreatDoor
