/-
  DERIVED. GIVEN WITH THE SEED: THE CARDS: each row of YtpaikjlcachabaaDoorRows.lean that lists a variable, with what it lists TIED to the program's text (the seventh form; the later family's looks); each row that meets fmt, with fmt's text TOLD by the authors' own Lean function (tested against real Go, not proved from fmt's source: count such statements apart). THE CARD IS WHAT COUNTS. Prove the row's statement (the work); the ties are given (YtpaikjlcachabaaDoorTie.lean); close each card by the builder's one call (the guide's Derived/Test/ToyasCard.lean, 'card_holds'). Laid BY PROGRAM, IN A SANDBOX (cutbox-door.mjs). By AI agents, Wed Nov 11 2026. No macro, syntax, notation, axiom, sorry.
-/
import Derived.Test.YtpaikjlcachabaaDoorRows
import GoSem.ClaimSeven
namespace Go.Proofs.YtpaikjlcachabaaDoor
namespace Rows

/-- THE TIED CARD OF 'pyxislaw16.JsonReads'. -/
def jsonReadsCard : Claim7 := { stood := { row := jsonReadsRow, standIns := [], harness := (true, "bd5db358a3648ba1b57f5d27c4b31372ad2e003fc41ce544f718d19e594e5861"), looks := true }, kinds := [], alts := [], laidByText := true, laidKinds := [.data, .pinned], laidTests := true, laidLooks := .later }
def JsonReadsCardSaid : Prop := Claim7.holds Tryd.pinned (.plain (OpenSpec.ofChange jsonReadsSpec)) jsonReadsCard

/-- THE TIED CARD OF 'pyxislaw16.JsonTells'. -/
def jsonTellsCard : Claim7 := { stood := { row := jsonTellsRow, standIns := [], harness := (true, "bd5db358a3648ba1b57f5d27c4b31372ad2e003fc41ce544f718d19e594e5861"), looks := true }, kinds := [], alts := [], laidByText := true, laidKinds := [.data, .pinned], laidTests := true, laidLooks := .later }
def JsonTellsCardSaid : Prop := Claim7.holds Tryd.pinned (.plain (OpenSpec.ofChange jsonTellsSpec)) jsonTellsCard

/-- THE TIED CARD OF 'pyxislaw16.JsonBack'. -/
def jsonBackCard : Claim7 := { stood := { row := jsonBackRow, standIns := [], harness := (true, "bd5db358a3648ba1b57f5d27c4b31372ad2e003fc41ce544f718d19e594e5861"), looks := true }, kinds := [], alts := [], laidByText := true, laidKinds := [.data, .pinned], laidTests := true, laidLooks := .later }
def JsonBackCardSaid : Prop := Claim7.holds Tryd.pinned (.plain (OpenSpec.ofChange jsonBackSpec)) jsonBackCard

/-- THE TIED CARD OF 'pyxislaw16.JsonNormal'. -/
def jsonNormalCard : Claim7 := { stood := { row := jsonNormalRow, standIns := [], harness := (true, "bd5db358a3648ba1b57f5d27c4b31372ad2e003fc41ce544f718d19e594e5861"), looks := true }, kinds := [], alts := [], laidByText := true, laidKinds := [.data, .pinned], laidTests := true, laidLooks := .later }
def JsonNormalCardSaid : Prop := Claim7.holds Tryd.pinned (.plain (OpenSpec.ofChange jsonNormalSpec)) jsonNormalCard

/-- THE TIED CARD OF 'pyxislaw16.JsonLimits'. -/
def jsonLimitsCard : Claim7 := { stood := { row := jsonLimitsRow, standIns := [], harness := (true, "bd5db358a3648ba1b57f5d27c4b31372ad2e003fc41ce544f718d19e594e5861"), looks := true }, kinds := [], alts := [], laidByText := true, laidKinds := [.data, .pinned], laidTests := true, laidLooks := .later }
def JsonLimitsCardSaid : Prop := Claim7.holds Tryd.pinned (.plain (OpenSpec.ofChange jsonLimitsSpec)) jsonLimitsCard

/-- THE TIED CARD OF 'pyxislaw16.JsonBlanks'. -/
def jsonBlanksCard : Claim7 := { stood := { row := jsonBlanksRow, standIns := [], harness := (true, "bd5db358a3648ba1b57f5d27c4b31372ad2e003fc41ce544f718d19e594e5861"), looks := true }, kinds := [], alts := [], laidByText := true, laidKinds := [.data, .pinned], laidTests := true, laidLooks := .later }
def JsonBlanksCardSaid : Prop := Claim7.holds Tryd.pinned (.plain (OpenSpec.ofChange jsonBlanksSpec)) jsonBlanksCard

/-- THE SECOND FORM's CARD OF 'pyxislaw16.JsonReads'. -/
def jsonReadsUptoCard : Claim7 := { stood := { row := jsonReadsUptoRow, standIns := [], harness := (true, "bd5db358a3648ba1b57f5d27c4b31372ad2e003fc41ce544f718d19e594e5861"), looks := true }, kinds := [], alts := [], laidByText := true, laidKinds := [.data, .pinned], laidTests := true, laidLooks := .later }
def JsonReadsUptoCardSaid : Prop := Claim7.holds Tryd.pinned (.plain (OpenSpec.upto jsonReadsSpec)) jsonReadsUptoCard

/-- THE SECOND FORM's CARD OF 'pyxislaw16.JsonTells'. -/
def jsonTellsUptoCard : Claim7 := { stood := { row := jsonTellsUptoRow, standIns := [], harness := (true, "bd5db358a3648ba1b57f5d27c4b31372ad2e003fc41ce544f718d19e594e5861"), looks := true }, kinds := [], alts := [], laidByText := true, laidKinds := [.data, .pinned], laidTests := true, laidLooks := .later }
def JsonTellsUptoCardSaid : Prop := Claim7.holds Tryd.pinned (.plain (OpenSpec.upto jsonTellsSpec)) jsonTellsUptoCard

/-- THE SECOND FORM's CARD OF 'pyxislaw16.JsonBack'. -/
def jsonBackUptoCard : Claim7 := { stood := { row := jsonBackUptoRow, standIns := [], harness := (true, "bd5db358a3648ba1b57f5d27c4b31372ad2e003fc41ce544f718d19e594e5861"), looks := true }, kinds := [], alts := [], laidByText := true, laidKinds := [.data, .pinned], laidTests := true, laidLooks := .later }
def JsonBackUptoCardSaid : Prop := Claim7.holds Tryd.pinned (.plain (OpenSpec.upto jsonBackSpec)) jsonBackUptoCard

/-- THE SECOND FORM's CARD OF 'pyxislaw16.JsonNormal'. -/
def jsonNormalUptoCard : Claim7 := { stood := { row := jsonNormalUptoRow, standIns := [], harness := (true, "bd5db358a3648ba1b57f5d27c4b31372ad2e003fc41ce544f718d19e594e5861"), looks := true }, kinds := [], alts := [], laidByText := true, laidKinds := [.data, .pinned], laidTests := true, laidLooks := .later }
def JsonNormalUptoCardSaid : Prop := Claim7.holds Tryd.pinned (.plain (OpenSpec.upto jsonNormalSpec)) jsonNormalUptoCard

/-- THE SECOND FORM's CARD OF 'pyxislaw16.JsonLimits'. -/
def jsonLimitsUptoCard : Claim7 := { stood := { row := jsonLimitsUptoRow, standIns := [], harness := (true, "bd5db358a3648ba1b57f5d27c4b31372ad2e003fc41ce544f718d19e594e5861"), looks := true }, kinds := [], alts := [], laidByText := true, laidKinds := [.data, .pinned], laidTests := true, laidLooks := .later }
def JsonLimitsUptoCardSaid : Prop := Claim7.holds Tryd.pinned (.plain (OpenSpec.upto jsonLimitsSpec)) jsonLimitsUptoCard

/-- THE SECOND FORM's CARD OF 'pyxislaw16.JsonBlanks'. -/
def jsonBlanksUptoCard : Claim7 := { stood := { row := jsonBlanksUptoRow, standIns := [], harness := (true, "bd5db358a3648ba1b57f5d27c4b31372ad2e003fc41ce544f718d19e594e5861"), looks := true }, kinds := [], alts := [], laidByText := true, laidKinds := [.data, .pinned], laidTests := true, laidLooks := .later }
def JsonBlanksUptoCardSaid : Prop := Claim7.holds Tryd.pinned (.plain (OpenSpec.upto jsonBlanksSpec)) jsonBlanksUptoCard
end Rows
end Go.Proofs.YtpaikjlcachabaaDoor
