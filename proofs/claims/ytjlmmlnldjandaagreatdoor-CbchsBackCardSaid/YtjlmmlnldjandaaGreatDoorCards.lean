/-
  DERIVED. GIVEN WITH THE SEED: THE CARDS: each row of YtjlmmlnldjandaaGreatDoorRows.lean that lists a variable, with what it lists TIED to the program's text (the seventh form; the later family's looks); each row that meets fmt, with fmt's text TOLD by the authors' own Lean function (tested against real Go, not proved from fmt's source: count such statements apart). THE CARD IS WHAT COUNTS. Prove the row's statement (the work); the ties are given (YtjlmmlnldjandaaGreatDoorTie.lean); close each card by the builder's one call (the guide's Derived/Test/ToyasCard.lean, 'card_holds'). Laid BY PROGRAM, IN A SANDBOX (cutbox-door.mjs). By AI agents, Wed Nov 11 2026. No macro, syntax, notation, axiom, sorry.
-/
import Derived.Test.YtjlmmlnldjandaaGreatDoorRows
import GoSem.ClaimSeven
namespace Go.Proofs.YtjlmmlnldjandaaGreatDoor
namespace Rows

/-- THE TIED CARD OF 'pyxislaw11.CbchsSeals'. -/
def cbchsSealsCard : Claim7 := { stood := { row := cbchsSealsRow, standIns := [], harness := (true, "7b112caacab196aba2001b8a93f703f63f7473b83a451275daa026bb85e10d5f"), looks := false }, kinds := [], alts := [], laidByText := true, laidKinds := [.data, .data], laidTests := true, laidLooks := .later }
def CbchsSealsCardSaid : Prop := Claim7.holds Tryz.pinned (.plain (OpenSpec.ofChange cbchsSealsSpec)) cbchsSealsCard

/-- THE TIED CARD OF 'pyxislaw11.CbchsOpens'. -/
def cbchsOpensCard : Claim7 := { stood := { row := cbchsOpensRow, standIns := [], harness := (true, "7b112caacab196aba2001b8a93f703f63f7473b83a451275daa026bb85e10d5f"), looks := false }, kinds := [], alts := [], laidByText := true, laidKinds := [.data, .data], laidTests := true, laidLooks := .later }
def CbchsOpensCardSaid : Prop := Claim7.holds Tryz.pinned (.plain (OpenSpec.ofChange cbchsOpensSpec)) cbchsOpensCard

/-- THE TIED CARD OF 'pyxislaw11.CbchsTags'. -/
def cbchsTagsCard : Claim7 := { stood := { row := cbchsTagsRow, standIns := [], harness := (true, "7b112caacab196aba2001b8a93f703f63f7473b83a451275daa026bb85e10d5f"), looks := false }, kinds := [], alts := [], laidByText := true, laidKinds := [.data, .data], laidTests := true, laidLooks := .later }
def CbchsTagsCardSaid : Prop := Claim7.holds Tryz.pinned (.plain (OpenSpec.ofChange cbchsTagsSpec)) cbchsTagsCard

/-- THE TIED CARD OF 'pyxislaw11.CbchsBack'. -/
def cbchsBackCard : Claim7 := { stood := { row := cbchsBackRow, standIns := [], harness := (true, "7b112caacab196aba2001b8a93f703f63f7473b83a451275daa026bb85e10d5f"), looks := false }, kinds := [], alts := [], laidByText := true, laidKinds := [.data, .data], laidTests := true, laidLooks := .later }
def CbchsBackCardSaid : Prop := Claim7.holds Tryz.pinned (.plain (OpenSpec.ofChange cbchsBackSpec)) cbchsBackCard

/-- THE TIED CARD OF 'pyxislaw11.CbchsPads'. -/
def cbchsPadsCard : Claim7 := { stood := { row := cbchsPadsRow, standIns := [], harness := (true, "7b112caacab196aba2001b8a93f703f63f7473b83a451275daa026bb85e10d5f"), looks := false }, kinds := [], alts := [], laidByText := true, laidKinds := [.data, .data], laidTests := true, laidLooks := .later }
def CbchsPadsCardSaid : Prop := Claim7.holds Tryz.pinned (.plain (OpenSpec.ofChange cbchsPadsSpec)) cbchsPadsCard

/-- THE TIED CARD OF 'pyxislaw22.RecipDerives'. -/
def recipDerivesCard : Claim7 := { stood := { row := recipDerivesRow, standIns := [], harness := (true, "7b112caacab196aba2001b8a93f703f63f7473b83a451275daa026bb85e10d5f"), looks := false }, kinds := [], alts := [], laidByText := true, laidKinds := [.data, .data], laidTests := true, laidLooks := .later }
def RecipDerivesCardSaid : Prop := Claim7.holds Tryz.pinned (.plain (OpenSpec.ofChange recipDerivesSpec)) recipDerivesCard

/-- THE SECOND FORM's CARD OF 'pyxislaw11.CbchsSeals'. -/
def cbchsSealsUptoCard : Claim7 := { stood := { row := cbchsSealsUptoRow, standIns := [], harness := (true, "7b112caacab196aba2001b8a93f703f63f7473b83a451275daa026bb85e10d5f"), looks := false }, kinds := [], alts := [], laidByText := true, laidKinds := [.data, .data], laidTests := true, laidLooks := .later }
def CbchsSealsUptoCardSaid : Prop := Claim7.holds Tryz.pinned (.plain (OpenSpec.upto cbchsSealsSpec)) cbchsSealsUptoCard

/-- THE SECOND FORM's CARD OF 'pyxislaw11.CbchsOpens'. -/
def cbchsOpensUptoCard : Claim7 := { stood := { row := cbchsOpensUptoRow, standIns := [], harness := (true, "7b112caacab196aba2001b8a93f703f63f7473b83a451275daa026bb85e10d5f"), looks := false }, kinds := [], alts := [], laidByText := true, laidKinds := [.data, .data], laidTests := true, laidLooks := .later }
def CbchsOpensUptoCardSaid : Prop := Claim7.holds Tryz.pinned (.plain (OpenSpec.upto cbchsOpensSpec)) cbchsOpensUptoCard

/-- THE SECOND FORM's CARD OF 'pyxislaw11.CbchsTags'. -/
def cbchsTagsUptoCard : Claim7 := { stood := { row := cbchsTagsUptoRow, standIns := [], harness := (true, "7b112caacab196aba2001b8a93f703f63f7473b83a451275daa026bb85e10d5f"), looks := false }, kinds := [], alts := [], laidByText := true, laidKinds := [.data, .data], laidTests := true, laidLooks := .later }
def CbchsTagsUptoCardSaid : Prop := Claim7.holds Tryz.pinned (.plain (OpenSpec.upto cbchsTagsSpec)) cbchsTagsUptoCard

/-- THE SECOND FORM's CARD OF 'pyxislaw11.CbchsBack'. -/
def cbchsBackUptoCard : Claim7 := { stood := { row := cbchsBackUptoRow, standIns := [], harness := (true, "7b112caacab196aba2001b8a93f703f63f7473b83a451275daa026bb85e10d5f"), looks := false }, kinds := [], alts := [], laidByText := true, laidKinds := [.data, .data], laidTests := true, laidLooks := .later }
def CbchsBackUptoCardSaid : Prop := Claim7.holds Tryz.pinned (.plain (OpenSpec.upto cbchsBackSpec)) cbchsBackUptoCard

/-- THE SECOND FORM's CARD OF 'pyxislaw11.CbchsPads'. -/
def cbchsPadsUptoCard : Claim7 := { stood := { row := cbchsPadsUptoRow, standIns := [], harness := (true, "7b112caacab196aba2001b8a93f703f63f7473b83a451275daa026bb85e10d5f"), looks := false }, kinds := [], alts := [], laidByText := true, laidKinds := [.data, .data], laidTests := true, laidLooks := .later }
def CbchsPadsUptoCardSaid : Prop := Claim7.holds Tryz.pinned (.plain (OpenSpec.upto cbchsPadsSpec)) cbchsPadsUptoCard

/-- THE SECOND FORM's CARD OF 'pyxislaw22.RecipDerives'. -/
def recipDerivesUptoCard : Claim7 := { stood := { row := recipDerivesUptoRow, standIns := [], harness := (true, "7b112caacab196aba2001b8a93f703f63f7473b83a451275daa026bb85e10d5f"), looks := false }, kinds := [], alts := [], laidByText := true, laidKinds := [.data, .data], laidTests := true, laidLooks := .later }
def RecipDerivesUptoCardSaid : Prop := Claim7.holds Tryz.pinned (.plain (OpenSpec.upto recipDerivesSpec)) recipDerivesUptoCard
end Rows
end Go.Proofs.YtjlmmlnldjandaaGreatDoor
