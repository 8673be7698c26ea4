/-
  DERIVED. GIVEN WITH THE SEED: THE CARDS: each row of YthofcjjllmnjbaaDoorRows.lean that lists a variable, with what it lists TIED to the program's text (the seventh form; the later family's looks); each row that meets fmt, with fmt's text TOLD by the authors' own Lean function (tested against real Go, not proved from fmt's source: count such statements apart). THE CARD IS WHAT COUNTS. Prove the row's statement (the work); the ties are given (YthofcjjllmnjbaaDoorTie.lean); close each card by the builder's one call (the guide's Derived/Test/ToyasCard.lean, 'card_holds'). Laid BY PROGRAM, IN A SANDBOX (cutbox-door.mjs). By AI agents, Wed Nov 11 2026. No macro, syntax, notation, axiom, sorry.
-/
import Derived.Test.YthofcjjllmnjbaaDoorRows
import GoSem.ClaimSeven
namespace Go.Proofs.YthofcjjllmnjbaaDoor
namespace Rows

/-- THE TIED CARD OF 'pyxislaw03.ShaSums'. -/
def shaSumsCard : Claim7 := { stood := { row := shaSumsRow, standIns := [], harness := (true, "f87d812a41ef34f565224aecd07674eea9e34acacbcef1a25433160104f2d20e"), looks := false }, kinds := [], alts := [], laidByText := true, laidKinds := [.data, .data], laidTests := true, laidLooks := .later }
def ShaSumsCardSaid : Prop := Claim7.holds Tryd.pinned (.plain (OpenSpec.ofChange shaSumsSpec)) shaSumsCard

/-- THE TIED CARD OF 'pyxislaw03.ShaSizes'. -/
def shaSizesCard : Claim7 := { stood := { row := shaSizesRow, standIns := [], harness := (true, "f87d812a41ef34f565224aecd07674eea9e34acacbcef1a25433160104f2d20e"), looks := false }, kinds := [], alts := [], laidByText := true, laidKinds := [.data, .data], laidTests := true, laidLooks := .later }
def ShaSizesCardSaid : Prop := Claim7.holds Tryd.pinned (.plain (OpenSpec.ofChange shaSizesSpec)) shaSizesCard

/-- THE TIED CARD OF 'pyxislaw03.ShaPieces'. -/
def shaPiecesCard : Claim7 := { stood := { row := shaPiecesRow, standIns := [], harness := (true, "f87d812a41ef34f565224aecd07674eea9e34acacbcef1a25433160104f2d20e"), looks := false }, kinds := [], alts := [], laidByText := true, laidKinds := [.data, .data], laidTests := true, laidLooks := .later }
def ShaPiecesCardSaid : Prop := Claim7.holds Tryd.pinned (.plain (OpenSpec.ofChange shaPiecesSpec)) shaPiecesCard

/-- THE TIED CARD OF 'pyxislaw03.ShaCopies'. -/
def shaCopiesCard : Claim7 := { stood := { row := shaCopiesRow, standIns := [], harness := (true, "f87d812a41ef34f565224aecd07674eea9e34acacbcef1a25433160104f2d20e"), looks := false }, kinds := [], alts := [], laidByText := true, laidKinds := [.data, .data], laidTests := true, laidLooks := .later }
def ShaCopiesCardSaid : Prop := Claim7.holds Tryd.pinned (.plain (OpenSpec.ofChange shaCopiesSpec)) shaCopiesCard

/-- THE TIED CARD OF 'pyxislaw03.ShaNil'. -/
def shaNilCard : Claim7 := { stood := { row := shaNilRow, standIns := [], harness := (true, "f87d812a41ef34f565224aecd07674eea9e34acacbcef1a25433160104f2d20e"), looks := false }, kinds := [], alts := [], laidByText := true, laidKinds := [.data, .data], laidTests := true, laidLooks := .later }
def ShaNilCardSaid : Prop := Claim7.holds Tryd.pinned (.plain (OpenSpec.ofChange shaNilSpec)) shaNilCard

/-- THE TIED CARD OF 'pyxislaw04.HmacSums'. -/
def hmacSumsCard : Claim7 := { stood := { row := hmacSumsRow, standIns := [], harness := (true, "f87d812a41ef34f565224aecd07674eea9e34acacbcef1a25433160104f2d20e"), looks := false }, kinds := [], alts := [], laidByText := true, laidKinds := [.data, .data], laidTests := true, laidLooks := .later }
def HmacSumsCardSaid : Prop := Claim7.holds Tryd.pinned (.plain (OpenSpec.ofChange hmacSumsSpec)) hmacSumsCard

/-- THE TIED CARD OF 'pyxislaw04.HmacKeys'. -/
def hmacKeysCard : Claim7 := { stood := { row := hmacKeysRow, standIns := [], harness := (true, "f87d812a41ef34f565224aecd07674eea9e34acacbcef1a25433160104f2d20e"), looks := false }, kinds := [], alts := [], laidByText := true, laidKinds := [.data, .data], laidTests := true, laidLooks := .later }
def HmacKeysCardSaid : Prop := Claim7.holds Tryd.pinned (.plain (OpenSpec.ofChange hmacKeysSpec)) hmacKeysCard

/-- THE TIED CARD OF 'pyxislaw04.HmacPieces'. -/
def hmacPiecesCard : Claim7 := { stood := { row := hmacPiecesRow, standIns := [], harness := (true, "f87d812a41ef34f565224aecd07674eea9e34acacbcef1a25433160104f2d20e"), looks := false }, kinds := [], alts := [], laidByText := true, laidKinds := [.data, .data], laidTests := true, laidLooks := .later }
def HmacPiecesCardSaid : Prop := Claim7.holds Tryd.pinned (.plain (OpenSpec.ofChange hmacPiecesSpec)) hmacPiecesCard

/-- THE TIED CARD OF 'pyxislaw04.HmacNil'. -/
def hmacNilCard : Claim7 := { stood := { row := hmacNilRow, standIns := [], harness := (true, "f87d812a41ef34f565224aecd07674eea9e34acacbcef1a25433160104f2d20e"), looks := false }, kinds := [], alts := [], laidByText := true, laidKinds := [.data, .data], laidTests := true, laidLooks := .later }
def HmacNilCardSaid : Prop := Claim7.holds Tryd.pinned (.plain (OpenSpec.ofChange hmacNilSpec)) hmacNilCard

/-- THE TIED CARD OF 'pyxislaw05.PbkdfKeys'. -/
def pbkdfKeysCard : Claim7 := { stood := { row := pbkdfKeysRow, standIns := [], harness := (true, "f87d812a41ef34f565224aecd07674eea9e34acacbcef1a25433160104f2d20e"), looks := false }, kinds := [], alts := [], laidByText := true, laidKinds := [.data, .data], laidTests := true, laidLooks := .later }
def PbkdfKeysCardSaid : Prop := Claim7.holds Tryd.pinned (.plain (OpenSpec.ofChange pbkdfKeysSpec)) pbkdfKeysCard

/-- THE TIED CARD OF 'pyxislaw05.PbkdfRefuses'. -/
def pbkdfRefusesCard : Claim7 := { stood := { row := pbkdfRefusesRow, standIns := [], harness := (true, "f87d812a41ef34f565224aecd07674eea9e34acacbcef1a25433160104f2d20e"), looks := false }, kinds := [], alts := [], laidByText := true, laidKinds := [.data, .data], laidTests := true, laidLooks := .later }
def PbkdfRefusesCardSaid : Prop := Claim7.holds Tryd.pinned (.plain (OpenSpec.ofChange pbkdfRefusesSpec)) pbkdfRefusesCard

/-- THE TIED CARD OF 'pyxislaw05.PbkdfBegins'. -/
def pbkdfBeginsCard : Claim7 := { stood := { row := pbkdfBeginsRow, standIns := [], harness := (true, "f87d812a41ef34f565224aecd07674eea9e34acacbcef1a25433160104f2d20e"), looks := false }, kinds := [], alts := [], laidByText := true, laidKinds := [.data, .data], laidTests := true, laidLooks := .later }
def PbkdfBeginsCardSaid : Prop := Claim7.holds Tryd.pinned (.plain (OpenSpec.ofChange pbkdfBeginsSpec)) pbkdfBeginsCard

/-- THE TIED CARD OF 'pyxislaw05.PbkdfKeeps'. -/
def pbkdfKeepsCard : Claim7 := { stood := { row := pbkdfKeepsRow, standIns := [], harness := (true, "f87d812a41ef34f565224aecd07674eea9e34acacbcef1a25433160104f2d20e"), looks := false }, kinds := [], alts := [], laidByText := true, laidKinds := [.data, .data], laidTests := true, laidLooks := .later }
def PbkdfKeepsCardSaid : Prop := Claim7.holds Tryd.pinned (.plain (OpenSpec.ofChange pbkdfKeepsSpec)) pbkdfKeepsCard

/-- THE SECOND FORM's CARD OF 'pyxislaw03.ShaSums'. -/
def shaSumsUptoCard : Claim7 := { stood := { row := shaSumsUptoRow, standIns := [], harness := (true, "f87d812a41ef34f565224aecd07674eea9e34acacbcef1a25433160104f2d20e"), looks := false }, kinds := [], alts := [], laidByText := true, laidKinds := [.data, .data], laidTests := true, laidLooks := .later }
def ShaSumsUptoCardSaid : Prop := Claim7.holds Tryd.pinned (.plain (OpenSpec.upto shaSumsSpec)) shaSumsUptoCard

/-- THE SECOND FORM's CARD OF 'pyxislaw03.ShaSizes'. -/
def shaSizesUptoCard : Claim7 := { stood := { row := shaSizesUptoRow, standIns := [], harness := (true, "f87d812a41ef34f565224aecd07674eea9e34acacbcef1a25433160104f2d20e"), looks := false }, kinds := [], alts := [], laidByText := true, laidKinds := [.data, .data], laidTests := true, laidLooks := .later }
def ShaSizesUptoCardSaid : Prop := Claim7.holds Tryd.pinned (.plain (OpenSpec.upto shaSizesSpec)) shaSizesUptoCard

/-- THE SECOND FORM's CARD OF 'pyxislaw03.ShaPieces'. -/
def shaPiecesUptoCard : Claim7 := { stood := { row := shaPiecesUptoRow, standIns := [], harness := (true, "f87d812a41ef34f565224aecd07674eea9e34acacbcef1a25433160104f2d20e"), looks := false }, kinds := [], alts := [], laidByText := true, laidKinds := [.data, .data], laidTests := true, laidLooks := .later }
def ShaPiecesUptoCardSaid : Prop := Claim7.holds Tryd.pinned (.plain (OpenSpec.upto shaPiecesSpec)) shaPiecesUptoCard

/-- THE SECOND FORM's CARD OF 'pyxislaw03.ShaCopies'. -/
def shaCopiesUptoCard : Claim7 := { stood := { row := shaCopiesUptoRow, standIns := [], harness := (true, "f87d812a41ef34f565224aecd07674eea9e34acacbcef1a25433160104f2d20e"), looks := false }, kinds := [], alts := [], laidByText := true, laidKinds := [.data, .data], laidTests := true, laidLooks := .later }
def ShaCopiesUptoCardSaid : Prop := Claim7.holds Tryd.pinned (.plain (OpenSpec.upto shaCopiesSpec)) shaCopiesUptoCard

/-- THE SECOND FORM's CARD OF 'pyxislaw03.ShaNil'. -/
def shaNilUptoCard : Claim7 := { stood := { row := shaNilUptoRow, standIns := [], harness := (true, "f87d812a41ef34f565224aecd07674eea9e34acacbcef1a25433160104f2d20e"), looks := false }, kinds := [], alts := [], laidByText := true, laidKinds := [.data, .data], laidTests := true, laidLooks := .later }
def ShaNilUptoCardSaid : Prop := Claim7.holds Tryd.pinned (.plain (OpenSpec.upto shaNilSpec)) shaNilUptoCard

/-- THE SECOND FORM's CARD OF 'pyxislaw04.HmacSums'. -/
def hmacSumsUptoCard : Claim7 := { stood := { row := hmacSumsUptoRow, standIns := [], harness := (true, "f87d812a41ef34f565224aecd07674eea9e34acacbcef1a25433160104f2d20e"), looks := false }, kinds := [], alts := [], laidByText := true, laidKinds := [.data, .data], laidTests := true, laidLooks := .later }
def HmacSumsUptoCardSaid : Prop := Claim7.holds Tryd.pinned (.plain (OpenSpec.upto hmacSumsSpec)) hmacSumsUptoCard

/-- THE SECOND FORM's CARD OF 'pyxislaw04.HmacKeys'. -/
def hmacKeysUptoCard : Claim7 := { stood := { row := hmacKeysUptoRow, standIns := [], harness := (true, "f87d812a41ef34f565224aecd07674eea9e34acacbcef1a25433160104f2d20e"), looks := false }, kinds := [], alts := [], laidByText := true, laidKinds := [.data, .data], laidTests := true, laidLooks := .later }
def HmacKeysUptoCardSaid : Prop := Claim7.holds Tryd.pinned (.plain (OpenSpec.upto hmacKeysSpec)) hmacKeysUptoCard

/-- THE SECOND FORM's CARD OF 'pyxislaw04.HmacPieces'. -/
def hmacPiecesUptoCard : Claim7 := { stood := { row := hmacPiecesUptoRow, standIns := [], harness := (true, "f87d812a41ef34f565224aecd07674eea9e34acacbcef1a25433160104f2d20e"), looks := false }, kinds := [], alts := [], laidByText := true, laidKinds := [.data, .data], laidTests := true, laidLooks := .later }
def HmacPiecesUptoCardSaid : Prop := Claim7.holds Tryd.pinned (.plain (OpenSpec.upto hmacPiecesSpec)) hmacPiecesUptoCard

/-- THE SECOND FORM's CARD OF 'pyxislaw04.HmacNil'. -/
def hmacNilUptoCard : Claim7 := { stood := { row := hmacNilUptoRow, standIns := [], harness := (true, "f87d812a41ef34f565224aecd07674eea9e34acacbcef1a25433160104f2d20e"), looks := false }, kinds := [], alts := [], laidByText := true, laidKinds := [.data, .data], laidTests := true, laidLooks := .later }
def HmacNilUptoCardSaid : Prop := Claim7.holds Tryd.pinned (.plain (OpenSpec.upto hmacNilSpec)) hmacNilUptoCard

/-- THE SECOND FORM's CARD OF 'pyxislaw05.PbkdfKeys'. -/
def pbkdfKeysUptoCard : Claim7 := { stood := { row := pbkdfKeysUptoRow, standIns := [], harness := (true, "f87d812a41ef34f565224aecd07674eea9e34acacbcef1a25433160104f2d20e"), looks := false }, kinds := [], alts := [], laidByText := true, laidKinds := [.data, .data], laidTests := true, laidLooks := .later }
def PbkdfKeysUptoCardSaid : Prop := Claim7.holds Tryd.pinned (.plain (OpenSpec.upto pbkdfKeysSpec)) pbkdfKeysUptoCard

/-- THE SECOND FORM's CARD OF 'pyxislaw05.PbkdfRefuses'. -/
def pbkdfRefusesUptoCard : Claim7 := { stood := { row := pbkdfRefusesUptoRow, standIns := [], harness := (true, "f87d812a41ef34f565224aecd07674eea9e34acacbcef1a25433160104f2d20e"), looks := false }, kinds := [], alts := [], laidByText := true, laidKinds := [.data, .data], laidTests := true, laidLooks := .later }
def PbkdfRefusesUptoCardSaid : Prop := Claim7.holds Tryd.pinned (.plain (OpenSpec.upto pbkdfRefusesSpec)) pbkdfRefusesUptoCard

/-- THE SECOND FORM's CARD OF 'pyxislaw05.PbkdfBegins'. -/
def pbkdfBeginsUptoCard : Claim7 := { stood := { row := pbkdfBeginsUptoRow, standIns := [], harness := (true, "f87d812a41ef34f565224aecd07674eea9e34acacbcef1a25433160104f2d20e"), looks := false }, kinds := [], alts := [], laidByText := true, laidKinds := [.data, .data], laidTests := true, laidLooks := .later }
def PbkdfBeginsUptoCardSaid : Prop := Claim7.holds Tryd.pinned (.plain (OpenSpec.upto pbkdfBeginsSpec)) pbkdfBeginsUptoCard

/-- THE SECOND FORM's CARD OF 'pyxislaw05.PbkdfKeeps'. -/
def pbkdfKeepsUptoCard : Claim7 := { stood := { row := pbkdfKeepsUptoRow, standIns := [], harness := (true, "f87d812a41ef34f565224aecd07674eea9e34acacbcef1a25433160104f2d20e"), looks := false }, kinds := [], alts := [], laidByText := true, laidKinds := [.data, .data], laidTests := true, laidLooks := .later }
def PbkdfKeepsUptoCardSaid : Prop := Claim7.holds Tryd.pinned (.plain (OpenSpec.upto pbkdfKeepsSpec)) pbkdfKeepsUptoCard
end Rows
end Go.Proofs.YthofcjjllmnjbaaDoor
