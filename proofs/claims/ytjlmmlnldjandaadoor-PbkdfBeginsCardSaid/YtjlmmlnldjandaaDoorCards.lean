/-
  DERIVED. GIVEN WITH THE SEED: THE CARDS: each row of YtjlmmlnldjandaaDoorRows.lean that lists a variable, with what it lists TIED to the program's text (the seventh form; the later family's looks); each row that meets fmt, with fmt's text TOLD by the authors' own Lean function (tested against real Go, not proved from fmt's source: count such statements apart). THE CARD IS WHAT COUNTS. Prove the row's statement (the work); the ties are given (YtjlmmlnldjandaaDoorTie.lean); close each card by the builder's one call (the guide's Derived/Test/ToyasCard.lean, 'card_holds'). Laid BY PROGRAM, IN A SANDBOX (cutbox-door.mjs). By AI agents, Wed Nov 11 2026. No macro, syntax, notation, axiom, sorry.
-/
import Derived.Test.YtjlmmlnldjandaaDoorRows
import GoSem.ClaimSeven
namespace Go.Proofs.YtjlmmlnldjandaaDoor
namespace Rows

/-- THE TIED CARD OF 'pyxislaw05.PbkdfKeys'. -/
def pbkdfKeysCard : Claim7 := { stood := { row := pbkdfKeysRow, standIns := [], harness := (true, "1d070155c819c3046cc1d44b8a0b742ae2aff1d077c81d9ec16c69f57c7c2454"), looks := false }, kinds := [], alts := [], laidByText := true, laidKinds := [.data, .data], laidTests := true, laidLooks := .later }
def PbkdfKeysCardSaid : Prop := Claim7.holds Tryd.pinned (.plain (OpenSpec.ofChange pbkdfKeysSpec)) pbkdfKeysCard

/-- THE TIED CARD OF 'pyxislaw05.PbkdfRefuses'. -/
def pbkdfRefusesCard : Claim7 := { stood := { row := pbkdfRefusesRow, standIns := [], harness := (true, "1d070155c819c3046cc1d44b8a0b742ae2aff1d077c81d9ec16c69f57c7c2454"), looks := false }, kinds := [], alts := [], laidByText := true, laidKinds := [.data, .data], laidTests := true, laidLooks := .later }
def PbkdfRefusesCardSaid : Prop := Claim7.holds Tryd.pinned (.plain (OpenSpec.ofChange pbkdfRefusesSpec)) pbkdfRefusesCard

/-- THE TIED CARD OF 'pyxislaw05.PbkdfBegins'. -/
def pbkdfBeginsCard : Claim7 := { stood := { row := pbkdfBeginsRow, standIns := [], harness := (true, "1d070155c819c3046cc1d44b8a0b742ae2aff1d077c81d9ec16c69f57c7c2454"), looks := false }, kinds := [], alts := [], laidByText := true, laidKinds := [.data, .data], laidTests := true, laidLooks := .later }
def PbkdfBeginsCardSaid : Prop := Claim7.holds Tryd.pinned (.plain (OpenSpec.ofChange pbkdfBeginsSpec)) pbkdfBeginsCard

/-- THE TIED CARD OF 'pyxislaw05.PbkdfKeeps'. -/
def pbkdfKeepsCard : Claim7 := { stood := { row := pbkdfKeepsRow, standIns := [], harness := (true, "1d070155c819c3046cc1d44b8a0b742ae2aff1d077c81d9ec16c69f57c7c2454"), looks := false }, kinds := [], alts := [], laidByText := true, laidKinds := [.data, .data], laidTests := true, laidLooks := .later }
def PbkdfKeepsCardSaid : Prop := Claim7.holds Tryd.pinned (.plain (OpenSpec.ofChange pbkdfKeepsSpec)) pbkdfKeepsCard

/-- THE SECOND FORM's CARD OF 'pyxislaw05.PbkdfKeys'. -/
def pbkdfKeysUptoCard : Claim7 := { stood := { row := pbkdfKeysUptoRow, standIns := [], harness := (true, "1d070155c819c3046cc1d44b8a0b742ae2aff1d077c81d9ec16c69f57c7c2454"), looks := false }, kinds := [], alts := [], laidByText := true, laidKinds := [.data, .data], laidTests := true, laidLooks := .later }
def PbkdfKeysUptoCardSaid : Prop := Claim7.holds Tryd.pinned (.plain (OpenSpec.upto pbkdfKeysSpec)) pbkdfKeysUptoCard

/-- THE SECOND FORM's CARD OF 'pyxislaw05.PbkdfRefuses'. -/
def pbkdfRefusesUptoCard : Claim7 := { stood := { row := pbkdfRefusesUptoRow, standIns := [], harness := (true, "1d070155c819c3046cc1d44b8a0b742ae2aff1d077c81d9ec16c69f57c7c2454"), looks := false }, kinds := [], alts := [], laidByText := true, laidKinds := [.data, .data], laidTests := true, laidLooks := .later }
def PbkdfRefusesUptoCardSaid : Prop := Claim7.holds Tryd.pinned (.plain (OpenSpec.upto pbkdfRefusesSpec)) pbkdfRefusesUptoCard

/-- THE SECOND FORM's CARD OF 'pyxislaw05.PbkdfBegins'. -/
def pbkdfBeginsUptoCard : Claim7 := { stood := { row := pbkdfBeginsUptoRow, standIns := [], harness := (true, "1d070155c819c3046cc1d44b8a0b742ae2aff1d077c81d9ec16c69f57c7c2454"), looks := false }, kinds := [], alts := [], laidByText := true, laidKinds := [.data, .data], laidTests := true, laidLooks := .later }
def PbkdfBeginsUptoCardSaid : Prop := Claim7.holds Tryd.pinned (.plain (OpenSpec.upto pbkdfBeginsSpec)) pbkdfBeginsUptoCard

/-- THE SECOND FORM's CARD OF 'pyxislaw05.PbkdfKeeps'. -/
def pbkdfKeepsUptoCard : Claim7 := { stood := { row := pbkdfKeepsUptoRow, standIns := [], harness := (true, "1d070155c819c3046cc1d44b8a0b742ae2aff1d077c81d9ec16c69f57c7c2454"), looks := false }, kinds := [], alts := [], laidByText := true, laidKinds := [.data, .data], laidTests := true, laidLooks := .later }
def PbkdfKeepsUptoCardSaid : Prop := Claim7.holds Tryd.pinned (.plain (OpenSpec.upto pbkdfKeepsSpec)) pbkdfKeepsUptoCard
end Rows
end Go.Proofs.YtjlmmlnldjandaaDoor
