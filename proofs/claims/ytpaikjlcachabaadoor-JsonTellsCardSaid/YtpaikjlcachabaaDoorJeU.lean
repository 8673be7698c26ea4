/- utf8's tables lie where the library laid them. -/
import Derived.Test.YtpaikjlcachabaaDoorJsV
import Derived.Test.YtpaikjlcachabaaDoorShg
namespace Go.Proofs.YtpaikjlcachabaaDoor
open Go.RowKit
set_option linter.unusedVariables false
set_option linter.unusedSimpArgs false
namespace Je
/-- the tables of the library's that tell UTF-8 -/
def U8 (w : World) : Prop := Lib.Utf8Tabs (SlaysValid_ren.g 3) (SlaysValid_ren.g 4) w
theorem jvalid_any (s : ByteArray) (w : World) (hs : s.size ≤ 140737488351232) (hU : U8 w) : Calls Tryd.prog 47 #[.string s] w (fun e w' => e = .returned (.bool (Lib.validD s.toList)) ∧ Below w.heap.size w w') := by
  rw [Lib.toList_data]
  exact Any.utf8_ValidString SlaysValid s w (by omega) hU
def UT (g : Nat) (w : World) : Prop := U8 w ∧ SlaysValid_ren.g 3 < g ∧ SlaysValid_ren.g 4 < g
theorem UT.below {g : Nat} {w w' : World} (h : UT g w) (hb : Below g w w') : UT g w' :=
  ⟨⟨fun c hc => (hb.cell (p := ⟨SlaysValid_ren.g 3, c, none⟩) h.2.1).trans (h.1.1 c hc), fun i hi => ⟨(hb.cell (p := ⟨SlaysValid_ren.g 4, _, none⟩) h.2.2).trans (h.1.2 i hi).1, (hb.cell (p := ⟨SlaysValid_ren.g 4, _, none⟩) h.2.2).trans (h.1.2 i hi).2⟩⟩, h.2⟩
theorem UT.mono {g g' : Nat} {w : World} (h : UT g w) (hg : g ≤ g') : UT g' w := ⟨h.1, Nat.lt_of_lt_of_le h.2.1 hg, Nat.lt_of_lt_of_le h.2.2 hg⟩
theorem UT.at {w w' : World} (h : UT w.heap.size w) (hb : Below w.heap.size w w') : UT w'.heap.size w' := (h.below hb).mono hb.size
end Je
end Go.Proofs.YtpaikjlcachabaaDoor
