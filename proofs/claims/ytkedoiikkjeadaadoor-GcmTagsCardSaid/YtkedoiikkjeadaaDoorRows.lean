/-
  NARROWER THAN 'FOR EVERY INPUT', by the rows' own cells (each row's printed sentence says how): GhashMuls: laid · GhashField: laid · GhashSums: laid · GhashJoins: laid · GhashShares: laid · GcmSeals: laid · GcmOpens: laid · GcmTags: laid · GcmBack: laid · GcmChanged: laid.
  DERIVED. THE GIVEN ROWS OF THIS SEAT. 10 by the template 'for every input the law returns true; each argument reads behind the call as it read before'; 0 by the template 'total and deterministic' (their statements: YtkedoiikkjeadaaDoorTotals.lean).
  GIVEN WITH THE SEED: the statements are not yours to turn. If you find one false, say at which input.
  Laid BY PROGRAM, IN A SANDBOX (cutbox-rows.mjs): the forced cells as the released guide's own fill.sh prints them over the translation 4e903d5759e796d9… (all of the seat's roots in one cut). By AI agents, Wed Nov 11 2026. No macro, syntax, notation, axiom, sorry.
-/
import Derived.Test.YtkedoiikkjeadaaDoorChecked
import GoSem.Claim
import GoSem.ClaimJoined
import GoSem.ClaimMapViews
import Derived.JoinedTies
import Derived.KernelRfl
namespace Go.Proofs.YtkedoiikkjeadaaDoor
/- THE CELL 'sum', in the pinned program and in every row, IS THE sha256 OF THE DUMP (.gsa) THAT YtkedoiikkjeadaaDoorProg.lean LOADS. Nothing in Lean hashes anything: it is a label: what it is worth is what the hold of that sum in a sandbox is worth. -/
noncomputable def Tryd.pinned : Pinned := { name := "ytkedoiikkjeadaadoor", sum := "4e903d5759e796d9475ce83bfeed2d726e5904889544af8eeb92b0f87b0e55d4", checked := Tryd.checked }
namespace Rows
def none {H : Type} : Left H := { results := [], args := [] }

/- WHAT THE LISTED PACKAGE-LEVEL VARIABLES READ AS WHEN THE CALL BEGINS. Each datum BY PROGRAM (the guide's laid-datum.mjs) off the statement by which the dump's own 'gosem.cut.vars' lays the variable. In a bare row this is a premise. The card (YtkedoiikkjeadaaDoorCards.lean) ties it to the program's text. -/
def laid_pyxis_ghash_fallen {H : Type} : DataW H := .agg [.lit (.int .u64 0), .lit (.int .u64 7200), .lit (.int .u64 14400), .lit (.int .u64 9312), .lit (.int .u64 28800), .lit (.int .u64 27808), .lit (.int .u64 18624), .lit (.int .u64 21728), .lit (.int .u64 57600), .lit (.int .u64 64800), .lit (.int .u64 55616), .lit (.int .u64 50528), .lit (.int .u64 37248), .lit (.int .u64 36256), .lit (.int .u64 43456), .lit (.int .u64 46560)]

/-- 'pyxislaw08.GhashMuls': WHATEVER THE INPUT: true; the input reads as it did. -/
def ghashMulsSpec : ChangeSpec := { name := "ghashMuls", fn := fun _ => fun
  | [d1, d2] => { results := [.lit (.bool true)], args := [d1, d2] }
  | _ => none }
def ghashMulsRow : OpenClaim := { program := "ytkedoiikkjeadaadoor", sum := "4e903d5759e796d9475ce83bfeed2d726e5904889544af8eeb92b0f87b0e55d4", func := "pyxis/pyxislaw08.GhashMuls", spec := "ghashMuls", named := ["pyxis/ghash.fallen"], apart := false, laid := [("pyxis/ghash.fallen", laid_pyxis_ghash_fallen)] }
def GhashMulsSaid : Prop := ghashMulsRow.holds Tryd.pinned (OpenSpec.ofChange ghashMulsSpec)

/-- ITS FALSE NEIGHBOUR: 'it returns false'. Refute it at one input. -/
def ghashMulsWrong : ChangeSpec := { name := "ghashMuls", fn := fun _ => fun
  | [d1, d2] => { results := [.lit (.bool false)], args := [d1, d2] }
  | _ => none }
def GhashMulsWrongFalsely : Prop := ghashMulsRow.holds Tryd.pinned (OpenSpec.ofChange ghashMulsWrong)

/-- 'pyxislaw08.GhashField': WHATEVER THE INPUT: true; the input reads as it did. -/
def ghashFieldSpec : ChangeSpec := { name := "ghashField", fn := fun _ => fun
  | [d1, d2, d3] => { results := [.lit (.bool true)], args := [d1, d2, d3] }
  | _ => none }
def ghashFieldRow : OpenClaim := { program := "ytkedoiikkjeadaadoor", sum := "4e903d5759e796d9475ce83bfeed2d726e5904889544af8eeb92b0f87b0e55d4", func := "pyxis/pyxislaw08.GhashField", spec := "ghashField", named := ["pyxis/ghash.fallen"], apart := false, laid := [("pyxis/ghash.fallen", laid_pyxis_ghash_fallen)] }
def GhashFieldSaid : Prop := ghashFieldRow.holds Tryd.pinned (OpenSpec.ofChange ghashFieldSpec)

/-- ITS FALSE NEIGHBOUR: 'it returns false'. Refute it at one input. -/
def ghashFieldWrong : ChangeSpec := { name := "ghashField", fn := fun _ => fun
  | [d1, d2, d3] => { results := [.lit (.bool false)], args := [d1, d2, d3] }
  | _ => none }
def GhashFieldWrongFalsely : Prop := ghashFieldRow.holds Tryd.pinned (OpenSpec.ofChange ghashFieldWrong)

/-- 'pyxislaw08.GhashSums': WHATEVER THE INPUT: true; the input reads as it did. -/
def ghashSumsSpec : ChangeSpec := { name := "ghashSums", fn := fun _ => fun
  | [d1, d2] => { results := [.lit (.bool true)], args := [d1, d2] }
  | _ => none }
def ghashSumsRow : OpenClaim := { program := "ytkedoiikkjeadaadoor", sum := "4e903d5759e796d9475ce83bfeed2d726e5904889544af8eeb92b0f87b0e55d4", func := "pyxis/pyxislaw08.GhashSums", spec := "ghashSums", named := ["pyxis/ghash.fallen"], apart := false, laid := [("pyxis/ghash.fallen", laid_pyxis_ghash_fallen)] }
def GhashSumsSaid : Prop := ghashSumsRow.holds Tryd.pinned (OpenSpec.ofChange ghashSumsSpec)

/-- ITS FALSE NEIGHBOUR: 'it returns false'. Refute it at one input. -/
def ghashSumsWrong : ChangeSpec := { name := "ghashSums", fn := fun _ => fun
  | [d1, d2] => { results := [.lit (.bool false)], args := [d1, d2] }
  | _ => none }
def GhashSumsWrongFalsely : Prop := ghashSumsRow.holds Tryd.pinned (OpenSpec.ofChange ghashSumsWrong)

/-- 'pyxislaw08.GhashJoins': WHATEVER THE INPUT: true; the input reads as it did. -/
def ghashJoinsSpec : ChangeSpec := { name := "ghashJoins", fn := fun _ => fun
  | [d1, d2, d3] => { results := [.lit (.bool true)], args := [d1, d2, d3] }
  | _ => none }
def ghashJoinsRow : OpenClaim := { program := "ytkedoiikkjeadaadoor", sum := "4e903d5759e796d9475ce83bfeed2d726e5904889544af8eeb92b0f87b0e55d4", func := "pyxis/pyxislaw08.GhashJoins", spec := "ghashJoins", named := ["pyxis/ghash.fallen"], apart := false, laid := [("pyxis/ghash.fallen", laid_pyxis_ghash_fallen)] }
def GhashJoinsSaid : Prop := ghashJoinsRow.holds Tryd.pinned (OpenSpec.ofChange ghashJoinsSpec)

/-- ITS FALSE NEIGHBOUR: 'it returns false'. Refute it at one input. -/
def ghashJoinsWrong : ChangeSpec := { name := "ghashJoins", fn := fun _ => fun
  | [d1, d2, d3] => { results := [.lit (.bool false)], args := [d1, d2, d3] }
  | _ => none }
def GhashJoinsWrongFalsely : Prop := ghashJoinsRow.holds Tryd.pinned (OpenSpec.ofChange ghashJoinsWrong)

/-- 'pyxislaw08.GhashShares': WHATEVER THE INPUT: true; the input reads as it did. -/
def ghashSharesSpec : ChangeSpec := { name := "ghashShares", fn := fun _ => fun
  | [d1, d2, d3] => { results := [.lit (.bool true)], args := [d1, d2, d3] }
  | _ => none }
def ghashSharesRow : OpenClaim := { program := "ytkedoiikkjeadaadoor", sum := "4e903d5759e796d9475ce83bfeed2d726e5904889544af8eeb92b0f87b0e55d4", func := "pyxis/pyxislaw08.GhashShares", spec := "ghashShares", named := ["pyxis/ghash.fallen"], apart := false, laid := [("pyxis/ghash.fallen", laid_pyxis_ghash_fallen)] }
def GhashSharesSaid : Prop := ghashSharesRow.holds Tryd.pinned (OpenSpec.ofChange ghashSharesSpec)

/-- ITS FALSE NEIGHBOUR: 'it returns false'. Refute it at one input. -/
def ghashSharesWrong : ChangeSpec := { name := "ghashShares", fn := fun _ => fun
  | [d1, d2, d3] => { results := [.lit (.bool false)], args := [d1, d2, d3] }
  | _ => none }
def GhashSharesWrongFalsely : Prop := ghashSharesRow.holds Tryd.pinned (OpenSpec.ofChange ghashSharesWrong)

/-- 'pyxislaw09.GcmSeals': WHATEVER THE INPUT: true; the input reads as it did. -/
def gcmSealsSpec : ChangeSpec := { name := "gcmSeals", fn := fun _ => fun
  | [d1, d2] => { results := [.lit (.bool true)], args := [d1, d2] }
  | _ => none }
def gcmSealsRow : OpenClaim := { program := "ytkedoiikkjeadaadoor", sum := "4e903d5759e796d9475ce83bfeed2d726e5904889544af8eeb92b0f87b0e55d4", func := "pyxis/pyxislaw09.GcmSeals", spec := "gcmSeals", inPlace := ["internal/abi.NoEscape", "internal/bytealg.MakeNoZero"], unfollowed := true, recurses := true, named := ["pyxis/ghash.fallen"], apart := false, laid := [("pyxis/ghash.fallen", laid_pyxis_ghash_fallen)] }
def GcmSealsSaid : Prop := gcmSealsRow.holds Tryd.pinned (OpenSpec.ofChange gcmSealsSpec)

/-- ITS FALSE NEIGHBOUR: 'it returns false'. Refute it at one input. -/
def gcmSealsWrong : ChangeSpec := { name := "gcmSeals", fn := fun _ => fun
  | [d1, d2] => { results := [.lit (.bool false)], args := [d1, d2] }
  | _ => none }
def GcmSealsWrongFalsely : Prop := gcmSealsRow.holds Tryd.pinned (OpenSpec.ofChange gcmSealsWrong)

/-- 'pyxislaw09.GcmOpens': WHATEVER THE INPUT: true; the input reads as it did. -/
def gcmOpensSpec : ChangeSpec := { name := "gcmOpens", fn := fun _ => fun
  | [d1, d2] => { results := [.lit (.bool true)], args := [d1, d2] }
  | _ => none }
def gcmOpensRow : OpenClaim := { program := "ytkedoiikkjeadaadoor", sum := "4e903d5759e796d9475ce83bfeed2d726e5904889544af8eeb92b0f87b0e55d4", func := "pyxis/pyxislaw09.GcmOpens", spec := "gcmOpens", inPlace := ["internal/abi.NoEscape", "internal/bytealg.MakeNoZero"], unfollowed := true, recurses := true, named := ["pyxis/ghash.fallen"], apart := false, laid := [("pyxis/ghash.fallen", laid_pyxis_ghash_fallen)] }
def GcmOpensSaid : Prop := gcmOpensRow.holds Tryd.pinned (OpenSpec.ofChange gcmOpensSpec)

/-- ITS FALSE NEIGHBOUR: 'it returns false'. Refute it at one input. -/
def gcmOpensWrong : ChangeSpec := { name := "gcmOpens", fn := fun _ => fun
  | [d1, d2] => { results := [.lit (.bool false)], args := [d1, d2] }
  | _ => none }
def GcmOpensWrongFalsely : Prop := gcmOpensRow.holds Tryd.pinned (OpenSpec.ofChange gcmOpensWrong)

/-- 'pyxislaw09.GcmTags': WHATEVER THE INPUT: true; the input reads as it did. -/
def gcmTagsSpec : ChangeSpec := { name := "gcmTags", fn := fun _ => fun
  | [d1, d2] => { results := [.lit (.bool true)], args := [d1, d2] }
  | _ => none }
def gcmTagsRow : OpenClaim := { program := "ytkedoiikkjeadaadoor", sum := "4e903d5759e796d9475ce83bfeed2d726e5904889544af8eeb92b0f87b0e55d4", func := "pyxis/pyxislaw09.GcmTags", spec := "gcmTags", inPlace := ["internal/abi.NoEscape", "internal/bytealg.MakeNoZero"], unfollowed := true, recurses := true, named := ["pyxis/ghash.fallen"], apart := false, laid := [("pyxis/ghash.fallen", laid_pyxis_ghash_fallen)] }
def GcmTagsSaid : Prop := gcmTagsRow.holds Tryd.pinned (OpenSpec.ofChange gcmTagsSpec)

/-- ITS FALSE NEIGHBOUR: 'it returns false'. Refute it at one input. -/
def gcmTagsWrong : ChangeSpec := { name := "gcmTags", fn := fun _ => fun
  | [d1, d2] => { results := [.lit (.bool false)], args := [d1, d2] }
  | _ => none }
def GcmTagsWrongFalsely : Prop := gcmTagsRow.holds Tryd.pinned (OpenSpec.ofChange gcmTagsWrong)

/-- 'pyxislaw09.GcmBack': WHATEVER THE INPUT: true; the input reads as it did. -/
def gcmBackSpec : ChangeSpec := { name := "gcmBack", fn := fun _ => fun
  | [d1, d2] => { results := [.lit (.bool true)], args := [d1, d2] }
  | _ => none }
def gcmBackRow : OpenClaim := { program := "ytkedoiikkjeadaadoor", sum := "4e903d5759e796d9475ce83bfeed2d726e5904889544af8eeb92b0f87b0e55d4", func := "pyxis/pyxislaw09.GcmBack", spec := "gcmBack", inPlace := ["internal/abi.NoEscape", "internal/bytealg.MakeNoZero"], unfollowed := true, recurses := true, named := ["pyxis/ghash.fallen"], apart := false, laid := [("pyxis/ghash.fallen", laid_pyxis_ghash_fallen)] }
def GcmBackSaid : Prop := gcmBackRow.holds Tryd.pinned (OpenSpec.ofChange gcmBackSpec)

/-- ITS FALSE NEIGHBOUR: 'it returns false'. Refute it at one input. -/
def gcmBackWrong : ChangeSpec := { name := "gcmBack", fn := fun _ => fun
  | [d1, d2] => { results := [.lit (.bool false)], args := [d1, d2] }
  | _ => none }
def GcmBackWrongFalsely : Prop := gcmBackRow.holds Tryd.pinned (OpenSpec.ofChange gcmBackWrong)

/-- 'pyxislaw09.GcmChanged': WHATEVER THE INPUT: true; the input reads as it did. -/
def gcmChangedSpec : ChangeSpec := { name := "gcmChanged", fn := fun _ => fun
  | [d1, d2, d3] => { results := [.lit (.bool true)], args := [d1, d2, d3] }
  | _ => none }
def gcmChangedRow : OpenClaim := { program := "ytkedoiikkjeadaadoor", sum := "4e903d5759e796d9475ce83bfeed2d726e5904889544af8eeb92b0f87b0e55d4", func := "pyxis/pyxislaw09.GcmChanged", spec := "gcmChanged", inPlace := ["internal/abi.NoEscape", "internal/bytealg.MakeNoZero"], unfollowed := true, recurses := true, named := ["pyxis/ghash.fallen"], apart := false, laid := [("pyxis/ghash.fallen", laid_pyxis_ghash_fallen)] }
def GcmChangedSaid : Prop := gcmChangedRow.holds Tryd.pinned (OpenSpec.ofChange gcmChangedSpec)

/-- ITS FALSE NEIGHBOUR: 'it returns false'. Refute it at one input. -/
def gcmChangedWrong : ChangeSpec := { name := "gcmChanged", fn := fun _ => fun
  | [d1, d2, d3] => { results := [.lit (.bool false)], args := [d1, d2, d3] }
  | _ => none }
def GcmChangedWrongFalsely : Prop := gcmChangedRow.holds Tryd.pinned (OpenSpec.ofChange gcmChangedWrong)

/- THE SECOND FORM. 'bulk': how many values and letters a reading holds, each counted each time it is reached (what is shared counts as often as it is met; a slice's spare places count too). A statement '..UptoSaid' is the law's where the arguments, and the package variables that the reading takes, are together of bulk at most 1048576: NARROWER than '..Said'. Prove '..Said' where nothing that the law and all that it calls make is longer than what came in: it says more and counts as full. Else prove '..UptoSaid'. A law counts once. -/
mutual
def uptoBulk {H : Type} : DataW H → Nat
  | .lit (.string bytes) => bytes.length + 1
  | .lit _ => 1
  | .nil => 1
  | .ptr d => uptoBulk d + 1
  | .slice elems spare => uptoBulkAll elems + uptoBulkAll spare + 1
  | .agg parts => uptoBulkAll parts + 1
  | .iface _ d => uptoBulk d + 1
  | .map entries => uptoBulkEntries entries + 1
  | .held _ => 1
def uptoBulkAll {H : Type} : List (DataW H) → Nat
  | [] => 0
  | d :: r => uptoBulk d + uptoBulkAll r
def uptoBulkEntries {H : Type} : List (Lit × DataW H) → Nat
  | [] => 0
  | x :: r => uptoBulkEntry x + uptoBulkEntries r
def uptoBulkEntry {H : Type} : Lit × DataW H → Nat
  | (.string bytes, d) => bytes.length + uptoBulk d + 1
  | (_, d) => uptoBulk d + 1
 end
def uptoSmall : (H : Type) → List (DataW H) → Bool := fun _ ds => decide (uptoBulkAll ds ≤ 1048576)
def OpenSpec.upto (s : _root_.Go.ChangeSpec) : _root_.Go.OpenSpec := { _root_.Go.OpenSpec.ofChange s with cond := some uptoSmall }

/-- 'pyxislaw08.GhashMuls', WHERE WHAT IT READS IS OF BULK AT MOST 1048576: true; the input reads as it did. -/
def ghashMulsUptoRow : OpenClaim := { program := "ytkedoiikkjeadaadoor", sum := "4e903d5759e796d9475ce83bfeed2d726e5904889544af8eeb92b0f87b0e55d4", func := "pyxis/pyxislaw08.GhashMuls", spec := "ghashMuls", named := ["pyxis/ghash.fallen"], apart := false, laid := [("pyxis/ghash.fallen", laid_pyxis_ghash_fallen)], narrowed := true }
def GhashMulsUptoSaid : Prop := ghashMulsUptoRow.holds Tryd.pinned (OpenSpec.upto ghashMulsSpec)

/-- 'pyxislaw08.GhashField', WHERE WHAT IT READS IS OF BULK AT MOST 1048576: true; the input reads as it did. -/
def ghashFieldUptoRow : OpenClaim := { program := "ytkedoiikkjeadaadoor", sum := "4e903d5759e796d9475ce83bfeed2d726e5904889544af8eeb92b0f87b0e55d4", func := "pyxis/pyxislaw08.GhashField", spec := "ghashField", named := ["pyxis/ghash.fallen"], apart := false, laid := [("pyxis/ghash.fallen", laid_pyxis_ghash_fallen)], narrowed := true }
def GhashFieldUptoSaid : Prop := ghashFieldUptoRow.holds Tryd.pinned (OpenSpec.upto ghashFieldSpec)

/-- 'pyxislaw08.GhashSums', WHERE WHAT IT READS IS OF BULK AT MOST 1048576: true; the input reads as it did. -/
def ghashSumsUptoRow : OpenClaim := { program := "ytkedoiikkjeadaadoor", sum := "4e903d5759e796d9475ce83bfeed2d726e5904889544af8eeb92b0f87b0e55d4", func := "pyxis/pyxislaw08.GhashSums", spec := "ghashSums", named := ["pyxis/ghash.fallen"], apart := false, laid := [("pyxis/ghash.fallen", laid_pyxis_ghash_fallen)], narrowed := true }
def GhashSumsUptoSaid : Prop := ghashSumsUptoRow.holds Tryd.pinned (OpenSpec.upto ghashSumsSpec)

/-- 'pyxislaw08.GhashJoins', WHERE WHAT IT READS IS OF BULK AT MOST 1048576: true; the input reads as it did. -/
def ghashJoinsUptoRow : OpenClaim := { program := "ytkedoiikkjeadaadoor", sum := "4e903d5759e796d9475ce83bfeed2d726e5904889544af8eeb92b0f87b0e55d4", func := "pyxis/pyxislaw08.GhashJoins", spec := "ghashJoins", named := ["pyxis/ghash.fallen"], apart := false, laid := [("pyxis/ghash.fallen", laid_pyxis_ghash_fallen)], narrowed := true }
def GhashJoinsUptoSaid : Prop := ghashJoinsUptoRow.holds Tryd.pinned (OpenSpec.upto ghashJoinsSpec)

/-- 'pyxislaw08.GhashShares', WHERE WHAT IT READS IS OF BULK AT MOST 1048576: true; the input reads as it did. -/
def ghashSharesUptoRow : OpenClaim := { program := "ytkedoiikkjeadaadoor", sum := "4e903d5759e796d9475ce83bfeed2d726e5904889544af8eeb92b0f87b0e55d4", func := "pyxis/pyxislaw08.GhashShares", spec := "ghashShares", named := ["pyxis/ghash.fallen"], apart := false, laid := [("pyxis/ghash.fallen", laid_pyxis_ghash_fallen)], narrowed := true }
def GhashSharesUptoSaid : Prop := ghashSharesUptoRow.holds Tryd.pinned (OpenSpec.upto ghashSharesSpec)

/-- 'pyxislaw09.GcmSeals', WHERE WHAT IT READS IS OF BULK AT MOST 1048576: true; the input reads as it did. -/
def gcmSealsUptoRow : OpenClaim := { program := "ytkedoiikkjeadaadoor", sum := "4e903d5759e796d9475ce83bfeed2d726e5904889544af8eeb92b0f87b0e55d4", func := "pyxis/pyxislaw09.GcmSeals", spec := "gcmSeals", inPlace := ["internal/abi.NoEscape", "internal/bytealg.MakeNoZero"], unfollowed := true, recurses := true, named := ["pyxis/ghash.fallen"], apart := false, laid := [("pyxis/ghash.fallen", laid_pyxis_ghash_fallen)], narrowed := true }
def GcmSealsUptoSaid : Prop := gcmSealsUptoRow.holds Tryd.pinned (OpenSpec.upto gcmSealsSpec)

/-- 'pyxislaw09.GcmOpens', WHERE WHAT IT READS IS OF BULK AT MOST 1048576: true; the input reads as it did. -/
def gcmOpensUptoRow : OpenClaim := { program := "ytkedoiikkjeadaadoor", sum := "4e903d5759e796d9475ce83bfeed2d726e5904889544af8eeb92b0f87b0e55d4", func := "pyxis/pyxislaw09.GcmOpens", spec := "gcmOpens", inPlace := ["internal/abi.NoEscape", "internal/bytealg.MakeNoZero"], unfollowed := true, recurses := true, named := ["pyxis/ghash.fallen"], apart := false, laid := [("pyxis/ghash.fallen", laid_pyxis_ghash_fallen)], narrowed := true }
def GcmOpensUptoSaid : Prop := gcmOpensUptoRow.holds Tryd.pinned (OpenSpec.upto gcmOpensSpec)

/-- 'pyxislaw09.GcmTags', WHERE WHAT IT READS IS OF BULK AT MOST 1048576: true; the input reads as it did. -/
def gcmTagsUptoRow : OpenClaim := { program := "ytkedoiikkjeadaadoor", sum := "4e903d5759e796d9475ce83bfeed2d726e5904889544af8eeb92b0f87b0e55d4", func := "pyxis/pyxislaw09.GcmTags", spec := "gcmTags", inPlace := ["internal/abi.NoEscape", "internal/bytealg.MakeNoZero"], unfollowed := true, recurses := true, named := ["pyxis/ghash.fallen"], apart := false, laid := [("pyxis/ghash.fallen", laid_pyxis_ghash_fallen)], narrowed := true }
def GcmTagsUptoSaid : Prop := gcmTagsUptoRow.holds Tryd.pinned (OpenSpec.upto gcmTagsSpec)

/-- 'pyxislaw09.GcmBack', WHERE WHAT IT READS IS OF BULK AT MOST 1048576: true; the input reads as it did. -/
def gcmBackUptoRow : OpenClaim := { program := "ytkedoiikkjeadaadoor", sum := "4e903d5759e796d9475ce83bfeed2d726e5904889544af8eeb92b0f87b0e55d4", func := "pyxis/pyxislaw09.GcmBack", spec := "gcmBack", inPlace := ["internal/abi.NoEscape", "internal/bytealg.MakeNoZero"], unfollowed := true, recurses := true, named := ["pyxis/ghash.fallen"], apart := false, laid := [("pyxis/ghash.fallen", laid_pyxis_ghash_fallen)], narrowed := true }
def GcmBackUptoSaid : Prop := gcmBackUptoRow.holds Tryd.pinned (OpenSpec.upto gcmBackSpec)

/-- 'pyxislaw09.GcmChanged', WHERE WHAT IT READS IS OF BULK AT MOST 1048576: true; the input reads as it did. -/
def gcmChangedUptoRow : OpenClaim := { program := "ytkedoiikkjeadaadoor", sum := "4e903d5759e796d9475ce83bfeed2d726e5904889544af8eeb92b0f87b0e55d4", func := "pyxis/pyxislaw09.GcmChanged", spec := "gcmChanged", inPlace := ["internal/abi.NoEscape", "internal/bytealg.MakeNoZero"], unfollowed := true, recurses := true, named := ["pyxis/ghash.fallen"], apart := false, laid := [("pyxis/ghash.fallen", laid_pyxis_ghash_fallen)], narrowed := true }
def GcmChangedUptoSaid : Prop := gcmChangedUptoRow.holds Tryd.pinned (OpenSpec.upto gcmChangedSpec)

end Rows
end Go.Proofs.YtkedoiikkjeadaaDoor
