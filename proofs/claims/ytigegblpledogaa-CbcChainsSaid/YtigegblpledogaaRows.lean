/-
  No cell of these rows narrows 'for every input' (looked for: loops, veiled, ifaces, maps, wideKeys, modest, calm, conditions, laid).
  DERIVED. THE GIVEN ROWS OF THIS SEAT. 13 by the template 'for every input the law returns true; each argument reads behind the call as it read before'; 0 by the template 'total and deterministic' (their statements: YtigegblpledogaaTotals.lean).
  GIVEN WITH THE SEED: the statements are not yours to turn. If you find one false, say at which input.
  Laid BY PROGRAM, IN A SANDBOX (cutbox-rows.mjs): the forced cells as the released guide's own fill.sh prints them over the translation d058d6757a6699a3… (all of the seat's roots in one cut). By AI agents, Wed Nov 11 2026. No macro, syntax, notation, axiom, sorry.
-/
import Derived.Test.YtigegblpledogaaChecked
import GoSem.Claim
import GoSem.ClaimJoined
import GoSem.ClaimMapViews
import Derived.JoinedTies
import Derived.KernelRfl
namespace Go.Proofs.Ytigegblpledogaa
/- THE CELL 'sum', in the pinned program and in every row, IS THE sha256 OF THE DUMP (.gsa) THAT YtigegblpledogaaProg.lean LOADS. Nothing in Lean hashes anything: it is a label: what it is worth is what the hold of that sum in a sandbox is worth. -/
noncomputable def Try.pinned : Pinned := { name := "ytigegblpledogaa", sum := "d058d6757a6699a3e0945e39be5a229b6d26d12af0f6233dde00f8a974913bd6", checked := Try.checked }
namespace Rows
def none {H : Type} : Left H := { results := [], args := [] }

/-- 'pyxislaw06.CbcPads': WHATEVER THE INPUT: true; the input reads as it did. -/
def cbcPadsSpec : ChangeSpec := { name := "cbcPads", fn := fun _ => fun
  | [d1, d2] => { results := [.lit (.bool true)], args := [d1, d2] }
  | _ => none }
def cbcPadsRow : OpenClaim := { program := "ytigegblpledogaa", sum := "d058d6757a6699a3e0945e39be5a229b6d26d12af0f6233dde00f8a974913bd6", func := "pyxis/pyxislaw06.CbcPads", spec := "cbcPads", inPlace := ["internal/abi.NoEscape", "internal/bytealg.MakeNoZero", "sync/atomic.LoadUint32", "(*internal/sync.Mutex).Lock", "internal/race.Disable", "sync/atomic.CompareAndSwapInt32", "internal/race.Enable", "internal/race.Acquire", "(*internal/sync.Mutex).lockSlow", "internal/sync.runtime_canSpin", "internal/sync.runtime_doSpin", "internal/sync.throw", "internal/sync.runtime_nanotime", "internal/sync.runtime_SemacquireMutex", "sync/atomic.AddInt32", "(*internal/sync.Mutex).Unlock", "internal/race.ReleaseMerge", "(*internal/sync.Mutex).unlockSlow", "internal/sync.fatal", "internal/sync.runtime_Semrelease", "sync/atomic.StoreUint32"], unfollowed := true, recurses := true, apart := false }
def CbcPadsSaid : Prop := cbcPadsRow.holds Try.pinned (OpenSpec.ofChange cbcPadsSpec)

/-- ITS FALSE NEIGHBOUR: 'it returns false'. Refute it at one input. -/
def cbcPadsWrong : ChangeSpec := { name := "cbcPads", fn := fun _ => fun
  | [d1, d2] => { results := [.lit (.bool false)], args := [d1, d2] }
  | _ => none }
def CbcPadsWrongFalsely : Prop := cbcPadsRow.holds Try.pinned (OpenSpec.ofChange cbcPadsWrong)

/-- 'pyxislaw06.CbcChains': WHATEVER THE INPUT: true; the input reads as it did. -/
def cbcChainsSpec : ChangeSpec := { name := "cbcChains", fn := fun _ => fun
  | [d1, d2, d3] => { results := [.lit (.bool true)], args := [d1, d2, d3] }
  | _ => none }
def cbcChainsRow : OpenClaim := { program := "ytigegblpledogaa", sum := "d058d6757a6699a3e0945e39be5a229b6d26d12af0f6233dde00f8a974913bd6", func := "pyxis/pyxislaw06.CbcChains", spec := "cbcChains", inPlace := ["internal/abi.NoEscape", "internal/bytealg.MakeNoZero", "sync/atomic.LoadUint32", "(*internal/sync.Mutex).Lock", "internal/race.Disable", "sync/atomic.CompareAndSwapInt32", "internal/race.Enable", "internal/race.Acquire", "(*internal/sync.Mutex).lockSlow", "internal/sync.runtime_canSpin", "internal/sync.runtime_doSpin", "internal/sync.throw", "internal/sync.runtime_nanotime", "internal/sync.runtime_SemacquireMutex", "sync/atomic.AddInt32", "(*internal/sync.Mutex).Unlock", "internal/race.ReleaseMerge", "(*internal/sync.Mutex).unlockSlow", "internal/sync.fatal", "internal/sync.runtime_Semrelease", "sync/atomic.StoreUint32"], unfollowed := true, recurses := true, apart := false }
def CbcChainsSaid : Prop := cbcChainsRow.holds Try.pinned (OpenSpec.ofChange cbcChainsSpec)

/-- ITS FALSE NEIGHBOUR: 'it returns false'. Refute it at one input. -/
def cbcChainsWrong : ChangeSpec := { name := "cbcChains", fn := fun _ => fun
  | [d1, d2, d3] => { results := [.lit (.bool false)], args := [d1, d2, d3] }
  | _ => none }
def CbcChainsWrongFalsely : Prop := cbcChainsRow.holds Try.pinned (OpenSpec.ofChange cbcChainsWrong)

/-- 'pyxislaw06.CbcSeals': WHATEVER THE INPUT: true; the input reads as it did. -/
def cbcSealsSpec : ChangeSpec := { name := "cbcSeals", fn := fun _ => fun
  | [d1, d2, d3] => { results := [.lit (.bool true)], args := [d1, d2, d3] }
  | _ => none }
def cbcSealsRow : OpenClaim := { program := "ytigegblpledogaa", sum := "d058d6757a6699a3e0945e39be5a229b6d26d12af0f6233dde00f8a974913bd6", func := "pyxis/pyxislaw06.CbcSeals", spec := "cbcSeals", inPlace := ["internal/abi.NoEscape", "internal/bytealg.MakeNoZero", "sync/atomic.LoadUint32", "(*internal/sync.Mutex).Lock", "internal/race.Disable", "sync/atomic.CompareAndSwapInt32", "internal/race.Enable", "internal/race.Acquire", "(*internal/sync.Mutex).lockSlow", "internal/sync.runtime_canSpin", "internal/sync.runtime_doSpin", "internal/sync.throw", "internal/sync.runtime_nanotime", "internal/sync.runtime_SemacquireMutex", "sync/atomic.AddInt32", "(*internal/sync.Mutex).Unlock", "internal/race.ReleaseMerge", "(*internal/sync.Mutex).unlockSlow", "internal/sync.fatal", "internal/sync.runtime_Semrelease", "sync/atomic.StoreUint32"], unfollowed := true, recurses := true, apart := false }
def CbcSealsSaid : Prop := cbcSealsRow.holds Try.pinned (OpenSpec.ofChange cbcSealsSpec)

/-- ITS FALSE NEIGHBOUR: 'it returns false'. Refute it at one input. -/
def cbcSealsWrong : ChangeSpec := { name := "cbcSeals", fn := fun _ => fun
  | [d1, d2, d3] => { results := [.lit (.bool false)], args := [d1, d2, d3] }
  | _ => none }
def CbcSealsWrongFalsely : Prop := cbcSealsRow.holds Try.pinned (OpenSpec.ofChange cbcSealsWrong)

/-- 'pyxislaw06.CbcOpens': WHATEVER THE INPUT: true; the input reads as it did. -/
def cbcOpensSpec : ChangeSpec := { name := "cbcOpens", fn := fun _ => fun
  | [d1, d2, d3] => { results := [.lit (.bool true)], args := [d1, d2, d3] }
  | _ => none }
def cbcOpensRow : OpenClaim := { program := "ytigegblpledogaa", sum := "d058d6757a6699a3e0945e39be5a229b6d26d12af0f6233dde00f8a974913bd6", func := "pyxis/pyxislaw06.CbcOpens", spec := "cbcOpens", inPlace := ["internal/abi.NoEscape", "internal/bytealg.MakeNoZero", "sync/atomic.LoadUint32", "(*internal/sync.Mutex).Lock", "internal/race.Disable", "sync/atomic.CompareAndSwapInt32", "internal/race.Enable", "internal/race.Acquire", "(*internal/sync.Mutex).lockSlow", "internal/sync.runtime_canSpin", "internal/sync.runtime_doSpin", "internal/sync.throw", "internal/sync.runtime_nanotime", "internal/sync.runtime_SemacquireMutex", "sync/atomic.AddInt32", "(*internal/sync.Mutex).Unlock", "internal/race.ReleaseMerge", "(*internal/sync.Mutex).unlockSlow", "internal/sync.fatal", "internal/sync.runtime_Semrelease", "sync/atomic.StoreUint32"], unfollowed := true, recurses := true, apart := false }
def CbcOpensSaid : Prop := cbcOpensRow.holds Try.pinned (OpenSpec.ofChange cbcOpensSpec)

/-- ITS FALSE NEIGHBOUR: 'it returns false'. Refute it at one input. -/
def cbcOpensWrong : ChangeSpec := { name := "cbcOpens", fn := fun _ => fun
  | [d1, d2, d3] => { results := [.lit (.bool false)], args := [d1, d2, d3] }
  | _ => none }
def CbcOpensWrongFalsely : Prop := cbcOpensRow.holds Try.pinned (OpenSpec.ofChange cbcOpensWrong)

/-- 'pyxislaw06.CbcMacs': WHATEVER THE INPUT: true; the input reads as it did. -/
def cbcMacsSpec : ChangeSpec := { name := "cbcMacs", fn := fun _ => fun
  | [d1, d2] => { results := [.lit (.bool true)], args := [d1, d2] }
  | _ => none }
def cbcMacsRow : OpenClaim := { program := "ytigegblpledogaa", sum := "d058d6757a6699a3e0945e39be5a229b6d26d12af0f6233dde00f8a974913bd6", func := "pyxis/pyxislaw06.CbcMacs", spec := "cbcMacs", inPlace := ["internal/abi.NoEscape", "internal/bytealg.MakeNoZero", "sync/atomic.LoadUint32", "(*internal/sync.Mutex).Lock", "internal/race.Disable", "sync/atomic.CompareAndSwapInt32", "internal/race.Enable", "internal/race.Acquire", "(*internal/sync.Mutex).lockSlow", "internal/sync.runtime_canSpin", "internal/sync.runtime_doSpin", "internal/sync.throw", "internal/sync.runtime_nanotime", "internal/sync.runtime_SemacquireMutex", "sync/atomic.AddInt32", "(*internal/sync.Mutex).Unlock", "internal/race.ReleaseMerge", "(*internal/sync.Mutex).unlockSlow", "internal/sync.fatal", "internal/sync.runtime_Semrelease", "sync/atomic.StoreUint32"], unfollowed := true, recurses := true, apart := false }
def CbcMacsSaid : Prop := cbcMacsRow.holds Try.pinned (OpenSpec.ofChange cbcMacsSpec)

/-- ITS FALSE NEIGHBOUR: 'it returns false'. Refute it at one input. -/
def cbcMacsWrong : ChangeSpec := { name := "cbcMacs", fn := fun _ => fun
  | [d1, d2] => { results := [.lit (.bool false)], args := [d1, d2] }
  | _ => none }
def CbcMacsWrongFalsely : Prop := cbcMacsRow.holds Try.pinned (OpenSpec.ofChange cbcMacsWrong)

/-- 'pyxislaw07.CtrNext': WHATEVER THE INPUT: true; the input reads as it did. -/
def ctrNextSpec : ChangeSpec := { name := "ctrNext", fn := fun _ => fun
  | [d1, d2, d3] => { results := [.lit (.bool true)], args := [d1, d2, d3] }
  | _ => none }
def ctrNextRow : OpenClaim := { program := "ytigegblpledogaa", sum := "d058d6757a6699a3e0945e39be5a229b6d26d12af0f6233dde00f8a974913bd6", func := "pyxis/pyxislaw07.CtrNext", spec := "ctrNext", unfollowed := true, recurses := true, apart := false }
def CtrNextSaid : Prop := ctrNextRow.holds Try.pinned (OpenSpec.ofChange ctrNextSpec)

/-- ITS FALSE NEIGHBOUR: 'it returns false'. Refute it at one input. -/
def ctrNextWrong : ChangeSpec := { name := "ctrNext", fn := fun _ => fun
  | [d1, d2, d3] => { results := [.lit (.bool false)], args := [d1, d2, d3] }
  | _ => none }
def CtrNextWrongFalsely : Prop := ctrNextRow.holds Try.pinned (OpenSpec.ofChange ctrNextWrong)

/-- 'pyxislaw07.CtrXors': WHATEVER THE INPUT: true; the input reads as it did. -/
def ctrXorsSpec : ChangeSpec := { name := "ctrXors", fn := fun _ => fun
  | [d1, d2, d3] => { results := [.lit (.bool true)], args := [d1, d2, d3] }
  | _ => none }
def ctrXorsRow : OpenClaim := { program := "ytigegblpledogaa", sum := "d058d6757a6699a3e0945e39be5a229b6d26d12af0f6233dde00f8a974913bd6", func := "pyxis/pyxislaw07.CtrXors", spec := "ctrXors", unfollowed := true, recurses := true, apart := false }
def CtrXorsSaid : Prop := ctrXorsRow.holds Try.pinned (OpenSpec.ofChange ctrXorsSpec)

/-- ITS FALSE NEIGHBOUR: 'it returns false'. Refute it at one input. -/
def ctrXorsWrong : ChangeSpec := { name := "ctrXors", fn := fun _ => fun
  | [d1, d2, d3] => { results := [.lit (.bool false)], args := [d1, d2, d3] }
  | _ => none }
def CtrXorsWrongFalsely : Prop := ctrXorsRow.holds Try.pinned (OpenSpec.ofChange ctrXorsWrong)

/-- 'pyxislaw07.CtrPieces': WHATEVER THE INPUT: true; the input reads as it did. -/
def ctrPiecesSpec : ChangeSpec := { name := "ctrPieces", fn := fun _ => fun
  | [d1, d2, d3] => { results := [.lit (.bool true)], args := [d1, d2, d3] }
  | _ => none }
def ctrPiecesRow : OpenClaim := { program := "ytigegblpledogaa", sum := "d058d6757a6699a3e0945e39be5a229b6d26d12af0f6233dde00f8a974913bd6", func := "pyxis/pyxislaw07.CtrPieces", spec := "ctrPieces", unfollowed := true, recurses := true, apart := false }
def CtrPiecesSaid : Prop := ctrPiecesRow.holds Try.pinned (OpenSpec.ofChange ctrPiecesSpec)

/-- ITS FALSE NEIGHBOUR: 'it returns false'. Refute it at one input. -/
def ctrPiecesWrong : ChangeSpec := { name := "ctrPieces", fn := fun _ => fun
  | [d1, d2, d3] => { results := [.lit (.bool false)], args := [d1, d2, d3] }
  | _ => none }
def CtrPiecesWrongFalsely : Prop := ctrPiecesRow.holds Try.pinned (OpenSpec.ofChange ctrPiecesWrong)

/-- 'pyxislaw07.CtrBegins': WHATEVER THE INPUT: true; the input reads as it did. -/
def ctrBeginsSpec : ChangeSpec := { name := "ctrBegins", fn := fun _ => fun
  | [d1, d2, d3] => { results := [.lit (.bool true)], args := [d1, d2, d3] }
  | _ => none }
def ctrBeginsRow : OpenClaim := { program := "ytigegblpledogaa", sum := "d058d6757a6699a3e0945e39be5a229b6d26d12af0f6233dde00f8a974913bd6", func := "pyxis/pyxislaw07.CtrBegins", spec := "ctrBegins", unfollowed := true, recurses := true, apart := false }
def CtrBeginsSaid : Prop := ctrBeginsRow.holds Try.pinned (OpenSpec.ofChange ctrBeginsSpec)

/-- ITS FALSE NEIGHBOUR: 'it returns false'. Refute it at one input. -/
def ctrBeginsWrong : ChangeSpec := { name := "ctrBegins", fn := fun _ => fun
  | [d1, d2, d3] => { results := [.lit (.bool false)], args := [d1, d2, d3] }
  | _ => none }
def CtrBeginsWrongFalsely : Prop := ctrBeginsRow.holds Try.pinned (OpenSpec.ofChange ctrBeginsWrong)

/-- 'pyxislaw12.WrapWraps': WHATEVER THE INPUT: true; the input reads as it did. -/
def wrapWrapsSpec : ChangeSpec := { name := "wrapWraps", fn := fun _ => fun
  | [d1, d2] => { results := [.lit (.bool true)], args := [d1, d2] }
  | _ => none }
def wrapWrapsRow : OpenClaim := { program := "ytigegblpledogaa", sum := "d058d6757a6699a3e0945e39be5a229b6d26d12af0f6233dde00f8a974913bd6", func := "pyxis/pyxislaw12.WrapWraps", spec := "wrapWraps", apart := false }
def WrapWrapsSaid : Prop := wrapWrapsRow.holds Try.pinned (OpenSpec.ofChange wrapWrapsSpec)

/-- ITS FALSE NEIGHBOUR: 'it returns false'. Refute it at one input. -/
def wrapWrapsWrong : ChangeSpec := { name := "wrapWraps", fn := fun _ => fun
  | [d1, d2] => { results := [.lit (.bool false)], args := [d1, d2] }
  | _ => none }
def WrapWrapsWrongFalsely : Prop := wrapWrapsRow.holds Try.pinned (OpenSpec.ofChange wrapWrapsWrong)

/-- 'pyxislaw12.WrapUnwraps': WHATEVER THE INPUT: true; the input reads as it did. -/
def wrapUnwrapsSpec : ChangeSpec := { name := "wrapUnwraps", fn := fun _ => fun
  | [d1, d2] => { results := [.lit (.bool true)], args := [d1, d2] }
  | _ => none }
def wrapUnwrapsRow : OpenClaim := { program := "ytigegblpledogaa", sum := "d058d6757a6699a3e0945e39be5a229b6d26d12af0f6233dde00f8a974913bd6", func := "pyxis/pyxislaw12.WrapUnwraps", spec := "wrapUnwraps", inPlace := ["sync/atomic.LoadUint32", "(*internal/sync.Mutex).Lock", "internal/race.Disable", "sync/atomic.CompareAndSwapInt32", "internal/race.Enable", "internal/race.Acquire", "(*internal/sync.Mutex).lockSlow", "internal/sync.runtime_canSpin", "internal/sync.runtime_doSpin", "internal/sync.throw", "internal/sync.runtime_nanotime", "internal/sync.runtime_SemacquireMutex", "sync/atomic.AddInt32", "(*internal/sync.Mutex).Unlock", "internal/race.ReleaseMerge", "(*internal/sync.Mutex).unlockSlow", "internal/sync.fatal", "internal/sync.runtime_Semrelease", "sync/atomic.StoreUint32"], unfollowed := true, recurses := true, apart := false }
def WrapUnwrapsSaid : Prop := wrapUnwrapsRow.holds Try.pinned (OpenSpec.ofChange wrapUnwrapsSpec)

/-- ITS FALSE NEIGHBOUR: 'it returns false'. Refute it at one input. -/
def wrapUnwrapsWrong : ChangeSpec := { name := "wrapUnwraps", fn := fun _ => fun
  | [d1, d2] => { results := [.lit (.bool false)], args := [d1, d2] }
  | _ => none }
def WrapUnwrapsWrongFalsely : Prop := wrapUnwrapsRow.holds Try.pinned (OpenSpec.ofChange wrapUnwrapsWrong)

/-- 'pyxislaw12.WrapValues': WHATEVER THE INPUT: true; the input reads as it did. -/
def wrapValuesSpec : ChangeSpec := { name := "wrapValues", fn := fun _ => fun
  | [d1, d2] => { results := [.lit (.bool true)], args := [d1, d2] }
  | _ => none }
def wrapValuesRow : OpenClaim := { program := "ytigegblpledogaa", sum := "d058d6757a6699a3e0945e39be5a229b6d26d12af0f6233dde00f8a974913bd6", func := "pyxis/pyxislaw12.WrapValues", spec := "wrapValues", inPlace := ["sync/atomic.LoadUint32", "(*internal/sync.Mutex).Lock", "internal/race.Disable", "sync/atomic.CompareAndSwapInt32", "internal/race.Enable", "internal/race.Acquire", "(*internal/sync.Mutex).lockSlow", "internal/sync.runtime_canSpin", "internal/sync.runtime_doSpin", "internal/sync.throw", "internal/sync.runtime_nanotime", "internal/sync.runtime_SemacquireMutex", "sync/atomic.AddInt32", "(*internal/sync.Mutex).Unlock", "internal/race.ReleaseMerge", "(*internal/sync.Mutex).unlockSlow", "internal/sync.fatal", "internal/sync.runtime_Semrelease", "sync/atomic.StoreUint32"], unfollowed := true, recurses := true, apart := false }
def WrapValuesSaid : Prop := wrapValuesRow.holds Try.pinned (OpenSpec.ofChange wrapValuesSpec)

/-- ITS FALSE NEIGHBOUR: 'it returns false'. Refute it at one input. -/
def wrapValuesWrong : ChangeSpec := { name := "wrapValues", fn := fun _ => fun
  | [d1, d2] => { results := [.lit (.bool false)], args := [d1, d2] }
  | _ => none }
def WrapValuesWrongFalsely : Prop := wrapValuesRow.holds Try.pinned (OpenSpec.ofChange wrapValuesWrong)

/-- 'pyxislaw12.WrapBack': WHATEVER THE INPUT: true; the input reads as it did. -/
def wrapBackSpec : ChangeSpec := { name := "wrapBack", fn := fun _ => fun
  | [d1, d2] => { results := [.lit (.bool true)], args := [d1, d2] }
  | _ => none }
def wrapBackRow : OpenClaim := { program := "ytigegblpledogaa", sum := "d058d6757a6699a3e0945e39be5a229b6d26d12af0f6233dde00f8a974913bd6", func := "pyxis/pyxislaw12.WrapBack", spec := "wrapBack", inPlace := ["sync/atomic.LoadUint32", "(*internal/sync.Mutex).Lock", "internal/race.Disable", "sync/atomic.CompareAndSwapInt32", "internal/race.Enable", "internal/race.Acquire", "(*internal/sync.Mutex).lockSlow", "internal/sync.runtime_canSpin", "internal/sync.runtime_doSpin", "internal/sync.throw", "internal/sync.runtime_nanotime", "internal/sync.runtime_SemacquireMutex", "sync/atomic.AddInt32", "(*internal/sync.Mutex).Unlock", "internal/race.ReleaseMerge", "(*internal/sync.Mutex).unlockSlow", "internal/sync.fatal", "internal/sync.runtime_Semrelease", "sync/atomic.StoreUint32"], unfollowed := true, recurses := true, apart := false }
def WrapBackSaid : Prop := wrapBackRow.holds Try.pinned (OpenSpec.ofChange wrapBackSpec)

/-- ITS FALSE NEIGHBOUR: 'it returns false'. Refute it at one input. -/
def wrapBackWrong : ChangeSpec := { name := "wrapBack", fn := fun _ => fun
  | [d1, d2] => { results := [.lit (.bool false)], args := [d1, d2] }
  | _ => none }
def WrapBackWrongFalsely : Prop := wrapBackRow.holds Try.pinned (OpenSpec.ofChange wrapBackWrong)

/- THE SECOND FORM. 'bulk': how many values and letters a reading holds, each counted each time it is reached (what is shared counts as often as it is met; a slice's spare places count too). A statement '..UptoSaid' is the law's where the arguments, and the package variables that the reading takes, are together of bulk at most 1048576: NARROWER than '..Said'. Prove '..Said' where nothing that the law and all that it calls make is longer than what came in: it says more and counts as full. Else prove '..UptoSaid'. A law counts once. -/
mutual
def uptoBulk {H : Type} : DataW H → Nat
  | .lit (.string bytes) => bytes.length + 1
  | .lit _ => 1
  | .nil => 1
  | .ptr d => uptoBulk d + 1
  | .slice elems spare => uptoBulkAll elems + uptoBulkAll spare + 1
  | .agg parts => uptoBulkAll parts + 1
  | .iface _ d => uptoBulk d + 1
  | .map entries => uptoBulkEntries entries + 1
  | .held _ => 1
def uptoBulkAll {H : Type} : List (DataW H) → Nat
  | [] => 0
  | d :: r => uptoBulk d + uptoBulkAll r
def uptoBulkEntries {H : Type} : List (Lit × DataW H) → Nat
  | [] => 0
  | x :: r => uptoBulkEntry x + uptoBulkEntries r
def uptoBulkEntry {H : Type} : Lit × DataW H → Nat
  | (.string bytes, d) => bytes.length + uptoBulk d + 1
  | (_, d) => uptoBulk d + 1
 end
def uptoSmall : (H : Type) → List (DataW H) → Bool := fun _ ds => decide (uptoBulkAll ds ≤ 1048576)
def OpenSpec.upto (s : _root_.Go.ChangeSpec) : _root_.Go.OpenSpec := { _root_.Go.OpenSpec.ofChange s with cond := some uptoSmall }

/-- 'pyxislaw06.CbcPads', WHERE WHAT IT READS IS OF BULK AT MOST 1048576: true; the input reads as it did. -/
def cbcPadsUptoRow : OpenClaim := { program := "ytigegblpledogaa", sum := "d058d6757a6699a3e0945e39be5a229b6d26d12af0f6233dde00f8a974913bd6", func := "pyxis/pyxislaw06.CbcPads", spec := "cbcPads", inPlace := ["internal/abi.NoEscape", "internal/bytealg.MakeNoZero", "sync/atomic.LoadUint32", "(*internal/sync.Mutex).Lock", "internal/race.Disable", "sync/atomic.CompareAndSwapInt32", "internal/race.Enable", "internal/race.Acquire", "(*internal/sync.Mutex).lockSlow", "internal/sync.runtime_canSpin", "internal/sync.runtime_doSpin", "internal/sync.throw", "internal/sync.runtime_nanotime", "internal/sync.runtime_SemacquireMutex", "sync/atomic.AddInt32", "(*internal/sync.Mutex).Unlock", "internal/race.ReleaseMerge", "(*internal/sync.Mutex).unlockSlow", "internal/sync.fatal", "internal/sync.runtime_Semrelease", "sync/atomic.StoreUint32"], unfollowed := true, recurses := true, apart := false, narrowed := true }
def CbcPadsUptoSaid : Prop := cbcPadsUptoRow.holds Try.pinned (OpenSpec.upto cbcPadsSpec)

/-- 'pyxislaw06.CbcChains', WHERE WHAT IT READS IS OF BULK AT MOST 1048576: true; the input reads as it did. -/
def cbcChainsUptoRow : OpenClaim := { program := "ytigegblpledogaa", sum := "d058d6757a6699a3e0945e39be5a229b6d26d12af0f6233dde00f8a974913bd6", func := "pyxis/pyxislaw06.CbcChains", spec := "cbcChains", inPlace := ["internal/abi.NoEscape", "internal/bytealg.MakeNoZero", "sync/atomic.LoadUint32", "(*internal/sync.Mutex).Lock", "internal/race.Disable", "sync/atomic.CompareAndSwapInt32", "internal/race.Enable", "internal/race.Acquire", "(*internal/sync.Mutex).lockSlow", "internal/sync.runtime_canSpin", "internal/sync.runtime_doSpin", "internal/sync.throw", "internal/sync.runtime_nanotime", "internal/sync.runtime_SemacquireMutex", "sync/atomic.AddInt32", "(*internal/sync.Mutex).Unlock", "internal/race.ReleaseMerge", "(*internal/sync.Mutex).unlockSlow", "internal/sync.fatal", "internal/sync.runtime_Semrelease", "sync/atomic.StoreUint32"], unfollowed := true, recurses := true, apart := false, narrowed := true }
def CbcChainsUptoSaid : Prop := cbcChainsUptoRow.holds Try.pinned (OpenSpec.upto cbcChainsSpec)

/-- 'pyxislaw06.CbcSeals', WHERE WHAT IT READS IS OF BULK AT MOST 1048576: true; the input reads as it did. -/
def cbcSealsUptoRow : OpenClaim := { program := "ytigegblpledogaa", sum := "d058d6757a6699a3e0945e39be5a229b6d26d12af0f6233dde00f8a974913bd6", func := "pyxis/pyxislaw06.CbcSeals", spec := "cbcSeals", inPlace := ["internal/abi.NoEscape", "internal/bytealg.MakeNoZero", "sync/atomic.LoadUint32", "(*internal/sync.Mutex).Lock", "internal/race.Disable", "sync/atomic.CompareAndSwapInt32", "internal/race.Enable", "internal/race.Acquire", "(*internal/sync.Mutex).lockSlow", "internal/sync.runtime_canSpin", "internal/sync.runtime_doSpin", "internal/sync.throw", "internal/sync.runtime_nanotime", "internal/sync.runtime_SemacquireMutex", "sync/atomic.AddInt32", "(*internal/sync.Mutex).Unlock", "internal/race.ReleaseMerge", "(*internal/sync.Mutex).unlockSlow", "internal/sync.fatal", "internal/sync.runtime_Semrelease", "sync/atomic.StoreUint32"], unfollowed := true, recurses := true, apart := false, narrowed := true }
def CbcSealsUptoSaid : Prop := cbcSealsUptoRow.holds Try.pinned (OpenSpec.upto cbcSealsSpec)

/-- 'pyxislaw06.CbcOpens', WHERE WHAT IT READS IS OF BULK AT MOST 1048576: true; the input reads as it did. -/
def cbcOpensUptoRow : OpenClaim := { program := "ytigegblpledogaa", sum := "d058d6757a6699a3e0945e39be5a229b6d26d12af0f6233dde00f8a974913bd6", func := "pyxis/pyxislaw06.CbcOpens", spec := "cbcOpens", inPlace := ["internal/abi.NoEscape", "internal/bytealg.MakeNoZero", "sync/atomic.LoadUint32", "(*internal/sync.Mutex).Lock", "internal/race.Disable", "sync/atomic.CompareAndSwapInt32", "internal/race.Enable", "internal/race.Acquire", "(*internal/sync.Mutex).lockSlow", "internal/sync.runtime_canSpin", "internal/sync.runtime_doSpin", "internal/sync.throw", "internal/sync.runtime_nanotime", "internal/sync.runtime_SemacquireMutex", "sync/atomic.AddInt32", "(*internal/sync.Mutex).Unlock", "internal/race.ReleaseMerge", "(*internal/sync.Mutex).unlockSlow", "internal/sync.fatal", "internal/sync.runtime_Semrelease", "sync/atomic.StoreUint32"], unfollowed := true, recurses := true, apart := false, narrowed := true }
def CbcOpensUptoSaid : Prop := cbcOpensUptoRow.holds Try.pinned (OpenSpec.upto cbcOpensSpec)

/-- 'pyxislaw06.CbcMacs', WHERE WHAT IT READS IS OF BULK AT MOST 1048576: true; the input reads as it did. -/
def cbcMacsUptoRow : OpenClaim := { program := "ytigegblpledogaa", sum := "d058d6757a6699a3e0945e39be5a229b6d26d12af0f6233dde00f8a974913bd6", func := "pyxis/pyxislaw06.CbcMacs", spec := "cbcMacs", inPlace := ["internal/abi.NoEscape", "internal/bytealg.MakeNoZero", "sync/atomic.LoadUint32", "(*internal/sync.Mutex).Lock", "internal/race.Disable", "sync/atomic.CompareAndSwapInt32", "internal/race.Enable", "internal/race.Acquire", "(*internal/sync.Mutex).lockSlow", "internal/sync.runtime_canSpin", "internal/sync.runtime_doSpin", "internal/sync.throw", "internal/sync.runtime_nanotime", "internal/sync.runtime_SemacquireMutex", "sync/atomic.AddInt32", "(*internal/sync.Mutex).Unlock", "internal/race.ReleaseMerge", "(*internal/sync.Mutex).unlockSlow", "internal/sync.fatal", "internal/sync.runtime_Semrelease", "sync/atomic.StoreUint32"], unfollowed := true, recurses := true, apart := false, narrowed := true }
def CbcMacsUptoSaid : Prop := cbcMacsUptoRow.holds Try.pinned (OpenSpec.upto cbcMacsSpec)

/-- 'pyxislaw07.CtrNext', WHERE WHAT IT READS IS OF BULK AT MOST 1048576: true; the input reads as it did. -/
def ctrNextUptoRow : OpenClaim := { program := "ytigegblpledogaa", sum := "d058d6757a6699a3e0945e39be5a229b6d26d12af0f6233dde00f8a974913bd6", func := "pyxis/pyxislaw07.CtrNext", spec := "ctrNext", unfollowed := true, recurses := true, apart := false, narrowed := true }
def CtrNextUptoSaid : Prop := ctrNextUptoRow.holds Try.pinned (OpenSpec.upto ctrNextSpec)

/-- 'pyxislaw07.CtrXors', WHERE WHAT IT READS IS OF BULK AT MOST 1048576: true; the input reads as it did. -/
def ctrXorsUptoRow : OpenClaim := { program := "ytigegblpledogaa", sum := "d058d6757a6699a3e0945e39be5a229b6d26d12af0f6233dde00f8a974913bd6", func := "pyxis/pyxislaw07.CtrXors", spec := "ctrXors", unfollowed := true, recurses := true, apart := false, narrowed := true }
def CtrXorsUptoSaid : Prop := ctrXorsUptoRow.holds Try.pinned (OpenSpec.upto ctrXorsSpec)

/-- 'pyxislaw07.CtrPieces', WHERE WHAT IT READS IS OF BULK AT MOST 1048576: true; the input reads as it did. -/
def ctrPiecesUptoRow : OpenClaim := { program := "ytigegblpledogaa", sum := "d058d6757a6699a3e0945e39be5a229b6d26d12af0f6233dde00f8a974913bd6", func := "pyxis/pyxislaw07.CtrPieces", spec := "ctrPieces", unfollowed := true, recurses := true, apart := false, narrowed := true }
def CtrPiecesUptoSaid : Prop := ctrPiecesUptoRow.holds Try.pinned (OpenSpec.upto ctrPiecesSpec)

/-- 'pyxislaw07.CtrBegins', WHERE WHAT IT READS IS OF BULK AT MOST 1048576: true; the input reads as it did. -/
def ctrBeginsUptoRow : OpenClaim := { program := "ytigegblpledogaa", sum := "d058d6757a6699a3e0945e39be5a229b6d26d12af0f6233dde00f8a974913bd6", func := "pyxis/pyxislaw07.CtrBegins", spec := "ctrBegins", unfollowed := true, recurses := true, apart := false, narrowed := true }
def CtrBeginsUptoSaid : Prop := ctrBeginsUptoRow.holds Try.pinned (OpenSpec.upto ctrBeginsSpec)

/-- 'pyxislaw12.WrapWraps', WHERE WHAT IT READS IS OF BULK AT MOST 1048576: true; the input reads as it did. -/
def wrapWrapsUptoRow : OpenClaim := { program := "ytigegblpledogaa", sum := "d058d6757a6699a3e0945e39be5a229b6d26d12af0f6233dde00f8a974913bd6", func := "pyxis/pyxislaw12.WrapWraps", spec := "wrapWraps", apart := false, narrowed := true }
def WrapWrapsUptoSaid : Prop := wrapWrapsUptoRow.holds Try.pinned (OpenSpec.upto wrapWrapsSpec)

/-- 'pyxislaw12.WrapUnwraps', WHERE WHAT IT READS IS OF BULK AT MOST 1048576: true; the input reads as it did. -/
def wrapUnwrapsUptoRow : OpenClaim := { program := "ytigegblpledogaa", sum := "d058d6757a6699a3e0945e39be5a229b6d26d12af0f6233dde00f8a974913bd6", func := "pyxis/pyxislaw12.WrapUnwraps", spec := "wrapUnwraps", inPlace := ["sync/atomic.LoadUint32", "(*internal/sync.Mutex).Lock", "internal/race.Disable", "sync/atomic.CompareAndSwapInt32", "internal/race.Enable", "internal/race.Acquire", "(*internal/sync.Mutex).lockSlow", "internal/sync.runtime_canSpin", "internal/sync.runtime_doSpin", "internal/sync.throw", "internal/sync.runtime_nanotime", "internal/sync.runtime_SemacquireMutex", "sync/atomic.AddInt32", "(*internal/sync.Mutex).Unlock", "internal/race.ReleaseMerge", "(*internal/sync.Mutex).unlockSlow", "internal/sync.fatal", "internal/sync.runtime_Semrelease", "sync/atomic.StoreUint32"], unfollowed := true, recurses := true, apart := false, narrowed := true }
def WrapUnwrapsUptoSaid : Prop := wrapUnwrapsUptoRow.holds Try.pinned (OpenSpec.upto wrapUnwrapsSpec)

/-- 'pyxislaw12.WrapValues', WHERE WHAT IT READS IS OF BULK AT MOST 1048576: true; the input reads as it did. -/
def wrapValuesUptoRow : OpenClaim := { program := "ytigegblpledogaa", sum := "d058d6757a6699a3e0945e39be5a229b6d26d12af0f6233dde00f8a974913bd6", func := "pyxis/pyxislaw12.WrapValues", spec := "wrapValues", inPlace := ["sync/atomic.LoadUint32", "(*internal/sync.Mutex).Lock", "internal/race.Disable", "sync/atomic.CompareAndSwapInt32", "internal/race.Enable", "internal/race.Acquire", "(*internal/sync.Mutex).lockSlow", "internal/sync.runtime_canSpin", "internal/sync.runtime_doSpin", "internal/sync.throw", "internal/sync.runtime_nanotime", "internal/sync.runtime_SemacquireMutex", "sync/atomic.AddInt32", "(*internal/sync.Mutex).Unlock", "internal/race.ReleaseMerge", "(*internal/sync.Mutex).unlockSlow", "internal/sync.fatal", "internal/sync.runtime_Semrelease", "sync/atomic.StoreUint32"], unfollowed := true, recurses := true, apart := false, narrowed := true }
def WrapValuesUptoSaid : Prop := wrapValuesUptoRow.holds Try.pinned (OpenSpec.upto wrapValuesSpec)

/-- 'pyxislaw12.WrapBack', WHERE WHAT IT READS IS OF BULK AT MOST 1048576: true; the input reads as it did. -/
def wrapBackUptoRow : OpenClaim := { program := "ytigegblpledogaa", sum := "d058d6757a6699a3e0945e39be5a229b6d26d12af0f6233dde00f8a974913bd6", func := "pyxis/pyxislaw12.WrapBack", spec := "wrapBack", inPlace := ["sync/atomic.LoadUint32", "(*internal/sync.Mutex).Lock", "internal/race.Disable", "sync/atomic.CompareAndSwapInt32", "internal/race.Enable", "internal/race.Acquire", "(*internal/sync.Mutex).lockSlow", "internal/sync.runtime_canSpin", "internal/sync.runtime_doSpin", "internal/sync.throw", "internal/sync.runtime_nanotime", "internal/sync.runtime_SemacquireMutex", "sync/atomic.AddInt32", "(*internal/sync.Mutex).Unlock", "internal/race.ReleaseMerge", "(*internal/sync.Mutex).unlockSlow", "internal/sync.fatal", "internal/sync.runtime_Semrelease", "sync/atomic.StoreUint32"], unfollowed := true, recurses := true, apart := false, narrowed := true }
def WrapBackUptoSaid : Prop := wrapBackUptoRow.holds Try.pinned (OpenSpec.upto wrapBackSpec)

end Rows
end Go.Proofs.Ytigegblpledogaa
