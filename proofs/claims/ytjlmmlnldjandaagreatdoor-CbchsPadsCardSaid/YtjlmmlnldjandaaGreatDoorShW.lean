/- The package's tables: what the tied rows' condition says of memory; the door's own heap meets it. -/
import Derived.Test.YtjlmmlnldjandaaGreatDoorShL
import Derived.Test.YtjlmmlnldjandaaGreatDoorRows
import Derived.ProofKit
import Derived.LaidMore
import Derived.OpenShut
import Derived.Stop.Joined
namespace Go.Proofs.YtjlmmlnldjandaaGreatDoor
open Go.ChangeShapes Go.WideShapes Go.ChangeAt Go.RowKit
set_option linter.unusedVariables false
set_option linter.unusedSimpArgs false
theorem u64s_trod {H : Type} {enc : TypeId × Value → H} {P : Program} {W : World} {base n fuel : Nat} {spare : Nat → Bool} {held : Bool} {t e : TypeId} {cs : List Value} {ns : List Int} {p : List MemPlace}
    (hu : P.underlying t = some (.array n e)) (he : P.underlying e = some (.int .u64)) (hc : P.cellsOf e = 1)
    (h : DataW.trod enc P W base spare held fuel t cs = some (.agg (ns.map fun k => .lit (.int .u64 k)), p)) : ∀ i, i < n → cs[i]? = some (.int .u64 (ns.getD i 0)) := by
  obtain ⟨xs, m, rfl, hx, _, hn, hel⟩ := DataW.trod_array hu h
  simp only [Prod.mk.injEq, DataW.agg.injEq] at hx
  intro i hi
  have h1 := hel i hi
  rw [hc, Nat.mul_one, List.getElem?_eq_getElem (show i < xs.length by omega)] at h1
  obtain ⟨k, e1, e2, _⟩ := DataW.trod_int he h1
  have h2 : (xs.map (·.1))[i]? = some (.lit (.int .u64 k)) := by
    rw [List.getElem?_map, List.getElem?_eq_getElem (show i < xs.length by omega), e2]; rfl
  rw [← hx.1, List.getElem?_map] at h2
  have h3 : ns[i]? = some k := by
    cases hq : ns[i]? with
    | none => rw [hq] at h2; cases h2
    | some q => rw [hq] at h2; simp only [Option.map_some, Option.some.injEq, DataW.lit.injEq, Lit.int.injEq] at h2; rw [h2.2]
  have h4 : ((cs.drop i).take 1)[0]? = some (.int .u64 k) := by rw [e1]; rfl
  rw [List.getElem?_take, if_pos (by decide), List.getElem?_drop, Nat.add_zero] at h4
  rw [h4, List.getD, h3]
  rfl
theorem own0 : ownKnob Tryz.prog.godebug = none := by kernel_rfl
theorem gRou : Tryz.prog.globalNamed "pyxis/sha.roundWords" = some 2 := by kernel_rfl
theorem gSta : Tryz.prog.globalNamed "pyxis/sha.startWords" = some 0 := by kernel_rfl
theorem tRou : (Tryz.prog.globals[2]?).map (·.type) = some 193 := by kernel_rfl
theorem tSta : (Tryz.prog.globals[0]?).map (·.type) = some 179 := by kernel_rfl
def laidF : List (String × DataW Unit) := [("pyxis/sha.roundWords", Rows.laid_pyxis_sha_roundWords), ("pyxis/sha.startWords", Rows.laid_pyxis_sha_startWords)]
theorem door_met (os : Os) (args : Array Value) : laidMetH Tryz.prog laidF ((World.doorLaid Tryz.prog 400 os).forCall (fun _ _ => 0) ⟨#[], args, []⟩).memory :=
  laidMetH_of_parts3 (fuel := 8) (laidMet_of_run' 8 (by kernel_rfl) (by kernel_rfl)) (by kernel_rfl) (by kernel_rfl)
theorem nats_get (L : List Nat) (i : Nat) (h : i < L.length) : (L.map fun (k : Nat) => (k : Int)).getD i 0 = ((L.getD i 0 : Nat) : Int) := by
  rw [List.getD, List.getElem?_map, List.getD, List.getElem?_eq_getElem h]
  rfl
theorem tb_of_laid {W : World} (h : laidMetH Tryz.prog laidF W) : Tb W := by
  rw [MakeChecks.laidMetH_plain _ _ _ (by kernel_rfl)] at h
  obtain ⟨ps, ⟨g0, t0, cs0, f0, p0, q0, hg0, ht0, hv0, hd0, rest, _⟩, _, _⟩ := h
  obtain ⟨g1, t1, cs1, f1, p1, q1, hg1, ht1, hv1, hd1, _, _⟩ := rest
  obtain rfl := Option.some.inj (gRou.symm.trans hg0)
  obtain rfl := Option.some.inj (tRou.symm.trans ht0)
  obtain rfl := Option.some.inj (gSta.symm.trans hg1)
  obtain rfl := Option.some.inj (tSta.symm.trans ht1)
  have hc : ∀ i, i < 80 → W.cell? ⟨2, i, none⟩ = some (.int .u64 ((Sh.roundL.getD i 0 : Nat) : Int)) := fun i hi => by
    rw [World.var?_cell hg0 hv0 i, ← Array.getElem?_toList, ← nats_get Sh.roundL i hi]
    exact u64s_trod Tryz.underlying193 Tryz.underlying47 (by kernel_rfl) (ns := Sh.roundL.map fun (k : Nat) => (k : Int)) hd0 i hi
  have hc2 : ∀ i, i < 16 → W.cell? ⟨0, i, none⟩ = some (.int .u64 ((Sh.startL.getD i 0 : Nat) : Int)) := fun i hi => by
    rw [World.var?_cell hg1 hv1 i, ← Array.getElem?_toList, ← nats_get Sh.startL i hi]
    exact u64s_trod Tryz.underlying179 Tryz.underlying47 (by kernel_rfl) (ns := Sh.startL.map fun (k : Nat) => (k : Int)) hd1 i hi
  refine ⟨hc, hc2, ?_⟩
  refine Nat.lt_of_not_le fun h0 => ?_
  have := hc 0 (by decide)
  rw [World.cell?] at this
  have hn : W.heap[2]? = none := Array.getElem?_eq_none h0
  simp [hn] at this
end Go.Proofs.YtjlmmlnldjandaaGreatDoor
