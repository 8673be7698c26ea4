/- The law SuiteRows holds for every input, whatever the package's table of the sum holds: the walk, put into the row's frame. -/
import Derived.Test.YtflofbimecnakaaGreatSuC
import Derived.ProofKit
import Derived.OpenShut
import Derived.ShutString
import Derived.ChangeOld
import Derived.SizedLaws
namespace Go.Proofs.YtflofbimecnakaaGreat.suiteRows
open Go.ChangeShapes Go.WideShapes Go.ChangeAt Go.RowKit
open Go.ChangeMaps (open_string shut_string)
set_option linter.unusedVariables false
theorem own : ownKnob Tryz.prog.godebug = none := by kernel_rfl
def zero16 : Array Value := #[.int .u64 0, .int .u64 0, .int .u64 0, .int .u64 0, .int .u64 0, .int .u64 0, .int .u64 0, .int .u64 0, .int .u64 0, .int .u64 0, .int .u64 0, .int .u64 0, .int .u64 0, .int .u64 0, .int .u64 0, .int .u64 0]
theorem begun : ((begin Tryz.prog (fun _ _ => 0) default).world.heap[0]?).bind Obj.row? = some (zero16, 156) := by kernel_rfl
theorem glob : 0 < Tryz.prog.globals.size := of_decide_eq_true (by kernel_rfl)
theorem built : Tryz.prog.buildable 156 = true := by kernel_rfl
theorem types : Tryz.prog.cellTypes Tryz.prog.depth 156 = some (List.replicate 16 91) := by kernel_rfl
def natOf : Value → Nat
  | .int _ n => n.toNat
  | _ => 0
set_option maxRecDepth 100000 in
/-- whatever the table holds, it holds sixteen numbers -/
theorem table {W : World} (h : W.ShapedOpen Tryz.prog) : ∃ T : Gh.Tw, (∀ i, i < 16 → W.cell? ⟨0, i, none⟩ = some (.int .u64 ((T.t.getD i 0 : Nat) : Int))) ∧ 0 < W.heap.size := by
  obtain ⟨cs, hc, hs, hr⟩ := h.1 0 zero16 156 glob begun
  obtain ⟨ts, ht, -, hcell⟩ := hr built
  rw [types] at ht
  obtain rfl := Option.some.inj ht
  have hs16 : cs.size = 16 := hs
  have hv : ∀ i v, cs[i]? = some v → ∃ n : Nat, v = Value.int .u64 (n : Int) ∧ n < 2 ^ 64 := fun i v hi => by
    obtain ⟨u, hu, hok⟩ := hcell i v hi
    have hul : u = 91 := by
      rw [List.getElem?_replicate] at hu
      split at hu
      · exact (Option.some.inj hu).symm
      · cases hu
    subst hul
    unfold Cell.ok at hok
    rw [Tryz.underlying91] at hok
    cases v with
    | int k n =>
      obtain ⟨rfl, hb⟩ := hok
      have hb2 : 0 ≤ n ∧ n < 18446744073709551616 := by
        unfold IntKind.has at hb
        simp [IntKind.min, IntKind.max, IntKind.bits, IntKind.signed] at hb
        omega
      exact ⟨n.toNat, by rw [Int.toNat_of_nonneg hb2.1], by omega⟩
    | _ => exact absurd hok (by simp)
  have hat := At.ofHeap (w := W) (g := 0) hc (.inl rfl)
  refine ⟨⟨cs.toList.map natOf, fun i => ?_⟩, fun i hi => ?_, ?_⟩
  · rw [List.getD, List.getElem?_map]
    cases hq : cs.toList[i]? with
    | none => exact Nat.two_pow_pos 64
    | some v =>
      obtain ⟨n, rfl, hn⟩ := hv i v (by rw [← Array.getElem?_toList]; exact hq)
      simpa [natOf] using hn
  · obtain ⟨v, hq⟩ : ∃ v, cs.toList[i]? = some v := ⟨_, List.getElem?_eq_getElem (by rw [Array.length_toList, hs16]; exact hi)⟩
    obtain ⟨n, rfl, hn⟩ := hv i v (by rw [← Array.getElem?_toList]; exact hq)
    have h1 := hat.cell i _ hq
    rw [Nat.zero_add] at h1
    rw [h1, List.getD, List.getElem?_map, hq]
    simp [natOf]
  · have h1 := hat.lt (by intro h0; have h2 := congrArg List.length h0; rw [Array.length_toList, hs16] at h2; cases h2)
    exact h1
set_option maxRecDepth 100000 in
theorem lifted (os : Os) (started : os.Started) (H : Type) (enc : TypeId × Value → H) :
    ReturnsInHanded {} Tryz.checked os 3 .any (Rows.suiteRowsSpec.pre6 enc Tryz.prog Tryz.f3 Rows.suiteRowsRow.domain false) (Rows.suiteRowsSpec.post enc Tryz.prog Tryz.f3 false true false false) := by
  refine returnsInHanded_of_calls (C := Tryz.checked) own started (by kernel_rfl)
    (ChangeSpec.witness6 (enc := enc) (C := Tryz.checked) false ⟨#[], #[.int .i64 0], []⟩ 8 (by kernel_rfl) (by kernel_rfl) (by kernel_rfl) (by kernel_rfl)) ?_
  intro w tape i _ hsh _ hok hpre hholds
  obtain ⟨_, _, _, fn', hfn', _, _, _, _, hval1⟩ := hok
  obtain rfl : Tryz.f3 = fn' := Option.some.inj (Tryz.func3.symm.trans hfn')
  obtain ⟨⟨ds, gs, before, hw, hc⟩, hz⟩ := hpre
  have hW0 := DataW.Whole.of_heap (w' := w.forCall tape i) (by rfl) hw
  obtain ⟨T, hT, hT0⟩ := table hsh
  obtain ⟨args, hargs0⟩ : ∃ a, i.args = a := ⟨_, rfl⟩
  obtain ⟨W, hWW⟩ : ∃ W, w.forCall tape i = W := ⟨_, rfl⟩
  rw [hargs0, hWW] at hW0
  rw [hWW] at hT hT0
  rw [hargs0] at hval1
  have hval : ∀ (j : Nat) t v, Tryz.f3.params[j]? = some t → args[j]? = some v → Value.okWide Tryz.prog W .any w.heap.size t v := by rw [← hWW]; exact hval1
  have hW := hW0
  have hW' := hW
  obtain ⟨p, q, hA0, hV, rfl, hfz, hnd⟩ := hW
  have hA : DataW.TrodAll enc Tryz.prog W 0 (fun _ => true) true Tryz.f3.params.toList args.toList ds p := hA0
  rw [Tryz.params3] at hA hval
  obtain ⟨v0, vs0, d0, ds0, p0, q0, hargs, rfl, rfl, h0, r0⟩ := trodAll_cons hA
  obtain ⟨rfl, rfl, rfl⟩ := trodAll_nil r0
  obtain rfl : args = #[v0] := by cases args; simp_all
  obtain ⟨rfl, rfl⟩ := trodVars_none hV
  obtain ⟨a0, rfl, rfl, rfl, w0⟩ := open_int Tryz.underlying3 (hval 0 3 v0 rfl rfl) h0
  clear hA0
  letI : Inhabited Gh.Tw := ⟨T⟩
  rw [hargs0, hWW]
  refine (Ce.suiteRows_walk a0 W ⟨hT, hT0⟩).mono fun e W' ⟨he, bel⟩ => ?_
  subst he
  rw [← hWW] at *
  exact ChangeSpec.post_blind ⟨_, _, _, [], _, [], hW', trodAll_mk1 (shut_bool Tryz.underlying4 _), (trodAll_cons_mk (shut_int Tryz.underlying3 w0) trodAll_mk0), rfl, bel.frame _, fun h => by cases h⟩

theorem proved : Rows.SuiteRowsSaid :=
  OpenClaim.holds_of_wide 3 Tryz.f3 rfl rfl rfl rfl rfl rfl rfl ⟨rfl, rfl, rfl, rfl, rfl⟩ rfl rfl rfl rfl rfl (by kernel_rfl) Tryz.func3 (by kernel_rfl)
    (of_decide_eq_true (by kernel_rfl)) (by unfold Func.isWrapper; first | (rw [if_pos (by decide +kernel)]; kernel_rfl) | (rw [if_neg (by decide +kernel)]; exact ⟨rfl, rfl⟩))
    (fun os started H enc _ => lifted os started H enc)
#print axioms proved
end Go.Proofs.YtflofbimecnakaaGreat.suiteRows
