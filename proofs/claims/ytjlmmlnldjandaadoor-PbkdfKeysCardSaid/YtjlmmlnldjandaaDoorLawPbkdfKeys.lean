/- The law PbkdfKeys holds for every input: the walk, put into the row's frame; then the card with the table tied to the program's text. -/
import Derived.Test.YtjlmmlnldjandaaDoorPbE
import Derived.Test.YtjlmmlnldjandaaDoorTie
import Derived.Test.YtjlmmlnldjandaaDoorCards
import Derived.Test.YtjlmmlnldjandaaDoorShW
import Derived.ProofKit
import Derived.OpenShut
import Derived.ShutString
import Derived.ChangeOld
import Derived.SizedLaws
import Derived.LaidMore
import Derived.Stop.Joined
import Derived.SevenTiedAt
import Derived.Lib.SmallJoins
import Derived.Test.YtjlmmlnldjandaaDoorRowG
namespace Go.Proofs.YtjlmmlnldjandaaDoor.pbkdfKeys
open Go.ChangeShapes Go.WideShapes Go.ChangeAt Go.WideElems Go.RowKit
open Go.ChangeMaps (open_string shut_string)
open Go.Joins (open_agg2 shut_agg2 open_agg3 shut_agg3 open_agg4 shut_agg4)
set_option linter.unusedVariables false
theorem own : ownKnob Tryd.prog.godebug = none := by kernel_rfl
theorem cells0 : Tryd.prog.cellsOf 23 = 5 := by kernel_rfl
set_option maxRecDepth 100000 in
theorem lifted (os : Os) (started : os.Started) (H : Type) (enc : TypeId × Value → H) :
    ReturnsInHanded {} Tryd.checked os 3 .any (fun w args => (Rows.pbkdfKeysSpec.pre enc Tryd.prog Tryd.f3 [] false w args ∧ laidMetH Tryd.prog laidF w) ∧ sizedMet enc Tryd.prog Tryd.f3 (OpenSpec.ofChange Rows.pbkdfKeysSpec) false w args)
      (Rows.pbkdfKeysSpec.post enc Tryd.prog Tryd.f3 false true false false) := by
  refine returnsInHanded_of_change_and (C := Tryd.checked) (X := fun w _ => laidMetH Tryd.prog laidF w) (fun _ _ _ hh h => h.of_heap hh) own started (by kernel_rfl) Tryd.func3
    (ChangeSpec.witness_shaped (enc := enc) (C := Tryd.checked) (os := os) (X := fun w _ => laidMetH Tryd.prog laidF w) false (World.doorLaid Tryd.prog 400 os) #[.agg #[.int .i64 0, .string ByteArray.empty, .string ByteArray.empty, .int .i64 0, .int .i64 0]] 8 rfl (World.shaped_of_RefB (by kernel_rfl) (by kernel_rfl)) (by kernel_rfl) (by kernel_rfl) (by kernel_rfl) (door_met os _)) ?_
  intro W base args ds gs before hval0 hW _ hsz0 hL _
  have hval : ∀ (j : Nat) t v, Tryd.f3.params[j]? = some t → args[j]? = some v → Value.okWide Tryd.prog W .any base t v := hval0
  have hsz : (DataW.weightsEach Tryd.prog (Tryd.f3.params.toList ++ Rows.pbkdfKeysSpec.plain.varTypes Tryd.prog) (ds ++ gs)).all (· ≤ reachBytes) = true := hsz0
  have hW' := hW
  obtain ⟨p, q, hA0, hV, rfl, hfz, hnd⟩ := hW
  have hA : DataW.TrodAll enc Tryd.prog W 0 (fun _ => true) true Tryd.f3.params.toList args.toList ds p := hA0
  rw [Tryd.params3] at hA hval hsz
  obtain ⟨v0, vs0, d0, ds0, p0, q0, hargs, rfl, rfl, h0, r0⟩ := trodAll_cons hA
  obtain ⟨rfl, rfl, rfl⟩ := trodAll_nil r0
  obtain rfl : args = #[v0] := by cases args; simp_all
  obtain ⟨rfl, rfl⟩ := trodVars_none hV
  obtain ⟨g00, g01, g02, g03, g04, y00, y01, y02, y03, y04, m0, rfl, rfl, rfl, hy00, hy01, hy02, hy03, hy04⟩ := open_agg5 Tryd.underlying23 (by kernel_rfl) cells0 (hval 0 23 v0 rfl rfl) h0
  obtain ⟨a0, e00, rfl, qa0⟩ := DataW.trod_int Tryd.underlying3 hy00
  obtain ⟨b0, e01, rfl, qb0⟩ := DataW.trod_string Tryd.underlying9 hy01
  obtain ⟨c0, e02, rfl, qc0⟩ := DataW.trod_string Tryd.underlying9 hy02
  obtain ⟨d0, e03, rfl, qd0⟩ := DataW.trod_int Tryd.underlying3 hy03
  obtain ⟨e0, e04, rfl, qe0⟩ := DataW.trod_int Tryd.underlying3 hy04
  simp at e00 e01 e02 e03 e04
  subst e00 e01 e02 e03 e04
  have sb0 : b0.size ≤ 140737488351232 := by
    have := List.all_eq_true.1 hsz _ (DataW.weights_mem_each (j := 0) (t := 23) rfl rfl b0.data.toList.length (by simp [DataW.weights, DataW.weightsEach, Tryd.underlying23]))
    have h2 : b0.data.toList.length ≤ reachBytes := of_decide_eq_true this
    rw [Array.length_toList] at h2
    exact h2
  have sc0 : c0.size ≤ 140737488351232 := by
    have := List.all_eq_true.1 hsz _ (DataW.weights_mem_each (j := 0) (t := 23) rfl rfl c0.data.toList.length (by simp [DataW.weights, DataW.weightsEach, Tryd.underlying23]))
    have h2 : c0.data.toList.length ≤ reachBytes := of_decide_eq_true this
    rw [Array.length_toList] at h2
    exact h2
  have sr0 : ∀ (W2 : World) (bs : Nat) (sp : Nat → Bool) (hd : Bool), DataW.Trod enc Tryd.prog W2 bs sp hd 23 (.agg #[.int .i64 a0, .string b0, .string c0, .int .i64 d0, .int .i64 e0]) (.agg [.lit (.int .i64 a0), .lit (.string b0.data.toList), .lit (.string c0.data.toList), .lit (.int .i64 d0), .lit (.int .i64 e0)]) [] := fun W2 bs sp hd =>
    shut_agg5 (y0 := (.lit (.int .i64 a0), [])) (y1 := (.lit (.string b0.data.toList), [])) (y2 := (.lit (.string c0.data.toList), [])) (y3 := (.lit (.int .i64 d0), [])) (y4 := (.lit (.int .i64 e0), [])) Tryd.underlying23 (by kernel_rfl) cells0 ⟨1, by simp [DataW.trod, Tryd.underlying3, qa0]⟩ ⟨1, by simp [DataW.trod, Tryd.underlying9, qb0]⟩ ⟨1, by simp [DataW.trod, Tryd.underlying9, qc0]⟩ ⟨1, by simp [DataW.trod, Tryd.underlying3, qd0]⟩ ⟨1, by simp [DataW.trod, Tryd.underlying3, qe0]⟩
  have hF := tb_of_laid hL
  clear hA0 hval0
  refine (pbkdfKeys_walk a0 b0 c0 d0 e0 sb0 W hF).mono fun e W' ⟨he, bel⟩ => ?_
  subst he
  exact ⟨_, rfl, _, _, _, [], _, [], hW', trodAll_mk1 (shut_bool Tryd.underlying4 _), (trodAll_cons_mk (sr0 _ _ _ _) trodAll_mk0), rfl, bel.frame _, fun h => by cases h⟩

theorem holds : Rows.PbkdfKeysSaid :=
  OpenClaim.holds_of_wide 3 Tryd.f3 rfl rfl rfl rfl rfl rfl rfl ⟨rfl, rfl, rfl, rfl, rfl⟩ rfl rfl rfl rfl rfl (by kernel_rfl) Tryd.func3 (by kernel_rfl)
    (of_decide_eq_true (by kernel_rfl)) (by unfold Func.isWrapper; first | (rw [if_pos (by decide +kernel)]; kernel_rfl) | (rw [if_neg (by decide +kernel)]; exact ⟨rfl, rfl⟩))
    (fun os started H enc _ => lifted os started H enc)
theorem proved : Rows.PbkdfKeysCardSaid :=
  Claim7.holds_tied_plain_at .later [] [.data, .data] true Rows.pbkdfKeysCard.stood.harness false
    holds (fun _ h => by cases h) (by kernel_rfl) (fun _ h => by cases h) pbkdfKeys_row_tie rfl ⟨rfl, rfl⟩ (by kernel_rfl) rfl
    (fun f fn hf hfn => by
      obtain rfl : f = 3 := Option.some.inj ((show Tryd.prog.funcNamed "pyxis/pyxislaw05.PbkdfKeys" = some 3 by kernel_rfl).symm.trans hf) |>.symm
      obtain rfl : fn = Tryd.f3 := (Option.some.inj (Tryd.func3.symm.trans hfn)).symm
      exact ⟨by kernel_rfl, fun j t ht => by
        rw [Tryd.params3] at ht
        have hm : t ∈ [23] := by simpa using Array.mem_of_getElem? ht
        have hall : ([23].all fun u => !Tryd.prog.wantsStandIn u) = true := by kernel_rfl
        exact (show Tryd.prog.wantsStandIn t = false by simpa using List.all_eq_true.1 hall t hm)⟩)
    (by kernel_rfl)
#print axioms proved
end Go.Proofs.YtjlmmlnldjandaaDoor.pbkdfKeys
