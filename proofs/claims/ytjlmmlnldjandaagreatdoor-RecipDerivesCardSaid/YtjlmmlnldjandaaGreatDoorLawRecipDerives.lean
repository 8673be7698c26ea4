/- The law RecipDerives holds for every input: the walk, put into the row's frame; then the card with the table tied to the program's text. -/
import Derived.Test.YtjlmmlnldjandaaGreatDoorRdA
import Derived.Test.YtjlmmlnldjandaaGreatDoorTie
import Derived.Test.YtjlmmlnldjandaaGreatDoorCards
import Derived.Test.YtjlmmlnldjandaaGreatDoorShW
import Derived.ProofKit
import Derived.OpenShut
import Derived.ShutString
import Derived.ChangeOld
import Derived.SizedLaws
import Derived.LaidMore
import Derived.Stop.Joined
import Derived.SevenTiedAt
import Derived.Lib.SmallJoins
import Derived.Test.YtjlmmlnldjandaaGreatDoorRowG
namespace Go.Proofs.YtjlmmlnldjandaaGreatDoor.recipDerives
open Go.ChangeShapes Go.WideShapes Go.ChangeAt Go.WideElems Go.RowKit
open Go.ChangeMaps (open_string shut_string)
open Go.Joins (open_agg2 shut_agg2 open_agg3 shut_agg3 open_agg4 shut_agg4)
set_option linter.unusedVariables false
theorem own : ownKnob Tryz.prog.godebug = none := by kernel_rfl
theorem cells0 : Tryz.prog.cellsOf 36 = 4 := by kernel_rfl
set_option maxRecDepth 100000 in
theorem lifted (os : Os) (started : os.Started) (H : Type) (enc : TypeId × Value → H) :
    ReturnsInHanded {} Tryz.checked os 8 .any (fun w args => (Rows.recipDerivesSpec.pre enc Tryz.prog Tryz.f8 [] false w args ∧ laidMetH Tryz.prog laidF w) ∧ sizedMet enc Tryz.prog Tryz.f8 (OpenSpec.ofChange Rows.recipDerivesSpec) false w args)
      (Rows.recipDerivesSpec.post enc Tryz.prog Tryz.f8 false true false false) := by
  refine returnsInHanded_of_change_and (C := Tryz.checked) (X := fun w _ => laidMetH Tryz.prog laidF w) (fun _ _ _ hh h => h.of_heap hh) own started (by kernel_rfl) Tryz.func8
    (ChangeSpec.witness_shaped (enc := enc) (C := Tryz.checked) (os := os) (X := fun w _ => laidMetH Tryz.prog laidF w) false (World.doorLaid Tryz.prog 400 os) #[.agg #[.string ByteArray.empty, .string ByteArray.empty, .string ByteArray.empty, .int .i64 0]] 8 rfl (World.shaped_of_RefB (by kernel_rfl) (by kernel_rfl)) (by kernel_rfl) (by kernel_rfl) (by kernel_rfl) (door_met os _)) ?_
  intro W base args ds gs before hval0 hW _ hsz0 hL _
  have hval : ∀ (j : Nat) t v, Tryz.f8.params[j]? = some t → args[j]? = some v → Value.okWide Tryz.prog W .any base t v := hval0
  have hsz : (DataW.weightsEach Tryz.prog (Tryz.f8.params.toList ++ Rows.recipDerivesSpec.plain.varTypes Tryz.prog) (ds ++ gs)).all (· ≤ reachBytes) = true := hsz0
  have hW' := hW
  obtain ⟨p, q, hA0, hV, rfl, hfz, hnd⟩ := hW
  have hA : DataW.TrodAll enc Tryz.prog W 0 (fun _ => true) true Tryz.f8.params.toList args.toList ds p := hA0
  rw [Tryz.params8] at hA hval hsz
  obtain ⟨v0, vs0, d0, ds0, p0, q0, hargs, rfl, rfl, h0, r0⟩ := trodAll_cons hA
  obtain ⟨rfl, rfl, rfl⟩ := trodAll_nil r0
  obtain rfl : args = #[v0] := by cases args; simp_all
  obtain ⟨rfl, rfl⟩ := trodVars_none hV
  obtain ⟨g00, g01, g02, g03, y00, y01, y02, y03, m0, rfl, rfl, rfl, hy00, hy01, hy02, hy03⟩ := open_agg4 Tryz.underlying36 (by kernel_rfl) cells0 (hval 0 36 v0 rfl rfl) h0
  obtain ⟨a0, e00, rfl, qa0⟩ := DataW.trod_string Tryz.underlying9 hy00
  obtain ⟨b0, e01, rfl, qb0⟩ := DataW.trod_string Tryz.underlying9 hy01
  obtain ⟨c0, e02, rfl, qc0⟩ := DataW.trod_string Tryz.underlying9 hy02
  obtain ⟨d0, e03, rfl, qd0⟩ := DataW.trod_int Tryz.underlying3 hy03
  simp at e00 e01 e02 e03
  subst e00 e01 e02 e03
  have sa0 : a0.size ≤ 140737488351232 := by
    have := List.all_eq_true.1 hsz _ (DataW.weights_mem_each (j := 0) (t := 36) rfl rfl a0.data.toList.length (by simp [DataW.weights, DataW.weightsEach, Tryz.underlying36]))
    have h2 : a0.data.toList.length ≤ reachBytes := of_decide_eq_true this
    rw [Array.length_toList] at h2
    exact h2
  have sb0 : b0.size ≤ 140737488351232 := by
    have := List.all_eq_true.1 hsz _ (DataW.weights_mem_each (j := 0) (t := 36) rfl rfl b0.data.toList.length (by simp [DataW.weights, DataW.weightsEach, Tryz.underlying36]))
    have h2 : b0.data.toList.length ≤ reachBytes := of_decide_eq_true this
    rw [Array.length_toList] at h2
    exact h2
  have sc0 : c0.size ≤ 140737488351232 := by
    have := List.all_eq_true.1 hsz _ (DataW.weights_mem_each (j := 0) (t := 36) rfl rfl c0.data.toList.length (by simp [DataW.weights, DataW.weightsEach, Tryz.underlying36]))
    have h2 : c0.data.toList.length ≤ reachBytes := of_decide_eq_true this
    rw [Array.length_toList] at h2
    exact h2
  have sr0 : ∀ (W2 : World) (bs : Nat) (sp : Nat → Bool) (hd : Bool), DataW.Trod enc Tryz.prog W2 bs sp hd 36 (.agg #[.string a0, .string b0, .string c0, .int .i64 d0]) (.agg [.lit (.string a0.data.toList), .lit (.string b0.data.toList), .lit (.string c0.data.toList), .lit (.int .i64 d0)]) [] := fun W2 bs sp hd =>
    shut_agg4 (y0 := (.lit (.string a0.data.toList), [])) (y1 := (.lit (.string b0.data.toList), [])) (y2 := (.lit (.string c0.data.toList), [])) (y3 := (.lit (.int .i64 d0), [])) Tryz.underlying36 (by kernel_rfl) cells0 ⟨1, by simp [DataW.trod, Tryz.underlying9, qa0]⟩ ⟨1, by simp [DataW.trod, Tryz.underlying9, qb0]⟩ ⟨1, by simp [DataW.trod, Tryz.underlying9, qc0]⟩ ⟨1, by simp [DataW.trod, Tryz.underlying3, qd0]⟩
  have hF := tb_of_laid hL
  clear hA0 hval0
  refine (recipDerives_walk a0 b0 c0 d0 W hF).mono fun e W' ⟨he, bel⟩ => ?_
  subst he
  exact ⟨_, rfl, _, _, _, [], _, [], hW', trodAll_mk1 (shut_bool Tryz.underlying4 _), (trodAll_cons_mk (sr0 _ _ _ _) trodAll_mk0), rfl, bel.frame _, fun h => by cases h⟩

theorem holds : Rows.RecipDerivesSaid :=
  OpenClaim.holds_of_wide 8 Tryz.f8 rfl rfl rfl rfl rfl rfl rfl ⟨rfl, rfl, rfl, rfl, rfl⟩ rfl rfl rfl rfl rfl (by kernel_rfl) Tryz.func8 (by kernel_rfl)
    (of_decide_eq_true (by kernel_rfl)) (by unfold Func.isWrapper; first | (rw [if_pos (by decide +kernel)]; kernel_rfl) | (rw [if_neg (by decide +kernel)]; exact ⟨rfl, rfl⟩))
    (fun os started H enc _ => lifted os started H enc)
theorem proved : Rows.RecipDerivesCardSaid :=
  Claim7.holds_tied_plain_at .later [] [.data, .data] true Rows.recipDerivesCard.stood.harness false
    holds (fun _ h => by cases h) (by kernel_rfl) (fun _ h => by cases h) recipDerives_row_tie rfl ⟨rfl, rfl⟩ (by kernel_rfl) rfl
    (fun f fn hf hfn => by
      obtain rfl : f = 8 := Option.some.inj ((show Tryz.prog.funcNamed "pyxis/pyxislaw22.RecipDerives" = some 8 by kernel_rfl).symm.trans hf) |>.symm
      obtain rfl : fn = Tryz.f8 := (Option.some.inj (Tryz.func8.symm.trans hfn)).symm
      exact ⟨by kernel_rfl, fun j t ht => by
        rw [Tryz.params8] at ht
        have hm : t ∈ [36] := by simpa using Array.mem_of_getElem? ht
        have hall : ([36].all fun u => !Tryz.prog.wantsStandIn u) = true := by kernel_rfl
        exact (show Tryz.prog.wantsStandIn t = false by simpa using List.all_eq_true.1 hall t hm)⟩)
    (by kernel_rfl)
#print axioms proved
end Go.Proofs.YtjlmmlnldjandaaGreatDoor.recipDerives
