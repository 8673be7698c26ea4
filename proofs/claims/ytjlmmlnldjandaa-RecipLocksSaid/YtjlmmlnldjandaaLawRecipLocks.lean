/- The law RecipLocks holds for every input: the walk, put into the row's frame. -/
import Derived.Test.YtjlmmlnldjandaaRcF
import Derived.ProofKit
import Derived.OpenShut
import Derived.ShutString
import Derived.ChangeOld
import Derived.SizedLaws
import Derived.Lib.SmallJoins
namespace Go.Proofs.Ytjlmmlnldjandaa.recipLocks
open Go.ChangeShapes Go.WideShapes Go.ChangeAt Go.RowKit
open Go.ChangeMaps (open_string shut_string)
open Go.Joins (open_agg2 shut_agg2 open_agg3 shut_agg3 open_agg4 shut_agg4)
set_option linter.unusedVariables false
theorem own : ownKnob Try.prog.godebug = none := by kernel_rfl
theorem cells0 : Try.prog.cellsOf 34 = 4 := by kernel_rfl
set_option maxRecDepth 100000 in
theorem lifted (os : Os) (started : os.Started) (H : Type) (enc : TypeId × Value → H) :
    ReturnsInHanded {} Try.checked os 5 .any (Rows.recipLocksSpec.pre6 enc Try.prog Try.f5 Rows.recipLocksRow.domain false) (Rows.recipLocksSpec.post enc Try.prog Try.f5 false true false false) := by
  refine returnsInHanded_of_change_sized (C := Try.checked) own started (by kernel_rfl) Try.func5
    (ChangeSpec.witness6 (enc := enc) (C := Try.checked) false ⟨#[], #[.agg #[.string ByteArray.empty, .string ByteArray.empty, .string ByteArray.empty, .string ByteArray.empty]], []⟩ 8 (by kernel_rfl) (by kernel_rfl) (by kernel_rfl) (by kernel_rfl)) ?_
  intro W base args ds gs before hval0 hW hcnd hsz0 _
  have hval : ∀ (j : Nat) t v, Try.f5.params[j]? = some t → args[j]? = some v → Value.okWide Try.prog W .any base t v := hval0
  have hsz : (DataW.weightsEach Try.prog (Try.f5.params.toList ++ Rows.recipLocksSpec.plain.varTypes Try.prog) (ds ++ gs)).all (· ≤ reachBytes) = true := hsz0
  have hW' := hW
  obtain ⟨p, q, hA0, hV, rfl, hfz, hnd⟩ := hW
  have hA : DataW.TrodAll enc Try.prog W 0 (fun _ => true) true Try.f5.params.toList args.toList ds p := hA0
  rw [Try.params5] at hA hval hsz
  obtain ⟨v0, vs0, d0, ds0, p0, q0, hargs, rfl, rfl, h0, r0⟩ := trodAll_cons hA
  obtain ⟨rfl, rfl, rfl⟩ := trodAll_nil r0
  obtain rfl : args = #[v0] := by cases args; simp_all
  obtain ⟨rfl, rfl⟩ := trodVars_none hV
  obtain ⟨g00, g01, g02, g03, y00, y01, y02, y03, m0, rfl, rfl, rfl, hy00, hy01, hy02, hy03⟩ := open_agg4 Try.underlying34 (by kernel_rfl) cells0 (hval 0 34 v0 rfl rfl) h0
  obtain ⟨a0, e00, rfl, qa0⟩ := DataW.trod_string Try.underlying9 hy00
  obtain ⟨b0, e01, rfl, qb0⟩ := DataW.trod_string Try.underlying9 hy01
  obtain ⟨c0, e02, rfl, qc0⟩ := DataW.trod_string Try.underlying9 hy02
  obtain ⟨d0, e03, rfl, qd0⟩ := DataW.trod_string Try.underlying9 hy03
  simp at e00 e01 e02 e03
  subst e00 e01 e02 e03
  have sr0 : ∀ (W2 : World) (bs : Nat) (sp : Nat → Bool) (hd : Bool), DataW.Trod enc Try.prog W2 bs sp hd 34 (.agg #[.string a0, .string b0, .string c0, .string d0]) (.agg [.lit (.string a0.data.toList), .lit (.string b0.data.toList), .lit (.string c0.data.toList), .lit (.string d0.data.toList)]) [] := fun W2 bs sp hd =>
    shut_agg4 (y0 := (.lit (.string a0.data.toList), [])) (y1 := (.lit (.string b0.data.toList), [])) (y2 := (.lit (.string c0.data.toList), [])) (y3 := (.lit (.string d0.data.toList), [])) Try.underlying34 (by kernel_rfl) cells0 ⟨1, by simp [DataW.trod, Try.underlying9, qa0]⟩ ⟨1, by simp [DataW.trod, Try.underlying9, qb0]⟩ ⟨1, by simp [DataW.trod, Try.underlying9, qc0]⟩ ⟨1, by simp [DataW.trod, Try.underlying9, qd0]⟩
  clear hA0 hval0
  refine (recipLocks_walk a0 b0 c0 d0 W).mono fun e W' ⟨he, bel⟩ => ?_
  subst he
  exact ⟨_, rfl, _, _, _, [], _, [], hW', trodAll_mk1 (shut_bool Try.underlying4 _), (trodAll_cons_mk (sr0 _ _ _ _) trodAll_mk0), rfl, bel.frame _, fun h => by cases h⟩

theorem proved : Rows.RecipLocksSaid :=
  OpenClaim.holds_of_wide 5 Try.f5 rfl rfl rfl rfl rfl rfl rfl ⟨rfl, rfl, rfl, rfl, rfl⟩ rfl rfl rfl rfl rfl (by kernel_rfl) Try.func5 (by kernel_rfl)
    (of_decide_eq_true (by kernel_rfl)) (by unfold Func.isWrapper; first | (rw [if_pos (by decide +kernel)]; kernel_rfl) | (rw [if_neg (by decide +kernel)]; exact ⟨rfl, rfl⟩))
    (fun os started H enc _ => lifted os started H enc)
#print axioms proved
end Go.Proofs.Ytjlmmlnldjandaa.recipLocks
