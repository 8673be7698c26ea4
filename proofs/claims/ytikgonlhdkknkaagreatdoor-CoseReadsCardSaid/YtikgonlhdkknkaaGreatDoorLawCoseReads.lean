/- The law CoseReads holds for every input: the walk, put into the row's frame; then the card with the table tied to the program's text. -/
import Derived.Test.YtikgonlhdkknkaaGreatDoorCxN
import Derived.Test.YtikgonlhdkknkaaGreatDoorTie
import Derived.Test.YtikgonlhdkknkaaGreatDoorCards
import Derived.Test.YtikgonlhdkknkaaGreatDoorCpV
import Derived.Lay
import Derived.ProofKit
import Derived.OpenShut
import Derived.ShutString
import Derived.ChangeOld
import Derived.SizedLaws
import Derived.LaidMore
import Derived.Stop.Joined
import Derived.SevenTiedAt
import Derived.Lib.SmallJoins
import Derived.Test.YtikgonlhdkknkaaGreatDoorRowG
set_option maxRecDepth 100000
set_option linter.unusedVariables false
set_option linter.unusedSimpArgs false
namespace Go.Proofs.YtikgonlhdkknkaaGreatDoor.coseReads
open Go.ChangeShapes Go.WideShapes Go.ChangeAt Go.WideElems Go.RowKit
open Go.ChangeMaps (open_string shut_string)
open Go.Joins (open_agg2 shut_agg2 open_agg3 shut_agg3 open_agg4 shut_agg4)
theorem own : ownKnob Tryz.prog.godebug = none := by kernel_rfl
theorem cells1 : Tryz.prog.cellsOf 23 = 4 := by kernel_rfl
theorem lifted (os : Os) (started : os.Started) (H : Type) (enc : TypeId × Value → H) :
  ReturnsInHanded {} Tryz.checked os 3 .any (fun w args => (Rows.coseReadsSpec.pre enc Tryz.prog Tryz.f3 [] false w args ∧ laidMetH Tryz.prog Co.laidF w) ∧ sizedMet enc Tryz.prog Tryz.f3 (OpenSpec.ofChange Rows.coseReadsSpec) false w args)
   (Rows.coseReadsSpec.post enc Tryz.prog Tryz.f3 false true false false) := by
 refine returnsInHanded_of_change_and (C := Tryz.checked) (X := fun w _ => laidMetH Tryz.prog Co.laidF w) (fun _ _ _ hh h => h.of_heap hh) own started (by kernel_rfl) Tryz.func3
  (ChangeSpec.witness_shaped (enc := enc) (C := Tryz.checked) (os := os) (X := fun w _ => laidMetH Tryz.prog Co.laidF w) false (World.laidAll Tryz.prog os Co.laidF) #[.string ByteArray.empty, .agg #[.int .i64 0, .int .i64 0, .int .i64 0, .int .i64 0]] 8 rfl (World.shaped_of_RefB (by kernel_rfl) (by kernel_rfl)) (by kernel_rfl) (by kernel_rfl) (by kernel_rfl) (Co.door_met os _)) ?_
 intro W base args ds gs before hval0 hW _ hsz0 hL _
 have hval : ∀ (j : Nat) t v, Tryz.f3.params[j]? = some t → args[j]? = some v → Value.okWide Tryz.prog W .any base t v := hval0
 have hsz : (DataW.weightsEach Tryz.prog (Tryz.f3.params.toList ++ Rows.coseReadsSpec.plain.varTypes Tryz.prog) (ds ++ gs)).all (· ≤ reachBytes) = true := hsz0
 have hW' := hW
 obtain ⟨p, q, hA0, hV, rfl, hfz, hnd⟩ := hW
 have hA : DataW.TrodAll enc Tryz.prog W 0 (fun _ => true) true Tryz.f3.params.toList args.toList ds p := hA0
 rw [Tryz.params3] at hA hval hsz
 obtain ⟨v0, vs0, d0, ds0, p0, q0, hargs, rfl, rfl, h0, r0⟩ := trodAll_cons hA
 obtain ⟨v1, vs1, d1, ds1, p1, q1, rfl, rfl, rfl, h1, r1⟩ := trodAll_cons r0
 obtain ⟨rfl, rfl, rfl⟩ := trodAll_nil r1
 obtain rfl : args = #[v0, v1] := by cases args; simp_all
 obtain ⟨rfl, rfl⟩ := trodVars_none hV
 obtain ⟨a0, rfl, rfl, rfl, w0⟩ := open_string Tryz.underlying9 (hval 0 9 v0 rfl rfl) h0
 have z0 : a0.size ≤ 140737488351232 := by
  have := sized_string hsz (j := 0) (t := 9) rfl rfl
  rw [Array.length_toList] at this
  exact this
 obtain ⟨g10, g11, g12, g13, y10, y11, y12, y13, m1, rfl, rfl, rfl, hy10, hy11, hy12, hy13⟩ := open_agg4 Tryz.underlying23 (by kernel_rfl) cells1 (hval 1 23 v1 rfl rfl) h1
 obtain ⟨a1, e10, rfl, qa1⟩ := DataW.trod_int Tryz.underlying3 hy10
 obtain ⟨b1, e11, rfl, qb1⟩ := DataW.trod_int Tryz.underlying3 hy11
 obtain ⟨c1, e12, rfl, qc1⟩ := DataW.trod_int Tryz.underlying3 hy12
 obtain ⟨d1, e13, rfl, qd1⟩ := DataW.trod_int Tryz.underlying3 hy13
 simp at e10 e11 e12 e13
 subst e10 e11 e12 e13
 have sr1 : ∀ (W2 : World) (bs : Nat) (sp : Nat → Bool) (hd : Bool), DataW.Trod enc Tryz.prog W2 bs sp hd 23 (.agg #[.int .i64 a1, .int .i64 b1, .int .i64 c1, .int .i64 d1]) (.agg [.lit (.int .i64 a1), .lit (.int .i64 b1), .lit (.int .i64 c1), .lit (.int .i64 d1)]) [] := fun W2 bs sp hd =>
  shut_agg4 (y0 := (.lit (.int .i64 a1), [])) (y1 := (.lit (.int .i64 b1), [])) (y2 := (.lit (.int .i64 c1), [])) (y3 := (.lit (.int .i64 d1), [])) Tryz.underlying23 (by kernel_rfl) cells1 ⟨1, by simp [DataW.trod, Tryz.underlying3, qa1]⟩ ⟨1, by simp [DataW.trod, Tryz.underlying3, qb1]⟩ ⟨1, by simp [DataW.trod, Tryz.underlying3, qc1]⟩ ⟨1, by simp [DataW.trod, Tryz.underlying3, qd1]⟩
 have hF := Co.ut_of_laid hL
 clear hA0 hval0
 refine (Ce.coseReads_walk a0 a1 b1 c1 d1 z0 W hF).mono fun e W' ⟨he, bel⟩ => ?_
 subst he
 exact ⟨_, rfl, _, _, _, [], _, [], hW', trodAll_mk1 (shut_bool Tryz.underlying4 _), (trodAll_cons_mk (shut_string Tryz.underlying9 w0) (trodAll_cons_mk (sr1 _ _ _ _) trodAll_mk0)), rfl, bel.frame _, fun h => by cases h⟩
theorem holds : Rows.CoseReadsSaid :=
 OpenClaim.holds_of_wide 3 Tryz.f3 rfl rfl rfl rfl rfl rfl rfl ⟨rfl, rfl, rfl, rfl, rfl⟩ rfl rfl rfl rfl rfl (by kernel_rfl) Tryz.func3 (by kernel_rfl)
  (of_decide_eq_true (by kernel_rfl)) (by unfold Func.isWrapper; first | (rw [if_pos (by decide +kernel)]; kernel_rfl) | (rw [if_neg (by decide +kernel)]; exact ⟨rfl, rfl⟩))
  (fun os started H enc _ => lifted os started H enc)
theorem proved : Rows.CoseReadsCardSaid :=
 Claim7.holds_tied_plain_at .later [] [.data, .pinned] true Rows.coseReadsCard.stood.harness Rows.coseReadsCard.stood.looks
  holds (fun _ h => by cases h) (by kernel_rfl) (fun _ h => by cases h) coseReads_row_tie rfl ⟨rfl, rfl⟩ (by kernel_rfl) rfl
  (fun f fn hf hfn => by
   obtain rfl : f = 3 := Option.some.inj ((show Tryz.prog.funcNamed "pyxis/pyxislaw25.CoseReads" = some 3 by kernel_rfl).symm.trans hf) |>.symm
   obtain rfl : fn = Tryz.f3 := (Option.some.inj (Tryz.func3.symm.trans hfn)).symm
   exact ⟨by kernel_rfl, fun j t ht => by
    rw [Tryz.params3] at ht
    have hm : t ∈ [9, 23] := by simpa using Array.mem_of_getElem? ht
    have hall : ([9, 23].all fun u => !Tryz.prog.wantsStandIn u) = true := by kernel_rfl
    exact (show Tryz.prog.wantsStandIn t = false by simpa using List.all_eq_true.1 hall t hm)⟩)
  (by kernel_rfl)
#print axioms proved
end Go.Proofs.YtikgonlhdkknkaaGreatDoor.coseReads
