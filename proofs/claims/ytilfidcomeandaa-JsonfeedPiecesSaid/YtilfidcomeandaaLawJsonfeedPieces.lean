/- The law JsonfeedPieces holds for every input: the walk, put into the row's frame. -/
import Derived.Test.YtilfidcomeandaaJfQ
import Derived.ProofKit
import Derived.OpenShut
import Derived.ShutString
import Derived.ChangeOld
import Derived.SizedLaws
import Derived.Lib.SmallJoins
import Derived.SliceStrings
import Derived.Carry
namespace Go.Proofs.Ytilfidcomeandaa.jsonfeedPieces
open Go.ChangeShapes Go.WideShapes Go.ChangeAt Go.WideElems Go.RowKit
open Go.ChangeMaps (open_string shut_string)
open Go.Joins (open_agg2 shut_agg2 open_agg3 shut_agg3 open_agg4 shut_agg4)
set_option linter.unusedVariables false
theorem own : ownKnob Try.prog.godebug = none := by kernel_rfl
theorem laidOut : laidOutB Try.prog = true := by kernel_rfl
theorem cellsS : Try.prog.cellsOf 9 = 1 := by kernel_rfl
theorem add_plainF (b off j : Nat) : (⟨b, off, none⟩ : Addr).add j = ⟨b, off + j, none⟩ := by unfold Addr.add; split <;> simp_all
theorem cells1 : Try.prog.cellsOf 24 = 4 := by kernel_rfl
set_option maxRecDepth 100000 in
theorem lifted (os : Os) (started : os.Started) (H : Type) (enc : TypeId × Value → H) :
    ReturnsInHanded {} Try.checked os 3 .any (Rows.jsonfeedPiecesSpec.pre6 enc Try.prog Try.f3 Rows.jsonfeedPiecesRow.domain false) (Rows.jsonfeedPiecesSpec.post enc Try.prog Try.f3 false true false false) := by
  refine returnsInHanded_of_change_sized (C := Try.checked) own started (by kernel_rfl) Try.func3
    (ChangeSpec.witness6 (enc := enc) (C := Try.checked) false ⟨#[], #[.slice none 0 0, .agg #[.int .i64 0, .int .i64 0, .int .i64 0, .int .i64 0]], []⟩ 8 (by kernel_rfl) (by kernel_rfl) (by kernel_rfl) (by kernel_rfl)) ?_
  intro W base args ds gs before hval0 hW hcnd hsz0 _
  have hval : ∀ (j : Nat) t v, Try.f3.params[j]? = some t → args[j]? = some v → Value.okWide Try.prog W .any base t v := hval0
  have hsz : (DataW.weightsEach Try.prog (Try.f3.params.toList ++ Rows.jsonfeedPiecesSpec.plain.varTypes Try.prog) (ds ++ gs)).all (· ≤ reachBytes) = true := hsz0
  have hW' := hW
  obtain ⟨p, q, hA0, hV, rfl, hfz, hnd⟩ := hW
  have hA : DataW.TrodAll enc Try.prog W 0 (fun _ => true) true Try.f3.params.toList args.toList ds p := hA0
  rw [Try.params3] at hA hval hsz
  obtain ⟨v0, vs0, d0, ds0, p0, q0, hargs, rfl, rfl, h0, r0⟩ := trodAll_cons hA
  obtain ⟨v1, vs1, d1, ds1, p1, q1, rfl, rfl, rfl, h1, r1⟩ := trodAll_cons r0
  obtain ⟨rfl, rfl, rfl⟩ := trodAll_nil r1
  obtain rfl : args = #[v0, v1] := by cases args; simp_all
  obtain ⟨rfl, rfl⟩ := trodVars_none hV
  obtain ⟨a0, len, cap, rfl⟩ := okWide_slice Try.underlying22 (hval 0 22 v0 rfl rfl)
  have h0k := h0
  obtain ⟨fuel, hf⟩ := h0
  have hlt : ∀ x ∈ p0, x.block < W.heap.size := fun x hx => by
    have := hW'.lt x (by simp [hx])
    simpa using this
  obtain ⟨g10, g11, g12, g13, y10, y11, y12, y13, m1, rfl, rfl, rfl, hy10, hy11, hy12, hy13⟩ := open_agg4 Try.underlying24 (by kernel_rfl) cells1 (hval 1 24 v1 rfl rfl) h1
  obtain ⟨a1, e10, rfl, qa1⟩ := DataW.trod_int Try.underlying3 hy10
  obtain ⟨b1, e11, rfl, qb1⟩ := DataW.trod_int Try.underlying3 hy11
  obtain ⟨c1, e12, rfl, qc1⟩ := DataW.trod_int Try.underlying3 hy12
  obtain ⟨d1, e13, rfl, qd1⟩ := DataW.trod_int Try.underlying3 hy13
  simp at e10 e11 e12 e13
  subst e10 e11 e12 e13
  have sr1 : ∀ (W2 : World) (bs : Nat) (sp : Nat → Bool) (hd : Bool), DataW.Trod enc Try.prog W2 bs sp hd 24 (.agg #[.int .i64 a1, .int .i64 b1, .int .i64 c1, .int .i64 d1]) (.agg [.lit (.int .i64 a1), .lit (.int .i64 b1), .lit (.int .i64 c1), .lit (.int .i64 d1)]) [] := fun W2 bs sp hd =>
    shut_agg4 (y0 := (.lit (.int .i64 a1), [])) (y1 := (.lit (.int .i64 b1), [])) (y2 := (.lit (.int .i64 c1), [])) (y3 := (.lit (.int .i64 d1), [])) Try.underlying24 (by kernel_rfl) cells1 ⟨1, by simp [DataW.trod, Try.underlying3, qa1]⟩ ⟨1, by simp [DataW.trod, Try.underlying3, qb1]⟩ ⟨1, by simp [DataW.trod, Try.underlying3, qc1]⟩ ⟨1, by simp [DataW.trod, Try.underlying3, qd1]⟩
  clear hA0 hval0
  have fin : ∀ (ss : List ByteArray) (hT : Jn.TextsF W a0 len ss), Calls Try.checked.prog 3 #[.slice a0 len cap, .agg #[.int .i64 a1, .int .i64 b1, .int .i64 c1, .int .i64 d1]] W fun e W' => ∃ v, e = Ending.returned v ∧ Rows.jsonfeedPiecesSpec.post enc Try.checked.prog Try.f3 false true false false W #[.slice a0 len cap, .agg #[.int .i64 a1, .int .i64 b1, .int .i64 c1, .int .i64 d1]] v W' := by
    intro ss hT
    refine (Jn.jsonfeedPieces_walk a0 len cap ss a1 b1 c1 d1 W hT).mono fun e W' ⟨he, bel⟩ => ?_
    subst he
    exact ⟨_, rfl, _, _, _, [], _, [], hW', trodAll_mk1 (shut_bool Try.underlying4 _), (trodAll_cons_mk (Below.trod laidOut (by kernel_rfl) (of_decide_eq_true (by kernel_rfl)) h0k bel hlt) (trodAll_cons_mk (sr1 _ _ _ _) trodAll_mk0)), rfl, bel.frame _, fun h => by cases h⟩
  rcases open_strings Try.underlying22 Try.underlying9 cellsS hf with ⟨hcs, hx⟩ | ⟨a, len', cap', ss, hcs, _, hl, hm, hz, hx, hcell, hws⟩
  · simp [Value.cells] at hcs
    obtain ⟨rfl, rfl, rfl⟩ := hcs
    exact fin [] ⟨fun h => absurd h (by decide)⟩
  · simp [Value.cells] at hcs
    obtain ⟨rfl, rfl, rfl⟩ := hcs
    simp only [Prod.mk.injEq] at hx
    obtain ⟨rfl, rfl⟩ := hx
    simp only [if_true] at hz
    refine fin ss ⟨fun h0 => ?_⟩
    obtain ⟨b, off, spot⟩ := a
    have hspot : spot = none := by simpa [Addr.add] using World.cell?_spot (hcell 0 (by omega))
    subst hspot
    exact ⟨b, off, rfl, hlt (.cell b off) (MemPlace.mem_row.2 ⟨0, by omega, by simp⟩), fun j hj => by rw [← add_plainF]; exact hcell j (by omega)⟩

theorem proved : Rows.JsonfeedPiecesSaid :=
  OpenClaim.holds_of_wide 3 Try.f3 rfl rfl rfl rfl rfl rfl rfl ⟨rfl, rfl, rfl, rfl, rfl⟩ rfl rfl rfl rfl rfl (by kernel_rfl) Try.func3 (by kernel_rfl)
    (of_decide_eq_true (by kernel_rfl)) (by unfold Func.isWrapper; first | (rw [if_pos (by decide +kernel)]; kernel_rfl) | (rw [if_neg (by decide +kernel)]; exact ⟨rfl, rfl⟩))
    (fun os started H enc _ => lifted os started H enc)
#print axioms proved
end Go.Proofs.Ytilfidcomeandaa.jsonfeedPieces
