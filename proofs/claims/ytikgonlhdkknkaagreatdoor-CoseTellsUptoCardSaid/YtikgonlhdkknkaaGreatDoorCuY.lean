import Derived.Test.YtikgonlhdkknkaaGreatDoorCuV
import Derived.ProofKit
import Derived.OpenShut
import Derived.ShutString
import Derived.SizedLaws
import Derived.SliceStrings
import Derived.Deep.Strs
import Derived.Lib.SmallJoins
set_option maxRecDepth 100000
set_option linter.unusedVariables false
set_option linter.unusedSimpArgs false
namespace Go.Proofs.YtikgonlhdkknkaaGreatDoor
open Go.ChangeShapes Go.WideShapes Go.ChangeAt Go.WideElems Go.RowKit
open Go.Joins
namespace Ce
section
variable {H : Type} {enc : TypeId × Value → H} {P : Program} {w : World} {base : Nat} {spare : Nat → Bool} {held : Bool}
theorem nine_of {α : Type} {cs : Array α} (h : cs.size = 9) : ∃ a b c d e f g i j, cs = #[a, b, c, d, e, f, g, i, j] := by
 obtain ⟨l⟩ := cs
 match l, h with
 | [a, b, c, d, e, f, g, i, j], _ => exact ⟨a, b, c, d, e, f, g, i, j, rfl⟩
theorem trod_nine {t : TypeId} {f0 f1 f2 f3 f4 f5 f6 f7 f8 : Field} {fuel : Nat} {cs : List Value} {x : DataW H × List MemPlace} (ht : P.underlying t = some (.struct #[f0, f1, f2, f3, f4, f5, f6, f7, f8])) (h : DataW.trod enc P w base spare held fuel t cs = some x) :
  ∃ (y0 y1 y2 y3 y4 y5 y6 y7 y8 : DataW H × List MemPlace) (n : Nat), x = (.agg [y0.1, y1.1, y2.1, y3.1, y4.1, y5.1, y6.1, y7.1, y8.1], y0.2 ++ (y1.2 ++ (y2.2 ++ (y3.2 ++ (y4.2 ++ (y5.2 ++ (y6.2 ++ (y7.2 ++ (y8.2))))))))) ∧ cs.length = P.cellsOf t ∧
   (∀ (j : Nat) (f : Field) (y : DataW H × List MemPlace), (#[f0, f1, f2, f3, f4, f5, f6, f7, f8] : Array Field)[j]? = some f → [y0, y1, y2, y3, y4, y5, y6, y7, y8][j]? = some y → DataW.trod enc P w base spare held n f.type ((cs.drop f.offset).take (P.cellsOf f.type)) = some y) := by
 obtain ⟨xs, n, _, rfl, hl, hlen, hf⟩ := DataW.trod_struct ht h
 match xs, hlen with
 | [y0, y1, y2, y3, y4, y5, y6, y7, y8], _ =>
  refine ⟨y0, y1, y2, y3, y4, y5, y6, y7, y8, n, by simp, hl, fun j f y hj hy => ?_⟩
  have hh := hf j f hj
  rw [hy] at hh
  exact hh
end
variable {H : Type} {enc : TypeId × Value → H}
def rpOf (y : DataW H × List MemPlace) : Rp := match y.1 with
 | .agg [.lit (.int _ a), .lit (.int _ b), .lit (.int _ c), .lit (.string d), .lit (.string e), .lit (.string f), .lit (.int _ g), .lit (.string i), .lit (.string j)] => ⟨a, b, c, d, e, f, g, i, j⟩
 | _ => ⟨0, 0, 0, [], [], [], 0, [], []⟩
theorem at_app {w : World} {g o : Nat} {a b : List Value} (h1 : At w g o a) (h2 : At w g (o + a.length) b) : At w g o (a ++ b) := fun j v hv => by
 by_cases h : j < a.length
 ·rw [List.getElem?_append_left h] at hv
  exact h1 j v hv
 ·rw [List.getElem?_append_right (by omega)] at hv
  have := h2 (j - a.length) v hv
  rw [show o + a.length + (j - a.length) = o + j by omega] at this
  exact this
theorem at_eachR {w : World} {g o : Nat} : ∀ (l : List Rp) (i0 : Nat), (∀ i n, l[i]? = some n → At w g (o + (i0 + i) * 9) (rpv n)) → At w g (o + i0 * 9) (rpcells l)
 | [], i0, _ => fun j v hv => by simp [rpcells] at hv
 | a :: l, i0, h => by
  rw [show rpcells (a :: l) = rpv a ++ rpcells l from rfl]
  refine at_app (by have := h 0 a rfl; rw [Nat.add_zero] at this; exact this) ?_
  have h2 := at_eachR l (i0 + 1) (fun i n hn => by
   have := h (i + 1) n hn
   rw [show i0 + (i + 1) = i0 + 1 + i by omega] at this
   exact this)
  rw [show (rpv a).length = 9 from rfl, show o + i0 * 9 + 9 = o + (i0 + 1) * 9 by omega]
  exact h2
theorem cellsI2 : Tryz.prog.cellsOf 3 = 1 := by kernel_rfl
theorem cellsS2 : Tryz.prog.cellsOf 9 = 1 := by kernel_rfl
theorem cellsL2 : Tryz.prog.cellsOf 25 = 1 := by kernel_rfl
theorem open_rp {W : World} {n : Nat} {a : Addr} {y : DataW H × List MemPlace} (h : (W.cells? 0 a 9).bind (DataW.trod enc Tryz.prog W 0 (fun _ => true) true n 57) = some y) :
  ∀ j v, (rpv (rpOf y))[j]? = some v → W.cell? (a.add j) = some v := by
 rw [Option.bind_eq_some_iff] at h
 obtain ⟨cs, h1, h2⟩ := h
 obtain ⟨_, hl, hc⟩ := World.cells?_some h1
 obtain ⟨y0, y1, y2, y3, y4, y5, y6, y7, y8, m, rfl, _, hh⟩ := trod_nine Tryz.underlying57 h2
 match cs, hl with
 | [c0, c1, c2, c3, c4, c5, c6, c7, c8], _ =>
  obtain ⟨a0, e0, rfl, q0⟩ := DataW.trod_int (k := .i64) Tryz.underlying3 (hh 0 _ y0 rfl rfl)
  obtain ⟨a1, e1, rfl, q1⟩ := DataW.trod_int (k := .i64) Tryz.underlying3 (hh 1 _ y1 rfl rfl)
  obtain ⟨a2, e2, rfl, q2⟩ := DataW.trod_int (k := .i64) Tryz.underlying3 (hh 2 _ y2 rfl rfl)
  obtain ⟨a3, e3, rfl, q3⟩ := DataW.trod_string Tryz.underlying9 (hh 3 _ y3 rfl rfl)
  obtain ⟨a4, e4, rfl, q4⟩ := DataW.trod_string Tryz.underlying9 (hh 4 _ y4 rfl rfl)
  obtain ⟨a5, e5, rfl, q5⟩ := DataW.trod_string Tryz.underlying9 (hh 5 _ y5 rfl rfl)
  obtain ⟨a6, e6, rfl, q6⟩ := DataW.trod_int (k := .i64) Tryz.underlying3 (hh 6 _ y6 rfl rfl)
  obtain ⟨a7, e7, rfl, q7⟩ := DataW.trod_string Tryz.underlying9 (hh 7 _ y7 rfl rfl)
  obtain ⟨a8, e8, rfl, q8⟩ := DataW.trod_string Tryz.underlying9 (hh 8 _ y8 rfl rfl)
  simp [cellsI2, cellsS2] at e0 e1 e2 e3 e4 e5 e6 e7 e8
  subst e0 e1 e2 e3 e4 e5 e6 e7 e8
  intro j v hv
  have hj : j < 9 := (List.getElem?_eq_some_iff.1 hv).1
  rw [hc j hj]
  exact hv
theorem cellsRp : Tryz.prog.cellsOf 57 = 9 := by kernel_rfl
theorem bytesRp : Tryz.prog.bytesOf 57 = 112 := by kernel_rfl
theorem open_rps {W : World} {fuel : Nat} {v : Value} {d : DataW H} {p : List MemPlace} (hf : DataW.trod enc Tryz.prog W 0 (fun _ => true) true fuel 25 [v] = some (d, p))
  (hlt : ∀ x ∈ p, x.block < W.heap.size) (hfz : ∀ b off, MemPlace.cell b off ∈ p → W.frozen? ⟨b, off, none⟩ = false) (hsz : ∀ x ∈ d.weights Tryz.prog 25, x ≤ 140737488351232) :
  ∃ l : List Rp, Ty W v l ∧ l.length * 112 ≤ 140737488351232 := by
 rcases DataW.trod_slice Tryz.underlying25 hf with ⟨hcs, hx⟩ | ⟨A, len', cap', E, R, n, _, hcs, hx, _, hl, hm, hE, hel, hsp, _⟩
 ·simp at hcs
  subst hcs
  exact ⟨[], ⟨none, 0, rfl, fun h => absurd rfl h⟩, by simp⟩
 ·simp at hcs
  subst hcs
  simp only [Prod.mk.injEq] at hx
  obtain ⟨rfl, rfl⟩ := hx
  rw [cellsRp] at hel
  have each : ∀ i y, E[i]? = some y → (∀ j v, (rpv (rpOf y))[j]? = some v → W.cell? ((A.add (i * 9)).add j) = some v) := fun i y hy => by
   have hi : i < len' := by rw [← hE]; exact (List.getElem?_eq_some_iff.1 hy).1
   exact open_rp (by rw [hel i hi, hy])
  have hwl : (E.length + R.length) * 112 ≤ 140737488351232 := by
   refine hsz _ ?_
   simp only [DataW.weights, Tryz.underlying25, List.length_map, bytesRp, List.mem_cons]
   first | exact .inl rfl | exact .inl trivial
  refine ⟨E.map rpOf, ?_, by rw [List.length_map]; omega⟩
  refine ⟨some A, cap', by rw [List.length_map, hE], fun h0 => ?_⟩
  have h1 : 0 < E.length := by
   refine List.length_pos_iff.2 fun h => h0 ?_
   rw [h]; rfl
  obtain ⟨b, off, spot⟩ := A
  have hspot : spot = none := by
   obtain ⟨y, hy⟩ : ∃ y, E[0]? = some y := ⟨E[0], List.getElem?_eq_getElem h1⟩
   have h2 := each 0 y hy 0 _ rfl
   simpa [Addr.add] using World.cell?_spot h2
  subst hspot
  have hmem : ∀ j, j < (E.length + R.length) * 9 → MemPlace.cell b (off + j) ∈ MemPlace.row ⟨b, off, none⟩ ((E.length + R.length) * Tryz.prog.cellsOf 57) ++ (E ++ R).flatMap (·.2) := fun j hj =>
   List.mem_append.2 (.inl (MemPlace.mem_row.2 ⟨j, by rw [cellsRp]; exact hj, rfl⟩))
  refine ⟨b, off, rfl, ?_, hlt _ (hmem 0 (by omega))⟩
  have h3 := at_eachR (w := W) (g := b) (o := off) (E.map rpOf) 0 (fun i nd hn => by
   rw [List.getElem?_map] at hn
   obtain ⟨y, hy, rfl⟩ := Option.map_eq_some_iff.1 hn
   have hi : i < E.length := (List.getElem?_eq_some_iff.1 hy).1
   rw [Nat.zero_add]
   intro j v hv
   have hj : j < 9 := (List.getElem?_eq_some_iff.1 hv).1
   have h4 := each i y hy j v hv
   have h5 : (((⟨b, off, none⟩ : Addr).add (i * 9)).add j) = ⟨b, off + i * 9 + j, none⟩ := by
    unfold Addr.add
    split <;> split <;> simp_all
   rw [h5] at h4
   refine ⟨h4, ?_⟩
   have h6 := hmem (i * 9 + j) (by omega)
   rw [← Nat.add_assoc] at h6
   exact hfz _ _ h6)
  rw [Nat.zero_mul, Nat.add_zero] at h3
  exact h3
theorem open_env {W : World} {r : Reach} {b0 : Nat} {v : Value} {d : DataW H} {p : List MemPlace} (hv : Value.okWide Tryz.prog W r b0 27 v) (h : DataW.Trod enc Tryz.prog W 0 (fun _ => true) true 27 v d p)
  (hlt : ∀ x ∈ p, x.block < W.heap.size) (hfz : ∀ b off, MemPlace.cell b off ∈ p → W.frozen? ⟨b, off, none⟩ = false) (hsz : ∀ x ∈ d.weights Tryz.prog 27, x ≤ 140737488351232) :
  ∃ (x : Ev) (vx : Value) (dT : DataW H), v = evv x vx ∧ Ty W vx x.rcs ∧ x.rcs.length * 112 ≤ 140737488351232 ∧ x.header.length ≤ 140737488351232 ∧ x.loose.length ≤ 140737488351232 ∧ x.aad.length ≤ 140737488351232 ∧ x.iv.length ≤ 140737488351232 ∧ x.cipher.length ≤ 140737488351232 ∧ x.tag.length ≤ 140737488351232 ∧
   d = .agg [.lit (.int .i64 x.format), .lit (.int .i64 x.alg), dT, .lit (.string x.header), .lit (.string x.loose), .lit (.string x.aad), .lit (.string x.iv), .lit (.string x.cipher), .lit (.string x.tag)] := by
 obtain ⟨cs, rfl, hs⟩ := okWide_struct Tryz.underlying27 hv
 obtain ⟨c0, c1, c2, c3, c4, c5, c6, c7, c8, rfl⟩ := nine_of (hs.trans (by kernel_rfl))
 obtain ⟨fuel, hf⟩ := h
 obtain ⟨y0, y1, y2, y3, y4, y5, y6, y7, y8, m, hx, _, hh⟩ := trod_nine Tryz.underlying27 hf
 simp only [Prod.mk.injEq] at hx
 obtain ⟨rfl, rfl⟩ := hx
 obtain ⟨a0, e0, rfl, q0⟩ := DataW.trod_int (k := .i64) Tryz.underlying3 (hh 0 _ y0 rfl rfl)
 obtain ⟨a1, e1, rfl, q1⟩ := DataW.trod_int (k := .i64) Tryz.underlying3 (hh 1 _ y1 rfl rfl)
 obtain ⟨a3, e3, rfl, q3⟩ := DataW.trod_string Tryz.underlying9 (hh 3 _ y3 rfl rfl)
 obtain ⟨a4, e4, rfl, q4⟩ := DataW.trod_string Tryz.underlying9 (hh 4 _ y4 rfl rfl)
 obtain ⟨a5, e5, rfl, q5⟩ := DataW.trod_string Tryz.underlying9 (hh 5 _ y5 rfl rfl)
 obtain ⟨a6, e6, rfl, q6⟩ := DataW.trod_string Tryz.underlying9 (hh 6 _ y6 rfl rfl)
 obtain ⟨a7, e7, rfl, q7⟩ := DataW.trod_string Tryz.underlying9 (hh 7 _ y7 rfl rfl)
 obtain ⟨a8, e8, rfl, q8⟩ := DataW.trod_string Tryz.underlying9 (hh 8 _ y8 rfl rfl)
 have k2 := hh 2 _ y2 rfl rfl
 simp [Value.cells, cellsL2] at k2
 simp [Value.cells, cellsI2, cellsS2] at e0 e1 e3 e4 e5 e6 e7 e8
 subst e0 e1 e3 e4 e5 e6 e7 e8
 have hw : ∀ x ∈ y2.1.weights Tryz.prog 25, x ≤ 140737488351232 := fun x hx => hsz x (by
  simp only [DataW.weights, Tryz.underlying27, DataW.weightsEach, List.map_cons, List.map_nil, List.mem_append]
  simp [DataW.weightsEach, DataW.weights, hx])
 obtain ⟨l, hT, hn⟩ := open_rps (d := y2.1) (p := y2.2) k2 (fun x hx => hlt x (by simp [hx])) (fun b off hx => hfz b off (by simp [hx])) hw
 refine ⟨⟨a0, a1, l, a3.data.toList, a4.data.toList, a5.data.toList, a6.data.toList, a7.data.toList, a8.data.toList⟩, c2, y2.1, rfl, hT, hn, ?_, ?_, ?_, ?_, ?_, ?_, rfl⟩
 all_goals
  refine hsz _ ?_
  simp [DataW.weights, Tryz.underlying27, DataW.weightsEach]
end Ce
end Go.Proofs.YtikgonlhdkknkaaGreatDoor
