/- A list of atoms that one is handed, in the row's words: what lies in memory. -/
import Derived.Test.YteanipjgpekncaaDoorCpX
import Derived.ProofKit
import Derived.OpenShut
import Derived.ShutString
import Derived.SizedLaws
import Derived.SliceStrings
import Derived.Deep.Strs
namespace Go.Proofs.YteanipjgpekncaaDoor
open Go.ChangeShapes Go.WideShapes Go.ChangeAt Go.WideElems Go.RowKit
open Go.Deep (trod_struct3)
set_option linter.unusedVariables false
set_option linter.unusedSimpArgs false
namespace Co
open Dr (Rs Lm has lack at0S)
variable {H : Type} {enc : TypeId × Value → H}
def raOf (y : DataW H × List MemPlace) : Ra := match y.1 with
  | .agg [.lit (.int _ t), .lit (.int _ k), .lit (.string b)] => ⟨t, k.toNat, b⟩
  | _ => ⟨0, 0, []⟩
theorem At.app {w : World} {g o : Nat} {a b : List Value} (h1 : At w g o a) (h2 : At w g (o + a.length) b) : At w g o (a ++ b) := fun j v hv => by
  by_cases h : j < a.length
  · rw [List.getElem?_append_left h] at hv
    exact h1 j v hv
  · rw [List.getElem?_append_right (by omega)] at hv
    have := h2 (j - a.length) v hv
    rw [show o + a.length + (j - a.length) = o + j by omega] at this
    exact this
theorem at_each {w : World} {g o : Nat} : ∀ (l : List Ra) (i0 : Nat), (∀ i n, l[i]? = some n → At w g (o + (i0 + i) * 3) (rv n)) → At w g (o + i0 * 3) (rcells l)
  | [], i0, _ => fun j v hv => by simp [rcells] at hv
  | a :: l, i0, h => by
    rw [show rcells (a :: l) = rv a ++ rcells l from rfl]
    refine At.app (by have := h 0 a rfl; rw [Nat.add_zero] at this; exact this) ?_
    have h2 := at_each l (i0 + 1) (fun i n hn => by
      have := h (i + 1) n hn
      rw [show i0 + (i + 1) = i0 + 1 + i by omega] at this
      exact this)
    rw [show (rv a).length = 3 from rfl, show o + i0 * 3 + 3 = o + (i0 + 1) * 3 by omega]
    exact h2
theorem cellsI1 : Tryd.prog.cellsOf 3 = 1 := by kernel_rfl
theorem cellsS1 : Tryd.prog.cellsOf 9 = 1 := by kernel_rfl
theorem u64_of_wf2 {a : Int} (h : (Lit.int .u64 a).wf = true) : ∃ n : Nat, a = (n : Int) ∧ n < 18446744073709551616 := by
  obtain ⟨n, h1, h2⟩ := u64_of_wf h
  exact ⟨n, h1, h2⟩
theorem cellsU1 : Tryd.prog.cellsOf 58 = 1 := by kernel_rfl
set_option maxRecDepth 100000 in
theorem open_atom {W : World} {n : Nat} {a : Addr} {y : DataW H × List MemPlace} (h : (W.cells? 0 a 3).bind (DataW.trod enc Tryd.prog W 0 (fun _ => true) true n 75) = some y) :
    (∀ j v, (rv (raOf y))[j]? = some v → W.cell? (a.add j) = some v) ∧ (raOf y).num < 18446744073709551616 ∧ y.1 = .agg [.lit (.int .i64 (raOf y).kind), .lit (.int .u64 ((raOf y).num : Int)), .lit (.string (raOf y).text)] := by
  rw [Option.bind_eq_some_iff] at h
  obtain ⟨cs, h1, h2⟩ := h
  obtain ⟨_, hl, hc⟩ := World.cells?_some h1
  obtain ⟨y0, y1, y2, m, rfl, _, k0, k1, k2⟩ := trod_struct3 Tryd.underlying75 h2
  match cs, hl with
  | [c0, c1, c2], _ =>
    obtain ⟨t, e0, rfl, q0⟩ := DataW.trod_int (k := .i64) Tryd.underlying3 k0
    obtain ⟨k, e1, rfl, q1⟩ := DataW.trod_int (k := .u64) Tryd.underlying58 k1
    obtain ⟨b, e2, rfl, q2⟩ := DataW.trod_string Tryd.underlying9 k2
    simp [cellsU1, cellsI1, cellsS1] at e0 e1 e2
    subst e0 e1 e2
    obtain ⟨k', rfl, hk'⟩ := u64_of_wf2 q1
    have hnd : raOf (H := H) (.agg [(.lit (.int .i64 t) : DataW H), .lit (.int .u64 (k' : Int)), .lit (.string b.data.toList)], ([] : List MemPlace) ++ ([] ++ [])) = ⟨t, k', b.data.toList⟩ := rfl
    rw [hnd]
    refine ⟨fun j v hv => ?_, hk', rfl⟩
    have hj : j < 3 := (List.getElem?_eq_some_iff.1 hv).1
    rw [hc j hj]
    have : (rv ⟨t, k', b.data.toList⟩) = [.int .i64 t, .int .u64 (k' : Int), .string b] := rfl
    rw [← this]
    exact hv
theorem weightsAll_mem2 {P : Program} {e : TypeId} : ∀ {l : List (DataW H)} {d : DataW H}, d ∈ l → ∀ n ∈ d.weights P e, n ∈ DataW.weightsAll P e l
  | a :: l, d, h, n, hn => by
    rw [DataW.weightsAll, List.mem_append]
    rcases List.mem_cons.1 h with rfl | h
    · exact .inl hn
    · exact .inr (weightsAll_mem2 h n hn)
theorem cellsAt : Tryd.prog.cellsOf 75 = 3 := by kernel_rfl
theorem bytesAt : Tryd.prog.bytesOf 75 = 32 := by kernel_rfl
set_option maxRecDepth 100000 in
theorem open_atoms {W : World} {fuel : Nat} {a : Option Addr} {len cap : Nat} {d : DataW H} {p : List MemPlace} (hf : DataW.trod enc Tryd.prog W 0 (fun _ => true) true fuel 25 (Value.slice a len cap).cells.toList = some (d, p))
    (hlt : ∀ x ∈ p, x.block < W.heap.size) (hfz : ∀ b off, MemPlace.cell b off ∈ p → W.frozen? ⟨b, off, none⟩ = false) (hsz : ∀ x ∈ d.weights Tryd.prog 25, x ≤ 140737488351232) :
    ∃ l : List Ra, SrO W (.slice a len cap) l ∧ (∀ n ∈ l, n.num < 18446744073709551616) ∧ (∀ n ∈ l, n.text.length ≤ 140737488351232) ∧ l.length = len ∧ len * 32 ≤ 140737488351232 := by
  rcases DataW.trod_slice Tryd.underlying25 hf with ⟨hcs, hx⟩ | ⟨A, len', cap', E, R, n, _, hcs, hx, _, hl, hm, hE, hel, hsp, _⟩
  · simp [Value.cells] at hcs
    obtain ⟨rfl, rfl, rfl⟩ := hcs
    exact ⟨[], ⟨none, 0, rfl, fun h => absurd rfl h⟩, (fun n hn => (List.not_mem_nil hn).elim), (fun n hn => (List.not_mem_nil hn).elim), rfl, by omega⟩
  · simp [Value.cells] at hcs
    obtain ⟨rfl, rfl, rfl⟩ := hcs
    simp only [Prod.mk.injEq] at hx
    obtain ⟨rfl, rfl⟩ := hx
    rw [cellsAt] at hel
    have each : ∀ i y, E[i]? = some y → (∀ j v, (rv (raOf y))[j]? = some v → W.cell? ((A.add (i * 3)).add j) = some v) ∧ (raOf y).num < 18446744073709551616 ∧ y.1 = .agg [.lit (.int .i64 (raOf y).kind), .lit (.int .u64 ((raOf y).num : Int)), .lit (.string (raOf y).text)] := fun i y hy => by
      have hi : i < len := by rw [← hE]; exact (List.getElem?_eq_some_iff.1 hy).1
      exact open_atom (by rw [hel i hi, hy])
    have hwl : (E.length + R.length) * 32 ≤ 140737488351232 := by
      refine hsz _ ?_
      simp only [DataW.weights, Tryd.underlying25, List.length_map, bytesAt, List.mem_cons]
      first | exact .inl rfl | exact .inl trivial
    have hbody : ∀ y ∈ E, (raOf y).text.length ≤ 140737488351232 := fun y hy => by
      obtain ⟨i, hi⟩ := List.getElem?_of_mem hy
      obtain ⟨_, _, h4⟩ := each i y hi
      refine hsz _ ?_
      simp only [DataW.weights, Tryd.underlying25, List.mem_cons, List.mem_append]
      refine .inr (.inl (weightsAll_mem2 (d := y.1) (List.mem_map.2 ⟨y, hy, rfl⟩) _ ?_))
      rw [h4]
      simp [DataW.weights, DataW.weightsEach, Tryd.underlying75]
    refine ⟨E.map raOf, ?_, ?_, ?_, by rw [List.length_map, hE], by rw [← hE]; omega⟩
    · refine ⟨some A, cap, by rw [List.length_map, hE], fun h0 => ?_⟩
      have h1 : 0 < E.length := by
        refine List.length_pos_iff.2 fun h => h0 ?_
        rw [h]; rfl
      obtain ⟨b, off, spot⟩ := A
      have hspot : spot = none := by
        obtain ⟨y, hy⟩ : ∃ y, E[0]? = some y := ⟨E[0], List.getElem?_eq_getElem h1⟩
        have h2 := (each 0 y hy).1 0 _ rfl
        simpa [Addr.add] using World.cell?_spot h2
      subst hspot
      have hmem : ∀ j, j < (E.length + R.length) * 3 → MemPlace.cell b (off + j) ∈ MemPlace.row ⟨b, off, none⟩ ((E.length + R.length) * Tryd.prog.cellsOf 75) ++ (E ++ R).flatMap (·.2) := fun j hj =>
        List.mem_append.2 (.inl (MemPlace.mem_row.2 ⟨j, by rw [cellsAt]; exact hj, rfl⟩))
      refine ⟨b, off, rfl, ?_, hlt _ (hmem 0 (by omega))⟩
      have h3 := at_each (w := W) (g := b) (o := off) (E.map raOf) 0 (fun i nd hn => by
        rw [List.getElem?_map] at hn
        obtain ⟨y, hy, rfl⟩ := Option.map_eq_some_iff.1 hn
        have hi : i < E.length := (List.getElem?_eq_some_iff.1 hy).1
        rw [Nat.zero_add]
        intro j v hv
        have hj : j < 3 := (List.getElem?_eq_some_iff.1 hv).1
        have h4 := (each i y hy).1 j v hv
        have h5 : (((⟨b, off, none⟩ : Addr).add (i * 3)).add j) = ⟨b, off + i * 3 + j, none⟩ := by
          unfold Addr.add
          split <;> split <;> simp_all
        rw [h5] at h4
        refine ⟨h4, ?_⟩
        have h6 := hmem (i * 3 + j) (by omega)
        rw [← Nat.add_assoc] at h6
        exact hfz _ _ h6)
      rw [Nat.zero_mul, Nat.add_zero] at h3
      exact h3
    · intro nd hn
      obtain ⟨y, hy, rfl⟩ := List.mem_map.1 hn
      obtain ⟨i, hi⟩ := List.getElem?_of_mem hy
      exact (each i y hi).2.1
    · intro nd hn
      obtain ⟨y, hy, rfl⟩ := List.mem_map.1 hn
      exact hbody y hy
end Co
end Go.Proofs.YteanipjgpekncaaDoor
