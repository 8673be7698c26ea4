/- Lists of entries and of questions that one is handed, in the row's words: what lies in memory. -/
import Derived.Test.YtcegihdgnbjclaaRnF
import Derived.Test.YtcegihdgnbjclaaRnC
import Derived.ProofKit
import Derived.OpenShut
import Derived.ShutString
import Derived.SizedLaws
import Derived.SliceStrings
import Derived.Deep.Strs
namespace Go.Proofs.Ytcegihdgnbjclaa
open Go.ChangeShapes Go.WideShapes Go.ChangeAt Go.WideElems Go.RowKit
set_option linter.unusedVariables false
set_option linter.unusedSimpArgs false
namespace Rn
variable {H : Type} {enc : TypeId × Value → H}
theorem At.app {w : World} {g o : Nat} {a b : List Value} (h1 : At w g o a) (h2 : At w g (o + a.length) b) : At w g o (a ++ b) := fun j v hv => by
  by_cases h : j < a.length
  · rw [List.getElem?_append_left h] at hv
    exact h1 j v hv
  · rw [List.getElem?_append_right (by omega)] at hv
    have := h2 (j - a.length) v hv
    rw [show o + a.length + (j - a.length) = o + j by omega] at this
    exact this
theorem cellsI1 : Try.prog.cellsOf 3 = 1 := by kernel_rfl
theorem cellsS1 : Try.prog.cellsOf 9 = 1 := by kernel_rfl
theorem weightsAll_mem2 {P : Program} {e : TypeId} : ∀ {l : List (DataW H)} {d : DataW H}, d ∈ l → ∀ n ∈ d.weights P e, n ∈ DataW.weightsAll P e l
  | a :: l, d, h, n, hn => by
    rw [DataW.weightsAll, List.mem_append]
    rcases List.mem_cons.1 h with rfl | h
    · exact .inl hn
    · exact .inr (weightsAll_mem2 h n hn)
def enOf (y : DataW H × List MemPlace) : En := match y.1 with
  | .agg [.lit (.string a), .lit (.string b)] => ⟨a, b⟩
  | _ => ⟨[], []⟩
theorem at_eachEn {w : World} {g o : Nat} : ∀ (l : List En) (i0 : Nat), (∀ i n, l[i]? = some n → At w g (o + (i0 + i) * 2) (ev n)) → At w g (o + i0 * 2) (ecells l)
  | [], i0, _ => fun j v hv => by simp [ecells] at hv
  | a :: l, i0, h => by
    rw [show ecells (a :: l) = ev a ++ ecells l from rfl]
    refine At.app (by have := h 0 a rfl; rw [Nat.add_zero] at this; exact this) ?_
    have h2 := at_eachEn l (i0 + 1) (fun i n hn => by
      have := h (i + 1) n hn
      rw [show i0 + (i + 1) = i0 + 1 + i by omega] at this
      exact this)
    rw [show (ev a).length = 2 from rfl, show o + i0 * 2 + 2 = o + (i0 + 1) * 2 by omega]
    exact h2
set_option maxRecDepth 100000 in
theorem open_En {W : World} {n : Nat} {a : Addr} {y : DataW H × List MemPlace} (h : (W.cells? 0 a 2).bind (DataW.trod enc Try.prog W 0 (fun _ => true) true n 51) = some y) :
    (∀ j v, (ev (enOf y))[j]? = some v → W.cell? (a.add j) = some v) ∧ y.1 = .agg [.lit (.string (enOf y).name), .lit (.string (enOf y).key)] := by
  rw [Option.bind_eq_some_iff] at h
  obtain ⟨cs, h1, h2⟩ := h
  obtain ⟨_, hl, hc⟩ := World.cells?_some h1
  obtain ⟨y0, y1, m, rfl, _, k0, k1⟩ := trod_struct2 Try.underlying51 h2
  match cs, hl with
  | [c0, c1], _ =>
    obtain ⟨a0, e0, rfl, q0⟩ := DataW.trod_string Try.underlying9 k0
    obtain ⟨b, e1, rfl, q1⟩ := DataW.trod_string Try.underlying9 k1
    simp [cellsI1, cellsS1] at e0 e1
    subst e0 e1
    refine ⟨fun j v hv => ?_, rfl⟩
    have hj : j < 2 := (List.getElem?_eq_some_iff.1 hv).1
    rw [hc j hj]
    have : (ev ⟨a0.data.toList, b.data.toList⟩) = [.string a0, .string b] := rfl
    rw [← this]
    exact hv
theorem cellsEn : Try.prog.cellsOf 51 = 2 := by kernel_rfl
theorem bytesEn : Try.prog.bytesOf 51 = 32 := by kernel_rfl
set_option maxRecDepth 100000 in
theorem open_entries {W : World} {fuel : Nat} {a : Option Addr} {len cap : Nat} {d : DataW H} {p : List MemPlace} (hf : DataW.trod enc Try.prog W 0 (fun _ => true) true fuel 22 (Value.slice a len cap).cells.toList = some (d, p))
    (hlt : ∀ x ∈ p, x.block < W.heap.size) (hfz : ∀ b off, MemPlace.cell b off ∈ p → W.frozen? ⟨b, off, none⟩ = false) (hsz : ∀ x ∈ d.weights Try.prog 22, x ≤ 140737488351232) :
    ∃ l : List En, El W (.slice a len cap) l ∧ (∀ n ∈ l, n.name.length ≤ 140737488351232) ∧ l.length = len ∧ len * 32 ≤ 140737488351232 := by
  rcases DataW.trod_slice Try.underlying22 hf with ⟨hcs, hx⟩ | ⟨A, len', cap', E, R, n, _, hcs, hx, _, hl, hm, hE, hel, hsp, _⟩
  · simp [Value.cells] at hcs
    obtain ⟨rfl, rfl, rfl⟩ := hcs
    exact ⟨[], ⟨none, 0, rfl, fun h => absurd rfl h⟩, (fun n hn => (List.not_mem_nil hn).elim), rfl, by omega⟩
  · simp [Value.cells] at hcs
    obtain ⟨rfl, rfl, rfl⟩ := hcs
    simp only [Prod.mk.injEq] at hx
    obtain ⟨rfl, rfl⟩ := hx
    rw [cellsEn] at hel
    have each : ∀ i y, E[i]? = some y → (∀ j v, (ev (enOf y))[j]? = some v → W.cell? ((A.add (i * 2)).add j) = some v) ∧ y.1 = .agg [.lit (.string (enOf y).name), .lit (.string (enOf y).key)] := fun i y hy => by
      have hi : i < len := by rw [← hE]; exact (List.getElem?_eq_some_iff.1 hy).1
      exact open_En (by rw [hel i hi, hy])
    have hwl : (E.length + R.length) * 32 ≤ 140737488351232 := by
      refine hsz _ ?_
      simp only [DataW.weights, Try.underlying22, List.length_map, bytesEn, List.mem_cons]
      first | exact .inl rfl | exact .inl trivial
    have hbody : ∀ y ∈ E, (enOf y).name.length ≤ 140737488351232 := fun y hy => by
      obtain ⟨i, hi⟩ := List.getElem?_of_mem hy
      obtain ⟨_, h4⟩ := each i y hi
      refine hsz _ ?_
      simp only [DataW.weights, Try.underlying22, List.mem_cons, List.mem_append]
      refine .inr (.inl (weightsAll_mem2 (d := y.1) (List.mem_map.2 ⟨y, hy, rfl⟩) _ ?_))
      rw [h4]
      simp [DataW.weights, DataW.weightsEach, Try.underlying51]
    refine ⟨E.map enOf, ?_, ?_, by rw [List.length_map, hE], by rw [← hE]; omega⟩
    · refine ⟨some A, cap, by rw [List.length_map, hE], fun h0 => ?_⟩
      have h1 : 0 < E.length := by
        refine List.length_pos_iff.2 fun h => h0 ?_
        rw [h]; rfl
      obtain ⟨b, off, spot⟩ := A
      have hspot : spot = none := by
        obtain ⟨y, hy⟩ : ∃ y, E[0]? = some y := ⟨E[0], List.getElem?_eq_getElem h1⟩
        have h2 := (each 0 y hy).1 0 _ rfl
        simpa [Addr.add] using World.cell?_spot h2
      subst hspot
      have hmem : ∀ j, j < (E.length + R.length) * 2 → MemPlace.cell b (off + j) ∈ MemPlace.row ⟨b, off, none⟩ ((E.length + R.length) * Try.prog.cellsOf 51) ++ (E ++ R).flatMap (·.2) := fun j hj =>
        List.mem_append.2 (.inl (MemPlace.mem_row.2 ⟨j, by rw [cellsEn]; exact hj, rfl⟩))
      refine ⟨b, off, rfl, ?_, hlt _ (hmem 0 (by omega))⟩
      have h3 := at_eachEn (w := W) (g := b) (o := off) (E.map enOf) 0 (fun i nd hn => by
        rw [List.getElem?_map] at hn
        obtain ⟨y, hy, rfl⟩ := Option.map_eq_some_iff.1 hn
        have hi : i < E.length := (List.getElem?_eq_some_iff.1 hy).1
        rw [Nat.zero_add]
        intro j v hv
        have hj : j < 2 := (List.getElem?_eq_some_iff.1 hv).1
        have h4 := (each i y hy).1 j v hv
        have h5 : (((⟨b, off, none⟩ : Addr).add (i * 2)).add j) = ⟨b, off + i * 2 + j, none⟩ := by
          unfold Addr.add
          split <;> split <;> simp_all
        rw [h5] at h4
        refine ⟨h4, ?_⟩
        have h6 := hmem (i * 2 + j) (by omega)
        rw [← Nat.add_assoc] at h6
        exact hfz _ _ h6)
      rw [Nat.zero_mul, Nat.add_zero] at h3
      exact h3
    · intro nd hn
      obtain ⟨y, hy, rfl⟩ := List.mem_map.1 hn
      exact hbody y hy
def quOf (y : DataW H × List MemPlace) : Qu := match y.1 with
  | .agg [.lit (.int _ t), .lit (.string b)] => ⟨t, b⟩
  | _ => ⟨0, []⟩
theorem at_eachQu {w : World} {g o : Nat} : ∀ (l : List Qu) (i0 : Nat), (∀ i n, l[i]? = some n → At w g (o + (i0 + i) * 2) (qv n)) → At w g (o + i0 * 2) (qcells l)
  | [], i0, _ => fun j v hv => by simp [qcells] at hv
  | a :: l, i0, h => by
    rw [show qcells (a :: l) = qv a ++ qcells l from rfl]
    refine At.app (by have := h 0 a rfl; rw [Nat.add_zero] at this; exact this) ?_
    have h2 := at_eachQu l (i0 + 1) (fun i n hn => by
      have := h (i + 1) n hn
      rw [show i0 + (i + 1) = i0 + 1 + i by omega] at this
      exact this)
    rw [show (qv a).length = 2 from rfl, show o + i0 * 2 + 2 = o + (i0 + 1) * 2 by omega]
    exact h2
set_option maxRecDepth 100000 in
theorem open_Qu {W : World} {n : Nat} {a : Addr} {y : DataW H × List MemPlace} (h : (W.cells? 0 a 2).bind (DataW.trod enc Try.prog W 0 (fun _ => true) true n 38) = some y) :
    (∀ j v, (qv (quOf y))[j]? = some v → W.cell? (a.add j) = some v) ∧ y.1 = .agg [.lit (.int .i64 (quOf y).kind), .lit (.string (quOf y).name)] := by
  rw [Option.bind_eq_some_iff] at h
  obtain ⟨cs, h1, h2⟩ := h
  obtain ⟨_, hl, hc⟩ := World.cells?_some h1
  obtain ⟨y0, y1, m, rfl, _, k0, k1⟩ := trod_struct2 Try.underlying38 h2
  match cs, hl with
  | [c0, c1], _ =>
    obtain ⟨t, e0, rfl, q0⟩ := DataW.trod_int (k := .i64) Try.underlying3 k0
    obtain ⟨b, e1, rfl, q1⟩ := DataW.trod_string Try.underlying9 k1
    simp [cellsI1, cellsS1] at e0 e1
    subst e0 e1
    refine ⟨fun j v hv => ?_, rfl⟩
    have hj : j < 2 := (List.getElem?_eq_some_iff.1 hv).1
    rw [hc j hj]
    have : (qv ⟨t, b.data.toList⟩) = [.int .i64 t, .string b] := rfl
    rw [← this]
    exact hv
theorem cellsQu : Try.prog.cellsOf 38 = 2 := by kernel_rfl
theorem bytesQu : Try.prog.bytesOf 38 = 24 := by kernel_rfl
set_option maxRecDepth 100000 in
theorem open_asks {W : World} {fuel : Nat} {a : Option Addr} {len cap : Nat} {d : DataW H} {p : List MemPlace} (hf : DataW.trod enc Try.prog W 0 (fun _ => true) true fuel 36 (Value.slice a len cap).cells.toList = some (d, p))
    (hlt : ∀ x ∈ p, x.block < W.heap.size) (hfz : ∀ b off, MemPlace.cell b off ∈ p → W.frozen? ⟨b, off, none⟩ = false) (hsz : ∀ x ∈ d.weights Try.prog 36, x ≤ 140737488351232) :
    ∃ l : List Qu, Ql W (.slice a len cap) l ∧ (∀ n ∈ l, n.name.length ≤ 140737488351232) ∧ l.length = len ∧ len * 24 ≤ 140737488351232 := by
  rcases DataW.trod_slice Try.underlying36 hf with ⟨hcs, hx⟩ | ⟨A, len', cap', E, R, n, _, hcs, hx, _, hl, hm, hE, hel, hsp, _⟩
  · simp [Value.cells] at hcs
    obtain ⟨rfl, rfl, rfl⟩ := hcs
    exact ⟨[], ⟨none, 0, rfl, fun h => absurd rfl h⟩, (fun n hn => (List.not_mem_nil hn).elim), rfl, by omega⟩
  · simp [Value.cells] at hcs
    obtain ⟨rfl, rfl, rfl⟩ := hcs
    simp only [Prod.mk.injEq] at hx
    obtain ⟨rfl, rfl⟩ := hx
    rw [cellsQu] at hel
    have each : ∀ i y, E[i]? = some y → (∀ j v, (qv (quOf y))[j]? = some v → W.cell? ((A.add (i * 2)).add j) = some v) ∧ y.1 = .agg [.lit (.int .i64 (quOf y).kind), .lit (.string (quOf y).name)] := fun i y hy => by
      have hi : i < len := by rw [← hE]; exact (List.getElem?_eq_some_iff.1 hy).1
      exact open_Qu (by rw [hel i hi, hy])
    have hwl : (E.length + R.length) * 24 ≤ 140737488351232 := by
      refine hsz _ ?_
      simp only [DataW.weights, Try.underlying36, List.length_map, bytesQu, List.mem_cons]
      first | exact .inl rfl | exact .inl trivial
    have hbody : ∀ y ∈ E, (quOf y).name.length ≤ 140737488351232 := fun y hy => by
      obtain ⟨i, hi⟩ := List.getElem?_of_mem hy
      obtain ⟨_, h4⟩ := each i y hi
      refine hsz _ ?_
      simp only [DataW.weights, Try.underlying36, List.mem_cons, List.mem_append]
      refine .inr (.inl (weightsAll_mem2 (d := y.1) (List.mem_map.2 ⟨y, hy, rfl⟩) _ ?_))
      rw [h4]
      simp [DataW.weights, DataW.weightsEach, Try.underlying38]
    refine ⟨E.map quOf, ?_, ?_, by rw [List.length_map, hE], by rw [← hE]; omega⟩
    · refine ⟨some A, cap, by rw [List.length_map, hE], fun h0 => ?_⟩
      have h1 : 0 < E.length := by
        refine List.length_pos_iff.2 fun h => h0 ?_
        rw [h]; rfl
      obtain ⟨b, off, spot⟩ := A
      have hspot : spot = none := by
        obtain ⟨y, hy⟩ : ∃ y, E[0]? = some y := ⟨E[0], List.getElem?_eq_getElem h1⟩
        have h2 := (each 0 y hy).1 0 _ rfl
        simpa [Addr.add] using World.cell?_spot h2
      subst hspot
      have hmem : ∀ j, j < (E.length + R.length) * 2 → MemPlace.cell b (off + j) ∈ MemPlace.row ⟨b, off, none⟩ ((E.length + R.length) * Try.prog.cellsOf 38) ++ (E ++ R).flatMap (·.2) := fun j hj =>
        List.mem_append.2 (.inl (MemPlace.mem_row.2 ⟨j, by rw [cellsQu]; exact hj, rfl⟩))
      refine ⟨b, off, rfl, ?_, hlt _ (hmem 0 (by omega))⟩
      have h3 := at_eachQu (w := W) (g := b) (o := off) (E.map quOf) 0 (fun i nd hn => by
        rw [List.getElem?_map] at hn
        obtain ⟨y, hy, rfl⟩ := Option.map_eq_some_iff.1 hn
        have hi : i < E.length := (List.getElem?_eq_some_iff.1 hy).1
        rw [Nat.zero_add]
        intro j v hv
        have hj : j < 2 := (List.getElem?_eq_some_iff.1 hv).1
        have h4 := (each i y hy).1 j v hv
        have h5 : (((⟨b, off, none⟩ : Addr).add (i * 2)).add j) = ⟨b, off + i * 2 + j, none⟩ := by
          unfold Addr.add
          split <;> split <;> simp_all
        rw [h5] at h4
        refine ⟨h4, ?_⟩
        have h6 := hmem (i * 2 + j) (by omega)
        rw [← Nat.add_assoc] at h6
        exact hfz _ _ h6)
      rw [Nat.zero_mul, Nat.add_zero] at h3
      exact h3
    · intro nd hn
      obtain ⟨y, hy, rfl⟩ := List.mem_map.1 hn
      exact hbody y hy
end Rn
end Go.Proofs.Ytcegihdgnbjclaa
