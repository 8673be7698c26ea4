/- A list of values that one is handed, at any place: copied, compared; in the row's words. -/
import Derived.Test.YtpaikjlcachabaaDoorJgA
import Derived.ProofKit
import Derived.OpenShut
import Derived.ShutString
import Derived.SizedLaws
import Derived.SliceStrings
import Derived.Deep.Strs
namespace Go.Proofs.YtpaikjlcachabaaDoor
open Go.ChangeShapes Go.WideShapes Go.ChangeAt Go.WideElems Go.RowKit
open Go.Deep (trod_struct3)
set_option linter.unusedVariables false
set_option linter.unusedSimpArgs false
namespace Jg
open Js Je
open Jd (decL decP decE RetDec DecR)
open Dr (Rs Lm has lack)
def SvO (w : World) (v : Value) (l : List Vl) : Prop := ∃ a cap, v = .slice a l.length cap ∧ (l ≠ [] → ∃ g o, a = some ⟨g, o, none⟩ ∧ At w g o (vcells l) ∧ g < w.heap.size)
theorem SvO.below {w w' : World} {v : Value} {l : List Vl} (h : SvO w v l) (hb : Below w.heap.size w w') : SvO w' v l := by
  obtain ⟨a, cap, hv, h1⟩ := h
  exact ⟨a, cap, hv, fun hl => by obtain ⟨g, o, h2, h3, h4⟩ := h1 hl; exact ⟨g, o, h2, h3.below hb h4, Nat.lt_of_lt_of_le h4 hb.size⟩⟩
theorem at_cellsO {w : World} {k o : Nat} {cs : List Value} (h : At w k o cs) : ∀ j u, cs[j]? = some u → w.cell? ((⟨k, o, none⟩ : Addr).add j) = some u := fun j u hu => by
  have := (h j u hu).1
  unfold Addr.add
  split
  · rename_i h0; simpa [h0] using this
  · exact this
def RetVls (l : List Vl) (w : World) (e : Ending) (w' : World) : Prop := ∃ v, e = .returned v ∧ w'.ownsRow w.heap.size 61 3 v l.length (vcells l) ∧ Below w.heap.size w w'
set_option maxRecDepth 100000 in
set_option maxHeartbeats 1600000 in
theorem jcopied_neO (l : List Vl) (v : Value) (w : World) (hS : SvO w v l) (hn : l.length ≤ 4398046510976) (h0 : l ≠ []) : Calls Tryd.prog 14 #[v] w (RetVls l w) := by
  obtain ⟨i0, hi, hq⟩ := Option.map_eq_some_iff.1 infoVl
  simp only [Prod.mk.injEq] at hq
  obtain ⟨hz0, hz1, hz2⟩ := hq
  obtain ⟨a, cap, rfl, hl⟩ := hS
  obtain ⟨g, o, rfl, hA, hg⟩ := hl h0
  obtain ⟨n, hn0⟩ : ∃ n, l.length = n := ⟨_, rfl⟩
  have HA := Lib.hid (And.intro hA (And.intro hg (And.intro hn hn0)))
  have hlen : (vcells l).length = n * 3 := by rw [vcells_length, hn0, Nat.mul_comm]
  have HLN := Lib.hid hlen
  have HO := Lib.hid (World.ownsRow_lit (base := w.heap.size) (e := 61) (size := 3) w #[] 0 (Nat.le_refl _) (by decide) rfl)
  rw [hn0]
  clear hl hA hg hn hn0 h0 hlen
  go_enter Tryd.func14, Tryd.ntmps14
  go_wp2_with (at_builtin; refine wpList_append_own _ rfl (.tmp 3) (.tmp 4) 25 rfl w.heap.size 61 i0 _ 3 32 Tryd.underlying25 hi hz0 hz1 hz2 rfl (by decide) _ 0 [] rfl HO.out ⟨g, o, none⟩ n cap (vcells l) rfl HLN.out (at_cellsO ((HA.out.1).alloc _)) (vcells_one l) (by have := HA.out.2.2; unfold maxLen; omega) (by have := HA.out.2.2; omega) (by simp) ?_; intro v' w1 hown1 hgrow1 _; have HO1 := Lib.hid hown1; have HB1 : Hid (Below w.heap.size w w1) := Below.grown ((Below.refl _ _).alloc (Nat.le_refl _) _) hgrow1 (by simp) (fun k hk => (HO.out.lt k hk).1); clear hown1 hgrow1)
  go_ret
  exact ⟨v', rfl, by have h1 := HO1.out; rw [Nat.zero_add, List.nil_append] at h1; rw [HA.out.2.2.2]; exact h1, HB1.out⟩
set_option maxRecDepth 100000 in
set_option maxHeartbeats 1600000 in
theorem jcopied_nil (a : Option Addr) (cap : Nat) (w : World) : Calls Tryd.prog 14 #[.slice a 0 cap] w (RetVls [] w) := by
  have HO := Lib.hid (World.ownsRow_lit (base := w.heap.size) (e := 61) (size := 3) w #[] 0 (Nat.le_refl _) (by decide) rfl)
  cases a with
  | none =>
    go_enter Tryd.func14, Tryd.ntmps14
    go_wp2_with fail
    go_ret
    exact ⟨_, rfl, HO.out, (Below.refl _ _).alloc (Nat.le_refl _) _⟩
  | some A =>
    go_enter Tryd.func14, Tryd.ntmps14
    go_wp2_with fail
    go_ret
    exact ⟨_, rfl, HO.out, (Below.refl _ _).alloc (Nat.le_refl _) _⟩
theorem jcopied_anyO (l : List Vl) (v : Value) (w : World) (hS : SvO w v l) (hn : l.length ≤ 4398046510976) : Calls Tryd.prog 14 #[v] w (RetVls l w) := by
  by_cases h0 : l = []
  · subst h0
    obtain ⟨a, cap, rfl, -⟩ := hS
    exact jcopied_nil a cap w
  · exact jcopied_neO l v w hS hn h0
set_option maxRecDepth 100000 in
set_option maxHeartbeats 1600000 in
theorem vsame_o (l : List Vl) (v u : Value) (w : World) (hS : SvO w v l) (hM : SvE w u l) (hl : l.length ≤ 140737488351232) :
    Calls Tryd.prog 12 #[v, u] w (RetT w) := by
  obtain ⟨a, cl, rfl, hl1⟩ := hS
  obtain ⟨b, cm, rfl, hm1⟩ := hM
  obtain ⟨n, hn⟩ : ∃ n, l.length = n := ⟨_, rfl⟩
  rw [hn] at hl
  have HL := Lib.hid (And.intro hl1 (And.intro hm1 hn))
  rw [hn]
  have HNN := Lib.hid hl
  clear hl1 hm1 hn hl
  go_enter Tryd.func12, Tryd.ntmps12
  go_wp2_with fail
  go_loopw [5] (fun vi wr => ∃ i : Nat, vi = .int .i64 (i : Int) ∧ i ≤ n ∧ Hid (Below w.heap.size w wr)) (fun vi _ => n - (intOf vi).toNat)
  case atStart => exact ⟨0, rfl, Nat.zero_le _, Below.refl _ _⟩
  case round =>
    obtain ⟨i, rfl, hi, HB⟩ := hrel
    by_cases hin : i < n
    · have hil : i < l.length := by rw [HL.out.2.2]; exact hin
      have hne : l ≠ [] := fun h => by rw [h] at hil; simp at hil
      obtain ⟨g, o, rfl, hAg, hgl⟩ := HL.out.1 hne
      obtain ⟨g2, rfl, hAg2, hgl2⟩ := HL.out.2.1 hne
      have hNc := (value_at hAg i hil).below HB.out hgl
      have hNc2 := (value_at hAg2 i hil).below HB.out hgl2
      rw [Nat.zero_add] at hNc2
      obtain ⟨x, hx⟩ : ∃ nd, l.getD i v0 = nd := ⟨_, rfl⟩
      rw [hx] at hNc hNc2
      have n0 := hNc.cell 0 _ rfl
      have n1 := hNc.cell 1 _ rfl
      have n2 := hNc.cell 2 _ rfl
      rw [Nat.add_zero] at n0
      have m0 := hNc2.cell 0 _ rfl
      have m1 := hNc2.cell 1 _ rfl
      have m2 := hNc2.cell 2 _ rfl
      rw [Nat.add_zero] at m0
      have e2 : (i : Int) < (n : Int) := by omega
      have e9 : (i : Int) ≤ 140737488351232 := by have := HNN.out; omega
      have HII := Lib.hid (show ∃ j, n = i + 1 + j from ⟨n - i - 1, by omega⟩)
      obtain ⟨tx, htx⟩ : ∃ t, x.kind = t := ⟨_, rfl⟩
      obtain ⟨kx, hkx⟩ : ∃ t, x.kids = t := ⟨_, rfl⟩
      obtain ⟨bx, hbx⟩ : ∃ t : ByteArray, (⟨x.text.toArray⟩ : ByteArray) = t := ⟨_, rfl⟩
      rw [htx] at n0 m0
      rw [hkx] at n1 m1
      rw [hbx] at n2 m2
      clear hNc hNc2 hAg hAg2 hgl hgl2 hx hil hi hin hne htx hkx hbx
      go_wp2_with fail
      go_region
      go_wp2_with fail
      go_roundw
      case rel => exact ⟨i + 1, by go_num, by obtain ⟨j, hj⟩ := HII.out; omega, HB.out.drew⟩
      case measure => obtain ⟨j, hj⟩ := HII.out; simp [intOf]; omega
    · obtain rfl : i = n := by omega
      have e2 : ¬ (i : Int) < (i : Int) := by omega
      go_wp2_with fail
      go_ret
      exact ⟨rfl, HB.out⟩

variable {H : Type} {enc : TypeId × Value → H}
def vlOf (y : DataW H × List MemPlace) : Vl := match y.1 with
  | .agg [.lit (.int _ t), .lit (.int _ k), .lit (.string b)] => ⟨t, k, b⟩
  | _ => ⟨0, 0, []⟩
theorem at_app {w : World} {g o : Nat} {a b : List Value} (h1 : At w g o a) (h2 : At w g (o + a.length) b) : At w g o (a ++ b) := fun j v hv => by
  by_cases h : j < a.length
  · rw [List.getElem?_append_left h] at hv
    exact h1 j v hv
  · rw [List.getElem?_append_right (by omega)] at hv
    have := h2 (j - a.length) v hv
    rw [show o + a.length + (j - a.length) = o + j by omega] at this
    exact this
theorem at_each {w : World} {g o : Nat} : ∀ (l : List Vl) (i0 : Nat), (∀ i n, l[i]? = some n → At w g (o + (i0 + i) * 3) (vv n)) → At w g (o + i0 * 3) (vcells l)
  | [], i0, _ => fun j v hv => by simp [vcells] at hv
  | a :: l, i0, h => by
    rw [show vcells (a :: l) = vv a ++ vcells l from rfl]
    refine at_app (by have := h 0 a rfl; rw [Nat.add_zero] at this; exact this) ?_
    have h2 := at_each l (i0 + 1) (fun i n hn => by
      have := h (i + 1) n hn
      rw [show i0 + (i + 1) = i0 + 1 + i by omega] at this
      exact this)
    rw [show (vv a).length = 3 from rfl, show o + i0 * 3 + 3 = o + (i0 + 1) * 3 by omega]
    exact h2
theorem cellsI1 : Tryd.prog.cellsOf 3 = 1 := by kernel_rfl
theorem cellsS1 : Tryd.prog.cellsOf 9 = 1 := by kernel_rfl
theorem i64_le {a : Int} (h : (Lit.int .i64 a).wf = true) : a ≤ 9223372036854775807 := by
  have h2 : IntKind.i64.min ≤ a ∧ a ≤ IntKind.i64.max := by simpa [Lit.wf] using h
  have e2 : IntKind.i64.max = 9223372036854775807 := by decide
  omega
set_option maxRecDepth 100000 in
theorem open_value {W : World} {n : Nat} {a : Addr} {y : DataW H × List MemPlace} (h : (W.cells? 0 a 3).bind (DataW.trod enc Tryd.prog W 0 (fun _ => true) true n 61) = some y) :
    (∀ j v, (vv (vlOf y))[j]? = some v → W.cell? (a.add j) = some v) ∧ (vlOf y).kids ≤ 9223372036854775807 ∧ y.1 = .agg [.lit (.int .i64 (vlOf y).kind), .lit (.int .i64 (vlOf y).kids), .lit (.string (vlOf y).text)] := by
  rw [Option.bind_eq_some_iff] at h
  obtain ⟨cs, h1, h2⟩ := h
  obtain ⟨_, hl, hc⟩ := World.cells?_some h1
  obtain ⟨y0, y1, y2, m, rfl, _, k0, k1, k2⟩ := trod_struct3 Tryd.underlying61 h2
  match cs, hl with
  | [c0, c1, c2], _ =>
    obtain ⟨t, e0, rfl, q0⟩ := DataW.trod_int (k := .i64) Tryd.underlying3 k0
    obtain ⟨k, e1, rfl, q1⟩ := DataW.trod_int (k := .i64) Tryd.underlying3 k1
    obtain ⟨b, e2, rfl, q2⟩ := DataW.trod_string Tryd.underlying9 k2
    simp [cellsI1, cellsS1] at e0 e1 e2
    subst e0 e1 e2
    have hk' := i64_le q1
    have hnd : vlOf (H := H) (.agg [(.lit (.int .i64 t) : DataW H), .lit (.int .i64 k), .lit (.string b.data.toList)], ([] : List MemPlace) ++ ([] ++ [])) = ⟨t, k, b.data.toList⟩ := rfl
    rw [hnd]
    refine ⟨fun j v hv => ?_, hk', rfl⟩
    have hj : j < 3 := (List.getElem?_eq_some_iff.1 hv).1
    rw [hc j hj]
    have : (vv ⟨t, k, b.data.toList⟩) = [.int .i64 t, .int .i64 k, .string b] := rfl
    rw [← this]
    exact hv
theorem weightsAll_mem2 {P : Program} {e : TypeId} : ∀ {l : List (DataW H)} {d : DataW H}, d ∈ l → ∀ n ∈ d.weights P e, n ∈ DataW.weightsAll P e l
  | a :: l, d, h, n, hn => by
    rw [DataW.weightsAll, List.mem_append]
    rcases List.mem_cons.1 h with rfl | h
    · exact .inl hn
    · exact .inr (weightsAll_mem2 h n hn)
theorem cellsAt : Tryd.prog.cellsOf 61 = 3 := by kernel_rfl
theorem bytesAt : Tryd.prog.bytesOf 61 = 32 := by kernel_rfl
set_option maxRecDepth 100000 in
theorem open_values {W : World} {fuel : Nat} {a : Option Addr} {len cap : Nat} {d : DataW H} {p : List MemPlace} (hf : DataW.trod enc Tryd.prog W 0 (fun _ => true) true fuel 25 (Value.slice a len cap).cells.toList = some (d, p))
    (hlt : ∀ x ∈ p, x.block < W.heap.size) (hfz : ∀ b off, MemPlace.cell b off ∈ p → W.frozen? ⟨b, off, none⟩ = false) (hsz : ∀ x ∈ d.weights Tryd.prog 25, x ≤ 140737488351232) :
    ∃ l : List Vl, SvO W (.slice a len cap) l ∧ (∀ n ∈ l, n.kids ≤ 9223372036854775807) ∧ (∀ n ∈ l, n.text.length ≤ 140737488351232) ∧ l.length = len ∧ len * 32 ≤ 140737488351232 := by
  rcases DataW.trod_slice Tryd.underlying25 hf with ⟨hcs, hx⟩ | ⟨A, len', cap', E, R, n, _, hcs, hx, _, hl, hm, hE, hel, hsp, _⟩
  · simp [Value.cells] at hcs
    obtain ⟨rfl, rfl, rfl⟩ := hcs
    exact ⟨[], ⟨none, 0, rfl, fun h => absurd rfl h⟩, (fun n hn => (List.not_mem_nil hn).elim), (fun n hn => (List.not_mem_nil hn).elim), rfl, by omega⟩
  · simp [Value.cells] at hcs
    obtain ⟨rfl, rfl, rfl⟩ := hcs
    simp only [Prod.mk.injEq] at hx
    obtain ⟨rfl, rfl⟩ := hx
    rw [cellsAt] at hel
    have each : ∀ i y, E[i]? = some y → (∀ j v, (vv (vlOf y))[j]? = some v → W.cell? ((A.add (i * 3)).add j) = some v) ∧ (vlOf y).kids ≤ 9223372036854775807 ∧ y.1 = .agg [.lit (.int .i64 (vlOf y).kind), .lit (.int .i64 (vlOf y).kids), .lit (.string (vlOf y).text)] := fun i y hy => by
      have hi : i < len := by rw [← hE]; exact (List.getElem?_eq_some_iff.1 hy).1
      exact open_value (by rw [hel i hi, hy])
    have hwl : (E.length + R.length) * 32 ≤ 140737488351232 := by
      refine hsz _ ?_
      simp only [DataW.weights, Tryd.underlying25, List.length_map, bytesAt, List.mem_cons]
      first | exact .inl rfl | exact .inl trivial
    have hbody : ∀ y ∈ E, (vlOf y).text.length ≤ 140737488351232 := fun y hy => by
      obtain ⟨i, hi⟩ := List.getElem?_of_mem hy
      obtain ⟨_, _, h4⟩ := each i y hi
      refine hsz _ ?_
      simp only [DataW.weights, Tryd.underlying25, List.mem_cons, List.mem_append]
      refine .inr (.inl (weightsAll_mem2 (d := y.1) (List.mem_map.2 ⟨y, hy, rfl⟩) _ ?_))
      rw [h4]
      simp [DataW.weights, DataW.weightsEach, Tryd.underlying61]
    refine ⟨E.map vlOf, ?_, ?_, ?_, by rw [List.length_map, hE], by rw [← hE]; omega⟩
    · refine ⟨some A, cap, by rw [List.length_map, hE], fun h0 => ?_⟩
      have h1 : 0 < E.length := by
        refine List.length_pos_iff.2 fun h => h0 ?_
        rw [h]; rfl
      obtain ⟨b, off, spot⟩ := A
      have hspot : spot = none := by
        obtain ⟨y, hy⟩ : ∃ y, E[0]? = some y := ⟨E[0], List.getElem?_eq_getElem h1⟩
        have h2 := (each 0 y hy).1 0 _ rfl
        simpa [Addr.add] using World.cell?_spot h2
      subst hspot
      have hmem : ∀ j, j < (E.length + R.length) * 3 → MemPlace.cell b (off + j) ∈ MemPlace.row ⟨b, off, none⟩ ((E.length + R.length) * Tryd.prog.cellsOf 61) ++ (E ++ R).flatMap (·.2) := fun j hj =>
        List.mem_append.2 (.inl (MemPlace.mem_row.2 ⟨j, by rw [cellsAt]; exact hj, rfl⟩))
      refine ⟨b, off, rfl, ?_, hlt _ (hmem 0 (by omega))⟩
      have h3 := at_each (w := W) (g := b) (o := off) (E.map vlOf) 0 (fun i nd hn => by
        rw [List.getElem?_map] at hn
        obtain ⟨y, hy, rfl⟩ := Option.map_eq_some_iff.1 hn
        have hi : i < E.length := (List.getElem?_eq_some_iff.1 hy).1
        rw [Nat.zero_add]
        intro j v hv
        have hj : j < 3 := (List.getElem?_eq_some_iff.1 hv).1
        have h4 := (each i y hy).1 j v hv
        have h5 : (((⟨b, off, none⟩ : Addr).add (i * 3)).add j) = ⟨b, off + i * 3 + j, none⟩ := by
          unfold Addr.add
          split <;> split <;> simp_all
        rw [h5] at h4
        refine ⟨h4, ?_⟩
        have h6 := hmem (i * 3 + j) (by omega)
        rw [← Nat.add_assoc] at h6
        exact hfz _ _ h6)
      rw [Nat.zero_mul, Nat.add_zero] at h3
      exact h3
    · intro nd hn
      obtain ⟨y, hy, rfl⟩ := List.mem_map.1 hn
      obtain ⟨i, hi⟩ := List.getElem?_of_mem hy
      exact (each i y hi).2.1
    · intro nd hn
      obtain ⟨y, hy, rfl⟩ := List.mem_map.1 hn
      exact hbody y hy
end Jg
end Go.Proofs.YtpaikjlcachabaaDoor
