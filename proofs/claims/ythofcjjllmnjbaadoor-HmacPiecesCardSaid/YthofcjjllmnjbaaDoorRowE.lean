/- A row that came of a text ('[]byte(s)'), and what is appended to it. -/
import Derived.Test.YthofcjjllmnjbaaDoorRowD
import Derived.ArgAppend
namespace Go.Proofs.YthofcjjllmnjbaaDoor
open Go.RowKit
set_option linter.unusedVariables false
set_option linter.unusedSimpArgs false
theorem At.ofHeap {w : World} {g : Nat} {cur : Array Value} {e : TypeId} {fz : Nat × Nat} (h : w.heap[g]? = some (.cells cur e fz)) (hf : fz.2 = 0 ∨ cur.size ≤ fz.1) : At w g 0 cur.toList := fun j v hv => by
  rw [Nat.zero_add]
  have hj : j < cur.size := by have := (List.getElem?_eq_some_iff.1 hv).1; simpa using this
  constructor
  · rw [cell_of_row w g j cur e fz h]; simpa using hv
  · obtain ⟨lo, hi⟩ := fz
    simp only [World.frozen?, h, Bool.and_eq_false_iff, decide_eq_false_iff_not]
    simp only at hf
    omega
/-- bytes in a row of the call's own, and room behind them -/
def Bag (w : World) (B : Nat) (v : Value) (l : List UInt8) : Prop := ∃ g cap spare, v = .slice (some ⟨g, 0, none⟩) l.length cap ∧ B ≤ g ∧ l.length ≤ cap ∧ spare.length = cap - l.length ∧ At w g 0 (bcells l ++ spare)
theorem Bag.alloc {w : World} {B : Nat} {v : Value} {l : List UInt8} (h : Bag w B v l) (o : Obj) : Bag (w.alloc o) B v l := by
  obtain ⟨g, cap, sp, hv, hb, hc, hs, ha⟩ := h
  exact ⟨g, cap, sp, hv, hb, hc, hs, ha.alloc o⟩
theorem Bag.drew {w : World} {B : Nat} {v : Value} {l : List UInt8} (h : Bag w B v l) : Bag w.drew B v l := h
theorem Bag.is {w : World} {B : Nat} {v : Value} {l : List UInt8} (h : Bag w B v l) : ∃ g cap, v = .slice (some ⟨g, 0, none⟩) l.length cap ∧ At w g 0 (bcells l) := by
  obtain ⟨g, cap, sp, hv, hb, hc, hs, ha⟩ := h
  exact ⟨g, cap, hv, ha.sub (a := []) (b := bcells l) (c := sp)⟩
theorem Bag.ofOwn {w : World} {B e n : Nat} {v : Value} {l : List UInt8} (h : w.ownsRow B e 1 v n (bcells l)) (hn : 0 < n) : Bag w B v l := by
  have hl : l.length = n := by have := h.1; rw [bcells_length] at this; simpa using this
  rcases h.2 with ⟨_, h0⟩ | ⟨g, cap, cur, hv, hb, hg, hnc, hcm, hcs, htake⟩
  · omega
  · refine ⟨g, cap, cur.toList.drop n, by rw [hv, hl], hb, by omega, by rw [List.length_drop, Array.length_toList, hcs]; omega, ?_⟩
    have h2 := At.ofHeap hg (.inl rfl)
    rw [← htake, Nat.mul_one, List.take_append_drop]
    exact h2
theorem wpList_bytes_bag {P : Program} (w : World) {ops : Array Oper} {rest : List Oper} {o : Oper} {a : Act} {Q : Exit → Act → World → Prop}
    (hg : o.guard = none) (x : Operand) (src dst e : TypeId) (hop : o.op = Op.convert src dst x) (h1 : P.underlying src = some .string) (h2 : P.underlying dst = some (.slice e)) (h3 : P.underlying e = some (.int .u8))
    (s : ByteArray) (hx : a.eval x = .string s) (B : Nat) (hB : B ≤ w.heap.size)
    (hK : ∀ v w', Bag w' B v s.toList → Below B w w' → wpList P ops Q rest (a.put o.dst v) w') :
    wpList P ops Q (o :: rest) a w := by
  refine wpList_plain hg fun K hK' => ?_
  have hrun := run_bytes_of_string (P := P) w src dst e s h1 h2 h3
  unfold Oper.wp
  simp [execOp, hop, hx, hrun, Result.andThen]
  have hcap := grownCap_ge w s.size 0 e
  refine hK' _ _ (hK _ _ ⟨w.heap.size, _, Array.toList (Array.replicate (grownCap w s.size 0 e - s.size) (.int .u8 0)), by rw [tl_size], hB, by rw [tl_size]; exact hcap, by rw [tl_size]; simp, ?_⟩ ((Below.refl _ _).drew.alloc hB _))
  have hA := At.ofHeap (heap_alloc_new w.drew (Obj.cells (bytesRow s (grownCap w s.size 0 e)) e ((bytesRow s (grownCap w s.size 0 e)).size, (bytesRow s (grownCap w s.size 0 e)).size + 1))) (.inr (Nat.le_refl _))
  have e1 : (bytesRow s (grownCap w s.size 0 e)).toList = bcells s.toList ++ (Array.replicate (grownCap w s.size 0 e - s.size) (Value.int .u8 0)).toList := by
    unfold bytesRow
    rw [Array.toList_append, Lib.toList_data]
    simp [bcells]
  rw [e1] at hA
  exact hA
theorem wpList_append_bag {P : Program} (w : World) {ops : Array Oper} {rest : List Oper} {o : Oper} {a : Act} {Q : Exit → Act → World → Prop} (hgd : o.guard = none) (s x : Operand) (t : TypeId)
    (ho : o.op = .call { callee := .builtin .append, args := #[s, x], argTypes := #[t, t] })
    (e : TypeId) (i : TypeInfo) (ht : P.underlying t = some (.slice e)) (hi : P.info? e = some i) (hz : i.zero = some (.int .u8 0)) (hsize : i.size = 1) (hby : i.bytes = 1)
    (v : Value) (B : Nat) (l : List UInt8) (hs : a.eval s = v) (hb : Bag w B v l) (gx : Nat) (hx : a.eval x = .slice (some ⟨gx, 0, none⟩) 1 1) (u : UInt8) (hu : w.cell? ⟨gx, 0, none⟩ = some (.int .u8 (u.toNat : Int)))
    (hB : B ≤ w.heap.size) (hn : l.length + 1 ≤ 140737488355328)
    (h : ∀ v' w', Bag w' B v' (l ++ [u]) → Below B w w' → wpList P ops Q rest (a.put o.dst v') w') : wpList P ops Q (o :: rest) a w := by
  obtain ⟨g, cap, sp, rfl, hbg, hlc, hsp, ha⟩ := hb
  refine wpList_plain hgd fun K hK => ?_
  have hnews : ∀ j w0, [Value.int .u8 (u.toNat : Int)][j]? = some w0 → w.cell? ((⟨gx, 0, none⟩ : Addr).add j) = some w0 := by
    intro j w0 hj
    match j with
    | 0 => simp at hj; rw [← hj]; exact hu
    | j + 1 => simp at hj
  have hone : ∀ w0 ∈ [Value.int .u8 (u.toNat : Int)], w0.oneCell' = true := by intro w0 hw0; simp at hw0; rw [hw0]; rfl
  by_cases hroom : l.length + 1 ≤ cap
  · obtain ⟨z, r, rfl⟩ : ∃ z r, sp = z :: r := by
      cases sp with
      | nil => simp at hsp; omega
      | cons z r => exact ⟨z, r, rfl⟩
    have ha3 : At w g 0 (bcells l ++ [z] ++ r) := by rw [List.append_assoc]; exact ha
    have hm := ha3.sub
    rw [bcells_length, Nat.zero_add] at hm
    have hr := run_append_room_cells (P := P) (w := w) t o.type e i ht hi g 0 l.length cap ⟨gx, 0, none⟩ 1 1 [Value.int .u8 (u.toNat : Int)] (by rw [hsize]; rfl) hnews hone hroom
      (by intro j hj; have hj0 : j = 0 := by simpa using hj
          subst hj0; rw [hsize, Nat.zero_add, Nat.mul_one, (hm 0 z rfl).1]; rfl)
      (by intro j hj; have hj0 : j = 0 := by simpa using hj
          subst hj0; rw [hsize, Nat.zero_add, Nat.mul_one]; exact (hm 0 z rfl).2)
    rw [hsize, Nat.zero_add, Nat.mul_one] at hr
    unfold Oper.wp
    simp only [execOp, ho, resolve, invoke, builtin, Sem.run_bind, Sem.run_pure, Result.andThen_ok, List.map_toArray, List.map_cons, List.map_nil, hs, hx, hr]
    refine hK _ _ (h _ _ ⟨g, cap, r, by rw [List.length_append]; rfl, hbg, by rw [List.length_append]; exact hroom, by rw [List.length_append]; simp at hsp ⊢; omega, ?_⟩ (below_sets _ _ hbg _ _ _ _ (Below.refl _ _)))
    have hw : w.setCells g l.length [Value.int .u8 (u.toNat : Int)] = w.setCells g l.length [Value.int .u8 (u.toNat : Int)] := rfl
    have k1 : At (w.setCells g l.length [Value.int .u8 (u.toNat : Int)]) g 0 (bcells l) := (At.sub (a := []) (b := bcells l) (c := [z] ++ r) ha).byCopy hw (.inr (.inr (by rw [bcells_length]; simp)))
    have k2 : At (w.setCells g l.length [Value.int .u8 (u.toNat : Int)]) g l.length [Value.int .u8 (u.toNat : Int)] := hm.ofCopy rfl hw
    have h3 : At w g (l.length + 1) r := by
      have h0 : At w g 0 ((bcells l ++ [z]) ++ r ++ []) := by rw [List.append_nil]; exact ha3
      have h2 := h0.sub
      rwa [List.length_append, bcells_length, Nat.zero_add] at h2
    have k3 : At (w.setCells g l.length [Value.int .u8 (u.toNat : Int)]) g (l.length + 1) r := h3.byCopy hw (.inr (.inl (by simp)))
    rw [bcells_append, List.append_assoc]
    refine k1.join ?_
    rw [bcells_length, Nat.zero_add]
    exact k2.join k3
  · obtain ⟨v', w', hr, h2, h3⟩ := run_append_arg_grows (P := P) (w := w) t o.type e i (.int .u8 0) 1 1 ht hi hz hsize hby rfl (by decide) ⟨g, 0, none⟩ l.length cap (bcells l) (by rw [bcells_length, Nat.mul_one])
      (by intro j w0 hj
          have h4 := (At.sub (a := []) (b := bcells l) (c := sp) ha) j w0 hj
          have hadd : (⟨g, 0, none⟩ : Addr).add j = ⟨g, j, none⟩ := by unfold Addr.add; split <;> simp_all
          rw [hadd]
          simpa using h4.1)
      ⟨gx, 0, none⟩ 1 1 [Value.int .u8 (u.toNat : Int)] rfl hnews (by omega) (by unfold maxLen; omega) (by omega)
    unfold Oper.wp
    simp only [execOp, ho, resolve, invoke, builtin, Sem.run_bind, Sem.run_pure, Result.andThen_ok, List.map_toArray, List.map_cons, List.map_nil, hs, hx, hr]
    have e1 : bcells l ++ [Value.int .u8 (u.toNat : Int)] = bcells (l ++ [u]) := by rw [bcells_append]; rfl
    rw [e1] at h2
    obtain ⟨g', cap', sp', hv', hb', hc', hs', ha'⟩ := Bag.ofOwn h2 (by omega)
    exact hK _ _ (h _ _ ⟨g', cap', sp', hv', Nat.le_trans hB hb', hc', hs', ha'⟩ ((Below.refl _ _).grown h3 hB (fun k hk => by cases hk)))
end Go.Proofs.YthofcjjllmnjbaaDoor
