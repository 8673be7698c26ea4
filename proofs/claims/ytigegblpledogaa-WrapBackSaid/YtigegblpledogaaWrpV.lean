/- Joined by merge.py: RowD RowE RowF WrpP WrpX WrpA WrpB WrpC WrpD WrpE WrpF WrpG. -/
import Derived.Test.YtigegblpledogaaRowC
import Derived.ArgAppend
import Derived.Test.YtigegblpledogaaCtrP
import Derived.Test.YtigegblpledogaaAesM
import Derived.Test.YtigegblpledogaaAesLb
import Derived.Test.YtigegblpledogaaOctE
import Derived.Test.YtigegblpledogaaOctC
import Derived.Test.YtigegblpledogaaAesBp
import Derived.Test.YtigegblpledogaaAesBo
import Derived.Test.YtigegblpledogaaAesBe
import Derived.Test.YtigegblpledogaaAesBd
import Derived.Test.YtigegblpledogaaOctA
import Derived.IntWalk
namespace Go.Proofs.Ytigegblpledogaa
open Go.RowKit
set_option linter.unusedVariables false
set_option linter.unusedSimpArgs false
section
variable {P : Program} {w : World}
theorem run_copy_text (dT sT ty elem : TypeId) (g o dLen dCap : Nat) (s : ByteArray) (old : List Value) (hu : P.underlying dT = some (.slice elem)) (hi : (P.info? elem).map (·.size) = some 1)
    (hc : At w g o old) (m : Nat) (hm : Nat.min s.size dLen = m) (ho : old.length = m) :
    (Builtin.copy_ #[dT, sT] ty #[.slice (some ⟨g, o, none⟩) dLen dCap, .string s]).run P w = .ok (goInt m) (w.setCells g o (bcells (s.toList.take m))) := by
  have hl : (bcells (s.toList.take m)).length = m := by
    rw [bcells_length, List.length_take, tl_size]
    have : Nat.min s.size dLen ≤ s.size := Nat.min_le_left _ _
    omega
  have hst := run_store_at (P := P) hc (cs := bcells (s.toList.take m)) (by rw [hl, ho]) (bcells_one _)
  have e1 : List.take m (s.data.toList.map fun x => Value.int .u8 (x.toNat : Int)) = bcells (s.toList.take m) := by
    rw [Lib.toList_data, bcells, List.map_take]
  cases hq : P.info? elem with
  | none => simp [hq] at hi
  | some i =>
    have hi1 : i.size = 1 := by simpa [hq] using hi
    simp [Builtin.copy_, run_underlying hu, Builtin.lenOf, Builtin.firstCells, sizeOf, typeInfo, hq, hi1, hm]
    rw [e1, hst]
    rfl
theorem wpList_copy_text {ops : Array Oper} {rest : List Oper} {o : Oper} {a : Act} {Q : Exit → Act → World → Prop} (hgd : o.guard = none) (d x : Operand) (dT sT : TypeId)
    (ho : o.op = .call { callee := .builtin .copy, args := #[d, x], argTypes := #[dT, sT] }) (elem : TypeId) (hu : P.underlying dT = some (.slice elem)) (hi : (P.info? elem).map (·.size) = some 1)
    (g off dLen dCap : Nat) (hd : a.eval d = .slice (some ⟨g, off, none⟩) dLen dCap) (s : ByteArray) (hx : a.eval x = .string s) (old : List Value) (hc : At w g off old) (m : Nat) (hm : Nat.min s.size dLen = m) (hol : old.length = m)
    (h : ∀ w', Hid (w' = w.setCells g off (bcells (s.toList.take m))) → wpList P ops Q rest (a.put o.dst (goInt m)) w') : wpList P ops Q (o :: rest) a w := by
  refine wpList_plain hgd fun K hK => ?_
  have hrun := run_copy_text (P := P) dT sT o.type elem g off dLen dCap s old hu hi hc m hm hol
  unfold Oper.wp
  simp [execOp, ho, resolve, invoke, builtin, hd, hx, hrun, Result.andThen]
  exact hK _ _ (h _ rfl)
theorem step_copy_text {ops : Array Oper} {o : Oper} {a : Act} {K : Act → World → Prop} {Q : Exit → Act → World → Prop} {E : Prop} (hgd : o.guard = none) (d x : Operand) (dT sT : TypeId)
    (ho : o.op = .call { callee := .builtin .copy, args := #[d, x], argTypes := #[dT, sT] }) (elem : TypeId) (hu : P.underlying dT = some (.slice elem)) (hi : (P.info? elem).map (·.size) = some 1)
    (g off dLen dCap : Nat) (hd : a.eval d = .slice (some ⟨g, off, none⟩) dLen dCap) (s : ByteArray) (hx : a.eval x = .string s) (old : List Value) (hc : At w g off old) (m : Nat) (hm : Nat.min s.size dLen = m) (hol : old.length = m)
    (h : ∀ w', Hid (w' = w.setCells g off (bcells (s.toList.take m))) → K (a.put o.dst (goInt m)) w') :
    if Region.wanted o (yielded ops a.tmps) = true then Oper.wp P o a w K Q else E := by
  have hw : Region.wanted o (yielded ops a.tmps) = true := by simp [Region.wanted, hgd]
  rw [if_pos hw]
  have hrun := run_copy_text (P := P) dT sT o.type elem g off dLen dCap s old hu hi hc m hm hol
  unfold Oper.wp
  simp [execOp, ho, resolve, invoke, builtin, hd, hx, hrun, Result.andThen]
  exact h _ rfl
end
/-- what stays as it was -/
theorem At.ofCopy {w w' : World} {g o : Nat} {old new : List Value} (h : At w g o old) (hl : old.length = new.length) (hw : w' = w.setCells g o new) : At w' g o new := by
  subst hw
  exact h.ofSets hl
theorem At.byCopy {w w' : World} {g o g' o' : Nat} {cs new : List Value} (h : At w g o cs) (hw : w' = w.setCells g' o' new) (hne : g' ≠ g ∨ o' + new.length ≤ o ∨ o + cs.length ≤ o') : At w' g o cs := by
  subst hw
  exact h.apartSets hne
theorem below_copy {B g o : Nat} {a w w' : World} {new : List Value} (h : Below B a w) (hg : B ≤ g) (hw : w' = w.setCells g o new) : Below B a w' := by
  subst hw
  exact below_sets _ _ hg _ _ _ _ h
theorem At.join {w : World} {g o : Nat} {a b : List Value} (h1 : At w g o a) (h2 : At w g (o + a.length) b) : At w g o (a ++ b) := fun j v hv => by
  rcases Nat.lt_or_ge j a.length with hj | hj
  · exact h1 j v (by rw [List.getElem?_append_left hj] at hv; exact hv)
  · have := h2 (j - a.length) v (by rw [List.getElem?_append_right hj] at hv; exact hv)
    rw [Nat.add_assoc, show a.length + (j - a.length) = j by omega] at this
    exact this
theorem At.midOf {w : World} {g o : Nat} {A Z R : List UInt8} (h : At w g 0 (bcells (A ++ (Z ++ R)))) (hA : A.length = o) : At w g o (bcells Z) := by
  rw [← List.append_assoc, bcells_append, bcells_append] at h
  have h2 := h.sub
  rwa [bcells_length, hA, Nat.zero_add] at h2
theorem At.midSet {w w' : World} {g o : Nat} {A Z R X : List UInt8} (h : At w g 0 (bcells (A ++ (Z ++ R)))) (hA : A.length = o) (hZ : Z.length = X.length) (hw : w' = w.setCells g o (bcells X)) : At w' g 0 (bcells (A ++ (X ++ R))) := by
  have hz := h.midOf hA
  rw [bcells_append, bcells_append] at h
  have h1 : At w g 0 (bcells A) := At.sub (a := []) h
  have h3 : At w g (o + Z.length) (bcells R) := by
    have h0 : At w g 0 ((bcells A ++ bcells Z) ++ bcells R ++ []) := by rw [List.append_nil, List.append_assoc]; exact h
    have h2 := h0.sub
    rwa [List.length_append, bcells_length, bcells_length, hA, Nat.zero_add] at h2
  have k1 : At w' g 0 (bcells A) := h1.byCopy hw (.inr (.inr (by rw [bcells_length]; omega)))
  have k2 : At w' g o (bcells X) := hz.ofCopy (by rw [bcells_length, bcells_length, hZ]) hw
  have k3 : At w' g (o + X.length) (bcells R) := by
    rw [← hZ]
    exact h3.byCopy hw (.inr (.inl (by rw [bcells_length]; omega)))
  rw [bcells_append, bcells_append]
  refine k1.join ?_
  rw [bcells_length, hA, Nat.zero_add]
  refine k2.join ?_
  rw [bcells_length]
  exact k3
end Go.Proofs.Ytigegblpledogaa
namespace Go.Proofs.Ytigegblpledogaa
open Go.RowKit
set_option linter.unusedVariables false
set_option linter.unusedSimpArgs false
theorem At.ofHeap {w : World} {g : Nat} {cur : Array Value} {e : TypeId} {fz : Nat × Nat} (h : w.heap[g]? = some (.cells cur e fz)) (hf : fz.2 = 0 ∨ cur.size ≤ fz.1) : At w g 0 cur.toList := fun j v hv => by
  rw [Nat.zero_add]
  have hj : j < cur.size := by have := (List.getElem?_eq_some_iff.1 hv).1; simpa using this
  constructor
  · rw [cell_of_row w g j cur e fz h]; simpa using hv
  · obtain ⟨lo, hi⟩ := fz
    simp only [World.frozen?, h, Bool.and_eq_false_iff, decide_eq_false_iff_not]
    simp only at hf
    omega
/-- bytes in a row of the call's own, and room behind them -/
def Bag (w : World) (B : Nat) (v : Value) (l : List UInt8) : Prop := ∃ g cap spare, v = .slice (some ⟨g, 0, none⟩) l.length cap ∧ B ≤ g ∧ l.length ≤ cap ∧ spare.length = cap - l.length ∧ At w g 0 (bcells l ++ spare)
theorem Bag.alloc {w : World} {B : Nat} {v : Value} {l : List UInt8} (h : Bag w B v l) (o : Obj) : Bag (w.alloc o) B v l := by
  obtain ⟨g, cap, sp, hv, hb, hc, hs, ha⟩ := h
  exact ⟨g, cap, sp, hv, hb, hc, hs, ha.alloc o⟩
theorem Bag.drew {w : World} {B : Nat} {v : Value} {l : List UInt8} (h : Bag w B v l) : Bag w.drew B v l := h
theorem Bag.is {w : World} {B : Nat} {v : Value} {l : List UInt8} (h : Bag w B v l) : ∃ g cap, v = .slice (some ⟨g, 0, none⟩) l.length cap ∧ At w g 0 (bcells l) := by
  obtain ⟨g, cap, sp, hv, hb, hc, hs, ha⟩ := h
  exact ⟨g, cap, hv, ha.sub (a := []) (b := bcells l) (c := sp)⟩
theorem Bag.ofOwn {w : World} {B e n : Nat} {v : Value} {l : List UInt8} (h : w.ownsRow B e 1 v n (bcells l)) (hn : 0 < n) : Bag w B v l := by
  have hl : l.length = n := by have := h.1; rw [bcells_length] at this; simpa using this
  rcases h.2 with ⟨_, h0⟩ | ⟨g, cap, cur, hv, hb, hg, hnc, hcm, hcs, htake⟩
  · omega
  · refine ⟨g, cap, cur.toList.drop n, by rw [hv, hl], hb, by omega, by rw [List.length_drop, Array.length_toList, hcs]; omega, ?_⟩
    have h2 := At.ofHeap hg (.inl rfl)
    rw [← htake, Nat.mul_one, List.take_append_drop]
    exact h2
theorem wpList_bytes_bag {P : Program} (w : World) {ops : Array Oper} {rest : List Oper} {o : Oper} {a : Act} {Q : Exit → Act → World → Prop}
    (hg : o.guard = none) (x : Operand) (src dst e : TypeId) (hop : o.op = Op.convert src dst x) (h1 : P.underlying src = some .string) (h2 : P.underlying dst = some (.slice e)) (h3 : P.underlying e = some (.int .u8))
    (s : ByteArray) (hx : a.eval x = .string s) (B : Nat) (hB : B ≤ w.heap.size)
    (hK : ∀ v w', Bag w' B v s.toList → Below B w w' → wpList P ops Q rest (a.put o.dst v) w') :
    wpList P ops Q (o :: rest) a w := by
  refine wpList_plain hg fun K hK' => ?_
  have hrun := run_bytes_of_string (P := P) w src dst e s h1 h2 h3
  unfold Oper.wp
  simp [execOp, hop, hx, hrun, Result.andThen]
  have hcap := grownCap_ge w s.size 0 e
  refine hK' _ _ (hK _ _ ⟨w.heap.size, _, Array.toList (Array.replicate (grownCap w s.size 0 e - s.size) (.int .u8 0)), by rw [tl_size], hB, by rw [tl_size]; exact hcap, by rw [tl_size]; simp, ?_⟩ ((Below.refl _ _).drew.alloc hB _))
  have hA := At.ofHeap (heap_alloc_new w.drew (Obj.cells (bytesRow s (grownCap w s.size 0 e)) e ((bytesRow s (grownCap w s.size 0 e)).size, (bytesRow s (grownCap w s.size 0 e)).size + 1))) (.inr (Nat.le_refl _))
  have e1 : (bytesRow s (grownCap w s.size 0 e)).toList = bcells s.toList ++ (Array.replicate (grownCap w s.size 0 e - s.size) (Value.int .u8 0)).toList := by
    unfold bytesRow
    rw [Array.toList_append, Lib.toList_data]
    simp [bcells]
  rw [e1] at hA
  exact hA
theorem wpList_append_bag {P : Program} (w : World) {ops : Array Oper} {rest : List Oper} {o : Oper} {a : Act} {Q : Exit → Act → World → Prop} (hgd : o.guard = none) (s x : Operand) (t : TypeId)
    (ho : o.op = .call { callee := .builtin .append, args := #[s, x], argTypes := #[t, t] })
    (e : TypeId) (i : TypeInfo) (ht : P.underlying t = some (.slice e)) (hi : P.info? e = some i) (hz : i.zero = some (.int .u8 0)) (hsize : i.size = 1) (hby : i.bytes = 1)
    (v : Value) (B : Nat) (l : List UInt8) (hs : a.eval s = v) (hb : Bag w B v l) (gx : Nat) (hx : a.eval x = .slice (some ⟨gx, 0, none⟩) 1 1) (u : UInt8) (hu : w.cell? ⟨gx, 0, none⟩ = some (.int .u8 (u.toNat : Int)))
    (hB : B ≤ w.heap.size) (hn : l.length + 1 ≤ 140737488355328)
    (h : ∀ v' w', Bag w' B v' (l ++ [u]) → Below B w w' → wpList P ops Q rest (a.put o.dst v') w') : wpList P ops Q (o :: rest) a w := by
  obtain ⟨g, cap, sp, rfl, hbg, hlc, hsp, ha⟩ := hb
  refine wpList_plain hgd fun K hK => ?_
  have hnews : ∀ j w0, [Value.int .u8 (u.toNat : Int)][j]? = some w0 → w.cell? ((⟨gx, 0, none⟩ : Addr).add j) = some w0 := by
    intro j w0 hj
    match j with
    | 0 => simp at hj; rw [← hj]; exact hu
    | j + 1 => simp at hj
  have hone : ∀ w0 ∈ [Value.int .u8 (u.toNat : Int)], w0.oneCell' = true := by intro w0 hw0; simp at hw0; rw [hw0]; rfl
  by_cases hroom : l.length + 1 ≤ cap
  · obtain ⟨z, r, rfl⟩ : ∃ z r, sp = z :: r := by
      cases sp with
      | nil => simp at hsp; omega
      | cons z r => exact ⟨z, r, rfl⟩
    have ha3 : At w g 0 (bcells l ++ [z] ++ r) := by rw [List.append_assoc]; exact ha
    have hm := ha3.sub
    rw [bcells_length, Nat.zero_add] at hm
    have hr := run_append_room_cells (P := P) (w := w) t o.type e i ht hi g 0 l.length cap ⟨gx, 0, none⟩ 1 1 [Value.int .u8 (u.toNat : Int)] (by rw [hsize]; rfl) hnews hone hroom
      (by intro j hj; have hj0 : j = 0 := by simpa using hj
          subst hj0; rw [hsize, Nat.zero_add, Nat.mul_one, (hm 0 z rfl).1]; rfl)
      (by intro j hj; have hj0 : j = 0 := by simpa using hj
          subst hj0; rw [hsize, Nat.zero_add, Nat.mul_one]; exact (hm 0 z rfl).2)
    rw [hsize, Nat.zero_add, Nat.mul_one] at hr
    unfold Oper.wp
    simp only [execOp, ho, resolve, invoke, builtin, Sem.run_bind, Sem.run_pure, Result.andThen_ok, List.map_toArray, List.map_cons, List.map_nil, hs, hx, hr]
    refine hK _ _ (h _ _ ⟨g, cap, r, by rw [List.length_append]; rfl, hbg, by rw [List.length_append]; exact hroom, by rw [List.length_append]; simp at hsp ⊢; omega, ?_⟩ (below_sets _ _ hbg _ _ _ _ (Below.refl _ _)))
    have hw : w.setCells g l.length [Value.int .u8 (u.toNat : Int)] = w.setCells g l.length [Value.int .u8 (u.toNat : Int)] := rfl
    have k1 : At (w.setCells g l.length [Value.int .u8 (u.toNat : Int)]) g 0 (bcells l) := (At.sub (a := []) (b := bcells l) (c := [z] ++ r) ha).byCopy hw (.inr (.inr (by rw [bcells_length]; simp)))
    have k2 : At (w.setCells g l.length [Value.int .u8 (u.toNat : Int)]) g l.length [Value.int .u8 (u.toNat : Int)] := hm.ofCopy rfl hw
    have h3 : At w g (l.length + 1) r := by
      have h0 : At w g 0 ((bcells l ++ [z]) ++ r ++ []) := by rw [List.append_nil]; exact ha3
      have h2 := h0.sub
      rwa [List.length_append, bcells_length, Nat.zero_add] at h2
    have k3 : At (w.setCells g l.length [Value.int .u8 (u.toNat : Int)]) g (l.length + 1) r := h3.byCopy hw (.inr (.inl (by simp)))
    rw [bcells_append, List.append_assoc]
    refine k1.join ?_
    rw [bcells_length, Nat.zero_add]
    exact k2.join k3
  · obtain ⟨v', w', hr, h2, h3⟩ := run_append_arg_grows (P := P) (w := w) t o.type e i (.int .u8 0) 1 1 ht hi hz hsize hby rfl (by decide) ⟨g, 0, none⟩ l.length cap (bcells l) (by rw [bcells_length, Nat.mul_one])
      (by intro j w0 hj
          have h4 := (At.sub (a := []) (b := bcells l) (c := sp) ha) j w0 hj
          have hadd : (⟨g, 0, none⟩ : Addr).add j = ⟨g, j, none⟩ := by unfold Addr.add; split <;> simp_all
          rw [hadd]
          simpa using h4.1)
      ⟨gx, 0, none⟩ 1 1 [Value.int .u8 (u.toNat : Int)] rfl hnews (by omega) (by unfold maxLen; omega) (by omega)
    unfold Oper.wp
    simp only [execOp, ho, resolve, invoke, builtin, Sem.run_bind, Sem.run_pure, Result.andThen_ok, List.map_toArray, List.map_cons, List.map_nil, hs, hx, hr]
    have e1 : bcells l ++ [Value.int .u8 (u.toNat : Int)] = bcells (l ++ [u]) := by rw [bcells_append]; rfl
    rw [e1] at h2
    obtain ⟨g', cap', sp', hv', hb', hc', hs', ha'⟩ := Bag.ofOwn h2 (by omega)
    exact hK _ _ (h _ _ ⟨g', cap', sp', hv', Nat.le_trans hB hb', hc', hs', ha'⟩ ((Below.refl _ _).grown h3 hB (fun k hk => by cases hk)))
end Go.Proofs.Ytigegblpledogaa
namespace Go.Proofs.Ytigegblpledogaa
open Go.RowKit
set_option linter.unusedVariables false
set_option linter.unusedSimpArgs false
section
variable {P : Program} {w : World}
theorem run_copy_at (dT sT ty elem : TypeId) (g o dLen dCap sg so sLen sCap : Nat) (cs old : List Value) (hu : P.underlying dT = some (.slice elem)) (hi : (P.info? elem).map (·.size) = some 1)
    (hs : At w sg so cs) (hc : At w g o old) (hol : old.length = cs.length) (hn : cs.length = Nat.min sLen dLen) (h1 : ∀ v ∈ cs, v.oneCell' = true) :
    (Builtin.copy_ #[dT, sT] ty #[.slice (some ⟨g, o, none⟩) dLen dCap, .slice (some ⟨sg, so, none⟩) sLen sCap]).run P w = .ok (goInt cs.length) (w.setCells g o cs) := by
  refine run_copy_cells w dT sT ty elem g o dLen dCap ⟨sg, so, none⟩ sLen sCap cs hu hi hn (fun j v hv => ?_) (fun j hj => ?_) (fun j hj => ?_) h1
  · have hadd : (⟨sg, so, none⟩ : Addr).add j = ⟨sg, so + j, none⟩ := by unfold Addr.add; split <;> simp_all
    rw [hadd]
    exact (hs j v hv).1
  · have hj2 : j < old.length := by omega
    rw [(hc j old[j] (List.getElem?_eq_getElem hj2)).1]
    rfl
  · exact hc.froz j (by omega)
theorem wpList_copy_at {ops : Array Oper} {rest : List Oper} {o : Oper} {a : Act} {Q : Exit → Act → World → Prop} (hgd : o.guard = none) (d x : Operand) (dT sT : TypeId)
    (ho : o.op = .call { callee := .builtin .copy, args := #[d, x], argTypes := #[dT, sT] }) (elem : TypeId) (hu : P.underlying dT = some (.slice elem)) (hi : (P.info? elem).map (·.size) = some 1)
    (g off dLen dCap : Nat) (hd : a.eval d = .slice (some ⟨g, off, none⟩) dLen dCap) (sg so sLen sCap : Nat) (hx : a.eval x = .slice (some ⟨sg, so, none⟩) sLen sCap) (cs old : List Value)
    (hs : At w sg so cs) (hc : At w g off old) (hol : old.length = cs.length) (hn : cs.length = Nat.min sLen dLen) (h1 : ∀ v ∈ cs, v.oneCell' = true)
    (h : ∀ w', Hid (w' = w.setCells g off cs) → wpList P ops Q rest (a.put o.dst (goInt cs.length)) w') : wpList P ops Q (o :: rest) a w := by
  refine wpList_plain hgd fun K hK => ?_
  have hrun := run_copy_at (P := P) dT sT o.type elem g off dLen dCap sg so sLen sCap cs old hu hi hs hc hol hn h1
  unfold Oper.wp
  simp [execOp, ho, resolve, invoke, builtin, hd, hx, hrun, Result.andThen]
  exact hK _ _ (h _ rfl)
theorem step_copy_at {ops : Array Oper} {o : Oper} {a : Act} {K : Act → World → Prop} {Q : Exit → Act → World → Prop} {E : Prop} (hgd : o.guard = none) (d x : Operand) (dT sT : TypeId)
    (ho : o.op = .call { callee := .builtin .copy, args := #[d, x], argTypes := #[dT, sT] }) (elem : TypeId) (hu : P.underlying dT = some (.slice elem)) (hi : (P.info? elem).map (·.size) = some 1)
    (g off dLen dCap : Nat) (hd : a.eval d = .slice (some ⟨g, off, none⟩) dLen dCap) (sg so sLen sCap : Nat) (hx : a.eval x = .slice (some ⟨sg, so, none⟩) sLen sCap) (cs old : List Value)
    (hs : At w sg so cs) (hc : At w g off old) (hol : old.length = cs.length) (hn : cs.length = Nat.min sLen dLen) (h1 : ∀ v ∈ cs, v.oneCell' = true)
    (h : ∀ w', Hid (w' = w.setCells g off cs) → K (a.put o.dst (goInt cs.length)) w') :
    if Region.wanted o (yielded ops a.tmps) = true then Oper.wp P o a w K Q else E := by
  have hw : Region.wanted o (yielded ops a.tmps) = true := by simp [Region.wanted, hgd]
  rw [if_pos hw]
  have hrun := run_copy_at (P := P) dT sT o.type elem g off dLen dCap sg so sLen sCap cs old hu hi hs hc hol hn h1
  unfold Oper.wp
  simp [execOp, ho, resolve, invoke, builtin, hd, hx, hrun, Result.andThen]
  exact h _ rfl
end
end Go.Proofs.Ytigegblpledogaa
namespace Go.Proofs.Ytigegblpledogaa
open Go.RowKit
set_option linter.unusedVariables false
set_option linter.unusedSimpArgs false
def wval : List UInt8 := [166, 166, 166, 166, 166, 166, 166, 166]
def wnum (t : Nat) : List UInt8 := be 8 t
theorem wnum_length (t : Nat) : (wnum t).length = 8 := be_length 8 t
/-- a half joined with a number -/
def wcnt (A : List UInt8) (t : Nat) : List UInt8 := xorL A (wnum t)
theorem wcnt_length (A : List UInt8) (t : Nat) (h : A.length = 8) : (wcnt A t).length = 8 := by rw [wcnt, xorL_length, wnum_length, h]; rfl
def wstep (K : List UInt8) (t : Nat) (H : List UInt8) : List UInt8 := wcnt ((encL K (H.take 16)).take 8) t ++ (H.drop 16 ++ (encL K (H.take 16)).drop 8)
theorem wstep_length (K H : List UInt8) (t : Nat) (h : 16 ≤ H.length) : (wstep K t H).length = H.length := by
  have := encL_length K (H.take 16)
  rw [wstep, List.length_append, List.length_append, wcnt_length _ _ (by rw [List.length_take]; omega), List.length_drop, List.length_drop]
  omega
def wrun (K H : List UInt8) : Nat → List UInt8
  | 0 => H
  | t + 1 => wstep K (t + 1) (wrun K H t)
theorem wrun_length (K H : List UInt8) (h : 16 ≤ H.length) : ∀ t, (wrun K H t).length = H.length
  | 0 => rfl
  | t + 1 => by rw [wrun, wstep_length _ _ _ (by rw [wrun_length K H h t]; exact h), wrun_length K H h t]
def ustep (K : List UInt8) (t : Nat) (H : List UInt8) : List UInt8 := decL K (wcnt (H.take 8) t ++ H.drop (H.length - 8)) ++ (H.drop 8).take (H.length - 16)
theorem ustep_length (K H : List UInt8) (t : Nat) (h : 16 ≤ H.length) : (ustep K t H).length = H.length := by
  rw [ustep, List.length_append, decL_length, List.length_take, List.length_drop]
  omega
/-- from step t down to 1 -/
def urun (K H : List UInt8) : Nat → List UInt8
  | 0 => H
  | t + 1 => urun K (ustep K (t + 1) H) t
theorem urun_length (K : List UInt8) : ∀ (t : Nat) (H : List UInt8), 16 ≤ H.length → (urun K H t).length = H.length
  | 0, _, _ => rfl
  | t + 1, H, h => by rw [urun, urun_length K t _ (by rw [ustep_length K H _ h]; exact h), ustep_length K H _ h]
theorem ustep_wstep (K H : List UInt8) (t : Nat) (h : 24 ≤ H.length) : ustep K t (wstep K t H) = H := by
  obtain ⟨x, hx⟩ : ∃ x, encL K (H.take 16) = x := ⟨_, rfl⟩
  have hxl : x.length = 16 := by rw [← hx, encL_length]
  have hl := wstep_length K H t (by omega)
  have hc : (wcnt (x.take 8) t).length = 8 := wcnt_length _ _ (by rw [List.length_take]; omega)
  have e1 : (wstep K t H).take 8 = wcnt (x.take 8) t := by rw [wstep, hx, List.take_append_of_le_length (by omega), List.take_of_length_le (by omega)]
  have e2 : (wstep K t H).drop 8 = H.drop 16 ++ x.drop 8 := by rw [wstep, hx]; exact List.drop_left' hc
  have e3 : (wstep K t H).drop (H.length - 8) = x.drop 8 := by
    have : H.length - 8 = 8 + (H.length - 16) := by omega
    rw [this, ← List.drop_drop, e2]
    have h2 : (H.drop 16).length = H.length - 16 := List.length_drop
    exact List.drop_left' h2
  have e4 : wcnt (wcnt (x.take 8) t) t = x.take 8 := xorL_twice _ _ (by rw [wnum_length, List.length_take]; omega)
  have e5 : ((wstep K t H).drop 8).take (H.length - 16) = H.drop 16 := by
    have h2 : (H.drop 16).length = H.length - 16 := List.length_drop
    rw [e2]; exact List.take_left' h2
  rw [ustep, hl, e1, e3, e4, e5, List.take_append_drop, ← hx, dec_enc _ _ (by rw [List.length_take]; omega), List.take_append_drop]
theorem urun_wrun (K H : List UInt8) (h : 24 ≤ H.length) : ∀ t, urun K (wrun K H t) t = H
  | 0 => rfl
  | t + 1 => by rw [urun, wrun, ustep_wstep _ _ _ (by rw [wrun_length _ _ (by omega)]; exact h), urun_wrun K H h t]
/-- what is asked of lengths -/
def wfit (n : Nat) : Bool := decide (n % 8 = 0 ∧ 16 ≤ n ∧ n ≤ 1024)
def ufit (n : Nat) : Bool := decide (n % 8 = 0 ∧ 24 ≤ n ∧ n ≤ 1032)
def wraE (k n : Nat) : Int := if k = 16 ∨ k = 24 ∨ k = 32 then if wfit n then 0 else 6 else 3
def valE (k n : Nat) : Int := if k = 16 ∨ k = 24 ∨ k = 32 then if ufit n then 0 else 6 else 3
def wraF (K T : List UInt8) : List UInt8 := wrun K (wval ++ T) (6 * (T.length / 8))
def valF (K T : List UInt8) : List UInt8 := urun K T (6 * (T.length / 8 - 1))
def wraL (K T : List UInt8) : List UInt8 := if wraE K.length T.length = 0 then wraF K T else []
def vaAL (K T : List UInt8) : List UInt8 := if valE K.length T.length = 0 then (valF K T).take 8 else []
def vaRL (K T : List UInt8) : List UInt8 := if valE K.length T.length = 0 then (valF K T).drop 8 else []
def unwE (K T : List UInt8) : Int := if valE K.length T.length = 0 then if vaAL K T = wval then 0 else 8 else valE K.length T.length
def unwL (K T : List UInt8) : List UInt8 := if unwE K T = 0 then vaRL K T else []
theorem wraF_length (K T : List UInt8) (h : 8 ≤ T.length) : (wraF K T).length = T.length + 8 := by
  have hl : (wval ++ T).length = T.length + 8 := by rw [List.length_append, show wval.length = 8 from rfl]; omega
  rw [wraF, wrun_length _ _ (by omega), hl]
theorem wrap_back (K T : List UInt8) (h : wraE K.length T.length = 0) : (wraL K T).length = T.length + 8 ∧ unwE K (wraL K T) = 0 ∧ unwL K (wraL K T) = T := by
  have hk : K.length = 16 ∨ K.length = 24 ∨ K.length = 32 := by
    unfold wraE at h
    split at h
    · assumption
    · cases h
  have hf : wfit T.length = true := by
    rw [wraE, if_pos hk] at h
    cases hf : wfit T.length
    · rw [hf] at h; cases h
    · rfl
  have hd := of_decide_eq_true hf
  have hl : (wraL K T).length = T.length + 8 := by rw [wraL, if_pos h, wraF_length _ _ (by omega)]
  have hu : ufit (T.length + 8) = true := by rw [ufit, decide_eq_true_iff]; omega
  have hE : valE K.length (wraL K T).length = 0 := by rw [valE, if_pos hk, hl, hu]; rfl
  have hF : valF K (wraL K T) = wval ++ T := by
    rw [valF, hl, wraL, if_pos h, wraF, show (T.length + 8) / 8 - 1 = T.length / 8 by omega]
    exact urun_wrun _ _ (by rw [List.length_append, show wval.length = 8 from rfl]; omega) _
  have hA : vaAL K (wraL K T) = wval := by rw [vaAL, if_pos hE, hF]; exact List.take_left' rfl
  have hR : vaRL K (wraL K T) = T := by rw [vaRL, if_pos hE, hF]; exact List.drop_left' rfl
  have hU : unwE K (wraL K T) = 0 := by rw [unwE, if_pos hE, if_pos hA]
  exact ⟨hl, hU, by rw [unwL, if_pos hU, hR]⟩
end Go.Proofs.Ytigegblpledogaa
namespace Go.Proofs.Ytigegblpledogaa
open Go.RowKit
set_option linter.unusedVariables false
/-- the example -/
def wkey : List UInt8 := [0, 1, 2, 3, 4, 5, 6, 7, 8, 9, 10, 11, 12, 13, 14, 15]
def wtxt : List UInt8 := [0, 17, 34, 51, 68, 85, 102, 119, 136, 153, 170, 187, 204, 221, 238, 255]
set_option maxRecDepth 100000 in
theorem wex : (wraL wkey wtxt).take 8 = [31, 166, 139, 10, 129, 18, 180, 71] := by decide +kernel
end Go.Proofs.Ytigegblpledogaa
namespace Go.Proofs.Ytigegblpledogaa
open Go.RowKit
set_option linter.unusedVariables false
set_option linter.unusedSimpArgs false
def RetNoW (c : Int) (w : World) (e : Ending) (w' : World) : Prop := e = .returned (.tuple #[.pointer none, .int .i64 c]) ∧ Below w.heap.size w w'
set_option maxRecDepth 100000 in
theorem wbegin_key (key : ByteArray) (l m : Int) (w : World) (h1 : key.size ≠ 16) (h2 : key.size ≠ 24) (h3 : key.size ≠ 32) : Calls Try.prog 63 #[.string key, .int .i64 l, .int .i64 m] w (RetNoW 3 w) := by
  go_enter Try.func63, Try.ntmps63
  go_wp2_with fail
  refine (new_bad key _ h1 h2 h3).mono ?_
  rintro e w1 ⟨rfl, rfl⟩
  go_wp2_with fail
  go_ret2
  exact ⟨rfl, Below.refl _ _⟩
set_option maxRecDepth 100000 in
theorem wbegin_low (key : ByteArray) (l m : Int) (w : World) (hk : key.size = 16 ∨ key.size = 24 ∨ key.size = 32) (h : l < 8) : Calls Try.prog 63 #[.string key, .int .i64 l, .int .i64 m] w (RetNoW 6 w) := by
  go_enter Try.func63, Try.ntmps63
  go_wp2_with fail
  refine (new_q key _ hk).mono ?_
  rintro e w1 ⟨g, hg, rfl, hQ, hb1⟩
  go_wp2_with fail
  go_ret2
  exact ⟨rfl, hb1⟩
set_option maxRecDepth 100000 in
theorem wbegin_high (key : ByteArray) (l m : Int) (w : World) (hk : key.size = 16 ∨ key.size = 24 ∨ key.size = 32) (h0 : ¬ l < 8) (h : m < l) : Calls Try.prog 63 #[.string key, .int .i64 l, .int .i64 m] w (RetNoW 6 w) := by
  go_enter Try.func63, Try.ntmps63
  go_wp2_with fail
  refine (new_q key _ hk).mono ?_
  rintro e w1 ⟨g, hg, rfl, hQ, hb1⟩
  go_wp2_with fail
  go_ret2
  exact ⟨rfl, hb1⟩
set_option maxRecDepth 100000 in
theorem wbegin_odd (key : ByteArray) (l : Nat) (m : Int) (w : World) (hk : key.size = 16 ∨ key.size = 24 ∨ key.size = 32) (h0 : 8 ≤ l) (h : (l : Int) ≤ m) (hl : l < 9223372036854775808) (h8 : l % 8 ≠ 0) : Calls Try.prog 63 #[.string key, .int .i64 (l : Int), .int .i64 m] w (RetNoW 6 w) := by
  obtain ⟨r, hr⟩ : ∃ r, l % 8 = r := ⟨_, rfl⟩
  have e3 : (l : Int).tmod 8 = (r : Int) := tmod_nat l 8 r hr.symm
  have e4 : IntKind.i64.wrap (r : Int) = (r : Int) := wrap_in _ (by omega) (by omega)
  have e5 : ((r : Int) != 0) = true := by rw [bne_iff_ne]; omega
  have e1 : ¬ (l : Int) < 8 := by omega
  have e2 : ¬ m < (l : Int) := by omega
  clear hr h8 hl h0
  go_enter Try.func63, Try.ntmps63
  go_wp2_with fail
  refine (new_q key _ hk).mono ?_
  rintro e w1 ⟨g, hg, rfl, hQ, hb1⟩
  go_wp2_with fail
  go_ret2
  exact ⟨rfl, hb1⟩
set_option maxRecDepth 100000 in
theorem wbegin_ok (key : ByteArray) (l : Nat) (m : Int) (w : World) (hk : key.size = 16 ∨ key.size = 24 ∨ key.size = 32) (h0 : 8 ≤ l) (h : (l : Int) ≤ m) (hl : l < 9223372036854775808) (h8 : l % 8 = 0) : Calls Try.prog 63 #[.string key, .int .i64 (l : Int), .int .i64 m] w (RetN key.toList w) := by
  have e3 : (l : Int).tmod 8 = 0 := tmod_nat l 8 0 h8.symm
  have e1 : ¬ (l : Int) < 8 := by omega
  have e2 : ¬ m < (l : Int) := by omega
  clear h8 hl h0
  go_enter Try.func63, Try.ntmps63
  go_wp2_with fail
  refine (new_q key _ hk).mono ?_
  rintro e w1 ⟨g, hg, rfl, hQ, hb1⟩
  go_wp2_with fail
  go_ret2
  exact ⟨g, hg, rfl, hQ, hb1⟩
theorem put_eight (t : Nat) (h : t < 100000) : putL t 8 = wnum t ∧ putE t 8 = 0 := by
  have : putOk t 8 = true := by
    rw [putOk, decide_eq_true_iff]
    refine ⟨by decide, by decide, ?_⟩
    show t < 256 ^ 8
    omega
  rw [putL, putE, this]
  exact ⟨rfl, rfl⟩
theorem u64_in (t : Nat) (h : t < 100000) : IntKind.u64.wrap (t : Int) = (t : Int) := by simp [IntKind.wrap, IntKind.bits, IntKind.signed]; omega
set_option maxRecDepth 100000 in
theorem counted_any (a : ByteArray) (t : Nat) (w : World) (ha : a.size = 8) (ht : t < 100000) : Calls Try.prog 65 #[.string a, .int .i64 (t : Int)] w (RetS (wcnt a.toList t) w) := by
  have hu := u64_in t ht
  have HA := Lib.hid ha
  clear ha
  go_enter Try.func65, Try.ntmps65
  go_wp2_with fail
  refine (put_any t 8 _ (by omega)).mono ?_
  rintro e w1 ⟨s, rfl, hs, hb1⟩
  rw [(put_eight t ht).1] at hs
  rw [(put_eight t ht).2]
  have HS := Lib.hid hs
  have hsz : s.size ≤ 140737488351232 := by rw [← tl_size, hs, wnum_length]; decide
  have haz : a.size ≤ 140737488351232 := by rw [HA.out]; decide
  clear hs hu
  go_wp2_with fail
  refine (xor_any a s _ haz hsz).mono ?_
  rintro e w2 ⟨x, rfl, hx, hb2⟩
  go_wp2_with fail
  go_ret
  exact ⟨x, rfl, by rw [hx, HS.out]; rfl, below2 hb1 hb2⟩
set_option maxRecDepth 100000 in
theorem number_any (t : Nat) (w : World) (ht : t < 100000) : Calls Try.prog 66 #[.int .i64 (t : Int)] w (RetS (wnum t) w) := by
  have hu := u64_in t ht
  go_enter Try.func66, Try.ntmps66
  go_wp2_with fail
  refine (rput_any t 8 _ (by omega)).mono ?_
  rintro e w1 ⟨s, rfl, hs, hb1⟩
  rw [(put_eight t ht).1] at hs
  rw [(put_eight t ht).2]
  clear hu
  go_wp2_with fail
  go_ret
  exact ⟨s, rfl, hs, hb1⟩
end Go.Proofs.Ytigegblpledogaa
namespace Go.Proofs.Ytigegblpledogaa
open Go.RowKit
set_option linter.unusedVariables false
set_option linter.unusedSimpArgs false
def valB : ByteArray := ⟨#[166, 166, 166, 166, 166, 166, 166, 166]⟩
theorem valB_tl : valB.toList = wval := by rw [valB, Lib.toList_data]; rfl
theorem Bag.full {w : World} {B : Nat} {v : Value} {l : List UInt8} (h : Bag w B v l) : ∃ g cap, v = .slice (some ⟨g, 0, none⟩) l.length cap ∧ B ≤ g ∧ l.length ≤ cap ∧ At w g 0 (bcells l) := by
  obtain ⟨g, cap, sp, hv, hb, hc, hs, ha⟩ := h
  exact ⟨g, cap, hv, hb, hc, ha.sub (a := []) (b := bcells l) (c := sp)⟩
theorem wpList_bytes_at {P : Program} (w : World) {ops : Array Oper} {rest : List Oper} {o : Oper} {a : Act} {Q : Exit → Act → World → Prop}
    (hg : o.guard = none) (x : Operand) (src dst e : TypeId) (hop : o.op = Op.convert src dst x) (h1 : P.underlying src = some .string) (h2 : P.underlying dst = some (.slice e)) (h3 : P.underlying e = some (.int .u8))
    (s : ByteArray) (hx : a.eval x = .string s) (B : Nat) (hB : B ≤ w.heap.size) (N : Nat) (hN : s.size = N)
    (hK : ∀ g cap w', B ≤ g → N ≤ cap → Hid (At w' g 0 (bcells s.toList)) → Below B w w' → wpList P ops Q rest (a.put o.dst (.slice (some ⟨g, 0, none⟩) N cap)) w') :
    wpList P ops Q (o :: rest) a w := by
  refine wpList_bytes_bag w hg x src dst e hop h1 h2 h3 s hx B hB ?_
  intro v w' hb hbel
  obtain ⟨g, cap, rfl, hgB, hcap, hA⟩ := hb.full
  rw [tl_size, hN] at hcap ⊢
  exact hK g cap w' hgB hcap hA hbel
theorem At.part {w : World} {g : Nat} {l : List UInt8} (h : At w g 0 (bcells l)) (a n : Nat) : At w g a (bcells ((l.drop a).take n)) := fun j v hv => by
  obtain ⟨hj, rfl⟩ := List.getElem?_eq_some_iff.1 hv
  rw [bcells_length, List.length_take, List.length_drop] at hj
  have hk : a + j < l.length := by omega
  have := h (a + j) _ (bcells_get l (a + j) hk)
  rw [Nat.zero_add] at this
  have e : (bcells ((l.drop a).take n))[j]'(by rw [bcells_length, List.length_take, List.length_drop]; exact hj) = .int .u8 (l[a + j].toNat : Int) := by
    simp [bcells]
  rw [e]
  exact this
theorem At.part0 {w : World} {g : Nat} {l : List UInt8} (h : At w g 0 (bcells l)) (n : Nat) : At w g 0 (bcells (l.take n)) := h.part 0 n
theorem At.splice {w w' : World} {g o : Nat} {l X : List UInt8} (h : At w g 0 (bcells l)) (ho : o + X.length ≤ l.length) (hw : w' = w.setCells g o (bcells X)) : At w' g 0 (bcells (l.take o ++ (X ++ l.drop (o + X.length)))) := by
  have e : l = l.take o ++ ((l.drop o).take X.length ++ l.drop (o + X.length)) := by
    rw [← List.drop_drop, List.take_append_drop, List.take_append_drop]
  rw [e] at h
  exact h.midSet (A := l.take o) (by rw [List.length_take]; omega) (by rw [List.length_take, List.length_drop]; omega) hw
theorem At.tail {w : World} {g : Nat} {l : List UInt8} (h : At w g 0 (bcells l)) (a : Nat) : At w g a (bcells (l.drop a)) := by
  have := h.part a (l.length - a)
  rwa [List.take_of_length_le (by rw [List.length_drop]; exact Nat.le_refl _)] at this
def spl (l : List UInt8) (o : Nat) (X : List UInt8) : List UInt8 := l.take o ++ (X ++ l.drop (o + X.length))
theorem spl_length (l X : List UInt8) (o : Nat) (h : o + X.length ≤ l.length) : (spl l o X).length = l.length := by
  rw [spl, List.length_append, List.length_append, List.length_take, List.length_drop]
  omega
theorem spl3 (H X Y : List UInt8) (N : Nat) (hN : H.length = N) (h : 24 ≤ N) (hX : X.length = 8) (hY : Y.length = 8) :
    spl (spl (spl H 0 X) 8 ((spl H 0 X).drop 16)) (N - 8) Y = X ++ (H.drop 16 ++ Y) := by
  have e1 : spl H 0 X = X ++ H.drop 8 := by rw [spl, List.take_zero, List.nil_append, hX, Nat.zero_add]
  have e2 : (X ++ H.drop 8).drop 16 = H.drop 16 := by rw [show 16 = 8 + 8 from rfl, ← List.drop_drop, List.drop_left' hX, List.drop_drop]
  have hd : (H.drop 16).length = N - 16 := by rw [List.length_drop, hN]
  have e3 : spl (X ++ H.drop 8) 8 (H.drop 16) = X ++ (H.drop 16 ++ (X ++ H.drop 8).drop (N - 8)) := by
    rw [spl, hd, show 8 + (N - 16) = N - 8 by omega, List.take_left' hX]
  rw [e1, e2, e3, spl, hY]
  have hl : (X ++ (H.drop 16 ++ (X ++ H.drop 8).drop (N - 8))).length = N := by
    rw [List.length_append, List.length_append, hd, List.length_drop, List.length_append, List.length_drop, hX, hN]
    omega
  have hz : (X ++ (H.drop 16 ++ (X ++ H.drop 8).drop (N - 8))).drop (N - 8 + 8) = [] := List.drop_of_length_le (by omega)
  rw [hz, List.append_nil, ← List.append_assoc X, List.take_left' (by rw [List.length_append, hd, hX]; omega), List.append_assoc]
set_option maxRecDepth 100000 in
set_option maxHeartbeats 1600000 in
theorem wWrap_ok (key text : ByteArray) (w : World) (hk : key.size = 16 ∨ key.size = 24 ∨ key.size = 32) (hm : text.size % 8 = 0) (h1 : 16 ≤ text.size) (h2 : text.size ≤ 1024) :
    Calls Try.prog 37 #[.string key, .string text] w (RetSE (wraF key.toList text.toList) 0 w) := by
  obtain ⟨i0, hi, hz0, hz1, hz2⟩ := info_parts info5
  have hu8 : (Try.prog.info? 5).map (·.size) = some 1 := by rw [hi]; simp [hz1]
  obtain ⟨l, hl⟩ : ∃ l, l = text.size - 8 := ⟨_, rfl⟩
  have f1 : (text.size : Int) - 8 = (l : Int) := by omega
  have f2 : IntKind.i64.wrap (l : Int) = (l : Int) := wrap_in _ (by omega) (by omega)
  have fl1 : 8 ≤ l := by omega
  have fl2 : (l : Int) ≤ 1016 := by omega
  have fl3 : l < 9223372036854775808 := by omega
  have HL8 : Hid (l % 8 = 0) := by show _ = _; omega
  have HM := Lib.hid hm
  clear hl
  have hov : ¬ 9223372036854775807 < 8 + text.size := by omega
  obtain ⟨q, hq⟩ : ∃ q, q = 6 * text.size := ⟨_, rfl⟩
  obtain ⟨M, hM⟩ : ∃ M, M = q / 8 := ⟨_, rfl⟩
  have g1 : 6 * (text.size : Int) = (q : Int) := by omega
  have g2 : IntKind.i64.wrap (q : Int) = (q : Int) := wrap_in _ (by omega) (by omega)
  have g3 : (q : Int) / 8 = (M : Int) := by omega
  have g4 : IntKind.i64.wrap (M : Int) = (M : Int) := wrap_in _ (by omega) (by omega)
  have HMM : Hid (M = 6 * (text.toList.length / 8)) := by show _ = _; rw [tl_size]; omega
  have hM0 : M ≤ 1000 := by omega
  clear hq hM hm
  go_enter Try.func37, Try.ntmps37
  go_wp2_with fail
  refine (wbegin_ok key l 1016 _ hk fl1 fl2 fl3 HL8.out).mono ?_
  rintro e w1 ⟨g, hg, rfl, hQ, hb1⟩
  have hgl := hQ.lt
  obtain ⟨H0, hH0⟩ : ∃ H0, (ByteArray.mk #[166, 166, 166, 166, 166, 166, 166, 166] ++ text).toList = H0 := ⟨_, rfl⟩
  have hH1 : H0 = wval ++ text.toList := by rw [← hH0, tl_append]; exact congrArg (· ++ text.toList) valB_tl
  obtain ⟨N, hN⟩ : ∃ N, H0.length = N := ⟨_, rfl⟩
  have hNt : N = text.size + 8 := by rw [← hN, hH1, List.length_append, tl_size, show wval.length = 8 from rfl]; omega
  have HSZ : Hid ((ByteArray.mk #[166, 166, 166, 166, 166, 166, 166, 166] ++ text).size = N) := by show _ = _; rw [← tl_size, hH0, hN]
  have hNb : N ≤ 1032 := by omega
  have hNl : 24 ≤ N := by omega
  have k1 : (N : Int) - 8 = (text.size : Int) := by omega
  have k2 : IntKind.i64.wrap (text.size : Int) = (text.size : Int) := wrap_in _ (by omega) (by omega)
  have HN := Lib.hid hN
  have HH0 := Lib.hid hH0
  have HH1 := Lib.hid hH1
  have HNT := Lib.hid hNt
  clear hH0 hH1 hN hNt
  go_wp2_with (refine wpList_bytes_at _ rfl (.tmp 25) 9 52 5 rfl Try.underlying9 Try.underlying52 Try.underlying5 (ByteArray.mk #[166, 166, 166, 166, 166, 166, 166, 166] ++ text) rfl w1.heap.size (Nat.le_refl _) N HSZ.out ?_; intro gh cap w2 hgB hcap HA hbel)
  have HA : Hid (At w2 gh 0 (bcells H0)) := by rw [← HH0.out]; exact HA
  have hQ2 := hQ.below hbel hgl
  have hb2 := hb1.trans (hbel.mono hb1.size)
  have hgl2 : g < w2.heap.size := Nat.lt_of_lt_of_le hgl hbel.size
  have hghl : gh < w2.heap.size := HA.out.lt (by rw [Ne, ← List.length_eq_zero_iff, bcells_length, HN.out]; omega)
  have hggh : g < gh := Nat.lt_of_lt_of_le hgl hgB
  have hwg : w.heap.size ≤ gh := Nat.le_trans hb1.size hgB
  have HQ := Lib.hid hQ2
  clear hQ2 hQ
  go_loopw [10] (fun a wr => ∃ s t : Nat, t = s + 1 ∧ a = .int .i64 (t : Int) ∧ s ≤ M ∧ At wr gh 0 (bcells (wrun key.toList H0 s)) ∧ Ciq wr g key.toList ∧ Below w.heap.size w wr ∧ gh < wr.heap.size) (fun a _ => M + 1 - (intOf a).toNat)
  case atStart => exact ⟨0, 1, rfl, rfl, Nat.zero_le _, HA.out, HQ.out, hb2, hghl⟩
  case round =>
    clear HA HQ hb2 hghl hgl2 hbel hgl hb1
    obtain ⟨s, t, ht, rfl, hsM, hA, hQ, hbel, hghl⟩ := hrel
    obtain ⟨H, hH⟩ : ∃ H, wrun key.toList H0 s = H := ⟨_, rfl⟩
    rw [hH] at hA
    have hHl : H.length = N := by rw [← hH, wrun_length _ _ (by rw [HN.out]; omega), HN.out]
    have HT := Lib.hid ht
    have HH := Lib.hid hH
    have HHL := Lib.hid hHl
    by_cases hlt : t ≤ M
    · have hltI : (t : Int) ≤ (M : Int) := by omega
      have htb : t < 100000 := by omega
      have hcv := convert_at (P := Try.prog) (cap := cap) (hA.part0 16) 52 9 5 16 (by rw [List.length_take, hHl]; omega) Try.underlying52 Try.underlying5 Try.underlying9
      obtain ⟨c1, hc1⟩ : ∃ c : ByteArray, (⟨(H.take 16).toArray⟩ : ByteArray) = c := ⟨_, rfl⟩
      rw [hc1] at hcv
      have hc1l : c1.toList = H.take 16 := by rw [← hc1, tl_mk]
      have hc1s : c1.size = 16 := by rw [← tl_size, hc1l, List.length_take, hHl]; omega
      have i1 : (16 : Int) ≤ (cap : Int) := by omega
      have i2 : 16 ≤ cap := by omega
      have HA := Lib.hid hA
      have HC1L := Lib.hid hc1l
      have HC1S := Lib.hid hc1s
      clear ht hH hHl hc1 hc1l hc1s hA
      go_wp2_with fail
      refine (enc_q c1 _ g key.toList hQ HC1S.out).mono ?_
      rintro e w3 ⟨s1, rfl, hs1, hQ3, hb3⟩
      rw [HC1L.out] at hs1
      have hs1s : s1.size = 16 := by rw [← tl_size, hs1, encL_length]
      have hb03 := hbel.trans (hb3.mono hbel.size)
      have hghl3 : gh < w3.heap.size := Nat.lt_of_lt_of_le hghl hb3.size
      have hA3 := HA.out.below hb3 hghl
      have hA3' : Hid (At w3 gh 0 (bcells H)) := hA3
      have i3 : (8 : Int) ≤ (s1.size : Int) := by omega
      have i4 : 8 ≤ s1.size := by omega
      have hx8 : (s1.extract 0 8).size = 8 := by rw [← tl_size, tl_ext0, List.length_take, tl_size, hs1s]; rfl
      have hx8l : (s1.extract 0 8).toList = (encL key.toList (H.take 16)).take 8 := by rw [tl_ext0, hs1]
      have HS1 := Lib.hid hs1
      have HS1S := Lib.hid hs1s
      have HX8 := Lib.hid hx8
      have HX8L := Lib.hid hx8l
      have HQ3 := Lib.hid hQ3
      clear hs1 hs1s hx8 hx8l hA3 hQ3 hcv hbel hb3 hghl HA hQ
      go_wp2_with fail
      refine (counted_any (s1.extract 0 8) t _ HX8.out htb).mono ?_
      rintro e w4 ⟨x, rfl, hx, hb4⟩
      rw [HX8L.out] at hx
      have hxl : x.toList.length = 8 := by rw [hx, wcnt_length _ _ (by rw [List.length_take, encL_length]; rfl)]
      have hxs : x.size = 8 := by rw [← tl_size, hxl]
      have hb04 := hb03.trans (hb4.mono hb03.size)
      have hghl4 : gh < w4.heap.size := Nat.lt_of_lt_of_le hghl3 hb4.size
      have hA4 := hA3'.out.below hb4 hghl3
      have hQ4 := HQ3.out.below hb4 HQ3.out.lt
      have hcp := run_copy_text (P := Try.prog) 52 9 3 5 gh 0 N cap x (bcells (H.take 8)) Try.underlying52 hu8 (hA4.part0 8) 8 (by rw [hxs]; exact Nat.min_eq_left (by omega)) (by rw [bcells_length, List.length_take, HHL.out]; omega)
      rw [List.take_of_length_le (by omega)] at hcp
      generalize hw5 : w4.setCells gh 0 (bcells x.toList) = w5 at hcp
      have hA5 : At w5 gh 0 (bcells (spl H 0 x.toList)) := hA4.splice (by rw [hxl, HHL.out]; omega) hw5.symm
      have hbw5 : Below gh w4 w5 := below_copy (Below.refl _ _) (Nat.le_refl _) hw5.symm
      have hb05 : Below w.heap.size w w5 := below_copy hb04 hwg hw5.symm
      have hQ5 := hQ4.below hbw5 hggh
      have hghl5 : gh < w5.heap.size := Nat.lt_of_lt_of_le hghl4 hbw5.size
      obtain ⟨H1, hH1⟩ : ∃ H1, spl H 0 x.toList = H1 := ⟨_, rfl⟩
      rw [hH1] at hA5
      have hH1l : H1.length = N := by rw [← hH1, spl_length _ _ _ (by rw [hxl, HHL.out]; omega), HHL.out]
      have HA5 := Lib.hid hA5
      have HA5d : Hid (At w5.drew gh 0 (bcells H1)) := hA5
      have HQ5 := Lib.hid hQ5
      have HH1x := Lib.hid hH1
      have HH1L := Lib.hid hH1l
      have HX := Lib.hid hx
      have HXL := Lib.hid hxl
      have j1 : (8 : Int) ≤ (N : Int) := by omega
      have j2 : (16 : Int) ≤ (N : Int) := by omega
      have j3 : 8 ≤ N := by omega
      have j4 : 16 ≤ N := by omega
      have j5 : ¬ cap = 8 := by omega
      have j6 : ¬ cap = 16 := by omega
      have j7 : ((cap : Int) == 8) = false := by rw [beq_eq_false_iff_ne]; omega
      have j8 : ((cap : Int) == 16) = false := by rw [beq_eq_false_iff_ne]; omega
      clear hw5 hA5 hbw5 hQ5 hH1 hH1l hx hxl hxs hA4 hQ4 hb4 hb04 hghl4 hA3' HQ3 hb03 hghl3
      go_wp2_with fail
      have hl16 : (H1.drop 16).length = N - 16 := by rw [List.length_drop, HH1L.out]
      have HL16 := Lib.hid hl16
      have HO8 : Hid ((bcells ((H1.drop 8).take (N - 16))).length = (bcells (H1.drop 16)).length) := by show _ = _; rw [bcells_length, bcells_length, hl16, List.length_take, List.length_drop, HH1L.out]; omega
      have HMN : Hid ((bcells (H1.drop 16)).length = Nat.min (N - 16) (N - 8)) := by show _ = _; rw [bcells_length, hl16]; exact (Nat.min_eq_left (by omega)).symm
      clear hl16
      go_region_law (refine step_copy_at rfl (.tmp 53) (.tmp 55) 52 52 rfl 5 Try.underlying52 hu8 gh 8 (N - 8) (cap - 8) rfl gh 16 (N - 16) (cap - 16) rfl (bcells (H1.drop 16)) (bcells ((H1.drop 8).take (N - 16))) (HA5d.out.tail 16) (HA5d.out.part 8 (N - 16)) HO8.out HMN.out (bcells_one _) ?_; intro w6 hw6)
      have hw6' := hw6.out
      have hA6 : At w6 gh 0 (bcells (spl H1 8 (H1.drop 16))) := HA5d.out.splice (by rw [HL16.out, HH1L.out]; omega) hw6'
      have hbw6 : Below gh w5 w6 := below_copy (Below.refl _ _).drew (Nat.le_refl _) hw6'
      have hb06 : Below w.heap.size w w6 := hb05.trans (hbw6.mono hwg)
      have hQ6 := HQ5.out.below hbw6 hggh
      have hghl6 : gh < w6.heap.size := Nat.lt_of_lt_of_le hghl5 hbw6.size
      obtain ⟨H2, hH2⟩ : ∃ H2, spl H1 8 (H1.drop 16) = H2 := ⟨_, rfl⟩
      rw [hH2] at hA6
      have hH2l : H2.length = N := by rw [← hH2, spl_length _ _ _ (by rw [HL16.out, HH1L.out]; omega), HH1L.out]
      have hy : (s1.extract 8 s1.size).toList = (encL key.toList (H.take 16)).drop 8 := by rw [tl_extE _ _ _ rfl, HS1.out]
      have hyl : (s1.extract 8 s1.size).toList.length = 8 := by rw [hy, List.length_drop, encL_length]
      have hys : (s1.extract 8 s1.size).size = 8 := by rw [← tl_size, hyl]
      have HA6 := Lib.hid hA6
      have HA6d : Hid (At w6.drew gh 0 (bcells H2)) := hA6
      have HQ6 := Lib.hid hQ6
      have HH2x := Lib.hid hH2
      have HH2L := Lib.hid hH2l
      have HY := Lib.hid hy
      have HYL := Lib.hid hyl
      have HYS := Lib.hid hys
      have HO3 : Hid ((bcells ((H2.drop text.size).take 8)).length = 8) := by show _ = _; rw [bcells_length, List.length_take, List.length_drop, HH2L.out]; have := HNT.out; omega
      have HM3 : Hid (Nat.min (s1.extract 8 s1.size).size (N - text.size) = 8) := by show _ = _; rw [hys]; have := HNT.out; exact Nat.min_eq_left (by omega)
      have m1 : (text.size : Int) ≤ (N : Int) := by omega
      have m2 : text.size ≤ N := by omega
      have m3 : ¬ cap = text.size := by have := HNT.out; omega
      have m4 : (0 : Int) ≤ (text.size : Int) := by omega
      have m5 : ((cap : Int) == (text.size : Int)) = false := by rw [beq_eq_false_iff_ne]; have := HNT.out; omega
      clear hw6 hw6' hA6 hbw6 hQ6 hH2 hH2l hy hyl hys HA5 HA5d HQ5 hb05 hghl5
      go_wp2_with fail
      go_region_law (refine step_copy_text rfl (.tmp 59) (.tmp 61) 52 9 rfl 5 Try.underlying52 hu8 gh text.size (N - text.size) (cap - text.size) rfl (s1.extract 8 s1.size) rfl (bcells ((H2.drop text.size).take 8)) (HA6d.out.part text.size 8) 8 HM3.out HO3.out ?_; intro w7 hw7)
      have hw7' := hw7.out
      rw [List.take_of_length_le (by rw [HYL.out]; exact Nat.le_refl _)] at hw7'
      have hA7 : At w7 gh 0 (bcells (spl H2 text.size (s1.extract 8 s1.size).toList)) := HA6d.out.splice (by rw [HYL.out, HH2L.out]; have := HNT.out; omega) hw7'
      have hbw7 : Below gh w6 w7 := below_copy (Below.refl _ _).drew (Nat.le_refl _) hw7'
      have hb07 : Below w.heap.size w w7 := hb06.trans (hbw7.mono hwg)
      have hQ7 := HQ6.out.below hbw7 hggh
      have hghl7 : gh < w7.heap.size := Nat.lt_of_lt_of_le hghl6 hbw7.size
      have hfin : spl H2 text.size (s1.extract 8 s1.size).toList = wrun key.toList H0 t := by
        have hts : text.size = N - 8 := by have := HNT.out; omega
        rw [HT.out, wrun, HH.out, ← HT.out, ← HH2x.out, ← HH1x.out, hts, spl3 H _ _ N HHL.out hNl HXL.out HYL.out, HX.out, HY.out, wstep]
      rw [hfin] at hA7
      have HA7 := Lib.hid hA7
      have HQ7 := Lib.hid hQ7
      have n1 : IntKind.i64.wrap ((t : Int) + 1) = (t : Int) + 1 := wrap_in _ (by omega) (by omega)
      clear hw7 hw7' hA7 hbw7 hQ7 hfin HA6 HA6d HQ6 hb06 hghl6
      go_wp2_with fail
      go_roundw
      case rel => exact ⟨t, t + 1, rfl, by go_num, hlt, HA7.out, HQ7.out, hb07, hghl7⟩
      case measure => simp [intOf]; omega
    · have hsM2 : s = M := by have := HT.out; omega
      subst hsM2
      have hltI : ¬ (t : Int) ≤ (s : Int) := by omega
      have hcv := convert_at (P := Try.prog) (cap := cap) hA 52 9 5 N hHl Try.underlying52 Try.underlying5 Try.underlying9
      clear ht hH hHl hA
      go_wp2_with fail
      go_ret2
      exact ret_se (tl_mk _) (by rw [wraF, ← HH.out, HH1.out, HMM.out]) rfl hbel
end Go.Proofs.Ytigegblpledogaa
namespace Go.Proofs.Ytigegblpledogaa
open Go.RowKit
set_option linter.unusedVariables false
set_option linter.unusedSimpArgs false
def RetSSE (l m : List UInt8) (c : Int) (w : World) (e : Ending) (w' : World) : Prop := ∃ s t : ByteArray, e = .returned (.tuple #[.string s, .string t, .int .i64 c]) ∧ s.toList = l ∧ t.toList = m ∧ Below w.heap.size w w'
theorem ret_sse {l m l' m' : List UInt8} {c d : Int} {w w' : World} {s t : ByteArray} (hl : s.toList = l) (hm : t.toList = m) (h1 : l = l') (h2 : m = m') (hc : c = d) (hb : Below w.heap.size w w') : RetSSE l' m' d w (.returned (.tuple #[.string s, .string t, .int .i64 c])) w' := by
  subst h1 h2 hc
  exact ⟨s, t, rfl, hl, hm, hb⟩
theorem convert_off {P : Program} {w : World} {g o cap : Nat} {l : List UInt8} (h : At w g o (bcells l)) (src dst e : TypeId) (n : Nat) (hn : l.length = n)
    (hs : P.underlying src = some (.slice e)) (he : P.underlying e = some (.int .u8)) (hd : P.underlying dst = some .string) : (convert src dst (.slice (some ⟨g, o, none⟩) n cap)).run P w = .ok (.string ⟨l.toArray⟩) w := by
  subst hn
  refine run_convert_bytes_back w src dst e ⟨g, o, none⟩ cap l hs he hd fun j hj => ?_
  have hc := h.cell j _ (bcells_get l j hj)
  have : (⟨g, o, none⟩ : Addr).add j = ⟨g, o + j, none⟩ := by unfold Addr.add; split <;> simp_all
  rw [this]
  exact hc
theorem spl_u (H Y : List UInt8) (N : Nat) (hN : H.length = N) (h : 24 ≤ N) (hY : Y.length = 16) :
    spl (spl H 16 ((H.drop 8).take (N - 16))) 0 Y = Y ++ (H.drop 8).take (N - 16) := by
  have hd : ((H.drop 8).take (N - 16)).length = N - 16 := by rw [List.length_take, List.length_drop, hN]; omega
  have e1 : spl H 16 ((H.drop 8).take (N - 16)) = H.take 16 ++ (H.drop 8).take (N - 16) := by
    have hz : H.drop (16 + (N - 16)) = [] := List.drop_of_length_le (by omega)
    rw [spl, hd, hz, List.append_nil]
  rw [e1, spl, List.take_zero, List.nil_append, hY, Nat.zero_add, List.drop_left' (by rw [List.length_take]; omega)]
set_option maxRecDepth 100000 in
set_option maxHeartbeats 1600000 in
theorem vValue_ok (key text : ByteArray) (w : World) (hk : key.size = 16 ∨ key.size = 24 ∨ key.size = 32) (hm : text.size % 8 = 0) (h1 : 24 ≤ text.size) (h2 : text.size ≤ 1032) :
    Calls Try.prog 42 #[.string key, .string text] w (RetSSE ((valF key.toList text.toList).take 8) ((valF key.toList text.toList).drop 8) 0 w) := by
  obtain ⟨i0, hi, hz0, hz1, hz2⟩ := info_parts info5
  have hu8 : (Try.prog.info? 5).map (·.size) = some 1 := by rw [hi]; simp [hz1]
  obtain ⟨l, hl⟩ : ∃ l, l = text.size - 16 := ⟨_, rfl⟩
  have f1 : (text.size : Int) - 16 = (l : Int) := by omega
  have f2 : IntKind.i64.wrap (l : Int) = (l : Int) := wrap_in _ (by omega) (by omega)
  have fl1 : 8 ≤ l := by omega
  have fl2 : (l : Int) ≤ 1016 := by omega
  have fl3 : l < 9223372036854775808 := by omega
  have HL8 : Hid (l % 8 = 0) := by show _ = _; omega
  obtain ⟨N, hN⟩ : ∃ N, text.size = N := ⟨_, rfl⟩
  obtain ⟨L, hL⟩ : ∃ L, L = N - 8 := ⟨_, rfl⟩
  obtain ⟨q, hq⟩ : ∃ q, q = 6 * L := ⟨_, rfl⟩
  obtain ⟨M, hM⟩ : ∃ M, M = q / 8 := ⟨_, rfl⟩
  have k1 : (N : Int) - 8 = (L : Int) := by omega
  have k2 : IntKind.i64.wrap (L : Int) = (L : Int) := wrap_in _ (by omega) (by omega)
  have g1 : 6 * (L : Int) = (q : Int) := by omega
  have g2 : IntKind.i64.wrap (q : Int) = (q : Int) := wrap_in _ (by omega) (by omega)
  have g3 : (q : Int) / 8 = (M : Int) := by omega
  have g4 : IntKind.i64.wrap (M : Int) = (M : Int) := wrap_in _ (by omega) (by omega)
  have HMM : Hid (M = 6 * (text.toList.length / 8 - 1)) := by show _ = _; rw [tl_size]; omega
  have hM0 : M ≤ 1000 := by omega
  have hNb : N ≤ 1032 := by omega
  have hNl : 24 ≤ N := by omega
  have HN := Lib.hid hN
  have HLL := Lib.hid hL
  clear hq hM hm hl hN hL
  go_enter Try.func42, Try.ntmps42
  go_wp2_with fail
  refine (wbegin_ok key l 1016 _ hk fl1 fl2 fl3 HL8.out).mono ?_
  rintro e w1 ⟨g, hg, rfl, hQ, hb1⟩
  have hgl := hQ.lt
  go_wp2_with (refine wpList_bytes_at _ rfl (.tmp 25) 9 52 5 rfl Try.underlying9 Try.underlying52 Try.underlying5 text rfl w1.heap.size (Nat.le_refl _) N HN.out ?_; intro gh cap w2 hgB hcap HA hbel)
  have hQ2 := hQ.below hbel hgl
  have hb2 := hb1.trans (hbel.mono hb1.size)
  have hgl2 : g < w2.heap.size := Nat.lt_of_lt_of_le hgl hbel.size
  have hghl : gh < w2.heap.size := HA.out.lt (by rw [Ne, ← List.length_eq_zero_iff, bcells_length, tl_size, HN.out]; omega)
  have hggh : g < gh := Nat.lt_of_lt_of_le hgl hgB
  have hg0 : w.heap.size ≤ w.heap.size := Nat.le_refl _
  have hg1 : w.heap.size ≤ g := hg
  have hwg : w.heap.size ≤ gh := Nat.le_trans hb1.size hgB
  have HQ := Lib.hid hQ2
  clear hQ2 hQ
  go_loopw [11] (fun a wr => ∃ t : Nat, a = .int .i64 (t : Int) ∧ t ≤ M ∧ (∃ H : List UInt8, H.length = N ∧ urun key.toList H t = urun key.toList text.toList M ∧ At wr gh 0 (bcells H)) ∧ Ciq wr g key.toList ∧ Below w.heap.size w wr ∧ gh < wr.heap.size) (fun a _ => (intOf a).toNat)
  case atStart => exact ⟨M, rfl, Nat.le_refl _, ⟨_, by rw [tl_size, HN.out], rfl, HA.out⟩, HQ.out, hb2, hghl⟩
  case round =>
    clear HA HQ hb2 hghl hgl2 hbel hgl hb1
    obtain ⟨t, rfl, htM, ⟨H, hHl, hH, hA⟩, hQ, hbel, hghl⟩ := hrel
    have HH := Lib.hid hH
    have HHL := Lib.hid hHl
    have i1 : (8 : Int) ≤ (cap : Int) := by omega
    have i2 : 8 ≤ cap := by omega
    have i3 : (L : Int) ≤ (N : Int) := by omega
    have i4 : L ≤ N := by omega
    have i5 : (0 : Int) ≤ (L : Int) := by omega
    have i6 : ¬ cap = L := by omega
    have i7 : ((cap : Int) == (L : Int)) = false := by rw [beq_eq_false_iff_ne]; omega
    by_cases hlt : 0 < t
    · have hltI : (0 : Int) < (t : Int) := by omega
      have htb : t < 100000 := by omega
      have hcvA : ∀ {w' : World}, At w' gh 0 (bcells H) → (convert 52 9 (.slice (some ⟨gh, 0, none⟩) 8 cap)).run Try.prog w' = .ok (.string ⟨(H.take 8).toArray⟩) w' := fun h => convert_off (h.part0 8) _ _ 5 8 (by rw [List.length_take, hHl]; omega) Try.underlying52 Try.underlying5 Try.underlying9
      have hcvB : ∀ {w' : World}, At w' gh 0 (bcells H) → (convert 52 9 (.slice (some ⟨gh, L, none⟩) (N - L) (cap - L))).run Try.prog w' = .ok (.string ⟨(H.drop L).toArray⟩) w' := fun h => convert_off (h.tail L) _ _ 5 (N - L) (by rw [List.length_drop, hHl]) Try.underlying52 Try.underlying5 Try.underlying9
      obtain ⟨c1, hc1⟩ : ∃ c : ByteArray, (⟨(H.take 8).toArray⟩ : ByteArray) = c := ⟨_, rfl⟩
      obtain ⟨c2, hc2⟩ : ∃ c : ByteArray, (⟨(H.drop L).toArray⟩ : ByteArray) = c := ⟨_, rfl⟩
      rw [hc1] at hcvA
      rw [hc2] at hcvB
      have hc1l : c1.toList = H.take 8 := by rw [← hc1, tl_mk]
      have hc2l : c2.toList = H.drop L := by rw [← hc2, tl_mk]
      have hc1s : c1.size = 8 := by rw [← tl_size, hc1l, List.length_take, hHl]; omega
      have hc2s : c2.size = 8 := by rw [← tl_size, hc2l, List.length_drop, hHl]; omega
      have HA := Lib.hid hA
      have HC1L := Lib.hid hc1l
      have HC1S := Lib.hid hc1s
      have HC2L := Lib.hid hc2l
      have HC2S := Lib.hid hc2s
      have HCV : ∀ w' : World, Hid (At w' gh 0 (bcells H)) → (convert 52 9 (.slice (some ⟨gh, 0, none⟩) 8 cap)).run Try.prog w' = .ok (.string c1) w' ∧ (convert 52 9 (.slice (some ⟨gh, L, none⟩) (N - L) (cap - L))).run Try.prog w' = .ok (.string c2) w' := fun w' h => ⟨hcvA h.out, hcvB h.out⟩
      have HCVH := Lib.hid HCV
      clear hHl hc1 hc1l hc1s hc2 hc2l hc2s hA hH hcvA hcvB HCV
      have hQd : Hid (Ciq wr.drew g key.toList) := hQ
      have HAd : Hid (At wr.drew gh 0 (bcells H)) := HA
      go_wp2_with fail
      go_region_held3 (fun w' => (convert 52 9 (.slice (some ⟨gh, 0, none⟩) 8 cap)).run Try.prog w' = .ok (.string c1) w' ∧ (convert 52 9 (.slice (some ⟨gh, L, none⟩) (N - L) (cap - L))).run Try.prog w' = .ok (.string c2) w') (first | exact HCVH.out _ HA4 | exact HCVH.out _ HA3 | exact HCVH.out _ HA) (first | (go_at_call 65; refine (counted_any c1 t _ HC1S.out htb).mono ?_; rintro e w3 ⟨x, rfl, hx, hb3⟩; have HX := Lib.hid hx; have HA3 : Hid (At w3 gh 0 (bcells H)) := (HAd.out.below hb3 hghl); have HQ3 := Lib.hid (hQd.out.below hb3 hQd.out.lt); have HXS : Hid ((x ++ c2).size = 16) := (by show _ = _; rw [ByteArray.size_append, ← tl_size x, HX.out, wcnt_length _ _ (by rw [HC1L.out, List.length_take, HHL.out]; omega), HC2S.out]); have hov : ¬ 9223372036854775807 < x.size + c2.size := (by have := HXS.out; rw [ByteArray.size_append] at this; omega); clear hx) | (go_at_call 68; refine (dec_q (x ++ c2) _ g key.toList HQ3.out HXS.out).mono ?_; rintro e w4 ⟨s1, rfl, hs1, hQ4, hT4⟩; have HA4 : Hid (At w4 gh 0 (bcells H)) := (HA3.out.turn hT4 (.inl (by omega)))))
      have hb3' : Below wr.heap.size wr w3 := (Below.refl _ _).drew.trans hb3
      have hb03 := hbel.trans (hb3'.mono hbel.size)
      have hg3 : g < w3.heap.size := HQ3.out.lt
      have hb04 := hb03.trans (hT4.toBelow hg3 (Nat.le_trans hg0 hg1))
      have hghl4 : gh < w4.heap.size := Nat.lt_of_lt_of_le (Nat.lt_of_lt_of_le hghl hb3'.size) hT4.size
      have hs1l : s1.toList = decL key.toList (wcnt (H.take 8) t ++ H.drop L) := by rw [hs1, tl_append, HX.out, HC1L.out, HC2L.out]
      have hs1n : s1.toList.length = 16 := by rw [hs1l, decL_length]
      have hs1s : s1.size = 16 := by rw [← tl_size, hs1n]
      have HS1 := Lib.hid hs1l
      have HS1N := Lib.hid hs1n
      have HS1S := Lib.hid hs1s
      have HA4d : Hid (At w4.drew gh 0 (bcells H)) := HA4
      have HQ4 := Lib.hid hQ4
      have hLL : L = N - 8 := HLL.out
      have hcl : ((H.drop 8).take (N - 16)).length = N - 16 := by rw [List.length_take, List.length_drop, HHL.out]; omega
      have HCL := Lib.hid hcl
      have HOL : Hid ((bcells (H.drop 16)).length = (bcells ((H.drop 8).take (N - 16))).length) := by show _ = _; rw [bcells_length, bcells_length, hcl, List.length_drop, HHL.out]
      have HMN : Hid ((bcells ((H.drop 8).take (N - 16))).length = Nat.min (L - 8) (N - 16)) := by show _ = _; rw [bcells_length, hcl]; exact (Nat.min_eq_right (by omega)).symm
      have n1 : (16 : Int) ≤ (N : Int) := by omega
      have n2 : 16 ≤ N := by omega
      have n3 : ¬ cap = 16 := by omega
      have n4 : ((cap : Int) == 16) = false := by rw [beq_eq_false_iff_ne]; omega
      have n5 : ¬ cap = 8 := by omega
      have n6 : ((cap : Int) == 8) = false := by rw [beq_eq_false_iff_ne]; omega
      have n7 : (8 : Int) ≤ (L : Int) := by omega
      have n8 : 8 ≤ L := by omega
      have n9 : (L : Int) ≤ (cap : Int) := by omega
      have n10 : L ≤ cap := by omega
      clear hs1 hs1l hs1n hs1s hcl hLL hQ4 hT4 hb3 hb3' hb03 hg3 HQ3 HA3 HX HXS hov HAd hQd HCVH HA hQ hbel hghl HC1L HC1S HC2L HC2S
      go_wp2_with fail
      go_region_law (refine step_copy_at rfl (.tmp 53) (.tmp 56) 52 52 rfl 5 Try.underlying52 hu8 gh 16 (N - 16) (cap - 16) rfl gh 8 (L - 8) (cap - 8) rfl (bcells ((H.drop 8).take (N - 16))) (bcells (H.drop 16)) (HA4d.out.part 8 (N - 16)) (HA4d.out.tail 16) HOL.out HMN.out (bcells_one _) ?_; intro w5 hw5)
      have hw5' := hw5.out
      have hA5 : At w5 gh 0 (bcells (spl H 16 ((H.drop 8).take (N - 16)))) := HA4d.out.splice (by rw [HCL.out, HHL.out]; omega) hw5'
      have hbw5 : Below gh w4 w5 := below_copy (Below.refl _ _).drew (Nat.le_refl _) hw5'
      have hb05 : Below w.heap.size w w5 := hb04.trans (hbw5.mono hwg)
      have hQ5 := HQ4.out.below hbw5 hggh
      have hghl5 : gh < w5.heap.size := Nat.lt_of_lt_of_le hghl4 hbw5.size
      obtain ⟨H1, hH1⟩ : ∃ H1, spl H 16 ((H.drop 8).take (N - 16)) = H1 := ⟨_, rfl⟩
      rw [hH1] at hA5
      have hH1l : H1.length = N := by rw [← hH1, spl_length _ _ _ (by rw [HCL.out, HHL.out]; omega), HHL.out]
      have hcp := run_copy_text (P := Try.prog) 52 9 3 5 gh 0 N cap s1 (bcells (H1.take 16)) Try.underlying52 hu8 (hA5.part0 16) 16 (by rw [HS1S.out]; exact Nat.min_eq_left (by omega)) (by rw [bcells_length, List.length_take, hH1l]; omega)
      rw [List.take_of_length_le (by rw [HS1N.out]; exact Nat.le_refl _)] at hcp
      generalize hw6 : w5.setCells gh 0 (bcells s1.toList) = w6 at hcp
      have hA6 : At w6 gh 0 (bcells (spl H1 0 s1.toList)) := hA5.splice (by rw [HS1N.out, hH1l]; omega) hw6.symm
      have hbw6 : Below gh w5 w6 := below_copy (Below.refl _ _) (Nat.le_refl _) hw6.symm
      have hb06 : Below w.heap.size w w6 := below_copy hb05 hwg hw6.symm
      have hQ6 := hQ5.below hbw6 hggh
      have hghl6 : gh < w6.heap.size := Nat.lt_of_lt_of_le hghl5 hbw6.size
      have hfin : spl H1 0 s1.toList = ustep key.toList t H := by
        rw [← hH1, spl_u H _ N HHL.out hNl HS1N.out, HS1.out, ustep, HHL.out, HLL.out]
      rw [hfin] at hA6
      have hul : (ustep key.toList t H).length = N := by rw [ustep_length _ _ _ (by rw [HHL.out]; omega), HHL.out]
      obtain ⟨s, hs⟩ : ∃ s, s = t - 1 := ⟨_, rfl⟩
      have p1 : (t : Int) - 1 = (s : Int) := by omega
      have p2 : IntKind.i64.wrap (s : Int) = (s : Int) := wrap_in _ (by omega) (by omega)
      have hts : t = s + 1 := by omega
      have hun : urun key.toList (ustep key.toList t H) s = urun key.toList text.toList M := by rw [← HH.out, hts, urun]
      have hsM : s ≤ M := by omega
      have hst : s < t := by omega
      have HA6 := Lib.hid hA6
      have HQ6 := Lib.hid hQ6
      have HUL := Lib.hid hul
      have HUN := Lib.hid hun
      clear hw5 hw5' hA5 hbw5 hQ5 hH1 hH1l hw6 hA6 hbw6 hQ6 hfin hul hs hts hun hb04 hb05 hghl4 hghl5 HA4 HA4d HQ4
      go_wp2_with fail
      go_roundw
      case rel => exact ⟨s, rfl, hsM, ⟨_, HUL.out, HUN.out, HA6.out⟩, HQ6.out, hb06, hghl6⟩
      case measure => simp [intOf]; omega
    · have ht0 : t = 0 := by omega
      subst ht0
      have hltI : ¬ (0 : Int) < ((0 : Nat) : Int) := by omega
      have hH' : H = valF key.toList text.toList := by rw [valF, ← HMM.out, ← hH]; rfl
      have hcvA : ∀ {w' : World}, At w' gh 0 (bcells H) → (convert 52 9 (.slice (some ⟨gh, 0, none⟩) 8 cap)).run Try.prog w' = .ok (.string ⟨(H.take 8).toArray⟩) w' := fun h => convert_off (h.part0 8) _ _ 5 8 (by rw [List.length_take, hHl]; omega) Try.underlying52 Try.underlying5 Try.underlying9
      have hcvB : ∀ {w' : World}, At w' gh 0 (bcells H) → (convert 52 9 (.slice (some ⟨gh, 8, none⟩) (N - 8) (cap - 8))).run Try.prog w' = .ok (.string ⟨(H.drop 8).toArray⟩) w' := fun h => convert_off (h.tail 8) _ _ 5 (N - 8) (by rw [List.length_drop, hHl]) Try.underlying52 Try.underlying5 Try.underlying9
      obtain ⟨c1, hc1⟩ : ∃ c : ByteArray, (⟨(H.take 8).toArray⟩ : ByteArray) = c := ⟨_, rfl⟩
      obtain ⟨c2, hc2⟩ : ∃ c : ByteArray, (⟨(H.drop 8).toArray⟩ : ByteArray) = c := ⟨_, rfl⟩
      rw [hc1] at hcvA
      rw [hc2] at hcvB
      have hc1l : c1.toList = H.take 8 := by rw [← hc1, tl_mk]
      have hc2l : c2.toList = H.drop 8 := by rw [← hc2, tl_mk]
      have HA := Lib.hid hA
      have HC1L := Lib.hid hc1l
      have HC2L := Lib.hid hc2l
      have HCV : ∀ w' : World, Hid (At w' gh 0 (bcells H)) → (convert 52 9 (.slice (some ⟨gh, 0, none⟩) 8 cap)).run Try.prog w' = .ok (.string c1) w' ∧ (convert 52 9 (.slice (some ⟨gh, 8, none⟩) (N - 8) (cap - 8))).run Try.prog w' = .ok (.string c2) w' := fun w' h => ⟨hcvA h.out, hcvB h.out⟩
      have HCVH := Lib.hid HCV
      have HHF := Lib.hid hH'
      have n1 : (8 : Int) ≤ (N : Int) := by omega
      have n2 : 8 ≤ N := by omega
      have n5 : ¬ cap = 8 := by omega
      have n6 : ((cap : Int) == 8) = false := by rw [beq_eq_false_iff_ne]; omega
      clear hHl hc1 hc1l hc2 hc2l hA hH hH' hcvA hcvB HCV i6 i7
      go_wp2_with fail
      go_region_held3 (fun w' => (convert 52 9 (.slice (some ⟨gh, 0, none⟩) 8 cap)).run Try.prog w' = .ok (.string c1) w' ∧ (convert 52 9 (.slice (some ⟨gh, 8, none⟩) (N - 8) (cap - 8))).run Try.prog w' = .ok (.string c2) w') (first | exact HCVH.out _ HA) (first | fail)
      clear HCVH
      go_wp2_with fail
      go_ret3
      exact ret_sse HC1L.out HC2L.out (by rw [HHF.out]) (by rw [HHF.out]) rfl hbel.drew
end Go.Proofs.Ytigegblpledogaa
namespace Go.Proofs.Ytigegblpledogaa
open Go.RowKit
set_option linter.unusedVariables false
set_option linter.unusedSimpArgs false
/-- a step of Wrap, by its two parts -/
theorem wstep_two (K A R : List UInt8) (t : Nat) (hA : A.length = 8) (hR : 8 ≤ R.length) :
    wstep K t (A ++ R) = xorL ((encL K (A ++ R.take 8)).take 8) (wnum t) ++ (R.drop 8 ++ (encL K (A ++ R.take 8)).drop 8) := by
  have e1 : (A ++ R).take 16 = A ++ R.take 8 := by
    rw [show 16 = A.length + 8 by omega, List.take_append, List.take_of_length_le (by omega)]
    congr 2
    omega
  have e2 : (A ++ R).drop 16 = R.drop 8 := by rw [show 16 = 8 + 8 from rfl, ← List.drop_drop, List.drop_left' hA]
  rw [wstep, e1, e2, wcnt]
theorem ustep_two (K A R : List UInt8) (t : Nat) (hA : A.length = 8) (hR : 8 ≤ R.length) :
    ustep K t (A ++ R) = decL K (xorL A (wnum t) ++ R.drop (R.length - 8)) ++ R.take (R.length - 8) := by
  have hl : (A ++ R).length = R.length + 8 := by rw [List.length_append]; omega
  have e1 : (A ++ R).drop (R.length + 8 - 8) = R.drop (R.length - 8) := by rw [show R.length + 8 - 8 = 8 + (R.length - 8) by omega, ← List.drop_drop, List.drop_left' hA]
  rw [ustep, hl, List.take_left' hA, List.drop_left' hA, e1, wcnt]
  rfl
set_option maxRecDepth 100000 in
set_option maxHeartbeats 1600000 in
theorem rWrap_ok (key text : ByteArray) (w : World) (hk : key.size = 16 ∨ key.size = 24 ∨ key.size = 32) (hm : text.size % 8 = 0) (h1 : 16 ≤ text.size) (h2 : text.size ≤ 1024) :
    Calls Try.prog 38 #[.string key, .string text] w (RetSE (wraF key.toList text.toList) 0 w) := by
  have hK : Hid (key.toList.length = 16 ∨ key.toList.length = 24 ∨ key.toList.length = 32) := by rw [tl_size]; exact hk
  obtain ⟨q, hq⟩ : ∃ q, q = text.size / 8 := ⟨_, rfl⟩
  obtain ⟨M, hM⟩ : ∃ M, M = 6 * q := ⟨_, rfl⟩
  have e3 : (text.size : Int).tmod 8 = 0 := tmod_nat text.size 8 0 (by omega)
  have e4 : ¬ (text.size : Int) < 16 := by omega
  have e5 : ¬ (1024 : Int) < (text.size : Int) := by omega
  have g1 : (text.size : Int) / 8 = (q : Int) := by omega
  have g2 : IntKind.i64.wrap (q : Int) = (q : Int) := wrap_in _ (by omega) (by omega)
  have g3 : 6 * (q : Int) = (M : Int) := by omega
  have g4 : IntKind.i64.wrap (M : Int) = (M : Int) := wrap_in _ (by omega) (by omega)
  have HMM : Hid (M = 6 * (text.toList.length / 8)) := by show _ = _; rw [tl_size]; omega
  have hM0 : M ≤ 1000 := by omega
  clear hq hM hm
  go_enter Try.func38, Try.ntmps38
  go_wp2_with fail
  refine (right_yes key _ hk).mono ?_
  rintro e w0 ⟨rfl, rfl⟩
  go_wp2_with fail
  refine (rnew_any key _ hk).mono ?_
  rintro e w1 ⟨g, hg, rfl, hB, hb1⟩
  have HB := Lib.hid hB
  clear hB
  go_wp2_with fail
  go_loopw [7, 8, 9] (fun va vr vt wr => ∃ (s t : Nat) (a r : ByteArray), t = s + 1 ∧ va = .string a ∧ vr = .string r ∧ vt = .int .i64 (t : Int) ∧ s ≤ M ∧ a.size = 8 ∧ r.size = text.size ∧ a.toList ++ r.toList = wrun key.toList (wval ++ text.toList) s ∧ Below w1.heap.size w1 wr) (fun _ _ vt _ => M + 1 - (intOf vt).toNat)
  case atStart => exact ⟨0, 1, _, _, rfl, rfl, rfl, rfl, Nat.zero_le _, rfl, rfl, congrArg (· ++ text.toList) valB_tl, Below.refl _ _⟩
  case round =>
    obtain ⟨s, t, a, r, ht, rfl, rfl, rfl, hsM, has, hrs, hrun, hbel⟩ := hrel
    have hov1 : ¬ 9223372036854775807 < a.size + r.size := by omega
    have HT := Lib.hid ht
    have HAS := Lib.hid has
    have HRS := Lib.hid hrs
    have HRUN := Lib.hid hrun
    by_cases hlt : t ≤ M
    · have hltI : (t : Int) ≤ (M : Int) := by omega
      have htb : t < 100000 := by omega
      have i1 : (8 : Int) ≤ (r.size : Int) := by omega
      have i2 : 8 ≤ r.size := by omega
      have hx8 : (r.extract 0 8).size = 8 := by rw [← tl_size, tl_ext0, List.length_take, tl_size]; omega
      have HX8 := Lib.hid hx8
      have hov2 : ¬ 9223372036854775807 < a.size + (r.extract 0 8).size := by omega
      have hov3 : ¬ 9223372036854775807 < a.size + 8 := by omega
      have hcs : (a ++ r.extract 0 8).size = 16 := by rw [ByteArray.size_append, hx8, has]
      have HCS := Lib.hid hcs
      clear ht has hrs hrun hx8 hcs
      go_wp2_with fail
      refine (rencrypt_any (a ++ r.extract 0 8) _ g key.toList (HB.out.below hbel (Nat.le_refl _)) hK.out HCS.out).mono ?_
      rintro e w2 ⟨s1, rfl, hs1, hb2⟩
      have hs1s : s1.size = 16 := by rw [← tl_size, hs1, encL_length]
      have i3 : (8 : Int) ≤ (s1.size : Int) := by omega
      have i4 : 8 ≤ s1.size := by omega
      have hb02 := hbel.trans (hb2.mono hbel.size)
      have hy8 : (s1.extract 0 8).size ≤ 140737488351232 := by rw [← tl_size, tl_ext0, List.length_take, tl_size]; omega
      have HY8 := Lib.hid hy8
      have HS1 := Lib.hid hs1
      have HS1S := Lib.hid hs1s
      clear hs1 hs1s hb2 hov2 hov3 hov1 hy8
      go_wp2_with fail
      go_region_held3 (fun _ => True) (trivial) (first | (go_at_call 66; refine (number_any t _ htb).mono ?_; rintro e w3 ⟨nu, rfl, hnu, hb3⟩; have HNU := Lib.hid hnu; have HNZ : Hid (nu.size ≤ 140737488351232) := (by show _ ≤ _; rw [← tl_size, HNU.out, wnum_length]; decide); clear hnu) | (go_at_call 52; refine (rxor_any (s1.extract 0 8) nu _ HY8.out HNZ.out).mono ?_; rintro e w4 ⟨a1, rfl, ha1, hb4⟩))
      have hb3' : Below w2.heap.size w2 w3 := (Below.refl _ _).drew.trans hb3
      have hb03 := hb02.trans (hb3'.mono hb02.size)
      have hb04 := hb03.trans (hb4.mono hb03.size)
      have ha1l : a1.toList = xorL ((encL key.toList (a.toList ++ r.toList.take 8)).take 8) (wnum t) := by rw [ha1, tl_ext0, HS1.out, tl_append, tl_ext0, HNU.out]
      have ha1s : a1.size = 8 := by rw [← tl_size, ha1l, xorL_length, List.length_take, encL_length, wnum_length]; rfl
      obtain ⟨x1, hx1⟩ : ∃ x, r.extract 8 r.size = x := ⟨_, rfl⟩
      obtain ⟨x2, hx2⟩ : ∃ x, s1.extract 8 s1.size = x := ⟨_, rfl⟩
      have hx1l : x1.toList = r.toList.drop 8 := by rw [← hx1, tl_extE _ _ _ rfl]
      have hx2l : x2.toList = (encL key.toList (a.toList ++ r.toList.take 8)).drop 8 := by rw [← hx2, tl_extE _ _ _ rfl, HS1.out, tl_append, tl_ext0]
      have hy : x2.size = 8 := by rw [← tl_size, hx2l, List.length_drop, encL_length]
      have hz : x1.size = r.size - 8 := by rw [← tl_size, hx1l, List.length_drop, tl_size]
      have hov4 : ¬ 9223372036854775807 < x1.size + x2.size := by have := HRS.out; omega
      have hr1s : (x1 ++ x2).size = text.size := by rw [ByteArray.size_append, hy, hz]; have := HRS.out; omega
      have hfin : a1.toList ++ (x1 ++ x2).toList = wrun key.toList (wval ++ text.toList) t := by
        rw [ha1l, tl_append, hx1l, hx2l, ← wstep_two _ _ _ _ (by rw [tl_size]; exact HAS.out) (by rw [tl_size]; omega), HRUN.out, HT.out, wrun]
      have HFIN := Lib.hid hfin
      have HA1 := Lib.hid ha1s
      have HR1 := Lib.hid hr1s
      have n1 : IntKind.i64.wrap ((t : Int) + 1) = (t : Int) + 1 := wrap_in _ (by omega) (by omega)
      clear hb3 hb3' hb03 hb02 hb4 hbel ha1 ha1l ha1s hy hz hr1s hfin hx1l hx2l
      go_wp2_with fail
      go_region_held3 (fun _ => True) (trivial) (first | fail)
      have hb04' := hb04.drew
      go_wp2_with fail
      go_roundw
      case rel => exact ⟨t, t + 1, _, _, rfl, rfl, rfl, by go_num, hlt, HA1.out, HR1.out, HFIN.out, hb04'⟩
      case measure => simp [intOf]; omega
    · have hsM2 : s = M := by have := HT.out; omega
      subst hsM2
      have hltI : ¬ (t : Int) ≤ (s : Int) := by omega
      clear ht has hrs hrun
      go_wp2_with fail
      go_ret2
      exact ret_se (tl_append _ _) (by rw [HRUN.out, wraF, HMM.out]) rfl (hb1.trans (hbel.mono hb1.size))
set_option maxRecDepth 100000 in
set_option maxHeartbeats 1600000 in
theorem rValue_ok (key text : ByteArray) (w : World) (hk : key.size = 16 ∨ key.size = 24 ∨ key.size = 32) (hm : text.size % 8 = 0) (h1 : 24 ≤ text.size) (h2 : text.size ≤ 1032) :
    Calls Try.prog 43 #[.string key, .string text] w (RetSSE ((valF key.toList text.toList).take 8) ((valF key.toList text.toList).drop 8) 0 w) := by
  have hK : Hid (key.toList.length = 16 ∨ key.toList.length = 24 ∨ key.toList.length = 32) := by rw [tl_size]; exact hk
  obtain ⟨R0, hR0⟩ : ∃ R, R = text.size - 8 := ⟨_, rfl⟩
  obtain ⟨q, hq⟩ : ∃ q, q = R0 / 8 := ⟨_, rfl⟩
  obtain ⟨M, hM⟩ : ∃ M, M = 6 * q := ⟨_, rfl⟩
  have e3 : (text.size : Int).tmod 8 = 0 := tmod_nat text.size 8 0 (by omega)
  have e4 : ¬ (text.size : Int) < 24 := by omega
  have e5 : ¬ (1032 : Int) < (text.size : Int) := by omega
  have g1 : (R0 : Int) / 8 = (q : Int) := by omega
  have g2 : IntKind.i64.wrap (q : Int) = (q : Int) := wrap_in _ (by omega) (by omega)
  have g3 : 6 * (q : Int) = (M : Int) := by omega
  have g4 : IntKind.i64.wrap (M : Int) = (M : Int) := wrap_in _ (by omega) (by omega)
  have HMM : Hid (M = 6 * (text.toList.length / 8 - 1)) := by show _ = _; rw [tl_size]; omega
  have hM0 : M ≤ 1000 := by omega
  have i1 : (8 : Int) ≤ (text.size : Int) := by omega
  have i2 : 8 ≤ text.size := by omega
  obtain ⟨r0, hr0⟩ : ∃ r0, text.extract 8 text.size = r0 := ⟨_, rfl⟩
  obtain ⟨a0, ha0⟩ : ∃ a0, text.extract 0 8 = a0 := ⟨_, rfl⟩
  have hr0s : r0.size = R0 := by rw [← hr0, ← tl_size, tl_extE _ _ _ rfl, List.length_drop, tl_size, hR0]
  have ha0s : a0.size = 8 := by rw [← ha0, ← tl_size, tl_ext0, List.length_take, tl_size]; omega
  have hra : a0.toList ++ r0.toList = text.toList := by rw [← ha0, ← hr0, tl_ext0, tl_extE _ _ _ rfl, List.take_append_drop]
  have HR0S := Lib.hid hr0s
  have HA0S := Lib.hid ha0s
  have HRA := Lib.hid hra
  have hRb : R0 ≤ 1024 := by omega
  have hRl : 16 ≤ R0 := by omega
  clear hq hM hm hR0 ha0s hra
  go_enter Try.func43, Try.ntmps43
  go_wp2_with fail
  refine (right_yes key _ hk).mono ?_
  rintro e w0 ⟨rfl, rfl⟩
  go_wp2_with fail
  refine (rnew_any key _ hk).mono ?_
  rintro e w1 ⟨g, hg, rfl, hB, hb1⟩
  have HB := Lib.hid hB
  have HR0 := Lib.hid hr0
  have HA0 := Lib.hid ha0
  clear hB
  go_wp2_with fail
  go_loopw [8, 9, 10] (fun va vr vt wr => ∃ (t : Nat) (a r : ByteArray), va = .string a ∧ vr = .string r ∧ vt = .int .i64 (t : Int) ∧ t ≤ M ∧ a.size = 8 ∧ r.size = R0 ∧ urun key.toList (a.toList ++ r.toList) t = urun key.toList text.toList M ∧ Below w1.heap.size w1 wr) (fun _ _ vt _ => (intOf vt).toNat)
  case atStart => exact ⟨M, _, _, rfl, rfl, rfl, Nat.le_refl _, HA0S.out, HR0S.out, by rw [HRA.out], Below.refl _ _⟩
  case round =>
    clear hr0 ha0 hr0s
    obtain ⟨t, a, r, rfl, rfl, rfl, htM, has, hrs, hrun, hbel⟩ := hrel
    have HAS := Lib.hid has
    have HRS := Lib.hid hrs
    have HRUN := Lib.hid hrun
    by_cases hlt : 1 ≤ t
    · have hltI : (1 : Int) ≤ (t : Int) := by omega
      have htb : t < 100000 := by omega
      obtain ⟨L, hL⟩ : ∃ L, L = R0 - 8 := ⟨_, rfl⟩
      have j1 : (R0 : Int) - 8 = (L : Int) := by omega
      have j2 : IntKind.i64.wrap (L : Int) = (L : Int) := wrap_in _ (by omega) (by omega)
      have j3 : (0 : Int) ≤ (L : Int) := by omega
      have j4 : (L : Int) ≤ (R0 : Int) := by omega
      have j5 : L ≤ R0 := by omega
      obtain ⟨x1, hx1⟩ : ∃ x, r.extract L R0 = x := ⟨_, rfl⟩
      obtain ⟨x2, hx2⟩ : ∃ x, r.extract 0 L = x := ⟨_, rfl⟩
      have hx1l : x1.toList = r.toList.drop L := by rw [← hx1, tl_extE _ _ _ hrs.symm]
      have hx2l : x2.toList = r.toList.take L := by rw [← hx2, tl_ext0]
      have hx1s : x1.size = 8 := by rw [← tl_size, hx1l, List.length_drop, tl_size]; omega
      have hx2s : x2.size = R0 - 8 := by rw [← tl_size, hx2l, List.length_take, tl_size]; omega
      have haz : a.size ≤ 140737488351232 := by omega
      have HX1L := Lib.hid hx1l
      have HX2L := Lib.hid hx2l
      have HX1S := Lib.hid hx1s
      have HX2S := Lib.hid hx2s
      have HLL := Lib.hid hL
      have HAZ := Lib.hid haz
      have HBD : Hid (Below w1.heap.size w1 wr.drew) := hbel.drew
      clear has hrun hx1l hx2l hx1s hx2s hL haz
      go_wp2_with fail
      go_region_held3 (fun _ => True) (trivial) (first | (go_at_call 66; refine (number_any t _ htb).mono ?_; rintro e w3 ⟨nu, rfl, hnu, hb3⟩; have HNU := Lib.hid hnu; have HNZ : Hid (nu.size ≤ 140737488351232) := (by show _ ≤ _; rw [← tl_size, HNU.out, wnum_length]; decide); have HBL3 := Lib.hid (HBD.out.trans (hb3.mono HBD.out.size)); clear hnu) | (go_at_call 52; refine (rxor_any a nu _ HAZ.out HNZ.out).mono ?_; rintro e w4 ⟨xa, rfl, hxa, hb4⟩; have HXA := Lib.hid hxa; have HBL4 := Lib.hid (HBL3.out.trans (hb4.mono HBL3.out.size)); have HB4 := Lib.hid (HB.out.below HBL4.out (Nat.le_refl _)); have HXS : Hid ((xa ++ x1).size = 16) := (by show _ = _; rw [ByteArray.size_append, ← tl_size xa, HXA.out, xorL_length, HNU.out, wnum_length, tl_size, HAS.out, HX1S.out]; rfl); have hov : ¬ 9223372036854775807 < xa.size + x1.size := (by have := HXS.out; rw [ByteArray.size_append] at this; omega); clear hxa) | (go_at_call 54; refine (rdecrypt_any (xa ++ x1) _ g key.toList HB4.out hK.out HXS.out).mono ?_; rintro e w5 ⟨s1, rfl, hs1, hb5⟩))
      have hb05 := HBL4.out.trans (hb5.mono HBL4.out.size)
      have hs1l : s1.toList = decL key.toList (xorL a.toList (wnum t) ++ r.toList.drop L) := by rw [hs1, tl_append, HXA.out, HNU.out, HX1L.out]
      have hs1n : s1.size = 16 := by rw [← tl_size, hs1l, decL_length]
      have n1 : (8 : Int) ≤ (s1.size : Int) := by omega
      have n2 : 8 ≤ s1.size := by omega
      obtain ⟨y1, hy1⟩ : ∃ y, s1.extract 8 s1.size = y := ⟨_, rfl⟩
      obtain ⟨y0, hy0⟩ : ∃ y, s1.extract 0 8 = y := ⟨_, rfl⟩
      have hy1l : y1.toList = s1.toList.drop 8 := by rw [← hy1, tl_extE _ _ _ rfl]
      have hy0l : y0.toList = s1.toList.take 8 := by rw [← hy0, tl_ext0]
      have hy1s : y1.size = 8 := by rw [← tl_size, hy1l, List.length_drop, tl_size, hs1n]
      have hy0s : y0.size = 8 := by rw [← tl_size, hy0l, List.length_take, tl_size, hs1n]; rfl
      have hov2 : ¬ 9223372036854775807 < y1.size + x2.size := by have := HX2S.out; omega
      have hrs2 : (y1 ++ x2).size = R0 := by rw [ByteArray.size_append, hy1s, HX2S.out]; omega
      obtain ⟨s, hs⟩ : ∃ s, s = t - 1 := ⟨_, rfl⟩
      have p1 : (t : Int) - 1 = (s : Int) := by omega
      have p2 : IntKind.i64.wrap (s : Int) = (s : Int) := wrap_in _ (by omega) (by omega)
      have hts : t = s + 1 := by omega
      have hfin : urun key.toList (y0.toList ++ (y1 ++ x2).toList) s = urun key.toList text.toList M := by
        rw [← HRUN.out, hts, urun, ustep_two _ _ _ _ (by rw [tl_size]; exact HAS.out) (by rw [tl_size]; omega), ← hts, tl_size, HRS.out, ← HLL.out, ← hs1l, tl_append, hy0l, hy1l, HX2L.out, ← List.append_assoc, List.take_append_drop]
      have hsM : s ≤ M := by omega
      have hst : s < t := by omega
      have HFIN := Lib.hid hfin
      have HY0 := Lib.hid hy0s
      have HR2 := Lib.hid hrs2
      clear hs1 hs1l hs1n hy1l hy0l hy1s hy0s hrs2 hs hts hfin hb5 hb4 hb3 hov HBL3 HBL4 HB4 hbel hx1
      go_wp2_with fail
      go_region_held3 (fun _ => True) (trivial) (first | fail)
      have hb05' := hb05.drew
      go_wp2_with fail
      go_roundw
      case rel => exact ⟨s, _, _, rfl, rfl, rfl, hsM, HY0.out, HR2.out, HFIN.out, hb05'⟩
      case measure => simp [intOf]; omega
    · have ht0 : t = 0 := by omega
      subst ht0
      have hltI : ¬ (1 : Int) ≤ ((0 : Nat) : Int) := by omega
      have hh : a.toList ++ r.toList = valF key.toList text.toList := by rw [valF, ← HMM.out, ← hrun]; rfl
      have hA : a.toList = (valF key.toList text.toList).take 8 := by rw [← hh, List.take_left' (by rw [tl_size]; exact has)]
      have hR : r.toList = (valF key.toList text.toList).drop 8 := by rw [← hh, List.drop_left' (by rw [tl_size]; exact has)]
      have HA := Lib.hid hA
      have HR := Lib.hid hR
      clear has hrun hh hA hR
      go_wp2_with fail
      go_ret3
      exact ret_sse HA.out HR.out rfl rfl rfl (hb1.trans (hbel.mono hb1.size))
end Go.Proofs.Ytigegblpledogaa
namespace Go.Proofs.Ytigegblpledogaa
open Go.RowKit
set_option linter.unusedVariables false
set_option linter.unusedSimpArgs false
theorem i64_is (n : Int) (h0 : -9223372036854775808 ≤ n) (h1 : n < 9223372036854775808) : IntKind.i64.wrap n = n := IntWalk.i64_in n ⟨h0, by omega⟩
theorem wfit_cases (n : Nat) (h : wfit n = false) : n < 16 ∨ 1024 < n ∨ (16 ≤ n ∧ n ≤ 1024 ∧ n % 8 ≠ 0) := by
  have := of_decide_eq_false h
  omega
theorem ufit_cases (n : Nat) (h : ufit n = false) : n < 24 ∨ 1032 < n ∨ (24 ≤ n ∧ n ≤ 1032 ∧ n % 8 ≠ 0) := by
  have := of_decide_eq_false h
  omega
set_option maxRecDepth 100000 in
theorem wWrap_key (key text : ByteArray) (w : World) (hz : text.size ≤ 140737488355328) (h1 : key.size ≠ 16) (h2 : key.size ≠ 24) (h3 : key.size ≠ 32) : Calls Try.prog 37 #[.string key, .string text] w (RetSE [] 3 w) := by
  obtain ⟨l, hl⟩ : ∃ l : Int, (text.size : Int) - 8 = l := ⟨_, rfl⟩
  have f2 : IntKind.i64.wrap l = l := i64_is _ (by omega) (by omega)
  go_enter Try.func37, Try.ntmps37
  go_wp2_with fail
  refine (wbegin_key key l 1016 _ h1 h2 h3).mono ?_
  rintro e w1 ⟨rfl, hb1⟩
  go_wp2_with fail
  go_ret2
  exact ret_se (tl_mk []) rfl rfl hb1
theorem wbegin_bad (key : ByteArray) (l : Int) (w : World) (hk : key.size = 16 ∨ key.size = 24 ∨ key.size = 32) (hz : l < 9223372036854775808) (h : l < 8 ∨ 1016 < l ∨ (8 ≤ l ∧ l ≤ 1016 ∧ l % 8 ≠ 0)) : Calls Try.prog 63 #[.string key, .int .i64 l, .int .i64 1016] w (RetNoW 6 w) := by
  by_cases h1 : l < 8
  · exact wbegin_low key l 1016 w hk h1
  · by_cases h2 : 1016 < l
    · exact wbegin_high key l 1016 w hk h1 h2
    · obtain ⟨n, rfl⟩ := Int.eq_ofNat_of_zero_le (a := l) (by omega)
      exact wbegin_odd key n 1016 w hk (by omega) (by omega) (by omega) (by omega)
set_option maxRecDepth 100000 in
theorem wWrap_size (key text : ByteArray) (w : World) (hk : key.size = 16 ∨ key.size = 24 ∨ key.size = 32) (hz : text.size ≤ 140737488355328) (h : wfit text.size = false) : Calls Try.prog 37 #[.string key, .string text] w (RetSE [] 6 w) := by
  obtain ⟨l, hl⟩ : ∃ l : Int, (text.size : Int) - 8 = l := ⟨_, rfl⟩
  have f2 : IntKind.i64.wrap l = l := i64_is _ (by omega) (by omega)
  have hc := wfit_cases _ h
  have hb := fun w => wbegin_bad key l w hk (by omega) (by omega)
  have HB := Lib.hid hb
  clear hb hc h
  go_enter Try.func37, Try.ntmps37
  go_wp2_with fail
  refine (HB.out _).mono ?_
  rintro e w1 ⟨rfl, hb1⟩
  go_wp2_with fail
  go_ret2
  exact ret_se (tl_mk []) rfl rfl hb1
set_option maxRecDepth 100000 in
theorem vValue_key (key text : ByteArray) (w : World) (hz : text.size ≤ 140737488355328) (h1 : key.size ≠ 16) (h2 : key.size ≠ 24) (h3 : key.size ≠ 32) : Calls Try.prog 42 #[.string key, .string text] w (RetSSE [] [] 3 w) := by
  obtain ⟨l, hl⟩ : ∃ l : Int, (text.size : Int) - 16 = l := ⟨_, rfl⟩
  have f2 : IntKind.i64.wrap l = l := i64_is _ (by omega) (by omega)
  go_enter Try.func42, Try.ntmps42
  go_wp2_with fail
  refine (wbegin_key key l 1016 _ h1 h2 h3).mono ?_
  rintro e w1 ⟨rfl, hb1⟩
  go_wp2_with fail
  go_ret3
  exact ret_sse (tl_mk []) (tl_mk []) rfl rfl rfl hb1
set_option maxRecDepth 100000 in
theorem vValue_size (key text : ByteArray) (w : World) (hk : key.size = 16 ∨ key.size = 24 ∨ key.size = 32) (hz : text.size ≤ 140737488355328) (h : ufit text.size = false) : Calls Try.prog 42 #[.string key, .string text] w (RetSSE [] [] 6 w) := by
  obtain ⟨l, hl⟩ : ∃ l : Int, (text.size : Int) - 16 = l := ⟨_, rfl⟩
  have f2 : IntKind.i64.wrap l = l := i64_is _ (by omega) (by omega)
  have hc := ufit_cases _ h
  have hb := fun w => wbegin_bad key l w hk (by omega) (by omega)
  have HB := Lib.hid hb
  clear hb hc h
  go_enter Try.func42, Try.ntmps42
  go_wp2_with fail
  refine (HB.out _).mono ?_
  rintro e w1 ⟨rfl, hb1⟩
  go_wp2_with fail
  go_ret3
  exact ret_sse (tl_mk []) (tl_mk []) rfl rfl rfl hb1
set_option maxRecDepth 100000 in
set_option maxHeartbeats 800000 in
theorem rWrap_key (key text : ByteArray) (w : World) (h1 : key.size ≠ 16) (h2 : key.size ≠ 24) (h3 : key.size ≠ 32) : Calls Try.prog 38 #[.string key, .string text] w (RetSE [] 3 w) := by
  go_enter Try.func38, Try.ntmps38
  go_wp2_with fail
  refine (right_no key _ h1 h2 h3).mono ?_
  rintro e w0 ⟨rfl, rfl⟩
  go_wp2_with fail
  go_ret2
  exact ret_se (tl_mk []) rfl rfl (Below.refl _ _)
set_option maxRecDepth 100000 in
set_option maxHeartbeats 800000 in
theorem rValue_key (key text : ByteArray) (w : World) (h1 : key.size ≠ 16) (h2 : key.size ≠ 24) (h3 : key.size ≠ 32) : Calls Try.prog 43 #[.string key, .string text] w (RetSSE [] [] 3 w) := by
  go_enter Try.func43, Try.ntmps43
  go_wp2_with fail
  refine (right_no key _ h1 h2 h3).mono ?_
  rintro e w0 ⟨rfl, rfl⟩
  go_wp2_with fail
  go_ret3
  exact ret_sse (tl_mk []) (tl_mk []) rfl rfl rfl (Below.refl _ _)
set_option maxRecDepth 100000 in
set_option maxHeartbeats 800000 in
theorem rWrap_size (key text : ByteArray) (w : World) (hk : key.size = 16 ∨ key.size = 24 ∨ key.size = 32) (h : wfit text.size = false) : Calls Try.prog 38 #[.string key, .string text] w (RetSE [] 6 w) := by
  have hc := of_decide_eq_false h
  obtain ⟨r, hr⟩ : ∃ r, text.size % 8 = r := ⟨_, rfl⟩
  have e3 : (text.size : Int).tmod 8 = (r : Int) := tmod_nat text.size 8 r hr.symm
  have e4 : IntKind.i64.wrap (r : Int) = (r : Int) := wrap_in _ (by omega) (by omega)
  by_cases hr0 : r = 0
  · subst hr0
    have e5 : (((0 : Nat) : Int) != 0) = false := rfl
    by_cases h1 : text.size < 16
    · have e1 : (text.size : Int) < 16 := by omega
      clear hr hc h h1
      go_enter Try.func38, Try.ntmps38
      go_wp2_with fail
      refine (right_yes key _ hk).mono ?_
      rintro e w0 ⟨rfl, rfl⟩
      go_wp2_with fail
      go_ret2
      exact ret_se (tl_mk []) rfl rfl (Below.refl _ _)
    · have e1 : ¬ (text.size : Int) < 16 := by omega
      have e2 : (1024 : Int) < (text.size : Int) := by omega
      clear hr hc h h1
      go_enter Try.func38, Try.ntmps38
      go_wp2_with fail
      refine (right_yes key _ hk).mono ?_
      rintro e w0 ⟨rfl, rfl⟩
      go_wp2_with fail
      go_ret2
      exact ret_se (tl_mk []) rfl rfl (Below.refl _ _)
  · have e5 : ((r : Int) != 0) = true := by rw [bne_iff_ne]; omega
    clear hr hc h hr0
    go_enter Try.func38, Try.ntmps38
    go_wp2_with fail
    refine (right_yes key _ hk).mono ?_
    rintro e w0 ⟨rfl, rfl⟩
    go_wp2_with fail
    go_ret2
    exact ret_se (tl_mk []) rfl rfl (Below.refl _ _)
set_option maxRecDepth 100000 in
set_option maxHeartbeats 800000 in
theorem rValue_size (key text : ByteArray) (w : World) (hk : key.size = 16 ∨ key.size = 24 ∨ key.size = 32) (h : ufit text.size = false) : Calls Try.prog 43 #[.string key, .string text] w (RetSSE [] [] 6 w) := by
  have hc := of_decide_eq_false h
  obtain ⟨r, hr⟩ : ∃ r, text.size % 8 = r := ⟨_, rfl⟩
  have e3 : (text.size : Int).tmod 8 = (r : Int) := tmod_nat text.size 8 r hr.symm
  have e4 : IntKind.i64.wrap (r : Int) = (r : Int) := wrap_in _ (by omega) (by omega)
  by_cases hr0 : r = 0
  · subst hr0
    have e5 : (((0 : Nat) : Int) != 0) = false := rfl
    by_cases h1 : text.size < 24
    · have e1 : (text.size : Int) < 24 := by omega
      clear hr hc h h1
      go_enter Try.func43, Try.ntmps43
      go_wp2_with fail
      refine (right_yes key _ hk).mono ?_
      rintro e w0 ⟨rfl, rfl⟩
      go_wp2_with fail
      go_ret3
      exact ret_sse (tl_mk []) (tl_mk []) rfl rfl rfl (Below.refl _ _)
    · have e1 : ¬ (text.size : Int) < 24 := by omega
      have e2 : (1032 : Int) < (text.size : Int) := by omega
      clear hr hc h h1
      go_enter Try.func43, Try.ntmps43
      go_wp2_with fail
      refine (right_yes key _ hk).mono ?_
      rintro e w0 ⟨rfl, rfl⟩
      go_wp2_with fail
      go_ret3
      exact ret_sse (tl_mk []) (tl_mk []) rfl rfl rfl (Below.refl _ _)
  · have e5 : ((r : Int) != 0) = true := by rw [bne_iff_ne]; omega
    clear hr hc h hr0
    go_enter Try.func43, Try.ntmps43
    go_wp2_with fail
    refine (right_yes key _ hk).mono ?_
    rintro e w0 ⟨rfl, rfl⟩
    go_wp2_with fail
    go_ret3
    exact ret_sse (tl_mk []) (tl_mk []) rfl rfl rfl (Below.refl _ _)
/-! ### all cases -/
theorem wraE_key {k n : Nat} (h1 : k ≠ 16) (h2 : k ≠ 24) (h3 : k ≠ 32) : wraE k n = 3 := by rw [wraE, if_neg (by omega)]
theorem valE_key {k n : Nat} (h1 : k ≠ 16) (h2 : k ≠ 24) (h3 : k ≠ 32) : valE k n = 3 := by rw [valE, if_neg (by omega)]
theorem wraE_size {k n : Nat} (hk : k = 16 ∨ k = 24 ∨ k = 32) (h : wfit n = false) : wraE k n = 6 := by rw [wraE, if_pos hk, h]; rfl
theorem valE_size {k n : Nat} (hk : k = 16 ∨ k = 24 ∨ k = 32) (h : ufit n = false) : valE k n = 6 := by rw [valE, if_pos hk, h]; rfl
theorem wraE_ok {k n : Nat} (hk : k = 16 ∨ k = 24 ∨ k = 32) (h : wfit n = true) : wraE k n = 0 := by rw [wraE, if_pos hk, h]; rfl
theorem valE_ok {k n : Nat} (hk : k = 16 ∨ k = 24 ∨ k = 32) (h : ufit n = true) : valE k n = 0 := by rw [valE, if_pos hk, h]; rfl
theorem wWrap_any (key text : ByteArray) (w : World) (hz : text.size ≤ 140737488355328) : Calls Try.prog 37 #[.string key, .string text] w (RetSE (wraL key.toList text.toList) (wraE key.size text.size) w) := by
  rw [wraL, tl_size, tl_size]
  rcases key_cases key with hk | ⟨h1, h2, h3⟩
  · cases hf : wfit text.size
    · rw [wraE_size hk hf, if_neg (by decide)]
      exact wWrap_size key text w hk hz hf
    · rw [wraE_ok hk hf, if_pos rfl]
      have := of_decide_eq_true hf
      exact wWrap_ok key text w hk this.1 this.2.1 this.2.2
  · rw [wraE_key h1 h2 h3, if_neg (by decide)]
    exact wWrap_key key text w hz h1 h2 h3
theorem rWrap_any (key text : ByteArray) (w : World) : Calls Try.prog 38 #[.string key, .string text] w (RetSE (wraL key.toList text.toList) (wraE key.size text.size) w) := by
  rw [wraL, tl_size, tl_size]
  rcases key_cases key with hk | ⟨h1, h2, h3⟩
  · cases hf : wfit text.size
    · rw [wraE_size hk hf, if_neg (by decide)]
      exact rWrap_size key text w hk hf
    · rw [wraE_ok hk hf, if_pos rfl]
      have := of_decide_eq_true hf
      exact rWrap_ok key text w hk this.1 this.2.1 this.2.2
  · rw [wraE_key h1 h2 h3, if_neg (by decide)]
    exact rWrap_key key text w h1 h2 h3
theorem vValue_any (key text : ByteArray) (w : World) (hz : text.size ≤ 140737488355328) : Calls Try.prog 42 #[.string key, .string text] w (RetSSE (vaAL key.toList text.toList) (vaRL key.toList text.toList) (valE key.size text.size) w) := by
  rw [vaAL, vaRL, tl_size, tl_size]
  rcases key_cases key with hk | ⟨h1, h2, h3⟩
  · cases hf : ufit text.size
    · rw [valE_size hk hf, if_neg (by decide), if_neg (by decide)]
      exact vValue_size key text w hk hz hf
    · rw [valE_ok hk hf, if_pos rfl, if_pos rfl]
      have := of_decide_eq_true hf
      exact vValue_ok key text w hk this.1 this.2.1 this.2.2
  · rw [valE_key h1 h2 h3, if_neg (by decide), if_neg (by decide)]
    exact vValue_key key text w hz h1 h2 h3
theorem rValue_any (key text : ByteArray) (w : World) : Calls Try.prog 43 #[.string key, .string text] w (RetSSE (vaAL key.toList text.toList) (vaRL key.toList text.toList) (valE key.size text.size) w) := by
  rw [vaAL, vaRL, tl_size, tl_size]
  rcases key_cases key with hk | ⟨h1, h2, h3⟩
  · cases hf : ufit text.size
    · rw [valE_size hk hf, if_neg (by decide), if_neg (by decide)]
      exact rValue_size key text w hk hf
    · rw [valE_ok hk hf, if_pos rfl, if_pos rfl]
      have := of_decide_eq_true hf
      exact rValue_ok key text w hk this.1 this.2.1 this.2.2
  · rw [valE_key h1 h2 h3, if_neg (by decide), if_neg (by decide)]
    exact rValue_key key text w h1 h2 h3
end Go.Proofs.Ytigegblpledogaa
namespace Go.Proofs.Ytigegblpledogaa
open Go.RowKit
set_option linter.unusedVariables false
set_option linter.unusedSimpArgs false
theorem empty_tl {s : ByteArray} (h : s.toList = []) : s = ByteArray.mk #[] := tl_inj (by rw [h]; exact (tl_mk []).symm)
theorem below_dN {B : Nat} {a w : World} (h : Below B a w) (n : Nat) : Below B a (w.drewN n) := ⟨h.os, h.tape, h.output, h.size, h.block⟩
theorem val_mk : (ByteArray.mk #[166, 166, 166, 166, 166, 166, 166, 166]).toList = wval := valB_tl
set_option maxRecDepth 100000 in
set_option maxHeartbeats 1600000 in
theorem uUnwrap_any (key text : ByteArray) (w : World) (hz : text.size ≤ 140737488355328) : Calls Try.prog 40 #[.string key, .string text] w (RetSE (unwL key.toList text.toList) (unwE key.toList text.toList) w) := by
  obtain ⟨c, hc⟩ : ∃ c, valE key.size text.size = c := ⟨_, rfl⟩
  by_cases hc0 : c = 0
  · subst hc0
    have hE : unwE key.toList text.toList = if vaAL key.toList text.toList = wval then 0 else 8 := by rw [unwE, tl_size, tl_size, if_pos hc]
    have HC := Lib.hid hc
    by_cases hA : vaAL key.toList text.toList = wval
    · rw [if_pos hA] at hE
      rw [unwL, if_pos hE, hE]
      have HA := Lib.hid hA
      clear hE hc hA
      go_enter Try.func40, Try.ntmps40
      go_wp2_with fail
      refine (vValue_any key text _ hz).mono ?_
      rintro e w1 ⟨f, t, rfl, hf, ht, hb1⟩
      rw [HC.out]
      have hfz : f.size ≤ maxLen := by rw [← tl_size, hf, HA.out]; decide
      have hq : (f.toList == (ByteArray.mk #[166, 166, 166, 166, 166, 166, 166, 166]).toList) = true := by rw [hf, HA.out, val_mk, beq_self_eq_true]
      have HQ := Lib.hid hq
      clear hf hq
      go_wp2_with fail
      refine (same_any f (ByteArray.mk #[166, 166, 166, 166, 166, 166, 166, 166]) _ hfz (by decide)).mono ?_
      rintro e w2 ⟨rfl, n, rfl⟩
      rw [HQ.out]
      go_wp2_with fail
      go_ret2
      exact ret_se ht rfl rfl (below_dN hb1 n)
    · rw [if_neg hA] at hE
      rw [unwL, hE, if_neg (by decide)]
      have HA := Lib.hid hA
      clear hE hc hA
      go_enter Try.func40, Try.ntmps40
      go_wp2_with fail
      refine (vValue_any key text _ hz).mono ?_
      rintro e w1 ⟨f, t, rfl, hf, ht, hb1⟩
      rw [HC.out]
      have hfz : f.size ≤ maxLen := by
        rw [← tl_size, hf, vaAL]
        unfold maxLen
        split
        · rw [List.length_take]; omega
        · simp
      have hq : (f.toList == (ByteArray.mk #[166, 166, 166, 166, 166, 166, 166, 166]).toList) = false := by rw [hf, val_mk, beq_eq_false_iff_ne]; exact HA.out
      have HQ := Lib.hid hq
      clear hf hq
      go_wp2_with fail
      refine (same_any f (ByteArray.mk #[166, 166, 166, 166, 166, 166, 166, 166]) _ hfz (by decide)).mono ?_
      rintro e w2 ⟨rfl, n, rfl⟩
      rw [HQ.out]
      go_wp2_with fail
      go_ret2
      exact ret_se (tl_mk []) rfl rfl (below_dN hb1 n)
  · have hE : unwE key.toList text.toList = c := by rw [unwE, tl_size, tl_size, hc, if_neg hc0]
    rw [unwL, hE, if_neg hc0]
    have HC := Lib.hid hc
    have e1 : (c != 0) = true := by rw [bne_iff_ne]; exact hc0
    clear hE hc
    go_enter Try.func40, Try.ntmps40
    go_wp2_with fail
    refine (vValue_any key text _ hz).mono ?_
    rintro e w1 ⟨f, t, rfl, hf, ht, hb1⟩
    rw [HC.out]
    clear hf ht
    go_wp2_with fail
    go_ret2
    exact ret_se (tl_mk []) rfl rfl hb1
set_option maxRecDepth 100000 in
set_option maxHeartbeats 1600000 in
theorem rUnwrap_any (key text : ByteArray) (w : World) : Calls Try.prog 41 #[.string key, .string text] w (RetSE (unwL key.toList text.toList) (unwE key.toList text.toList) w) := by
  obtain ⟨c, hc⟩ : ∃ c, valE key.size text.size = c := ⟨_, rfl⟩
  by_cases hc0 : c = 0
  · subst hc0
    have hE : unwE key.toList text.toList = if vaAL key.toList text.toList = wval then 0 else 8 := by rw [unwE, tl_size, tl_size, if_pos hc]
    have HC := Lib.hid hc
    by_cases hA : vaAL key.toList text.toList = wval
    · rw [if_pos hA] at hE
      rw [unwL, if_pos hE, hE]
      have HA := Lib.hid hA
      clear hE hc hA
      go_enter Try.func41, Try.ntmps41
      go_wp2_with fail
      refine (rValue_any key text _).mono ?_
      rintro e w1 ⟨f, t, rfl, hf, ht, hb1⟩
      rw [HC.out]
      have hq : f = ByteArray.mk #[166, 166, 166, 166, 166, 166, 166, 166] := tl_inj (by rw [hf, HA.out, val_mk])
      subst hq
      clear hf
      go_wp2_with fail
      go_ret2
      exact ret_se ht rfl rfl hb1
    · rw [if_neg hA] at hE
      rw [unwL, hE, if_neg (by decide)]
      have HA := Lib.hid hA
      clear hE hc hA
      go_enter Try.func41, Try.ntmps41
      go_wp2_with fail
      refine (rValue_any key text _).mono ?_
      rintro e w1 ⟨f, t, rfl, hf, ht, hb1⟩
      rw [HC.out]
      have hq : (f.toList == (ByteArray.mk #[166, 166, 166, 166, 166, 166, 166, 166]).toList) = false := by rw [hf, val_mk, beq_eq_false_iff_ne]; exact HA.out
      have hq2 : f ≠ ByteArray.mk #[166, 166, 166, 166, 166, 166, 166, 166] := fun h => by rw [h, beq_self_eq_true] at hq; cases hq
      have hq3 : (f.toList == [166, 166, 166, 166, 166, 166, 166, 166]) = false := by rw [hf, beq_eq_false_iff_ne]; exact HA.out
      clear hf
      go_wp2_with fail
      go_ret2
      exact ret_se (tl_mk []) rfl rfl hb1
  · have hE : unwE key.toList text.toList = c := by rw [unwE, tl_size, tl_size, hc, if_neg hc0]
    rw [unwL, hE, if_neg hc0]
    have HC := Lib.hid hc
    have e1 : (c != 0) = true := by rw [bne_iff_ne]; exact hc0
    clear hE hc
    go_enter Try.func41, Try.ntmps41
    go_wp2_with fail
    refine (rValue_any key text _).mono ?_
    rintro e w1 ⟨f, t, rfl, hf, ht, hb1⟩
    rw [HC.out]
    clear hf ht
    go_wp2_with fail
    go_ret2
    exact ret_se (tl_mk []) rfl rfl hb1
set_option maxRecDepth 100000 in
set_option maxHeartbeats 3200000 in
theorem wakes12_any (w : World) : Calls Try.prog 39 #[] w (RetT w) := by
  obtain ⟨k, hk⟩ : ∃ k : ByteArray, k = ⟨#[0, 1, 2, 3, 4, 5, 6, 7, 8, 9, 10, 11, 12, 13, 14, 15]⟩ := ⟨_, rfl⟩
  obtain ⟨t, ht⟩ : ∃ t : ByteArray, t = ⟨#[0, 17, 34, 51, 68, 85, 102, 119, 136, 153, 170, 187, 204, 221, 238, 255]⟩ := ⟨_, rfl⟩
  have hkl : k.toList = wkey := by rw [hk]; exact tl_mk _
  have htl : t.toList = wtxt := by rw [ht]; exact tl_mk _
  have hks : k.size = 16 := by rw [hk]; rfl
  have hts : t.size = 16 := by rw [ht]; rfl
  have hE : wraE k.size t.size = 0 := by rw [hks, hts]; rfl
  have hE2 : wraE k.toList.length t.toList.length = 0 := by rw [tl_size, tl_size]; exact hE
  have hL := (wrap_back _ _ hE2).1
  have HW := Lib.hid (fun w => wWrap_any k t w (by omega))
  have HWX : Hid ((wraL k.toList t.toList).take 8 = [31, 166, 139, 10, 129, 18, 180, 71]) := by rw [hkl, htl]; exact wex
  have HLX : Hid ((wraL k.toList t.toList).length = 24) := by show _ = _; rw [hL, tl_size, hts]
  have HE := Lib.hid hE
  have HKE := Lib.hid hk
  have HTE := Lib.hid ht
  have HW2 := HW.out
  rw [hE] at HW2
  rw [hk, ht] at HW2
  have HW3 := Lib.hid HW2
  clear hkl htl hks hts hE hE2 hL HW HW2 hk ht
  go_enter Try.func39, Try.ntmps39
  go_wp2_with fail
  refine (HW3.out _).mono ?_
  rintro e w1 ⟨s, rfl, hs, hb1⟩
  rw [← HKE.out, ← HTE.out] at hs
  have hss : s.size = 24 := by rw [← tl_size, hs, HLX.out]
  have hss2 : ((s.size : Int) == 24) = true := by rw [beq_iff_eq]; omega
  have i1 : (8 : Int) ≤ (s.size : Int) := by omega
  have i2 : 8 ≤ s.size := by omega
  obtain ⟨x, hx⟩ : ∃ x, s.extract 0 8 = x := ⟨_, rfl⟩
  have hxe : x = ByteArray.mk #[31, 166, 139, 10, 129, 18, 180, 71] := tl_inj (by rw [← hx, tl_ext0, hs, HWX.out]; exact (tl_mk _).symm)
  subst hxe
  clear hs hss
  go_wp2_with fail
  go_ret
  exact ⟨rfl, hb1⟩
end Go.Proofs.Ytigegblpledogaa
namespace Go.Proofs.Ytigegblpledogaa
open Go.RowKit
set_option linter.unusedVariables false
set_option linter.unusedSimpArgs false
set_option maxRecDepth 100000 in
theorem wrapWraps_walk (key text : ByteArray) (zk : key.size ≤ 140737488351232) (zt : text.size ≤ 140737488351232) (w : World) : Calls Try.prog 12 #[.string key, .string text] w (RetT w) := by
  obtain ⟨c, hc⟩ : ∃ c, wraE key.size text.size = c := ⟨_, rfl⟩
  have HC := Lib.hid hc
  clear hc
  go_enter Try.func12, Try.ntmps12
  go_wp2_with fail
  refine (wWrap_any key text _ (by omega)).mono ?_
  rintro e w1 ⟨x1, rfl, hx1, hb1⟩
  rw [HC.out]
  go_wp2_with fail
  refine (rWrap_any key text _).mono ?_
  rintro e w2 ⟨x2, rfl, hx2, hb2⟩
  rw [HC.out]
  obtain rfl : x1 = x2 := tl_inj (by rw [hx1, hx2])
  have hb12 := below2 hb1 hb2
  clear hx1 hx2 hb1 hb2
  go_wp2_with fail
  refine (wakes12_any _).mono ?_
  rintro e w3 ⟨rfl, hb3⟩
  go_wp2_with fail
  go_ret
  exact ⟨rfl, below2 hb12 hb3⟩
set_option maxRecDepth 100000 in
theorem wrapUnwraps_walk (key text : ByteArray) (zk : key.size ≤ 140737488351232) (zt : text.size ≤ 140737488351232) (w : World) : Calls Try.prog 13 #[.string key, .string text] w (RetT w) := by
  obtain ⟨c, hc⟩ : ∃ c, unwE key.toList text.toList = c := ⟨_, rfl⟩
  have HC := Lib.hid hc
  clear hc
  go_enter Try.func13, Try.ntmps13
  go_wp2_with fail
  refine (uUnwrap_any key text _ (by omega)).mono ?_
  rintro e w1 ⟨x1, rfl, hx1, hb1⟩
  rw [HC.out]
  go_wp2_with fail
  refine (rUnwrap_any key text _).mono ?_
  rintro e w2 ⟨x2, rfl, hx2, hb2⟩
  rw [HC.out]
  obtain rfl : x1 = x2 := tl_inj (by rw [hx1, hx2])
  have hb12 := below2 hb1 hb2
  clear hx1 hx2 hb1 hb2
  go_wp2_with fail
  refine (wakes12_any _).mono ?_
  rintro e w3 ⟨rfl, hb3⟩
  go_wp2_with fail
  go_ret
  exact ⟨rfl, below2 hb12 hb3⟩
set_option maxRecDepth 100000 in
set_option maxHeartbeats 1600000 in
theorem wrapValues_walk (key text : ByteArray) (zk : key.size ≤ 140737488351232) (zt : text.size ≤ 140737488351232) (w : World) : Calls Try.prog 14 #[.string key, .string text] w (RetT w) := by
  obtain ⟨c, hc⟩ : ∃ c, valE key.size text.size = c := ⟨_, rfl⟩
  obtain ⟨d, hd⟩ : ∃ d, unwE key.toList text.toList = d := ⟨_, rfl⟩
  have HC := Lib.hid hc
  have HD := Lib.hid hd
  have h1 : c ≠ 0 → d = c ∧ unwL key.toList text.toList = [] := fun h0 => by
    have : unwE key.toList text.toList = c := by rw [unwE, tl_size, tl_size, hc, if_neg h0]
    exact ⟨by rw [← hd, this], by rw [unwL, this, if_neg h0]⟩
  have h2 : c = 0 → vaAL key.toList text.toList ≠ wval → d = 8 ∧ unwL key.toList text.toList = [] := fun h0 hA => by
    have : unwE key.toList text.toList = 8 := by rw [unwE, tl_size, tl_size, hc, if_pos h0, if_neg hA]
    exact ⟨by rw [← hd, this], by rw [unwL, this, if_neg (by decide)]⟩
  have h3 : c = 0 → vaAL key.toList text.toList = wval → d = 0 ∧ unwL key.toList text.toList = vaRL key.toList text.toList := fun h0 hA => by
    have : unwE key.toList text.toList = 0 := by rw [unwE, tl_size, tl_size, hc, if_pos h0, if_pos hA]
    exact ⟨by rw [← hd, this], by rw [unwL, if_pos this]⟩
  have H1 := Lib.hid h1
  have H2 := Lib.hid h2
  have H3 := Lib.hid h3
  clear hc hd h1 h2 h3
  go_enter Try.func14, Try.ntmps14
  go_wp2_with fail
  refine (vValue_any key text _ (by omega)).mono ?_
  rintro e w1 ⟨x1, y1, rfl, hx1, hy1, hb1⟩
  rw [HC.out]
  go_wp2_with fail
  refine (rValue_any key text _).mono ?_
  rintro e w2 ⟨x2, y2, rfl, hx2, hy2, hb2⟩
  rw [HC.out]
  obtain rfl : x1 = x2 := tl_inj (by rw [hx1, hx2])
  obtain rfl : y1 = y2 := tl_inj (by rw [hy1, hy2])
  have hb12 := below2 hb1 hb2
  clear hx2 hy2 hb1 hb2
  go_wp2_with fail
  refine (uUnwrap_any key text _ (by omega)).mono ?_
  rintro e w3 ⟨u, rfl, hu, hb3⟩
  rw [HD.out]
  have hb13 := below2 hb12 hb3
  have HX := Lib.hid hx1
  have HY := Lib.hid hy1
  have HU := Lib.hid hu
  clear hx1 hy1 hu hb12 hb3
  go_wp2_with fail
  refine (wakes12_any _).mono ?_
  rintro e w4 ⟨rfl, hb4⟩
  have hb14 := below2 hb13 hb4
  clear hb13 hb4
  by_cases h0 : c = 0
  · subst h0
    by_cases hA : vaAL key.toList text.toList = wval
    · obtain ⟨rfl, hL⟩ := H3.out rfl hA
      obtain rfl : u = y1 := tl_inj (by rw [HU.out, hL, HY.out])
      obtain rfl : x1 = ByteArray.mk #[166, 166, 166, 166, 166, 166, 166, 166] := tl_inj (by rw [HX.out, hA, val_mk])
      clear hA hL
      go_wp2_with fail
      go_ret
      exact ⟨rfl, hb14⟩
    · obtain ⟨rfl, hL⟩ := H2.out rfl hA
      obtain rfl := empty_tl (show u.toList = [] by rw [HU.out, hL])
      have hq3 : (x1.toList == [166, 166, 166, 166, 166, 166, 166, 166]) = false := by rw [HX.out, beq_eq_false_iff_ne]; exact hA
      have hq2 : x1 ≠ ByteArray.mk #[166, 166, 166, 166, 166, 166, 166, 166] := fun h => hA (by rw [← HX.out, h, val_mk])
      clear hA hL
      go_wp2_with fail
      go_ret
      exact ⟨rfl, hb14⟩
  · obtain ⟨rfl, hL⟩ := H1.out h0
    obtain rfl := empty_tl (show u.toList = [] by rw [HU.out, hL])
    have e1 : (d != 0) = true := by rw [bne_iff_ne]; exact h0
    clear hL
    go_wp2_with fail
    go_ret
    exact ⟨rfl, hb14⟩
set_option maxRecDepth 100000 in
set_option maxHeartbeats 1600000 in
theorem wrapBack_walk (key text : ByteArray) (zk : key.size ≤ 140737488351232) (zt : text.size ≤ 140737488351232) (w : World) : Calls Try.prog 15 #[.string key, .string text] w (RetT w) := by
  obtain ⟨c, hc⟩ : ∃ c, wraE key.size text.size = c := ⟨_, rfl⟩
  have HC := Lib.hid hc
  by_cases h0 : c = 0
  · subst h0
    obtain ⟨hl, hE, hL⟩ := wrap_back key.toList text.toList (by rw [tl_size, tl_size]; exact hc)
    have HL := Lib.hid hl
    have HE := Lib.hid hE
    have HLL := Lib.hid hL
    have e1 : IntKind.i64.wrap ((text.size : Int) + 8) = (text.size : Int) + 8 := wrap_in _ (by omega) (by omega)
    have hbd : text.size ≤ 1024 := by
      have hk : key.size = 16 ∨ key.size = 24 ∨ key.size = 32 := by
        rcases key_cases key with hk | ⟨k1, k2, k3⟩
        · exact hk
        · rw [wraE_key k1 k2 k3] at hc; cases hc
      cases hf : wfit text.size
      · rw [wraE_size hk hf] at hc; cases hc
      · exact (of_decide_eq_true hf).2.2
    clear hc hl hE hL
    go_enter Try.func15, Try.ntmps15
    go_wp2_with fail
    refine (wWrap_any key text _ (by omega)).mono ?_
    rintro e w1 ⟨s, rfl, hs, hb1⟩
    rw [HC.out]
    have hss : s.size = text.size + 8 := by rw [← tl_size, hs, HL.out, tl_size]
    have HS := Lib.hid hs
    have HSS := Lib.hid hss
    clear hs hss
    go_wp2_with fail
    refine (uUnwrap_any key s _ (by have := HSS.out; omega)).mono ?_
    rintro e w2 ⟨u, rfl, hu, hb2⟩
    rw [HS.out, HE.out]
    rw [HS.out, HLL.out] at hu
    obtain rfl := tl_inj hu
    have hb12 := below2 hb1 hb2
    clear hu hb1 hb2
    go_wp2_with fail
    refine (wakes12_any _).mono ?_
    rintro e w3 ⟨rfl, hb3⟩
    have hz : ((s.size : Int) == (u.size : Int) + 8) = true := by rw [beq_iff_eq]; have := HSS.out; omega
    go_wp2_with fail
    go_ret
    exact ⟨rfl, below2 hb12 hb3⟩
  · have hE : wraL key.toList text.toList = [] := by rw [wraL, tl_size, tl_size, hc, if_neg h0]
    have HE := Lib.hid hE
    have e1 : (c != 0) = true := by rw [bne_iff_ne]; exact h0
    clear hc hE
    go_enter Try.func15, Try.ntmps15
    go_wp2_with fail
    refine (wWrap_any key text _ (by omega)).mono ?_
    rintro e w1 ⟨s, rfl, hs, hb1⟩
    rw [HC.out]
    obtain rfl := empty_tl (hs.trans HE.out)
    clear hs
    go_wp2_with fail
    refine (uUnwrap_any key (ByteArray.mk #[]) _ (by decide)).mono ?_
    rintro e w2 ⟨u, rfl, hu, hb2⟩
    obtain ⟨d, hd⟩ : ∃ d, unwE key.toList (ByteArray.mk #[]).toList = d := ⟨_, rfl⟩
    rw [hd]
    have hb12 := below2 hb1 hb2
    clear hu hb1 hb2 hd
    go_wp2_with fail
    refine (wakes12_any _).mono ?_
    rintro e w3 ⟨rfl, hb3⟩
    go_wp2_with fail
    go_ret
    exact ⟨rfl, below2 hb12 hb3⟩
end Go.Proofs.Ytigegblpledogaa
