/- Joined by merge.py: CtrC CtrD CbcX CbcY CcmP CcmA CcmB CcmC CcmD CcmE CcmF CcmG CcmH CcmI CcmX CcmJ CcmK. -/
import Derived.Test.YthaajaajhddhdaaCtrB
import Derived.Test.YthaajaajhddhdaaOctC
import Derived.Test.YthaajaajhddhdaaAesBe
import Derived.Test.YthaajaajhddhdaaAesBo
import Derived.Test.YthaajaajhddhdaaRowC
import Derived.ArgAppend
import Derived.Test.YthaajaajhddhdaaCtrP
import Derived.Test.YthaajaajhddhdaaAesM
import Derived.Test.YthaajaajhddhdaaShf
import Derived.Test.YthaajaajhddhdaaOctA
import Derived.IntWalk
namespace Go.Proofs.Ythaajaajhddhdaa
open Go.RowKit
set_option linter.unusedVariables false
set_option linter.unusedSimpArgs false
theorem At.take {w : World} {g : Nat} {l : List UInt8} (h : At w g 0 (bcells l)) (n : Nat) : At w g 0 (bcells (l.take n)) := by
  rw [← List.take_append_drop n l, bcells_append] at h
  exact h.split.1
theorem own_slice {w : World} {B e n : Nat} {v : Value} {xs : List Value} (h : w.ownsRow B e 1 v n xs) : ∃ p cap, v = .slice p n cap := by
  rcases h.2 with ⟨rfl, rfl⟩ | ⟨g, cap, cur, rfl, _⟩
  · exact ⟨none, 0, rfl⟩
  · exact ⟨some ⟨g, 0, none⟩, cap, rfl⟩
end Go.Proofs.Ythaajaajhddhdaa
namespace Go.Proofs.Ythaajaajhddhdaa
open Go.RowKit
set_option linter.unusedVariables false
set_option linter.unusedSimpArgs false
theorem keyOk_yes {n : Nat} (h : n = 16 ∨ n = 24 ∨ n = 32) : keyOk n = true := by simp [keyOk, h]
theorem keyOk_no {n : Nat} (h1 : n ≠ 16) (h2 : n ≠ 24) (h3 : n ≠ 32) : keyOk n = false := by simp [keyOk, h1, h2, h3]
theorem ctrR_ne {K S T : List UInt8} {wd : Int} (h : ctrE K.length S.length wd T.length ≠ 0) : ctrR K S wd T = [] := by rw [ctrR, if_neg h]
theorem ctrR_ok {K S T : List UInt8} {wd : Nat} (h : ctrE K.length S.length (wd : Int) T.length = 0) : ctrR K S (wd : Int) T = ctrL K S wd T := by rw [ctrR, if_pos h, Int.toNat_natCast]
theorem ctrE_zero {k n t : Nat} {wd : Int} (h : ctrE k n wd t = 0) : (k = 16 ∨ k = 24 ∨ k = 32) ∧ n = 16 ∧ 1 ≤ wd ∧ wd ≤ 16 ∧ t ≤ 70000 := by
  unfold ctrE at h
  split at h
  · rename_i hk
    split at h
    · rename_i hm
      split at h
      · cases h
      · obtain ⟨a, b, c⟩ := may_zero hm
        exact ⟨by simpa [keyOk] using hk, a, b, c, by omega⟩
    · rename_i hm; exact absurd h hm
  · cases h
theorem may_range (n : Nat) (wd : Int) : mayE n wd = 0 ∨ mayE n wd = 2 ∨ mayE n wd = 4 := by
  unfold mayE
  split
  · split <;> simp
  · simp
set_option maxRecDepth 100000 in
set_option maxHeartbeats 1600000 in
theorem cxor_any (key start text : ByteArray) (wd : Int) (w : World) : Calls Try.prog 28 #[.string key, .string start, .int .i64 wd, .string text] w (RetSE (ctrR key.toList start.toList wd text.toList) (ctrE key.size start.size wd text.size) w) := by
  have htl : ctrE key.toList.length start.toList.length wd text.toList.length = ctrE key.size start.size wd text.size := by rw [tl_size, tl_size, tl_size]
  rcases key_cases key with hk | ⟨h1, h2, h3⟩
  · by_cases hm : mayE start.size wd = 0
    · obtain ⟨hs, hw1, hw2⟩ := may_zero hm
      obtain ⟨k, rfl⟩ := Int.eq_ofNat_of_zero_le (a := wd) (by omega)
      by_cases ht : text.size ≤ 70000
      · have hE : ctrE key.size start.size (k : Int) text.size = 0 := by rw [ctrE, if_pos (keyOk_yes hk), if_pos hm, if_neg (by omega)]
        rw [ctrR_ok (by rw [htl, hE]), hE]
        exact cxor_ok key start text k w hk hs (by omega) (by omega) ht
      · have hE : ctrE key.size start.size (k : Int) text.size = 6 := by rw [ctrE, if_pos (keyOk_yes hk), if_pos hm, if_pos (by omega)]
        rw [ctrR_ne (by rw [htl, hE]; decide), hE]
        have hTI : (70000 : Int) < (text.size : Int) := by omega
        have HM := Lib.hid hm
        clear hm hE htl hs ht
        go_enter Try.func28, Try.ntmps28
        go_wp2_with fail
        refine (new_q key _ hk).mono ?_
        rintro e w1 ⟨g, hg, rfl, hQ, hb1⟩
        go_wp2_with fail
        refine (may_any start _ _).mono ?_
        rintro e w1' ⟨rfl, rfl⟩
        rw [HM.out]
        go_wp2_with fail
        go_ret2
        exact ret_se (tl_mk []) rfl rfl hb1
    · obtain ⟨c, hc⟩ : ∃ c, mayE start.size wd = c := ⟨_, rfl⟩
      have hE : ctrE key.size start.size wd text.size = c := by rw [ctrE, if_pos (keyOk_yes hk), if_neg hm, hc]
      rw [hc] at hm
      rw [ctrR_ne (by rw [htl, hE]; exact hm), hE]
      have e1 : (c == 0) = false := by rw [beq_eq_false_iff_ne]; exact hm
      have e2 : (c != 0) = true := by rw [bne_iff_ne]; exact hm
      have HC := Lib.hid hc
      clear hc hE htl hm
      go_enter Try.func28, Try.ntmps28
      go_wp2_with fail
      refine (new_q key _ hk).mono ?_
      rintro e w1 ⟨g, hg, rfl, hQ, hb1⟩
      go_wp2_with fail
      refine (may_any start _ _).mono ?_
      rintro e w1' ⟨rfl, rfl⟩
      rw [HC.out]
      go_wp2_with fail
      go_ret2
      exact ret_se (tl_mk []) rfl rfl hb1
  · have hE : ctrE key.size start.size wd text.size = 3 := by rw [ctrE, keyOk_no h1 h2 h3]; rfl
    rw [ctrR_ne (by rw [htl, hE]; decide), hE]
    clear hE htl
    go_enter Try.func28, Try.ntmps28
    go_wp2_with fail
    refine (new_bad key _ h1 h2 h3).mono ?_
    rintro e w1 ⟨rfl, rfl⟩
    go_wp2_with fail
    go_ret2
    exact ret_se (tl_mk []) rfl rfl (Below.refl _ _)
end Go.Proofs.Ythaajaajhddhdaa
namespace Go.Proofs.Ythaajaajhddhdaa
open Go.RowKit
set_option linter.unusedVariables false
set_option linter.unusedSimpArgs false
section
variable {P : Program} {w : World}
theorem run_copy_text (dT sT ty elem : TypeId) (g o dLen dCap : Nat) (s : ByteArray) (old : List Value) (hu : P.underlying dT = some (.slice elem)) (hi : (P.info? elem).map (·.size) = some 1)
    (hc : At w g o old) (m : Nat) (hm : Nat.min s.size dLen = m) (ho : old.length = m) :
    (Builtin.copy_ #[dT, sT] ty #[.slice (some ⟨g, o, none⟩) dLen dCap, .string s]).run P w = .ok (goInt m) (w.setCells g o (bcells (s.toList.take m))) := by
  have hl : (bcells (s.toList.take m)).length = m := by
    rw [bcells_length, List.length_take, tl_size]
    have : Nat.min s.size dLen ≤ s.size := Nat.min_le_left _ _
    omega
  have hst := run_store_at (P := P) hc (cs := bcells (s.toList.take m)) (by rw [hl, ho]) (bcells_one _)
  have e1 : List.take m (s.data.toList.map fun x => Value.int .u8 (x.toNat : Int)) = bcells (s.toList.take m) := by
    rw [Lib.toList_data, bcells, List.map_take]
  cases hq : P.info? elem with
  | none => simp [hq] at hi
  | some i =>
    have hi1 : i.size = 1 := by simpa [hq] using hi
    simp [Builtin.copy_, run_underlying hu, Builtin.lenOf, Builtin.firstCells, sizeOf, typeInfo, hq, hi1, hm]
    rw [e1, hst]
    rfl
theorem wpList_copy_text {ops : Array Oper} {rest : List Oper} {o : Oper} {a : Act} {Q : Exit → Act → World → Prop} (hgd : o.guard = none) (d x : Operand) (dT sT : TypeId)
    (ho : o.op = .call { callee := .builtin .copy, args := #[d, x], argTypes := #[dT, sT] }) (elem : TypeId) (hu : P.underlying dT = some (.slice elem)) (hi : (P.info? elem).map (·.size) = some 1)
    (g off dLen dCap : Nat) (hd : a.eval d = .slice (some ⟨g, off, none⟩) dLen dCap) (s : ByteArray) (hx : a.eval x = .string s) (old : List Value) (hc : At w g off old) (m : Nat) (hm : Nat.min s.size dLen = m) (hol : old.length = m)
    (h : ∀ w', Hid (w' = w.setCells g off (bcells (s.toList.take m))) → wpList P ops Q rest (a.put o.dst (goInt m)) w') : wpList P ops Q (o :: rest) a w := by
  refine wpList_plain hgd fun K hK => ?_
  have hrun := run_copy_text (P := P) dT sT o.type elem g off dLen dCap s old hu hi hc m hm hol
  unfold Oper.wp
  simp [execOp, ho, resolve, invoke, builtin, hd, hx, hrun, Result.andThen]
  exact hK _ _ (h _ rfl)
theorem step_copy_text {ops : Array Oper} {o : Oper} {a : Act} {K : Act → World → Prop} {Q : Exit → Act → World → Prop} {E : Prop} (hgd : o.guard = none) (d x : Operand) (dT sT : TypeId)
    (ho : o.op = .call { callee := .builtin .copy, args := #[d, x], argTypes := #[dT, sT] }) (elem : TypeId) (hu : P.underlying dT = some (.slice elem)) (hi : (P.info? elem).map (·.size) = some 1)
    (g off dLen dCap : Nat) (hd : a.eval d = .slice (some ⟨g, off, none⟩) dLen dCap) (s : ByteArray) (hx : a.eval x = .string s) (old : List Value) (hc : At w g off old) (m : Nat) (hm : Nat.min s.size dLen = m) (hol : old.length = m)
    (h : ∀ w', Hid (w' = w.setCells g off (bcells (s.toList.take m))) → K (a.put o.dst (goInt m)) w') :
    if Region.wanted o (yielded ops a.tmps) = true then Oper.wp P o a w K Q else E := by
  have hw : Region.wanted o (yielded ops a.tmps) = true := by simp [Region.wanted, hgd]
  rw [if_pos hw]
  have hrun := run_copy_text (P := P) dT sT o.type elem g off dLen dCap s old hu hi hc m hm hol
  unfold Oper.wp
  simp [execOp, ho, resolve, invoke, builtin, hd, hx, hrun, Result.andThen]
  exact h _ rfl
end
/-- what stays as it was -/
theorem At.ofCopy {w w' : World} {g o : Nat} {old new : List Value} (h : At w g o old) (hl : old.length = new.length) (hw : w' = w.setCells g o new) : At w' g o new := by
  subst hw
  exact h.ofSets hl
theorem At.byCopy {w w' : World} {g o g' o' : Nat} {cs new : List Value} (h : At w g o cs) (hw : w' = w.setCells g' o' new) (hne : g' ≠ g ∨ o' + new.length ≤ o ∨ o + cs.length ≤ o') : At w' g o cs := by
  subst hw
  exact h.apartSets hne
theorem below_copy {B g o : Nat} {a w w' : World} {new : List Value} (h : Below B a w) (hg : B ≤ g) (hw : w' = w.setCells g o new) : Below B a w' := by
  subst hw
  exact below_sets _ _ hg _ _ _ _ h
theorem At.join {w : World} {g o : Nat} {a b : List Value} (h1 : At w g o a) (h2 : At w g (o + a.length) b) : At w g o (a ++ b) := fun j v hv => by
  rcases Nat.lt_or_ge j a.length with hj | hj
  · exact h1 j v (by rw [List.getElem?_append_left hj] at hv; exact hv)
  · have := h2 (j - a.length) v (by rw [List.getElem?_append_right hj] at hv; exact hv)
    rw [Nat.add_assoc, show a.length + (j - a.length) = j by omega] at this
    exact this
theorem At.midOf {w : World} {g o : Nat} {A Z R : List UInt8} (h : At w g 0 (bcells (A ++ (Z ++ R)))) (hA : A.length = o) : At w g o (bcells Z) := by
  rw [← List.append_assoc, bcells_append, bcells_append] at h
  have h2 := h.sub
  rwa [bcells_length, hA, Nat.zero_add] at h2
theorem At.midSet {w w' : World} {g o : Nat} {A Z R X : List UInt8} (h : At w g 0 (bcells (A ++ (Z ++ R)))) (hA : A.length = o) (hZ : Z.length = X.length) (hw : w' = w.setCells g o (bcells X)) : At w' g 0 (bcells (A ++ (X ++ R))) := by
  have hz := h.midOf hA
  rw [bcells_append, bcells_append] at h
  have h1 : At w g 0 (bcells A) := At.sub (a := []) h
  have h3 : At w g (o + Z.length) (bcells R) := by
    have h0 : At w g 0 ((bcells A ++ bcells Z) ++ bcells R ++ []) := by rw [List.append_nil, List.append_assoc]; exact h
    have h2 := h0.sub
    rwa [List.length_append, bcells_length, bcells_length, hA, Nat.zero_add] at h2
  have k1 : At w' g 0 (bcells A) := h1.byCopy hw (.inr (.inr (by rw [bcells_length]; omega)))
  have k2 : At w' g o (bcells X) := hz.ofCopy (by rw [bcells_length, bcells_length, hZ]) hw
  have k3 : At w' g (o + X.length) (bcells R) := by
    rw [← hZ]
    exact h3.byCopy hw (.inr (.inl (by rw [bcells_length]; omega)))
  rw [bcells_append, bcells_append]
  refine k1.join ?_
  rw [bcells_length, hA, Nat.zero_add]
  refine k2.join ?_
  rw [bcells_length]
  exact k3
end Go.Proofs.Ythaajaajhddhdaa
namespace Go.Proofs.Ythaajaajhddhdaa
open Go.RowKit
set_option linter.unusedVariables false
set_option linter.unusedSimpArgs false
theorem At.ofHeap {w : World} {g : Nat} {cur : Array Value} {e : TypeId} {fz : Nat × Nat} (h : w.heap[g]? = some (.cells cur e fz)) (hf : fz.2 = 0 ∨ cur.size ≤ fz.1) : At w g 0 cur.toList := fun j v hv => by
  rw [Nat.zero_add]
  have hj : j < cur.size := by have := (List.getElem?_eq_some_iff.1 hv).1; simpa using this
  constructor
  · rw [cell_of_row w g j cur e fz h]; simpa using hv
  · obtain ⟨lo, hi⟩ := fz
    simp only [World.frozen?, h, Bool.and_eq_false_iff, decide_eq_false_iff_not]
    simp only at hf
    omega
/-- bytes in a row of the call's own, and room behind them -/
def Bag (w : World) (B : Nat) (v : Value) (l : List UInt8) : Prop := ∃ g cap spare, v = .slice (some ⟨g, 0, none⟩) l.length cap ∧ B ≤ g ∧ l.length ≤ cap ∧ spare.length = cap - l.length ∧ At w g 0 (bcells l ++ spare)
theorem Bag.alloc {w : World} {B : Nat} {v : Value} {l : List UInt8} (h : Bag w B v l) (o : Obj) : Bag (w.alloc o) B v l := by
  obtain ⟨g, cap, sp, hv, hb, hc, hs, ha⟩ := h
  exact ⟨g, cap, sp, hv, hb, hc, hs, ha.alloc o⟩
theorem Bag.drew {w : World} {B : Nat} {v : Value} {l : List UInt8} (h : Bag w B v l) : Bag w.drew B v l := h
theorem Bag.is {w : World} {B : Nat} {v : Value} {l : List UInt8} (h : Bag w B v l) : ∃ g cap, v = .slice (some ⟨g, 0, none⟩) l.length cap ∧ At w g 0 (bcells l) := by
  obtain ⟨g, cap, sp, hv, hb, hc, hs, ha⟩ := h
  exact ⟨g, cap, hv, ha.sub (a := []) (b := bcells l) (c := sp)⟩
theorem Bag.ofOwn {w : World} {B e n : Nat} {v : Value} {l : List UInt8} (h : w.ownsRow B e 1 v n (bcells l)) (hn : 0 < n) : Bag w B v l := by
  have hl : l.length = n := by have := h.1; rw [bcells_length] at this; simpa using this
  rcases h.2 with ⟨_, h0⟩ | ⟨g, cap, cur, hv, hb, hg, hnc, hcm, hcs, htake⟩
  · omega
  · refine ⟨g, cap, cur.toList.drop n, by rw [hv, hl], hb, by omega, by rw [List.length_drop, Array.length_toList, hcs]; omega, ?_⟩
    have h2 := At.ofHeap hg (.inl rfl)
    rw [← htake, Nat.mul_one, List.take_append_drop]
    exact h2
theorem wpList_bytes_bag {P : Program} (w : World) {ops : Array Oper} {rest : List Oper} {o : Oper} {a : Act} {Q : Exit → Act → World → Prop}
    (hg : o.guard = none) (x : Operand) (src dst e : TypeId) (hop : o.op = Op.convert src dst x) (h1 : P.underlying src = some .string) (h2 : P.underlying dst = some (.slice e)) (h3 : P.underlying e = some (.int .u8))
    (s : ByteArray) (hx : a.eval x = .string s) (B : Nat) (hB : B ≤ w.heap.size)
    (hK : ∀ v w', Bag w' B v s.toList → Below B w w' → wpList P ops Q rest (a.put o.dst v) w') :
    wpList P ops Q (o :: rest) a w := by
  refine wpList_plain hg fun K hK' => ?_
  have hrun := run_bytes_of_string (P := P) w src dst e s h1 h2 h3
  unfold Oper.wp
  simp [execOp, hop, hx, hrun, Result.andThen]
  have hcap := grownCap_ge w s.size 0 e
  refine hK' _ _ (hK _ _ ⟨w.heap.size, _, Array.toList (Array.replicate (grownCap w s.size 0 e - s.size) (.int .u8 0)), by rw [tl_size], hB, by rw [tl_size]; exact hcap, by rw [tl_size]; simp, ?_⟩ ((Below.refl _ _).drew.alloc hB _))
  have hA := At.ofHeap (heap_alloc_new w.drew (Obj.cells (bytesRow s (grownCap w s.size 0 e)) e ((bytesRow s (grownCap w s.size 0 e)).size, (bytesRow s (grownCap w s.size 0 e)).size + 1))) (.inr (Nat.le_refl _))
  have e1 : (bytesRow s (grownCap w s.size 0 e)).toList = bcells s.toList ++ (Array.replicate (grownCap w s.size 0 e - s.size) (Value.int .u8 0)).toList := by
    unfold bytesRow
    rw [Array.toList_append, Lib.toList_data]
    simp [bcells]
  rw [e1] at hA
  exact hA
theorem wpList_append_bag {P : Program} (w : World) {ops : Array Oper} {rest : List Oper} {o : Oper} {a : Act} {Q : Exit → Act → World → Prop} (hgd : o.guard = none) (s x : Operand) (t : TypeId)
    (ho : o.op = .call { callee := .builtin .append, args := #[s, x], argTypes := #[t, t] })
    (e : TypeId) (i : TypeInfo) (ht : P.underlying t = some (.slice e)) (hi : P.info? e = some i) (hz : i.zero = some (.int .u8 0)) (hsize : i.size = 1) (hby : i.bytes = 1)
    (v : Value) (B : Nat) (l : List UInt8) (hs : a.eval s = v) (hb : Bag w B v l) (gx : Nat) (hx : a.eval x = .slice (some ⟨gx, 0, none⟩) 1 1) (u : UInt8) (hu : w.cell? ⟨gx, 0, none⟩ = some (.int .u8 (u.toNat : Int)))
    (hB : B ≤ w.heap.size) (hn : l.length + 1 ≤ 140737488355328)
    (h : ∀ v' w', Bag w' B v' (l ++ [u]) → Below B w w' → wpList P ops Q rest (a.put o.dst v') w') : wpList P ops Q (o :: rest) a w := by
  obtain ⟨g, cap, sp, rfl, hbg, hlc, hsp, ha⟩ := hb
  refine wpList_plain hgd fun K hK => ?_
  have hnews : ∀ j w0, [Value.int .u8 (u.toNat : Int)][j]? = some w0 → w.cell? ((⟨gx, 0, none⟩ : Addr).add j) = some w0 := by
    intro j w0 hj
    match j with
    | 0 => simp at hj; rw [← hj]; exact hu
    | j + 1 => simp at hj
  have hone : ∀ w0 ∈ [Value.int .u8 (u.toNat : Int)], w0.oneCell' = true := by intro w0 hw0; simp at hw0; rw [hw0]; rfl
  by_cases hroom : l.length + 1 ≤ cap
  · obtain ⟨z, r, rfl⟩ : ∃ z r, sp = z :: r := by
      cases sp with
      | nil => simp at hsp; omega
      | cons z r => exact ⟨z, r, rfl⟩
    have ha3 : At w g 0 (bcells l ++ [z] ++ r) := by rw [List.append_assoc]; exact ha
    have hm := ha3.sub
    rw [bcells_length, Nat.zero_add] at hm
    have hr := run_append_room_cells (P := P) (w := w) t o.type e i ht hi g 0 l.length cap ⟨gx, 0, none⟩ 1 1 [Value.int .u8 (u.toNat : Int)] (by rw [hsize]; rfl) hnews hone hroom
      (by intro j hj; have hj0 : j = 0 := by simpa using hj
          subst hj0; rw [hsize, Nat.zero_add, Nat.mul_one, (hm 0 z rfl).1]; rfl)
      (by intro j hj; have hj0 : j = 0 := by simpa using hj
          subst hj0; rw [hsize, Nat.zero_add, Nat.mul_one]; exact (hm 0 z rfl).2)
    rw [hsize, Nat.zero_add, Nat.mul_one] at hr
    unfold Oper.wp
    simp only [execOp, ho, resolve, invoke, builtin, Sem.run_bind, Sem.run_pure, Result.andThen_ok, List.map_toArray, List.map_cons, List.map_nil, hs, hx, hr]
    refine hK _ _ (h _ _ ⟨g, cap, r, by rw [List.length_append]; rfl, hbg, by rw [List.length_append]; exact hroom, by rw [List.length_append]; simp at hsp ⊢; omega, ?_⟩ (below_sets _ _ hbg _ _ _ _ (Below.refl _ _)))
    have hw : w.setCells g l.length [Value.int .u8 (u.toNat : Int)] = w.setCells g l.length [Value.int .u8 (u.toNat : Int)] := rfl
    have k1 : At (w.setCells g l.length [Value.int .u8 (u.toNat : Int)]) g 0 (bcells l) := (At.sub (a := []) (b := bcells l) (c := [z] ++ r) ha).byCopy hw (.inr (.inr (by rw [bcells_length]; simp)))
    have k2 : At (w.setCells g l.length [Value.int .u8 (u.toNat : Int)]) g l.length [Value.int .u8 (u.toNat : Int)] := hm.ofCopy rfl hw
    have h3 : At w g (l.length + 1) r := by
      have h0 : At w g 0 ((bcells l ++ [z]) ++ r ++ []) := by rw [List.append_nil]; exact ha3
      have h2 := h0.sub
      rwa [List.length_append, bcells_length, Nat.zero_add] at h2
    have k3 : At (w.setCells g l.length [Value.int .u8 (u.toNat : Int)]) g (l.length + 1) r := h3.byCopy hw (.inr (.inl (by simp)))
    rw [bcells_append, List.append_assoc]
    refine k1.join ?_
    rw [bcells_length, Nat.zero_add]
    exact k2.join k3
  · obtain ⟨v', w', hr, h2, h3⟩ := run_append_arg_grows (P := P) (w := w) t o.type e i (.int .u8 0) 1 1 ht hi hz hsize hby rfl (by decide) ⟨g, 0, none⟩ l.length cap (bcells l) (by rw [bcells_length, Nat.mul_one])
      (by intro j w0 hj
          have h4 := (At.sub (a := []) (b := bcells l) (c := sp) ha) j w0 hj
          have hadd : (⟨g, 0, none⟩ : Addr).add j = ⟨g, j, none⟩ := by unfold Addr.add; split <;> simp_all
          rw [hadd]
          simpa using h4.1)
      ⟨gx, 0, none⟩ 1 1 [Value.int .u8 (u.toNat : Int)] rfl hnews (by omega) (by unfold maxLen; omega) (by omega)
    unfold Oper.wp
    simp only [execOp, ho, resolve, invoke, builtin, Sem.run_bind, Sem.run_pure, Result.andThen_ok, List.map_toArray, List.map_cons, List.map_nil, hs, hx, hr]
    have e1 : bcells l ++ [Value.int .u8 (u.toNat : Int)] = bcells (l ++ [u]) := by rw [bcells_append]; rfl
    rw [e1] at h2
    obtain ⟨g', cap', sp', hv', hb', hc', hs', ha'⟩ := Bag.ofOwn h2 (by omega)
    exact hK _ _ (h _ _ ⟨g', cap', sp', hv', Nat.le_trans hB hb', hc', hs', ha'⟩ ((Below.refl _ _).grown h3 hB (fun k hk => by cases hk)))
end Go.Proofs.Ythaajaajhddhdaa
namespace Go.Proofs.Ythaajaajhddhdaa
open Go.RowKit
set_option linter.unusedVariables false
set_option linter.unusedSimpArgs false
def blkL (T : List UInt8) (i : Nat) : List UInt8 := (T.drop (16 * i)).take 16
theorem blkL_length (T : List UInt8) (i : Nat) (h : 16 * (i + 1) ≤ T.length) : (blkL T i).length = 16 := by
  rw [blkL, List.length_take, List.length_drop]
  omega
def chA (K V T : List UInt8) : Nat → List UInt8
  | 0 => V
  | i + 1 => encL K (xorL (blkL T i) (chA K V T i))
theorem chA_length (K V T : List UInt8) (h : V.length = 16) : ∀ i, (chA K V T i).length = 16
  | 0 => h
  | i + 1 => by rw [chA, encL_length]
def chS (K V T : List UInt8) : Nat → List UInt8
  | 0 => []
  | i + 1 => chS K V T i ++ chA K V T (i + 1)
theorem chS_length (K V T : List UInt8) : ∀ i, (chS K V T i).length = 16 * i
  | 0 => rfl
  | i + 1 => by rw [chS, List.length_append, chS_length K V T i, chA, encL_length]; omega
def pvL (V T : List UInt8) : Nat → List UInt8
  | 0 => V
  | i + 1 => blkL T i
theorem pvL_length (V T : List UInt8) (h : V.length = 16) : ∀ i, 16 * i ≤ T.length → (pvL V T i).length = 16
  | 0, _ => h
  | i + 1, hi => blkL_length T i hi
def unS (K V T : List UInt8) : Nat → List UInt8
  | 0 => []
  | i + 1 => unS K V T i ++ xorL (decL K (blkL T i)) (pvL V T i)
theorem unS_length (K V T : List UInt8) (h : V.length = 16) : ∀ i, 16 * i ≤ T.length → (unS K V T i).length = 16 * i
  | 0, _ => rfl
  | i + 1, hi => by rw [unS, List.length_append, unS_length K V T h i (by omega), xorL_length, decL_length, pvL_length V T h i (by omega)]; omega
theorem blk_chS (K V T : List UInt8) (i : Nat) : ∀ n, i < n → blkL (chS K V T n) i = chA K V T (i + 1)
  | 0, h => absurd h (Nat.not_lt_zero _)
  | n + 1, h => by
    by_cases hi : i = n
    · subst hi
      rw [blkL, chS, List.drop_append_of_le_length (by rw [chS_length]; exact Nat.le_refl _), List.drop_of_length_le (by rw [chS_length]; exact Nat.le_refl _), List.nil_append, List.take_of_length_le]
      rw [chA, encL_length]
      exact Nat.le_refl _
    · have ih := blk_chS K V T i n (by omega)
      rw [← ih, blkL, blkL, chS, List.drop_append_of_le_length (by rw [chS_length]; omega), List.take_append_of_le_length (by rw [List.length_drop, chS_length]; omega)]
theorem pv_chS (K V T : List UInt8) (n : Nat) : ∀ i, i ≤ n → pvL V (chS K V T n) i = chA K V T i
  | 0, _ => rfl
  | i + 1, h => blk_chS K V T i n h
theorem un_ch (K V T : List UInt8) (n : Nat) (hv : V.length = 16) (hT : T.length = 16 * n) : unS K V (chS K V T n) n = T := by
  have h : ∀ i, i ≤ n → unS K V (chS K V T n) i = T.take (16 * i) := by
    intro i
    induction i with
    | zero => intro _; simp [unS]
    | succ i ih =>
      intro hi
      have hb := blkL_length T i (by omega)
      have ha := chA_length K V T hv i
      rw [unS, ih (by omega), blk_chS K V T i n (by omega), pv_chS K V T n i (by omega), chA, dec_enc _ _ (by rw [xorL_length, hb, ha]; rfl), xorL_twice _ _ (by omega), blkL, Nat.mul_succ, List.take_add]
  rw [h n (Nat.le_refl _), List.take_of_length_le (by omega)]
def padN (n size : Nat) : Nat := size - n % size
theorem padN_pos (n size : Nat) (h : 1 ≤ size) : 1 ≤ padN n size ∧ padN n size ≤ size := by
  have := Nat.mod_lt n (y := size) (by omega)
  unfold padN
  omega
theorem padN_mod (n size : Nat) (h : 1 ≤ size) : (n + padN n size) % size = 0 := by
  have h1 := Nat.mod_lt n (y := size) (by omega)
  have h2 := Nat.div_add_mod n size
  have h3 : n + padN n size = size * (n / size + 1) := by rw [Nat.mul_add, Nat.mul_one]; unfold padN; omega
  rw [h3, Nat.mul_mod_right]
/-- the least number that fills up is the one -/
theorem padN_least (n size k : Nat) (h : 1 ≤ size) (h1 : 1 ≤ k) (hk : k < padN n size) : (n + k) % size ≠ 0 := by
  have h1' := Nat.mod_lt n (y := size) (by omega)
  have h4 : (n + k) % size = n % size + k := by
    rw [← Nat.mod_add_mod, Nat.mod_eq_of_lt]
    unfold padN at hk
    omega
  omega
theorem padN_back (m size n : Nat) (h : 1 ≤ size) (hm : m % size = 0) (h1 : 1 ≤ n) (hn : n ≤ size) (hnm : n ≤ m) : padN (m - n) size = n := by
  obtain ⟨q, hq⟩ : ∃ q, m = size * q := ⟨m / size, by have := Nat.div_add_mod m size; omega⟩
  have hq1 : 1 ≤ q := by
    rcases Nat.eq_zero_or_pos q with h0 | h0
    · rw [h0] at hq; omega
    · exact h0
  have e : m - n = (size - n) + size * (q - 1) := by
    have : size * q = size * (q - 1) + size := by rw [← Nat.mul_succ]; congr 1; omega
    omega
  rw [padN, e, Nat.add_mul_mod_self_left]
  rcases Nat.lt_or_ge n size with h2 | h2
  · rw [Nat.mod_eq_of_lt (by omega)]; omega
  · have : size - n = 0 := by omega
    rw [this, Nat.zero_mod]; omega
def filL (n : Nat) : List UInt8 := List.replicate n (UInt8.ofNat n)
def padL (S : List UInt8) (size : Nat) : List UInt8 := S ++ filL (padN S.length size)
def lastN (S : List UInt8) : Nat := (S.getD (S.length - 1) 0).toNat
def unpN (S : List UInt8) (size : Nat) : Bool := decide (1 ≤ lastN S ∧ lastN S ≤ size ∧ S.drop (S.length - lastN S) = filL (lastN S))
def unpE (S : List UInt8) (size : Nat) : Int := if S.length = 0 ∨ S.length % size ≠ 0 then 6 else if unpN S size then 0 else 7
def unpL (S : List UInt8) (size : Nat) : List UInt8 := if unpE S size = 0 then S.take (S.length - lastN S) else []
theorem filL_length (n : Nat) : (filL n).length = n := by simp [filL]
theorem lastN_pad (A : List UInt8) (n : Nat) (h1 : 1 ≤ n) (h2 : n ≤ 255) : lastN (A ++ filL n) = n := by
  have hl : (A ++ filL n).length - 1 = A.length + (n - 1) := by rw [List.length_append, filL_length]; omega
  rw [lastN, hl, List.getD_eq_getElem?_getD, List.getElem?_append_right (by omega), Nat.add_sub_cancel_left, filL, List.getElem?_replicate, if_pos (by omega)]
  simp
  omega
theorem pad_iff (S : List UInt8) (size n : Nat) (hs : 1 ≤ size) (hs2 : size ≤ 255) (hm : S.length % size = 0) (h1 : 1 ≤ n) (hn : n ≤ size) (hnl : n ≤ S.length) :
    padL (S.take (S.length - n)) size = S ↔ (lastN S = n ∧ S.drop (S.length - n) = filL n) := by
  have hp : padN (S.take (S.length - n)).length size = n := by
    rw [List.length_take, Nat.min_eq_left (by omega)]
    exact padN_back _ _ _ hs hm h1 hn hnl
  rw [padL, hp]
  constructor
  · intro h
    constructor
    · rw [← h]; exact lastN_pad _ _ h1 (by omega)
    · have h2 : S.take (S.length - n) ++ filL n = S.take (S.length - n) ++ S.drop (S.length - n) := by rw [h, List.take_append_drop]
      exact (List.append_cancel_left h2).symm
  · rintro ⟨_, h⟩
    rw [← h, List.take_append_drop]
theorem pad_back (S : List UInt8) (size : Nat) (hs : 1 ≤ size) (hs2 : size ≤ 255) : unpE (padL S size) size = 0 ∧ unpL (padL S size) size = S := by
  obtain ⟨h1, h2⟩ := padN_pos S.length size hs
  have hl : (padL S size).length = S.length + padN S.length size := by rw [padL, List.length_append, filL_length]
  have hn : lastN (padL S size) = padN S.length size := lastN_pad _ _ h1 (by omega)
  have hE : unpE (padL S size) size = 0 := by
    rw [unpE, if_neg (by rw [hl]; have := padN_mod S.length size hs; omega), if_pos]
    rw [unpN, decide_eq_true_iff, hn, hl]
    refine ⟨h1, h2, ?_⟩
    rw [Nat.add_sub_cancel, padL, List.drop_left]
  refine ⟨hE, ?_⟩
  rw [unpL, if_pos hE, hn, hl, Nat.add_sub_cancel, padL, List.take_left]
/-- the last block -/
def macL (K T : List UInt8) (n : Nat) : List UInt8 := chA K (List.replicate 16 0) T n
end Go.Proofs.Ythaajaajhddhdaa
namespace Go.Proofs.Ythaajaajhddhdaa
open Go.RowKit
set_option linter.unusedVariables false
set_option linter.unusedSimpArgs false
def cbgE (k n : Nat) (fits : Bool) : Int := if keyOk k then if n = 16 then if fits then 0 else 6 else 4 else 3
def RetNo (c : Int) (w : World) (e : Ending) (w' : World) : Prop := e = .returned (.tuple #[.pointer none, .int .i64 c]) ∧ Below w.heap.size w w'
set_option maxRecDepth 100000 in
theorem cbegin_ok (key iv : ByteArray) (w : World) (hk : key.size = 16 ∨ key.size = 24 ∨ key.size = 32) (hv : iv.size = 16) : Calls Try.prog 45 #[.string key, .string iv, .bool true] w (RetN key.toList w) := by
  have e1 : ((iv.size : Int) != 16) = false := by rw [bne_eq_false_iff_eq]; omega
  clear hv
  go_enter Try.func45, Try.ntmps45
  go_wp2_with fail
  refine (new_q key _ hk).mono ?_
  rintro e w1 ⟨g, hg, rfl, hQ, hb1⟩
  go_wp2_with fail
  go_ret2
  exact ⟨g, hg, rfl, hQ, hb1⟩
set_option maxRecDepth 100000 in
theorem cbegin_no (key iv : ByteArray) (fits : Bool) (c : Int) (w : World) (hc : cbgE key.size iv.size fits = c) (hc0 : c ≠ 0) : Calls Try.prog 45 #[.string key, .string iv, .bool fits] w (RetNo c w) := by
  rcases key_cases key with hk | ⟨h1, h2, h3⟩
  · rw [cbgE, if_pos (keyOk_yes hk)] at hc
    by_cases hv : iv.size = 16
    · rw [if_pos hv] at hc
      have e1 : ((iv.size : Int) != 16) = false := by rw [bne_eq_false_iff_eq]; omega
      clear hv
      cases fits
      · obtain rfl : 6 = c := hc
        go_enter Try.func45, Try.ntmps45
        go_wp2_with fail
        refine (new_q key _ hk).mono ?_
        rintro e w1 ⟨g, hg, rfl, hQ, hb1⟩
        go_wp2_with fail
        go_ret2
        exact ⟨rfl, hb1⟩
      · exact absurd hc.symm hc0
    · rw [if_neg hv] at hc
      obtain rfl : 4 = c := hc
      have e1 : ((iv.size : Int) != 16) = true := by rw [bne_iff_ne]; omega
      clear hv
      go_enter Try.func45, Try.ntmps45
      go_wp2_with fail
      refine (new_q key _ hk).mono ?_
      rintro e w1 ⟨g, hg, rfl, hQ, hb1⟩
      go_wp2_with fail
      go_ret2
      exact ⟨rfl, hb1⟩
  · rw [cbgE, keyOk_no h1 h2 h3] at hc
    obtain rfl : 3 = c := hc
    go_enter Try.func45, Try.ntmps45
    go_wp2_with fail
    refine (new_bad key _ h1 h2 h3).mono ?_
    rintro e w1 ⟨rfl, rfl⟩
    go_wp2_with fail
    go_ret2
    exact ⟨rfl, Below.refl _ _⟩
end Go.Proofs.Ythaajaajhddhdaa
namespace Go.Proofs.Ythaajaajhddhdaa
open Go.RowKit
set_option linter.unusedVariables false
set_option linter.unusedSimpArgs false
def zer (n : Nat) : List UInt8 := List.replicate n 0
theorem zer_length (n : Nat) : (zer n).length = n := by simp [zer]
theorem zer_add (n m : Nat) : zer (n + m) = zer n ++ zer m := by simp [zer, List.replicate_append_replicate]
set_option maxRecDepth 100000 in
set_option maxHeartbeats 1600000 in
theorem chain_any (w : World) (g n : Nat) (K : List UInt8) (iv text : ByteArray) (hQ : Ciq w g K) (hv : iv.size = 16) (ht : text.size = 16 * n) (hn : text.size ≤ 140737488351232) :
    Calls Try.prog 46 #[.pointer (some ⟨g, 0, none⟩), .string iv, .string text] w (RetS (chS K iv.toList text.toList n) w) := by
  obtain ⟨i0, hi, hz0, hz1, hz2⟩ := info_parts info5
  have hu8 : (Try.prog.info? 5).map (·.size) = some 1 := by rw [hi]; simp [hz1]
  have hmax : text.size ≤ maxLen := by unfold maxLen; omega
  have hby : i0.bytes * text.size ≤ 281474976710656 := by rw [hz2]; omega
  have HF := Lib.hid (bcells_made text.size)
  have HQ := Lib.hid hQ
  have HV := Lib.hid hv
  have HT := Lib.hid ht
  have hgl := hQ.lt
  clear hQ hv ht
  go_enter Try.func46, Try.ntmps46
  go_wp2_with (at_make; refine wpList_make_full _ rfl (.tmp 12) (.tmp 12) 33 rfl w.heap.size 5 i0 (.int .u8 0) 1 Try.underlying33 hi hz0 hz1 .i64 .i64 _ _ text.size rfl rfl rfl rfl hby hmax (Nat.le_refl _) ?_; intro w1 hown hgrow)
  rw [HF.out] at hown
  have hb1 := (Below.refl w.heap.size w).grown hgrow (Nat.le_refl _) (by simp)
  have hA1 := At.ofOwnN hown
  have hs1 : w.heap.size < w1.heap.size := (hown.lt w.heap.size rfl).2
  have HA1 := Lib.hid hA1
  clear hgrow hown hA1
  go_wp2_with fail
  obtain ⟨w2, hw2, hZ2, hb2, hs2⟩ := one_by w1
  rw [hw2]
  have hA2 := HA1.out.below hb2 hs1
  have hb02 := hb1.trans (hb2.mono hb1.size)
  have hQ2 := HQ.out.below hb02 hgl
  obtain ⟨b0, hb0⟩ : ∃ b0, w.heap.size = b0 := ⟨_, rfl⟩
  obtain ⟨b1, hb1'⟩ : ∃ b1, w1.heap.size = b1 := ⟨_, rfl⟩
  rw [hb1'] at hs1 hZ2 hs2 ⊢
  rw [hb0] at hgl hs1 hA2 ⊢
  have HB0 := Lib.hid hb0
  have HA2 := Lib.hid hA2
  have HZ2 := Lib.hid hZ2
  have HQ2 := Lib.hid hQ2
  have HS2 := Lib.hid hs2
  clear hw2 hb2 hb1 hs2 hA2 hZ2 hQ2 HA1 HQ hb0 hb1' HF
  have hstart : At w2 b0 0 (bcells (chS K iv.toList text.toList 0 ++ zer (16 * (n - 0)))) := by
    rw [chS, List.nil_append, Nat.sub_zero, ← HT.out]
    exact HA2.out
  have hb02' : Below b0 w w2 := by rw [← HB0.out]; exact hb02
  go_loopw [9, 10] (fun v a wr => ∃ i : Nat, ∃ s : ByteArray, i ≤ n ∧ v = .string s ∧ s.toList = chA K iv.toList text.toList i ∧ a = .int .i64 ((16 * i : Nat) : Int) ∧ At wr b0 0 (bcells (chS K iv.toList text.toList i ++ zer (16 * (n - i)))) ∧ (∃ bl : List UInt8, bl.length = 16 ∧ At wr b1 0 (bcells bl)) ∧ Ciq wr g K ∧ Below b0 w wr ∧ b1 < wr.heap.size) (fun _ a _ => text.size - (intOf a).toNat)
  case atStart => exact ⟨0, iv, Nat.zero_le _, rfl, rfl, rfl, hstart, ⟨_, zer_length 16, HZ2.out⟩, HQ2.out, hb02', by rw [HS2.out]; omega⟩
  case round =>
    clear hb02 hstart hb02' HA2 HZ2 HQ2 HS2
    obtain ⟨i, s, hin, rfl, hs, rfl, hA, ⟨bl, hbl, hB⟩, hQ, hbel, hsz⟩ := hrel
    obtain ⟨o, ho⟩ : ∃ o : Nat, 16 * i = o := ⟨_, rfl⟩
    rw [ho]
    have HA := Lib.hid hA
    have HB := Lib.hid hB
    have HBL := Lib.hid hbl
    have HQ := Lib.hid hQ
    have HS := Lib.hid hs
    have HI := Lib.hid hin
    have HO := Lib.hid ho
    by_cases hlt : o < text.size
    · have hltI : (o : Int) < (text.size : Int) := by omega
      have hi1 : i < n := by have := HT.out; omega
      have HI1 := Lib.hid hi1
      obtain ⟨e, he⟩ : ∃ e : Nat, e = o + 16 := ⟨_, rfl⟩
      have h16 : (o : Int) + 16 = (e : Int) := by omega
      have hw16 : IntKind.i64.wrap (e : Int) = (e : Int) := wrap_in _ (by omega) (by have := HT.out; omega)
      have hle16 : (e : Int) ≤ (text.size : Int) := by have := HT.out; omega
      have hle16n : e ≤ text.size := by have := HT.out; omega
      have hoo : (o : Int) ≤ (e : Int) := by omega
      have ho16 : o ≤ e := by omega
      have ho0 : (0 : Int) ≤ (o : Int) := by omega
      have ho160 : (0 : Int) ≤ (e : Int) := by omega
      have HE := Lib.hid he
      clear hA hB hbl hQ hs hin ho hi1 he
      have hexs : (text.extract o e).size ≤ 140737488351232 := by rw [← tl_size, tl_ext, List.length_take, HE.out]; omega
      have hss : s.size ≤ 140737488351232 := by rw [← tl_size, HS.out, chA_length _ _ _ (by rw [tl_size]; exact HV.out)]; decide
      have hblk : (text.extract o e).toList = blkL text.toList i := by rw [tl_ext, HE.out, ← HO.out, blkL]; congr 1; omega
      have HBK := Lib.hid hblk
      have HEX := Lib.hid hexs
      have HSS := Lib.hid hss
      have HBd : Hid (At wr.drew b1 0 (bcells bl)) := HB.out
      clear hexs hss hblk
      go_wp2_with fail
      go_region_held3 (fun _ => True) (trivial) (first | (refine step_copy_text rfl (.tmp 21) (.tmp 28) 33 9 rfl 5 Try.underlying33 hu8 b1 0 16 16 rfl x1 rfl (bcells bl) HB3.out 16 (by rw [HX1S.out]; rfl) (by rw [bcells_length]; exact HBL.out) ?_; intro w4 hw4) | (go_at_call 43; refine (xor_any (text.extract o e) s _ HEX.out HSS.out).mono ?_; rintro e w3 ⟨x1, rfl, hx1, hb3⟩; have HX1 := Lib.hid hx1; have HX1S : Hid (x1.size = 16) := (by show _ = _; rw [← tl_size, HX1.out, HBK.out, HS.out, xorL_length, chA_length _ _ _ (by rw [tl_size]; exact HV.out), blkL_length _ _ (by rw [tl_size]; have := HI1.out; have := HT.out; omega)]; rfl); have HB3 := Lib.hid (HBd.out.below hb3 hsz); clear hx1))
      have hmk : (⟨x1.toList.toArray⟩ : ByteArray) = x1 := tl_inj (tl_mk _)
      have htk : x1.toList.take 16 = x1.toList := List.take_of_length_le (by rw [tl_size, HX1S.out]; exact Nat.le_refl _)
      have hwc := hw4.out
      rw [htk] at hwc
      have hbw : Below b1 wr w4 := below_copy (((Below.refl _ _).drew.trans hb3).mono (Nat.le_of_lt hsz)) (Nat.le_refl _) hwc
      have hB4 : At w4 b1 0 (bcells x1.toList) := HB3.out.ofCopy (by rw [bcells_length, bcells_length, tl_size, HX1S.out, HBL.out]) hwc
      have hA4 := HA.out.below hbw hs1
      have hQ4 := HQ.out.below hbw (Nat.lt_trans hgl hs1)
      have hb4 := hbel.trans (hbw.mono (Nat.le_of_lt hs1))
      have hsz4 : b1 < w4.heap.size := Nat.lt_of_lt_of_le hsz hbw.size
      have hcv := convert_at (P := Try.prog) (cap := 16) hB4 33 9 5 16 (by rw [tl_size, HX1S.out]) Try.underlying33 Try.underlying5 Try.underlying9
      rw [hmk] at hcv
      have HA4 := Lib.hid hA4
      have HB4 := Lib.hid hB4
      have hoI : (o : Int) ≤ (text.size : Int) := by omega
      have hoN : o ≤ text.size := by omega
      clear hmk htk hwc hbw hB4 hA4 hw4 hb3 HB3 HBd HB HA HQ hbel HEX HSS hle16 hle16n hoo ho16
      go_wp2_with fail
      refine (enc_q x1 _ g K hQ4 HX1S.out).mono ?_
      rintro e2 w5 ⟨s2, rfl, hs2, hQ5, hb5⟩
      have hsz5 : b1 < w5.heap.size := Nat.lt_of_lt_of_le hsz4 hb5.size
      have hb05 := hb4.trans (hb5.mono (Nat.le_of_lt (Nat.lt_trans hs1 hsz4)))
      have hA5 := HA4.out.below hb5 (Nat.lt_trans hs1 hsz4)
      have hB5 := HB4.out.below hb5 hsz4
      have hze : zer (16 * (n - i)) = zer 16 ++ zer (16 * (n - (i + 1))) := by rw [← zer_add]; congr 1; have := HI1.out; omega
      rw [hze] at hA5
      have hlen : (chS K iv.toList text.toList i).length = o := by rw [chS_length, HO.out]
      have HM5 := Lib.hid (hA5.midOf hlen)
      have HA5 := Lib.hid hA5
      have HB5 := Lib.hid hB5
      have HQ5 := Lib.hid hQ5
      have HS2 := Lib.hid hs2
      have HSS2 : Hid (s2.size = 16) := by show _ = _; rw [← tl_size, hs2, encL_length]
      have HLN := Lib.hid hlen
      clear hcv hA5 hB5 hQ5 hs2 hlen hze HA4 HB4 hQ4 hb4
      have hcp := run_copy_text (P := Try.prog) 33 9 3 5 b0 o (text.size - o) (text.size - o) s2 (bcells (zer 16)) Try.underlying33 hu8 HM5.out 16 (by rw [HSS2.out]; have := HE.out; have := HT.out; have := HO.out; exact Nat.min_eq_left (by omega)) (by rw [bcells_length, zer_length])
      have htk2 : s2.toList.take 16 = s2.toList := List.take_of_length_le (by rw [tl_size, HSS2.out]; exact Nat.le_refl _)
      rw [htk2] at hcp
      generalize hw6 : w5.setCells b0 o (bcells s2.toList) = w6 at hcp
      have hA6 := HA5.out.midSet (X := s2.toList) HLN.out (by rw [zer_length, tl_size, HSS2.out]) hw6.symm
      have hbw6 : Below b0 w5 w6 := below_copy (Below.refl _ _) (Nat.le_refl _) hw6.symm
      have hB6 := HB5.out.byCopy hw6.symm (.inl (by omega))
      have hQ6 := HQ5.out.below hbw6 hgl
      have hb06 := hb05.trans hbw6
      have hsz6 : b1 < w6.heap.size := Nat.lt_of_lt_of_le hsz5 hbw6.size
      rw [← List.append_assoc] at hA6
      have hstep : chS K iv.toList text.toList i ++ s2.toList = chS K iv.toList text.toList (i + 1) := by rw [chS, chA, HS2.out, HX1.out, HBK.out, HS.out]
      rw [hstep] at hA6
      have HA6 := Lib.hid hA6
      have HB6 := Lib.hid hB6
      have HQ6 := Lib.hid hQ6
      clear hw6 hA6 hB6 hQ6 hbw6 hstep htk2 HA5 HB5 HQ5 HM5 hb05 hsz5
      go_wp2_with fail
      go_roundw
      case rel => exact ⟨i + 1, s2, HI1.out, rfl, by rw [chA, HS2.out, HX1.out, HBK.out, HS.out], by rw [show 16 * (i + 1) = e by rw [HE.out, ← HO.out]; omega], HA6.out, ⟨_, by rw [tl_size, HX1S.out], HB6.out⟩, HQ6.out, hb06, hsz6⟩
      case measure => have := HE.out; simp [intOf]; omega
    · have hin2 : i = n := by have := HT.out; have := HI.out; omega
      subst hin2
      have hA2 := HA.out
      rw [Nat.sub_self, Nat.mul_zero, show zer 0 = [] from rfl, List.append_nil] at hA2
      have hltI : ¬ (o : Int) < (text.size : Int) := by omega
      have hcv := convert_at (P := Try.prog) (cap := text.size) hA2 33 9 5 text.size (by rw [chS_length, HT.out]) Try.underlying33 Try.underlying5 Try.underlying9
      clear hA hB hbl hQ hs hin ho hA2 HA
      go_wp2_with fail
      go_ret
      exact ⟨_, rfl, tl_mk _, by rw [HB0.out]; exact hbel⟩
end Go.Proofs.Ythaajaajhddhdaa
namespace Go.Proofs.Ythaajaajhddhdaa
open Go.RowKit
set_option linter.unusedVariables false
set_option linter.unusedSimpArgs false
def RetSd (l : List UInt8) (K : List UInt8) (g : Nat) (w : World) (e : Ending) (w' : World) : Prop := ∃ s : ByteArray, e = .returned (.string s) ∧ s.toList = l ∧ Ciq w' g K ∧ Turn g 513 w w'
end Go.Proofs.Ythaajaajhddhdaa
namespace Go.Proofs.Ythaajaajhddhdaa
open Go.RowKit
set_option linter.unusedVariables false
set_option linter.unusedSimpArgs false
theorem repeatL_one_byte (b : UInt8) : ∀ n, Lib.repeatL [b] n = List.replicate n b
  | 0 => rfl
  | n + 1 => by rw [Lib.repeatL_add, repeatL_one_byte b n, Lib.repeatL_one, List.replicate_succ']
theorem rep_any (s : ByteArray) (b : UInt8) (n : Nat) (w : World) (hs : s.toList = [b]) (hn : n ≤ 140737488355328) : Calls Try.prog 44 #[.string s, .int .i64 (n : Int)] w (RetS (List.replicate n b) w) := by
  have h1 : s.size = 1 := by rw [← tl_size, hs]; rfl
  refine (Sstrings_Repeat s n w (by omega) (by rw [h1, Nat.one_mul]; exact hn)).mono ?_
  rintro e w' ⟨rfl, hb⟩
  refine ⟨_, rfl, ?_, hb⟩
  rw [tl_mk, ← Lib.toList_data, hs, repeatL_one_byte]
end Go.Proofs.Ythaajaajhddhdaa
namespace Go.Proofs.Ythaajaajhddhdaa
open Go.RowKit
set_option linter.unusedVariables false
set_option linter.unusedSimpArgs false
theorem unpE_6 {S : List UInt8} {size : Nat} (h : S.length = 0 ∨ S.length % size ≠ 0) : unpE S size = 6 := by rw [unpE, if_pos h]
theorem unpL_no {S : List UInt8} {size : Nat} {c : Int} (h : unpE S size = c) (hc : c ≠ 0) : unpL S size = [] := by rw [unpL, if_neg (by rw [h]; exact hc)]
theorem unpE_7 {S : List UInt8} {size : Nat} (h : ¬ (S.length = 0 ∨ S.length % size ≠ 0)) (hn : unpN S size = false) : unpE S size = 7 := by rw [unpE, if_neg h, hn]; rfl
theorem unpE_0 {S : List UInt8} {size : Nat} (h : ¬ (S.length = 0 ∨ S.length % size ≠ 0)) (hn : unpN S size = true) : unpE S size = 0 := by rw [unpE, if_neg h, hn]; rfl
end Go.Proofs.Ythaajaajhddhdaa
namespace Go.Proofs.Ythaajaajhddhdaa
open Go.RowKit
set_option linter.unusedVariables false
set_option linter.unusedSimpArgs false
theorem cbg_false {k n : Nat} : cbgE k n false ≠ 0 := by
  unfold cbgE
  split
  · split <;> simp
  · simp
theorem cbg_true {k n : Nat} (h : cbgE k n true = 0) : (k = 16 ∨ k = 24 ∨ k = 32) ∧ n = 16 := by
  unfold cbgE at h
  split at h
  · rename_i hk
    split at h
    · rename_i hn; exact ⟨by simpa [keyOk] using hk, hn⟩
    · cases h
  · cases h
def cfit (n : Nat) : Bool := decide (n % 16 = 0 ∧ n ≤ 70016)
def cfitS (n : Nat) : Bool := decide (n ≤ 70000)
def cfitO (n : Nat) : Bool := decide (0 < n ∧ n % 16 = 0 ∧ n ≤ 70016)
def chaL (K V T : List UInt8) : List UInt8 := if cbgE K.length V.length (cfit T.length) = 0 then chS K V T (T.length / 16) else []
def uchL (K V T : List UInt8) : List UInt8 := if cbgE K.length V.length (cfit T.length) = 0 then unS K V T (T.length / 16) else []
def selL (K V T : List UInt8) : List UInt8 := if cbgE K.length V.length (cfitS T.length) = 0 then chS K V (padL T 16) ((padL T 16).length / 16) else []
def opeX (K V T : List UInt8) : List UInt8 := unS K V T (T.length / 16)
def opeE (K V T : List UInt8) : Int := if cbgE K.length V.length (cfitO T.length) = 0 then unpE (opeX K V T) 16 else cbgE K.length V.length (cfitO T.length)
def opeL (K V T : List UInt8) : List UInt8 := if cbgE K.length V.length (cfitO T.length) = 0 then unpL (opeX K V T) 16 else []
set_option maxRecDepth 100000 in
set_option maxHeartbeats 1600000 in
theorem cChain_no (key iv text : ByteArray) (w : World) (c : Int) (hc : cbgE key.size iv.size (cfit text.size) = c) (hc0 : c ≠ 0) : Calls Try.prog 32 #[.string key, .string iv, .string text] w (RetSE [] c w) := by
  obtain ⟨r, hr⟩ : ∃ r, text.size % 16 = r := ⟨_, rfl⟩
  have e3 : (text.size : Int).tmod 16 = (r : Int) := tmod_nat text.size 16 r hr.symm
  have e4 : IntKind.i64.wrap (r : Int) = (r : Int) := wrap_in _ (by omega) (by omega)
  have hcb : (c != 0) = true := by rw [bne_iff_ne]; exact hc0
  have hcb2 : (c == 0) = false := by rw [beq_eq_false_iff_ne]; exact hc0
  by_cases hr0 : r = 0
  · subst hr0
    have e6 : (((0 : Nat) : Int) == 0) = true := rfl
    by_cases hm : text.size ≤ 70016
    · have e7 : (text.size : Int) ≤ 70016 := by omega
      have hf : cfit text.size = true := by rw [cfit, decide_eq_true_iff]; exact ⟨hr, hm⟩
      rw [hf] at hc
      have HC := Lib.hid hc
      clear hf hr hm hc
      go_enter Try.func32, Try.ntmps32
      go_wp2_with fail
      refine (cbegin_no key iv true c _ HC.out hc0).mono ?_
      rintro e w1 ⟨rfl, hb1⟩
      go_wp2_with fail
      go_ret2
      exact ret_se (tl_mk []) rfl rfl hb1
    · have e7 : ¬ (text.size : Int) ≤ 70016 := by omega
      have hf : cfit text.size = false := by rw [cfit, decide_eq_false_iff_not]; omega
      rw [hf] at hc
      have HC := Lib.hid hc
      clear hf hr hm hc
      go_enter Try.func32, Try.ntmps32
      go_wp2_with fail
      refine (cbegin_no key iv false c _ HC.out hc0).mono ?_
      rintro e w1 ⟨rfl, hb1⟩
      go_wp2_with fail
      go_ret2
      exact ret_se (tl_mk []) rfl rfl hb1
  · have e6 : ((r : Int) == 0) = false := by rw [beq_eq_false_iff_ne]; omega
    have hf : cfit text.size = false := by rw [cfit, decide_eq_false_iff_not]; omega
    rw [hf] at hc
    have HC := Lib.hid hc
    clear hf hr hr0 hc
    go_enter Try.func32, Try.ntmps32
    go_wp2_with fail
    refine (cbegin_no key iv false c _ HC.out hc0).mono ?_
    rintro e w1 ⟨rfl, hb1⟩
    go_wp2_with fail
    go_ret2
    exact ret_se (tl_mk []) rfl rfl hb1
set_option maxRecDepth 100000 in
set_option maxHeartbeats 1600000 in
theorem cChain_ok (key iv text : ByteArray) (w : World) (hk : key.size = 16 ∨ key.size = 24 ∨ key.size = 32) (hv : iv.size = 16) (hm : text.size % 16 = 0) (hf : text.size ≤ 70016) : Calls Try.prog 32 #[.string key, .string iv, .string text] w (RetSE (chS key.toList iv.toList text.toList (text.size / 16)) 0 w) := by
  obtain ⟨n, hn⟩ : ∃ n, text.size / 16 = n := ⟨_, rfl⟩
  have ht : text.size = 16 * n := by omega
  have e3 : (text.size : Int).tmod 16 = 0 := tmod_nat text.size 16 0 (by omega)
  have e7 : (text.size : Int) ≤ 70016 := by omega
  have HV := Lib.hid hv
  have HN := Lib.hid hn
  have HT := Lib.hid ht
  have hz : Hid (text.size ≤ 140737488351232) := by show _ ≤ _; omega
  rw [hn]
  clear hv hn ht hm hf
  go_enter Try.func32, Try.ntmps32
  go_wp2_with fail
  refine (cbegin_ok key iv _ hk HV.out).mono ?_
  rintro e w1 ⟨g, hg, rfl, hQ, hb1⟩
  go_wp2_with fail
  refine (chain_any _ g n _ iv text hQ HV.out HT.out hz.out).mono ?_
  rintro e w2 ⟨s, rfl, hs, hb2⟩
  go_wp2_with fail
  go_ret2
  exact ret_se hs rfl rfl (below2 hb1 hb2)
theorem cChain_any (key iv text : ByteArray) (w : World) : Calls Try.prog 32 #[.string key, .string iv, .string text] w (RetSE (chaL key.toList iv.toList text.toList) (cbgE key.size iv.size (cfit text.size)) w) := by
  obtain ⟨c, hc⟩ : ∃ c, cbgE key.size iv.size (cfit text.size) = c := ⟨_, rfl⟩
  rw [chaL, tl_size, tl_size, tl_size, hc]
  by_cases hc0 : c = 0
  · rw [if_pos hc0, hc0]
    rw [hc0] at hc
    cases hf : cfit text.size
    · rw [hf] at hc; exact absurd hc cbg_false
    · rw [hf] at hc
      obtain ⟨hk, hv⟩ := cbg_true hc
      have hd := of_decide_eq_true hf
      exact cChain_ok key iv text w hk hv hd.1 hd.2
  · rw [if_neg hc0]
    exact cChain_no key iv text w c hc hc0
end Go.Proofs.Ythaajaajhddhdaa
namespace Go.Proofs.Ythaajaajhddhdaa
open Go.RowKit
set_option linter.unusedVariables false
set_option linter.unusedSimpArgs false
theorem padL_mod (T : List UInt8) : (padL T 16).length = 16 * ((padL T 16).length / 16) := by
  have h := padN_mod T.length 16 (by decide)
  have hl : (padL T 16).length = T.length + padN T.length 16 := by rw [padL, List.length_append, filL_length]
  omega
theorem padL_size (T : List UInt8) : T.length < (padL T 16).length ∧ (padL T 16).length ≤ T.length + 16 := by
  have h := padN_pos T.length 16 (by decide)
  have hl : (padL T 16).length = T.length + padN T.length 16 := by rw [padL, List.length_append, filL_length]
  omega
theorem cbg_fit {k n : Nat} {b c : Bool} (h : cbgE k n b = 0) (hc : c = true) : cbgE k n c = 0 := by
  have hb : b = true := by
    cases b
    · exact absurd h cbg_false
    · rfl
  rw [hc]; rw [hb] at h; exact h
theorem cbg_b {k n : Nat} {b : Bool} (h : cbgE k n b = 0) : b = true := by
  cases b
  · exact absurd h cbg_false
  · rfl
theorem selL_length (K V T : List UInt8) (h : cbgE K.length V.length (cfitS T.length) = 0) : (selL K V T).length = (padL T 16).length := by
  rw [selL, if_pos h, chS_length]
  exact (padL_mod T).symm
theorem seal_open (K V T : List UInt8) (h : cbgE K.length V.length (cfitS T.length) = 0) : opeE K V (selL K V T) = 0 ∧ opeL K V (selL K V T) = T := by
  have hl := selL_length K V T h
  have hT := of_decide_eq_true (cbg_b h)
  have hm := padL_mod T
  have hz := padL_size T
  have hf : cfitO (selL K V T).length = true := by rw [cfitO, decide_eq_true_iff, hl]; omega
  have hg := cbg_fit h hf
  have hv : V.length = 16 := by rw [cbg_b h] at h; exact (cbg_true h).2
  have hX : opeX K V (selL K V T) = padL T 16 := by
    rw [opeX, hl, selL, if_pos h]
    exact un_ch K V (padL T 16) _ hv hm
  have hp := pad_back T 16 (by decide) (by decide)
  rw [opeE, opeL, if_pos hg, if_pos hg, hX]
  exact hp
theorem chain_back (K V T : List UInt8) (h : cbgE K.length V.length (cfit T.length) = 0) : (chaL K V T).length = T.length ∧ uchL K V (chaL K V T) = T := by
  have hT := of_decide_eq_true (cbg_b h)
  have hv : V.length = 16 := by rw [cbg_b h] at h; exact (cbg_true h).2
  have hm : T.length = 16 * (T.length / 16) := by omega
  have hl : (chaL K V T).length = T.length := by rw [chaL, if_pos h, chS_length]; exact hm.symm
  refine ⟨hl, ?_⟩
  rw [uchL, hl, if_pos h, chaL, if_pos h]
  exact un_ch K V T _ hv hm
end Go.Proofs.Ythaajaajhddhdaa
namespace Go.Proofs.Ythaajaajhddhdaa
open Go.RowKit
set_option linter.unusedVariables false
set_option linter.unusedSimpArgs false
theorem pad_abc : (padL [97, 98, 99] 16).length = 16 := by decide
end Go.Proofs.Ythaajaajhddhdaa
namespace Go.Proofs.Ythaajaajhddhdaa
open Go.RowKit
set_option linter.unusedVariables false
set_option linter.unusedSimpArgs false
end Go.Proofs.Ythaajaajhddhdaa
namespace Go.Proofs.Ythaajaajhddhdaa
open Go.RowKit
set_option linter.unusedVariables false
set_option linter.unusedSimpArgs false
end Go.Proofs.Ythaajaajhddhdaa
namespace Go.Proofs.Ythaajaajhddhdaa
open Go.RowKit
set_option linter.unusedVariables false
set_option linter.unusedSimpArgs false
end Go.Proofs.Ythaajaajhddhdaa
namespace Go.Proofs.Ythaajaajhddhdaa
open Go.RowKit
set_option linter.unusedVariables false
set_option linter.unusedSimpArgs false
def rdecN (W : List UInt32) (M : Nat) : Nat → List UInt32 → List UInt32
  | 0, s => s
  | j + 1, s => rdecN W M j (lasL gback 3 2 1 (if j + 1 < M then colL 14 11 13 9 (addL s W (4 * (j + 1))) else addL s W (4 * (j + 1))))
theorem rdecN_dec (W : List UInt32) (M : Nat) : ∀ (n : Nat) (s : List UInt32), n < M → rdecN W M n s = decN W n s
  | 0, s, h => rfl
  | n + 1, s, h => by rw [rdecN, if_pos h, rdecN_dec W M n _ (by omega), decN, umxL_col _ (addL_length _ _ _)]
theorem rdecN_all (W : List UInt32) (m : Nat) (s : List UInt32) : rdecN W (m + 1) (m + 1) s = decN W m (lasL gback 3 2 1 (addL s W (4 * (m + 1)))) := by
  rw [rdecN, if_neg (Nat.lt_irrefl _), rdecN_dec W (m + 1) m _ (by omega)]
theorem lasb_byte (f : UInt8 → UInt8) (S : List UInt32) (i r : Nat) (hr : r < 4) (hi : i < 4) : rw_ (lasF f 3 2 1 S i) r = f (rw_ (S.getD ((i + 4 - r) % 4) 0) r) := by
  match r, hr with
  | 0, _ => rw [lasF, rw_wd0, show (i + 4 - 0) % 4 = i by omega]
  | 1, _ => rw [lasF, rw_wd1]; rfl
  | 2, _ => rw [lasF, rw_wd2]; rfl
  | 3, _ => rw [lasF, rw_wd3]; rfl
theorem txt_lasb (f : UInt8 → UInt8) (S : List UInt32) (k : Nat) (hk : k < 16) : txtF (lasL f 3 2 1 S) k = f (rw_ (S.getD ((k / 4 + 4 - k % 4) % 4) 0) (k % 4)) := by
  have h4 : k / 4 < 4 := by omega
  rw [txtF, ← lasb_byte f S (k / 4) (k % 4) (by omega) h4]
  congr 1
  simp [lasL, List.getD, h4]
def pos (k : Nat) : Nat := 4 * ((k / 4 + k % 4) % 4) + k % 4
def pin (k : Nat) : Nat := 4 * ((k / 4 + 4 - k % 4) % 4) + k % 4
theorem pos_pin : ∀ i : Fin 16, ∀ k : Fin 16, (pin i.val = k.val) ↔ (i.val = pos k.val) := by decide +kernel
theorem pos_q : ∀ k : Fin 16, (pos k.val / 4 + 4 - pos k.val % 4) % 4 = k.val / 4 ∧ pos k.val % 4 = k.val % 4 := by decide +kernel
theorem pin_lt : ∀ i : Fin 16, pin i.val < 16 := by decide +kernel
/-- the first c columns mixed back -/
def myP (T : List UInt32) (c : Nat) : List UInt32 := mixP 4 (fun i => colG 14 11 13 9 (T.getD i 0)) (fun i => T.getD i 0) c
theorem myP_zero (T : List UInt32) (h : T.length = 4) : myP T 0 = T := by rw [myP, mixP_zero, map_getD _ _ _ h]
theorem myP_four (T : List UInt32) (h : T.length = 4) : myP T 4 = colL 14 11 13 9 T := by
  rw [myP, mixP_full]
  obtain ⟨a, b, c, d, rfl⟩ := four T h
  rfl
theorem myP_step (T : List UInt32) (c : Nat) (hc : c < 4) : (myP T c).set c (colG 14 11 13 9 ((myP T c).getD c 0)) = myP T (c + 1) := by
  rw [myP, mixP_at _ _ _ _ _ _ hc, if_neg (Nat.lt_irrefl c)]
  exact mixP_set 4 (fun i => colG 14 11 13 9 (T.getD i 0)) (fun i => T.getD i 0) c
theorem myP_length (T : List UInt32) (c : Nat) : (myP T c).length = 4 := by rw [myP, mixP_length]
theorem col_myx (S : List UInt32) (c : Nat) (w : World) (hS : S.length = 4) (hc : c < 4) :
    Calls Try.prog 48 #[.agg (bcells (txtL S)).toArray, .int .i64 (c : Int), .agg #[.int .u8 14, .int .u8 11, .int .u8 13, .int .u8 9]] w (RetA8 (txtL (S.set c (colG 14 11 13 9 (S.getD c 0)))) w) := column_any S c 14 11 13 9 w hS hc
end Go.Proofs.Ythaajaajhddhdaa
namespace Go.Proofs.Ythaajaajhddhdaa
open Go.RowKit
set_option linter.unusedVariables false
set_option linter.unusedSimpArgs false
theorem infoS : (Try.prog.info? 9).map (fun i => (i.zero, i.size, i.bytes)) = some (some (.string ByteArray.empty), 1, 16) := by kernel_rfl
def scells (l : List ByteArray) : List Value := l.map Value.string
theorem scells_length (l : List ByteArray) : (scells l).length = l.length := by simp [scells]
theorem scells_append (l m : List ByteArray) : scells (l ++ m) = scells l ++ scells m := by simp [scells]
theorem scells_get (l : List ByteArray) (j : Nat) (hj : j < l.length) : (scells l)[j]? = some (.string l[j]) := by simp [scells, hj]
theorem scells_one (l : List ByteArray) : ∀ u ∈ scells l, u.oneCell' = true := by
  intro u hu
  simp only [scells, List.mem_map] at hu
  obtain ⟨b, _, rfl⟩ := hu
  rfl
theorem scells_one1 {w : World} {g : Nat} {u : ByteArray} (h : w.cell? ⟨g, 0, none⟩ = some (.string u)) : ∀ j x, (scells [u])[j]? = some x → w.cell? ((⟨g, 0, none⟩ : Addr).add j) = some x := by
  intro j x hx
  match j, hx with
  | 0, hx => simp [scells] at hx; subst hx; exact h
section
variable {P : Program} {w : World}
theorem wpList_append_str {ops : Array Oper} {rest : List Oper} {o : Oper} {a : Act} {Q : Exit → Act → World → Prop} (hgd : o.guard = none) (s x : Operand) (t : TypeId)
    (ho : o.op = .call { callee := .builtin .append, args := #[s, x], argTypes := #[t, t] })
    (base : Nat) (e : TypeId) (i : TypeInfo) (ht : P.underlying t = some (.slice e)) (hi : P.info? e = some i) (hz : i.zero = some (.string ByteArray.empty)) (hsize : i.size = 1) (hby : i.bytes = 16)
    (v : Value) (n : Nat) (l : List ByteArray) (hs : a.eval s = v) (hown : w.ownsRow base e 1 v n (scells l))
    (g c : Nat) (u : ByteArray) (hx : a.eval x = .slice (some ⟨g, 0, none⟩) 1 c) (hcell : w.cell? ⟨g, 0, none⟩ = some (.string u))
    (hn : n ≤ 8796093022207) (hbase : base ≤ w.heap.size)
    (h : ∀ v' w', w'.ownsRow base e 1 v' (n + 1) (scells (l ++ [u])) → w.grownBy w' v.ownBlock → wpList P ops Q rest (a.put o.dst v') w') : wpList P ops Q (o :: rest) a w := by
  refine wpList_append_own w hgd s x t ho base e i (.string ByteArray.empty) 1 16 ht hi hz hsize hby rfl (by decide) v n (scells l) hs hown ⟨g, 0, none⟩ 1 c (scells [u]) hx (by rw [scells_length]; rfl) (scells_one1 hcell) (scells_one _) (by unfold maxLen; omega) (by omega) hbase ?_
  intro v' w' h1 h2 _
  rw [← scells_append] at h1
  exact h v' w' h1 h2
end
theorem own_formS {w : World} {B e size n : Nat} {v : Value} {xs : List Value} (h : w.ownsRow B e size v n xs) : ∃ a c, v = .slice a n c ∧ (0 < n → ∃ g, a = some ⟨g, 0, none⟩) := by
  rcases h.2 with ⟨rfl, rfl⟩ | ⟨g, cap, cur, rfl, _⟩
  · exact ⟨none, 0, rfl, fun h => absurd h (by omega)⟩
  · exact ⟨_, _, rfl, fun _ => ⟨g, rfl⟩⟩
theorem scell {w : World} {B e n cap g : Nat} {l : List ByteArray} (h : w.ownsRow B e 1 (.slice (some ⟨g, 0, none⟩) n cap) n (scells l)) (k : Nat) (u : ByteArray) (hu : l[k]? = some u) :
    w.cell? ⟨g, k, none⟩ = some (.string u) := by
  obtain ⟨hk, rfl⟩ := List.getElem?_eq_some_iff.1 hu
  rw [h.cellAt k (by have := h.1; rw [scells_length] at this; omega), scells_get _ _ hk]
/-- a row of texts is handed back -/
def RetL (l : List ByteArray) (w : World) (e : Ending) (w' : World) : Prop := ∃ v, e = .returned v ∧ w'.ownsRow w.heap.size 9 1 v l.length (scells l) ∧ Below w.heap.size w w'
end Go.Proofs.Ythaajaajhddhdaa
namespace Go.Proofs.Ythaajaajhddhdaa
open Go.RowKit
set_option linter.unusedVariables false
set_option linter.unusedSimpArgs false
def wroE (k n : Nat) : Int := if keyOk k then if n = 16 then 0 else 4 else 3
end Go.Proofs.Ythaajaajhddhdaa
namespace Go.Proofs.Ythaajaajhddhdaa
open Go.RowKit
set_option linter.unusedVariables false
set_option linter.unusedSimpArgs false
def blkB (s : ByteArray) (i : Nat) : ByteArray := s.extract (16 * i) (16 * i + 16)
def blksB (s : ByteArray) (n : Nat) : List ByteArray := (List.range n).map (blkB s)
theorem blksB_length (s : ByteArray) (n : Nat) : (blksB s n).length = n := by simp [blksB]
theorem blksB_succ (s : ByteArray) (n : Nat) : blksB s (n + 1) = blksB s n ++ [blkB s n] := by simp [blksB, List.range_succ]
theorem blksB_get (s : ByteArray) (n i : Nat) (h : i < n) : (blksB s n)[i]? = some (blkB s i) := by simp [blksB, h]
theorem blkB_tl (s : ByteArray) (i : Nat) : (blkB s i).toList = blkL s.toList i := by
  rw [blkB, tl_ext, blkL]
  congr 1
  omega
theorem blkB_size (s : ByteArray) (i : Nat) (h : 16 * (i + 1) ≤ s.size) : (blkB s i).size = 16 := by
  rw [← tl_size, blkB_tl, blkL_length _ _ (by rw [tl_size]; exact h)]
end Go.Proofs.Ythaajaajhddhdaa
namespace Go.Proofs.Ythaajaajhddhdaa
open Go.RowKit
set_option linter.unusedVariables false
set_option linter.unusedSimpArgs false
theorem xorL_comm (A B : List UInt8) : xorL A B = xorL B A := by
  unfold xorL
  rw [List.zipWith_comm]
  congr 1
  funext a b
  exact UInt8.xor_comm _ _
def filM (T : List UInt8) : List UInt8 := T ++ zer ((16 - T.length % 16) % 16)
theorem filM_mod (T : List UInt8) : (filM T).length = 16 * ((filM T).length / 16) := by
  have hl : (filM T).length = T.length + (16 - T.length % 16) % 16 := by rw [filM, List.length_append, zer_length]
  omega
theorem filM_size (T : List UInt8) : (filM T).length < T.length + 16 := by
  have hl : (filM T).length = T.length + (16 - T.length % 16) % 16 := by rw [filM, List.length_append, zer_length]
  omega
theorem filM_more (T : List UInt8) (h : T.length % 16 ≠ 0) : filM (T ++ [0]) = filM T := by
  have hl : (T ++ [(0 : UInt8)]).length = T.length + 1 := by rw [List.length_append]; rfl
  rw [filM, filM, hl, List.append_assoc]
  congr 1
  rw [show ([0] : List UInt8) = zer 1 from rfl, ← zer_add]
  congr 1
  omega
def macE (k n : Nat) : Int := if keyOk k then if n ≤ 140000 then 0 else 6 else 3
def macF (K T : List UInt8) : List UInt8 := chA K (zer 16) (filM T) ((filM T).length / 16)
def macR (K T : List UInt8) : List UInt8 := if macE K.length T.length = 0 then macF K T else []
theorem chA_last (K V T : List UInt8) (h : V.length = 16) : ∀ n, (V ++ chS K V T n).drop (16 * n) = chA K V T n
  | 0 => by simp [chS, chA]
  | n + 1 => by
    have : (V ++ chS K V T n).length = 16 * (n + 1) := by rw [List.length_append, chS_length, h]; omega
    rw [chS, ← List.append_assoc, ← this, List.drop_left]
end Go.Proofs.Ythaajaajhddhdaa
namespace Go.Proofs.Ythaajaajhddhdaa
open Go.RowKit
set_option linter.unusedVariables false
set_option linter.unusedSimpArgs false
theorem cbg_wro (k n : Nat) (b : Bool) : cbgE k n b = if wroE k n = 0 then (if b then 0 else 6) else wroE k n := by
  unfold cbgE wroE
  by_cases h1 : keyOk k = true
  · by_cases h2 : n = 16
    · simp [h1, h2]
    · simp [h1, h2]
  · simp [h1]
theorem wro_zero {k n : Nat} (h : wroE k n = 0) : (k = 16 ∨ k = 24 ∨ k = 32) ∧ n = 16 := by
  unfold wroE at h
  split at h
  · rename_i hk
    split at h
    · rename_i hn; exact ⟨by simpa [keyOk] using hk, hn⟩
    · cases h
  · cases h
section
variable {P : Program} {w : World}
/-- append of a text to a row of the call's own -/
theorem wpList_append_txt {ops : Array Oper} {rest : List Oper} {o : Oper} {a : Act} {Q : Exit → Act → World → Prop} (hgd : o.guard = none) (sl x : Operand) (t u : TypeId)
    (ho : o.op = .call { callee := .builtin .append, args := #[sl, x], argTypes := #[t, u] })
    (base : Nat) (e : TypeId) (i : TypeInfo) (ht : P.underlying t = some (.slice e)) (hu : P.underlying u = some .string) (hi : P.info? e = some i) (hz : i.zero = some (.int .u8 0)) (hsize : i.size = 1) (hby : i.bytes = 1)
    (v : Value) (n m : Nat) (l : List UInt8) (hs : a.eval sl = v) (hown : w.ownsRow base e 1 v n (bcells l)) (s : ByteArray) (hx : a.eval x = .string s) (hm : s.size = m) (hb : n + m ≤ 140737488355328) (hbase : base ≤ w.heap.size)
    (h : ∀ v' w', w'.ownsRow base e 1 v' (n + m) (bcells (l ++ s.toList)) → w.grownBy w' v.ownBlock → wpList P ops Q rest (a.put o.dst v') w') : wpList P ops Q (o :: rest) a w := by
  subst hm
  refine Lib.wpList_append_own_string w hgd sl x t u ho base e i ht hu hi hz hsize hby v n _ hs hown s hx (by unfold maxLen; omega) hb hbase ?_
  intro v' w' h1 h2 _
  have e1 : Lib.strCells s = bcells s.toList := by
    rw [Lib.toList_data]
    simp [Lib.strCells, bcells]
  rw [e1, ← bcells_append] at h1
  exact h v' w' h1 h2
theorem step_append_txt {ops : Array Oper} {o : Oper} {a : Act} {K : Act → World → Prop} {Q : Exit → Act → World → Prop} {E : Prop} (hgd : o.guard = none) (sl x : Operand) (t u : TypeId)
    (ho : o.op = .call { callee := .builtin .append, args := #[sl, x], argTypes := #[t, u] })
    (base : Nat) (e : TypeId) (i : TypeInfo) (ht : P.underlying t = some (.slice e)) (hu : P.underlying u = some .string) (hi : P.info? e = some i) (hz : i.zero = some (.int .u8 0)) (hsize : i.size = 1) (hby : i.bytes = 1)
    (v : Value) (n m : Nat) (l : List UInt8) (hs : a.eval sl = v) (hown : w.ownsRow base e 1 v n (bcells l)) (s : ByteArray) (hx : a.eval x = .string s) (hm : s.size = m) (hb : n + m ≤ 140737488355328) (hbase : base ≤ w.heap.size)
    (h : ∀ v' w', w'.ownsRow base e 1 v' (n + m) (bcells (l ++ s.toList)) → w.grownBy w' v.ownBlock → K (a.put o.dst v') w') :
    if Region.wanted o (yielded ops a.tmps) = true then Oper.wp P o a w K Q else E := by
  subst hm
  have hw : Region.wanted o (yielded ops a.tmps) = true := by simp [Region.wanted, hgd]
  rw [if_pos hw]
  obtain ⟨v', w', hr, h2, h3, h4⟩ := Lib.run_append_own_string (P := P) w base t u o.type e i ht hu hi hz hsize hby v n _ hown s (by unfold maxLen; omega) hb hbase
  have e1 : Lib.strCells s = bcells s.toList := by
    rw [Lib.toList_data]
    simp [Lib.strCells, bcells]
  rw [e1, ← bcells_append] at h2
  unfold Oper.wp execOp
  simp only [ho, resolve, invoke, builtin, Sem.run_bind, Sem.run_pure, Result.andThen_ok, List.map_toArray, List.map_cons, List.map_nil, hs, hx, hr]
  exact h v' w' h2 h3
end
theorem blk_pv (V T : List UInt8) (hv : V.length = 16) (i : Nat) : blkL (V ++ T) i = if i = 0 then V else blkL T (i - 1) := by
  cases i with
  | zero => rw [blkL, Nat.mul_zero, List.drop_zero, List.take_left' hv]; rfl
  | succ j =>
    rw [blkL, if_neg (by omega), Nat.add_sub_cancel, blkL, show 16 * (j + 1) = 16 + 16 * j by omega, ← List.drop_drop, List.drop_left' hv]
theorem blk_pvL (V T : List UInt8) (hv : V.length = 16) (i : Nat) : blkL (V ++ T) i = pvL V T i := by
  rw [blk_pv V T hv]
  cases i with
  | zero => rfl
  | succ j => rw [if_neg (by omega), Nat.add_sub_cancel]; rfl
end Go.Proofs.Ythaajaajhddhdaa
namespace Go.Proofs.Ythaajaajhddhdaa
open Go.RowKit
set_option linter.unusedVariables false
set_option linter.unusedSimpArgs false
theorem RetSE.of {l l' : List UInt8} {c c' : Int} {w w' : World} {e : Ending} (h : RetSE l c w e w') (hl : l = l') (hc : c = c') : RetSE l' c' w e w' := by
  subst hl hc
  exact h
theorem fitO_ne {n : Nat} (h : n ≠ 0) : cfitO n = cfit n := by
  rw [cfitO, cfit]
  congr 1
  apply propext
  omega
end Go.Proofs.Ythaajaajhddhdaa
namespace Go.Proofs.Ythaajaajhddhdaa
open Go.RowKit
set_option linter.unusedVariables false
set_option linter.unusedSimpArgs false
def lonB (n : Nat) : Bool := decide (3000 < n ∧ n ≤ 140000)
def RetBq (b : Bool) (w : World) (e : Ending) (w' : World) : Prop := e = .returned (.bool b) ∧ w = w'
end Go.Proofs.Ythaajaajhddhdaa
namespace Go.Proofs.Ythaajaajhddhdaa
open Go.RowKit
set_option linter.unusedVariables false
set_option linter.unusedSimpArgs false
theorem macE_key {k n : Nat} (h1 : k ≠ 16) (h2 : k ≠ 24) (h3 : k ≠ 32) : macE k n = 3 := by rw [macE, keyOk_no h1 h2 h3]; rfl
theorem macE_yes {k n : Nat} (hk : k = 16 ∨ k = 24 ∨ k = 32) : macE k n = if n ≤ 140000 then 0 else 6 := by rw [macE, if_pos (keyOk_yes hk)]
theorem nought_tl : (ByteArray.mk #[0]).toList = [0] := tl_mk _
set_option maxRecDepth 100000 in
set_option maxHeartbeats 1600000 in
theorem cMac_no (key text : ByteArray) (w : World) (c : Int) (hc : macE key.size text.size = c) (hc0 : c ≠ 0) : Calls Try.prog 29 #[.string key, .string text] w (RetSE [] c w) := by
  have hcb : (c != 0) = true := by rw [bne_iff_ne]; exact hc0
  obtain ⟨b, hb⟩ : ∃ b, decide (text.size ≤ 140000) = b := ⟨_, rfl⟩
  have hE : cbgE key.size 16 b = c := by
    rw [← hc, cbgE, macE, ← hb]
    by_cases h : keyOk key.size = true
    · rw [if_pos h, if_pos h, if_pos rfl]
      by_cases h2 : text.size ≤ 140000
      · rw [decide_eq_true h2, if_pos h2]; rfl
      · rw [decide_eq_false h2, if_neg h2]; rfl
    · rw [if_neg h, if_neg h]
  have hi : decide ((text.size : Int) ≤ 140000) = b := by
    rw [← hb]
    exact decide_eq_decide.2 (by omega)
  have HE := Lib.hid hE
  clear hb hE hc
  go_enter Try.func29, Try.ntmps29
  go_wp2_with fail
  refine (rep_any (ByteArray.mk #[0]) 0 16 _ nought_tl (by decide)).mono ?_
  rintro e w1 ⟨z, rfl, hz, hb1⟩
  have hzs : z.size = 16 := by rw [← tl_size, hz]; rfl
  have HZS := Lib.hid hzs
  clear hz hzs
  cases b
  · have i1 : ¬ (text.size : Int) ≤ 140000 := of_decide_eq_false hi
    clear hi
    go_wp2_with fail
    try rw [show decide ((text.size : Int) ≤ 140000) = false from decide_eq_false (by omega)]
    refine (cbegin_no key z false c _ (by rw [HZS.out]; exact HE.out) hc0).mono ?_
    rintro e w2 ⟨rfl, hb2⟩
    go_wp2_with fail
    go_ret2
    exact ret_se (tl_mk []) rfl rfl (below2 hb1 hb2)
  · have i1 : (text.size : Int) ≤ 140000 := of_decide_eq_true hi
    clear hi
    go_wp2_with fail
    try rw [show decide ((text.size : Int) ≤ 140000) = true from decide_eq_true (by omega)]
    refine (cbegin_no key z true c _ (by rw [HZS.out]; exact HE.out) hc0).mono ?_
    rintro e w2 ⟨rfl, hb2⟩
    go_wp2_with fail
    go_ret2
    exact ret_se (tl_mk []) rfl rfl (below2 hb1 hb2)
set_option maxRecDepth 100000 in
set_option maxHeartbeats 1600000 in
theorem cMac_ok (key text : ByteArray) (w : World) (hk : key.size = 16 ∨ key.size = 24 ∨ key.size = 32) (ht : text.size ≤ 140000) : Calls Try.prog 29 #[.string key, .string text] w (RetSE (macF key.toList text.toList) 0 w) := by
  have i1 : (text.size : Int) ≤ 140000 := by omega
  obtain ⟨r, hr⟩ : ∃ r, text.size % 16 = r := ⟨_, rfl⟩
  obtain ⟨d, hd⟩ : ∃ d, d = 16 - r := ⟨_, rfl⟩
  obtain ⟨p, hp⟩ : ∃ p, p = d % 16 := ⟨_, rfl⟩
  have hrl : r < 16 := by omega
  have e1 : (text.size : Int).tmod 16 = (r : Int) := tmod_nat text.size 16 r hr.symm
  have e2 : IntKind.i64.wrap (r : Int) = (r : Int) := wrap_in _ (by omega) (by omega)
  have e3 : 16 - (r : Int) = (d : Int) := by omega
  have e4 : IntKind.i64.wrap (d : Int) = (d : Int) := wrap_in _ (by omega) (by omega)
  have e5 : (d : Int).tmod 16 = (p : Int) := tmod_nat d 16 p hp
  have e6 : IntKind.i64.wrap (p : Int) = (p : Int) := wrap_in _ (by omega) (by omega)
  have e7 : (0 : Int) ≤ (p : Int) := by omega
  have hpl : p ≤ 15 := by omega
  have HP : Hid ((16 - text.toList.length % 16) % 16 = p) := by show _ = _; rw [tl_size]; omega
  clear hr hd hp
  go_enter Try.func29, Try.ntmps29
  go_wp2_with fail
  refine (rep_any (ByteArray.mk #[0]) 0 16 _ nought_tl (by decide)).mono ?_
  rintro e w1 ⟨z, rfl, hz, hb1⟩
  have hzs : z.size = 16 := by rw [← tl_size, hz]; rfl
  have HZ : Hid (z.toList = zer 16) := hz
  have HZS := Lib.hid hzs
  clear hz
  go_wp2_with fail
  refine (cbegin_ok key z _ hk HZS.out).mono ?_
  rintro e w2 ⟨g, hg, rfl, hQ, hb2⟩
  have hb12 := below2 hb1 hb2
  have i2 : (p : Int) ≤ (z.size : Int) := by omega
  have i3 : p ≤ z.size := by omega
  obtain ⟨x, hx⟩ : ∃ x, z.extract 0 p = x := ⟨_, rfl⟩
  have hxl : x.toList = zer p := by rw [← hx, tl_ext0, HZ.out, zer, List.take_replicate, Nat.min_eq_left (by omega)]; rfl
  have hxs : x.size = p := by rw [← tl_size, hxl, zer_length]
  have hov : ¬ 9223372036854775807 < text.size + x.size := by omega
  obtain ⟨f, hf⟩ : ∃ f, text ++ x = f := ⟨_, rfl⟩
  have hfl : f.toList = filM text.toList := by rw [← hf, tl_append, hxl, filM, HP.out]
  obtain ⟨n, hn⟩ : ∃ n, (filM text.toList).length / 16 = n := ⟨_, rfl⟩
  have hfs : f.size = 16 * n := by rw [← tl_size, hfl, ← hn]; exact filM_mod _
  have hfz : f.size ≤ 140737488351232 := by rw [← tl_size, hfl]; have := filM_size text.toList; rw [tl_size] at this; omega
  have hnb : n ≤ 8751 := by have := filM_size text.toList; rw [tl_size, ← hfl, tl_size] at this; omega
  have HF := Lib.hid hfl
  have HFS := Lib.hid hfs
  have HFZ := Lib.hid hfz
  have HN := Lib.hid hn
  have HQ := Lib.hid hQ
  clear hxl hxs hfl hn hfs hfz hQ hb1 hb2 hzs
  go_wp2_with fail
  refine (chain_any _ g n _ z f HQ.out HZS.out HFS.out HFZ.out).mono ?_
  rintro e w3 ⟨c, rfl, hc, hb3⟩
  have hcs : c.size = 16 * n := by rw [← tl_size, hc, chS_length]
  have hov2 : ¬ 9223372036854775807 < z.size + c.size := by have := HZS.out; omega
  obtain ⟨md, hmd⟩ : ∃ md, z ++ c = md := ⟨_, rfl⟩
  obtain ⟨S, hS⟩ : ∃ S, S = 16 * n + 16 := ⟨_, rfl⟩
  obtain ⟨o, ho⟩ : ∃ o, o = 16 * n := ⟨_, rfl⟩
  have hms : md.size = S := by rw [← hmd, ByteArray.size_append, HZS.out, hcs]; omega
  have hml : md.toList = zer 16 ++ chS key.toList (zer 16) (filM text.toList) n := by rw [← hmd, tl_append, hc, HZ.out, HF.out]
  have j1 : (S : Int) - 16 = (o : Int) := by omega
  have j2 : IntKind.i64.wrap (o : Int) = (o : Int) := wrap_in _ (by omega) (by omega)
  have j3 : (0 : Int) ≤ (o : Int) := by omega
  have j4 : (o : Int) ≤ (S : Int) := by omega
  have j5 : o ≤ S := by omega
  have hfin : (md.extract o S).toList = chA key.toList (zer 16) (filM text.toList) n := by rw [tl_extE _ _ _ hms.symm, hml, ho, chA_last _ _ _ (zer_length 16)]
  have HFIN := Lib.hid hfin
  have hb13 := below2 hb12 hb3
  clear hc hcs hml ho hS hfin hx hf hb12 hb3
  go_wp2_with fail
  go_ret2
  exact ret_se HFIN.out (by rw [macF, HN.out]) rfl hb13
theorem cMac_any (key text : ByteArray) (w : World) : Calls Try.prog 29 #[.string key, .string text] w (RetSE (macR key.toList text.toList) (macE key.size text.size) w) := by
  obtain ⟨c, hc⟩ : ∃ c, macE key.size text.size = c := ⟨_, rfl⟩
  rw [macR, tl_size, tl_size, hc]
  by_cases h0 : c = 0
  · rw [if_pos h0, h0]
    rcases key_cases key with hk | ⟨h1, h2, h3⟩
    · rw [macE_yes hk] at hc
      split at hc
      · exact cMac_ok key text w hk (by assumption)
      · omega
    · rw [macE_key h1 h2 h3] at hc; omega
  · rw [if_neg h0]
    exact cMac_no key text w c hc h0
end Go.Proofs.Ythaajaajhddhdaa
namespace Go.Proofs.Ythaajaajhddhdaa
open Go.RowKit
set_option linter.unusedVariables false
set_option linter.unusedSimpArgs false
theorem Bag.whole {w : World} {B : Nat} {v : Value} {l : List UInt8} (h : Bag w B v l) : ∃ g cap, v = .slice (some ⟨g, 0, none⟩) l.length cap ∧ B ≤ g ∧ l.length ≤ cap := by
  obtain ⟨g, cap, sp, hv, hb, hc, hs, ha⟩ := h
  exact ⟨g, cap, hv, hb, hc⟩
theorem wpList_bytes_len {P : Program} (w : World) {ops : Array Oper} {rest : List Oper} {o : Oper} {a : Act} {Q : Exit → Act → World → Prop}
    (hg : o.guard = none) (x : Operand) (src dst e : TypeId) (hop : o.op = Op.convert src dst x) (h1 : P.underlying src = some .string) (h2 : P.underlying dst = some (.slice e)) (h3 : P.underlying e = some (.int .u8))
    (s : ByteArray) (hx : a.eval x = .string s) (B : Nat) (hB : B ≤ w.heap.size)
    (hK : ∀ g cap w', Hid (Bag w' B (.slice (some ⟨g, 0, none⟩) s.size cap) s.toList) → Below B w w' → wpList P ops Q rest (a.put o.dst (.slice (some ⟨g, 0, none⟩) s.size cap)) w') :
    wpList P ops Q (o :: rest) a w := by
  refine wpList_bytes_bag w hg x src dst e hop h1 h2 h3 s hx B hB ?_
  intro v w' hb hbel
  obtain ⟨g, cap, rfl, hgB, hcap⟩ := hb.whole
  rw [tl_size] at hb ⊢
  exact hK g cap w' hb hbel
end Go.Proofs.Ythaajaajhddhdaa
namespace Go.Proofs.Ythaajaajhddhdaa
open Go.RowKit
set_option linter.unusedVariables false
set_option linter.unusedSimpArgs false
theorem macE_zero {k n : Nat} (h : macE k n = 0) : (k = 16 ∨ k = 24 ∨ k = 32) ∧ n ≤ 140000 := by
  unfold macE at h
  split at h
  · rename_i hk
    split at h
    · exact ⟨by simpa [keyOk] using hk, by assumption⟩
    · omega
  · omega
end Go.Proofs.Ythaajaajhddhdaa
namespace Go.Proofs.Ythaajaajhddhdaa
open Go.RowKit
set_option linter.unusedVariables false
set_option linter.unusedSimpArgs false
/-! ### chains go on -/
theorem blk_app (A B : List UInt8) (n i : Nat) (hA : A.length = 16 * n) : blkL (A ++ B) (n + i) = blkL B i := by
  rw [blkL, blkL, show 16 * (n + i) = A.length + 16 * i by omega, ← List.drop_drop, List.drop_left]
theorem blk_left (A B : List UInt8) (n i : Nat) (hA : A.length = 16 * n) (h : i < n) : blkL (A ++ B) i = blkL A i := by
  rw [blkL, blkL, List.drop_append_of_le_length (by omega), List.take_append_of_le_length (by rw [List.length_drop]; omega)]
theorem chA_left (K V A B : List UInt8) (n : Nat) (hA : A.length = 16 * n) : ∀ i, i ≤ n → chA K V (A ++ B) i = chA K V A i
  | 0, _ => rfl
  | i + 1, h => by rw [chA, chA, chA_left K V A B n hA i (by omega), blk_left A B n i hA (by omega)]
theorem chA_app (K V A B : List UInt8) (n : Nat) (hA : A.length = 16 * n) : ∀ i, chA K V (A ++ B) (n + i) = chA K (chA K V A n) B i
  | 0 => chA_left K V A B n hA n (Nat.le_refl _)
  | i + 1 => by rw [← Nat.add_assoc, chA, chA, chA_app K V A B n hA i, blk_app A B n i hA]
/-! ### counters -/
theorem addL_be (q m n : Nat) : oaddL (be q m) n = be q (m + n) := by
  rw [oaddL, be_length, ofBe_be, ← be_mod q (m + n), ← be_mod q (m % 256 ^ q + n), Nat.mod_add_mod]
def ccCnt (V : List UInt8) (i : Nat) : List UInt8 := UInt8.ofNat (14 - V.length) :: (V ++ be (15 - V.length) i)
theorem ccCnt_length (V : List UInt8) (i : Nat) (h : V.length ≤ 13) : (ccCnt V i).length = 16 := by
  rw [ccCnt, List.length_cons, List.length_append, be_length]
  omega
theorem nxt_cnt (V : List UInt8) (i n : Nat) (h : V.length ≤ 13) : nxt (ccCnt V i) (15 - V.length) n = ccCnt V (i + n) := by
  have e1 : ccCnt V i = (UInt8.ofNat (14 - V.length) :: V) ++ be (15 - V.length) i := rfl
  have hl : (UInt8.ofNat (14 - V.length) :: V).length = 16 - (15 - V.length) := by rw [List.length_cons]; omega
  rw [nxt, e1, List.take_left' hl, List.drop_left' hl, addL_be]
  rfl
/-! ### what goes through the chain -/
def ccFlag (v a s : Nat) : Nat := 8 * ((s - 2) / 2) + (14 - v) + (if a = 0 then 0 else 64)
def ccFirst (V A : List UInt8) (n s : Nat) : List UInt8 := UInt8.ofNat (ccFlag V.length A.length s) :: (V ++ be (15 - V.length) n)
def ccBes (A : List UInt8) : List UInt8 := if A.length = 0 then [] else if A.length < 65280 then filM (be 2 A.length ++ A) else filM (([255, 254] ++ be 4 A.length) ++ A)
def ccHead (V A : List UInt8) (n s : Nat) : List UInt8 := ccFirst V A n s ++ ccBes A
def ccAll (V A T : List UInt8) (s : Nat) : List UInt8 := ccHead V A T.length s ++ filM T
def ccX (K V A T : List UInt8) (s : Nat) : List UInt8 := chA K (zer 16) (ccAll V A T s) ((ccAll V A T s).length / 16)
def ccTag (K V A T : List UInt8) (s : Nat) : List UInt8 := (xorL (ccX K V A T s) (encL K (ccCnt V 0))).take s
def ccJoin (K V : List UInt8) (T : List UInt8) (i : Nat) : List UInt8 := ctrL K (ccCnt V i) (15 - V.length) T
theorem ccFirst_length (V A : List UInt8) (n s : Nat) (h : V.length ≤ 13) : (ccFirst V A n s).length = 16 := by
  rw [ccFirst, List.length_cons, List.length_append, be_length]
  omega
theorem ccBes_mod (A : List UInt8) : (ccBes A).length = 16 * ((ccBes A).length / 16) := by
  unfold ccBes
  split
  · rfl
  · split
    · exact filM_mod _
    · exact filM_mod _
theorem ccBes_size (A : List UInt8) : (ccBes A).length ≤ A.length + 22 := by
  unfold ccBes
  split
  · simp
  · split
    · have := filM_size (be 2 A.length ++ A)
      rw [List.length_append, be_length] at this
      omega
    · have := filM_size (([255, 254] ++ be 4 A.length) ++ A)
      rw [List.length_append, List.length_append, be_length] at this
      simp only [List.length_cons, List.length_nil] at this
      omega
theorem ccHead_mod (V A : List UInt8) (n s : Nat) (h : V.length ≤ 13) : (ccHead V A n s).length = 16 * ((ccHead V A n s).length / 16) := by
  have h1 := ccFirst_length V A n s h
  have h2 := ccBes_mod A
  rw [ccHead, List.length_append, h1]
  omega
theorem ccX_split (K V A T : List UInt8) (s : Nat) (h : V.length ≤ 13) :
    ccX K V A T s = chA K (chA K (zer 16) (ccHead V A T.length s) ((ccHead V A T.length s).length / 16)) (filM T) ((filM T).length / 16) := by
  have h1 := ccHead_mod V A T.length s h
  have h2 := filM_mod T
  rw [ccX, ccAll, List.length_append, show ((ccHead V A T.length s).length + (filM T).length) / 16 = (ccHead V A T.length s).length / 16 + (filM T).length / 16 by omega]
  exact chA_app K _ _ _ _ h1 _
theorem filM_whole (T : List UInt8) (h : T.length % 16 = 0) : filM T = T := by
  rw [filM, h]
  exact List.append_nil T
/-- layer 6's Mac of what is ahead -/
theorem ccMac (K V A : List UInt8) (n s : Nat) (h : V.length ≤ 13) : macF K (ccHead V A n s) = chA K (zer 16) (ccHead V A n s) ((ccHead V A n s).length / 16) := by
  rw [macF, filM_whole _ (by have := ccHead_mod V A n s h; omega)]
theorem ccJoin_tag (K V X : List UInt8) (s : Nat) (h : V.length ≤ 13) (hX : X.length = 16) (hs : s ≤ 16) (h1 : 1 ≤ s) : ccJoin K V (X.take s) 0 = (xorL X (encL K (ccCnt V 0))).take s := by
  have hb : blk (X.take s).length = 1 := by rw [List.length_take, blk]; omega
  rw [ccJoin, ctrL, hb, ctrS, ctrS, List.nil_append, nxt_zero]
  unfold xorL
  rw [List.take_zipWith]
  apply List.ext_getElem
  · simp [encL_length]; omega
  · intro i h1 h2
    simp
theorem ccX_length (K V A T : List UInt8) (s : Nat) : (ccX K V A T s).length = 16 := chA_length _ _ _ (zer_length 16) _
theorem ccTag_length (K V A T : List UInt8) (s : Nat) (h : s ≤ 16) : (ccTag K V A T s).length = s := by
  rw [ccTag, List.length_take, xorL_length, ccX_length, encL_length]
  omega
/-- the counters, one after the other -/
def ccStr (K V : List UInt8) : Nat → List UInt8
  | 0 => []
  | m + 1 => ccStr K V m ++ encL K (ccCnt V (m + 1))
theorem ccStr_ctr (K V : List UInt8) (h : V.length ≤ 13) : ∀ m, ctrS K (ccCnt V 1) (15 - V.length) m = ccStr K V m
  | 0 => rfl
  | m + 1 => by rw [ctrS, ccStr, ccStr_ctr K V h m, nxt_cnt V 1 m h, Nat.add_comm 1 m]
theorem ccStr_length (K V : List UInt8) : ∀ m, (ccStr K V m).length = 16 * m
  | 0 => rfl
  | m + 1 => by rw [ccStr, List.length_append, ccStr_length K V m, encL_length]; omega
/-! ### errors -/
def ccFits (v : Nat) (n : Int) : Bool := decide (7 ≤ v ∧ v ≤ 13 ∧ 0 ≤ n ∧ n ≤ 70000 ∧ (v = 13 → n < 65536))
def ccE (k v a : Nat) (s n : Int) : Int :=
  if keyOk k then if v < 7 ∨ 13 < v then 4 else if s < 4 ∨ 16 < s ∨ s % 2 ≠ 0 then 5 else if 70000 < a ∨ ccFits v n = false then 6 else 0 else 3
theorem ccE_zero {k v a : Nat} {s n : Int} (h : ccE k v a s n = 0) : (k = 16 ∨ k = 24 ∨ k = 32) ∧ 7 ≤ v ∧ v ≤ 13 ∧ 4 ≤ s ∧ s ≤ 16 ∧ s % 2 = 0 ∧ a ≤ 70000 ∧ 0 ≤ n ∧ n ≤ 70000 ∧ (v = 13 → n < 65536) := by
  unfold ccE at h
  split at h
  · rename_i hk
    split at h
    · cases h
    · split at h
      · cases h
      · split at h
        · cases h
        · rename_i h4
          have hf : ccFits v n = true := by
            cases hf : ccFits v n
            · exact absurd (.inr hf) h4
            · rfl
          have := of_decide_eq_true hf
          exact ⟨by simpa [keyOk] using hk, by omega, by omega, by omega, by omega, by omega, by omega, by omega, by omega, this.2.2.2.2⟩
  · cases h
end Go.Proofs.Ythaajaajhddhdaa
namespace Go.Proofs.Ythaajaajhddhdaa
open Go.RowKit
set_option linter.unusedVariables false
set_option linter.unusedSimpArgs false
set_option maxRecDepth 100000 in
theorem fits_low (v n : Int) (hv : v = 7 ∨ v = 8 ∨ v = 9 ∨ v = 10 ∨ v = 11 ∨ v = 12) (w : World) : Calls Try.prog 26 #[.int .i64 v, .int .i64 n] w (RetBq (decide (0 ≤ n ∧ n ≤ 70000)) w) := by
  by_cases h0 : 0 ≤ n
  · by_cases h1 : n ≤ 70000
    · rw [decide_eq_true ⟨h0, h1⟩]
      rcases hv with rfl | rfl | rfl | rfl | rfl | rfl
      all_goals
        go_enter Try.func26, Try.ntmps26
        go_wp2_with fail
        go_ret
        exact ⟨rfl, rfl⟩
    · rw [decide_eq_false (by omega)]
      rcases hv with rfl | rfl | rfl | rfl | rfl | rfl
      all_goals
        go_enter Try.func26, Try.ntmps26
        go_wp2_with fail
        go_ret
        exact ⟨rfl, rfl⟩
  · rw [decide_eq_false (by omega)]
    rcases hv with rfl | rfl | rfl | rfl | rfl | rfl
    all_goals
      go_enter Try.func26, Try.ntmps26
      go_wp2_with fail
      go_ret
      exact ⟨rfl, rfl⟩
set_option maxRecDepth 100000 in
theorem fits_top (n : Int) (w : World) : Calls Try.prog 26 #[.int .i64 13, .int .i64 n] w (RetBq (decide (0 ≤ n ∧ n < 65536)) w) := by
  by_cases h1 : 65536 ≤ n
  · rw [decide_eq_false (by omega)]
    go_enter Try.func26, Try.ntmps26
    go_wp2_with fail
    go_ret
    exact ⟨rfl, rfl⟩
  · by_cases h0 : 0 ≤ n
    · rw [decide_eq_true ⟨h0, by omega⟩]
      have h2 : n ≤ 70000 := by omega
      go_enter Try.func26, Try.ntmps26
      go_wp2_with fail
      go_ret
      exact ⟨rfl, rfl⟩
    · rw [decide_eq_false (by omega)]
      go_enter Try.func26, Try.ntmps26
      go_wp2_with fail
      go_ret
      exact ⟨rfl, rfl⟩
theorem fits_any (v : Nat) (n : Int) (h7 : 7 ≤ v) (h13 : v ≤ 13) (w : World) : Calls Try.prog 26 #[.int .i64 (v : Int), .int .i64 n] w (RetBq (ccFits v n) w) := by
  by_cases h : v = 13
  · subst h
    have : ccFits 13 n = decide (0 ≤ n ∧ n < 65536) := by
      unfold ccFits
      exact decide_eq_decide.2 (by omega)
    rw [this]
    exact fits_top n w
  · have : ccFits v n = decide (0 ≤ n ∧ n ≤ 70000) := by
      unfold ccFits
      exact decide_eq_decide.2 (by omega)
    rw [this]
    exact fits_low (v : Int) n (by omega) w
/-- what s says of a size -/
theorem ccE_key {k v a : Nat} {s n : Int} (h1 : k ≠ 16) (h2 : k ≠ 24) (h3 : k ≠ 32) : ccE k v a s n = 3 := by rw [ccE, keyOk_no h1 h2 h3]; rfl
theorem ccE_iv {k v a : Nat} {s n : Int} (hk : k = 16 ∨ k = 24 ∨ k = 32) (h : v < 7 ∨ 13 < v) : ccE k v a s n = 4 := by rw [ccE, if_pos (keyOk_yes hk), if_pos h]
theorem ccE_tag {k v a : Nat} {s n : Int} (hk : k = 16 ∨ k = 24 ∨ k = 32) (h : ¬ (v < 7 ∨ 13 < v)) (hs : s < 4 ∨ 16 < s ∨ s % 2 ≠ 0) : ccE k v a s n = 5 := by rw [ccE, if_pos (keyOk_yes hk), if_neg h, if_pos hs]
theorem ccE_aad {k v a : Nat} {s n : Int} (hk : k = 16 ∨ k = 24 ∨ k = 32) (h : ¬ (v < 7 ∨ 13 < v)) (hs : ¬ (s < 4 ∨ 16 < s ∨ s % 2 ≠ 0)) (ha : 70000 < a) : ccE k v a s n = 6 := by rw [ccE, if_pos (keyOk_yes hk), if_neg h, if_neg hs, if_pos (.inl ha)]
theorem ccE_fits {k v a : Nat} {s n : Int} (hk : k = 16 ∨ k = 24 ∨ k = 32) (h : ¬ (v < 7 ∨ 13 < v)) (hs : ¬ (s < 4 ∨ 16 < s ∨ s % 2 ≠ 0)) (ha : ¬ 70000 < a) : ccE k v a s n = if ccFits v n then 0 else 6 := by
  rw [ccE, if_pos (keyOk_yes hk), if_neg h, if_neg hs]
  cases ccFits v n
  · rw [if_pos (.inr rfl)]; rfl
  · rw [if_neg (by intro hc; rcases hc with hc | hc; exact ha hc; cases hc)]; rfl
set_option maxRecDepth 100000 in
set_option maxHeartbeats 1600000 in
theorem may_16 (key nonce aad : ByteArray) (s n : Int) (w : World) (h : key.size = 16) : Calls Try.prog 18 #[.string key, .string nonce, .string aad, .int .i64 s, .int .i64 n] w (RetI64 (ccE key.size nonce.size aad.size s n) w) := by
  have e16 : ((key.size : Int) != 16) = false := by rw [bne_eq_false_iff_eq]; omega
  have hk : key.size = 16 ∨ key.size = 24 ∨ key.size = 32 := by omega
  clear h
  by_cases hv : nonce.size < 7 ∨ 13 < nonce.size
  · rw [ccE_iv hk hv]
    clear hk
    by_cases hv1 : nonce.size < 7
    · have i1 : (nonce.size : Int) < 7 := by omega
      clear hv hv1
      go_enter Try.func18, Try.ntmps18
      go_wp2_with fail
      go_ret
      exact ⟨rfl, rfl⟩
    · have i1 : ¬ (nonce.size : Int) < 7 := by omega
      have i2 : (13 : Int) < (nonce.size : Int) := by omega
      clear hv hv1
      go_enter Try.func18, Try.ntmps18
      go_wp2_with fail
      go_ret
      exact ⟨rfl, rfl⟩
  · have i1 : ¬ (nonce.size : Int) < 7 := by omega
    have i2 : ¬ (13 : Int) < (nonce.size : Int) := by omega
    have v7 : 7 ≤ nonce.size := by omega
    have v13 : nonce.size ≤ 13 := by omega
    by_cases hs : s < 4 ∨ 16 < s ∨ s % 2 ≠ 0
    · rw [ccE_tag hk hv hs]
      clear hk hv v7 v13
      by_cases hs1 : s < 4
      · clear hs
        go_enter Try.func18, Try.ntmps18
        go_wp2_with fail
        go_ret
        exact ⟨rfl, rfl⟩
      · by_cases hs2 : 16 < s
        · clear hs
          go_enter Try.func18, Try.ntmps18
          go_wp2_with fail
          go_ret
          exact ⟨rfl, rfl⟩
        · obtain ⟨m, rfl⟩ := Int.eq_ofNat_of_zero_le (a := s) (by omega)
          have r3 : (m : Int).tmod 2 = 1 := tmod_nat m 2 1 (by omega)
          have r4 : (m : Int) % 2 = 1 := by omega
          clear hs
          go_enter Try.func18, Try.ntmps18
          go_wp2_with fail
          go_ret
          exact ⟨rfl, rfl⟩
    · obtain ⟨m, rfl⟩ := Int.eq_ofNat_of_zero_le (a := s) (by omega)
      have s1 : ¬ (m : Int) < 4 := by omega
      have s2 : ¬ (16 : Int) < (m : Int) := by omega
      have r3 : (m : Int).tmod 2 = 0 := tmod_nat m 2 0 (by omega)
      have r4 : (m : Int) % 2 = 0 := by omega
      by_cases ha : 70000 < aad.size
      · rw [ccE_aad hk hv hs ha]
        have a1 : (70000 : Int) < (aad.size : Int) := by omega
        clear hk hv v7 v13 hs ha
        go_enter Try.func18, Try.ntmps18
        go_wp2_with fail
        go_ret
        exact ⟨rfl, rfl⟩
      · rw [ccE_fits hk hv hs ha]
        have a1 : ¬ (70000 : Int) < (aad.size : Int) := by omega
        obtain ⟨b, hb⟩ : ∃ b, ccFits nonce.size n = b := ⟨_, rfl⟩
        have HB := Lib.hid hb
        rw [hb]
        clear hk hv hs ha hb
        cases b
        · show Calls _ _ _ _ (RetI64 6 w)
          go_enter Try.func18, Try.ntmps18
          go_wp2_with fail
          refine (fits_any nonce.size n v7 v13 _).mono ?_
          rintro e w1 ⟨rfl, rfl⟩
          rw [HB.out]
          go_wp2_with fail
          go_ret
          exact ⟨rfl, rfl⟩
        · show Calls _ _ _ _ (RetI64 0 w)
          go_enter Try.func18, Try.ntmps18
          go_wp2_with fail
          refine (fits_any nonce.size n v7 v13 _).mono ?_
          rintro e w1 ⟨rfl, rfl⟩
          rw [HB.out]
          go_wp2_with fail
          go_ret
          exact ⟨rfl, rfl⟩
set_option maxRecDepth 100000 in
set_option maxHeartbeats 1600000 in
theorem may_24 (key nonce aad : ByteArray) (s n : Int) (w : World) (h : key.size = 24) : Calls Try.prog 18 #[.string key, .string nonce, .string aad, .int .i64 s, .int .i64 n] w (RetI64 (ccE key.size nonce.size aad.size s n) w) := by
  have e16 : ((key.size : Int) != 16) = true := by rw [bne_iff_ne]; omega
  have e24 : ((key.size : Int) != 24) = false := by rw [bne_eq_false_iff_eq]; omega
  have hk : key.size = 16 ∨ key.size = 24 ∨ key.size = 32 := by omega
  clear h
  by_cases hv : nonce.size < 7 ∨ 13 < nonce.size
  · rw [ccE_iv hk hv]
    clear hk
    by_cases hv1 : nonce.size < 7
    · have i1 : (nonce.size : Int) < 7 := by omega
      clear hv hv1
      go_enter Try.func18, Try.ntmps18
      go_wp2_with fail
      go_ret
      exact ⟨rfl, rfl⟩
    · have i1 : ¬ (nonce.size : Int) < 7 := by omega
      have i2 : (13 : Int) < (nonce.size : Int) := by omega
      clear hv hv1
      go_enter Try.func18, Try.ntmps18
      go_wp2_with fail
      go_ret
      exact ⟨rfl, rfl⟩
  · have i1 : ¬ (nonce.size : Int) < 7 := by omega
    have i2 : ¬ (13 : Int) < (nonce.size : Int) := by omega
    have v7 : 7 ≤ nonce.size := by omega
    have v13 : nonce.size ≤ 13 := by omega
    by_cases hs : s < 4 ∨ 16 < s ∨ s % 2 ≠ 0
    · rw [ccE_tag hk hv hs]
      clear hk hv v7 v13
      by_cases hs1 : s < 4
      · clear hs
        go_enter Try.func18, Try.ntmps18
        go_wp2_with fail
        go_ret
        exact ⟨rfl, rfl⟩
      · by_cases hs2 : 16 < s
        · clear hs
          go_enter Try.func18, Try.ntmps18
          go_wp2_with fail
          go_ret
          exact ⟨rfl, rfl⟩
        · obtain ⟨m, rfl⟩ := Int.eq_ofNat_of_zero_le (a := s) (by omega)
          have r3 : (m : Int).tmod 2 = 1 := tmod_nat m 2 1 (by omega)
          have r4 : (m : Int) % 2 = 1 := by omega
          clear hs
          go_enter Try.func18, Try.ntmps18
          go_wp2_with fail
          go_ret
          exact ⟨rfl, rfl⟩
    · obtain ⟨m, rfl⟩ := Int.eq_ofNat_of_zero_le (a := s) (by omega)
      have s1 : ¬ (m : Int) < 4 := by omega
      have s2 : ¬ (16 : Int) < (m : Int) := by omega
      have r3 : (m : Int).tmod 2 = 0 := tmod_nat m 2 0 (by omega)
      have r4 : (m : Int) % 2 = 0 := by omega
      by_cases ha : 70000 < aad.size
      · rw [ccE_aad hk hv hs ha]
        have a1 : (70000 : Int) < (aad.size : Int) := by omega
        clear hk hv v7 v13 hs ha
        go_enter Try.func18, Try.ntmps18
        go_wp2_with fail
        go_ret
        exact ⟨rfl, rfl⟩
      · rw [ccE_fits hk hv hs ha]
        have a1 : ¬ (70000 : Int) < (aad.size : Int) := by omega
        obtain ⟨b, hb⟩ : ∃ b, ccFits nonce.size n = b := ⟨_, rfl⟩
        have HB := Lib.hid hb
        rw [hb]
        clear hk hv hs ha hb
        cases b
        · show Calls _ _ _ _ (RetI64 6 w)
          go_enter Try.func18, Try.ntmps18
          go_wp2_with fail
          refine (fits_any nonce.size n v7 v13 _).mono ?_
          rintro e w1 ⟨rfl, rfl⟩
          rw [HB.out]
          go_wp2_with fail
          go_ret
          exact ⟨rfl, rfl⟩
        · show Calls _ _ _ _ (RetI64 0 w)
          go_enter Try.func18, Try.ntmps18
          go_wp2_with fail
          refine (fits_any nonce.size n v7 v13 _).mono ?_
          rintro e w1 ⟨rfl, rfl⟩
          rw [HB.out]
          go_wp2_with fail
          go_ret
          exact ⟨rfl, rfl⟩
set_option maxRecDepth 100000 in
set_option maxHeartbeats 1600000 in
theorem may_32 (key nonce aad : ByteArray) (s n : Int) (w : World) (h : key.size = 32) : Calls Try.prog 18 #[.string key, .string nonce, .string aad, .int .i64 s, .int .i64 n] w (RetI64 (ccE key.size nonce.size aad.size s n) w) := by
  have e16 : ((key.size : Int) != 16) = true := by rw [bne_iff_ne]; omega
  have e24 : ((key.size : Int) != 24) = true := by rw [bne_iff_ne]; omega
  have e32 : ((key.size : Int) != 32) = false := by rw [bne_eq_false_iff_eq]; omega
  have hk : key.size = 16 ∨ key.size = 24 ∨ key.size = 32 := by omega
  clear h
  by_cases hv : nonce.size < 7 ∨ 13 < nonce.size
  · rw [ccE_iv hk hv]
    clear hk
    by_cases hv1 : nonce.size < 7
    · have i1 : (nonce.size : Int) < 7 := by omega
      clear hv hv1
      go_enter Try.func18, Try.ntmps18
      go_wp2_with fail
      go_ret
      exact ⟨rfl, rfl⟩
    · have i1 : ¬ (nonce.size : Int) < 7 := by omega
      have i2 : (13 : Int) < (nonce.size : Int) := by omega
      clear hv hv1
      go_enter Try.func18, Try.ntmps18
      go_wp2_with fail
      go_ret
      exact ⟨rfl, rfl⟩
  · have i1 : ¬ (nonce.size : Int) < 7 := by omega
    have i2 : ¬ (13 : Int) < (nonce.size : Int) := by omega
    have v7 : 7 ≤ nonce.size := by omega
    have v13 : nonce.size ≤ 13 := by omega
    by_cases hs : s < 4 ∨ 16 < s ∨ s % 2 ≠ 0
    · rw [ccE_tag hk hv hs]
      clear hk hv v7 v13
      by_cases hs1 : s < 4
      · clear hs
        go_enter Try.func18, Try.ntmps18
        go_wp2_with fail
        go_ret
        exact ⟨rfl, rfl⟩
      · by_cases hs2 : 16 < s
        · clear hs
          go_enter Try.func18, Try.ntmps18
          go_wp2_with fail
          go_ret
          exact ⟨rfl, rfl⟩
        · obtain ⟨m, rfl⟩ := Int.eq_ofNat_of_zero_le (a := s) (by omega)
          have r3 : (m : Int).tmod 2 = 1 := tmod_nat m 2 1 (by omega)
          have r4 : (m : Int) % 2 = 1 := by omega
          clear hs
          go_enter Try.func18, Try.ntmps18
          go_wp2_with fail
          go_ret
          exact ⟨rfl, rfl⟩
    · obtain ⟨m, rfl⟩ := Int.eq_ofNat_of_zero_le (a := s) (by omega)
      have s1 : ¬ (m : Int) < 4 := by omega
      have s2 : ¬ (16 : Int) < (m : Int) := by omega
      have r3 : (m : Int).tmod 2 = 0 := tmod_nat m 2 0 (by omega)
      have r4 : (m : Int) % 2 = 0 := by omega
      by_cases ha : 70000 < aad.size
      · rw [ccE_aad hk hv hs ha]
        have a1 : (70000 : Int) < (aad.size : Int) := by omega
        clear hk hv v7 v13 hs ha
        go_enter Try.func18, Try.ntmps18
        go_wp2_with fail
        go_ret
        exact ⟨rfl, rfl⟩
      · rw [ccE_fits hk hv hs ha]
        have a1 : ¬ (70000 : Int) < (aad.size : Int) := by omega
        obtain ⟨b, hb⟩ : ∃ b, ccFits nonce.size n = b := ⟨_, rfl⟩
        have HB := Lib.hid hb
        rw [hb]
        clear hk hv hs ha hb
        cases b
        · show Calls _ _ _ _ (RetI64 6 w)
          go_enter Try.func18, Try.ntmps18
          go_wp2_with fail
          refine (fits_any nonce.size n v7 v13 _).mono ?_
          rintro e w1 ⟨rfl, rfl⟩
          rw [HB.out]
          go_wp2_with fail
          go_ret
          exact ⟨rfl, rfl⟩
        · show Calls _ _ _ _ (RetI64 0 w)
          go_enter Try.func18, Try.ntmps18
          go_wp2_with fail
          refine (fits_any nonce.size n v7 v13 _).mono ?_
          rintro e w1 ⟨rfl, rfl⟩
          rw [HB.out]
          go_wp2_with fail
          go_ret
          exact ⟨rfl, rfl⟩
set_option maxRecDepth 100000 in
set_option maxHeartbeats 1600000 in
theorem ccmay_any (key nonce aad : ByteArray) (s n : Int) (w : World) : Calls Try.prog 18 #[.string key, .string nonce, .string aad, .int .i64 s, .int .i64 n] w (RetI64 (ccE key.size nonce.size aad.size s n) w) := by
  rcases key_cases key with (h | h | h) | ⟨h1, h2, h3⟩
  · exact may_16 key nonce aad s n w h
  · exact may_24 key nonce aad s n w h
  · exact may_32 key nonce aad s n w h
  · rw [ccE_key h1 h2 h3]
    have e1 : ((key.size : Int) != 16) = true := by rw [bne_iff_ne]; omega
    have e2 : ((key.size : Int) != 24) = true := by rw [bne_iff_ne]; omega
    have e3 : ((key.size : Int) != 32) = true := by rw [bne_iff_ne]; omega
    clear h1 h2 h3
    go_enter Try.func18, Try.ntmps18
    go_wp2_with fail
    go_ret
    exact ⟨rfl, rfl⟩
set_option maxRecDepth 100000 in
set_option maxHeartbeats 1600000 in
theorem wrong10_any (key nonce aad : ByteArray) (s n : Int) (w : World) : Calls Try.prog 21 #[.string key, .string nonce, .string aad, .int .i64 n, .int .i64 s] w (RetI64 (ccE key.size nonce.size aad.size s n) w) := by
  rcases key_cases key with hk | ⟨h1, h2, h3⟩
  · by_cases hv : nonce.size < 7 ∨ 13 < nonce.size
    · rw [ccE_iv hk hv]
      by_cases hv1 : nonce.size < 7
      · have i1 : (nonce.size : Int) < 7 := by omega
        clear hv hv1
        go_enter Try.func21, Try.ntmps21
        go_wp2_with fail
        refine (right_yes key _ hk).mono ?_
        rintro e w0 ⟨rfl, rfl⟩
        go_wp2_with fail
        go_ret
        exact ⟨rfl, rfl⟩
      · have i1 : ¬ (nonce.size : Int) < 7 := by omega
        have i2 : (13 : Int) < (nonce.size : Int) := by omega
        clear hv hv1
        go_enter Try.func21, Try.ntmps21
        go_wp2_with fail
        refine (right_yes key _ hk).mono ?_
        rintro e w0 ⟨rfl, rfl⟩
        go_wp2_with fail
        go_ret
        exact ⟨rfl, rfl⟩
    · have i1 : ¬ (nonce.size : Int) < 7 := by omega
      have i2 : ¬ (13 : Int) < (nonce.size : Int) := by omega
      by_cases hs : s < 4 ∨ 16 < s ∨ s % 2 ≠ 0
      · rw [ccE_tag hk hv hs]
        clear hv
        by_cases hs1 : s < 4
        · clear hs
          go_enter Try.func21, Try.ntmps21
          go_wp2_with fail
          refine (right_yes key _ hk).mono ?_
          rintro e w0 ⟨rfl, rfl⟩
          go_wp2_with fail
          go_ret
          exact ⟨rfl, rfl⟩
        · by_cases hs2 : 16 < s
          · clear hs
            go_enter Try.func21, Try.ntmps21
            go_wp2_with fail
            refine (right_yes key _ hk).mono ?_
            rintro e w0 ⟨rfl, rfl⟩
            go_wp2_with fail
            go_ret
            exact ⟨rfl, rfl⟩
          · obtain ⟨m, rfl⟩ := Int.eq_ofNat_of_zero_le (a := s) (by omega)
            have r3 : (m : Int).tmod 2 = 1 := tmod_nat m 2 1 (by omega)
            have r4 : (m : Int) % 2 = 1 := by omega
            clear hs
            go_enter Try.func21, Try.ntmps21
            go_wp2_with fail
            refine (right_yes key _ hk).mono ?_
            rintro e w0 ⟨rfl, rfl⟩
            go_wp2_with fail
            go_ret
            exact ⟨rfl, rfl⟩
      · obtain ⟨m, rfl⟩ := Int.eq_ofNat_of_zero_le (a := s) (by omega)
        have s1 : ¬ (m : Int) < 4 := by omega
        have s2 : ¬ (16 : Int) < (m : Int) := by omega
        have r3 : (m : Int).tmod 2 = 0 := tmod_nat m 2 0 (by omega)
        have r4 : (m : Int) % 2 = 0 := by omega
        by_cases ha : 70000 < aad.size
        · rw [ccE_aad hk hv hs ha]
          have a1 : (70000 : Int) < (aad.size : Int) := by omega
          clear hv hs ha
          go_enter Try.func21, Try.ntmps21
          go_wp2_with fail
          refine (right_yes key _ hk).mono ?_
          rintro e w0 ⟨rfl, rfl⟩
          go_wp2_with fail
          go_ret
          exact ⟨rfl, rfl⟩
        · rw [ccE_fits hk hv hs ha]
          have a1 : ¬ (70000 : Int) < (aad.size : Int) := by omega
          by_cases h13 : nonce.size = 13
          · have e13 : ((nonce.size : Int) == 13) = true := by rw [beq_iff_eq]; omega
            by_cases n0 : n < 0
            · have : ccFits nonce.size n = false := by rw [ccFits, decide_eq_false_iff_not]; omega
              rw [this]
              clear this hv hs ha h13
              go_enter Try.func21, Try.ntmps21
              go_wp2_with fail
              refine (right_yes key _ hk).mono ?_
              rintro e w0 ⟨rfl, rfl⟩
              go_wp2_with fail
              go_ret
              exact ⟨rfl, rfl⟩
            · by_cases n1 : 70000 < n
              · have : ccFits nonce.size n = false := by rw [ccFits, decide_eq_false_iff_not]; omega
                rw [this]
                clear this hv hs ha h13
                go_enter Try.func21, Try.ntmps21
                go_wp2_with fail
                refine (right_yes key _ hk).mono ?_
                rintro e w0 ⟨rfl, rfl⟩
                go_wp2_with fail
                go_ret
                exact ⟨rfl, rfl⟩
              · by_cases n2 : 65536 ≤ n
                · have : ccFits nonce.size n = false := by rw [ccFits, decide_eq_false_iff_not]; omega
                  rw [this]
                  clear this hv hs ha h13
                  go_enter Try.func21, Try.ntmps21
                  go_wp2_with fail
                  refine (right_yes key _ hk).mono ?_
                  rintro e w0 ⟨rfl, rfl⟩
                  go_wp2_with fail
                  go_ret
                  exact ⟨rfl, rfl⟩
                · have : ccFits nonce.size n = true := by rw [ccFits, decide_eq_true_iff]; omega
                  rw [this]
                  clear this hv hs ha h13
                  go_enter Try.func21, Try.ntmps21
                  go_wp2_with fail
                  refine (right_yes key _ hk).mono ?_
                  rintro e w0 ⟨rfl, rfl⟩
                  go_wp2_with fail
                  go_ret
                  exact ⟨rfl, rfl⟩
          · have e13 : ((nonce.size : Int) == 13) = false := by rw [beq_eq_false_iff_ne]; omega
            by_cases n0 : n < 0
            · have : ccFits nonce.size n = false := by rw [ccFits, decide_eq_false_iff_not]; omega
              rw [this]
              clear this hv hs ha h13
              go_enter Try.func21, Try.ntmps21
              go_wp2_with fail
              refine (right_yes key _ hk).mono ?_
              rintro e w0 ⟨rfl, rfl⟩
              go_wp2_with fail
              go_ret
              exact ⟨rfl, rfl⟩
            · by_cases n1 : 70000 < n
              · have : ccFits nonce.size n = false := by rw [ccFits, decide_eq_false_iff_not]; omega
                rw [this]
                clear this hv hs ha h13
                go_enter Try.func21, Try.ntmps21
                go_wp2_with fail
                refine (right_yes key _ hk).mono ?_
                rintro e w0 ⟨rfl, rfl⟩
                go_wp2_with fail
                go_ret
                exact ⟨rfl, rfl⟩
              · have : ccFits nonce.size n = true := by rw [ccFits, decide_eq_true_iff]; omega
                rw [this]
                clear this hv hs ha h13
                by_cases n2 : 65536 ≤ n
                · go_enter Try.func21, Try.ntmps21
                  go_wp2_with fail
                  refine (right_yes key _ hk).mono ?_
                  rintro e w0 ⟨rfl, rfl⟩
                  go_wp2_with fail
                  go_ret
                  exact ⟨rfl, rfl⟩
                · go_enter Try.func21, Try.ntmps21
                  go_wp2_with fail
                  refine (right_yes key _ hk).mono ?_
                  rintro e w0 ⟨rfl, rfl⟩
                  go_wp2_with fail
                  go_ret
                  exact ⟨rfl, rfl⟩
  · rw [ccE_key h1 h2 h3]
    go_enter Try.func21, Try.ntmps21
    go_wp2_with fail
    refine (right_no key _ h1 h2 h3).mono ?_
    rintro e w0 ⟨rfl, rfl⟩
    go_wp2_with fail
    go_ret
    exact ⟨rfl, rfl⟩
end Go.Proofs.Ythaajaajhddhdaa
namespace Go.Proofs.Ythaajaajhddhdaa
open Go.RowKit
set_option linter.unusedVariables false
set_option linter.unusedSimpArgs false
theorem u64_in6 (t : Nat) (h : t < 1000000) : IntKind.u64.wrap (t : Int) = (t : Int) := by simp [IntKind.wrap, IntKind.bits, IntKind.signed]; omega
theorem u8_in (t : Nat) (h : t < 256) : IntKind.u8.wrap (t : Int) = (t : Int) := by simp [IntKind.wrap, IntKind.bits, IntKind.signed]; omega
/-- a byte as a text -/
theorem cv_byte (f : Nat) (hf : f < 256) (c : ByteArray) (hc : c = ⟨[UInt8.ofNat f].toArray⟩) : ∀ w' : World, (convert 33 9 (.slice (some ⟨w'.heap.size, 0, none⟩) 1 1)).run Try.prog (w'.alloc (Obj.cells #[.int .u8 (f : Int)] 5)) = .ok (.string c) (w'.alloc (Obj.cells #[.int .u8 (f : Int)] 5)) := fun w' => by
  have e9 : (f : Int) = ((UInt8.ofNat f).toNat : Int) := by simp; omega
  have hcv := convert_at (P := Try.prog) (cap := 1) (l := [UInt8.ofNat f]) (At.ofAlloc w' #[.int .u8 ((UInt8.ofNat f).toNat : Int)] 5) 33 9 5 1 rfl Try.underlying33 Try.underlying5 Try.underlying9
  rw [← hc, ← e9] at hcv
  exact hcv
theorem put_fit (n q : Nat) (h2 : 2 ≤ q) (h8 : q ≤ 8) (h : n < 65536 ∨ (3 ≤ q ∧ n < 1000000)) : putL n (q : Int) = be q n ∧ putE n (q : Int) = 0 := by
  have hp : n < 256 ^ q := by
    rcases h with h | ⟨h3, h⟩
    · exact Nat.lt_of_lt_of_le h (Nat.pow_le_pow_right (by decide) h2 : 256 ^ 2 ≤ 256 ^ q)
    · exact Nat.lt_of_lt_of_le (by omega) (Nat.pow_le_pow_right (by decide) h3 : 256 ^ 3 ≤ 256 ^ q)
  have : putOk n (q : Int) = true := by
    rw [putOk, decide_eq_true_iff]
    exact ⟨by omega, by omega, by rw [Int.toNat_natCast]; exact hp⟩
  rw [putL, putE, this, Int.toNat_natCast]
  exact ⟨rfl, rfl⟩
set_option maxRecDepth 100000 in
set_option maxHeartbeats 1600000 in
theorem filled_any (s : ByteArray) (w : World) (hs : s.size ≤ 1000000) : Calls Try.prog 33 #[.string s] w (RetS (filM s.toList) w) := by
  obtain ⟨r, hr⟩ : ∃ r, s.size % 16 = r := ⟨_, rfl⟩
  obtain ⟨d, hd⟩ : ∃ d, d = 16 - r := ⟨_, rfl⟩
  obtain ⟨p, hp⟩ : ∃ p, p = d % 16 := ⟨_, rfl⟩
  have e1 : (s.size : Int).tmod 16 = (r : Int) := tmod_nat s.size 16 r hr.symm
  have e2 : IntKind.i64.wrap (r : Int) = (r : Int) := wrap_in _ (by omega) (by omega)
  have e3 : 16 - (r : Int) = (d : Int) := by omega
  have e4 : IntKind.i64.wrap (d : Int) = (d : Int) := wrap_in _ (by omega) (by omega)
  have e5 : (d : Int).tmod 16 = (p : Int) := tmod_nat d 16 p hp
  have e6 : IntKind.i64.wrap (p : Int) = (p : Int) := wrap_in _ (by omega) (by omega)
  have hpl : p ≤ 15 := by omega
  have HP : Hid ((16 - s.toList.length % 16) % 16 = p) := by show _ = _; rw [tl_size]; omega
  clear hr hd hp
  go_enter Try.func33, Try.ntmps33
  go_wp2_with fail
  refine (rep_any (ByteArray.mk #[0]) 0 p _ nought_tl (by omega)).mono ?_
  rintro e w1 ⟨z, rfl, hz, hb1⟩
  have hzs : z.size = p := by rw [← tl_size, hz]; simp
  have hov : ¬ 9223372036854775807 < s.size + z.size := by omega
  have HZ : Hid (z.toList = zer p) := hz
  clear hz hzs
  go_wp2_with fail
  go_ret
  exact ⟨_, rfl, by rw [tl_append, HZ.out, filM, HP.out], hb1⟩
set_option maxRecDepth 100000 in
set_option maxHeartbeats 1600000 in
theorem ccfirst_any (nonce aad text : ByteArray) (s : Nat) (w : World) (h7 : 7 ≤ nonce.size) (h13 : nonce.size ≤ 13) (s4 : 4 ≤ s) (s16 : s ≤ 16) (ht : text.size ≤ 70000) (htv : nonce.size = 13 → text.size < 65536) (ha : aad.size ≤ 70000) :
    Calls Try.prog 30 #[.string nonce, .string aad, .string text, .int .i64 (s : Int)] w (RetS (ccFirst nonce.toList aad.toList text.size s) w) := by
  obtain ⟨q, hq⟩ : ∃ q, q = 15 - nonce.size := ⟨_, rfl⟩
  have a1 : 15 - (nonce.size : Int) = (q : Int) := by omega
  have a2 : IntKind.i64.wrap (q : Int) = (q : Int) := wrap_in _ (by omega) (by omega)
  obtain ⟨s2, hs2⟩ : ∃ s2, s2 = s - 2 := ⟨_, rfl⟩
  have b1 : (s : Int) - 2 = (s2 : Int) := by omega
  have b2 : IntKind.i64.wrap (s2 : Int) = (s2 : Int) := wrap_in _ (by omega) (by omega)
  obtain ⟨h, hh⟩ : ∃ h, h = s2 / 2 := ⟨_, rfl⟩
  have b3 : (s2 : Int) / 2 = (h : Int) := by omega
  have b4 : IntKind.i64.wrap (h : Int) = (h : Int) := wrap_in _ (by omega) (by omega)
  obtain ⟨h8, hh8⟩ : ∃ h8, h8 = 8 * h := ⟨_, rfl⟩
  have b5 : 8 * (h : Int) = (h8 : Int) := by omega
  have b6 : IntKind.i64.wrap (h8 : Int) = (h8 : Int) := wrap_in _ (by omega) (by omega)
  obtain ⟨hq8, hhq8⟩ : ∃ hq8, hq8 = h8 + q := ⟨_, rfl⟩
  have b7 : (h8 : Int) + (q : Int) = (hq8 : Int) := by omega
  have b8 : IntKind.i64.wrap (hq8 : Int) = (hq8 : Int) := wrap_in _ (by omega) (by omega)
  obtain ⟨f, hf⟩ : ∃ f, f = hq8 - 1 := ⟨_, rfl⟩
  have b9 : (hq8 : Int) - 1 = (f : Int) := by omega
  have b10 : IntKind.i64.wrap (f : Int) = (f : Int) := wrap_in _ (by omega) (by omega)
  have b11 : IntKind.u8.wrap (f : Int) = (f : Int) := u8_in f (by omega)
  have c1 := u64_in6 text.size (by omega)
  have hpf := put_fit text.size q (by omega) (by omega) (by omega)
  have HPF := Lib.hid hpf
  have hn64 : text.size < 2 ^ 64 := by omega
  by_cases h0 : aad.size = 0
  · have i1 : ¬ (0 : Int) < (aad.size : Int) := by omega
    have hfl : ccFlag nonce.size aad.size s = f := by rw [ccFlag, if_pos h0]; omega
    obtain ⟨c, hc⟩ : ∃ c : ByteArray, c = ⟨[UInt8.ofNat f].toArray⟩ := ⟨_, rfl⟩
    have hcv := cv_byte f (by omega) c hc
    have hcs : c.size = 1 := by rw [hc]; rfl
    have hcl : c.toList = [UInt8.ofNat f] := by rw [hc, tl_mk]
    have hov1 : ¬ 9223372036854775807 < c.size + nonce.size := by omega
    have hfin : ∀ x : ByteArray, x.toList = be q text.size → (c ++ nonce ++ x).toList = ccFirst nonce.toList aad.toList text.size s := fun x hx => by
      rw [tl_append, tl_append, hx, hcl, ccFirst, tl_size, tl_size, hfl, ← hq]
      rfl
    have HFIN := Lib.hid hfin
    have HCS := Lib.hid hcs
    have HQ := Lib.hid hq
    clear hq hs2 hh hh8 hhq8 hf hpf h0 hfl hc hcs hcl hfin
    go_enter Try.func30, Try.ntmps30
    go_wp2_with fail
    refine (put_any text.size (q : Int) _ hn64).mono ?_
    rintro e w1 ⟨x, rfl, hx, hb1⟩
    rw [HPF.out.1] at hx
    rw [HPF.out.2]
    have hxs : x.size = q := by rw [← tl_size, hx, be_length]
    have hov2 : ¬ 9223372036854775807 < c.size + nonce.size + x.size := by have := HCS.out; have := HQ.out; omega
    have HX := Lib.hid hx
    clear hx hxs
    go_wp2_with fail
    go_ret
    exact ⟨_, rfl, HFIN.out x HX.out, hb1.alloc hb1.size _⟩
  · have i1 : (0 : Int) < (aad.size : Int) := by omega
    obtain ⟨f2, hf2⟩ : ∃ f2, f2 = f + 64 := ⟨_, rfl⟩
    have d1 : (f : Int) + 64 = (f2 : Int) := by omega
    have d2 : IntKind.u8.wrap (f2 : Int) = (f2 : Int) := u8_in f2 (by omega)
    have hfl : ccFlag nonce.size aad.size s = f2 := by rw [ccFlag, if_neg h0]; omega
    obtain ⟨c, hc⟩ : ∃ c : ByteArray, c = ⟨[UInt8.ofNat f2].toArray⟩ := ⟨_, rfl⟩
    have hcv := cv_byte f2 (by omega) c hc
    have hcs : c.size = 1 := by rw [hc]; rfl
    have hcl : c.toList = [UInt8.ofNat f2] := by rw [hc, tl_mk]
    have hov1 : ¬ 9223372036854775807 < c.size + nonce.size := by omega
    have hfin : ∀ x : ByteArray, x.toList = be q text.size → (c ++ nonce ++ x).toList = ccFirst nonce.toList aad.toList text.size s := fun x hx => by
      rw [tl_append, tl_append, hx, hcl, ccFirst, tl_size, tl_size, hfl, ← hq]
      rfl
    have HFIN := Lib.hid hfin
    have HCS := Lib.hid hcs
    have HQ := Lib.hid hq
    clear hq hs2 hh hh8 hhq8 hf hpf h0 hfl hc hcs hcl hfin hf2
    go_enter Try.func30, Try.ntmps30
    go_wp2_with fail
    refine (put_any text.size (q : Int) _ hn64).mono ?_
    rintro e w1 ⟨x, rfl, hx, hb1⟩
    rw [HPF.out.1] at hx
    rw [HPF.out.2]
    have hxs : x.size = q := by rw [← tl_size, hx, be_length]
    have hov2 : ¬ 9223372036854775807 < c.size + nonce.size + x.size := by have := HCS.out; have := HQ.out; omega
    have HX := Lib.hid hx
    clear hx hxs
    go_wp2_with fail
    go_ret
    exact ⟨_, rfl, HFIN.out x HX.out, hb1.alloc hb1.size _⟩
set_option maxRecDepth 100000 in
set_option maxHeartbeats 1600000 in
theorem beside_any (aad : ByteArray) (w : World) (ha : aad.size ≤ 70000) : Calls Try.prog 31 #[.string aad] w (RetS (ccBes aad.toList) w) := by
  by_cases h0 : aad.size = 0
  · have e1 : ((aad.size : Int) == 0) = true := by rw [beq_iff_eq]; omega
    have hfin : ccBes aad.toList = [] := by rw [ccBes, tl_size, if_pos h0]
    rw [hfin]
    clear h0 hfin
    go_enter Try.func31, Try.ntmps31
    go_wp2_with fail
    go_ret
    exact ⟨_, rfl, tl_mk [], Below.refl _ _⟩
  · have e1 : ((aad.size : Int) == 0) = false := by rw [beq_eq_false_iff_ne]; omega
    have c1 := u64_in6 aad.size (by omega)
    have hn64 : aad.size < 2 ^ 64 := by omega
    by_cases h1 : aad.size < 65280
    · have i1 : (aad.size : Int) < 65280 := by omega
      have hpf := put_fit aad.size 2 (by omega) (by omega) (by omega)
      have HPF := Lib.hid hpf
      have HFIN : Hid (ccBes aad.toList = filM (be 2 aad.size ++ aad.toList)) := by show _ = _; rw [ccBes, tl_size, if_neg h0, if_pos h1]
      clear h0 h1 hpf
      go_enter Try.func31, Try.ntmps31
      go_wp2_with fail
      refine (put_any aad.size ((2 : Nat) : Int) _ hn64).mono ?_
      rintro e w1 ⟨x, rfl, hx, hb1⟩
      rw [HPF.out.1] at hx
      rw [HPF.out.2]
      have hxs : x.size = 2 := by rw [← tl_size, hx, be_length]
      have hov1 : ¬ 9223372036854775807 < x.size + aad.size := by omega
      have hz : (x ++ aad).size ≤ 1000000 := by rw [ByteArray.size_append]; omega
      have HX := Lib.hid hx
      have HZ := Lib.hid hz
      clear hx hxs hz
      go_wp2_with fail
      refine (filled_any (x ++ aad) _ HZ.out).mono ?_
      rintro e w2 ⟨y, rfl, hy, hb2⟩
      go_wp2_with fail
      go_ret
      exact ⟨_, rfl, by rw [hy, tl_append, HX.out, HFIN.out], below2 hb1 hb2⟩
    · have i1 : ¬ (aad.size : Int) < 65280 := by omega
      have hpf := put_fit aad.size 4 (by omega) (by omega) (by omega)
      have HPF := Lib.hid hpf
      have HFIN : Hid (ccBes aad.toList = filM (([255, 254] ++ be 4 aad.size) ++ aad.toList)) := by show _ = _; rw [ccBes, tl_size, if_neg h0, if_neg h1]
      clear h0 h1 hpf
      go_enter Try.func31, Try.ntmps31
      go_wp2_with fail
      refine (put_any aad.size ((4 : Nat) : Int) _ hn64).mono ?_
      rintro e w1 ⟨x, rfl, hx, hb1⟩
      rw [HPF.out.1] at hx
      rw [HPF.out.2]
      have hxs : x.size = 4 := by rw [← tl_size, hx, be_length]
      have hov1 : ¬ 9223372036854775807 < 2 + x.size := by omega
      have hov2 : ¬ 9223372036854775807 < 2 + x.size + aad.size := by omega
      have hz : (ByteArray.mk #[255, 254] ++ x ++ aad).size ≤ 1000000 := by rw [ByteArray.size_append, ByteArray.size_append]; show 2 + _ + _ ≤ _; omega
      have HX := Lib.hid hx
      have HZ := Lib.hid hz
      clear hx hxs hz
      go_wp2_with fail
      refine (filled_any (ByteArray.mk #[255, 254] ++ x ++ aad) _ HZ.out).mono ?_
      rintro e w2 ⟨y, rfl, hy, hb2⟩
      go_wp2_with fail
      go_ret
      exact ⟨_, rfl, by rw [hy, tl_append, tl_append, HX.out, HFIN.out, show (ByteArray.mk #[255, 254]).toList = [255, 254] from tl_mk _], below2 hb1 hb2⟩
set_option maxRecDepth 100000 in
set_option maxHeartbeats 1600000 in
theorem joined_any (key nonce text : ByteArray) (i : Nat) (w : World) (hk : key.size = 16 ∨ key.size = 24 ∨ key.size = 32) (h7 : 7 ≤ nonce.size) (h13 : nonce.size ≤ 13) (ht : text.size ≤ 70000) (hi : i ≤ 1) :
    Calls Try.prog 19 #[.string key, .string nonce, .int .u64 (i : Int), .string text] w (RetS (ccJoin key.toList nonce.toList text.toList i) w) := by
  obtain ⟨q, hq⟩ : ∃ q, q = 15 - nonce.size := ⟨_, rfl⟩
  have a1 : 15 - (nonce.size : Int) = (q : Int) := by omega
  have a2 : IntKind.i64.wrap (q : Int) = (q : Int) := wrap_in _ (by omega) (by omega)
  obtain ⟨f, hf⟩ : ∃ f, f = q - 1 := ⟨_, rfl⟩
  have b9 : (q : Int) - 1 = (f : Int) := by omega
  have b10 : IntKind.i64.wrap (f : Int) = (f : Int) := wrap_in _ (by omega) (by omega)
  have b11 : IntKind.u8.wrap (f : Int) = (f : Int) := u8_in f (by omega)
  have hpf := put_fit i q (by omega) (by omega) (by omega)
  have HPF := Lib.hid hpf
  have hn64 : i < 2 ^ 64 := by omega
  obtain ⟨c, hc⟩ : ∃ c : ByteArray, c = ⟨[UInt8.ofNat f].toArray⟩ := ⟨_, rfl⟩
  have hcv := cv_byte f (by omega) c hc
  have hcs : c.size = 1 := by rw [hc]; rfl
  have hcl : c.toList = [UInt8.ofNat f] := by rw [hc, tl_mk]
  have hov1 : ¬ 9223372036854775807 < c.size + nonce.size := by omega
  have hfin : ∀ x : ByteArray, x.toList = be q i → (c ++ nonce ++ x).toList = ccCnt nonce.toList i := fun x hx => by
    rw [tl_append, tl_append, hx, hcl, ccCnt, tl_size, ← hq, show 14 - nonce.size = f by omega]
    rfl
  have HFIN := Lib.hid hfin
  have HCS := Lib.hid hcs
  have HQ := Lib.hid hq
  clear hq hf hpf hc hcs hcl hfin
  go_enter Try.func19, Try.ntmps19
  go_wp2_with fail
  refine (put_any i (q : Int) _ hn64).mono ?_
  rintro e w1 ⟨x, rfl, hx, hb1⟩
  rw [HPF.out.1] at hx
  rw [HPF.out.2]
  have hxs : x.size = q := by rw [← tl_size, hx, be_length]
  have hov2 : ¬ 9223372036854775807 < c.size + nonce.size + x.size := by have := HCS.out; have := HQ.out; omega
  have hS : (c ++ nonce ++ x).toList = ccCnt nonce.toList i := HFIN.out x hx
  have hSs : (c ++ nonce ++ x).size = 16 := by rw [← tl_size, hS, ccCnt_length _ _ (by rw [tl_size]; exact h13)]
  have HS := Lib.hid hS
  have HSS := Lib.hid hSs
  clear hx hxs hS hSs
  go_wp2_with fail
  have hE : ctrE key.size (c ++ nonce ++ x).size (q : Int) text.size = 0 := by
    have hm : mayE (c ++ nonce ++ x).size (q : Int) = 0 := by rw [mayE, if_pos HSS.out, if_neg (by have := HQ.out; omega)]
    rw [ctrE, if_pos (keyOk_yes hk), if_pos hm, if_neg (by omega)]
  refine (cxor_any key (c ++ nonce ++ x) text (q : Int) _).mono ?_
  rintro e w2 ⟨t, rfl, ht2, hb2⟩
  rw [hE]
  have hfi : t.toList = ccJoin key.toList nonce.toList text.toList i := by
    rw [ht2, ctrR, tl_size, tl_size, tl_size, hE, if_pos rfl, HS.out, ccJoin, Int.toNat_natCast, tl_size, HQ.out]
  have HF := Lib.hid hfi
  have hb12 := (hb1.alloc hb1.size (Obj.cells #[.int .u8 (f : Int)] 5)).trans (hb2.mono (by simp; have := hb1.size; omega))
  clear hE ht2 hfi hb2
  go_wp2_with fail
  go_ret
  exact ⟨_, rfl, HF.out, hb12⟩
end Go.Proofs.Ythaajaajhddhdaa
namespace Go.Proofs.Ythaajaajhddhdaa
open Go.RowKit
set_option linter.unusedVariables false
set_option linter.unusedSimpArgs false
theorem chS_last (K V T : List UInt8) (n : Nat) (h : 1 ≤ n) : (chS K V T n).drop (16 * n - 16) = chA K V T n := by
  obtain ⟨m, rfl⟩ : ∃ m, n = m + 1 := ⟨n - 1, by omega⟩
  have : (chS K V T m).length = 16 * (m + 1) - 16 := by rw [chS_length]; omega
  rw [chS, ← this, List.drop_left]
theorem cc_nil (T : List UInt8) (h : T.length = 0) : filM T = [] := by
  rw [List.eq_nil_of_length_eq_zero h]
  rfl
set_option maxRecDepth 100000 in
set_option maxHeartbeats 1600000 in
theorem cctag_any (key nonce aad text : ByteArray) (s : Nat) (w : World) (hk : key.size = 16 ∨ key.size = 24 ∨ key.size = 32) (h7 : 7 ≤ nonce.size) (h13 : nonce.size ≤ 13) (s4 : 4 ≤ s) (s16 : s ≤ 16) (ht : text.size ≤ 70000) (htv : nonce.size = 13 → text.size < 65536) (ha : aad.size ≤ 70000) :
    Calls Try.prog 20 #[.string key, .string nonce, .string aad, .string text, .int .i64 (s : Int)] w (RetS (ccTag key.toList nonce.toList aad.toList text.toList s) w) := by
  have hV : nonce.toList.length ≤ 13 := by rw [tl_size]; exact h13
  have hsp := ccX_split key.toList nonce.toList aad.toList text.toList s hV
  have hjt := fun X hX => ccJoin_tag key.toList nonce.toList X s hV hX s16 (by omega)
  have hmc := ccMac key.toList nonce.toList aad.toList text.size s hV
  have hhs : (ccHead nonce.toList aad.toList text.size s).length ≤ aad.size + 38 := by
    have h1 := ccFirst_length nonce.toList aad.toList text.size s hV
    have h2 := ccBes_size aad.toList
    rw [tl_size] at h2
    rw [ccHead, List.length_append, h1]
    omega
  have HSP := Lib.hid hsp
  have HJT := Lib.hid hjt
  have HMC := Lib.hid hmc
  have HHS := Lib.hid hhs
  have HTV := Lib.hid htv
  have k1 : (0 : Int) ≤ (s : Int) := by omega
  clear hsp hjt hmc hhs htv hV
  go_enter Try.func20, Try.ntmps20
  go_wp2_with fail
  refine (ccfirst_any nonce aad text s _ h7 h13 s4 s16 ht HTV.out ha).mono ?_
  rintro e w1 ⟨fi, rfl, hfi, hb1⟩
  have HFI := Lib.hid hfi
  clear hfi
  go_wp2_with fail
  refine (beside_any aad _ ha).mono ?_
  rintro e w2 ⟨be_, rfl, hbe, hb2⟩
  have hb12 := below2 hb1 hb2
  obtain ⟨hd, hhd⟩ : ∃ hd, fi ++ be_ = hd := ⟨_, rfl⟩
  have hhl : hd.toList = ccHead nonce.toList aad.toList text.size s := by rw [← hhd, tl_append, HFI.out, hbe]; rfl
  have hhz : hd.size ≤ 70100 := by rw [← tl_size, hhl]; have := HHS.out; omega
  have hsz : fi.size + be_.size = hd.size := by rw [← hhd, ByteArray.size_append]
  have hov : ¬ 9223372036854775807 < fi.size + be_.size := by omega
  have HHL := Lib.hid hhl
  clear hbe hb1 hb2 hhl hsz
  go_wp2_with fail
  refine (cMac_any key hd _).mono ?_
  rintro e w3 ⟨la, rfl, hla, hb3⟩
  have hE : macE key.size hd.size = 0 := by rw [macE_yes hk, if_pos (by omega)]
  rw [hE]
  have hll : la.toList = chA key.toList (zer 16) (ccHead nonce.toList aad.toList text.size s) ((ccHead nonce.toList aad.toList text.size s).length / 16) := by
    rw [hla, macR, tl_size, tl_size, hE, if_pos rfl, HHL.out, HMC.out]
  have hls : la.size = 16 := by rw [← tl_size, hll, chA_length _ _ _ (zer_length 16)]
  have hb13 := below2 hb12 hb3
  have HLL := Lib.hid hll
  clear hla hE hll hb12 hb3 hhd hov
  by_cases h0 : text.size = 0
  · have i1 : ¬ (0 : Int) < (text.size : Int) := by omega
    have hX : la.toList = ccX key.toList nonce.toList aad.toList text.toList s := by
      rw [HSP.out, cc_nil text.toList (by rw [tl_size]; exact h0), tl_size, HLL.out]
      rfl
    have k2 : (s : Int) ≤ (la.size : Int) := by omega
    have k3 : s ≤ la.size := by omega
    obtain ⟨pc, hpc⟩ : ∃ pc, la.extract 0 s = pc := ⟨_, rfl⟩
    have hpl : pc.toList = (ccX key.toList nonce.toList aad.toList text.toList s).take s := by rw [← hpc, tl_ext0, hX]
    have hps : pc.size ≤ 70000 := by rw [← tl_size, hpl, List.length_take]; omega
    have HPL := Lib.hid hpl
    clear hX hpl h0
    go_wp2_with fail
    refine (joined_any key nonce pc 0 _ hk h7 h13 hps (by decide)).mono ?_
    rintro e w4 ⟨t, rfl, htt, hb4⟩
    go_wp2_with fail
    go_ret
    exact ⟨t, rfl, by rw [htt, HPL.out, HJT.out _ (ccX_length _ _ _ _ _), ccTag], below2 hb13 hb4⟩
  · have i1 : (0 : Int) < (text.size : Int) := by omega
    obtain ⟨n, hn⟩ : ∃ n, (filM text.toList).length / 16 = n := ⟨_, rfl⟩
    have hfm := filM_mod text.toList
    have hfs := filM_size text.toList
    have hfg : text.size ≤ (filM text.toList).length := by rw [filM, List.length_append, tl_size]; omega
    rw [tl_size] at hfs
    have hn1 : 1 ≤ n := by omega
    have hF16 : (filM text.toList).length = 16 * n := by omega
    have hFz : (filM text.toList).length ≤ 70016 := by omega
    have HN := Lib.hid hn
    have HF16 := Lib.hid hF16
    have HFZ := Lib.hid hFz
    have HLS := Lib.hid hls
    clear hn hfm hfs hfg hF16 hFz h0
    go_wp2_with fail
    refine (filled_any text _ (by omega)).mono ?_
    rintro e w4 ⟨fl, rfl, hfl, hb4⟩
    have hfls : fl.size = 16 * n := by rw [← tl_size, hfl, HF16.out]
    have hb14 := below2 hb13 hb4
    have HFL := Lib.hid hfl
    have HFLS := Lib.hid hfls
    clear hfl hfls hb13 hb4
    go_wp2_with fail
    refine (cChain_any key la fl _).mono ?_
    rintro e w5 ⟨ch, rfl, hch, hb5⟩
    have hfit : cfit fl.size = true := by rw [cfit, decide_eq_true_iff, HFLS.out]; have := HFZ.out; rw [HF16.out] at this; omega
    have hE : cbgE key.size la.size (cfit fl.size) = 0 := by rw [hfit, cbgE, if_pos (keyOk_yes hk), if_pos HLS.out]; rfl
    rw [hE]
    have hchl : ch.toList = chS key.toList la.toList (filM text.toList) n := by
      rw [hch, chaL, tl_size, tl_size, tl_size, hE, if_pos rfl, HFLS.out, HFL.out, Nat.mul_div_cancel_left n (by decide : 0 < 16)]
    have hchs : ch.size = 16 * n := by rw [← tl_size, hchl, chS_length]
    have hb15 := below2 hb14 hb5
    obtain ⟨S, hS⟩ : ∃ S, S = 16 * n := ⟨_, rfl⟩
    obtain ⟨o, ho⟩ : ∃ o, o = S - 16 := ⟨_, rfl⟩
    have hcS : ch.size = S := by omega
    have j1 : (S : Int) - 16 = (o : Int) := by omega
    have j2 : IntKind.i64.wrap (o : Int) = (o : Int) := wrap_in _ (by omega) (by have := HFZ.out; have := HF16.out; omega)
    have j3 : (0 : Int) ≤ (o : Int) := by omega
    have j4 : (o : Int) ≤ (S : Int) := by omega
    have j5 : o ≤ S := by omega
    obtain ⟨l2, hl2⟩ : ∃ l2, ch.extract o S = l2 := ⟨_, rfl⟩
    have hX : l2.toList = ccX key.toList nonce.toList aad.toList text.toList s := by
      rw [← hl2, tl_extE _ _ _ hcS.symm, hchl, ho, hS, chS_last _ _ _ _ hn1, HSP.out, tl_size, HN.out, ← HLL.out]
    have hl2s : l2.size = 16 := by rw [← tl_size, hX, ccX_length]
    have k2 : (s : Int) ≤ (l2.size : Int) := by omega
    have k3 : s ≤ l2.size := by omega
    obtain ⟨pc, hpc⟩ : ∃ pc, l2.extract 0 s = pc := ⟨_, rfl⟩
    have hpl : pc.toList = (ccX key.toList nonce.toList aad.toList text.toList s).take s := by rw [← hpc, tl_ext0, hX]
    have hps : pc.size ≤ 70000 := by rw [← tl_size, hpl, List.length_take]; omega
    have HPL := Lib.hid hpl
    clear hch hfit hE hchl hchs hS ho hX hl2s hpl hb14 hb5 hls
    go_wp2_with fail
    refine (joined_any key nonce pc 0 _ hk h7 h13 hps (by decide)).mono ?_
    rintro e w6 ⟨t, rfl, htt, hb6⟩
    go_wp2_with fail
    go_ret
    exact ⟨t, rfl, by rw [htt, HPL.out, HJT.out _ (ccX_length _ _ _ _ _), ccTag], below2 hb15 hb6⟩
end Go.Proofs.Ythaajaajhddhdaa
namespace Go.Proofs.Ythaajaajhddhdaa
open Go.RowKit
set_option linter.unusedVariables false
set_option linter.unusedSimpArgs false
set_option maxRecDepth 100000 in
set_option maxHeartbeats 800000 in
theorem wide_any (n q : Nat) (w : World) (hn : n < 1000000) (h8 : q ≤ 8) : Calls Try.prog 49 #[.int .i64 (n : Int), .int .i64 (q : Int)] w (RetS (be q n) w) := by
  obtain ⟨i0, hi, hz0, hz1, hz2⟩ := info_parts info5
  have c1 := u64_in6 n hn
  go_enter Try.func49, Try.ntmps49
  go_wp2
  go_loopw [5, 6] (fun v i wr => ∃ (k : Nat) (x : Int), k ≤ q ∧ i = .int .i64 x ∧ Hid (x = (q : Int) - 1 - (k : Int)) ∧ -1 ≤ x ∧ x ≤ 7 ∧ wr.ownsRow w.heap.size 5 1 v k (bcells ((be q n).take k)) ∧ Below w.heap.size w wr) (fun _ i _ => (intOf i + 1).toNat)
  case atStart => exact ⟨0, _, Nat.zero_le _, rfl, by show _ = _; omega, by omega, by omega, World.ownsRow_nil _ _ _ _, Below.refl _ _⟩
  case round =>
    obtain ⟨k, x, hk, rfl, hx, hx1, hx2, hown, hbel⟩ := hrel
    have HO := Lib.hid hown
    clear hown
    have hsz := hbel.size
    by_cases hlt : 0 ≤ x
    · obtain ⟨j, rfl⟩ := Int.eq_ofNat_of_zero_le hlt
      have hj : j = q - 1 - k ∧ k < q := by have := hx.out; omega
      have HJ := Lib.hid hj
      have hj7 : j ≤ 7 := by omega
      obtain ⟨m8, hm8⟩ : ∃ m8, m8 = 8 * j := ⟨_, rfl⟩
      have e1 : (8 : Int) * (j : Int) = (m8 : Int) := by omega
      have e2 : m8 < 64 := by omega
      have e3 : IntKind.i64.wrap (m8 : Int) = (m8 : Int) := wrap_in _ (by omega) (by omega)
      have hj8 : (j : Int) < 8 := by omega
      obtain ⟨u, hu, hu2⟩ : ∃ u : UInt8, (n : Int) / 2 ^ m8 % 256 = (u.toNat : Int) ∧ u = UInt8.ofNat (n / 256 ^ j) := ⟨UInt8.ofNat (n / 256 ^ j), by
        rw [hm8, ← u8mod, Int.natCast_ediv, ← pow8, Int.natCast_pow]; rfl, rfl⟩
      have HU := Lib.hid hu2
      clear hu2 hj hm8
      go_wp2_with (at_builtin; refine wpList_append_u8 rfl (.tmp 23) (.tmp 25) 33 rfl w.heap.size 5 i0 Try.underlying33 hi hz0 hz1 hz2 u5 k _ rfl (HO.out.alloc _) wr.heap.size 1 1 [u] rfl rfl (cells_one (by simp)) (by omega) (by simp; omega) ?_; intro v' w1 hown1 hgrow)
      have hb1 := below_own (hbel.alloc hsz (Obj.cells #[Value.int IntKind.u8 ↑u.toNat] 5)) hgrow (by simp; omega) (HO.out.alloc _)
      clear hgrow hu e1 e2 e3
      go_wp2
      go_roundw
      case rel =>
        refine ⟨k + 1, _, by have := HJ.out; omega, rfl, by show _ = _; have := HJ.out; omega, by omega, by omega, ?_, hb1⟩
        have hj := HJ.out
        rw [be_take q n k hj.2, ← hj.1, ← HU.out]
        exact hown1
      case measure => first | (simp [intOf]; done) | (simp [intOf]; omega)
    · have hkm : k = q := by have := hx.out; omega
      subst hkm
      have hcv := run_convert_own (P := Try.prog) HO.out 33 9 Try.underlying33 Try.underlying5 Try.underlying9
      rw [List.take_of_length_le (by rw [be_length]; exact Nat.le_refl _)] at hcv
      go_wp2
      go_ret
      exact ⟨_, rfl, tl_mk _, hbel⟩
set_option maxRecDepth 100000 in
set_option maxHeartbeats 1600000 in
theorem rfilled_any (text : ByteArray) (w : World) (ht : text.size ≤ 1000000) : Calls Try.prog 50 #[.string text] w (RetS (filM text.toList) w) := by
  obtain ⟨i0, hi, hz0, hz1, hz2⟩ := info_parts info5
  obtain ⟨p, hp⟩ : ∃ p, p = (16 - text.size % 16) % 16 := ⟨_, rfl⟩
  have HP := Lib.hid hp
  have hpb : p ≤ 15 := by omega
  have hMP : filM text.toList = text.toList ++ zer p := by rw [filM, tl_size, hp]
  have HMP := Lib.hid hMP
  clear hp hMP
  go_enter Try.func50, Try.ntmps50
  go_wp2_with (refine wpList_bytes_len _ rfl (.tmp 4) 9 33 5 rfl Try.underlying9 Try.underlying33 Try.underlying5 text rfl w.heap.size (Nat.le_refl _) ?_; intro g0 cap0 w1 HBAG hb1)
  go_loopw [3] (fun v wr => ∃ (g cap j m : Nat), m = text.size + j ∧ v = .slice (some ⟨g, 0, none⟩) m cap ∧ j ≤ p ∧ Bag wr w.heap.size v (text.toList ++ zer j) ∧ Below w.heap.size w wr) (fun v _ => text.size + p - lenOf v)
  case atStart => exact ⟨g0, cap0, 0, text.size, rfl, rfl, Nat.zero_le _, by rw [show zer 0 = [] from rfl, List.append_nil]; exact HBAG.out, hb1⟩
  case round =>
    clear HBAG hb1
    obtain ⟨g, cap, j, m, hm, rfl, hjp, hbag, hbel⟩ := hrel
    obtain ⟨r, hr⟩ : ∃ r, m % 16 = r := ⟨_, rfl⟩
    have hmb : m ≤ 1000015 := by omega
    have f3 : (m : Int).tmod 16 = (r : Int) := tmod_nat m 16 r hr.symm
    have f4 : IntKind.i64.wrap (r : Int) = (r : Int) := wrap_in _ (by omega) (by omega)
    have HBAG := Lib.hid hbag
    have HM := Lib.hid hm
    by_cases hr0 : r = 0
    · have hjp2 : j = p := by have := HP.out; omega
      have f5 : ((r : Int) != 0) = false := by rw [bne_eq_false_iff_eq]; omega
      have hbag2 := hbag
      rw [hjp2, ← HMP.out] at hbag2
      obtain ⟨gq, capq, hv, hA⟩ := hbag2.is
      injection hv with hv1 hv2 hv3
      injection hv1 with hv4
      injection hv4 with hv5
      subst hv5 hv3
      have hcv := convert_at (P := Try.prog) (cap := cap) hA 33 9 5 m hv2.symm Try.underlying33 Try.underlying5 Try.underlying9
      clear hm hr hr0 hbag hbag2 hA hjp2 HBAG hv2
      go_wp2_with fail
      go_ret
      exact ⟨_, rfl, tl_mk _, hbel⟩
    · have f5 : ((r : Int) != 0) = true := by rw [bne_iff_ne]; omega
      have hjp2 : j < p := by have := HP.out; omega
      have hsz : w.heap.size ≤ wr.heap.size := hbel.size
      clear hm hr hr0 hbag
      go_wp2_with (at_builtin; refine wpList_append_bag _ rfl (.tmp 10) (.tmp 11) 33 rfl 5 i0 Try.underlying33 hi hz0 hz1 hz2 _ w.heap.size (text.toList ++ zer j) rfl (HBAG.out.alloc _) wr.heap.size rfl 0 ((At.ofAlloc wr #[Value.int .u8 0] 5).cell 0 _ rfl) (by simp; omega) (by rw [List.length_append, zer_length, tl_size]; omega) ?_; intro v' w2 hbag2 hbel2)
      have hb12 := (hbel.alloc hsz (Obj.cells #[Value.int .u8 0] 5)).trans hbel2
      have hz1 : text.toList ++ zer j ++ [0] = text.toList ++ zer (j + 1) := by rw [List.append_assoc, show ([0] : List UInt8) = zer 1 from rfl, ← zer_add]
      rw [hz1] at hbag2
      obtain ⟨g2, cap2, rfl, hgB2, hcap2⟩ := hbag2.whole
      have hlen : (text.toList ++ zer (j + 1)).length = m + 1 := by rw [List.length_append, zer_length, tl_size, HM.out]; omega
      rw [hlen] at hbag2 ⊢
      have HBAG2 := Lib.hid hbag2
      clear hbag2 hbel2 hz1 hlen
      go_wp2_with fail
      go_roundw
      case rel => exact ⟨g2, cap2, j + 1, m + 1, by have := HM.out; omega, rfl, hjp2, HBAG2.out, hb12⟩
      case measure => simp [lenOf]; have := HM.out; omega
theorem cv_after (f : Nat) (hf : f < 256) (c : ByteArray) (hc : c = ⟨[UInt8.ofNat f].toArray⟩) {w w3 : World} (hb : Below (w.alloc (Obj.cells #[.int .u8 (f : Int)] 5)).drew.heap.size (w.alloc (Obj.cells #[.int .u8 (f : Int)] 5)).drew w3) :
    (convert 33 9 (.slice (some ⟨w.heap.size, 0, none⟩) 1 1)).run Try.prog w3 = .ok (.string c) w3 := by
  have e9 : (f : Int) = ((UInt8.ofNat f).toNat : Int) := by simp; omega
  have hA : At (w.alloc (Obj.cells #[.int .u8 (f : Int)] 5)).drew w.heap.size 0 (bcells [UInt8.ofNat f]) := by
    have h := At.ofAlloc w #[.int .u8 ((UInt8.ofNat f).toNat : Int)] 5
    rw [← e9] at h
    have e : bcells [UInt8.ofNat f] = [.int .u8 (f : Int)] := by rw [e9]; rfl
    rw [e]
    exact h
  have hcv := convert_at (P := Try.prog) (cap := 1) (hA.below hb (by simp)) 33 9 5 1 rfl Try.underlying33 Try.underlying5 Try.underlying9
  rw [← hc] at hcv
  exact hcv
theorem cv_byteD (f : Nat) (hf : f < 256) (c : ByteArray) (hc : c = ⟨[UInt8.ofNat f].toArray⟩) : ∀ w' : World, (convert 33 9 (.slice (some ⟨w'.heap.size, 0, none⟩) 1 1)).run Try.prog (w'.alloc (Obj.cells #[.int .u8 (f : Int)] 5)).drew = .ok (.string c) (w'.alloc (Obj.cells #[.int .u8 (f : Int)] 5)).drew := fun w' => cv_byte f hf c hc w'.drew
set_option maxRecDepth 100000 in
set_option maxHeartbeats 1600000 in
theorem counter_any (nonce : ByteArray) (i : Nat) (w : World) (h7 : 7 ≤ nonce.size) (h13 : nonce.size ≤ 13) (hi : i < 1000000) : Calls Try.prog 37 #[.string nonce, .int .i64 (i : Int)] w (RetS (ccCnt nonce.toList i) w) := by
  obtain ⟨q, hq⟩ : ∃ q, q = 15 - nonce.size := ⟨_, rfl⟩
  have a1 : 15 - (nonce.size : Int) = (q : Int) := by omega
  have a2 : IntKind.i64.wrap (q : Int) = (q : Int) := wrap_in _ (by omega) (by omega)
  obtain ⟨f, hf⟩ : ∃ f, f = q - 1 := ⟨_, rfl⟩
  have b9 : (q : Int) - 1 = (f : Int) := by omega
  have b10 : IntKind.i64.wrap (f : Int) = (f : Int) := wrap_in _ (by omega) (by omega)
  have b11 : IntKind.u8.wrap (f : Int) = (f : Int) := u8_in f (by omega)
  have q8 : q ≤ 8 := by omega
  obtain ⟨c, hc⟩ : ∃ c : ByteArray, c = ⟨[UInt8.ofNat f].toArray⟩ := ⟨_, rfl⟩
  have hcv := cv_byte f (by omega) c hc
  have hcvd := cv_byteD f (by omega) c hc
  have hcs : c.size = 1 := by rw [hc]; rfl
  have hcl : c.toList = [UInt8.ofNat f] := by rw [hc, tl_mk]
  have hov1 : ¬ 9223372036854775807 < c.size + nonce.size := by omega
  have hfin : ∀ x : ByteArray, x.toList = be q i → (c ++ nonce ++ x).toList = ccCnt nonce.toList i := fun x hx => by
    rw [tl_append, tl_append, hx, hcl, ccCnt, tl_size, ← hq, show 14 - nonce.size = f by omega]
    rfl
  have HFIN := Lib.hid hfin
  have HCS := Lib.hid hcs
  have HCc := Lib.hid hc
  have hf256 : f < 256 := by omega
  have HQ := Lib.hid hq
  clear hq hf hc hcs hcl hfin
  go_enter Try.func37, Try.ntmps37
  go_wp2_with fail
  go_region_with ((go_at_call 49; refine (wide_any i q _ hi q8).mono ?_; rintro e w3 ⟨x, rfl, hx, hb3⟩; have HX := Lib.hid hx; have hov2 : ¬ 9223372036854775807 < c.size + nonce.size + x.size := (by have h1 := HCS.out; have h2 := HQ.out; have h3 : x.size = q := (by rw [← tl_size, HX.out, be_length]); omega); (first | have hcv3 := cv_after f hf256 c HCc.out hb3 | skip); clear hx))
  all_goals
    clear hcv hcvd
    go_wp2_with fail
    go_ret
  · exact ⟨_, rfl, HFIN.out _ HX.out, ((Below.refl _ w).alloc (Nat.le_refl _) _).drew.trans (hb3.mono (by simp))⟩
  · exact ⟨_, rfl, HFIN.out _ HX.out, ((Below.refl _ w).alloc (Nat.le_refl _) _).drew.trans (hb3.mono (by simp))⟩
  · exact ⟨_, rfl, HFIN.out _ HX.out, ((Below.refl _ w).drew.trans hb3).alloc hb3.size _⟩
end Go.Proofs.Ythaajaajhddhdaa
namespace Go.Proofs.Ythaajaajhddhdaa
open Go.RowKit
set_option linter.unusedVariables false
set_option linter.unusedSimpArgs false
set_option maxRecDepth 100000 in
set_option maxHeartbeats 1600000 in
theorem rccxor_any (nonce text : ByteArray) (g : Nat) (K : List UInt8) (w : World) (hB : Box w g K) (hK : K.length = 16 ∨ K.length = 24 ∨ K.length = 32) (h7 : 7 ≤ nonce.size) (h13 : nonce.size ≤ 13) (ht : text.size ≤ 70000) :
    Calls Try.prog 23 #[.pointer (some ⟨g, 0, none⟩), .string nonce, .string text] w (RetS (ccJoin K nonce.toList text.toList 1) w) := by
  obtain ⟨i0, hi, hz0, hz1, hz2⟩ := info_parts info5
  have HB := Lib.hid hB
  have HK := Lib.hid hK
  clear hB hK
  go_enter Try.func23, Try.ntmps23
  go_wp2_with fail
  go_loopw [7, 8] (fun v i wr => ∃ k m j : Nat, m = 16 * k ∧ j = k + 1 ∧ m ≤ text.size + 15 ∧ i = .int .i64 (j : Int) ∧ wr.ownsRow w.heap.size 5 1 v m (bcells (ccStr K nonce.toList k)) ∧ Below w.heap.size w wr) (fun v _ _ => text.size - lenOf v)
  case atStart => exact ⟨0, 0, 1, rfl, rfl, by omega, rfl, World.ownsRow_nil _ _ _ _, Below.refl _ _⟩
  case round =>
    obtain ⟨k, m, j, hm, hj, hmn, rfl, hO, hbl⟩ := hrel
    obtain ⟨p, cap, rfl⟩ := own_slice hO
    have HO := Lib.hid hO
    have HMK := Lib.hid hm
    have HJ := Lib.hid hj
    have hsz := hbl.size
    have hmb : m ≤ 70015 := by omega
    by_cases hlt : m < text.size
    · have hltI : (m : Int) < (text.size : Int) := by omega
      have hjb : j < 1000000 := by omega
      have hj1 : IntKind.i64.wrap ((j : Int) + 1) = (j : Int) + 1 := wrap_in _ (by omega) (by omega)
      clear hm hj hO
      go_wp2_with fail
      refine (counter_any nonce j _ h7 h13 hjb).mono ?_
      rintro e w1 ⟨c, rfl, hc, hb1⟩
      have hcs : c.size = 16 := by rw [← tl_size, hc, ccCnt_length _ _ (by rw [tl_size]; exact h13)]
      have hb01 := hbl.trans (hb1.mono hsz)
      have HC := Lib.hid hc
      have HO1 := Lib.hid (own_below HO.out hb1 (Nat.le_refl _))
      clear hc hb1
      go_wp2_with fail
      refine (rencrypt_any c _ g K (HB.out.below hb01 (Nat.le_refl _)) HK.out hcs).mono ?_
      rintro e w2 ⟨s, rfl, hs2, hb2⟩
      have hss : s.size = 16 := by rw [← tl_size, hs2, encL_length]
      have hb02 := hb01.trans (hb2.mono hb01.size)
      have HO2 := Lib.hid (own_below HO1.out hb2 (Nat.le_refl _))
      have HSS := Lib.hid hss
      have HX := Lib.hid hs2
      have hbs := hb02.size
      clear hss hs2 hb2 HO1 hcs
      go_wp2_with (at_builtin; refine wpList_append_txt rfl (.tmp 16) (.tmp 21) 33 9 rfl w.heap.size 5 i0 Try.underlying33 Try.underlying9 hi hz0 hz1 hz2 (.slice p m cap) m 16 _ rfl HO2.out s rfl HSS.out (by omega) hbs ?_; intro v' w3 hown3 hgrow3)
      have hb03 := hb02.grown hgrow3 hbs (fun b hb => (HO2.out.lt b hb).1)
      have hstep : ccStr K nonce.toList k ++ s.toList = ccStr K nonce.toList (k + 1) := by rw [ccStr, HX.out, HC.out, HJ.out]
      rw [hstep] at hown3
      obtain ⟨p', cap', rfl⟩ := own_slice hown3
      have HO3 := Lib.hid hown3
      clear hown3 hgrow3 hstep HO2
      go_wp2_with fail
      go_roundw
      case rel => exact ⟨k + 1, m + 16, j + 1, by have := HMK.out; omega, by have := HJ.out; omega, by omega, by go_num, HO3.out, hb03⟩
      case measure => simp [lenOf]; omega
    · have hltI : ¬ (m : Int) < (text.size : Int) := by omega
      have hcv := run_convert_own (P := Try.prog) hO 33 9 Try.underlying33 Try.underlying5 Try.underlying9
      obtain ⟨z, hz⟩ : ∃ z : ByteArray, (⟨(ccStr K nonce.toList k).toArray⟩ : ByteArray) = z := ⟨_, rfl⟩
      rw [hz] at hcv
      have hzl : z.toList = ccStr K nonce.toList k := by rw [← hz, tl_mk]
      have hzs : z.size ≤ 140737488351232 := by rw [← tl_size, hzl, ccStr_length]; omega
      have hfin : xorL text.toList z.toList = ccJoin K nonce.toList text.toList 1 := by
        rw [hzl, ← ccStr_ctr K nonce.toList (by rw [tl_size]; exact h13) k, ctrL_any _ _ _ _ _ (by rw [tl_size]; omega)]
        rfl
      have HFIN := Lib.hid hfin
      have HZS := Lib.hid hzs
      clear hm hj hO hz hzl hzs hfin
      go_wp2_with fail
      refine (rxor_any text z _ (by omega) HZS.out).mono ?_
      rintro e w1 ⟨x, rfl, hx, hb1⟩
      go_wp2_with fail
      go_ret
      exact ⟨x, rfl, by rw [hx, HFIN.out], hbl.trans (hb1.mono hsz)⟩
end Go.Proofs.Ythaajaajhddhdaa
namespace Go.Proofs.Ythaajaajhddhdaa
open Go.RowKit
set_option linter.unusedVariables false
set_option linter.unusedSimpArgs false
/-- kept aside -/
structure Sm (p : Prop) : Prop where
  out : p
set_option maxRecDepth 100000 in
set_option maxHeartbeats 3200000 in
theorem rall_none (nonce aad text : ByteArray) (s : Nat) (w : World) (h7 : 7 ≤ nonce.size) (h13 : nonce.size ≤ 13) (s4 : 4 ≤ s) (s16 : s ≤ 16) (sev : s % 2 = 0) (ht : text.size ≤ 70000) (ha : aad.size ≤ 70000) (hcase : aad.size = 0) :
    Calls Try.prog 39 #[.string nonce, .string aad, .string text, .int .i64 (s : Int)] w (RetS (ccAll nonce.toList aad.toList text.toList s) w) := by
  obtain ⟨q, hq⟩ : ∃ q, q = 15 - nonce.size := ⟨_, rfl⟩
  have a1 : 15 - (nonce.size : Int) = (q : Int) := by omega
  have a2 : IntKind.i64.wrap (q : Int) = (q : Int) := wrap_in _ (by omega) (by omega)
  obtain ⟨s2, hs2⟩ : ∃ s2, s2 = s - 2 := ⟨_, rfl⟩
  have b1 : (s : Int) - 2 = (s2 : Int) := by omega
  have b2 : IntKind.i64.wrap (s2 : Int) = (s2 : Int) := wrap_in _ (by omega) (by omega)
  obtain ⟨h, hh⟩ : ∃ h, h = 8 * s2 := ⟨_, rfl⟩
  have b3 : 8 * (s2 : Int) = (h : Int) := by omega
  have b4 : IntKind.i64.wrap (h : Int) = (h : Int) := wrap_in _ (by omega) (by omega)
  obtain ⟨h8, hh8⟩ : ∃ h8, h8 = h / 2 := ⟨_, rfl⟩
  have b5 : (h : Int) / 2 = (h8 : Int) := by omega
  have b6 : IntKind.i64.wrap (h8 : Int) = (h8 : Int) := wrap_in _ (by omega) (by omega)
  obtain ⟨hq8, hhq8⟩ : ∃ hq8, hq8 = h8 + q := ⟨_, rfl⟩
  have b7 : (h8 : Int) + (q : Int) = (hq8 : Int) := by omega
  have b8 : IntKind.i64.wrap (hq8 : Int) = (hq8 : Int) := wrap_in _ (by omega) (by omega)
  obtain ⟨f, hf⟩ : ∃ f, f = hq8 - 1 := ⟨_, rfl⟩
  have b9 : (hq8 : Int) - 1 = (f : Int) := by omega
  have b10 : IntKind.i64.wrap (f : Int) = (f : Int) := wrap_in _ (by omega) (by omega)
  obtain ⟨f2, rfl⟩ : ∃ f2, f2 = f := ⟨_, rfl⟩
  have b11 : IntKind.u8.wrap (f2 : Int) = (f2 : Int) := u8_in f2 (by omega)
  have i1 : ¬ (0 : Int) < (aad.size : Int) := by omega
  have hfl : ccFlag nonce.size aad.size s = f2 := by rw [ccFlag, if_pos hcase]; omega
  have q8 : q ≤ 8 := by omega
  have htw : text.size < 1000000 := by omega
  obtain ⟨c, hc⟩ : ∃ c : ByteArray, c = ⟨[UInt8.ofNat f2].toArray⟩ := ⟨_, rfl⟩
  have hf256 : f2 < 256 := by omega
  have hcv := cv_byte f2 hf256 c hc
  have hcvd := cv_byteD f2 hf256 c hc
  have hcs : c.size = 1 := by rw [hc]; rfl
  have hcl : c.toList = [UInt8.ofNat f2] := by rw [hc, tl_mk]
  have hov1 : ¬ 9223372036854775807 < c.size + nonce.size := by omega
  have hfin : ∀ x : ByteArray, x.toList = be q text.size → (c ++ nonce ++ x).toList = ccFirst nonce.toList aad.toList text.size s ∧ (c ++ nonce ++ x).size = 16 := fun x hx => by
    have e : (c ++ nonce ++ x).toList = ccFirst nonce.toList aad.toList text.size s := by
      rw [tl_append, tl_append, hx, hcl, ccFirst, tl_size, tl_size, hfl, ← hq]
      rfl
    exact ⟨e, by rw [← tl_size, e, ccFirst_length _ _ _ _ (by rw [tl_size]; exact h13)]⟩
  have HFIN := Lib.hid hfin
  have HCS := Lib.hid hcs
  have HCc := Lib.hid hc
  have HQ := Lib.hid hq
  have hbes : ccBes aad.toList = [] := by rw [ccBes, tl_size, if_pos hcase]
  have HBES := Lib.hid hbes
  clear hq hs2 hh hh8 hhq8 hf hfl hc hcs hcl hfin hcase hbes sev
  go_enter Try.func39, Try.ntmps39
  go_wp2_with fail
  go_region_with ((go_at_call 49; refine (wide_any text.size q _ htw q8).mono ?_; rintro e w3 ⟨x, rfl, hx, hb3⟩; have HX := Lib.hid hx; have hov2 : ¬ 9223372036854775807 < c.size + nonce.size + x.size := (by have h1 := HCS.out; have h2 := HQ.out; have h3 : x.size = q := (by rw [← tl_size, HX.out, be_length]); omega); (first | have hcv3 := cv_after f2 hf256 c HCc.out hb3 | skip); clear hx))
  all_goals
    first
    | (have hbA := ((Below.refl w.heap.size w).alloc (Nat.le_refl _) (Obj.cells #[.int .u8 (f2 : Int)] 5)).drew.trans (hb3.mono (by simp)))
    | (have hbA := ((Below.refl w.heap.size w).drew.trans hb3).alloc hb3.size (Obj.cells #[.int .u8 (f2 : Int)] 5))
    obtain ⟨h1l, h1s⟩ := HFIN.out x HX.out
    obtain ⟨S1, hS1⟩ : ∃ S1, c ++ nonce ++ x = S1 := ⟨_, rfl⟩
    rw [hS1] at h1l h1s
    have H1L := Lib.hid h1l
    have H1S := Lib.hid h1s
    clear hcv hcvd hb3 h1l h1s hov2
    (try clear hcv3)
    rw [hS1]
    clear hS1
    (try clear d1 d2)
    clear a1 a2 b1 b2 b3 b4 b5 b6 b7 b8 b9 b10 b11 hov1 q8 htw hf256 s4 s16 h7 h13
    skip
    go_wp2_with fail
    obtain ⟨S2, rfl⟩ : ∃ S2, S2 = S1 := ⟨_, rfl⟩
    have hbB := hbA
    have H2L : Hid (S2.toList = ccFirst nonce.toList aad.toList text.size s ++ []) := by show _ = _; rw [H1L.out, List.append_nil]
    have H2S : Hid (S2.size ≤ 80000) := by show _ ≤ _; rw [H1S.out]; decide
    refine (rfilled_any text _ (by omega)).mono ?_
    rintro e w6 ⟨y3, rfl, hy3, hb6⟩
    have h3s : y3.size ≤ 70016 := by rw [← tl_size, hy3]; have := filM_size text.toList; rw [tl_size] at this; omega
    have hov6 : ¬ 9223372036854775807 < S2.size + y3.size := by have := H2S.out; omega
    have HY3 := Lib.hid hy3
    clear hy3 h3s
    go_wp2_with fail
    go_ret
    exact ⟨_, rfl, by rw [tl_append, H2L.out, HY3.out, ccAll, ccHead, tl_size, HBES.out], hbB.trans (hb6.mono hbB.size)⟩
set_option maxRecDepth 100000 in
set_option maxHeartbeats 3200000 in
theorem rall_some (nonce aad text : ByteArray) (s : Nat) (w : World) (h7 : 7 ≤ nonce.size) (h13 : nonce.size ≤ 13) (s4 : 4 ≤ s) (s16 : s ≤ 16) (sev : s % 2 = 0) (ht : text.size ≤ 70000) (ha : aad.size ≤ 70000) (hcase : 0 < aad.size ∧ aad.size < 65280) :
    Calls Try.prog 39 #[.string nonce, .string aad, .string text, .int .i64 (s : Int)] w (RetS (ccAll nonce.toList aad.toList text.toList s) w) := by
  obtain ⟨q, hq⟩ : ∃ q, q = 15 - nonce.size := ⟨_, rfl⟩
  have a1 : 15 - (nonce.size : Int) = (q : Int) := by omega
  have a2 : IntKind.i64.wrap (q : Int) = (q : Int) := wrap_in _ (by omega) (by omega)
  obtain ⟨s2, hs2⟩ : ∃ s2, s2 = s - 2 := ⟨_, rfl⟩
  have b1 : (s : Int) - 2 = (s2 : Int) := by omega
  have b2 : IntKind.i64.wrap (s2 : Int) = (s2 : Int) := wrap_in _ (by omega) (by omega)
  obtain ⟨h, hh⟩ : ∃ h, h = 8 * s2 := ⟨_, rfl⟩
  have b3 : 8 * (s2 : Int) = (h : Int) := by omega
  have b4 : IntKind.i64.wrap (h : Int) = (h : Int) := wrap_in _ (by omega) (by omega)
  obtain ⟨h8, hh8⟩ : ∃ h8, h8 = h / 2 := ⟨_, rfl⟩
  have b5 : (h : Int) / 2 = (h8 : Int) := by omega
  have b6 : IntKind.i64.wrap (h8 : Int) = (h8 : Int) := wrap_in _ (by omega) (by omega)
  obtain ⟨hq8, hhq8⟩ : ∃ hq8, hq8 = h8 + q := ⟨_, rfl⟩
  have b7 : (h8 : Int) + (q : Int) = (hq8 : Int) := by omega
  have b8 : IntKind.i64.wrap (hq8 : Int) = (hq8 : Int) := wrap_in _ (by omega) (by omega)
  obtain ⟨f, hf⟩ : ∃ f, f = hq8 - 1 := ⟨_, rfl⟩
  have b9 : (hq8 : Int) - 1 = (f : Int) := by omega
  have b10 : IntKind.i64.wrap (f : Int) = (f : Int) := wrap_in _ (by omega) (by omega)
  obtain ⟨f2, hf2⟩ : ∃ f2, f2 = f + 64 := ⟨_, rfl⟩
  have d1 : (f : Int) + 64 = (f2 : Int) := by omega
  have d2 : IntKind.i64.wrap (f2 : Int) = (f2 : Int) := wrap_in _ (by omega) (by omega)
  have b11 : IntKind.u8.wrap (f2 : Int) = (f2 : Int) := u8_in f2 (by omega)
  have i1 : (0 : Int) < (aad.size : Int) := by omega
  have hfl : ccFlag nonce.size aad.size s = f2 := by rw [ccFlag, if_neg (by omega)]; omega
  have q8 : q ≤ 8 := by omega
  have htw : text.size < 1000000 := by omega
  obtain ⟨c, hc⟩ : ∃ c : ByteArray, c = ⟨[UInt8.ofNat f2].toArray⟩ := ⟨_, rfl⟩
  have hf256 : f2 < 256 := by omega
  have hcv := cv_byte f2 hf256 c hc
  have hcvd := cv_byteD f2 hf256 c hc
  have hcs : c.size = 1 := by rw [hc]; rfl
  have hcl : c.toList = [UInt8.ofNat f2] := by rw [hc, tl_mk]
  have hov1 : ¬ 9223372036854775807 < c.size + nonce.size := by omega
  have hfin : ∀ x : ByteArray, x.toList = be q text.size → (c ++ nonce ++ x).toList = ccFirst nonce.toList aad.toList text.size s ∧ (c ++ nonce ++ x).size = 16 := fun x hx => by
    have e : (c ++ nonce ++ x).toList = ccFirst nonce.toList aad.toList text.size s := by
      rw [tl_append, tl_append, hx, hcl, ccFirst, tl_size, tl_size, hfl, ← hq]
      rfl
    exact ⟨e, by rw [← tl_size, e, ccFirst_length _ _ _ _ (by rw [tl_size]; exact h13)]⟩
  have HFIN := Lib.hid hfin
  have HCS := Lib.hid hcs
  have HCc := Lib.hid hc
  have HQ := Lib.hid hq
  have I2 : Sm ((aad.size : Int) < 65280) := ⟨by omega⟩
  have haw : aad.size < 1000000 := by omega
  have hbes : ccBes aad.toList = filM (be 2 aad.size ++ aad.toList) := by rw [ccBes, tl_size, if_neg (by omega), if_pos hcase.2]
  have HBES := Lib.hid hbes
  clear hq hs2 hh hh8 hhq8 hf hfl hc hcs hcl hfin hcase hbes sev hf2
  go_enter Try.func39, Try.ntmps39
  go_wp2_with fail
  go_region_with ((go_at_call 49; refine (wide_any text.size q _ htw q8).mono ?_; rintro e w3 ⟨x, rfl, hx, hb3⟩; have HX := Lib.hid hx; have hov2 : ¬ 9223372036854775807 < c.size + nonce.size + x.size := (by have h1 := HCS.out; have h2 := HQ.out; have h3 : x.size = q := (by rw [← tl_size, HX.out, be_length]); omega); (first | have hcv3 := cv_after f2 hf256 c HCc.out hb3 | skip); clear hx))
  all_goals
    first
    | (have hbA := ((Below.refl w.heap.size w).alloc (Nat.le_refl _) (Obj.cells #[.int .u8 (f2 : Int)] 5)).drew.trans (hb3.mono (by simp)))
    | (have hbA := ((Below.refl w.heap.size w).drew.trans hb3).alloc hb3.size (Obj.cells #[.int .u8 (f2 : Int)] 5))
    obtain ⟨h1l, h1s⟩ := HFIN.out x HX.out
    obtain ⟨S1, hS1⟩ : ∃ S1, c ++ nonce ++ x = S1 := ⟨_, rfl⟩
    rw [hS1] at h1l h1s
    have H1L := Lib.hid h1l
    have H1S := Lib.hid h1s
    clear hcv hcvd hb3 h1l h1s hov2
    (try clear hcv3)
    rw [hS1]
    clear hS1
    (try clear d1 d2)
    clear a1 a2 b1 b2 b3 b4 b5 b6 b7 b8 b9 b10 b11 hov1 q8 htw hf256 s4 s16 h7 h13
    have i2 := I2.out
    go_wp2_with fail
    refine (wide_any aad.size 2 _ haw (by decide)).mono ?_
    rintro e w4 ⟨y1, rfl, hy1, hb4⟩
    have h1z : y1.size = 2 := by rw [← tl_size, hy1, be_length]
    have hovj : ¬ 9223372036854775807 < y1.size + aad.size := by omega
    obtain ⟨J, hJ⟩ : ∃ J, y1 ++ aad = J := ⟨_, rfl⟩
    have hjl : J.toList = be 2 aad.size ++ aad.toList := by rw [← hJ, tl_append, hy1]
    have hjs : J.size ≤ 70006 := by rw [← hJ, ByteArray.size_append]; omega
    have HJL := Lib.hid hjl
    have HJS := Lib.hid hjs
    have hbA4 := hbA.trans (hb4.mono hbA.size)
    clear hy1 h1z hb4 hbA hjl hjs
    go_wp2_with fail
    refine (rfilled_any J _ (by have := HJS.out; omega)).mono ?_
    rintro e w5 ⟨y2, rfl, hy2, hb5⟩
    have h2s : y2.size ≤ 71016 := by rw [← tl_size, hy2]; have h8 := filM_size J.toList; rw [tl_size] at h8; have := HJS.out; omega
    have hov5 : ¬ 9223372036854775807 < S1.size + y2.size := by have := H1S.out; omega
    obtain ⟨S2, hS2⟩ : ∃ S2, S1 ++ y2 = S2 := ⟨_, rfl⟩
    have H2L : Hid (S2.toList = ccFirst nonce.toList aad.toList text.size s ++ filM J.toList) := by show _ = _; rw [← hS2, tl_append, H1L.out, hy2]
    have H2S : Hid (S2.size ≤ 80000) := by show _ ≤ _; rw [← hS2, ByteArray.size_append, H1S.out]; omega
    have hbB := hbA4.trans (hb5.mono hbA4.size)
    clear hy2 h2s hb5 hbA4
    go_wp2_with fail
    refine (rfilled_any text _ (by omega)).mono ?_
    rintro e w6 ⟨y3, rfl, hy3, hb6⟩
    have h3s : y3.size ≤ 70016 := by rw [← tl_size, hy3]; have := filM_size text.toList; rw [tl_size] at this; omega
    have hov6 : ¬ 9223372036854775807 < S2.size + y3.size := by have := H2S.out; omega
    have HY3 := Lib.hid hy3
    clear hy3 h3s
    go_wp2_with fail
    go_ret
    exact ⟨_, rfl, by rw [tl_append, H2L.out, HY3.out, ccAll, ccHead, tl_size, HBES.out, HJL.out], hbB.trans (hb6.mono hbB.size)⟩
set_option maxRecDepth 100000 in
set_option maxHeartbeats 3200000 in
theorem rall_many (nonce aad text : ByteArray) (s : Nat) (w : World) (h7 : 7 ≤ nonce.size) (h13 : nonce.size ≤ 13) (s4 : 4 ≤ s) (s16 : s ≤ 16) (sev : s % 2 = 0) (ht : text.size ≤ 70000) (ha : aad.size ≤ 70000) (hcase : 65280 ≤ aad.size) :
    Calls Try.prog 39 #[.string nonce, .string aad, .string text, .int .i64 (s : Int)] w (RetS (ccAll nonce.toList aad.toList text.toList s) w) := by
  obtain ⟨q, hq⟩ : ∃ q, q = 15 - nonce.size := ⟨_, rfl⟩
  have a1 : 15 - (nonce.size : Int) = (q : Int) := by omega
  have a2 : IntKind.i64.wrap (q : Int) = (q : Int) := wrap_in _ (by omega) (by omega)
  obtain ⟨s2, hs2⟩ : ∃ s2, s2 = s - 2 := ⟨_, rfl⟩
  have b1 : (s : Int) - 2 = (s2 : Int) := by omega
  have b2 : IntKind.i64.wrap (s2 : Int) = (s2 : Int) := wrap_in _ (by omega) (by omega)
  obtain ⟨h, hh⟩ : ∃ h, h = 8 * s2 := ⟨_, rfl⟩
  have b3 : 8 * (s2 : Int) = (h : Int) := by omega
  have b4 : IntKind.i64.wrap (h : Int) = (h : Int) := wrap_in _ (by omega) (by omega)
  obtain ⟨h8, hh8⟩ : ∃ h8, h8 = h / 2 := ⟨_, rfl⟩
  have b5 : (h : Int) / 2 = (h8 : Int) := by omega
  have b6 : IntKind.i64.wrap (h8 : Int) = (h8 : Int) := wrap_in _ (by omega) (by omega)
  obtain ⟨hq8, hhq8⟩ : ∃ hq8, hq8 = h8 + q := ⟨_, rfl⟩
  have b7 : (h8 : Int) + (q : Int) = (hq8 : Int) := by omega
  have b8 : IntKind.i64.wrap (hq8 : Int) = (hq8 : Int) := wrap_in _ (by omega) (by omega)
  obtain ⟨f, hf⟩ : ∃ f, f = hq8 - 1 := ⟨_, rfl⟩
  have b9 : (hq8 : Int) - 1 = (f : Int) := by omega
  have b10 : IntKind.i64.wrap (f : Int) = (f : Int) := wrap_in _ (by omega) (by omega)
  obtain ⟨f2, hf2⟩ : ∃ f2, f2 = f + 64 := ⟨_, rfl⟩
  have d1 : (f : Int) + 64 = (f2 : Int) := by omega
  have d2 : IntKind.i64.wrap (f2 : Int) = (f2 : Int) := wrap_in _ (by omega) (by omega)
  have b11 : IntKind.u8.wrap (f2 : Int) = (f2 : Int) := u8_in f2 (by omega)
  have i1 : (0 : Int) < (aad.size : Int) := by omega
  have hfl : ccFlag nonce.size aad.size s = f2 := by rw [ccFlag, if_neg (by omega)]; omega
  have q8 : q ≤ 8 := by omega
  have htw : text.size < 1000000 := by omega
  obtain ⟨c, hc⟩ : ∃ c : ByteArray, c = ⟨[UInt8.ofNat f2].toArray⟩ := ⟨_, rfl⟩
  have hf256 : f2 < 256 := by omega
  have hcv := cv_byte f2 hf256 c hc
  have hcvd := cv_byteD f2 hf256 c hc
  have hcs : c.size = 1 := by rw [hc]; rfl
  have hcl : c.toList = [UInt8.ofNat f2] := by rw [hc, tl_mk]
  have hov1 : ¬ 9223372036854775807 < c.size + nonce.size := by omega
  have hfin : ∀ x : ByteArray, x.toList = be q text.size → (c ++ nonce ++ x).toList = ccFirst nonce.toList aad.toList text.size s ∧ (c ++ nonce ++ x).size = 16 := fun x hx => by
    have e : (c ++ nonce ++ x).toList = ccFirst nonce.toList aad.toList text.size s := by
      rw [tl_append, tl_append, hx, hcl, ccFirst, tl_size, tl_size, hfl, ← hq]
      rfl
    exact ⟨e, by rw [← tl_size, e, ccFirst_length _ _ _ _ (by rw [tl_size]; exact h13)]⟩
  have HFIN := Lib.hid hfin
  have HCS := Lib.hid hcs
  have HCc := Lib.hid hc
  have HQ := Lib.hid hq
  have I2 : Sm (¬ (aad.size : Int) < 65280) := ⟨by omega⟩
  have HAW : Sm (aad.size ≤ 70000) := ⟨ha⟩
  have hbes : ccBes aad.toList = filM (([255, 254] ++ be 4 aad.size) ++ aad.toList) := by rw [ccBes, tl_size, if_neg (by omega), if_neg (by omega)]
  have HBES := Lib.hid hbes
  clear hq hs2 hh hh8 hhq8 hf hfl hc hcs hcl hfin hcase hbes sev hf2
  go_enter Try.func39, Try.ntmps39
  go_wp2_with fail
  go_region_with ((go_at_call 49; refine (wide_any text.size q _ htw q8).mono ?_; rintro e w3 ⟨x, rfl, hx, hb3⟩; have HX := Lib.hid hx; have hov2 : ¬ 9223372036854775807 < c.size + nonce.size + x.size := (by have h1 := HCS.out; have h2 := HQ.out; have h3 : x.size = q := (by rw [← tl_size, HX.out, be_length]); omega); (first | have hcv3 := cv_after f2 hf256 c HCc.out hb3 | skip); clear hx))
  all_goals
    first
    | (have hbA := ((Below.refl w.heap.size w).alloc (Nat.le_refl _) (Obj.cells #[.int .u8 (f2 : Int)] 5)).drew.trans (hb3.mono (by simp)))
    | (have hbA := ((Below.refl w.heap.size w).drew.trans hb3).alloc hb3.size (Obj.cells #[.int .u8 (f2 : Int)] 5))
    obtain ⟨h1l, h1s⟩ := HFIN.out x HX.out
    obtain ⟨S1, hS1⟩ : ∃ S1, c ++ nonce ++ x = S1 := ⟨_, rfl⟩
    rw [hS1] at h1l h1s
    have H1L := Lib.hid h1l
    have H1S := Lib.hid h1s
    clear hcv hcvd hb3 h1l h1s hov2
    (try clear hcv3)
    rw [hS1]
    clear hS1
    (try clear d1 d2)
    clear a1 a2 b1 b2 b3 b4 b5 b6 b7 b8 b9 b10 b11 hov1 q8 htw hf256 s4 s16 h7 h13
    have i2 : decide ((aad.size : Int) < 65280) = false := decide_eq_false (by have := I2.out; omega)
    clear I2 ha
    go_wp2_with fail
    refine (wide_any aad.size 4 _ (by have := HAW.out; omega) (by decide)).mono ?_
    rintro e w4 ⟨y1, rfl, hy1, hb4⟩
    have h1z : y1.size = 4 := by rw [← tl_size, hy1, be_length]
    have hovj : ¬ 9223372036854775807 < 2 + y1.size := by omega
    have hovk : ¬ 9223372036854775807 < 2 + y1.size + aad.size := by have := HAW.out; omega
    obtain ⟨J, hJ⟩ : ∃ J, ByteArray.mk #[255, 254] ++ y1 ++ aad = J := ⟨_, rfl⟩
    have hjl : J.toList = ([255, 254] ++ be 4 aad.size) ++ aad.toList := by rw [← hJ, tl_append, tl_append, hy1, show (ByteArray.mk #[255, 254]).toList = [255, 254] from tl_mk _]
    have hjs : J.size ≤ 70006 := by rw [← tl_size, hjl, List.length_append, List.length_append, be_length, tl_size]; show 2 + 4 + _ ≤ _; have := HAW.out; omega
    have HJL := Lib.hid hjl
    have HJS := Lib.hid hjs
    have hbA4 := hbA.trans (hb4.mono hbA.size)
    clear hy1 h1z hb4 hbA hjl hjs
    go_wp2_with fail
    refine (rfilled_any J _ (by have := HJS.out; omega)).mono ?_
    rintro e w5 ⟨y2, rfl, hy2, hb5⟩
    have h2s : y2.size ≤ 71016 := by rw [← tl_size, hy2]; have h8 := filM_size J.toList; rw [tl_size] at h8; have := HJS.out; omega
    have hov5 : ¬ 9223372036854775807 < S1.size + y2.size := by have := H1S.out; omega
    obtain ⟨S2, hS2⟩ : ∃ S2, S1 ++ y2 = S2 := ⟨_, rfl⟩
    have H2L : Hid (S2.toList = ccFirst nonce.toList aad.toList text.size s ++ filM J.toList) := by show _ = _; rw [← hS2, tl_append, H1L.out, hy2]
    have H2S : Hid (S2.size ≤ 80000) := by show _ ≤ _; rw [← hS2, ByteArray.size_append, H1S.out]; omega
    have hbB := hbA4.trans (hb5.mono hbA4.size)
    clear hy2 h2s hb5 hbA4
    go_wp2_with fail
    refine (rfilled_any text _ (by omega)).mono ?_
    rintro e w6 ⟨y3, rfl, hy3, hb6⟩
    have h3s : y3.size ≤ 70016 := by rw [← tl_size, hy3]; have := filM_size text.toList; rw [tl_size] at this; omega
    have hov6 : ¬ 9223372036854775807 < S2.size + y3.size := by have := H2S.out; omega
    have HY3 := Lib.hid hy3
    clear hy3 h3s
    go_wp2_with fail
    go_ret
    exact ⟨_, rfl, by rw [tl_append, H2L.out, HY3.out, ccAll, ccHead, tl_size, HBES.out, HJL.out], hbB.trans (hb6.mono hbB.size)⟩
theorem rall_any (nonce aad text : ByteArray) (s : Nat) (w : World) (h7 : 7 ≤ nonce.size) (h13 : nonce.size ≤ 13) (s4 : 4 ≤ s) (s16 : s ≤ 16) (sev : s % 2 = 0) (ht : text.size ≤ 70000) (ha : aad.size ≤ 70000) :
    Calls Try.prog 39 #[.string nonce, .string aad, .string text, .int .i64 (s : Int)] w (RetS (ccAll nonce.toList aad.toList text.toList s) w) := by
  by_cases h0 : aad.size = 0
  · exact rall_none nonce aad text s w h7 h13 s4 s16 sev ht ha h0
  · by_cases h1 : aad.size < 65280
    · exact rall_some nonce aad text s w h7 h13 s4 s16 sev ht ha ⟨by omega, h1⟩
    · exact rall_many nonce aad text s w h7 h13 s4 s16 sev ht ha (by omega)
end Go.Proofs.Ythaajaajhddhdaa
namespace Go.Proofs.Ythaajaajhddhdaa
open Go.RowKit
set_option linter.unusedVariables false
set_option linter.unusedSimpArgs false
theorem blkL_ext (s : ByteArray) (k o e : Nat) (ho : o = 16 * k) (he : e = o + 16) : (s.extract o e).toList = blkL s.toList k := by
  rw [tl_ext, he, ho, blkL]
  congr 1
  omega
set_option maxRecDepth 100000 in
set_option maxHeartbeats 1600000 in
theorem rcctag_any (nonce aad text : ByteArray) (s g : Nat) (K : List UInt8) (w : World) (hB : Box w g K) (hK : K.length = 16 ∨ K.length = 24 ∨ K.length = 32) (h7 : 7 ≤ nonce.size) (h13 : nonce.size ≤ 13) (s4 : 4 ≤ s) (s16 : s ≤ 16) (sev : s % 2 = 0) (ht : text.size ≤ 70000) (ha : aad.size ≤ 70000) :
    Calls Try.prog 24 #[.pointer (some ⟨g, 0, none⟩), .string nonce, .string aad, .string text, .int .i64 (s : Int)] w (RetS (ccTag K nonce.toList aad.toList text.toList s) w) := by
  obtain ⟨i0, hi, hz0, hz1, hz2⟩ := info_parts info5
  have hV : nonce.toList.length ≤ 13 := by rw [tl_size]; exact h13
  obtain ⟨n, hn⟩ : ∃ n, (ccAll nonce.toList aad.toList text.toList s).length / 16 = n := ⟨_, rfl⟩
  have hal : (ccAll nonce.toList aad.toList text.toList s).length = 16 * n := by
    have h1 := ccHead_mod nonce.toList aad.toList text.toList.length s hV
    have h2 := filM_mod text.toList
    have h3 : (ccAll nonce.toList aad.toList text.toList s).length = (ccHead nonce.toList aad.toList text.toList.length s).length + (filM text.toList).length := by rw [ccAll, List.length_append]
    omega
  have hab : 16 * n ≤ 141000 := by
    have h1 := ccFirst_length nonce.toList aad.toList text.toList.length s hV
    have h2 := ccBes_size aad.toList
    have h3 := filM_size text.toList
    rw [tl_size] at h2 h3
    rw [← hal, ccAll, ccHead, List.length_append, List.length_append, h1]
    omega
  have hnb : n ≤ 8812 := by omega
  have hX : ccX K nonce.toList aad.toList text.toList s = chA K (zer 16) (ccAll nonce.toList aad.toList text.toList s) n := by rw [ccX, hn]
  have HB := Lib.hid hB
  have HK := Lib.hid hK
  have HAL := Lib.hid hal
  have HX := Lib.hid hX
  have HF := Lib.hid (bcells_made 16)
  have hby : i0.bytes * 16 ≤ 281474976710656 := by rw [hz2]; decide
  have hmax : 16 ≤ maxLen := by decide
  obtain ⟨zx, hzx⟩ : ∃ zx : ByteArray, (⟨(List.replicate 16 (0 : UInt8)).toArray⟩ : ByteArray) = zx := ⟨_, rfl⟩
  have HZX := Lib.hid hzx
  have HZL : Hid (zx.toList = zer 16) := by show _ = _; rw [← hzx, tl_mk]; rfl
  clear hB hK hn hal hab hX hV hzx
  go_enter Try.func24, Try.ntmps24
  go_wp2_with fail
  refine (rall_any nonce aad text s _ h7 h13 s4 s16 sev ht ha).mono ?_
  rintro e w1 ⟨sa, rfl, hsa, hb1⟩
  have hss : sa.size = 16 * n := by rw [← tl_size, hsa, HAL.out]
  have HSA := Lib.hid hsa
  have HSS := Lib.hid hss
  have HB1 := Lib.hid (HB.out.below hb1 (Nat.le_refl _))
  clear hsa hss
  go_wp2_with (at_make; refine wpList_make_full _ rfl (.const (.int .i64 16)) (.const (.int .i64 16)) 33 rfl w1.heap.size 5 i0 (.int .u8 0) 1 Try.underlying33 hi hz0 hz1 .i64 .i64 _ _ 16 rfl rfl rfl rfl hby hmax (Nat.le_refl _) ?_; intro w2 hown2 hgrow2; rw [HF.out] at hown2; have hcv2 := run_convert_own (P := Try.prog) hown2 33 9 Try.underlying33 Try.underlying5 Try.underlying9; rw [HZX.out] at hcv2; have hb12 := (Below.refl w1.heap.size w1).grown hgrow2 (Nat.le_refl _) (by simp); clear hown2 hgrow2)
  have hb02 := hb1.trans (hb12.mono hb1.size)
  have HB2 := Lib.hid (HB1.out.below hb12 (Nat.le_refl _))
  clear hcv2 hb1 hb12
  go_loopw [12, 13] (fun vi vo wr => ∃ (k o : Nat) (x : ByteArray), o = 16 * k ∧ vi = .string x ∧ vo = .int .i64 (o : Int) ∧ k ≤ n ∧ x.size = 16 ∧ x.toList = chA K (zer 16) (ccAll nonce.toList aad.toList text.toList s) k ∧ Below w2.heap.size w2 wr) (fun _ vo _ => 16 * n - (intOf vo).toNat)
  case atStart => exact ⟨0, 0, zx, rfl, rfl, rfl, Nat.zero_le _, by rw [← tl_size, HZL.out, zer_length], HZL.out, Below.refl _ _⟩
  case round =>
    obtain ⟨k, o, x, ho, rfl, rfl, hkn, hxs, hxl, hbel⟩ := hrel
    have HO := Lib.hid ho
    have HXS := Lib.hid hxs
    have HXL := Lib.hid hxl
    by_cases hlt : o < sa.size
    · have hltI : (o : Int) < (sa.size : Int) := by omega
      have hkn1 : k < n := by have := HSS.out; omega
      obtain ⟨e1, he⟩ : ∃ e1, e1 = o + 16 := ⟨_, rfl⟩
      have q1 : (o : Int) + 16 = (e1 : Int) := by omega
      have q2 : IntKind.i64.wrap (e1 : Int) = (e1 : Int) := wrap_in _ (by omega) (by omega)
      have q3 : (0 : Int) ≤ (o : Int) := by omega
      have q4 : (o : Int) ≤ (e1 : Int) := by omega
      have q5 : o ≤ e1 := by omega
      have q6 : (e1 : Int) ≤ (sa.size : Int) := by have := HSS.out; omega
      have q7 : e1 ≤ sa.size := by have := HSS.out; omega
      obtain ⟨bk, hbk⟩ : ∃ bk, sa.extract o e1 = bk := ⟨_, rfl⟩
      have hbl : bk.toList = blkL (ccAll nonce.toList aad.toList text.toList s) k := by rw [← hbk, blkL_ext sa k o e1 ho he, HSA.out]
      have hbs : bk.size = 16 := by rw [← tl_size, hbl, blkL_length _ _ (by rw [HAL.out]; omega)]
      have HBL := Lib.hid hbl
      have HBS := Lib.hid hbs
      have HE := Lib.hid he
      have hxz : x.size ≤ 140737488351232 := by omega
      have hbz : bk.size ≤ 140737488351232 := by omega
      clear ho hxs hxl he hbl hbs
      go_wp2_with fail
      refine (rxor_any x bk _ hxz hbz).mono ?_
      rintro e w3 ⟨y, rfl, hy, hb3⟩
      have hys : y.size = 16 := by rw [← tl_size, hy, xorL_length, tl_size, tl_size, HXS.out, HBS.out]; rfl
      have hb03 := hbel.trans (hb3.mono hbel.size)
      have HY := Lib.hid hy
      clear hy hb3
      go_wp2_with fail
      refine (rencrypt_any y _ g K (HB2.out.below hb03 (Nat.le_refl _)) HK.out hys).mono ?_
      rintro e w4 ⟨z, rfl, hz, hb4⟩
      have hzs : z.size = 16 := by rw [← tl_size, hz, encL_length]
      have hzl : z.toList = chA K (zer 16) (ccAll nonce.toList aad.toList text.toList s) (k + 1) := by rw [hz, HY.out, HXL.out, HBL.out, xorL_comm, chA]
      have hb04 := hb03.trans (hb4.mono hb03.size)
      have HZ := Lib.hid hzl
      have HZS := Lib.hid hzs
      clear hz hzl hzs hys hb4 hb03 hbel hbk
      go_wp2_with fail
      go_roundw
      case rel => exact ⟨k + 1, e1, z, by have := HE.out; have := HO.out; omega, rfl, rfl, hkn1, HZS.out, HZ.out, hb04⟩
      case measure => have := HE.out; have := HSS.out; simp [intOf]; omega
    · have hkn2 : k = n := by have := HSS.out; omega
      subst hkn2
      have hltI : ¬ (o : Int) < (sa.size : Int) := by omega
      have hXl : x.toList = ccX K nonce.toList aad.toList text.toList s := by rw [hxl, HX.out]
      have HXX := Lib.hid hXl
      have k1 : (0 : Int) ≤ (s : Int) := by omega
      clear ho hxs hxl hXl
      go_wp2_with fail
      refine (counter_any nonce 0 _ h7 h13 (by decide)).mono ?_
      rintro e w3 ⟨c, rfl, hc, hb3⟩
      have hcs : c.size = 16 := by rw [← tl_size, hc, ccCnt_length _ _ (by rw [tl_size]; exact h13)]
      have hb03 := hbel.trans (hb3.mono hbel.size)
      have HC := Lib.hid hc
      clear hc hb3
      go_wp2_with fail
      refine (rencrypt_any c _ g K (HB2.out.below hb03 (Nat.le_refl _)) HK.out hcs).mono ?_
      rintro e w4 ⟨z, rfl, hz, hb4⟩
      have hzs : z.size = 16 := by rw [← tl_size, hz, encL_length]
      have hb04 := hb03.trans (hb4.mono hb03.size)
      have HZ := Lib.hid hz
      clear hz hb4 hb03 hcs
      go_wp2_with fail
      refine (rxor_any x z _ (by have := HXS.out; omega) (by omega)).mono ?_
      rintro e w5 ⟨y, rfl, hy, hb5⟩
      have hys : y.size = 16 := by rw [← tl_size, hy, xorL_length, tl_size, tl_size, HXS.out, hzs]; rfl
      have k2 : (s : Int) ≤ (y.size : Int) := by omega
      have k3 : s ≤ y.size := by omega
      have hfin : (y.extract 0 s).toList = ccTag K nonce.toList aad.toList text.toList s := by rw [tl_ext0, hy, HXX.out, HZ.out, HC.out, ccTag]
      have HFIN := Lib.hid hfin
      have hb05 := hb04.trans (hb5.mono hb04.size)
      clear hy hys hfin hb5 hzs
      go_wp2_with fail
      go_ret
      exact ⟨_, rfl, HFIN.out, hb02.trans (hb05.mono hb02.size)⟩
end Go.Proofs.Ythaajaajhddhdaa
namespace Go.Proofs.Ythaajaajhddhdaa
open Go.RowKit
set_option linter.unusedVariables false
set_option linter.unusedSimpArgs false
theorem below_dN10 {B : Nat} {a w : World} (h : Below B a w) (n : Nat) : Below B a (w.drewN n) := ⟨h.os, h.tape, h.output, h.size, h.block⟩
/-- what comes out -/
def ccSealL (K V A T : List UInt8) (s : Int) : List UInt8 := if ccE K.length V.length A.length s (T.length : Int) = 0 then ccJoin K V T 1 ++ ccTag K V A T s.toNat else []
def ccTagL (K V A T : List UInt8) (s : Int) : List UInt8 := if ccE K.length V.length A.length s (T.length : Int) = 0 then ccTag K V A T s.toNat else []
def ccOp (K V T : List UInt8) (s : Int) : List UInt8 := ccJoin K V (T.take (T.length - s.toNat)) 1
def ccOpenE (K V A T : List UInt8) (s : Int) : Int :=
  if ccE K.length V.length A.length s ((T.length : Int) - s) = 0 then if ccTag K V A (ccOp K V T s) s.toNat = T.drop (T.length - s.toNat) then 0 else 8 else ccE K.length V.length A.length s ((T.length : Int) - s)
def ccOpenL (K V A T : List UInt8) (s : Int) : List UInt8 := if ccOpenE K V A T s = 0 then ccOp K V T s else []
set_option maxRecDepth 100000 in
set_option maxHeartbeats 1600000 in
theorem ccSeal_any (key nonce aad text : ByteArray) (s : Int) (w : World) (hz : text.size ≤ 140737488355328) : Calls Try.prog 11 #[.string key, .string nonce, .string aad, .string text, .int .i64 s] w (RetSE (ccSealL key.toList nonce.toList aad.toList text.toList s) (ccE key.size nonce.size aad.size s (text.size : Int)) w) := by
  obtain ⟨c, hc⟩ : ∃ c, ccE key.size nonce.size aad.size s (text.size : Int) = c := ⟨_, rfl⟩
  rw [ccSealL, tl_size, tl_size, tl_size, tl_size, hc]
  have HC := Lib.hid hc
  by_cases h0 : c = 0
  · rw [if_pos h0]
    subst h0
    obtain ⟨hk, h7, h13, s4, s16, sev, ha, hn0, hn7, hnv⟩ := ccE_zero hc
    obtain ⟨m, rfl⟩ := Int.eq_ofNat_of_zero_le (a := s) (by omega)
    rw [Int.toNat_natCast]
    have ht7 : text.size ≤ 70000 := by omega
    have htv : nonce.size = 13 → text.size < 65536 := fun h => by have := hnv h; omega
    have m4 : 4 ≤ m := by omega
    have m16 : m ≤ 16 := by omega
    have HTV := Lib.hid htv
    clear hc hnv htv
    go_enter Try.func11, Try.ntmps11
    go_wp2_with fail
    refine (ccmay_any key nonce aad (m : Int) (text.size : Int) _).mono ?_
    rintro e w0 ⟨rfl, rfl⟩
    rw [HC.out]
    go_wp2_with fail
    refine (joined_any key nonce text 1 _ hk h7 h13 ht7 (Nat.le_refl _)).mono ?_
    rintro e w1 ⟨x, rfl, hx, hb1⟩
    have hxs : x.size = text.size := by rw [← tl_size, hx, ccJoin, ctrL_length, tl_size]
    have HX := Lib.hid hx
    have HXS := Lib.hid hxs
    clear hx hxs
    go_wp2_with fail
    refine (cctag_any key nonce aad text m _ hk h7 h13 m4 m16 ht7 HTV.out ha).mono ?_
    rintro e w2 ⟨y, rfl, hy, hb2⟩
    have hys : y.size = m := by rw [← tl_size, hy, ccTag_length _ _ _ _ _ m16]
    have hov : ¬ 9223372036854775807 < x.size + y.size := by have := HXS.out; omega
    have HY := Lib.hid hy
    have hb12 := below2 hb1 hb2
    clear hy hys hb1 hb2
    go_wp2_with fail
    go_ret2
    exact ret_se (tl_append _ _) (by rw [HX.out, HY.out]) rfl hb12
  · rw [if_neg h0]
    have e1 : (c != 0) = true := by rw [bne_iff_ne]; exact h0
    clear hc h0
    go_enter Try.func11, Try.ntmps11
    go_wp2_with fail
    refine (ccmay_any key nonce aad s (text.size : Int) _).mono ?_
    rintro e w0 ⟨rfl, rfl⟩
    rw [HC.out]
    go_wp2_with fail
    go_ret2
    exact ret_se (tl_mk []) rfl rfl (Below.refl _ _)
set_option maxRecDepth 100000 in
set_option maxHeartbeats 1600000 in
theorem ccTag_any (key nonce aad text : ByteArray) (s : Int) (w : World) (hz : text.size ≤ 140737488355328) : Calls Try.prog 15 #[.string key, .string nonce, .string aad, .string text, .int .i64 s] w (RetSE (ccTagL key.toList nonce.toList aad.toList text.toList s) (ccE key.size nonce.size aad.size s (text.size : Int)) w) := by
  obtain ⟨c, hc⟩ : ∃ c, ccE key.size nonce.size aad.size s (text.size : Int) = c := ⟨_, rfl⟩
  rw [ccTagL, tl_size, tl_size, tl_size, tl_size, hc]
  have HC := Lib.hid hc
  by_cases h0 : c = 0
  · rw [if_pos h0]
    subst h0
    obtain ⟨hk, h7, h13, s4, s16, sev, ha, hn0, hn7, hnv⟩ := ccE_zero hc
    obtain ⟨m, rfl⟩ := Int.eq_ofNat_of_zero_le (a := s) (by omega)
    rw [Int.toNat_natCast]
    have ht7 : text.size ≤ 70000 := by omega
    have htv : nonce.size = 13 → text.size < 65536 := fun h => by have := hnv h; omega
    have m4 : 4 ≤ m := by omega
    have m16 : m ≤ 16 := by omega
    have HTV := Lib.hid htv
    clear hc hnv htv
    go_enter Try.func15, Try.ntmps15
    go_wp2_with fail
    refine (ccmay_any key nonce aad (m : Int) (text.size : Int) _).mono ?_
    rintro e w0 ⟨rfl, rfl⟩
    rw [HC.out]
    go_wp2_with fail
    refine (cctag_any key nonce aad text m _ hk h7 h13 m4 m16 ht7 HTV.out ha).mono ?_
    rintro e w2 ⟨y, rfl, hy, hb2⟩
    go_wp2_with fail
    go_ret2
    exact ret_se hy rfl rfl hb2
  · rw [if_neg h0]
    have e1 : (c != 0) = true := by rw [bne_iff_ne]; exact h0
    clear hc h0
    go_enter Try.func15, Try.ntmps15
    go_wp2_with fail
    refine (ccmay_any key nonce aad s (text.size : Int) _).mono ?_
    rintro e w0 ⟨rfl, rfl⟩
    rw [HC.out]
    go_wp2_with fail
    go_ret2
    exact ret_se (tl_mk []) rfl rfl (Below.refl _ _)
theorem ccE_size {k v a : Nat} {s : Int} (n n' : Int) (h : s < 4 ∨ 16 < s ∨ s % 2 ≠ 0) : ccE k v a s n = ccE k v a s n' := by
  unfold ccE
  split
  · split
    · rfl
    · first | rfl | rw [if_pos h, if_pos h]
  · rfl
theorem ccE_none {k v a : Nat} {s : Int} (n : Int) (h : ccE k v a s 0 ≠ 0) : ccE k v a s n = ccE k v a s 0 := by
  by_cases hk : keyOk k = true
  · by_cases hv : v < 7 ∨ 13 < v
    · rw [ccE, ccE, if_pos hk, if_pos hv, if_pos hk, if_pos hv]
    · by_cases hs : s < 4 ∨ 16 < s ∨ s % 2 ≠ 0
      · exact ccE_size _ _ hs
      · by_cases ha : 70000 < a
        · rw [ccE, ccE, if_pos hk, if_neg hv, if_neg hs, if_pos (.inl ha), if_pos hk, if_neg hv, if_neg hs, if_pos (.inl ha)]
        · exfalso
          apply h
          have hf : ccFits v 0 = true := by rw [ccFits, decide_eq_true_iff]; omega
          rw [ccE, if_pos hk, if_neg hv, if_neg hs, if_neg (by rw [hf]; simp; omega)]
  · rw [ccE, ccE, if_neg hk, if_neg hk]
set_option maxRecDepth 100000 in
set_option maxHeartbeats 1600000 in
theorem ccOpen_no (key nonce aad text : ByteArray) (s c : Int) (w : World) (hz : text.size ≤ 140737488355328) (hc : ccE key.size nonce.size aad.size s ((text.size : Int) - s) = c) (h0 : c ≠ 0) : Calls Try.prog 13 #[.string key, .string nonce, .string aad, .string text, .int .i64 s] w (RetSE [] c w) := by
  have e1 : (c != 0) = true := by rw [bne_iff_ne]; exact h0
  obtain ⟨l, hl⟩ : ∃ l, IntKind.i64.wrap ((text.size : Int) - s) = l := ⟨_, rfl⟩
  have hl2 : wrap64 ((text.size : Int) - s) = l := by first | exact hl | (rw [← hl, IntKind.wrap_i64]; rfl) | (unfold wrap64; rw [← hl, IntKind.wrap_i64])
  have hcl : ccE key.size nonce.size aad.size s l = c := by
    by_cases hs : s < 4 ∨ 16 < s ∨ s % 2 ≠ 0
    · rw [← hc]; exact ccE_size _ _ hs
    · rw [← hl, IntWalk.i64_in _ ⟨by omega, by omega⟩, hc]
  have HC := Lib.hid hcl
  clear hc h0 hcl
  go_enter Try.func13, Try.ntmps13
  go_wp2_with fail
  refine (ccmay_any key nonce aad s l _).mono ?_
  rintro e w0 ⟨rfl, rfl⟩
  rw [HC.out]
  clear hl hl2
  go_wp2_with fail
  go_ret2
  exact ret_se (tl_mk []) rfl rfl (Below.refl _ _)
set_option maxRecDepth 100000 in
set_option maxHeartbeats 1600000 in
theorem ccOpen_ok (key nonce aad text : ByteArray) (m : Nat) (b : Bool) (w : World) (hz : text.size ≤ 140737488355328) (hc : ccE key.size nonce.size aad.size (m : Int) ((text.size : Int) - (m : Int)) = 0)
    (hb : (text.toList.drop (text.size - m) == ccTag key.toList nonce.toList aad.toList (ccOp key.toList nonce.toList text.toList (m : Int)) m) = b) :
    Calls Try.prog 13 #[.string key, .string nonce, .string aad, .string text, .int .i64 (m : Int)] w (RetSE (if b then ccOp key.toList nonce.toList text.toList (m : Int) else []) (if b then 0 else 8) w) := by
  obtain ⟨hk, h7, h13, s4, s16, sev, ha, hn0, hn7, hnv⟩ := ccE_zero hc
  obtain ⟨a, had⟩ : ∃ a, a = text.size - m := ⟨_, rfl⟩
  have q1 : (text.size : Int) - (m : Int) = (a : Int) := by omega
  have q2 : IntKind.i64.wrap (a : Int) = (a : Int) := wrap_in _ (by omega) (by omega)
  have q3 : (0 : Int) ≤ (a : Int) := by omega
  have q4 : (a : Int) ≤ (text.size : Int) := by omega
  have q5 : a ≤ text.size := by omega
  rw [q1] at hc
  have HC := Lib.hid hc
  have m4 : 4 ≤ m := by omega
  have m16 : m ≤ 16 := by omega
  obtain ⟨pc, hpc⟩ : ∃ pc, text.extract 0 a = pc := ⟨_, rfl⟩
  obtain ⟨tg, htg⟩ : ∃ tg, text.extract a text.size = tg := ⟨_, rfl⟩
  have hpl : pc.toList = text.toList.take a := by rw [← hpc, tl_ext0]
  have hps : pc.size ≤ 70000 := by rw [← tl_size, hpl, List.length_take, tl_size]; omega
  have hpa : pc.size = a := by rw [← tl_size, hpl, List.length_take, tl_size]; omega
  have htl : tg.toList = text.toList.drop a := by rw [← htg, tl_extE _ _ _ rfl]
  have htm : tg.size ≤ maxLen := by rw [← tl_size, htl, List.length_drop, tl_size]; unfold maxLen; omega
  have hop : ccJoin key.toList nonce.toList pc.toList 1 = ccOp key.toList nonce.toList text.toList (m : Int) := by rw [ccOp, hpl, tl_size, Int.toNat_natCast, had]
  have hb2 : (tg.toList == ccTag key.toList nonce.toList aad.toList (ccOp key.toList nonce.toList text.toList (m : Int)) m) = b := by rw [htl, had]; exact hb
  have hpv : nonce.size = 13 → pc.size < 65536 := fun h => by have := hnv h; omega
  have HOP := Lib.hid hop
  have HB2 := Lib.hid hb2
  have HPV := Lib.hid hpv
  have HPA := Lib.hid hpa
  have HTM := Lib.hid htm
  clear hc hnv hpl hpa htl htm hop hb hb2 hpv had sev
  cases b
  · show Calls _ _ _ _ (RetSE [] 8 w)
    go_enter Try.func13, Try.ntmps13
    go_wp2_with fail
    refine (ccmay_any key nonce aad (m : Int) (a : Int) _).mono ?_
    rintro e w0 ⟨rfl, rfl⟩
    rw [HC.out]
    go_wp2_with fail
    refine (joined_any key nonce pc 1 _ hk h7 h13 hps (Nat.le_refl _)).mono ?_
    rintro e w1 ⟨o, rfl, ho, hb1⟩
    have hos : o.size = pc.size := by rw [← tl_size, ho, ccJoin, ctrL_length, tl_size]
    have HOS : Hid (o.size ≤ 70000) := by show _ ≤ _; omega
    have HOV : Hid (nonce.size = 13 → o.size < 65536) := by show _ → _; rw [hos]; exact HPV.out
    have HO : Hid (o.toList = ccOp key.toList nonce.toList text.toList (m : Int)) := by show _ = _; rw [ho, HOP.out]
    clear ho hos
    go_wp2_with fail
    go_region_held3 (fun _ => True) (trivial) (first | (go_at_call 20; refine (cctag_any key nonce aad o m _ hk h7 h13 m4 m16 HOS.out HOV.out ha).mono ?_; rintro e w2 ⟨tt, rfl, htt, hb2⟩; have HTT := Lib.hid htt; have hts : tt.size ≤ maxLen := (by rw [← tl_size, htt, ccTag_length _ _ _ _ _ m16]; unfold maxLen; omega); have HTS := Lib.hid hts; clear htt hts) | (go_at_call 25; refine (same_any tg tt _ HTM.out HTS.out).mono ?_; rintro e w3 ⟨rfl, n3, rfl⟩; rw [HTT.out, HO.out, HB2.out]))
    have hb12 := hb1.trans (((Below.refl w1.heap.size w1).drew.trans hb2).mono hb1.size)
    clear hb1 hb2
    go_wp2_with fail
    go_ret2
    exact ret_se (tl_mk []) rfl rfl (below_dN10 hb12 _)
  · show Calls _ _ _ _ (RetSE (ccOp key.toList nonce.toList text.toList (m : Int)) 0 w)
    go_enter Try.func13, Try.ntmps13
    go_wp2_with fail
    refine (ccmay_any key nonce aad (m : Int) (a : Int) _).mono ?_
    rintro e w0 ⟨rfl, rfl⟩
    rw [HC.out]
    go_wp2_with fail
    refine (joined_any key nonce pc 1 _ hk h7 h13 hps (Nat.le_refl _)).mono ?_
    rintro e w1 ⟨o, rfl, ho, hb1⟩
    have hos : o.size = pc.size := by rw [← tl_size, ho, ccJoin, ctrL_length, tl_size]
    have HOS : Hid (o.size ≤ 70000) := by show _ ≤ _; omega
    have HOV : Hid (nonce.size = 13 → o.size < 65536) := by show _ → _; rw [hos]; exact HPV.out
    have HO : Hid (o.toList = ccOp key.toList nonce.toList text.toList (m : Int)) := by show _ = _; rw [ho, HOP.out]
    clear ho hos
    go_wp2_with fail
    go_region_held3 (fun _ => True) (trivial) (first | (go_at_call 20; refine (cctag_any key nonce aad o m _ hk h7 h13 m4 m16 HOS.out HOV.out ha).mono ?_; rintro e w2 ⟨tt, rfl, htt, hb2⟩; have HTT := Lib.hid htt; have hts : tt.size ≤ maxLen := (by rw [← tl_size, htt, ccTag_length _ _ _ _ _ m16]; unfold maxLen; omega); have HTS := Lib.hid hts; clear htt hts) | (go_at_call 25; refine (same_any tg tt _ HTM.out HTS.out).mono ?_; rintro e w3 ⟨rfl, n3, rfl⟩; rw [HTT.out, HO.out, HB2.out]))
    have hb12 := hb1.trans (((Below.refl w1.heap.size w1).drew.trans hb2).mono hb1.size)
    clear hb1 hb2
    go_wp2_with fail
    go_ret2
    exact ret_se HO.out rfl rfl (below_dN10 hb12 _)
theorem ccOpen_any (key nonce aad text : ByteArray) (s : Int) (w : World) (hz : text.size ≤ 140737488355328) : Calls Try.prog 13 #[.string key, .string nonce, .string aad, .string text, .int .i64 s] w (RetSE (ccOpenL key.toList nonce.toList aad.toList text.toList s) (ccOpenE key.toList nonce.toList aad.toList text.toList s) w) := by
  obtain ⟨c, hc⟩ : ∃ c, ccE key.size nonce.size aad.size s ((text.size : Int) - s) = c := ⟨_, rfl⟩
  rw [ccOpenL, ccOpenE, tl_size, tl_size, tl_size, tl_size, hc]
  by_cases h0 : c = 0
  · subst h0
    have hz' := ccE_zero hc
    obtain ⟨m, rfl⟩ := Int.eq_ofNat_of_zero_le (a := s) (by omega)
    rw [if_pos rfl, Int.toNat_natCast]
    obtain ⟨b, hb⟩ : ∃ b, (text.toList.drop (text.size - m) == ccTag key.toList nonce.toList aad.toList (ccOp key.toList nonce.toList text.toList (m : Int)) m) = b := ⟨_, rfl⟩
    have h := ccOpen_ok key nonce aad text m b w hz hc hb
    cases b
    · have hne : ¬ ccTag key.toList nonce.toList aad.toList (ccOp key.toList nonce.toList text.toList (m : Int)) m = text.toList.drop (text.size - m) := fun e => by rw [e, beq_self_eq_true] at hb; cases hb
      rw [if_neg hne, if_neg (by decide)]
      exact h
    · have he : ccTag key.toList nonce.toList aad.toList (ccOp key.toList nonce.toList text.toList (m : Int)) m = text.toList.drop (text.size - m) := (eq_of_beq hb).symm
      rw [if_pos he, if_pos rfl]
      exact h
  · rw [if_neg h0, if_neg h0]
    exact ccOpen_no key nonce aad text s c w hz hc h0
end Go.Proofs.Ythaajaajhddhdaa
namespace Go.Proofs.Ythaajaajhddhdaa
open Go.RowKit
set_option linter.unusedVariables false
set_option linter.unusedSimpArgs false
set_option maxRecDepth 100000 in
set_option maxHeartbeats 1600000 in
theorem rccSeal_any (key nonce aad text : ByteArray) (s : Int) (w : World) (hz : text.size ≤ 140737488355328) : Calls Try.prog 12 #[.string key, .string nonce, .string aad, .string text, .int .i64 s] w (RetSE (ccSealL key.toList nonce.toList aad.toList text.toList s) (ccE key.size nonce.size aad.size s (text.size : Int)) w) := by
  obtain ⟨c, hc⟩ : ∃ c, ccE key.size nonce.size aad.size s (text.size : Int) = c := ⟨_, rfl⟩
  rw [ccSealL, tl_size, tl_size, tl_size, tl_size, hc]
  have HC := Lib.hid hc
  by_cases h0 : c = 0
  · rw [if_pos h0]
    subst h0
    obtain ⟨hk, h7, h13, s4, s16, sev, ha, hn0, hn7, hnv⟩ := ccE_zero hc
    obtain ⟨m, rfl⟩ := Int.eq_ofNat_of_zero_le (a := s) (by omega)
    rw [Int.toNat_natCast]
    have hK : Hid (key.toList.length = 16 ∨ key.toList.length = 24 ∨ key.toList.length = 32) := by rw [tl_size]; exact hk
    have ht7 : text.size ≤ 70000 := by omega
    have m4 : 4 ≤ m := by omega
    have m16 : m ≤ 16 := by omega
    have MEV : Hid (m % 2 = 0) := by show _ = _; omega
    clear hc hnv sev
    go_enter Try.func12, Try.ntmps12
    go_wp2_with fail
    refine (wrong10_any key nonce aad (m : Int) (text.size : Int) _).mono ?_
    rintro e w0 ⟨rfl, rfl⟩
    rw [HC.out]
    go_wp2_with fail
    refine (rnew_any key _ hk).mono ?_
    rintro e w1 ⟨g, hg, rfl, hB, hb1⟩
    have HB := Lib.hid hB
    clear hB
    go_wp2_with fail
    refine (rccxor_any nonce text g key.toList _ HB.out hK.out h7 h13 ht7).mono ?_
    rintro e w2 ⟨x, rfl, hx, hb2⟩
    have hxs : x.size = text.size := by rw [← tl_size, hx, ccJoin, ctrL_length, tl_size]
    have HX := Lib.hid hx
    have HXS := Lib.hid hxs
    have HB2 := Lib.hid (HB.out.below hb2 (Nat.le_refl _))
    have hb12 := below2 hb1 hb2
    clear hx hxs hb1 hb2
    go_wp2_with fail
    refine (rcctag_any nonce aad text m g key.toList _ HB2.out hK.out h7 h13 m4 m16 MEV.out ht7 ha).mono ?_
    rintro e w3 ⟨y, rfl, hy, hb3⟩
    have hys : y.size = m := by rw [← tl_size, hy, ccTag_length _ _ _ _ _ m16]
    have hov : ¬ 9223372036854775807 < x.size + y.size := by have := HXS.out; omega
    have HY := Lib.hid hy
    have hb13 := below2 hb12 hb3
    clear hy hys hb12 hb3
    go_wp2_with fail
    go_ret2
    exact ret_se (tl_append _ _) (by rw [HX.out, HY.out]) rfl hb13
  · rw [if_neg h0]
    have e1 : (c != 0) = true := by rw [bne_iff_ne]; exact h0
    clear hc h0
    go_enter Try.func12, Try.ntmps12
    go_wp2_with fail
    refine (wrong10_any key nonce aad s (text.size : Int) _).mono ?_
    rintro e w0 ⟨rfl, rfl⟩
    rw [HC.out]
    go_wp2_with fail
    go_ret2
    exact ret_se (tl_mk []) rfl rfl (Below.refl _ _)
set_option maxRecDepth 100000 in
set_option maxHeartbeats 1600000 in
theorem rccTag_any (key nonce aad text : ByteArray) (s : Int) (w : World) (hz : text.size ≤ 140737488355328) : Calls Try.prog 16 #[.string key, .string nonce, .string aad, .string text, .int .i64 s] w (RetSE (ccTagL key.toList nonce.toList aad.toList text.toList s) (ccE key.size nonce.size aad.size s (text.size : Int)) w) := by
  obtain ⟨c, hc⟩ : ∃ c, ccE key.size nonce.size aad.size s (text.size : Int) = c := ⟨_, rfl⟩
  rw [ccTagL, tl_size, tl_size, tl_size, tl_size, hc]
  have HC := Lib.hid hc
  by_cases h0 : c = 0
  · rw [if_pos h0]
    subst h0
    obtain ⟨hk, h7, h13, s4, s16, sev, ha, hn0, hn7, hnv⟩ := ccE_zero hc
    obtain ⟨m, rfl⟩ := Int.eq_ofNat_of_zero_le (a := s) (by omega)
    rw [Int.toNat_natCast]
    have hK : Hid (key.toList.length = 16 ∨ key.toList.length = 24 ∨ key.toList.length = 32) := by rw [tl_size]; exact hk
    have ht7 : text.size ≤ 70000 := by omega
    have m4 : 4 ≤ m := by omega
    have m16 : m ≤ 16 := by omega
    have MEV : Hid (m % 2 = 0) := by show _ = _; omega
    clear hc hnv sev
    go_enter Try.func16, Try.ntmps16
    go_wp2_with fail
    refine (wrong10_any key nonce aad (m : Int) (text.size : Int) _).mono ?_
    rintro e w0 ⟨rfl, rfl⟩
    rw [HC.out]
    go_wp2_with fail
    refine (rnew_any key _ hk).mono ?_
    rintro e w1 ⟨g, hg, rfl, hB, hb1⟩
    have HB := Lib.hid hB
    clear hB
    go_wp2_with fail
    refine (rcctag_any nonce aad text m g key.toList _ HB.out hK.out h7 h13 m4 m16 MEV.out ht7 ha).mono ?_
    rintro e w3 ⟨y, rfl, hy, hb3⟩
    have hb13 := below2 hb1 hb3
    clear hb1 hb3
    go_wp2_with fail
    go_ret2
    exact ret_se hy rfl rfl hb13
  · rw [if_neg h0]
    have e1 : (c != 0) = true := by rw [bne_iff_ne]; exact h0
    clear hc h0
    go_enter Try.func16, Try.ntmps16
    go_wp2_with fail
    refine (wrong10_any key nonce aad s (text.size : Int) _).mono ?_
    rintro e w0 ⟨rfl, rfl⟩
    rw [HC.out]
    go_wp2_with fail
    go_ret2
    exact ret_se (tl_mk []) rfl rfl (Below.refl _ _)
set_option maxRecDepth 100000 in
set_option maxHeartbeats 1600000 in
theorem rccOpen_first (key nonce aad text : ByteArray) (s c : Int) (w : World) (hc : ccE key.size nonce.size aad.size s 0 = c) (h0 : c ≠ 0) : Calls Try.prog 14 #[.string key, .string nonce, .string aad, .string text, .int .i64 s] w (RetSE [] c w) := by
  have e1 : (c != 0) = true := by rw [bne_iff_ne]; exact h0
  have HC := Lib.hid hc
  clear hc h0
  go_enter Try.func14, Try.ntmps14
  go_wp2_with fail
  refine (wrong10_any key nonce aad s 0 _).mono ?_
  rintro e w0 ⟨rfl, rfl⟩
  rw [HC.out]
  go_wp2_with fail
  go_ret2
  exact ret_se (tl_mk []) rfl rfl (Below.refl _ _)
set_option maxRecDepth 100000 in
set_option maxHeartbeats 1600000 in
theorem rccOpen_short (key nonce aad text : ByteArray) (s : Int) (w : World) (hc : ccE key.size nonce.size aad.size s 0 = 0) (hs : (text.size : Int) < s) : Calls Try.prog 14 #[.string key, .string nonce, .string aad, .string text, .int .i64 s] w (RetSE [] 6 w) := by
  have HC := Lib.hid hc
  clear hc
  go_enter Try.func14, Try.ntmps14
  go_wp2_with fail
  refine (wrong10_any key nonce aad s 0 _).mono ?_
  rintro e w0 ⟨rfl, rfl⟩
  rw [HC.out]
  go_wp2_with fail
  go_ret2
  exact ret_se (tl_mk []) rfl rfl (Below.refl _ _)
set_option maxRecDepth 100000 in
set_option maxHeartbeats 1600000 in
theorem rccOpen_no (key nonce aad text : ByteArray) (m : Nat) (c : Int) (w : World) (hz : text.size ≤ 140737488355328) (hc : ccE key.size nonce.size aad.size (m : Int) 0 = 0) (hs : m ≤ text.size) (hc2 : ccE key.size nonce.size aad.size (m : Int) ((text.size : Int) - (m : Int)) = c) (h0 : c ≠ 0) : Calls Try.prog 14 #[.string key, .string nonce, .string aad, .string text, .int .i64 (m : Int)] w (RetSE [] c w) := by
  have e1 : (c != 0) = true := by rw [bne_iff_ne]; exact h0
  have HC := Lib.hid hc
  obtain ⟨a, had⟩ : ∃ a, a = text.size - m := ⟨_, rfl⟩
  have q1 : (text.size : Int) - (m : Int) = (a : Int) := by omega
  have q2 : IntKind.i64.wrap (a : Int) = (a : Int) := wrap_in _ (by omega) (by omega)
  have q3 : ¬ (text.size : Int) < (m : Int) := by omega
  rw [q1] at hc2
  have HC2 := Lib.hid hc2
  clear hc hc2 h0 had
  go_enter Try.func14, Try.ntmps14
  go_wp2_with fail
  refine (wrong10_any key nonce aad (m : Int) 0 _).mono ?_
  rintro e w0 ⟨rfl, rfl⟩
  rw [HC.out]
  go_wp2_with fail
  refine (wrong10_any key nonce aad (m : Int) (a : Int) _).mono ?_
  rintro e w0 ⟨rfl, rfl⟩
  rw [HC2.out]
  go_wp2_with fail
  go_ret2
  exact ret_se (tl_mk []) rfl rfl (Below.refl _ _)
set_option maxRecDepth 100000 in
set_option maxHeartbeats 1600000 in
theorem rccOpen_ok (key nonce aad text : ByteArray) (m : Nat) (b : Bool) (w : World) (hz : text.size ≤ 140737488355328) (hc0 : ccE key.size nonce.size aad.size (m : Int) 0 = 0) (hc : ccE key.size nonce.size aad.size (m : Int) ((text.size : Int) - (m : Int)) = 0)
    (hb : (text.toList.drop (text.size - m) == ccTag key.toList nonce.toList aad.toList (ccOp key.toList nonce.toList text.toList (m : Int)) m) = b) :
    Calls Try.prog 14 #[.string key, .string nonce, .string aad, .string text, .int .i64 (m : Int)] w (RetSE (if b then ccOp key.toList nonce.toList text.toList (m : Int) else []) (if b then 0 else 8) w) := by
  obtain ⟨hk, h7, h13, s4, s16, sev, ha, hn0, hn7, hnv⟩ := ccE_zero hc
  have hK : Hid (key.toList.length = 16 ∨ key.toList.length = 24 ∨ key.toList.length = 32) := by rw [tl_size]; exact hk
  obtain ⟨a, had⟩ : ∃ a, a = text.size - m := ⟨_, rfl⟩
  have q1 : (text.size : Int) - (m : Int) = (a : Int) := by omega
  have q2 : IntKind.i64.wrap (a : Int) = (a : Int) := wrap_in _ (by omega) (by omega)
  have q3 : (0 : Int) ≤ (a : Int) := by omega
  have q4 : (a : Int) ≤ (text.size : Int) := by omega
  have q5 : a ≤ text.size := by omega
  have q6 : ¬ (text.size : Int) < (m : Int) := by omega
  rw [q1] at hc
  have HC := Lib.hid hc
  have HC0 := Lib.hid hc0
  have m4 : 4 ≤ m := by omega
  have m16 : m ≤ 16 := by omega
  have MEV : Hid (m % 2 = 0) := by show _ = _; omega
  obtain ⟨pc, hpc⟩ : ∃ pc, text.extract 0 a = pc := ⟨_, rfl⟩
  obtain ⟨tg, htg⟩ : ∃ tg, text.extract a text.size = tg := ⟨_, rfl⟩
  have hpl : pc.toList = text.toList.take a := by rw [← hpc, tl_ext0]
  have hps : pc.size ≤ 70000 := by rw [← tl_size, hpl, List.length_take, tl_size]; omega
  have htl : tg.toList = text.toList.drop a := by rw [← htg, tl_extE _ _ _ rfl]
  have hop : ccJoin key.toList nonce.toList pc.toList 1 = ccOp key.toList nonce.toList text.toList (m : Int) := by rw [ccOp, hpl, tl_size, Int.toNat_natCast, had]
  have hb2 : (tg.toList == ccTag key.toList nonce.toList aad.toList (ccOp key.toList nonce.toList text.toList (m : Int)) m) = b := by rw [htl, had]; exact hb
  have HOP := Lib.hid hop
  have HB2 := Lib.hid hb2
  clear hc hc0 hnv hpl htl hop hb hb2 had sev
  cases b
  · show Calls _ _ _ _ (RetSE [] 8 w)
    go_enter Try.func14, Try.ntmps14
    go_wp2_with fail
    refine (wrong10_any key nonce aad (m : Int) 0 _).mono ?_
    rintro e w0 ⟨rfl, rfl⟩
    rw [HC0.out]
    go_wp2_with fail
    refine (wrong10_any key nonce aad (m : Int) (a : Int) _).mono ?_
    rintro e w0 ⟨rfl, rfl⟩
    rw [HC.out]
    go_wp2_with fail
    refine (rnew_any key _ hk).mono ?_
    rintro e w1 ⟨g, hg, rfl, hB, hb1⟩
    have HB := Lib.hid hB
    clear hB
    go_wp2_with fail
    refine (rccxor_any nonce pc g key.toList _ HB.out hK.out h7 h13 hps).mono ?_
    rintro e w2 ⟨o, rfl, ho, hb2⟩
    have hos : o.size = pc.size := by rw [← tl_size, ho, ccJoin, ctrL_length, tl_size]
    have HOS : Hid (o.size ≤ 70000) := by show _ ≤ _; omega
    have HO : Hid (o.toList = ccOp key.toList nonce.toList text.toList (m : Int)) := by show _ = _; rw [ho, HOP.out]
    have hb12 := below2 hb1 hb2
    have HBD : Hid (Box w2.drew g key.toList) := HB.out.below hb2.drew (Nat.le_refl _)
    clear ho hos hb1 hb2
    go_wp2_with fail
    go_region_held3 (fun _ => True) (trivial) (first | (go_at_call 24; refine (rcctag_any nonce aad o m g key.toList _ HBD.out hK.out h7 h13 m4 m16 MEV.out HOS.out ha).mono ?_; rintro e w3 ⟨tt, rfl, htt, hb3⟩; have hne : (tt.toList == tg.toList) = false := (by rw [htt, HO.out, beq_eq_false_iff_ne]; intro hq; have := HB2.out; rw [hq, beq_self_eq_true] at this; cases this); have hne2 : tt ≠ tg := (fun hq => by rw [hq, beq_self_eq_true] at hne; cases hne); clear htt))
    have hb13 := hb12.trans (((Below.refl w2.heap.size w2).drew.trans hb3).mono hb12.size)
    clear hb12 hb3
    go_wp2_with fail
    go_ret2
    exact ret_se (tl_mk []) rfl rfl hb13
  · show Calls _ _ _ _ (RetSE (ccOp key.toList nonce.toList text.toList (m : Int)) 0 w)
    go_enter Try.func14, Try.ntmps14
    go_wp2_with fail
    refine (wrong10_any key nonce aad (m : Int) 0 _).mono ?_
    rintro e w0 ⟨rfl, rfl⟩
    rw [HC0.out]
    go_wp2_with fail
    refine (wrong10_any key nonce aad (m : Int) (a : Int) _).mono ?_
    rintro e w0 ⟨rfl, rfl⟩
    rw [HC.out]
    go_wp2_with fail
    refine (rnew_any key _ hk).mono ?_
    rintro e w1 ⟨g, hg, rfl, hB, hb1⟩
    have HB := Lib.hid hB
    clear hB
    go_wp2_with fail
    refine (rccxor_any nonce pc g key.toList _ HB.out hK.out h7 h13 hps).mono ?_
    rintro e w2 ⟨o, rfl, ho, hb2⟩
    have hos : o.size = pc.size := by rw [← tl_size, ho, ccJoin, ctrL_length, tl_size]
    have HOS : Hid (o.size ≤ 70000) := by show _ ≤ _; omega
    have HO : Hid (o.toList = ccOp key.toList nonce.toList text.toList (m : Int)) := by show _ = _; rw [ho, HOP.out]
    have hb12 := below2 hb1 hb2
    have HBD : Hid (Box w2.drew g key.toList) := HB.out.below hb2.drew (Nat.le_refl _)
    clear ho hos hb1 hb2
    go_wp2_with fail
    go_region_held3 (fun _ => True) (trivial) (first | (go_at_call 24; refine (rcctag_any nonce aad o m g key.toList _ HBD.out hK.out h7 h13 m4 m16 MEV.out HOS.out ha).mono ?_; rintro e w3 ⟨tt, rfl, htt, hb3⟩; have htq : tt = tg := (tl_inj (by rw [htt, HO.out]; exact (eq_of_beq HB2.out).symm)); subst htq; clear htt))
    have hb13 := hb12.trans (((Below.refl w2.heap.size w2).drew.trans hb3).mono hb12.size)
    clear hb12 hb3
    go_wp2_with fail
    go_ret2
    exact ret_se HO.out rfl rfl hb13
theorem rccOpen_any (key nonce aad text : ByteArray) (s : Int) (w : World) (hz : text.size ≤ 140737488355328) : Calls Try.prog 14 #[.string key, .string nonce, .string aad, .string text, .int .i64 s] w (RetSE (ccOpenL key.toList nonce.toList aad.toList text.toList s) (ccOpenE key.toList nonce.toList aad.toList text.toList s) w) := by
  obtain ⟨c0, hc0⟩ : ∃ c, ccE key.size nonce.size aad.size s 0 = c := ⟨_, rfl⟩
  by_cases h00 : c0 = 0
  · subst h00
    have hz0 := ccE_zero hc0
    obtain ⟨m, rfl⟩ := Int.eq_ofNat_of_zero_le (a := s) (by omega)
    obtain ⟨c, hc⟩ : ∃ c, ccE key.size nonce.size aad.size (m : Int) ((text.size : Int) - (m : Int)) = c := ⟨_, rfl⟩
    rw [ccOpenL, ccOpenE, tl_size, tl_size, tl_size, tl_size, hc]
    by_cases hs : m ≤ text.size
    · by_cases h0 : c = 0
      · subst h0
        rw [if_pos rfl, Int.toNat_natCast]
        obtain ⟨b, hb⟩ : ∃ b, (text.toList.drop (text.size - m) == ccTag key.toList nonce.toList aad.toList (ccOp key.toList nonce.toList text.toList (m : Int)) m) = b := ⟨_, rfl⟩
        have h := rccOpen_ok key nonce aad text m b w hz hc0 hc hb
        cases b
        · have hne : ¬ ccTag key.toList nonce.toList aad.toList (ccOp key.toList nonce.toList text.toList (m : Int)) m = text.toList.drop (text.size - m) := fun e => by rw [e, beq_self_eq_true] at hb; cases hb
          rw [if_neg hne, if_neg (by decide)]
          exact h
        · have he : ccTag key.toList nonce.toList aad.toList (ccOp key.toList nonce.toList text.toList (m : Int)) m = text.toList.drop (text.size - m) := (eq_of_beq hb).symm
          rw [if_pos he, if_pos rfl]
          exact h
      · rw [if_neg h0, if_neg h0]
        exact rccOpen_no key nonce aad text m c w hz hc0 hs hc h0
    · have hf : ccFits nonce.size ((text.size : Int) - (m : Int)) = false := by rw [ccFits, decide_eq_false_iff_not]; omega
      have h6 : c = 6 := by
        rw [← hc, ccE_fits hz0.1 (by omega) (by omega) (by omega), hf]
        rfl
      have e6 : ¬ (6 : Int) = 0 := by decide
      rw [h6, if_neg e6, if_neg e6]
      exact rccOpen_short key nonce aad text (m : Int) w hc0 (by omega)
  · have hE : ccE key.toList.length nonce.toList.length aad.toList.length s ((text.toList.length : Int) - s) = c0 := by
      rw [tl_size, tl_size, tl_size, ccE_none _ (by rw [hc0]; exact h00), hc0]
    have hO : ccOpenE key.toList nonce.toList aad.toList text.toList s = c0 := by rw [ccOpenE, hE, if_neg h00]
    rw [ccOpenL, hO, if_neg h00]
    exact rccOpen_first key nonce aad text s c0 w hc0 h00
end Go.Proofs.Ythaajaajhddhdaa
namespace Go.Proofs.Ythaajaajhddhdaa
open Go.RowKit
set_option linter.unusedVariables false
def cxK : List UInt8 := [64, 65, 66, 67, 68, 69, 70, 71, 72, 73, 74, 75, 76, 77, 78, 79]
def cxV : List UInt8 := [16, 17, 18, 19, 20, 21, 22]
def cxA : List UInt8 := [0, 1, 2, 3, 4, 5, 6, 7]
def cxT : List UInt8 := [32, 33, 34, 35]
set_option maxRecDepth 100000 in
theorem ccEx : ccJoin cxK cxV cxT 1 ++ ccTag cxK cxV cxA cxT 4 = [113, 98, 1, 91, 77, 172, 37, 93] := by decide +kernel
end Go.Proofs.Ythaajaajhddhdaa
namespace Go.Proofs.Ythaajaajhddhdaa
open Go.RowKit
set_option linter.unusedVariables false
set_option linter.unusedSimpArgs false
/-- a box in memory -/
def Bx (w : World) (B : Nat) (key nonce aad : ByteArray) (s : Int) : Prop :=
  w.cell? ⟨B, 0, none⟩ = some (.string key) ∧ w.cell? ⟨B, 1, none⟩ = some (.string nonce) ∧ w.cell? ⟨B, 2, none⟩ = some (.string aad) ∧ w.cell? ⟨B, 3, none⟩ = some (.int .i64 s)
theorem Bx.below {w w' : World} {B B' : Nat} {key nonce aad : ByteArray} {s : Int} (h : Bx w B key nonce aad s) (hb : Below B' w w') (hB : B < B') : Bx w' B key nonce aad s :=
  ⟨(hb.cell (p := ⟨B, 0, none⟩) hB).trans h.1, (hb.cell (p := ⟨B, 1, none⟩) hB).trans h.2.1, (hb.cell (p := ⟨B, 2, none⟩) hB).trans h.2.2.1, (hb.cell (p := ⟨B, 3, none⟩) hB).trans h.2.2.2⟩
theorem box_bx (w : World) (key nonce aad : ByteArray) (s : Int) : ∃ w0, w.alloc (Obj.cells #[.string key, .string nonce, .string aad, .int .i64 s] 23) = w0 ∧ Bx w0 w.heap.size key nonce aad s ∧ Below w.heap.size w w0 ∧ w.heap.size < w0.heap.size := by
  have h := At.ofAlloc w #[.string key, .string nonce, .string aad, .int .i64 s] 23
  exact ⟨_, rfl, ⟨h.cell 0 _ rfl, h.cell 1 _ rfl, h.cell 2 _ rfl, h.cell 3 _ rfl⟩, (Below.refl _ _).alloc (Nat.le_refl _) _, by simp⟩
def RetBb (w : World) (e : Ending) (w' : World) : Prop := ∃ b : Bool, e = .returned (.bool b) ∧ Below w.heap.size w w'
set_option maxRecDepth 100000 in
set_option maxHeartbeats 1600000 in
theorem bxlong_any (key nonce aad text : ByteArray) (s : Int) (w : World) : Calls Try.prog 10 #[.agg #[.string key, .string nonce, .string aad, .int .i64 s], .string text] w (RetBb w) := by
  by_cases h1 : (1000 : Int) < (aad.size : Int)
  · by_cases h2 : (aad.size : Int) ≤ 70000
    · go_enter Try.func10, Try.ntmps10
      go_wp2_with fail
      go_ret
      exact ⟨_, rfl, (Below.refl _ _).alloc (Nat.le_refl _) _⟩
    · by_cases h3 : (1000 : Int) < (text.size : Int)
      · by_cases h4 : (text.size : Int) ≤ 70016
        all_goals
          go_enter Try.func10, Try.ntmps10
          go_wp2_with fail
          go_ret
          exact ⟨_, rfl, (Below.refl _ _).alloc (Nat.le_refl _) _⟩
      · go_enter Try.func10, Try.ntmps10
        go_wp2_with fail
        go_ret
        exact ⟨_, rfl, (Below.refl _ _).alloc (Nat.le_refl _) _⟩
  · by_cases h3 : (1000 : Int) < (text.size : Int)
    · by_cases h4 : (text.size : Int) ≤ 70016
      all_goals
        go_enter Try.func10, Try.ntmps10
        go_wp2_with fail
        go_ret
        exact ⟨_, rfl, (Below.refl _ _).alloc (Nat.le_refl _) _⟩
    · go_enter Try.func10, Try.ntmps10
      go_wp2_with fail
      go_ret
      exact ⟨_, rfl, (Below.refl _ _).alloc (Nat.le_refl _) _⟩
set_option maxRecDepth 100000 in
set_option maxHeartbeats 3200000 in
theorem wakes10_any (w : World) : Calls Try.prog 9 #[] w (RetT w) := by
  obtain ⟨k, hk⟩ : ∃ k : ByteArray, k = ⟨#[64, 65, 66, 67, 68, 69, 70, 71, 72, 73, 74, 75, 76, 77, 78, 79]⟩ := ⟨_, rfl⟩
  obtain ⟨v, hv⟩ : ∃ v : ByteArray, v = ⟨#[16, 17, 18, 19, 20, 21, 22]⟩ := ⟨_, rfl⟩
  obtain ⟨a, ha⟩ : ∃ a : ByteArray, a = ⟨#[0, 1, 2, 3, 4, 5, 6, 7]⟩ := ⟨_, rfl⟩
  obtain ⟨t, ht⟩ : ∃ t : ByteArray, t = ⟨#[32, 33, 34, 35]⟩ := ⟨_, rfl⟩
  have hkl : k.toList = cxK := by rw [hk]; exact tl_mk _
  have hvl : v.toList = cxV := by rw [hv]; exact tl_mk _
  have hal : a.toList = cxA := by rw [ha]; exact tl_mk _
  have htl : t.toList = cxT := by rw [ht]; exact tl_mk _
  have hts : t.size = 4 := by rw [ht]; rfl
  have hE : ccE k.size v.size a.size 4 (t.size : Int) = 0 := by rw [hk, hv, ha, hts]; decide
  have hL : ccSealL k.toList v.toList a.toList t.toList 4 = [113, 98, 1, 91, 77, 172, 37, 93] := by
    rw [ccSealL, tl_size, tl_size, tl_size, tl_size, hE, if_pos rfl, hkl, hvl, hal, htl]
    exact ccEx
  have HW := Lib.hid (fun w => ccSeal_any k v a t 4 w (by omega))
  have HW2 := HW.out
  rw [hE, hL] at HW2
  rw [hk, hv, ha, ht] at HW2
  have HW3 := Lib.hid HW2
  clear hk hv ha ht hkl hvl hal htl hts hE hL HW HW2
  go_enter Try.func9, Try.ntmps9
  go_wp2_with fail
  refine (HW3.out _).mono ?_
  rintro e w1 ⟨x, rfl, hx, hb1⟩
  obtain rfl : x = ByteArray.mk #[113, 98, 1, 91, 77, 172, 37, 93] := tl_inj (by rw [hx]; exact (tl_mk _).symm)
  clear hx
  go_wp2_with fail
  go_ret
  exact ⟨rfl, hb1⟩
end Go.Proofs.Ythaajaajhddhdaa
namespace Go.Proofs.Ythaajaajhddhdaa
open Go.RowKit
set_option linter.unusedVariables false
set_option linter.unusedSimpArgs false
set_option maxRecDepth 100000 in
set_option maxHeartbeats 1600000 in
theorem ccmSeals_walk (key nonce aad : ByteArray) (s : Int) (text : ByteArray) (zt : text.size ≤ 140737488351232) (w : World) : Calls Try.prog 3 #[.agg #[.string key, .string nonce, .string aad, .int .i64 s], .string text] w (RetT w) := by
  obtain ⟨c, hc⟩ : ∃ c, ccE key.size nonce.size aad.size s (text.size : Int) = c := ⟨_, rfl⟩
  have HC := Lib.hid hc
  have HZ : Hid (text.size ≤ 140737488355328) := by show _ ≤ _; omega
  clear hc
  go_enter Try.func3, Try.ntmps3
  go_wp2_with fail
  obtain ⟨w0, hw0, hX, hb0, hl0⟩ := box_bx w key nonce aad s
  rw [hw0]
  obtain ⟨B, hB⟩ : ∃ B, w.heap.size = B := ⟨_, rfl⟩
  rw [hB] at hX hl0 ⊢
  have HB := Lib.hid hB
  clear hw0 hB
  refine (wakes10_any _).mono ?_
  rintro e w1 ⟨rfl, hb1⟩
  have hl1 : B < w1.heap.size := Nat.lt_of_lt_of_le hl0 hb1.size
  have HX1 := Lib.hid (hX.below hb1 hl0)
  obtain ⟨hc0, hc1, hc2, hc3⟩ := HX1.out
  have hb01 := below2 hb0 hb1
  clear hX hb0 hb1 hl0
  go_wp2_with fail
  refine (bxlong_any key nonce aad text s _).mono ?_
  rintro e w2 ⟨b, rfl, hb2⟩
  have hl2 : B < w2.heap.size := Nat.lt_of_lt_of_le hl1 hb2.size
  have HX2 := Lib.hid (HX1.out.below hb2 hl1)
  have hb02 := below2 hb01 hb2
  clear hc0 hc1 hc2 hc3 hb01 hb2 hl1 HX1
  obtain ⟨hc0, hc1, hc2, hc3⟩ := HX2.out
  cases b
  · go_wp2_with fail
    refine (ccSeal_any key nonce aad text s _ HZ.out).mono ?_
    rintro e w3 ⟨x1, rfl, hx1, hb3⟩
    rw [HC.out]
    have HX1L := Lib.hid hx1
    have hl3 : B < w3.heap.size := Nat.lt_of_lt_of_le hl2 hb3.size
    have HX3 := Lib.hid (HX2.out.below hb3 hl2)
    have hb03 := below2 hb02 hb3
    clear hc0 hc1 hc2 hc3 hb02 hb3 hl2 HX2
    obtain ⟨hc0, hc1, hc2, hc3⟩ := HX3.out
    clear hx1
    go_wp2_with fail
    refine (rccSeal_any key nonce aad text s _ HZ.out).mono ?_
    rintro e w4 ⟨x2, rfl, hx2, hb4⟩
    rw [HC.out]
    obtain rfl : x1 = x2 := tl_inj (by rw [HX1L.out, hx2])
    have hb04 := below2 hb03 hb4
    clear hx2 hc0 hc1 hc2 hc3 hb4 hb03
    go_wp2_with fail
    go_ret
    exact ⟨rfl, hb04⟩
  · clear hc0 hc1 hc2 hc3
    go_wp2_with fail
    go_ret
    exact ⟨rfl, hb02⟩
set_option maxRecDepth 100000 in
set_option maxHeartbeats 1600000 in
theorem ccmOpens_walk (key nonce aad : ByteArray) (s : Int) (text : ByteArray) (zt : text.size ≤ 140737488351232) (w : World) : Calls Try.prog 4 #[.agg #[.string key, .string nonce, .string aad, .int .i64 s], .string text] w (RetT w) := by
  obtain ⟨c, hc⟩ : ∃ c, ccOpenE key.toList nonce.toList aad.toList text.toList s = c := ⟨_, rfl⟩
  have HC := Lib.hid hc
  have HZ : Hid (text.size ≤ 140737488355328) := by show _ ≤ _; omega
  clear hc
  go_enter Try.func4, Try.ntmps4
  go_wp2_with fail
  obtain ⟨w0, hw0, hX, hb0, hl0⟩ := box_bx w key nonce aad s
  rw [hw0]
  obtain ⟨B, hB⟩ : ∃ B, w.heap.size = B := ⟨_, rfl⟩
  rw [hB] at hX hl0 ⊢
  have HB := Lib.hid hB
  clear hw0 hB
  refine (wakes10_any _).mono ?_
  rintro e w1 ⟨rfl, hb1⟩
  have hl1 : B < w1.heap.size := Nat.lt_of_lt_of_le hl0 hb1.size
  have HX1 := Lib.hid (hX.below hb1 hl0)
  obtain ⟨hc0, hc1, hc2, hc3⟩ := HX1.out
  have hb01 := below2 hb0 hb1
  clear hX hb0 hb1 hl0
  go_wp2_with fail
  refine (bxlong_any key nonce aad text s _).mono ?_
  rintro e w2 ⟨b, rfl, hb2⟩
  have hl2 : B < w2.heap.size := Nat.lt_of_lt_of_le hl1 hb2.size
  have HX2 := Lib.hid (HX1.out.below hb2 hl1)
  have hb02 := below2 hb01 hb2
  clear hc0 hc1 hc2 hc3 hb01 hb2 hl1 HX1
  obtain ⟨hc0, hc1, hc2, hc3⟩ := HX2.out
  cases b
  · go_wp2_with fail
    refine (ccOpen_any key nonce aad text s _ HZ.out).mono ?_
    rintro e w3 ⟨x1, rfl, hx1, hb3⟩
    rw [HC.out]
    have HX1L := Lib.hid hx1
    have hl3 : B < w3.heap.size := Nat.lt_of_lt_of_le hl2 hb3.size
    have HX3 := Lib.hid (HX2.out.below hb3 hl2)
    have hb03 := below2 hb02 hb3
    clear hc0 hc1 hc2 hc3 hb02 hb3 hl2 HX2
    obtain ⟨hc0, hc1, hc2, hc3⟩ := HX3.out
    clear hx1
    go_wp2_with fail
    refine (rccOpen_any key nonce aad text s _ HZ.out).mono ?_
    rintro e w4 ⟨x2, rfl, hx2, hb4⟩
    rw [HC.out]
    obtain rfl : x1 = x2 := tl_inj (by rw [HX1L.out, hx2])
    have hb04 := below2 hb03 hb4
    clear hx2 hc0 hc1 hc2 hc3 hb4 hb03
    go_wp2_with fail
    go_ret
    exact ⟨rfl, hb04⟩
  · clear hc0 hc1 hc2 hc3
    go_wp2_with fail
    go_ret
    exact ⟨rfl, hb02⟩
set_option maxRecDepth 100000 in
set_option maxHeartbeats 1600000 in
theorem ccmTags_walk (key nonce aad : ByteArray) (s : Int) (text : ByteArray) (zt : text.size ≤ 140737488351232) (w : World) : Calls Try.prog 5 #[.agg #[.string key, .string nonce, .string aad, .int .i64 s], .string text] w (RetT w) := by
  obtain ⟨c, hc⟩ : ∃ c, ccE key.size nonce.size aad.size s (text.size : Int) = c := ⟨_, rfl⟩
  have HC := Lib.hid hc
  have HZ : Hid (text.size ≤ 140737488355328) := by show _ ≤ _; omega
  clear hc
  go_enter Try.func5, Try.ntmps5
  go_wp2_with fail
  obtain ⟨w0, hw0, hX, hb0, hl0⟩ := box_bx w key nonce aad s
  rw [hw0]
  obtain ⟨B, hB⟩ : ∃ B, w.heap.size = B := ⟨_, rfl⟩
  rw [hB] at hX hl0 ⊢
  have HB := Lib.hid hB
  clear hw0 hB
  refine (wakes10_any _).mono ?_
  rintro e w1 ⟨rfl, hb1⟩
  have hl1 : B < w1.heap.size := Nat.lt_of_lt_of_le hl0 hb1.size
  have HX1 := Lib.hid (hX.below hb1 hl0)
  obtain ⟨hc0, hc1, hc2, hc3⟩ := HX1.out
  have hb01 := below2 hb0 hb1
  clear hX hb0 hb1 hl0
  go_wp2_with fail
  refine (bxlong_any key nonce aad text s _).mono ?_
  rintro e w2 ⟨b, rfl, hb2⟩
  have hl2 : B < w2.heap.size := Nat.lt_of_lt_of_le hl1 hb2.size
  have HX2 := Lib.hid (HX1.out.below hb2 hl1)
  have hb02 := below2 hb01 hb2
  clear hc0 hc1 hc2 hc3 hb01 hb2 hl1 HX1
  obtain ⟨hc0, hc1, hc2, hc3⟩ := HX2.out
  cases b
  · go_wp2_with fail
    refine (ccTag_any key nonce aad text s _ HZ.out).mono ?_
    rintro e w3 ⟨x1, rfl, hx1, hb3⟩
    rw [HC.out]
    have HX1L := Lib.hid hx1
    have hl3 : B < w3.heap.size := Nat.lt_of_lt_of_le hl2 hb3.size
    have HX3 := Lib.hid (HX2.out.below hb3 hl2)
    have hb03 := below2 hb02 hb3
    clear hc0 hc1 hc2 hc3 hb02 hb3 hl2 HX2
    obtain ⟨hc0, hc1, hc2, hc3⟩ := HX3.out
    clear hx1
    go_wp2_with fail
    refine (rccTag_any key nonce aad text s _ HZ.out).mono ?_
    rintro e w4 ⟨x2, rfl, hx2, hb4⟩
    rw [HC.out]
    obtain rfl : x1 = x2 := tl_inj (by rw [HX1L.out, hx2])
    have hb04 := below2 hb03 hb4
    clear hx2 hc0 hc1 hc2 hc3 hb4 hb03
    go_wp2_with fail
    go_ret
    exact ⟨rfl, hb04⟩
  · clear hc0 hc1 hc2 hc3
    go_wp2_with fail
    go_ret
    exact ⟨rfl, hb02⟩
theorem ccBack (K V A T : List UInt8) (m : Nat) (h : ccE K.length V.length A.length (m : Int) (T.length : Int) = 0) :
    (ccSealL K V A T (m : Int)).length = T.length + m ∧ ccOpenE K V A (ccSealL K V A T (m : Int)) (m : Int) = 0 ∧ ccOpenL K V A (ccSealL K V A T (m : Int)) (m : Int) = T := by
  obtain ⟨hk, h7, h13, s4, s16, sev, ha, hn0, hn7, hnv⟩ := ccE_zero h
  have m16 : m ≤ 16 := by omega
  have hS : ccSealL K V A T (m : Int) = ccJoin K V T 1 ++ ccTag K V A T m := by rw [ccSealL, if_pos h, Int.toNat_natCast]
  have hj : (ccJoin K V T 1).length = T.length := by rw [ccJoin, ctrL_length]
  have ht : (ccTag K V A T m).length = m := ccTag_length _ _ _ _ _ m16
  have hl : (ccSealL K V A T (m : Int)).length = T.length + m := by rw [hS, List.length_append, hj, ht]
  have hE : ccE K.length V.length A.length (m : Int) (((ccSealL K V A T (m : Int)).length : Int) - (m : Int)) = 0 := by
    rw [hl, show ((T.length + m : Nat) : Int) - (m : Int) = (T.length : Int) by omega]
    exact h
  have hO : ccOp K V (ccSealL K V A T (m : Int)) (m : Int) = T := by
    rw [ccOp, Int.toNat_natCast, hl, Nat.add_sub_cancel, hS, List.take_left' hj, ccJoin, ccJoin, ctrL_twice]
  have hD : (ccSealL K V A T (m : Int)).drop ((ccSealL K V A T (m : Int)).length - m) = ccTag K V A T m := by
    rw [hl, Nat.add_sub_cancel, hS, List.drop_left' hj]
  have hOE : ccOpenE K V A (ccSealL K V A T (m : Int)) (m : Int) = 0 := by
    rw [ccOpenE, if_pos hE, hO, Int.toNat_natCast, hD, if_pos rfl]
  exact ⟨hl, hOE, by rw [ccOpenL, if_pos hOE, hO]⟩
theorem emptyB {s : ByteArray} (h : s.toList = []) : s = ByteArray.mk #[] := tl_inj (by rw [h]; exact (tl_mk []).symm)
set_option maxRecDepth 100000 in
set_option maxHeartbeats 1600000 in
theorem ccmBack_walk (key nonce aad : ByteArray) (s : Int) (text : ByteArray) (zt : text.size ≤ 140737488351232) (w : World) : Calls Try.prog 6 #[.agg #[.string key, .string nonce, .string aad, .int .i64 s], .string text] w (RetT w) := by
  obtain ⟨c, hc⟩ : ∃ c, ccE key.size nonce.size aad.size s (text.size : Int) = c := ⟨_, rfl⟩
  have HC := Lib.hid hc
  have HZ : Hid (text.size ≤ 140737488355328) := by show _ ≤ _; omega
  by_cases h0 : c = 0
  · subst h0
    have hz := ccE_zero hc
    obtain ⟨s, rfl⟩ := Int.eq_ofNat_of_zero_le (a := s) (by omega)
    have hbk := ccBack key.toList nonce.toList aad.toList text.toList s (by rw [tl_size, tl_size, tl_size, tl_size]; exact hc)
    have HBK := Lib.hid hbk
    have ht7 : text.size ≤ 70000 := by omega
    have hs16 : s ≤ 16 := by omega
    have n1 : IntKind.i64.wrap ((text.size : Int) + (s : Int)) = (text.size : Int) + (s : Int) := wrap_in _ (by omega) (by omega)
    clear hc hz hbk
    go_enter Try.func6, Try.ntmps6
    go_wp2_with fail
    obtain ⟨w0, hw0, hX, hb0, hl0⟩ := box_bx w key nonce aad (s : Int)
    rw [hw0]
    obtain ⟨B, hB⟩ : ∃ B, w.heap.size = B := ⟨_, rfl⟩
    rw [hB] at hX hl0 ⊢
    have HB := Lib.hid hB
    clear hw0 hB
    refine (wakes10_any _).mono ?_
    rintro e w1 ⟨rfl, hb1⟩
    have hl1 : B < w1.heap.size := Nat.lt_of_lt_of_le hl0 hb1.size
    have HX1 := Lib.hid (hX.below hb1 hl0)
    obtain ⟨hc0, hc1, hc2, hc3⟩ := HX1.out
    have hb01 := below2 hb0 hb1
    clear hX hb0 hb1 hl0
    go_wp2_with fail
    refine (ccSeal_any key nonce aad text (s : Int) _ HZ.out).mono ?_
    rintro e w2 ⟨x, rfl, hx, hb2⟩
    rw [HC.out]
    have hxs : x.size = text.size + s := by rw [← tl_size, hx, HBK.out.1, tl_size]
    have HXX := Lib.hid hx
    have HXS := Lib.hid hxs
    have hl2 : B < w2.heap.size := Nat.lt_of_lt_of_le hl1 hb2.size
    have HX2 := Lib.hid (HX1.out.below hb2 hl1)
    have hb02 := below2 hb01 hb2
    clear hc0 hc1 hc2 hc3 hb01 hb2 hl1 HX1
    obtain ⟨hc0, hc1, hc2, hc3⟩ := HX2.out
    clear hx hxs
    go_wp2_with fail
    refine (ccOpen_any key nonce aad x (s : Int) _ (by have := HXS.out; omega)).mono ?_
    rintro e w3 ⟨t, rfl, ht, hb3⟩
    rw [HXX.out, HBK.out.2.1]
    rw [HXX.out, HBK.out.2.2] at ht
    obtain rfl := tl_inj ht
    have hl3 : B < w3.heap.size := Nat.lt_of_lt_of_le hl2 hb3.size
    have HX3 := Lib.hid (HX2.out.below hb3 hl2)
    have hb03 := below2 hb02 hb3
    clear hc0 hc1 hc2 hc3 hb02 hb3 hl2 HX2
    obtain ⟨hc0, hc1, hc2, hc3⟩ := HX3.out
    have hxe : ((x.size : Int) == (t.size : Int) + (s : Int)) = true := by rw [beq_iff_eq]; have := HXS.out; omega
    clear ht
    go_wp2_with fail
    go_ret
    exact ⟨rfl, hb03⟩
  · have e1 : (c != 0) = true := by rw [bne_iff_ne]; exact h0
    have HL : Hid (ccSealL key.toList nonce.toList aad.toList text.toList s = []) := by show _ = _; rw [ccSealL, tl_size, tl_size, tl_size, tl_size, hc, if_neg h0]
    clear hc h0
    go_enter Try.func6, Try.ntmps6
    go_wp2_with fail
    obtain ⟨w0, hw0, hX, hb0, hl0⟩ := box_bx w key nonce aad s
    rw [hw0]
    obtain ⟨B, hB⟩ : ∃ B, w.heap.size = B := ⟨_, rfl⟩
    rw [hB] at hX hl0 ⊢
    have HB := Lib.hid hB
    clear hw0 hB
    refine (wakes10_any _).mono ?_
    rintro e w1 ⟨rfl, hb1⟩
    have hl1 : B < w1.heap.size := Nat.lt_of_lt_of_le hl0 hb1.size
    have HX1 := Lib.hid (hX.below hb1 hl0)
    obtain ⟨hc0, hc1, hc2, hc3⟩ := HX1.out
    have hb01 := below2 hb0 hb1
    clear hX hb0 hb1 hl0
    go_wp2_with fail
    refine (ccSeal_any key nonce aad text s _ HZ.out).mono ?_
    rintro e w2 ⟨x, rfl, hx, hb2⟩
    rw [HC.out]
    rw [HL.out] at hx
    obtain rfl := emptyB hx
    have hb02 := below2 hb01 hb2
    clear hx hb2 hb01 hc0 hc1 hc2 hc3
    go_wp2_with fail
    go_ret
    exact ⟨rfl, hb02⟩
end Go.Proofs.Ythaajaajhddhdaa
