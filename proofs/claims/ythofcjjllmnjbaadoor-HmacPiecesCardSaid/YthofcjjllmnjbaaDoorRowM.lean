/- '[]byte(s)': a row with the run-time's mark behind its end. -/
import Derived.Test.YthofcjjllmnjbaaDoorBase
namespace Go.Proofs.YthofcjjllmnjbaaDoor
open Go.RowKit
set_option linter.unusedVariables false
set_option linter.unusedSimpArgs false
/-- block g begins with the bytes l; the mark, if any, lies behind them -/
def MRow (w : World) (g e : Nat) (l : List UInt8) : Prop := ∃ cs lo hi, w.heap[g]? = some (.cells cs e (lo, hi)) ∧ cs.toList.take l.length = bcells l ∧ (l.length ≤ lo ∨ hi = 0)
theorem MRow.cell {w : World} {g e : Nat} {l : List UInt8} (h : MRow w g e l) (k : Nat) (hk : k < l.length) :
    ∃ u : UInt8, l[k]? = some u ∧ w.cell? ⟨g, k, none⟩ = some (.int .u8 (u.toNat : Int)) ∧ w.frozen? ⟨g, k, none⟩ = false := by
  obtain ⟨cs, lo, hi, hg, ht, hlo⟩ := h
  refine ⟨l[k], List.getElem?_eq_getElem hk, ?_, ?_⟩
  · rw [cell_of_row w g k cs e (lo, hi) hg, ← bcells_get l k hk, ← ht, List.getElem?_take, if_pos hk]
    simp
  · simp [World.frozen?, hg]
    omega
theorem MRow.store {w : World} {g e : Nat} {l : List UInt8} (h : MRow w g e l) (k : Nat) (u : UInt8) : MRow (w.setCell ⟨g, k, none⟩ (.int .u8 (u.toNat : Int))) g e (l.set k u) := by
  obtain ⟨cs, lo, hi, hg, ht, hlo⟩ := h
  refine ⟨cs.setIfInBounds k (.int .u8 (u.toNat : Int)), lo, hi, ?_, ?_, by simpa using hlo⟩
  · simp [World.setCell, Array.getElem?_modify, hg]
  · rw [Array.toList_setIfInBounds, List.length_set, List.take_set, ht, bcells_set]
theorem MRow.drew {w : World} {g e : Nat} {l : List UInt8} (h : MRow w g e l) : MRow w.drew g e l := h
theorem MRow.convert {P : Program} {w : World} {g e : Nat} {l : List UInt8} (h : MRow w g e l) (src dst : TypeId) (n cap : Nat) (hn : l.length = n)
    (hs : P.underlying src = some (.slice e)) (he : P.underlying e = some (.int .u8)) (hd : P.underlying dst = some .string) : (convert src dst (.slice (some ⟨g, 0, none⟩) n cap)).run P w = .ok (.string ⟨l.toArray⟩) w := by
  subst hn
  refine run_convert_bytes_back w src dst e ⟨g, 0, none⟩ cap l hs he hd fun j hj => ?_
  obtain ⟨u, hu, hc, _⟩ := h.cell j hj
  rw [List.getElem?_eq_getElem hj] at hu
  cases hu
  have : (⟨g, 0, none⟩ : Addr).add j = ⟨g, j, none⟩ := by unfold Addr.add; split <;> simp_all
  rw [this]
  exact hc
/-- a row that is written over place by place -/
def ovr (f g : Nat → UInt8) (n : Nat) (p : Nat → Bool) : List UInt8 := (List.range n).map fun i => if p i then f i else g i
theorem ovr_length (f g : Nat → UInt8) (n : Nat) (p : Nat → Bool) : (ovr f g n p).length = n := by simp [ovr]
theorem ovr_none (f g : Nat → UInt8) (n : Nat) (p : Nat → Bool) (l : List UInt8) (hl : l.length = n) (h : ∀ i, i < n → p i = false) (hg : ∀ i, i < n → l[i]? = some (g i)) : ovr f g n p = l := by
  apply List.ext_getElem?
  intro i
  by_cases hi : i < n
  · simp [ovr, hi, h i hi, hg i hi]
  · rw [List.getElem?_eq_none (by rw [ovr_length]; omega), List.getElem?_eq_none (by omega)]
theorem ovr_all (f g : Nat → UInt8) (n : Nat) (p : Nat → Bool) (h : ∀ i, i < n → p i = true) : ovr f g n p = (List.range n).map f := by
  apply List.ext_getElem
  · simp [ovr]
  · intro i h1 h2
    have : i < n := by simpa [ovr] using h1
    simp [ovr, h i this]
theorem ovr_set (f g : Nat → UInt8) (n : Nat) (p q : Nat → Bool) (j : Nat) (h : ∀ i, i < n → q i = (p i || i == j)) : (ovr f g n p).set j (f j) = ovr f g n q := by
  apply List.ext_getElem
  · simp [ovr]
  · intro i h1 h2
    have hi : i < n := by simpa [ovr] using h2
    have hq := h i hi
    rw [List.getElem_set]
    by_cases e : j = i
    · subst e
      simp [ovr, hq]
    · have e' : ¬ i = j := fun x => e x.symm
      rw [if_neg e]
      simp [ovr, hq, e']
theorem ovr_get (f g : Nat → UInt8) (n : Nat) (p : Nat → Bool) (i : Nat) (hi : i < n) : (ovr f g n p)[i]? = some (if p i then f i else g i) := by simp [ovr, hi]
theorem ovr_store {w : World} {b e n : Nat} {f g : Nat → UInt8} {p : Nat → Bool} (h : MRow w b e (ovr f g n p)) (j : Nat) (u : UInt8) (hu : u = f j) (q : Nat → Bool) (hq : ∀ i, i < n → q i = (p i || i == j)) :
    MRow (w.setCell ⟨b, j, none⟩ (.int .u8 (u.toNat : Int))) b e (ovr f g n q) := by
  have h1 := h.store j u
  rw [hu, ovr_set f g n p q j hq] at h1
  rw [hu]
  exact h1
theorem wpList_bytes_u8 {P : Program} (w : World) {ops : Array Oper} {rest : List Oper} {o : Oper} {a : Act} {Q : Exit → Act → World → Prop}
    (hg : o.guard = none) (x : Operand) (src dst e : TypeId) (hop : o.op = Op.convert src dst x) (h1 : P.underlying src = some .string) (h2 : P.underlying dst = some (.slice e)) (h3 : P.underlying e = some (.int .u8))
    (s : ByteArray) (hx : a.eval x = .string s)
    (hK : ∀ cap w', MRow w' w.heap.size e s.toList → s.size ≤ cap → Below w.heap.size w w' → w'.heap.size = w.heap.size + 1 → wpList P ops Q rest (a.put o.dst (.slice (some ⟨w.heap.size, 0, none⟩) s.size cap)) w') :
    wpList P ops Q (o :: rest) a w := by
  refine wpList_plain hg fun K hK' => ?_
  have hrun := run_bytes_of_string (P := P) w src dst e s h1 h2 h3
  unfold Oper.wp
  simp [execOp, hop, hx, hrun, Result.andThen]
  refine hK' _ _ (hK _ _ ⟨bytesRow s (grownCap w s.size 0 e), _, _, heap_alloc_new w _, ?_, ?_⟩ (grownCap_ge _ _ _ _) ((Below.refl _ _).drew.alloc (Nat.le_refl _) _) (by simp))
  · have hl : s.toList.length = (s.data.map (fun b => Value.int .u8 (b.toNat : Int))).toList.length := by rw [Lib.toList_data]; simp
    unfold bytesRow
    rw [Array.toList_append, hl, List.take_left]
    rw [Lib.toList_data]
    simp [bcells]
  · left
    rw [tl_size]
    have : s.data.size = s.size := rfl
    simp [bytesRow, this]
/-- a call of a function with a body, as one step of a region that draws its order: by the callee's contract -/
theorem step_call {P : Program} {w : World} {ops : Array Oper} {o : Oper} {a : Act} {K : Act → World → Prop} {Q : Exit → Act → World → Prop} {E : Prop} (hgd : Region.wanted o (yielded ops a.tmps) = true)
    (f : FuncId) (xs : Array Operand) (ats : Array TypeId) (ho : o.op = .call { callee := .value (.func f), args := xs, argTypes := ats }) (he : ∀ vs w, (callFunc f vs).run P w = .ok (.enter f vs) w)
    (vs : Array Value) (hv : #[] ++ xs.map a.eval ++ #[] = vs) (R : Ending → World → Prop) (hC : Calls P f vs w R) (h : ∀ e w', R e w' → ∃ v, e = .returned v ∧ K (a.put o.dst v) w') :
    if Region.wanted o (yielded ops a.tmps) = true then Oper.wp P o a w K Q else E := by
  rw [if_pos hgd]
  subst hv
  unfold Oper.wp
  have e1 : execOp a.eval o = callFunc f (#[] ++ xs.map a.eval ++ #[]) := by
    obtain ⟨dst, op, type, pos, after, guard⟩ := o
    simp only at ho
    subst ho
    rfl
  rw [e1, he, Oper.upon_enter]
  refine hC.mono fun e w' hR => ?_
  obtain ⟨v, rfl, hk⟩ := h e w' hR
  exact hk
section
variable {P : Program} {w : World} {ops : Array Oper} {o : Oper} {a : Act} {K : Act → World → Prop} {Q : Exit → Act → World → Prop} {E : Prop}
theorem step_call1 (f : FuncId) (x : Operand) (ats : Array TypeId) (ho : o.op = .call { callee := .value (.func f), args := #[x], argTypes := ats }) (hgd : Region.wanted o (yielded ops a.tmps) = true)
    (he : ∀ vs w, (callFunc f vs).run P w = .ok (.enter f vs) w) (v : Value) (hv : a.eval x = v) (R : Ending → World → Prop) (hC : Calls P f #[v] w R) (h : ∀ e w', R e w' → ∃ v, e = .returned v ∧ K (a.put o.dst v) w') :
    if Region.wanted o (yielded ops a.tmps) = true then Oper.wp P o a w K Q else E := by
  subst hv
  exact step_call hgd f #[x] ats ho he #[a.eval x] (by simp) R hC h
theorem step_call2 (f : FuncId) (x y : Operand) (ats : Array TypeId) (ho : o.op = .call { callee := .value (.func f), args := #[x, y], argTypes := ats }) (hgd : Region.wanted o (yielded ops a.tmps) = true)
    (he : ∀ vs w, (callFunc f vs).run P w = .ok (.enter f vs) w) (v : Value) (hv : a.eval x = v) (u : Value) (hu : a.eval y = u) (R : Ending → World → Prop) (hC : Calls P f #[v, u] w R) (h : ∀ e w', R e w' → ∃ v, e = .returned v ∧ K (a.put o.dst v) w') :
    if Region.wanted o (yielded ops a.tmps) = true then Oper.wp P o a w K Q else E := by
  subst hv hu
  exact step_call hgd f #[x, y] ats ho he #[a.eval x, a.eval y] (by simp) R hC h
theorem step_call0 (f : FuncId) (ats : Array TypeId) (ho : o.op = .call { callee := .value (.func f), args := #[], argTypes := ats }) (hgd : Region.wanted o (yielded ops a.tmps) = true)
    (he : ∀ vs w, (callFunc f vs).run P w = .ok (.enter f vs) w) (R : Ending → World → Prop) (hC : Calls P f #[] w R) (h : ∀ e w', R e w' → ∃ v, e = .returned v ∧ K (a.put o.dst v) w') :
    if Region.wanted o (yielded ops a.tmps) = true then Oper.wp P o a w K Q else E :=
  step_call hgd f #[] ats ho he #[] (by simp) R hC h
/-- append to a row of the call's own, as one step of a region that draws its order: elements of any kind -/
theorem step_append_gen (hgd : o.guard = none) (s x : Operand) (t : TypeId)
    (ho : o.op = .call { callee := .builtin .append, args := #[s, x], argTypes := #[t, t] })
    (base : Nat) (e : TypeId) (i : TypeInfo) (z : Value) (size bytes : Nat) (ht : P.underlying t = some (.slice e)) (hi : P.info? e = some i) (hz : i.zero = some z) (hsize : i.size = size) (hby : i.bytes = bytes) (hzs : z.cells.size = size) (hsz : 0 < size)
    (v : Value) (n : Nat) (xs : List Value) (hs : a.eval s = v) (hown : w.ownsRow base e size v n xs)
    (g m c : Nat) (news : List Value) (hx : a.eval x = .slice (some ⟨g, 0, none⟩) m c) (hl : news.length = m * size) (hcell : ∀ j u, news[j]? = some u → w.cell? ((⟨g, 0, none⟩ : Addr).add j) = some u) (h1 : ∀ u ∈ news, u.oneCell' = true)
    (h63 : n + m ≤ maxLen) (hbytes : (n + m) * bytes ≤ 140737488355328) (hbase : base ≤ w.heap.size)
    (h : ∀ v' w', w'.ownsRow base e size v' (n + m) (xs ++ news) → w.grownBy w' v.ownBlock → K (a.put o.dst v') w') :
    if Region.wanted o (yielded ops a.tmps) = true then Oper.wp P o a w K Q else E := by
  have hw : Region.wanted o (yielded ops a.tmps) = true := by simp [Region.wanted, hgd]
  rw [if_pos hw]
  exact wp_append_own w s x t ho base e i z size bytes ht hi hz hsize hby hzs hsz v n xs hs hown ⟨g, 0, none⟩ m c news hx hl hcell h1 h63 hbytes hbase fun v' w' h2 h3 _ => h v' w' h2 h3
end
end Go.Proofs.YthofcjjllmnjbaaDoor
