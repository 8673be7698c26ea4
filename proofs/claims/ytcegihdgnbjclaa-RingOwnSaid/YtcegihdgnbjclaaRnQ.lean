/- Keys by their names: the map, its entries and rows of entries in memory. -/
import Derived.Test.YtcegihdgnbjclaaRnP
import Derived.Test.YtcegihdgnbjclaaRowI
import Derived.Test.YtcegihdgnbjclaaRowS
import Derived.Sort.OwnSorted
import Derived.Maps.RangeWalk
namespace Go.Proofs.Ytcegihdgnbjclaa
open Go.RowKit
open Go.Proofs (encStr)
set_option linter.unusedVariables false
set_option linter.unusedSimpArgs false
namespace Rn
theorem strK : Go.Maps.Keyed Try.prog 9 := Go.Maps.string_keyed Try.underlying9
/-- how an element of the map reads: the block of a place, or nothing -/
def ptrElem (v : Value) : Option (DataW Unit × List MemPlace) := match v with
  | .pointer none => some (.lit (.int .i64 (-1)), [])
  | .pointer (some ⟨p, 0, none⟩) => some (.lit (.int .i64 (p : Int)), [])
  | _ => none
def pv (o : Option Nat) : Value := .pointer (o.map fun p => ⟨p, 0, none⟩)
def pn (o : Option Nat) : Int := match o with | some p => (p : Int) | none => -1
theorem pn_inj {a b : Option Nat} (h : pn a = pn b) : a = b := by
  cases a <;> cases b <;> simp only [pn] at h
  · rfl
  · omega
  · omega
  · congr 1; omega
theorem ptrElem_pv (o : Option Nat) : ptrElem (pv o) = some (.lit (.int .i64 (pn o)), []) := by cases o <;> rfl
theorem ptrElem_inv {v : Value} {z : DataW Unit × List MemPlace} (h : ptrElem v = some z) : ∃ o, v = pv o ∧ z = (.lit (.int .i64 (pn o)), []) := by
  unfold ptrElem at h
  split at h
  · cases h; exact ⟨none, rfl, rfl⟩
  · cases h; exact ⟨some _, rfl, rfl⟩
  · cases h
theorem zeroP (w : World) : (zeroValue 67).run Try.prog w = .ok (.pointer none) w := by kernel_rfl
/-- the block of a name's place -/
def blk (x : List UInt8) (L : List En) (ps : List Nat) : Option Nat := (plc x L).bind fun i => ps[i]?
/-- block b is a map of these names to the blocks of their places -/
def Pm (w : World) (b : Nat) (ps : List Nat) (L : List En) : Prop :=
  ∃ D : DataW Unit, w.ownsMap Try.prog 9 ptrElem b L.length D ∧ (∀ x, D.atKey (.string x) (.lit (.int .i64 (-1))) = .lit (.int .i64 (pn (blk x L ps)))) ∧ (∀ x, Go.Maps.has D (.string x) = decide (x ∈ names L)) ∧ Go.Maps.size D = L.length
theorem Pm.made (w : World) : Pm (w.alloc (.map #[] 0)) w.heap.size [] [] := ⟨_, World.ownsMap_made _ _ _ _, fun x => rfl, fun x => rfl, rfl⟩
theorem Pm.lt {w : World} {b : Nat} {ps : List Nat} {L : List En} (h : Pm w b ps L) : b < w.heap.size := by
  obtain ⟨D, h, -⟩ := h
  exact h.lt
theorem Pm.obj {w : World} {b : Nat} {ps : List Nat} {L : List En} (h : Pm w b ps L) : ∃ es clock, w.heap[b]? = some (.map es clock) := by
  obtain ⟨D, ⟨es, clock, h, _⟩, -⟩ := h
  exact ⟨es, clock, h⟩
theorem Pm.same {w w' : World} {b : Nat} {ps : List Nat} {L : List En} (h : Pm w b ps L) (hs : w'.heap[b]? = w.heap[b]?) : Pm w' b ps L := by
  obtain ⟨D, ⟨es, clock, h1, h3⟩, h2⟩ := h
  exact ⟨D, ⟨es, clock, hs.trans h1, h3⟩, h2⟩
theorem Pm.kept {w w' : World} {b : Nat} {ps : List Nat} {L : List En} {row : Option Nat} (h : Pm w b ps L) (hg : w.grownBy w' row) (hne : some b ≠ row) : Pm w' b ps L := h.same (hg.block b h.lt hne)
theorem Pm.ne_at {w : World} {b g o : Nat} {ps : List Nat} {L : List En} {c : Value} {cs : List Value} (h : Pm w b ps L) (hA : At w g o (c :: cs)) : b ≠ g := by
  intro e
  subst e
  obtain ⟨es, clock, hb⟩ := h.obj
  have h1 := (hA 0 c rfl).1
  unfold World.cell? at h1
  rw [hb] at h1
  cases h1
theorem Pm.ne_row {w : World} {b B e z n : Nat} {ps : List Nat} {L : List En} {v : Value} {ys : List Value} (h : Pm w b ps L) (o : w.ownsRow B e z v n ys) : some b ≠ v.ownBlock := by
  obtain ⟨es, clock, hb⟩ := h.obj
  rcases o.2 with ⟨rfl, _⟩ | ⟨g, cap, cur, rfl, _, hg, _⟩
  · exact fun e => by cases e
  · intro e
    have h1 : b = g := by simpa [Value.ownBlock] using e
    subst h1
    rw [hb] at hg; cases hg
set_option maxRecDepth 10000 in
theorem keyS (s : ByteArray) (hs : s.size ≤ 140737488351232) : keyOf Try.prog 9 (.string s) = some (.string s.toList) := by
  rw [Lib.toList_data]
  exact Go.WideMaps.keyOf_string_mk Try.underlying9 (by unfold maxLen; omega)
set_option maxRecDepth 100000 in
/-- a name is looked up -/
theorem Pm.look {w : World} {b : Nat} {ps : List Nat} {L : List En} (h : Pm w b ps L) (s : ByteArray) (hs : s.size ≤ 140737488351232) :
    (Instr.lookup 52 (.map (some b)) (.string s) false).run Try.prog w = .ok (pv (blk s.toList L ps)) w := by
  obtain ⟨D, h1, h2, -⟩ := h
  obtain ⟨v, ps', hrun, hv⟩ := h1.lookup strK Try.underlying52 (zeroP w) (z := .pointer none) (zd := .lit (.int .i64 (-1))) (zp := []) (ptrElem_pv none) (keyS s hs)
  obtain ⟨o, rfl, hz⟩ := ptrElem_inv hv
  rw [h2] at hz
  injection hz with hz _
  injection hz with hz
  injection hz with _ hz
  rw [hrun, pn_inj hz]
/-- how many names there are -/
theorem Pm.len {w : World} {b : Nat} {ps : List Nat} {L : List En} (h : Pm w b ps L) (ty : TypeId) : (Builtin.len_ #[52] ty #[.map (some b)]).run Try.prog w = .ok (.int .i64 (L.length : Int)) w := by
  obtain ⟨D, h1, -, -, h4⟩ := h
  rw [h1.len Try.underlying52, h4]
theorem blk_new {x : List UInt8} {L : List En} {ps : List Nat} {e : En} {p : Nat} (hl : ps.length = L.length) (hn : e.name ∉ names L) : blk x (L ++ [e]) (ps ++ [p]) = if x = e.name then some p else blk x L ps := by
  rw [blk, plc_app_new, blk]
  by_cases hx : x = e.name
  · subst hx
    rw [plc_none.2 hn, if_pos rfl]
    simp [← hl]
  · rw [if_neg hx]
    cases hp : plc x L with
    | none => simp [Ne.symm hx]
    | some i =>
      have := plc_lt hp
      show (ps ++ [p])[i]? = ps[i]?
      rw [List.getElem?_append_left (by omega)]
/-- one name more -/
theorem Pm.put {w w' : World} {b : Nat} {ps : List Nat} {L : List En} (D : DataW Unit) (h1 : w.ownsMap Try.prog 9 ptrElem b L.length D) (h2 : ∀ x, D.atKey (.string x) (.lit (.int .i64 (-1))) = .lit (.int .i64 (pn (blk x L ps)))) (h3 : ∀ x, Go.Maps.has D (.string x) = decide (x ∈ names L)) (h4 : Go.Maps.size D = L.length)
    (e : En) (p : Nat) (hl : ps.length = L.length) (hn : e.name ∉ names L) (h5 : w'.ownsMap Try.prog 9 ptrElem b (L.length + 1) (D.put (.string e.name) (.lit (.int .i64 (p : Int))))) : Pm w' b (ps ++ [p]) (L ++ [e]) := by
  refine ⟨_, by rw [List.length_append]; exact h5, fun x => ?_, fun x => ?_, ?_⟩
  · rw [blk_new hl hn]
    by_cases hx : x = e.name
    · subst hx
      rw [Go.Maps.atKey_put_same h1.isMap (k := .string e.name) trivial, if_pos rfl]
      rfl
    · rw [Go.Maps.atKey_put_other (by intro e; injection e with e; exact hx e), h2, if_neg hx]
  · by_cases hx : x = e.name
    · subst hx
      rw [Go.Maps.has_put_same h1.isMap (k := .string e.name) trivial]
      simp [names]
    · rw [Go.Maps.has_put_other (by intro e; injection e with e; exact hx e), h3]
      simp [names, hx]
  · rw [Go.Maps.size_put (h1.tidy strK), h3, h4, decide_eq_false hn, List.length_append]
    rfl
section
variable {w : World} {ops : Array Oper} {o : Oper} {a : Act} {rest : List Oper} {Q : Exit → Act → World → Prop}
theorem wpList_place (hg : o.guard = none) (m x : Operand) (hop : o.op = Op.lookup 52 m x false) (b : Nat) (ps : List Nat) (L : List En) (hm : a.eval m = .map (some b)) (hown : Pm w b ps L) (s : ByteArray) (hx : a.eval x = .string s) (hs : s.size ≤ 140737488351232)
    (hK : wpList Try.prog ops Q rest (a.put o.dst (pv (blk s.toList L ps))) w) : wpList Try.prog ops Q (o :: rest) a w := by
  refine wpList_plain hg fun K' hK' => ?_
  have hrun := hown.look s hs
  unfold Oper.wp
  simp [execOp, hop, hm, hx, hrun, Result.andThen]
  exact hK' _ _ hK
theorem wpList_place_put (hg : o.guard = none) (m x v : Operand) (hop : o.op = Op.mapUpdate 52 m x v) (b : Nat) (ps : List Nat) (L : List En) (hm : a.eval m = .map (some b)) (hown : Pm w b ps L) (hn : L.length ≤ 1000) (hl : ps.length = L.length) (e : En) (hne : e.name ∉ names L) (s : ByteArray) (hx : a.eval x = .string s) (hse : s.toList = e.name) (hs : s.size ≤ 140737488351232) (p : Nat) (hv : a.eval v = .pointer (some ⟨p, 0, none⟩))
    (hK : ∀ w', Pm w' b (ps ++ [p]) (L ++ [e]) → w.grownBy w' (some b) → wpList Try.prog ops Q rest (a.put o.dst undef) w') : wpList Try.prog ops Q (o :: rest) a w := by
  obtain ⟨D, h1, h2, h3, h4⟩ := hown
  refine wpList_mapUpdate_own w hg m x v 52 hop 9 67 strK Try.underlying52 ptrElem b _ D hm h1 (by unfold maxLen; omega) _ _ _ hx hv (keyS s hs) (.lit (.int .i64 (p : Int))) [] rfl ?_
  intro w' h5 h6
  rw [hse] at h5
  exact hK w' (Pm.put D h1 h2 h3 h4 e p hl hne h5) h6
theorem step_place_put {K : Act → World → Prop} {E : Prop} (hg : o.guard = none) (m x v : Operand) (hop : o.op = Op.mapUpdate 52 m x v) (b : Nat) (ps : List Nat) (L : List En) (hm : a.eval m = .map (some b)) (hown : Pm w b ps L) (hn : L.length ≤ 1000) (hl : ps.length = L.length) (e : En) (hne : e.name ∉ names L) (s : ByteArray) (hx : a.eval x = .string s) (hse : s.toList = e.name) (hs : s.size ≤ 140737488351232) (p : Nat) (hv : a.eval v = .pointer (some ⟨p, 0, none⟩))
    (hK : ∀ w', Pm w' b (ps ++ [p]) (L ++ [e]) → w.grownBy w' (some b) → K (a.put o.dst undef) w') : if Region.wanted o (yielded ops a.tmps) = true then Oper.wp Try.prog o a w K Q else E := by
  have hw : Region.wanted o (yielded ops a.tmps) = true := by simp [Region.wanted, hg]
  rw [if_pos hw]
  obtain ⟨D, h1, h2, h3, h4⟩ := hown
  obtain ⟨w', hrun, h5, h6⟩ := h1.update strK Try.underlying52 (by unfold maxLen; omega) (key := .string s) (val := .pointer (some ⟨p, 0, none⟩)) (keyS s hs) (d := .lit (.int .i64 (p : Int))) (ps := []) rfl
  rw [hse] at h5
  have hk : K (a.put o.dst undef) w' := hK w' (Pm.put D h1 h2 h3 h4 e p hl hne h5) h6
  unfold Oper.wp
  simp [execOp, hop, hm, hx, hv, hrun, Result.andThen]
  exact hk
end
/-- an entry: two cells -/
def ev (e : En) : List Value := [.string ⟨e.name.toArray⟩, .string ⟨e.key.toArray⟩]
def ecells (l : List En) : List Value := l.flatMap ev
theorem ecells_append (a b : List En) : ecells (a ++ b) = ecells a ++ ecells b := by rw [ecells, ecells, ecells, List.flatMap_append]
theorem ecells_cons (v : En) (l : List En) : ecells (v :: l) = ev v ++ ecells l := rfl
theorem ecells_length (l : List En) : (ecells l).length = 2 * l.length := by
  induction l with
  | nil => rfl
  | cons v l ih => rw [ecells_cons, List.length_append, ih, List.length_cons]; show 2 + _ = _; omega
theorem infoEn : (Try.prog.info? 51).map (fun i => (i.zero, i.size, i.bytes)) = some (some (.agg #[.string ByteArray.empty, .string ByteArray.empty]), 2, 32) := by kernel_rfl
theorem ev_one (y : En) : ∀ u ∈ ev y, u.oneCell' = true := by
  intro u hu
  simp only [ev, List.mem_cons, List.not_mem_nil, or_false] at hu
  rcases hu with rfl | rfl <;> rfl
theorem ecells_one (l : List En) : ∀ u ∈ ecells l, u.oneCell' = true := by
  intro u hu
  simp only [ecells, List.mem_flatMap] at hu
  obtain ⟨n, _, hn⟩ := hu
  exact ev_one n u hn
def e0 : En := ⟨[], []⟩
theorem ev_get (l : List En) (i : Nat) (hi : i < l.length) : ∃ A B, ecells l = A ++ ev (l.getD i e0) ++ B ∧ A.length = i * 2 := by
  refine ⟨ecells (l.take i), ecells (l.drop (i + 1)), ?_, ?_⟩
  · rw [show ev (l.getD i e0) = ecells [l.getD i e0] by simp [ecells], ← ecells_append, ← ecells_append]
    congr 1
    rw [List.getD, List.getElem?_eq_getElem hi, Option.getD_some, List.append_assoc, List.singleton_append, ← List.drop_eq_getElem_cons hi, List.take_append_drop]
  · rw [ecells_length, List.length_take, Nat.min_eq_left (by omega), Nat.mul_comm]
theorem entry_at {w : World} {k o : Nat} {l : List En} (h : At w k o (ecells l)) (i : Nat) (hi : i < l.length) : At w k (o + i * 2) (ev (l.getD i e0)) := by
  obtain ⟨A, B, hAB, hA⟩ := ev_get l i hi
  rw [hAB] at h
  have h2 := At.sub h
  rw [hA] at h2
  exact h2
theorem at_same {w w' : World} {g o : Nat} {cs : List Value} (h : At w g o cs) (hs : w'.heap[g]? = w.heap[g]?) : At w' g o cs := fun j v hv => by
  have h1 := h j v hv
  unfold World.cell? World.frozen? at h1 ⊢
  simp only [hs]
  exact h1
/-- a list of entries that one is handed -/
def El (w : World) (v : Value) (l : List En) : Prop := ∃ a cap, v = .slice a l.length cap ∧ (l ≠ [] → ∃ k o, a = some ⟨k, o, none⟩ ∧ At w k o (ecells l) ∧ k < w.heap.size)
theorem El.same {w w' : World} {v : Value} {l : List En} (h : El w v l) (hs : ∀ k, k < w.heap.size → w'.heap[k]? = w.heap[k]?) (hz : w.heap.size ≤ w'.heap.size) : El w' v l := by
  obtain ⟨a, cap, h1, h2⟩ := h
  refine ⟨a, cap, h1, fun hl => ?_⟩
  obtain ⟨k, o, h3, h4, h5⟩ := h2 hl
  exact ⟨k, o, h3, at_same h4 (hs k h5), by omega⟩
/-- a ring in memory: its block, its map's, its places'; what its names' row is; whether that was made -/
structure Rg (w : World) (B r b : Nat) (ps : List Nat) (v : Value) (dn : Bool) (L : List En) (C : List Nat) : Prop where
  at0 : At w r 0 [.map (some b), .int .u32 (if dn = true then 1 else 0), .int .i32 0, .int .u32 0, v]
  mp : Pm w b ps L
  pl : ps.length = L.length
  cl : C.length = L.length
  pa : ∀ i p, ps[i]? = some p → At w p 0 [.string ⟨(L.getD i e0).key.toArray⟩, .int .i64 ((C.getD i 0 : Nat) : Int)]
  nd : (names L).Nodup
  pn : ps.Nodup
  rp : r ∉ ps
  len : L.length ≤ 64
  ge : B ≤ r ∧ B ≤ b ∧ ∀ p ∈ ps, B ≤ p
  ow : dn = true → w.ownsRow B 9 1 v L.length ((srt L).map encStr) ∧ some r ≠ v.ownBlock ∧ ∀ p ∈ ps, some p ≠ v.ownBlock
  no : dn = false → v = .slice none 0 0
/-- the blocks of a ring -/
def Rb (r b : Nat) (ps : List Nat) (v : Value) (k : Nat) : Prop := k = r ∨ k = b ∨ k ∈ ps ∨ some k = v.ownBlock
theorem Rg.same {w w' : World} {B r b : Nat} {ps : List Nat} {v : Value} {dn : Bool} {L : List En} {C : List Nat} (h : Rg w B r b ps v dn L C) (hs : ∀ k, Rb r b ps v k → w'.heap[k]? = w.heap[k]?) : Rg w' B r b ps v dn L C where
  at0 := at_same h.at0 (hs r (.inl rfl))
  mp := h.mp.same (hs b (.inr (.inl rfl)))
  pl := h.pl
  cl := h.cl
  pa := fun i p hp => at_same (h.pa i p hp) (hs p (.inr (.inr (.inl (List.mem_of_getElem? hp)))))
  nd := h.nd
  pn := h.pn
  rp := h.rp
  len := h.len
  ge := h.ge
  ow := fun hd => ⟨own_same (h.ow hd).1 (fun k hk => hs k (.inr (.inr (.inr hk.symm)))), (h.ow hd).2⟩
  no := h.no
theorem Rg.lt {w : World} {B r b : Nat} {ps : List Nat} {v : Value} {dn : Bool} {L : List En} {C : List Nat} (h : Rg w B r b ps v dn L C) (k : Nat) (hk : Rb r b ps v k) : k < w.heap.size := by
  rcases hk with rfl | rfl | hk | hk
  · exact h.at0.lt (by simp)
  · exact h.mp.lt
  · obtain ⟨i, hi⟩ := List.getElem?_of_mem hk
    exact (h.pa i k hi).lt (by simp)
  · cases hd : dn with
    | true => exact ((h.ow hd).1.lt k hk.symm).2
    | false => rw [h.no hd] at hk; cases hk
theorem Rg.base {w : World} {B r b : Nat} {ps : List Nat} {v : Value} {dn : Bool} {L : List En} {C : List Nat} (h : Rg w B r b ps v dn L C) (k : Nat) (hk : Rb r b ps v k) : B ≤ k := by
  rcases hk with rfl | rfl | hk | hk
  · exact h.ge.1
  · exact h.ge.2.1
  · exact h.ge.2.2 k hk
  · cases hd : dn with
    | true => exact ((h.ow hd).1.lt k hk.symm).1
    | false => rw [h.no hd] at hk; cases hk
/-- nothing but these blocks has changed -/
structure Kp (S : Nat → Prop) (w w' : World) : Prop where
  os : w'.os = w.os
  tape : w'.tape = w.tape
  output : w'.output = w.output
  size : w.heap.size ≤ w'.heap.size
  keep : ∀ k, k < w.heap.size → ¬ S k → w'.heap[k]? = w.heap[k]?
theorem Kp.refl (S : Nat → Prop) (w : World) : Kp S w w := ⟨rfl, rfl, rfl, Nat.le_refl _, fun _ _ _ => rfl⟩
theorem Kp.trans {S : Nat → Prop} {a b c : World} (h1 : Kp S a b) (h2 : Kp S b c) : Kp S a c := ⟨h2.os.trans h1.os, h2.tape.trans h1.tape, h2.output.trans h1.output, Nat.le_trans h1.size h2.size, fun k hk hS => (h2.keep k (Nat.lt_of_lt_of_le hk h1.size) hS).trans (h1.keep k hk hS)⟩
theorem Kp.mono {S T : Nat → Prop} {w w' : World} (h : Kp S w w') (hS : ∀ k, S k → T k) : Kp T w w' := ⟨h.os, h.tape, h.output, h.size, fun k hk hT => h.keep k hk (fun hs => hT (hS k hs))⟩
theorem Kp.to {S : Nat → Prop} {w w' : World} (h : Kp S w w') {B : Nat} (hS : ∀ k, S k → B ≤ k) (hB : B ≤ w.heap.size) : Below B w w' := ⟨h.os, h.tape, h.output, h.size, fun k hk => h.keep k (by omega) (fun hs => by have := hS k hs; omega)⟩
theorem Kp.of {S : Nat → Prop} {w w' : World} (h : Below w.heap.size w w') : Kp S w w' := ⟨h.os, h.tape, h.output, h.size, fun k hk _ => h.block k hk⟩
end Rn
end Go.Proofs.Ytcegihdgnbjclaa
