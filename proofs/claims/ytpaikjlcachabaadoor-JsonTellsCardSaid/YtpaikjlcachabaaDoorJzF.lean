/- Joined by merge.py: JeB JeC JeD JeE JeF JeG. -/
import Derived.Test.YtpaikjlcachabaaDoorJsW
import Derived.Test.YtpaikjlcachabaaDoorJeA
import Derived.Room.AppendFits
import Derived.Deep.DeepAppendWide
import Derived.Lib.AppendStr
import Derived.BigQuiet
import Derived.Deep.LoopGhost
namespace Go.Proofs.YtpaikjlcachabaaDoor
open Go.RowKit
set_option linter.unusedVariables false
set_option linter.unusedSimpArgs false
namespace Je
open Js
section
variable {P : Program} {w : World}
/-- a text is appended to few bytes, however long it is -/
theorem run_append_txJ (base : Nat) (t u ty e : TypeId) (i : TypeInfo) (ht : P.underlying t = some (.slice e)) (hu : P.underlying u = some .string) (hi : P.info? e = some i) (hz : i.zero = some (.int .u8 0)) (hsize : i.size = 1) (hby : i.bytes = 1)
    (v : Value) (n : Nat) (l : List UInt8) (hown : w.ownsRow base e 1 v n (bcells l)) (s : ByteArray) (hn : n ≤ 262144) (hs : s.size ≤ 140737488351232) (hbase : base ≤ w.heap.size) :
    ∃ v' w', (Builtin.append_ #[t, u] ty #[v, .string s]).run P w = .ok v' w' ∧ w'.ownsRow base e 1 v' (n + s.size) (bcells (l ++ s.toList)) ∧ w.grownBy w' v.ownBlock := by
  have e1 : Lib.strCells s = bcells s.toList := by
    rw [Lib.toList_data]
    simp [Lib.strCells, bcells]
  rw [bcells_append, ← e1]
  by_cases hb : n + s.size ≤ 140737488355328
  · obtain ⟨v', w', h1, h2, h3, -⟩ := Lib.run_append_own_string (P := P) w base t u ty e i ht hu hi hz hsize hby v n _ hown s (by unfold maxLen; omega) hb hbase
    exact ⟨v', w', h1, h2, h3⟩
  · rcases hown.2 with ⟨rfl, rfl⟩ | ⟨g, cap, cur, rfl, hbg, hg, hnc, hcm, hcs, htake⟩
    · omega
    · by_cases hroom : n + s.size ≤ cap
      · obtain ⟨w', h1, h2, h3⟩ := Lib.run_append_fits_string (P := P) w base t u ty e i ht hu hi hsize _ n cap _ hown s (by omega) hroom
        exact ⟨_, w', h1, h2, h3⟩
      · have hxl : (bcells l).length = n := by simpa using hown.1
        have hcell : ∀ j x, (bcells l)[j]? = some x → w.cell? ((⟨g, 0, none⟩ : Addr).add j) = some x := hown.cells (g := g) rfl
        have hr := Lib.run_append_grow_string (P := P) w t u ty e i (.int .u8 0) ht hu hi hz ⟨g, 0, none⟩ n cap (bcells l) (by rw [hsize, hxl, Nat.mul_one]) hcell s (by omega) (by omega) (by rw [hby]; exact growslice_fits_wide (by omega) (by omega))
        refine ⟨_, _, hr, ⟨by rw [List.length_append, hxl, Lib.strCells_length, Nat.mul_one], .inr ⟨w.heap.size, _, _, rfl, hbase, heap_alloc_new w.drew _, grownCap_ge _ _ _ _, grownCap_le_maxLen _ _ _ _ (by unfold maxLen; omega), ?_, ?_⟩⟩, ⟨rfl, rfl, rfl, by simp, fun k hk _ => heap_alloc_old w.drew _ hk⟩⟩
        · have h9 := grownCap_ge w (n + s.size) cap e
          have h8 : (Value.int IntKind.u8 0).cells.size = 1 := rfl
          simp only [Array.size_append, List.size_toArray, size_zeroCells, h8, hxl, Lib.strCells_length]
          omega
        · have h7 : (n + s.size) * 1 = (bcells l ++ Lib.strCells s).length := by rw [List.length_append, hxl, Lib.strCells_length, Nat.mul_one]
          simp only [Array.toList_append, List.append_assoc]
          rw [h7, ← List.append_assoc]
          exact List.take_left
theorem wpList_append_txJ {a : Act} {ops : Array Oper} {rest : List Oper} {o : Oper} {Q : Exit → Act → World → Prop} (hgd : o.guard = none) (sl x : Operand) (t u : TypeId)
    (ho : o.op = .call { callee := .builtin .append, args := #[sl, x], argTypes := #[t, u] })
    (base : Nat) (e : TypeId) (i : TypeInfo) (ht : P.underlying t = some (.slice e)) (hu : P.underlying u = some .string) (hi : P.info? e = some i) (hz : i.zero = some (.int .u8 0)) (hsize : i.size = 1) (hby : i.bytes = 1)
    (v : Value) (n m : Nat) (l : List UInt8) (hs : a.eval sl = v) (hown : w.ownsRow base e 1 v n (bcells l)) (s : ByteArray) (hx : a.eval x = .string s) (hm : s.size = m) (hn : n ≤ 262144) (hsz : m ≤ 140737488351232) (hbase : base ≤ w.heap.size)
    (h : ∀ v' w', w'.ownsRow base e 1 v' (n + m) (bcells (l ++ s.toList)) → w.grownBy w' v.ownBlock → wpList P ops Q rest (a.put o.dst v') w') : wpList P ops Q (o :: rest) a w := by
  subst hm
  refine wpList_plain hgd fun K hK => ?_
  obtain ⟨v', w', hr, h2, h3⟩ := run_append_txJ (P := P) (w := w) base t u o.type e i ht hu hi hz hsize hby v n l hown s hn hsz hbase
  unfold Oper.wp execOp
  simp only [ho, resolve, invoke, builtin, Sem.run_bind, Sem.run_pure, Result.andThen_ok, List.map_toArray, List.map_cons, List.map_nil, hs, hx, hr]
  exact hK _ _ (h v' w' h2 h3)
end
theorem own_takeJ {w : World} {B e size n m cap : Nat} {a : Option Addr} {xs : List Value} (h : w.ownsRow B e size (.slice a n cap) n xs) (hm : m ≤ n) (h0 : 0 < n) : w.ownsRow B e size (.slice a m cap) m (xs.take (m * size)) := by
  obtain ⟨hl, h⟩ := h
  have hms : m * size ≤ n * size := Nat.mul_le_mul_right _ hm
  refine ⟨by rw [List.length_take]; omega, ?_⟩
  rcases h with ⟨h1, h2⟩ | ⟨g, cap', cur, h1, h2, h3, h4, h5, h6, h7⟩
  · omega
  · cases h1
    refine .inr ⟨g, cap, cur, rfl, h2, h3, by omega, h5, h6, ?_⟩
    rw [← h7, List.take_take, Nat.min_eq_left hms]
def hv (h : Hf) (b : Option Nat) : List Value := [.int .i64 (h.kids : Int), .int .i64 (h.left : Int), .map b, .int .u8 (h.e : Int)]
def hcells : List Hf → List (Option Nat) → List Value
  | h :: G, b :: B => hcells G B ++ hv h b
  | _, _ => []
theorem hcells_cons (h : Hf) (G : List Hf) (b : Option Nat) (B : List (Option Nat)) : hcells (h :: G) (b :: B) = hcells G B ++ hv h b := rfl
theorem hcells_length {G : List Hf} {B : List (Option Nat)} (h : B.length = G.length) : (hcells G B).length = 4 * G.length := by
  induction G generalizing B with
  | nil => cases B <;> rfl
  | cons f G ih =>
    cases B with
    | nil => cases h
    | cons b B => rw [hcells_cons, List.length_append, ih (by simpa using h)]; show _ + 4 = 4 * (G.length + 1); omega
theorem hv_one (h : Hf) (b : Option Nat) : ∀ u ∈ hv h b, u.oneCell' = true := by
  intro u hu
  simp only [hv, List.mem_cons, List.not_mem_nil, or_false] at hu
  rcases hu with rfl | rfl | rfl | rfl <;> rfl
theorem hcells_one (G : List Hf) (B : List (Option Nat)) : ∀ u ∈ hcells G B, u.oneCell' = true := by
  induction G generalizing B with
  | nil => intro u hu; cases B <;> cases hu
  | cons f G ih =>
    cases B with
    | nil => intro u hu; cases hu
    | cons b B =>
      intro u hu
      rw [hcells_cons] at hu
      rcases List.mem_append.1 hu with hu | hu
      · exact ih B u hu
      · exact hv_one f b u hu
def toFr (h : Hf) : Fr := ⟨[], 0, h.names⟩
theorem infoH : (Tryd.prog.info? 64).map (fun i => (i.zero, i.size, i.bytes)) = some (some (.agg #[.int .i64 0, .int .i64 0, .map none, .int .u8 0]), 4, 32) := by kernel_rfl
theorem u8_ne_t : (5 : Nat) ≠ 68 := by decide
theorem h_ne_t : (64 : Nat) ≠ 68 := by decide
theorem u8_ne_h : (5 : Nat) ≠ 64 := by decide
theorem row_tyJ {w : World} {B e z n : Nat} {v : Value} {xs : List Value} (h : w.ownsRow B e z v n xs) {q : Nat} (hq : v.ownBlock = some q) : ∃ cur, w.heap[q]? = some (.cells cur e (0, 0)) := by
  rcases h.2 with ⟨rfl, _⟩ | ⟨b, cap, cur, rfl, _, h2, _⟩
  · cases hq
  · obtain rfl : b = q := by simpa [Value.ownBlock] using hq
    exact ⟨cur, h2⟩
/-- a block of cells of this type -/
def TyG (w : World) (g : Nat) (e : TypeId) : Prop := ∃ cur, w.heap[g]? = some (.cells cur e (0, 0))
theorem TyG.same {w w' : World} {g : Nat} {e : TypeId} (h : TyG w g e) (hs : w'.heap[g]? = w.heap[g]?) : TyG w' g e := by
  obtain ⟨cur, h⟩ := h
  exact ⟨cur, hs.trans h⟩
theorem TyG.set {w : World} {g : Nat} {e : TypeId} (h : TyG w g e) (j : Nat) (u : Value) : TyG (w.setCell ⟨g, j, none⟩ u) g e := by
  obtain ⟨cur, h⟩ := h
  obtain ⟨hlt, h2⟩ := Array.getElem?_eq_some_iff.1 h
  exact ⟨cur.setIfInBounds j u, by simp [World.setCell, Array.getElem_modify, h2, hlt]⟩
theorem TyG.ne {w : World} {g q : Nat} {e B e2 z n : Nat} {v : Value} {xs : List Value} (h : TyG w g e) (ho : w.ownsRow B e2 z v n xs) (hne : e2 ≠ e) (hq : v.ownBlock = some q) : q ≠ g := by
  rintro rfl
  obtain ⟨c1, h1⟩ := h
  obtain ⟨c2, h2⟩ := row_tyJ ho hq
  rw [h1] at h2
  injection h2 with h2
  injection h2 with _ h2
  exact hne h2.symm
theorem grown_setJ (w : World) (a : Addr) (u : Value) : w.grownBy (w.setCell a u) (some a.block) := ⟨rfl, rfl, rfl, by simp [World.setCell], fun k hk hne => Below.heap_setCell _ _ _ _ (fun e => hne (by rw [e]))⟩
/-- a block that is no row of bytes or holders, and no map -/
def NotH (w : World) (a : Nat) : Prop := (∀ cur, w.heap[a]? ≠ some (.cells cur 5 (0, 0))) ∧ (∀ cur, w.heap[a]? ≠ some (.cells cur 64 (0, 0))) ∧ (∀ es k, w.heap[a]? ≠ some (.map es k))
theorem NotH.same {w w' : World} {a : Nat} (h : NotH w a) (hs : w'.heap[a]? = w.heap[a]?) : NotH w' a := ⟨fun cur => by rw [hs]; exact h.1 cur, fun cur => by rw [hs]; exact h.2.1 cur, fun es k => by rw [hs]; exact h.2.2 es k⟩
/-- all blocks but the teller's own, rows of bytes and holders, and maps are as they were; and all below the base -/
structure Th (B g : Nat) (w w' : World) : Prop where
  os : w'.os = w.os
  tape : w'.tape = w.tape
  output : w'.output = w.output
  size : w.heap.size ≤ w'.heap.size
  block : ∀ a, a < w.heap.size → a ≠ g → NotH w a → w'.heap[a]? = w.heap[a]?
  low : ∀ a, a < B → w'.heap[a]? = w.heap[a]?
theorem Th.refl (B g : Nat) (w : World) : Th B g w w := ⟨rfl, rfl, rfl, Nat.le_refl _, fun _ _ _ _ => rfl, fun _ _ => rfl⟩
theorem Th.trans {B g : Nat} {a b c : World} (h : Th B g a b) (k : Th B g b c) : Th B g a c := ⟨k.os.trans h.os, k.tape.trans h.tape, k.output.trans h.output, Nat.le_trans h.size k.size, fun i hi hg hn => by
  have h1 := h.block i hi hg hn
  exact (k.block i (Nat.lt_of_lt_of_le hi h.size) hg (hn.same h1)).trans h1, fun i hi => (k.low i hi).trans (h.low i hi)⟩
theorem Th.drewN (B g : Nat) (w : World) (k : Nat) : Th B g w (w.drewN k) := ⟨rfl, rfl, rfl, Nat.le_refl _, fun _ _ _ _ => rfl, fun _ _ => rfl⟩
theorem Th.grown {B g : Nat} {w0 w w' : World} {row : Option Nat} (h : Th B g w0 w) (hb : B ≤ w.heap.size) (k : w.grownBy w' row) (hr : ∀ q, row = some q → B ≤ q ∧ (q = g ∨ ¬ NotH w q ∨ w0.heap.size ≤ q)) : Th B g w0 w' :=
  ⟨k.os.trans h.os, k.tape.trans h.tape, k.output.trans h.output, Nat.le_trans h.size k.size, fun a ha hg hn => by
    have h1 := h.block a ha hg hn
    refine (k.block a (Nat.lt_of_lt_of_le ha h.size) (fun e => ?_)).trans h1
    rcases (hr a e.symm).2 with h2 | h2 | h2
    · exact hg h2
    · exact h2 (hn.same h1)
    · omega, fun a ha => (k.block a (by omega) (fun e => by have := (hr a e.symm).1; omega)).trans (h.low a ha)⟩
theorem Th.below {B g : Nat} {w w' : World} (h : Th B g w w') : Below B w w' := ⟨h.os, h.tape, h.output, h.size, fun a ha => h.low a ha⟩
theorem Th.alloc {B g : Nat} {w0 w : World} (h : Th B g w0 w) (hb : B ≤ w.heap.size) (o : Obj) : Th B g w0 (w.alloc o) := h.grown hb (World.grownBy_alloc w o none) (fun q hq => by cases hq)
theorem Th.set {B g : Nat} {w0 w : World} (h : Th B g w0 w) (hb : B ≤ w.heap.size) (hg : B ≤ g) (j : Nat) (u : Value) : Th B g w0 (w.setCell ⟨g, j, none⟩ u) := h.grown hb (grown_setJ w _ u) (fun q hq => by cases hq; exact ⟨hg, .inl rfl⟩)
theorem Th.of {B g : Nat} {w w' : World} (hb : Below w.heap.size w w') (h : B ≤ w.heap.size) : Th B g w w' := ⟨hb.os, hb.tape, hb.output, hb.size, fun a ha _ _ => hb.block a ha, fun a ha => hb.block a (by omega)⟩
theorem row_not {w : World} {B e z n q : Nat} {v : Value} {xs : List Value} (h : w.ownsRow B e z v n xs) (he : e = 5 ∨ e = 64) (hq : v.ownBlock = some q) : B ≤ q ∧ ¬ NotH w q := by
  refine ⟨(h.lt q hq).1, fun hn => ?_⟩
  obtain ⟨c, hc⟩ := row_tyJ h hq
  rcases he with rfl | rfl
  · exact hn.1 c hc
  · exact hn.2.1 c hc
/-- the teller's cells and rows -/
structure Tm (w : World) (B g : Nat) (t : Te) (vO vS : Value) (bs : List (Option Nat)) : Prop where
  at0 : At w g 0 [vO, vS, .int .i64 (t.deep : Int)]
  ty : TyG w g 68
  out : w.ownsRow B 5 1 vO t.out.length (bcells t.out)
  stk : w.ownsRow B 64 4 vS t.st.length (hcells t.st bs)
  maps : Ms w B (t.st.map toFr) bs
  le : B ≤ g
theorem ownsBlock_other {v : Value} {g : Nat} (h : ∀ q, v.ownBlock = some q → q ≠ g) : v.ownBlock = none ∨ v.ownBlock ≠ some g := by
  cases hv : v.ownBlock with
  | none => exact .inl rfl
  | some q => exact .inr (fun e => h q hv (by injection e))
section
variable {w w' : World} {B g : Nat} {t : Te} {vO vS : Value} {bs : List (Option Nat)}
theorem Tm.lt (h : Tm w B g t vO vS bs) : g < w.heap.size := h.at0.lt (by simp)
theorem Tm.hb (h : Tm w B g t vO vS bs) : B ≤ w.heap.size := Nat.le_of_lt (Nat.lt_of_le_of_lt h.le h.lt)
theorem Tm.bl (h : Tm w B g t vO vS bs) : bs.length = t.st.length := by have := h.maps.length; rw [List.length_map] at this; exact this
theorem Tm.drewN (h : Tm w B g t vO vS bs) (n : Nat) : Tm (w.drewN n) B g t vO vS bs := ⟨h.at0.drewN n, h.ty, own_drewN h.out n, own_drewN h.stk n, h.maps.same (fun _ _ _ _ => rfl), h.le⟩
/-- something else has changed -/
theorem Tm.kept (h : Tm w B g t vO vS bs) {row : Option Nat} (k : w.grownBy w' row) (h1 : row ≠ some g) (h2 : vO.ownBlock = none ∨ vO.ownBlock ≠ row) (h3 : vS.ownBlock = none ∨ vS.ownBlock ≠ row) (h4 : ∀ b xs, some b ∈ bs → NamesM w b xs → some b ≠ row) : Tm w' B g t vO vS bs :=
  ⟨h.at0.grown k h.lt h1, h.ty.same (k.block g h.lt (fun e => h1 e.symm)), h.out.kept k h2, h.stk.kept k h3, h.maps.kept k h4, h.le⟩
theorem ne_noneJ {v : Value} : v.ownBlock = none ∨ v.ownBlock ≠ none := by cases h : v.ownBlock <;> simp
theorem Tm.alloc (h : Tm w B g t vO vS bs) (o : Obj) : Tm (w.alloc o) B g t vO vS bs := h.kept (World.grownBy_alloc w o none) (by simp) ne_noneJ ne_noneJ (fun _ _ _ _ => by simp)
theorem Tm.below (h : Tm w B g t vO vS bs) (hb : Below w.heap.size w w') : Tm w' B g t vO vS bs := h.kept (row := none) ⟨hb.os, hb.tape, hb.output, hb.size, fun k hk _ => hb.block k hk⟩ (by simp) ne_noneJ ne_noneJ (fun _ _ _ _ => by simp)
theorem Tm.nO (h : Tm w B g t vO vS bs) : vO.ownBlock = none ∨ vO.ownBlock ≠ some g := ownsBlock_other fun q hq => h.ty.ne h.out u8_ne_t hq
theorem Tm.nS (h : Tm w B g t vO vS bs) : vS.ownBlock = none ∨ vS.ownBlock ≠ some g := ownsBlock_other fun q hq => h.ty.ne h.stk h_ne_t hq
theorem Tm.gO (h : Tm w B g t vO vS bs) : vO.ownBlock ≠ some g := by
  rcases h.nO with h1 | h1
  · rw [h1]; exact fun e => by cases e
  · exact h1
theorem Tm.gS (h : Tm w B g t vO vS bs) : vS.ownBlock ≠ some g := by
  rcases h.nS with h1 | h1
  · rw [h1]; exact fun e => by cases e
  · exact h1
/-- a cell of the teller's own is stored -/
theorem Tm.setDeep (h : Tm w B g t vO vS bs) (d : Nat) : Tm (w.setCell ⟨g, 2, none⟩ (.int .i64 (d : Int))) B g { t with deep := d } vO vS bs := by
  have k := grown_setJ w ⟨g, 2, none⟩ (.int .i64 (d : Int))
  refine ⟨?_, h.ty.set 2 _, h.out.kept k h.nO, h.stk.kept k h.nS, h.maps.kept k (fun b xs hb hm => by rintro ⟨⟩; exact hm.ne_at h.at0 rfl), h.le⟩
  have h1 := h.at0.set 2 (.int .i64 (d : Int))
  rw [Nat.zero_add] at h1
  exact h1
/-- the row of bytes has grown -/
theorem Tm.growO (h : Tm w B g t vO vS bs) {o' : List UInt8} {v' : Value} (hg : w.grownBy w' vO.ownBlock) (ho : w'.ownsRow B 5 1 v' o'.length (bcells o')) : Tm (w'.setCell ⟨g, 0, none⟩ v') B g { t with out := o' } v' vS bs := by
  have h1 := h.at0.grown hg h.lt h.gO
  have h2 := h.ty.same (hg.block g h.lt (fun e => h.gO e.symm))
  have h3 := h.stk.kept hg (own_ne h.stk h.out (Ne.symm u8_ne_h))
  have h4 := h.maps.kept hg (fun b xs hb hm => hm.ne_row h.out)
  have k := grown_setJ w' ⟨g, 0, none⟩ v'
  exact ⟨h1.set 0 v', h2.set 0 v', ho.kept k (ownsBlock_other fun q hq => h2.ne ho u8_ne_t hq), h3.kept k h.nS, h4.kept k (fun b xs hb hm => by rintro ⟨⟩; exact hm.ne_at h1 rfl), h.le⟩
/-- the row of what is begun has grown -/
theorem Tm.growS (h : Tm w B g t vO vS bs) {st' : List Hf} {bs' : List (Option Nat)} {v' : Value} (hg : w.grownBy w' vS.ownBlock) (ho : w'.ownsRow B 64 4 v' st'.length (hcells st' bs')) (hm : Ms w' B (st'.map toFr) bs') : Tm (w'.setCell ⟨g, 1, none⟩ v') B g { t with st := st' } vO v' bs' := by
  have h1 := h.at0.grown hg h.lt h.gS
  have h2 := h.ty.same (hg.block g h.lt (fun e => h.gS e.symm))
  have h3 := h.out.kept hg (own_ne h.out h.stk u8_ne_h)
  have k := grown_setJ w' ⟨g, 1, none⟩ v'
  refine ⟨?_, h2.set 1 v', h3.kept k h.nO, ho.kept k (ownsBlock_other fun q hq => h2.ne ho h_ne_t hq), hm.kept k (fun b xs hb hm => by rintro ⟨⟩; exact hm.ne_at h1 rfl), h.le⟩
  have h5 := h1.set 1 v'
  rw [Nat.zero_add] at h5
  exact h5
end
section
variable {w w' : World} {B g : Nat} {o : List UInt8} {f : Hf} {G : List Hf} {dp : Nat} {vO vS : Value} {b : Option Nat} {bs : List (Option Nat)}
/-- the topmost one's cells -/
theorem Tm.top (h : Tm w B g ⟨o, f :: G, dp⟩ vO vS (b :: bs)) : ∃ q cap, vS = .slice (some ⟨q, 0, none⟩) (G.length + 1) cap ∧ G.length + 1 ≤ cap ∧ B ≤ q ∧ At w q (G.length * 4) (hv f b) := by
  rcases h.stk.2 with ⟨_, h2⟩ | ⟨q, cap, cur, h1, h2, h3, h4, h5, h6, h7⟩
  · cases h2
  refine ⟨q, cap, h1, h4, h2, ?_⟩
  have h8 := h.stk
  rw [h1] at h8
  have h9 := At.ofOwnN h8
  have hl : bs.length = G.length := by have := h.bl; simpa using this
  rw [hcells_cons] at h9
  have h10 := At.sub (a := hcells G bs) (b := hv f b) (c := []) (by rw [List.append_nil]; exact h9)
  rw [hcells_length hl, Nat.zero_add, Nat.mul_comm] at h10
  exact h10
/-- the topmost one is let go -/
theorem Tm.pop (h : Tm w B g ⟨o, f :: G, dp⟩ vO vS (b :: bs)) {q cap n : Nat} (hk : vS = .slice (some ⟨q, 0, none⟩) (n + 1) cap) (hn : G.length = n) :
    Tm (w.setCell ⟨g, 1, none⟩ (.slice (some ⟨q, 0, none⟩) n cap)) B g ⟨o, G, dp⟩ vO (.slice (some ⟨q, 0, none⟩) n cap) bs := by
  subst hn
  have h8 := h.stk
  have hgS := h.gS
  rw [hk] at h8 hgS
  have h9 := own_takeJ h8 (m := G.length) (by omega) (by omega)
  have hl : bs.length = G.length := by have := h.bl; simpa using this
  rw [hcells_cons, List.take_left' (by rw [hcells_length hl, Nat.mul_comm])] at h9
  have hm2 : Ms w B (G.map toFr) bs := by
    have hm := h.maps
    rw [List.map_cons] at hm
    cases hm <;> assumption
  have k := grown_setJ w ⟨g, 1, none⟩ (.slice (some ⟨q, 0, none⟩) G.length cap)
  refine ⟨?_, h.ty.set 1 _, h.out.kept k h.nO, h9.kept k (.inr hgS), hm2.kept k (fun b xs hb hm => by rintro ⟨⟩; exact hm.ne_at h.at0 rfl), h.le⟩
  have h5 := h.at0.set 1 (.slice (some ⟨q, 0, none⟩) G.length cap)
  rw [Nat.zero_add] at h5
  exact h5
end
end Je
end Go.Proofs.YtpaikjlcachabaaDoor
namespace Go.Proofs.YtpaikjlcachabaaDoor
open Go.RowKit
set_option linter.unusedVariables false
set_option linter.unusedSimpArgs false
namespace Je
open Js
def RPut (x : List UInt8) (B g : Nat) (t : Te) (vS : Value) (bs : List (Option Nat)) (w : World) (e : Ending) (w' : World) : Prop :=
  e = .returned (.tuple #[]) ∧ (∃ vO', Hid (Tm w' B g { t with out := put t.out x } vO' vS bs)) ∧ Hid (Th B g w w')
set_option maxRecDepth 100000 in
set_option maxHeartbeats 1600000 in
theorem jput_any (w : World) (B g : Nat) (t : Te) (vO vS : Value) (bs : List (Option Nat)) (s : ByteArray) (hW : Tm w B g t vO vS bs) (hz : s.size ≤ 140737488351232) :
    Calls Tryd.prog 49 #[.pointer (some ⟨g, 0, none⟩), .string s] w (RPut s.toList B g t vS bs w) := by
  obtain ⟨a, c, rfl, -⟩ := own_form hW.out
  obtain ⟨n, hn⟩ : ∃ n, t.out.length = n := ⟨_, rfl⟩
  have hc0 := hW.at0.cell 0 _ rfl
  rw [hn] at hc0
  by_cases h : n ≤ 262144
  · obtain ⟨i0, hi, hq⟩ := Option.map_eq_some_iff.1 info5
    simp only [Prod.mk.injEq] at hq
    obtain ⟨hz0, hz1, hz2⟩ := hq
    have e1 : (n : Int) ≤ 262144 := by omega
    obtain ⟨m, hm⟩ : ∃ m, s.size = m := ⟨_, rfl⟩
    have hp : put t.out s.toList = t.out ++ s.toList := put_le _ (by omega)
    have hput : Hid ((t.out ++ s.toList).length = n + m) := by show _ = _; rw [List.length_append, hn, tl_size, hm]
    have hf0 := hW.at0.froz 0 (by simp)
    have HW := Lib.hid hW
    have HN := Lib.hid hn
    have HS := Lib.hid hm
    have HP := Lib.hid hp
    have HZ := Lib.hid hz
    have HH := Lib.hid h
    clear hW hz hn h hm hp
    go_enter Tryd.func49, Tryd.ntmps49
    go_wp2_with (at_builtin; refine wpList_append_txJ rfl (.tmp 14) (.tmp 15) 66 9 rfl B 5 i0 Tryd.underlying66 Tryd.underlying9 hi hz0 hz1 hz2 (.slice a n c) n m t.out rfl (by have h1 := HW.out.out; rw [HN.out] at h1; exact h1) s rfl HS.out HH.out (by have h1 := HZ.out; have h2 := HS.out; omega) HW.out.hb ?_; intro v' w3 hown3 hgrow9; obtain ⟨a3, c3, hv3, -⟩ := own_form hown3; subst hv3; have hgrow3 : w.grownBy w3 (Value.slice a t.out.length c).ownBlock := (by rw [HN.out]; exact hgrow9); have hAt3 := At.grown (HW.out.at0) hgrow3 HW.out.lt HW.out.gO; have hf03 := hAt3.froz 0 (by simp); have hc03 := hAt3.cell 0 _ rfl; have HR3 := Lib.hid (Tm.growO (o' := t.out ++ s.toList) HW.out hgrow3 (by rw [hput.out]; exact hown3)); have HB3 := Lib.hid (((Th.refl B g w).grown HW.out.hb hgrow3 (fun q hq => ⟨(row_not HW.out.out (.inl rfl) hq).1, .inr (.inl (row_not HW.out.out (.inl rfl) hq).2)⟩)).set (Nat.le_trans HW.out.hb hgrow3.size) HW.out.le 0 (Value.slice a3 (n + m) c3)); clear hAt3 hown3 hgrow9 hgrow3)
    first | go_end0 | refine bodyPost_ret (results_none rfl _ _ _) rfl ?_
    refine ⟨rfl, ⟨.slice a3 (n + m) c3, ?_⟩, HB3⟩
    rw [HP.out]
    exact HR3.out
  · have e1 : ¬ (n : Int) ≤ 262144 := by omega
    have hp : put t.out s.toList = t.out := put_gt _ (by omega)
    have HW := Lib.hid hW
    have HP := Lib.hid hp
    clear hW hz hn h hp
    go_enter Tryd.func49, Tryd.ntmps49
    go_wp2_with fail
    first | go_end0 | refine bodyPost_ret (results_none rfl _ _ _) rfl ?_
    refine ⟨rfl, ⟨.slice a t.out.length c, ?_⟩, Th.refl B g w⟩
    rw [HP.out]
    exact HW.out
section
variable {w : World} {ops : Array Oper} {o : Oper} {a : Act}
theorem at_cellsJ {w : World} {k : Nat} {cs : List Value} (h : At w k 0 cs) : ∀ j u, cs[j]? = some u → w.cell? ((⟨k, 0, none⟩ : Addr).add j) = some u := fun j u hu => by
  have := (h j u hu).1
  by_cases h0 : j = 0
  · subst h0; simpa [Addr.add] using this
  · simpa [Addr.add, h0] using this
/-- a holder is appended -/
theorem step_append_hf {K : Act → World → Prop} {Q : Exit → Act → World → Prop} {E : Prop} (hgd : o.guard = none) (s x : Operand)
    (ho : o.op = .call { callee := .builtin .append, args := #[s, x], argTypes := #[65, 65] })
    (base : Nat) (v : Value) (n : Nat) (C : List Value) (hs : a.eval s = v) (hown : w.ownsRow base 64 4 v n C)
    (g c : Nat) (h : Hf) (b : Option Nat) (hx : a.eval x = .slice (some ⟨g, 0, none⟩) 1 c) (hcell : ∀ j u, (hv h b)[j]? = some u → w.cell? ((⟨g, 0, none⟩ : Addr).add j) = some u)
    (hn : n ≤ 1000000) (hbase : base ≤ w.heap.size)
    (hK : ∀ v' w', w'.ownsRow base 64 4 v' (n + 1) (C ++ hv h b) → w.grownBy w' v.ownBlock → K (a.put o.dst v') w') :
    if Region.wanted o (yielded ops a.tmps) = true then Oper.wp Tryd.prog o a w K Q else E := by
  obtain ⟨i0, hi, hq⟩ := Option.map_eq_some_iff.1 infoH
  simp only [Prod.mk.injEq] at hq
  refine step_append_gen hgd s x 65 ho base 64 i0 _ 4 32 Tryd.underlying65 hi hq.1 hq.2.1 hq.2.2 rfl (by decide) v n C hs hown g 1 c (hv h b) hx rfl hcell (hv_one h b) (by unfold maxLen; omega) (by omega) hbase ?_
  intro v' w' h1 h2
  exact hK v' w' h1 h2
end
/-- the maps of what is begun, one more -/
theorem Ms.pushJ {w : World} {B : Nat} {st : List Hf} {bs : List (Option Nat)} (h : Ms w B (st.map toFr) bs) (f : Hf) (mb : Option Nat) (hob : (f.names = none ∧ mb = none) ∨ (f.names = some [] ∧ ∃ b, mb = some b ∧ NamesM w b [] ∧ B ≤ b ∧ some b ∉ bs)) : Ms w B ((f :: st).map toFr) (mb :: bs) := by
  rcases hob with ⟨h1, rfl⟩ | ⟨h1, b, rfl, hm, hb, hne⟩
  · exact .arr h h1
  · exact .obj h h1 hm hb hne
def RHold (f : Hf) (mb : Option Nat) (B g : Nat) (t : Te) (bs : List (Option Nat)) (w : World) (e : Ending) (w' : World) : Prop :=
  e = .returned (.tuple #[]) ∧ (∃ vO' vS', Hid (Tm w' B g { t with st := f :: t.st, deep := max t.deep t.st.length } vO' vS' (mb :: bs))) ∧ Hid (Th B g w w')
set_option maxRecDepth 100000 in
set_option maxHeartbeats 3200000 in
theorem jhold_any (w : World) (B g : Nat) (t : Te) (vO vS : Value) (bs : List (Option Nat)) (hW : Tm w B g t vO vS bs) (f : Hf) (mb : Option Nat) (hob : (f.names = none ∧ mb = none) ∨ (f.names = some [] ∧ ∃ b, mb = some b ∧ NamesM w b [] ∧ B ≤ b ∧ some b ∉ bs)) (hn : t.st.length ≤ 5000) :
    Calls Tryd.prog 51 #[.pointer (some ⟨g, 0, none⟩), .agg #[.int .i64 (f.kids : Int), .int .i64 (f.left : Int), .map mb, .int .u8 (f.e : Int)]] w (RHold f mb B g t bs w) := by
  obtain ⟨kk, hkk⟩ : ∃ x, f.kids = x := ⟨_, rfl⟩
  obtain ⟨ll, hll⟩ : ∃ x, f.left = x := ⟨_, rfl⟩
  obtain ⟨ee, hee⟩ : ∃ x, f.e = x := ⟨_, rfl⟩
  have HFV : Hid (hv f mb = [.int .i64 (kk : Int), .int .i64 (ll : Int), .map mb, .int .u8 (ee : Int)]) := by show hv f mb = _; rw [hv, hkk, hll, hee]
  rw [hkk, hll, hee]
  obtain ⟨n, hnn⟩ : ∃ n, t.st.length = n := ⟨_, rfl⟩
  obtain ⟨dp, hdp⟩ : ∃ n, t.deep = n := ⟨_, rfl⟩
  obtain ⟨mx, hmx⟩ : ∃ x, max dp n = x := ⟨_, rfl⟩
  have hmxi : max (dp : Int) (n : Int) = (mx : Int) := by omega
  have HN : Hid (t.st.length = n ∧ n ≤ 5000 ∧ t.deep = dp ∧ max t.deep t.st.length = mx) := ⟨hnn, by omega, hdp, by omega⟩
  obtain ⟨ob, hob0⟩ : ∃ x, Obj.cells #[Value.int .i64 (kk : Int), Value.int .i64 (ll : Int), Value.map mb, Value.int .u8 (ee : Int)] 64 = x := ⟨_, rfl⟩
  have HA : Hid (At (w.alloc ob) w.heap.size 0 (hv f mb)) := by
    rw [HFV.out, ← hob0]
    exact At.ofAlloc w #[Value.int .i64 (kk : Int), Value.int .i64 (ll : Int), Value.map mb, Value.int .u8 (ee : Int)] 64
  have HOB1 : Hid ((f.names = none ∧ mb = none) ∨ (f.names = some [] ∧ ∃ b, mb = some b ∧ NamesM (w.alloc ob) b [] ∧ B ≤ b ∧ some b ∉ bs)) := by
    rcases hob with h1 | ⟨h1, b, h2, h3, h4⟩
    · exact .inl h1
    · exact .inr ⟨h1, b, h2, h3.kept (World.grownBy_alloc w ob none) (by simp), h4⟩
  have HW1 := Lib.hid (hW.alloc ob)
  have HB1 : Hid (Th B g w (w.alloc ob)) := (Th.refl B g w).alloc hW.hb ob
  obtain ⟨T, hT⟩ : ∃ T, w.heap.size = T := ⟨_, rfl⟩
  rw [hT] at HA
  have hnT : (n : Int) + 1 - 1 = (n : Int) := by omega
  have hn5 : (n : Int) ≤ 5000 := by omega
  have HOB0 := Lib.hid hob0
  clear hob hn hkk hll hee hnn hdp hmx hW
  go_enter Tryd.func51, Tryd.ntmps51
  go_upto_region 1 with fail
  try rw [hT]
  clear hT
  try rw [hob0]
  clear hob0
  generalize w.alloc ob = w1 at *
  obtain ⟨aS, cS, hvS, -⟩ := own_form HW1.out.stk
  rw [HN.out.1] at hvS
  have HST : Hid (w1.ownsRow B 64 4 vS n (hcells t.st bs)) := by have h8 := HW1.out.stk; rw [HN.out.1] at h8; exact h8
  clear hvS
  have HSD : Hid (∀ ob : Obj, ((World.drew w1).alloc ob).ownsRow B 64 4 vS n (hcells t.st bs)) := Lib.hid (fun ob => (own_drewN HST.out 1).alloc ob)
  have c1 := HW1.out.at0.cell 1 _ rfl
  have d1 : ∀ ob : Obj, (w1.alloc ob).cell? ⟨g, 0 + 1, none⟩ = some vS := fun ob => (HW1.out.alloc ob).at0.cell 1 _ rfl
  have hA := HA.out
  rw [HFV.out] at hA
  have k0 := hA.cell 0 _ rfl
  have k1 := hA.cell 1 _ rfl
  have k2 := hA.cell 2 _ rfl
  have k3 := hA.cell 3 _ rfl
  clear hA
  go_region_law (first
    | (refine step_append_hf rfl (.tmp 8) (.tmp 10) rfl B vS n (hcells t.st bs) rfl (HSD.out _) _ 1 f mb rfl (by rw [HFV.out]; exact at_cellsJ (At.ofAlloc _ #[Value.int .i64 (kk : Int), Value.int .i64 (ll : Int), Value.map mb, Value.int .u8 (ee : Int)] 64)) (by have := HN.out.2.1; omega) (by have := HW1.out.hb; simp; omega) ?_; intro v6 w6 hown6 hgrow6; obtain ⟨a6, c6', hv6, -⟩ := own_form hown6; subst hv6; have hJ := (HW1.out.drewN 1).alloc (Obj.cells #[Value.int .i64 (kk : Int), Value.int .i64 (ll : Int), Value.map mb, Value.int .u8 (ee : Int)] 64); have hAt6 := At.grown hJ.at0 hgrow6 hJ.lt hJ.gS; have hf96 := hAt6.froz 1 (by show 1 < 3; decide); have hc96 := hAt6.cell 1 _ rfl; have HW6 := Lib.hid hown6; have HGR := Lib.hid hgrow6; have HJ := Lib.hid hJ; clear hAt6 hgrow6 hown6 hJ))
  all_goals
    have hOB : (f.names = none ∧ mb = none) ∨ (f.names = some [] ∧ ∃ b, mb = some b ∧ NamesM ((w1.drewN 1).alloc (Obj.cells #[Value.int .i64 (kk : Int), Value.int .i64 (ll : Int), Value.map mb, Value.int .u8 (ee : Int)] 64)) b [] ∧ B ≤ b ∧ some b ∉ bs) := by
      rcases HOB1.out with h1 | ⟨h1, b, h2, h3, h5⟩
      · exact .inl h1
      · exact .inr ⟨h1, b, h2, (h3.kept (World.grownBy_alloc w1 _ none) (by simp)).same rfl, h5⟩
    have hM := (Ms.pushJ HJ.out.maps f mb hOB).kept HGR.out (fun b xs hb hm => hm.ne_row HJ.out.stk)
    have hW6 : w6.ownsRow B 64 4 (.slice a6 (n + 1) c6') (f :: t.st).length (hcells (f :: t.st) (mb :: bs)) := by
      rw [List.length_cons, HN.out.1, hcells_cons]
      exact HW6.out
    have h8 := HJ.out.growS HGR.out hW6 hM
    have HB8 := Lib.hid ((((HB1.out.trans (Th.drewN B g w1 1)).alloc HW1.out.hb (Obj.cells #[Value.int .i64 (kk : Int), Value.int .i64 (ll : Int), Value.map mb, Value.int .u8 (ee : Int)] 64)).grown HJ.out.hb HGR.out (fun q hq => ⟨(row_not HJ.out.stk (.inr rfl) hq).1, .inr (.inl (row_not HJ.out.stk (.inr rfl) hq).2)⟩)).set (Nat.le_trans HJ.out.hb HGR.out.size) HJ.out.le 1 (.slice a6 (n + 1) c6'))
    have H8 := Lib.hid h8
    have e2 := h8.at0.cell 2 _ rfl
    rw [show (({ t with st := f :: t.st } : Te).deep) = dp from HN.out.2.2.1] at e2
    have g2 := h8.at0.froz 2 (by show 2 < 3; decide)
    have e1 := h8.at0.cell 1 _ rfl
    have H9 := Lib.hid (h8.setDeep mx)
    have HB9 := Lib.hid (HB8.out.set h8.hb HJ.out.le 2 (.int .i64 (mx : Int)))
    clear h8 hW6 hM hOB c1 d1 k0 k1 k2 k3 hc96 hf96
    generalize w6.setCell ⟨g, 1, none⟩ (.slice a6 (n + 1) c6') = w7 at *
    rcases Nat.lt_or_ge dp n with hlt | hge
    · have hd1 : (dp : Int) < (n : Int) := by omega
      have hd2 : ¬ (n : Int) < (dp : Int) := by omega
      have hd3 : (mx : Int) = (n : Int) := by omega
      rw [hd3] at H9 HB9
      clear hmxi hlt hd3
      go_wp2_with fail
      go_region
      all_goals
        go_wp2_with fail
        first | go_end0 | refine bodyPost_ret (results_none rfl _ _ _) rfl ?_
        refine ⟨rfl, ⟨vO, .slice a6 (n + 1) c6', ?_⟩, HB9.out.trans (Th.drewN B g _ 1)⟩
        rw [HN.out.2.2.2]
        exact H9.out.drewN 1
    · have hd1 : ¬ (dp : Int) < (n : Int) := by omega
      have hd2 : (n : Int) ≤ (dp : Int) := by omega
      have hd3 : (mx : Int) = (dp : Int) := by omega
      rw [hd3] at H9 HB9
      clear hmxi hge hd3
      go_wp2_with fail
      go_region
      all_goals
        go_wp2_with fail
        first | go_end0 | refine bodyPost_ret (results_none rfl _ _ _) rfl ?_
        refine ⟨rfl, ⟨vO, .slice a6 (n + 1) c6', ?_⟩, HB9.out.trans (Th.drewN B g _ 1)⟩
        rw [HN.out.2.2.2]
        exact H9.out.drewN 1
end Je
end Go.Proofs.YtpaikjlcachabaaDoor
namespace Go.Proofs.YtpaikjlcachabaaDoor
open Go.RowKit
set_option linter.unusedVariables false
set_option linter.unusedSimpArgs false
namespace Je
open Js
theorem cv_cellsJ (w : World) (l : List UInt8) (cs : Array Value) (n : Nat) (hc : cs.toList = bcells l) (hn : l.length = n) :
    (convert 66 9 (.slice (some ⟨w.heap.size, 0, none⟩) n n)).run Tryd.prog (w.alloc (Obj.cells cs 5)) = .ok (.string ⟨l.toArray⟩) (w.alloc (Obj.cells cs 5)) := by
  subst hn
  have hA := At.ofAlloc w cs 5
  rw [hc] at hA
  refine run_convert_bytes_back _ 66 9 5 ⟨w.heap.size, 0, none⟩ l.length l Tryd.underlying66 Tryd.underlying5 Tryd.underlying9 fun j hj => ?_
  have h1 := hA.cell j (.int .u8 ((l[j]).toNat : Int)) (by rw [bcells, List.getElem?_map, List.getElem?_eq_getElem hj]; rfl)
  have h2 : (⟨w.heap.size, 0, none⟩ : Addr).add j = ⟨w.heap.size, 0 + j, none⟩ := by unfold Addr.add; split <;> simp_all
  rw [h2]
  exact h1
theorem endS_nil (o : List UInt8) : endS o [] = (o, []) := rfl
theorem endS_stop {o : List UInt8} {h : Hf} {G : List Hf} (hl : h.left ≠ 0) : endS o (h :: G) = (o, h :: G) := by rw [endS, if_neg hl]
theorem endS_go {o : List UInt8} {h : Hf} {G : List Hf} (hl : h.left = 0) : endS o (h :: G) = endS (if G = [] then o else put o [UInt8.ofNat h.e]) G := by rw [endS, if_pos hl]
def REnd (B g : Nat) (t : Te) (w : World) (e : Ending) (w' : World) : Prop :=
  e = .returned (.bool (decide ((endS t.out t.st).2 = []))) ∧ (∃ vO vS bs, Hid (Tm w' B g ⟨(endS t.out t.st).1, (endS t.out t.st).2, t.deep⟩ vO vS bs)) ∧ Hid (Th B g w w')
/-- where the loop stands -/
def InEd (B g : Nat) (w : World) (R : List UInt8 × List Hf) (dp : Nat) (gk : Nat) (wr : World) : Prop :=
  ∃ o st vO vS bs, Hid (Tm wr B g ⟨o, st, dp⟩ vO vS bs) ∧ Hid (endS o st = R) ∧ Hid (st.length + 1 = gk ∧ st.length ≤ 5001 ∧ ∀ f ∈ st, f.e < 256) ∧ Hid (Th B g w wr)
set_option maxRecDepth 100000 in
set_option maxHeartbeats 3200000 in
theorem jended_any (w : World) (B g : Nat) (t : Te) (vO vS : Value) (bs : List (Option Nat)) (hW : Tm w B g t vO vS bs) (hn : t.st.length ≤ 5001) (he : ∀ f ∈ t.st, f.e < 256) :
    Calls Tryd.prog 30 #[.pointer (some ⟨g, 0, none⟩)] w (REnd B g t w) := by
  obtain ⟨out, st0, dp⟩ := t
  obtain ⟨R, hR⟩ : ∃ R, endS out st0 = R := ⟨_, rfl⟩
  have HI0 : Hid (InEd B g w R dp (st0.length + 1) w) := ⟨out, st0, vO, vS, bs, hW, hR, ⟨rfl, hn, he⟩, Th.refl B g w⟩
  have hGoal : REnd B g ⟨out, st0, dp⟩ w = fun e w' => e = .returned (.bool (decide (R.2 = []))) ∧ (∃ vO vS bs, Hid (Tm w' B g ⟨R.1, R.2, dp⟩ vO vS bs)) ∧ Hid (Th B g w w') := by
    funext e w'
    show (_ ∧ _ ∧ _) = _
    rw [hR]
  rw [hGoal]
  clear hW hn he hR hGoal
  go_enter Tryd.func30, Tryd.ntmps30
  go_wp2_with fail
  go_loopg [] (st0.length + 1) (fun gk wr => InEd B g w R dp gk wr)
  case atStart => exact HI0.out
  case round =>
    obtain ⟨o, st, vO, vS, bs, HT, HE, HX, HB⟩ := hrel
    clear HI0
    cases st with
    | nil =>
      have c1 := HT.out.at0.cell 1 _ rfl
      obtain ⟨aS, cS, hvS, -⟩ := own_form HT.out.stk
      have hvS2 : vS = .slice aS 0 cS := hvS
      subst hvS2
      have HR : Hid ((o, ([] : List Hf)) = R) := HE.out
      go_wp2_with fail
      go_quiet (fail)
      go_wp2_with fail
      go_ret
      refine ⟨by rw [← HR.out]; rfl, ⟨vO, .slice aS 0 cS, bs, ?_⟩, HB.out.trans (Th.drewN B g wr nq)⟩
      rw [← HR.out]
      exact HT.out.drewN nq
    | cons f G =>
      cases bs with
      | nil => exact absurd HT.out.bl (by simp)
      | cons b bs =>
        obtain ⟨q, cap, rfl, hcap, hBq, hA⟩ := HT.out.top
        obtain ⟨n, hn⟩ : ∃ n, G.length = n := ⟨_, rfl⟩
        have c1 : wr.cell? ⟨g, 0 + 1, none⟩ = some (.slice (some ⟨q, 0, none⟩) (G.length + 1) cap) := HT.out.at0.cell 1 _ rfl
        rw [hn] at c1 hA hcap
        have HN : Hid (G.length = n ∧ n + 1 ≤ cap) := ⟨hn, hcap⟩
        obtain ⟨ll, hll⟩ : ∃ x, f.left = x := ⟨_, rfl⟩
        obtain ⟨ee, hee⟩ : ∃ x, f.e = x := ⟨_, rfl⟩
        have d1 : wr.cell? ⟨q, n * 4 + 1, none⟩ = some (.int .i64 (f.left : Int)) := hA.cell 1 _ rfl
        have d3 : wr.cell? ⟨q, n * 4 + 3, none⟩ = some (.int .u8 (f.e : Int)) := hA.cell 3 _ rfl
        rw [hll] at d1
        rw [hee] at d3
        have hnT : (n : Int) + 1 - 1 = (n : Int) := by omega
        have hn5 : (n : Int) ≤ 5001 := by have := HX.out.2.1; rw [List.length_cons] at this; omega
        have hnw : IntKind.i64.wrap (n : Int) = (n : Int) := wrap_fit n (by unfold maxLen; omega)
        have hn6 : (0 : Int) < (n : Int) + 1 := by omega
        have hn7 : (n : Int) < (n : Int) + 1 := by omega
        have hn8 : (0 : Int) ≤ (n : Int) := by omega
        by_cases h0 : ll = 0
        · subst h0
          have HE2 : Hid (endS (if G = [] then o else put o [UInt8.ofNat ee]) G = R) := by
            have h9 := HE.out
            rw [endS_go hll, hee] at h9
            exact h9
          have HGG : Hid (G.length + 1 ≤ 5001 ∧ (∀ f ∈ G, f.e < 256)) := ⟨by have := HX.out.2.1; rw [List.length_cons] at this; omega, fun f2 hf2 => HX.out.2.2 f2 (List.mem_cons_of_mem _ hf2)⟩
          have hce : ee < 256 := by rw [← hee]; exact HX.out.2.2 f (by simp)
          have hncap : (n : Int) ≤ (cap : Int) := by omega
          have hncap2 : n ≤ cap := by omega
          by_cases hz : n = 0
          · have hG : G = [] := List.length_eq_zero_iff.1 (by rw [hn]; exact hz)
            have HE3 : Hid (endS o G = R) := by
              have h9 := HE2.out
              rw [if_pos hG] at h9
              exact h9
            have e3 : ¬ (1 : Int) < (n : Int) + 1 := by omega
            have HP := Lib.hid (fun k => (HT.out.drewN k).pop (n := n) (by rw [hn]) hn)
            have HBP := Lib.hid (fun k => (HB.out.trans (Th.drewN B g wr k)).set HT.out.hb HT.out.le 1 (.slice (some ⟨q, 0, none⟩) n cap))
            have f1 := HT.out.at0.froz 1 (by show 1 < 3; decide)
            clear hz hll hee hn hcap hA hce hG
            go_wp2_with fail
            go_quiet (fail)
            go_wp2_with fail
            go_region
            all_goals
              go_wp2_with fail
              go_roundg (G.length + 1)
              case measure => have h9 := HX.out.1; rw [List.length_cons] at h9; omega
              case rel => exact ⟨o, G, vO, .slice (some ⟨q, 0, none⟩) n cap, bs, HP.out (nq + 1), HE3, ⟨rfl, by have := HGG.out.1; omega, HGG.out.2⟩, HBP.out (nq + 1)⟩
          · have hG : ¬ G = [] := fun h => hz (by rw [← hn, h]; rfl)
            have HE3 : Hid (endS (put o [UInt8.ofNat ee]) G = R) := by
              have h9 := HE2.out
              rw [if_neg hG] at h9
              exact h9
            have e3 : (1 : Int) < (n : Int) + 1 := by omega
            have hcv : ∀ w : World, (convert 66 9 (.slice (some ⟨w.heap.size, 0, none⟩) 1 1)).run Tryd.prog (w.alloc (Obj.cells #[.int .u8 (ee : Int)] 5)) = .ok (.string ⟨#[UInt8.ofNat ee]⟩) (w.alloc (Obj.cells #[.int .u8 (ee : Int)] 5)) := fun w => cv_cellsJ w [UInt8.ofNat ee] #[.int .u8 (ee : Int)] 1 (by show _ = [Value.int .u8 ((UInt8.ofNat ee).toNat : Int)]; rw [UInt8.toNat_ofNat', Nat.mod_eq_of_lt (by omega)]) rfl
            have hcv2 : ∀ k, (convert 66 9 (.slice (some ⟨wr.heap.size, 0, none⟩) 1 1)).run Tryd.prog ((wr.drewN k).alloc (Obj.cells #[.int .u8 (ee : Int)] 5)) = .ok (.string ⟨#[UInt8.ofNat ee]⟩) ((wr.drewN k).alloc (Obj.cells #[.int .u8 (ee : Int)] 5)) := fun k => hcv (wr.drewN k)
            clear hcv
            have PT := Lib.hid (fun (w' : World) (h : Tm w' B g ⟨o, f :: G, dp⟩ vO (.slice (some ⟨q, 0, none⟩) (G.length + 1) cap) (b :: bs)) => jput_any w' B g _ _ _ _ ⟨#[UInt8.ofNat ee]⟩ h (by show (1 : Nat) ≤ _; decide))
            clear hz hll hee hn hcap hA hce hG
            go_wp2_with fail
            go_quiet (fail)
            go_wp2_with fail
            go_region_law (first | (go_simp; go_at_call 49; refine (PT.out _ ((HT.out.drewN (nq + 1)).alloc _)).mono ?_; rintro e w5 ⟨rfl, ⟨vO5, H5⟩, HB5⟩))
            all_goals
              have c15 : w5.cell? ⟨g, 0 + 1, none⟩ = some (.slice (some ⟨q, 0, none⟩) (n + 1) cap) := by
                have h9 := H5.out.at0.cell 1 _ rfl
                rw [HN.out.1] at h9
                exact h9
              have f15 := H5.out.at0.froz 1 (by show 1 < 3; decide)
              have HBx := Lib.hid (((HB.out.trans (Th.drewN B g wr (nq + 1))).alloc HT.out.hb (Obj.cells #[.int .u8 (ee : Int)] 5)).trans HB5.out)
              have HP := Lib.hid (fun k => (H5.out.drewN k).pop (n := n) (by rw [HN.out.1]) HN.out.1)
              have HBP := Lib.hid (fun k => (HBx.out.trans (Th.drewN B g w5 k)).set H5.out.hb H5.out.le 1 (.slice (some ⟨q, 0, none⟩) n cap))
              clear c1 d1 d3 hcv2
              go_wp2_with fail
              go_region
              all_goals
                go_wp2_with fail
                go_roundg (G.length + 1)
                case measure => have h9 := HX.out.1; rw [List.length_cons] at h9; omega
                case rel => exact ⟨_, G, vO5, .slice (some ⟨q, 0, none⟩) n cap, bs, HP.out 1, by rw [show (⟨#[UInt8.ofNat ee]⟩ : ByteArray).toList = [UInt8.ofNat ee] from tl_mk [UInt8.ofNat ee]]; exact HE3, ⟨rfl, by have := HGG.out.1; omega, HGG.out.2⟩, HBP.out 1⟩
        · have HR : Hid ((o, f :: G) = R) := by
            have h9 := HE.out
            rw [endS_stop (by rw [hll]; exact h0)] at h9
            exact h9
          have e1 : ((ll : Int) == 0) = false := by rw [beq_eq_false_iff_ne]; omega
          have e2 : ((n : Int) + 1 == 0) = false := by rw [beq_eq_false_iff_ne]; omega
          clear h0 hll hee hn hcap hA
          go_wp2_with fail
          go_quiet (fail)
          go_wp2_with fail
          go_ret
          refine ⟨by rw [← HR.out]; rfl, ⟨vO, .slice (some ⟨q, 0, none⟩) (G.length + 1) cap, b :: bs, ?_⟩, HB.out.trans (Th.drewN B g wr nq)⟩
          rw [← HR.out]
          exact HT.out.drewN nq
end Je
end Go.Proofs.YtpaikjlcachabaaDoor
namespace Go.Proofs.YtpaikjlcachabaaDoor
open Go.RowKit
set_option linter.unusedVariables false
set_option linter.unusedSimpArgs false
namespace Je
open Js
theorem run_hexS (m : Nat) (h : m < 16) (w : World) : (Instr.index 9 (.string ⟨#[48, 49, 50, 51, 52, 53, 54, 55, 56, 57, 97, 98, 99, 100, 101, 102]⟩) (.int .u8 (m : Int))).run Tryd.prog w = .ok (.int .u8 ((hexS m).toNat : Int)) w := by
  rcases m with _|_|_|_|_|_|_|_|_|_|_|_|_|_|_|_|m
  all_goals first | omega | kernel_rfl
theorem qloop_nil (o : List UInt8) : qloop o [] = put o [34] := rfl
theorem qloop_stop {o : List UInt8} {b : UInt8} {l : List UInt8} (h : 262144 < o.length) : qloop o (b :: l) = o := by rw [qloop, if_pos h]
theorem qloop_go {o : List UInt8} {b : UInt8} {l : List UInt8} (h : ¬ 262144 < o.length) : qloop o (b :: l) = qloop (o ++ qb b) l := by rw [qloop, if_neg h]
def RQ (x : List UInt8) (B g : Nat) (t : Te) (vS : Value) (bs : List (Option Nat)) (w : World) (e : Ending) (w' : World) : Prop :=
  e = .returned (.tuple #[]) ∧ (∃ vO', Hid (Tm w' B g { t with out := x } vO' vS bs)) ∧ Hid (Th B g w w')
set_option maxRecDepth 100000 in
set_option maxHeartbeats 6400000 in
theorem jquote_any (w : World) (B g : Nat) (t : Te) (vO vS : Value) (bs : List (Option Nat)) (s : ByteArray) (hW : Tm w B g t vO vS bs) (hz : s.size ≤ 140737488351232) :
    Calls Tryd.prog 50 #[.pointer (some ⟨g, 0, none⟩), .string s] w (RQ (quote t.out s.toList) B g t vS bs w) := by
  have P1 := Lib.hid (jput_any w B g t vO vS bs ⟨#[34]⟩ hW (by show (1 : Nat) ≤ _; decide))
  rw [show (⟨#[34]⟩ : ByteArray).toList = [34] from tl_mk [34]] at P1
  have PT := Lib.hid (fun (w' : World) (o : List UInt8) (vO' : Value) (h : Tm w' B g { t with out := o } vO' vS bs) => jput_any w' B g _ vO' vS bs ⟨#[34]⟩ h (by show (1 : Nat) ≤ _; decide))
  rw [show (⟨#[34]⟩ : ByteArray).toList = [34] from tl_mk [34]] at PT
  obtain ⟨R, hR⟩ : ∃ R, quote t.out s.toList = R := ⟨_, rfl⟩
  have HR0 : Hid (qloop (put t.out [34]) s.toList = R) := hR
  rw [hR]
  obtain ⟨n, hn⟩ : ∃ n, s.size = n := ⟨_, rfl⟩
  have HN : Hid (s.size = n ∧ n ≤ 140737488351232) := ⟨hn, by omega⟩
  obtain ⟨i0, hi, hq⟩ := Option.map_eq_some_iff.1 info5
  simp only [Prod.mk.injEq] at hq
  obtain ⟨hz0, hz1, hz2⟩ := hq
  have hni : (s.size : Int) = (n : Int) := by omega
  clear hW hz hR hn
  go_enter Tryd.func50, Tryd.ntmps50
  go_wp2_with fail
  refine P1.out.mono ?_
  rintro e w1 ⟨rfl, ⟨vO1, H1⟩, HB1⟩
  go_wp2_with fail
  go_loopw [10] (fun vi wr => ∃ (i : Nat) (o : List UInt8) (vO' : Value), vi = .int .i64 (i : Int) ∧ i ≤ n ∧ Hid (Tm wr B g { t with out := o } vO' vS bs) ∧ Hid (qloop o (s.toList.drop i) = R) ∧ Hid (Th B g w wr)) (fun vi _ => n - (intOf vi).toNat)
  case atStart => exact ⟨0, _, vO1, rfl, Nat.zero_le _, H1, HR0, HB1⟩
  case round =>
    obtain ⟨i, o, vO', rfl, hin, HT, HQ, HB⟩ := hrel
    clear H1 HB1 HR0
    by_cases hi2 : i < n
    · have his : i < s.size := by have := HN.out.1; omega
      have e1 : (i : Int) < (n : Int) := by omega
      have e2 : (0 : Int) ≤ (i : Int) := by omega
      have e3 : (i : Int) ≤ 140737488351232 := by have := HN.out.2; omega
      have e4 : (i : Int) < (s.size : Int) := by omega
      obtain ⟨b, hb⟩ : ∃ b, s[i] = b := ⟨_, rfl⟩
      have hdr : s.toList.drop i = b :: s.toList.drop (i + 1) := by
        rw [List.drop_eq_getElem_cons (by rw [tl_size]; exact his)]
        congr 1
        have h9 := tl_get s i his
        rw [hb, List.getElem?_eq_getElem (by rw [tl_size]; exact his)] at h9
        exact Option.some.inj h9
      obtain ⟨l, hl⟩ : ∃ l, s.toList.drop (i + 1) = l := ⟨_, rfl⟩
      have hQ := HQ.out
      rw [hdr, hl] at hQ
      have HL := Lib.hid hl
      obtain ⟨y, hy⟩ : ∃ y, b.toNat = y := ⟨_, rfl⟩
      have hy256 : y < 256 := by rw [← hy]; exact b.toNat_lt
      have HY := Lib.hid hy
      have HI := Lib.hid hi2
      obtain ⟨aO, cO, rfl, -⟩ := own_form HT.out.out
      obtain ⟨m, hm⟩ : ∃ m, o.length = m := ⟨_, rfl⟩
      have c0 : wr.cell? ⟨g, 0 + 0, none⟩ = some (.slice aO o.length cO) := HT.out.at0.cell 0 _ rfl
      have f0 := HT.out.at0.froz 0 (by show 0 < 3; decide)
      rw [hm] at c0
      have HM := Lib.hid hm
      clear hdr hl hi2 hin
      by_cases hmx : 262144 < m
      · have hQ2 : Hid (o = R) := by
          show o = R
          rw [← hQ, qloop_stop (by rw [hm]; exact hmx)]
        have e5 : (262144 : Int) < (m : Int) := by omega
        clear hQ hm hmx
        go_wp2_with fail
        first | go_end0 | refine bodyPost_ret (results_none rfl _ _ _) rfl ?_
        refine ⟨rfl, ⟨.slice aO o.length cO, ?_⟩, HB⟩
        rw [← hQ2.out]
        exact HT
      · have e5 : ¬ (262144 : Int) < (m : Int) := by omega
        have HQ2 : Hid (qloop (o ++ qb b) (s.toList.drop (i + 1)) = R) := by
          show _ = R
          rw [HL.out, ← hQ, qloop_go (by rw [hm]; exact hmx)]
        have HMX : Hid (m ≤ 262144) := Nat.le_of_not_lt hmx
        have HOW : Hid (wr.ownsRow B 5 1 (.slice aO m cO) m (bcells o)) := by have h9 := HT.out.out; rw [show ({ t with out := o } : Te).out = o from rfl, hm] at h9; exact h9
        clear hQ hm hmx
        by_cases hc1 : y = 34 ∨ y = 92
        · have hb92 : b = 34 ∨ b = 92 := by
            rcases hc1 with h | h
            · exact .inl (UInt8.toNat_inj.1 (by rw [hy, h]; rfl))
            · exact .inr (UInt8.toNat_inj.1 (by rw [hy, h]; rfl))
          have HQ3 : Hid (qloop (o ++ [92, b]) (s.toList.drop (i + 1)) = R) := by
            have h9 := HQ2.out
            rw [qb, if_pos hb92] at h9
            exact h9
          clear hb92
          rcases hc1 with rfl | rfl
          · have HJ := Lib.hid ((HT.out).alloc (Obj.cells #[Value.int .u8 92, Value.int .u8 34] 5))
            have HBJ := Lib.hid ((HB.out).alloc HT.out.hb (Obj.cells #[Value.int .u8 92, Value.int .u8 34] 5))
            go_wp2_with (at_builtin; refine wpList_append_u8 rfl (.tmp 43) (.tmp 45) 66 rfl B 5 i0 Tryd.underlying66 hi hz0 hz1 hz2 _ m o rfl (HOW.out.alloc _) wr.heap.size 2 2 [92, b] rfl rfl (at_cellsW (by show [Value.int .u8 92, Value.int .u8 (b.toNat : Int)] = _; rw [HY.out]; rfl) (At.ofAlloc wr #[Value.int .u8 92, Value.int .u8 34] 5)) (by have := HMX.out; omega) (by have := HT.out.hb; simp; omega) ?_; intro v6 w6 hown6 hgrow6; obtain ⟨a6, c6, hv6, -⟩ := own_form hown6; subst hv6; have hJ := HJ.out; have hgrow7 : ((wr).alloc (Obj.cells #[Value.int .u8 92, Value.int .u8 34] 5)).grownBy w6 (Value.slice aO o.length cO).ownBlock := (by rw [HM.out]; exact hgrow6); have hAt6 := At.grown hJ.at0 hgrow7 hJ.lt hJ.gO; have f06 := hAt6.froz 0 (by show 0 < 3; decide); have c06 := hAt6.cell 0 _ rfl; have H6 := Lib.hid (Tm.growO (o' := o ++ [92, b]) hJ hgrow7 (by rw [List.length_append, HM.out]; exact hown6)); have HB6 := Lib.hid ((HBJ.out.grown hJ.hb hgrow7 (fun q hq => ⟨(row_not hJ.out (.inl rfl) hq).1, .inr (.inl (row_not hJ.out (.inl rfl) hq).2)⟩)).set (Nat.le_trans hJ.hb hgrow7.size) HT.out.le 0 (.slice a6 (m + 2) c6)); clear hAt6 hJ hown6 hgrow6 hgrow7)
            go_roundw
            case rel => exact ⟨i + 1, o ++ [92, b], .slice a6 (m + 2) c6, by go_num, HI.out, H6, HQ3, HB6⟩
            case measure => have h9 := HI.out; simp [intOf]; omega
          · have HJ := Lib.hid ((HT.out).alloc (Obj.cells #[Value.int .u8 92, Value.int .u8 92] 5))
            have HBJ := Lib.hid ((HB.out).alloc HT.out.hb (Obj.cells #[Value.int .u8 92, Value.int .u8 92] 5))
            go_wp2_with (at_builtin; refine wpList_append_u8 rfl (.tmp 43) (.tmp 45) 66 rfl B 5 i0 Tryd.underlying66 hi hz0 hz1 hz2 _ m o rfl (HOW.out.alloc _) wr.heap.size 2 2 [92, b] rfl rfl (at_cellsW (by show [Value.int .u8 92, Value.int .u8 (b.toNat : Int)] = _; rw [HY.out]; rfl) (At.ofAlloc wr #[Value.int .u8 92, Value.int .u8 92] 5)) (by have := HMX.out; omega) (by have := HT.out.hb; simp; omega) ?_; intro v6 w6 hown6 hgrow6; obtain ⟨a6, c6, hv6, -⟩ := own_form hown6; subst hv6; have hJ := HJ.out; have hgrow7 : ((wr).alloc (Obj.cells #[Value.int .u8 92, Value.int .u8 92] 5)).grownBy w6 (Value.slice aO o.length cO).ownBlock := (by rw [HM.out]; exact hgrow6); have hAt6 := At.grown hJ.at0 hgrow7 hJ.lt hJ.gO; have f06 := hAt6.froz 0 (by show 0 < 3; decide); have c06 := hAt6.cell 0 _ rfl; have H6 := Lib.hid (Tm.growO (o' := o ++ [92, b]) hJ hgrow7 (by rw [List.length_append, HM.out]; exact hown6)); have HB6 := Lib.hid ((HBJ.out.grown hJ.hb hgrow7 (fun q hq => ⟨(row_not hJ.out (.inl rfl) hq).1, .inr (.inl (row_not hJ.out (.inl rfl) hq).2)⟩)).set (Nat.le_trans hJ.hb hgrow7.size) HT.out.le 0 (.slice a6 (m + 2) c6)); clear hAt6 hJ hown6 hgrow6 hgrow7)
            go_roundw
            case rel => exact ⟨i + 1, o ++ [92, b], .slice a6 (m + 2) c6, by go_num, HI.out, H6, HQ3, HB6⟩
            case measure => have h9 := HI.out; simp [intOf]; omega
        · have hn34 : ¬ (b = 34 ∨ b = 92) := by
            rintro (h | h)
            · exact hc1 (.inl (by rw [← hy, h]; rfl))
            · exact hc1 (.inr (by rw [← hy, h]; rfl))
          have g1 : ((y : Int) == 34) = false := eqF (by omega)
          have g2 : ((y : Int) == 92) = false := eqF (by omega)
          clear hc1
          by_cases hc2 : y < 32
          · have HQ3 : Hid (qloop (o ++ [92, 117, 48, 48, hexS (y / 16), hexS (y % 16)]) (s.toList.drop (i + 1)) = R) := by
              have h9 := HQ2.out
              rw [qb, if_neg hn34, hy, if_pos hc2] at h9
              exact h9
            have h1 := fun w => run_hexS (y / 16) (by omega) w
            have h2 := fun w => run_hexS (y % 16) (by omega) w
            simp only [show ((y / 16 : Nat) : Int) = (y : Int) / 16 by omega] at h1
            simp only [show ((y % 16 : Nat) : Int) = (y : Int) % 16 by omega] at h2
            have e15 : bits .and .u8 (y : Int) 15 = (y : Int) % 16 := by
              have := u8_and_nat y 15 (by omega) (by omega)
              rw [nat_mask4] at this
              simpa using this
            have g3 : (y : Int) < 32 := by omega
            obtain ⟨x1, hx1⟩ : ∃ x, hexS (y / 16) = x := ⟨_, rfl⟩
            obtain ⟨x2, hx2⟩ : ∃ x, hexS (y % 16) = x := ⟨_, rfl⟩
            rw [hx1, hx2] at HQ3
            rw [hx1] at h1
            rw [hx2] at h2
            clear hc2 hn34 hx1 hx2
            have HJ := Lib.hid ((HT.out.drewN 1).alloc (Obj.cells #[Value.int .u8 92, Value.int .u8 117, Value.int .u8 48, Value.int .u8 48, Value.int .u8 (x1.toNat : Int), Value.int .u8 (x2.toNat : Int)] 5))
            have HBJ := Lib.hid ((HB.out.trans (Th.drewN B g wr 1)).alloc HT.out.hb (Obj.cells #[Value.int .u8 92, Value.int .u8 117, Value.int .u8 48, Value.int .u8 48, Value.int .u8 (x1.toNat : Int), Value.int .u8 (x2.toNat : Int)] 5))
            have HSD : Hid (∀ ob : Obj, ((World.drew wr).alloc ob).ownsRow B 5 1 (.slice aO m cO) m (bcells o)) := Lib.hid (fun ob => (own_drewN HOW.out 1).alloc ob)
            have d0 : ∀ ob : Obj, (wr.alloc ob).cell? ⟨g, 0 + 0, none⟩ = some (.slice aO m cO) := fun ob => by have h9 := (HT.out.alloc ob).at0.cell 0 _ rfl; rw [show ({ t with out := o } : Te).out.length = m from HM.out] at h9; exact h9
            go_wp2_with fail
            go_region_law (first | (refine step_append_u8 rfl (.tmp 56) (.tmp 63) 66 rfl B 5 i0 Tryd.underlying66 hi hz0 hz1 hz2 _ m o rfl (HSD.out _) wr.heap.size 6 6 [92, 117, 48, 48, x1, x2] rfl rfl (at_cellsW (by rfl) (At.ofAlloc (wr.drewN 1) #[Value.int .u8 92, Value.int .u8 117, Value.int .u8 48, Value.int .u8 48, Value.int .u8 (x1.toNat : Int), Value.int .u8 (x2.toNat : Int)] 5)) (by have := HMX.out; omega) (by have := HT.out.hb; simp; omega) ?_; intro v6 w6 hown6 hgrow6; obtain ⟨a6, c6, hv6, -⟩ := own_form hown6; subst hv6; have hJ := HJ.out; have hgrow7 : (((wr.drewN 1)).alloc (Obj.cells #[Value.int .u8 92, Value.int .u8 117, Value.int .u8 48, Value.int .u8 48, Value.int .u8 (x1.toNat : Int), Value.int .u8 (x2.toNat : Int)] 5)).grownBy w6 (Value.slice aO o.length cO).ownBlock := (by rw [HM.out]; exact hgrow6); have hAt6 := At.grown hJ.at0 hgrow7 hJ.lt hJ.gO; have f06 := hAt6.froz 0 (by show 0 < 3; decide); have c06 := hAt6.cell 0 _ rfl; have H6 := Lib.hid (Tm.growO (o' := o ++ [92, 117, 48, 48, x1, x2]) hJ hgrow7 (by rw [List.length_append, HM.out]; exact hown6)); have HB6 := Lib.hid ((HBJ.out.grown hJ.hb hgrow7 (fun q hq => ⟨(row_not hJ.out (.inl rfl) hq).1, .inr (.inl (row_not hJ.out (.inl rfl) hq).2)⟩)).set (Nat.le_trans hJ.hb hgrow7.size) HT.out.le 0 (.slice a6 (m + 6) c6)); clear hAt6 hJ hown6 hgrow6 hgrow7))
            all_goals
              go_wp2_with fail
              go_roundw
              case rel => exact ⟨i + 1, o ++ [92, 117, 48, 48, x1, x2], .slice a6 (m + 6) c6, by go_num, HI.out, H6, HQ3, HB6⟩
              case measure => have h9 := HI.out; simp [intOf]; omega
          · have HQ3 : Hid (qloop (o ++ [b]) (s.toList.drop (i + 1)) = R) := by
              have h9 := HQ2.out
              rw [qb, if_neg hn34, hy, if_neg hc2] at h9
              exact h9
            have g3 : ¬ (y : Int) < 32 := by omega
            have g3b : decide ((y : Int) < 32) = false := decide_eq_false g3
            clear hc2 hn34
            have HJ := Lib.hid ((HT.out).alloc (Obj.cells #[Value.int .u8 (y : Int)] 5))
            have HBJ := Lib.hid ((HB.out).alloc HT.out.hb (Obj.cells #[Value.int .u8 (y : Int)] 5))
            go_wp2_with (at_builtin; refine wpList_append_u8 rfl (.tmp 26) (.tmp 28) 66 rfl B 5 i0 Tryd.underlying66 hi hz0 hz1 hz2 _ m o rfl (HOW.out.alloc _) wr.heap.size 1 1 [b] rfl rfl (at_cellsW (by show [Value.int .u8 (b.toNat : Int)] = _; rw [HY.out]) (At.ofAlloc wr #[Value.int .u8 (y : Int)] 5)) (by have := HMX.out; omega) (by have := HT.out.hb; simp; omega) ?_; intro v6 w6 hown6 hgrow6; obtain ⟨a6, c6, hv6, -⟩ := own_form hown6; subst hv6; have hJ := HJ.out; have hgrow7 : ((wr).alloc (Obj.cells #[Value.int .u8 (y : Int)] 5)).grownBy w6 (Value.slice aO o.length cO).ownBlock := (by rw [HM.out]; exact hgrow6); have hAt6 := At.grown hJ.at0 hgrow7 hJ.lt hJ.gO; have f06 := hAt6.froz 0 (by show 0 < 3; decide); have c06 := hAt6.cell 0 _ rfl; have H6 := Lib.hid (Tm.growO (o' := o ++ [b]) hJ hgrow7 (by rw [List.length_append, HM.out]; exact hown6)); have HB6 := Lib.hid ((HBJ.out.grown hJ.hb hgrow7 (fun q hq => ⟨(row_not hJ.out (.inl rfl) hq).1, .inr (.inl (row_not hJ.out (.inl rfl) hq).2)⟩)).set (Nat.le_trans hJ.hb hgrow7.size) HT.out.le 0 (.slice a6 (m + 1) c6)); clear hAt6 hJ hown6 hgrow6 hgrow7)
            go_roundw
            case rel => exact ⟨i + 1, o ++ [b], .slice a6 (m + 1) c6, by go_num, HI.out, H6, HQ3, HB6⟩
            case measure => have h9 := HI.out; simp [intOf]; omega
    · obtain rfl : i = n := by omega
      have e1 : ¬ (i : Int) < (i : Int) := by omega
      have HR9 : Hid (put o [34] = R) := by
        have h9 := HQ.out
        rw [List.drop_eq_nil_of_le (by rw [tl_size, HN.out.1]; exact Nat.le_refl _)] at h9
        exact h9
      have P9 := Lib.hid (PT.out wr o vO' HT.out)
      clear hin hi2
      go_wp2_with fail
      refine P9.out.mono ?_
      rintro e w5 ⟨rfl, ⟨vO5, H5⟩, HB5⟩
      go_wp2_with fail
      first | go_end0 | refine bodyPost_ret (results_none rfl _ _ _) rfl ?_
      refine ⟨rfl, ⟨vO5, ?_⟩, HB.out.trans HB5.out⟩
      rw [← HR9.out]
      exact H5
end Je
end Go.Proofs.YtpaikjlcachabaaDoor
namespace Go.Proofs.YtpaikjlcachabaaDoor
open Go.RowKit
set_option linter.unusedVariables false
set_option linter.unusedSimpArgs false
namespace Je
open Js
theorem NamesM.putJ {w : World} {b : Nat} {xs : List (List UInt8)} (hown : NamesM w b xs) (hn : xs.length ≤ 1000000) (s : ByteArray) (hs : s.size ≤ 140737488351232) (z : Nat) (hz : z ≤ 9223372036854775807) :
    ∃ w', (Instr.mapUpdate 62 (.map (some b)) (.string s) (.int .i64 (z : Int))).run Tryd.prog w = .ok () w' ∧ NamesM w' b (xs ++ [s.data.toList]) ∧ w.grownBy w' (some b) := by
  obtain ⟨D, h, h2⟩ := hown
  obtain ⟨w', hrun, h3, h4⟩ := h.update strK Tryd.underlying62 (by unfold maxLen; omega) (key := .string s) (val := .int .i64 (z : Int)) (Go.WideMaps.keyOf_string_mk Tryd.underlying9 (by unfold maxLen; omega)) (plainElem_int (H := Unit) Tryd.underlying3 (WalkArith.wf_i64 (by omega)))
  refine ⟨w', hrun, ⟨_, ?_, has_put D h.isMap xs _ (.lit (.int .i64 (z : Int))) h2⟩, h4⟩
  rw [List.length_append]
  exact h3
theorem lit_inj {a b : Int} {x : DataW Unit} (h : x = .lit (.int .i64 a)) (k : x = .lit (.int .i64 b)) : a = b := by
  rw [h] at k
  injection k with k
  injection k
theorem NamesM.look {w : World} {b : Nat} {xs : List (List UInt8)} (hown : NamesM w b xs) (s : ByteArray) (hs : s.size ≤ 140737488351232) :
    ∃ c : Int, ∀ k, (Instr.lookup 62 (.map (some b)) (.string s) true).run Tryd.prog (w.drewN k) = .ok (.tuple #[.int .i64 c, .bool (decide (s.data.toList ∈ xs))]) (w.drewN k) := by
  obtain ⟨D, h, h2⟩ := hown
  have hall : ∀ k, ∃ c : Int, (Instr.lookup 62 (.map (some b)) (.string s) true).run Tryd.prog (w.drewN k) = .ok (.tuple #[.int .i64 c, .bool (decide (s.data.toList ∈ xs))]) (w.drewN k) ∧ D.atKey (.string s.data.toList) (.lit (.int .i64 0)) = .lit (.int .i64 c) := by
    intro k
    have hk : (w.drewN k).ownsMap Tryd.prog 9 (plainElem Tryd.prog 3) b xs.length D := by
      obtain ⟨es, clock, h1, h3⟩ := h
      exact ⟨es, clock, h1, h3⟩
    obtain ⟨v, ps, hrun, hv⟩ := hk.look_ok strK Tryd.underlying62 (zeroI _) (plainElem_int (H := Unit) Tryd.underlying3 (q := .i64) (a := 0) (by decide)) (Go.WideMaps.keyOf_string_mk Tryd.underlying9 (s := s) (by unfold maxLen; omega))
    obtain ⟨c, rfl, hc, hwc⟩ := plainElem_int_inv Tryd.underlying3 hv
    rw [h2] at hrun
    exact ⟨c, hrun, congrArg Prod.fst hc⟩
  obtain ⟨c, -, hc⟩ := hall 0
  refine ⟨c, fun k => ?_⟩
  obtain ⟨c2, h3, h4⟩ := hall k
  obtain rfl := lit_inj hc h4
  exact h3
theorem hcells_top (f : Hf) (G : List Hf) (b : Option Nat) (bs : List (Option Nat)) (hl : bs.length = G.length) (j : Nat) (hj : j < 4) (u : Value) : (hcells (f :: G) (b :: bs)).set (G.length * 4 + j) u = hcells G bs ++ (hv f b).set j u := by
  rw [hcells_cons, List.set_append_right _ _ (by rw [hcells_length hl]; omega), hcells_length hl, show G.length * 4 + j - 4 * G.length = j by omega]
section
variable {w w' : World} {B g : Nat} {o : List UInt8} {f : Hf} {G : List Hf} {dp : Nat} {vO vS : Value} {b : Option Nat} {bs : List (Option Nat)}
/-- a cell of the topmost one is stored -/
theorem Tm.setTop (h : Tm w B g ⟨o, f :: G, dp⟩ vO vS (b :: bs)) {q cap n : Nat} (hk : vS = .slice (some ⟨q, 0, none⟩) (n + 1) cap) (hn : G.length = n) (j : Nat) (hj : j < 4) (u : Value) (f' : Hf) (hf : (hv f b).set j u = hv f' b) (hnm : f'.names = f.names) :
    Tm (w.setCell ⟨q, n * 4 + j, none⟩ u) B g ⟨o, f' :: G, dp⟩ vO vS (b :: bs) := by
  subst hn
  have hl : bs.length = G.length := by have := h.bl; simpa using this
  have h8 := h.stk
  have hq : vS.ownBlock = some q := by rw [hk]; rfl
  have hne : q ≠ g := h.ty.ne h.stk h_ne_t hq
  rw [hk] at h8
  have hs := (h8.stored (G.length * 4 + j) u).1
  rw [hcells_top f G b bs hl j hj u, hf] at hs
  have k := grown_setJ w ⟨q, G.length * 4 + j, none⟩ u
  have hO : vO.ownBlock = none ∨ vO.ownBlock ≠ some q := by rw [← hq]; exact own_ne h.out h.stk u8_ne_h
  refine ⟨h.at0.other q _ u (Or.inl hne), h.ty.same (k.block g h.lt (fun e => hne (by injection e with e; exact e.symm))), h.out.kept k hO, ?_, ?_, h.le⟩
  · rw [hk]; exact hs
  · have hm := h.maps.kept k (fun b xs hb hm => by have := hm.ne_row h.stk; rw [hq] at this; exact this)
    rw [List.map_cons] at hm ⊢
    rw [show toFr f' = toFr f by rw [toFr, toFr, hnm]]
    exact hm
/-- a name is put to the topmost object -/
theorem Tm.name {bM : Nat} {xs : List (List UInt8)} {x : List UInt8} (h : Tm w B g ⟨o, f :: G, dp⟩ vO vS (some bM :: bs)) (hg : w.grownBy w' (some bM)) (hm : NamesM w' bM (xs ++ [x])) (ho : f.names = some xs) :
    Tm w' B g ⟨o, { f with names := some (xs ++ [x]) } :: G, dp⟩ vO vS (some bM :: bs) := by
  have hmm := h.maps
  rw [List.map_cons] at hmm
  obtain ⟨ys, hm0, hob⟩ : ∃ ys, NamesM w bM ys ∧ B ≤ bM := by cases hmm with | obj _ _ h1 h2 _ => exact ⟨_, h1, h2⟩
  have hne : (some bM : Option Nat) ≠ some g := by intro e; injection e with e; exact hm0.ne_at h.at0 e
  refine ⟨h.at0.grown hg h.lt hne, h.ty.same (hg.block g h.lt (fun e => hne e.symm)), h.out.kept hg (.inr (hm0.ne_row h.out).symm), h.stk.kept hg (.inr (hm0.ne_row h.stk).symm), ?_, h.le⟩
  have h9 := hmm.named hg hm (show (toFr f).o = some xs from ho)
  rw [List.map_cons]
  have h8 : addName x (toFr f :: G.map toFr) = toFr { f with names := some (xs ++ [x]) } :: G.map toFr := by
    show ({ toFr f with o := (toFr f).o.map (· ++ [x]) } : Fr) :: _ = _
    rw [show (toFr f).o = some xs from ho]
    rfl
  rw [h8] at h9
  exact h9
end
def RPl (r : Option (Hf × List UInt8)) (o : List UInt8) (G : List Hf) (dp B g : Nat) (w : World) (e : Ending) (w' : World) : Prop :=
  (r = none ∧ e = .returned (.bool false) ∧ Hid (Th B g w w')) ∨
  (∃ h' pre, r = some (h', pre) ∧ e = .returned (.bool true) ∧ (∃ vO vS bs', Hid (Tm w' B g ⟨if pre = [] then o else put o pre, h' :: G, dp⟩ vO vS bs')) ∧ Hid (Th B g w w'))
theorem run_mapne (b : Nat) (w : World) : (binOp BinOp.neq 62 (.map (some b)) (.map none)).run Tryd.prog w = .ok (.bool true) w := by kernel_rfl
theorem run_mapeq (w : World) : (binOp BinOp.neq 62 (.map none) (.map none)).run Tryd.prog w = .ok (.bool false) w := by kernel_rfl
/-- the topmost one's cells, where they lie -/
theorem Tm.topAt {w : World} {B g : Nat} {o : List UInt8} {f : Hf} {G : List Hf} {dp : Nat} {vO vS : Value} {b : Option Nat} {bs : List (Option Nat)} (h : Tm w B g ⟨o, f :: G, dp⟩ vO vS (b :: bs)) {q cap n : Nat} (hk : vS = .slice (some ⟨q, 0, none⟩) (n + 1) cap) (hn : G.length = n) : At w q (n * 4) (hv f b) := by
  obtain ⟨q2, cap2, hv2, -, -, hA⟩ := h.top
  rw [hk] at hv2
  injection hv2 with h1
  injection h1 with h1
  injection h1 with h1
  subst h1; subst hn
  exact hA
theorem isName_none {f : Hf} (h : f.names = none) : isName f = false := by rw [isName, h]; rfl
theorem isName_even {f : Hf} {xs : List (List UInt8)} (h : f.names = some xs) (h2 : f.left % 2 = 0) : isName f = true := by rw [isName, h, decide_eq_true h2]; rfl
theorem isName_odd {f : Hf} (h2 : ¬ f.left % 2 = 0) : isName f = false := by rw [isName, decide_eq_false h2, Bool.and_false]
set_option maxRecDepth 100000 in
set_option maxHeartbeats 6400000 in
theorem jplaced_any (w : World) (B g : Nat) (o : List UInt8) (f : Hf) (G : List Hf) (dp : Nat) (vO vS : Value) (b : Option Nat) (bs : List (Option Nat)) (hW : Tm w B g ⟨o, f :: G, dp⟩ vO vS (b :: bs)) (X : ByteArray) (hX : X.size ≤ 140737488351232) (kind kids : Int) (hl0 : f.left ≠ 0) (hlb : f.left ≤ 9223372036854775807) (hkb : f.kids ≤ 9223372036854775807) (hn : G.length ≤ 5000) (hnl : ∀ xs, f.names = some xs → xs.length ≤ 1000000) :
    Calls Tryd.prog 48 #[.pointer (some ⟨g, 0, none⟩), .agg #[.int .i64 kind, .int .i64 kids, .string X]] w (RPl (placed f ⟨kind, kids, X.toList⟩) o G dp B g w) := by
  obtain ⟨q, cap, rfl, hcap, hBq, hA⟩ := hW.top
  obtain ⟨n, hnn⟩ : ∃ n, G.length = n := ⟨_, rfl⟩
  obtain ⟨ll, hll⟩ : ∃ x, f.left = x := ⟨_, rfl⟩
  obtain ⟨kk, hkk⟩ : ∃ x, f.kids = x := ⟨_, rfl⟩
  obtain ⟨ob, hob⟩ : ∃ x, Obj.cells #[Value.int .i64 kind, Value.int .i64 kids, Value.string X] 61 = x := ⟨_, rfl⟩
  have HA : Hid (At (w.alloc ob) w.heap.size 0 [.int .i64 kind, .int .i64 kids, .string X]) := by
    rw [← hob]
    exact At.ofAlloc w #[Value.int .i64 kind, Value.int .i64 kids, Value.string X] 61
  have HW1 := Lib.hid (hW.alloc ob)
  have HB1 : Hid (Th B g w (w.alloc ob)) := (Th.refl B g w).alloc hW.hb ob
  have hmm := hW.maps
  rw [List.map_cons] at hmm
  have HMM : Hid ((f.names = none ∧ b = none) ∨ ∃ xs bM, f.names = some xs ∧ b = some bM ∧ NamesM (w.alloc ob) bM xs ∧ B ≤ bM) := by
    cases hmm with
    | arr _ h1 => exact .inl ⟨h1, rfl⟩
    | obj _ h1 h2 h3 _ => exact .inr ⟨_, _, h1, rfl, h2.kept (World.grownBy_alloc w ob none) (by simp), h3⟩
  obtain ⟨T, hT⟩ : ∃ T, w.heap.size = T := ⟨_, rfl⟩
  rw [hT] at HA
  have HN : Hid (G.length = n ∧ n ≤ 5000 ∧ f.left = ll ∧ f.kids = kk ∧ ll ≠ 0) := ⟨hnn, by omega, hll, hkk, by omega⟩
  have HX := Lib.hid hX
  have hnT : (n : Int) + 1 - 1 = (n : Int) := by omega
  have hn5 : (n : Int) ≤ 5000 := by omega
  have hnw : IntKind.i64.wrap (n : Int) = (n : Int) := wrap_fit n (by unfold maxLen; omega)
  have hn7 : (n : Int) < (n : Int) + 1 := by omega
  have hn8 : (0 : Int) ≤ (n : Int) := by omega
  obtain ⟨l1, hl1⟩ : ∃ x, ll - 1 = x := ⟨_, rfl⟩
  have hl1i : (ll : Int) - 1 = (l1 : Int) := by omega
  have hl2i : (l1 : Int) ≤ 9223372036854775806 := by omega
  have HL1 : Hid (f.left - 1 = l1) := by show _ = _; rw [hll]; exact hl1
  have PT := Lib.hid (fun (w' : World) (vO' : Value) (f' : Hf) (s : ByteArray) (h : Tm w' B g ⟨o, f' :: G, dp⟩ vO' (.slice (some ⟨q, 0, none⟩) (G.length + 1) cap) (b :: bs)) (hs : s.size ≤ 140737488351232) => jput_any w' B g _ vO' _ _ s h hs)
  rw [hnn] at PT
  have c1 : (w.alloc ob).cell? ⟨g, 0 + 1, none⟩ = some (.slice (some ⟨q, 0, none⟩) (G.length + 1) cap) := HW1.out.at0.cell 1 _ rfl
  rw [hnn] at c1
  have hA1 := HW1.out.topAt rfl rfl
  rw [hnn] at hA1
  have d0 : (w.alloc ob).cell? ⟨q, n * 4 + 0, none⟩ = some (.int .i64 (f.kids : Int)) := hA1.cell 0 _ rfl
  have d1 : (w.alloc ob).cell? ⟨q, n * 4 + 1, none⟩ = some (.int .i64 (f.left : Int)) := hA1.cell 1 _ rfl
  have d2 : (w.alloc ob).cell? ⟨q, n * 4 + 2, none⟩ = some (.map b) := hA1.cell 2 _ rfl
  have fd1 := hA1.froz 1 (by show 1 < 4; decide)
  rw [hll] at d1
  rw [hkk, Nat.add_zero] at d0
  have k0 : (w.alloc ob).cell? ⟨T, 0, none⟩ = some (.int .i64 kind) := by have h9 := HA.out.cell 0 _ rfl; rw [Nat.zero_add] at h9; exact h9
  have k2 : (w.alloc ob).cell? ⟨T, 0 + 2, none⟩ = some (.string X) := HA.out.cell 2 _ rfl
  have HOB := Lib.hid hob
  have hne := run_mapne
  have heq := run_mapeq
  rw [hnn] at HW1
  clear hA1 hmm hcap hBq hA hnn hkk hX hn hl1 hW hlb hkb
  rcases HMM.out with ⟨hnames, hbn⟩ | ⟨xs, bM, hnames, hbn, hNM, hBM⟩
  · subst hbn
    by_cases hlt : ll < kk
    · have e3 : (ll : Int) < (kk : Int) := by omega
      have HPL : Hid (placed f ⟨kind, kids, X.toList⟩ = some ({ f with left := f.left - 1 }, [44])) := by
        show _ = _
        rw [placed, if_neg (by rw [isName_none hnames]; decide), if_neg (by rw [hnames]; decide), if_pos (by rw [HN.out.2.2.1, HN.out.2.2.2.1]; exact hlt)]
      clear hlt hnames HMM hnl hl0
      go_enter Tryd.func48, Tryd.ntmps48
      go_upto_region 1 with fail
      try rw [hT]
      try rw [hob]
      clear hT hob
      generalize w.alloc ob = w1 at *
      go_wp2_with fail
      go_quiet (fail)
      have HWq := Lib.hid (HW1.out.drewN nq)
      have HBq := Lib.hid (HB1.out.trans (Th.drewN B g w1 nq))
      have d0q : (w1.drewN nq).cell? ⟨q, n * 4, none⟩ = some (.int .i64 (kk : Int)) := d0
      have d1q : (w1.drewN nq).cell? ⟨q, n * 4 + 1, none⟩ = some (.int .i64 (ll : Int)) := d1
      have d2q : (w1.drewN nq).cell? ⟨q, n * 4 + 2, none⟩ = some (.map none) := d2
      have fd1q : (w1.drewN nq).frozen? ⟨q, n * 4 + 1, none⟩ = false := fd1
      have k0q : (w1.drewN nq).cell? ⟨T, 0, none⟩ = some (.int .i64 kind) := k0
      have k2q : (w1.drewN nq).cell? ⟨T, 0 + 2, none⟩ = some (.string X) := k2
      generalize w1.drewN nq = w2 at HWq HBq d0q d1q d2q fd1q k0q k2q ⊢
      clear d0 d1 d2 fd1 k0 k2 c1 HW1 HB1 HA
      go_wp2_with fail
      go_quiet (fail)
      have HWr := Lib.hid (HWq.out.drewN nq)
      have HBr := Lib.hid (HBq.out.trans (Th.drewN B g w2 nq))
      have P5 := Lib.hid (PT.out (w2.drewN nq) _ f ⟨#[44]⟩ HWr.out (by show (1 : Nat) ≤ _; decide))
      rw [show (⟨#[44]⟩ : ByteArray).toList = [44] from tl_mk [44]] at P5
      go_wp2_with fail
      refine P5.out.mono ?_
      rintro e w5 ⟨rfl, ⟨vO5, H5⟩, HB5⟩
      have H5b := Lib.hid H5.out
      have hA5 := H5b.out.topAt (n := n) rfl HN.out.1
      have d15 : w5.cell? ⟨q, n * 4 + 1, none⟩ = some (.int .i64 (f.left : Int)) := hA5.cell 1 _ rfl
      rw [HN.out.2.2.1] at d15
      have fd15 := hA5.froz 1 (by show 1 < 4; decide)
      have H6 := Lib.hid (H5b.out.setTop (n := n) rfl HN.out.1 1 (by decide) (.int .i64 (l1 : Int)) { f with left := f.left - 1 } (by show [Value.int .i64 (f.kids : Int), Value.int .i64 (l1 : Int), _, Value.int .u8 (f.e : Int)] = [Value.int .i64 (f.kids : Int), Value.int .i64 ((f.left - 1 : Nat) : Int), _, Value.int .u8 (f.e : Int)]; rw [show f.left - 1 = l1 from HL1.out]) rfl)
      have HB6 := Lib.hid ((HBr.out.trans HB5.out).grown H5b.out.hb (grown_setJ w5 ⟨q, n * 4 + 1, none⟩ (.int .i64 (l1 : Int))) (fun r hr => by cases hr; exact ⟨(row_not H5b.out.stk (.inr rfl) rfl).1, .inr (.inl (row_not H5b.out.stk (.inr rfl) rfl).2)⟩))
      clear hA5 H5 HB5
      go_wp2_with fail
      exact bodyPost_ret (v := .bool true) (by simp [results, Tryd.results48, go_sem]) rfl (.inr ⟨_, _, HPL.out, rfl, ⟨_, _, _, H6⟩, HB6.out⟩)
    · have e3 : ¬ (ll : Int) < (kk : Int) := by omega
      have e3b : decide ((ll : Int) < (kk : Int)) = false := decide_eq_false e3
      have HPL : Hid (placed f ⟨kind, kids, X.toList⟩ = some ({ f with left := f.left - 1 }, [])) := by
        show _ = _
        rw [placed, if_neg (by rw [isName_none hnames]; decide), if_neg (by rw [hnames]; decide), if_neg (by rw [HN.out.2.2.1, HN.out.2.2.2.1]; exact hlt)]
      clear hlt hnames HMM hnl hl0
      go_enter Tryd.func48, Tryd.ntmps48
      go_upto_region 1 with fail
      try rw [hT]
      try rw [hob]
      clear hT hob
      generalize w.alloc ob = w1 at *
      go_wp2_with fail
      go_quiet (fail)
      have HWq := Lib.hid (HW1.out.drewN nq)
      have HBq := Lib.hid (HB1.out.trans (Th.drewN B g w1 nq))
      have d0q : (w1.drewN nq).cell? ⟨q, n * 4, none⟩ = some (.int .i64 (kk : Int)) := d0
      have d1q : (w1.drewN nq).cell? ⟨q, n * 4 + 1, none⟩ = some (.int .i64 (ll : Int)) := d1
      have d2q : (w1.drewN nq).cell? ⟨q, n * 4 + 2, none⟩ = some (.map none) := d2
      have fd1q : (w1.drewN nq).frozen? ⟨q, n * 4 + 1, none⟩ = false := fd1
      have k0q : (w1.drewN nq).cell? ⟨T, 0, none⟩ = some (.int .i64 kind) := k0
      have k2q : (w1.drewN nq).cell? ⟨T, 0 + 2, none⟩ = some (.string X) := k2
      generalize w1.drewN nq = w2 at HWq HBq d0q d1q d2q fd1q k0q k2q ⊢
      clear d0 d1 d2 fd1 k0 k2 c1 HW1 HB1 HA
      go_wp2_with fail
      go_quiet (fail)
      have HWr := Lib.hid (HWq.out.drewN nq)
      have HBr := Lib.hid (HBq.out.trans (Th.drewN B g w2 nq))
      have H6 := Lib.hid ((HWr.out).setTop (n := n) rfl HN.out.1 1 (by decide) (.int .i64 (l1 : Int)) { f with left := f.left - 1 } (by show [Value.int .i64 (f.kids : Int), Value.int .i64 (l1 : Int), _, Value.int .u8 (f.e : Int)] = [Value.int .i64 (f.kids : Int), Value.int .i64 ((f.left - 1 : Nat) : Int), _, Value.int .u8 (f.e : Int)]; rw [show f.left - 1 = l1 from HL1.out]) rfl)
      have HB6 := Lib.hid ((HBr.out).grown (HWr.out).hb (grown_setJ (w2.drewN nq) ⟨q, n * 4 + 1, none⟩ (.int .i64 (l1 : Int))) (fun r hr => by cases hr; exact ⟨(row_not (HWr.out).stk (.inr rfl) rfl).1, .inr (.inl (row_not (HWr.out).stk (.inr rfl) rfl).2)⟩))
      go_wp2_with fail
      exact bodyPost_ret (v := .bool true) (by simp [results, Tryd.results48, go_sem]) rfl (.inr ⟨_, _, HPL.out, rfl, ⟨_, _, _, H6⟩, HB6.out⟩)
  · subst hbn
    skip
    by_cases h2 : ll % 2 = 0
    · have hev : (ll : Int) % 2 = 0 := by omega
      have hin := isName_even hnames (by rw [HN.out.2.2.1]; exact h2)
      by_cases hmem : X.toList ∈ xs
      · have HPL : Hid (placed f ⟨kind, kids, X.toList⟩ = none) := by
          show _ = _
          rw [placed, if_pos hin, if_pos (.inl (by rw [hnames]; exact hmem))]
        have HNMS := Lib.hid hnames
        clear hnl hl0 HMM hin
        go_enter Tryd.func48, Tryd.ntmps48
        go_upto_region 1 with fail
        try rw [hT]
        try rw [hob]
        clear hT hob
        generalize w.alloc ob = w1 at *
        go_wp2_with fail
        go_quiet (fail)
        have HWq := Lib.hid (HW1.out.drewN nq)
        have HBq := Lib.hid (HB1.out.trans (Th.drewN B g w1 nq))
        have d0q : (w1.drewN nq).cell? ⟨q, n * 4, none⟩ = some (.int .i64 (kk : Int)) := d0
        have d1q : (w1.drewN nq).cell? ⟨q, n * 4 + 1, none⟩ = some (.int .i64 (ll : Int)) := d1
        have d2q : (w1.drewN nq).cell? ⟨q, n * 4 + 2, none⟩ = some (.map (some bM)) := d2
        have fd1q : (w1.drewN nq).frozen? ⟨q, n * 4 + 1, none⟩ = false := fd1
        have k0q : (w1.drewN nq).cell? ⟨T, 0, none⟩ = some (.int .i64 kind) := k0
        have k2q : (w1.drewN nq).cell? ⟨T, 0 + 2, none⟩ = some (.string X) := k2
        have hNMq : Hid (NamesM (w1.drewN nq) bM xs) := hNM.same rfl
        generalize w1.drewN nq = w2 at HWq HBq d0q d1q d2q fd1q k0q k2q hNMq ⊢
        clear d0 d1 d2 fd1 k0 k2 c1 HW1 HB1 HA
        obtain ⟨c, hlk⟩ := NamesM.look hNMq.out X HX.out
        have hlk1 : (Instr.lookup 62 (.map (some bM)) (.string X) true).run Tryd.prog w2.drew = .ok (.tuple #[.int .i64 c, .bool true]) w2.drew := by
          have h9 := hlk 1
          rw [show X.data.toList = X.toList from (Lib.toList_data X).symm, decide_eq_true hmem] at h9
          exact h9
        clear hlk
        go_wp2_with fail
        go_region
        go_wp2_with fail
        exact bodyPost_ret (v := .bool false) (by simp [results, Tryd.results48, go_sem]) rfl (.inl ⟨HPL.out, rfl, HBq.out.trans (Th.drewN B g w2 1)⟩)
      · by_cases hk4 : kind = 4
        · by_cases hlt : ll < kk
          · have HPL : Hid (placed f ⟨kind, kids, X.toList⟩ = some ({ f with left := f.left - 1, names := some (xs ++ [X.toList]) }, [44])) := by
              show _ = _
              rw [placed, if_pos hin, if_neg (by rintro (h | h); rw [hnames] at h; exact hmem h; exact h hk4), if_pos (by rw [HN.out.2.2.1, HN.out.2.2.2.1]; exact hlt), hnames]
              rfl
            have e3 : (ll : Int) < (kk : Int) := by omega
            have hxl := hnl xs hnames
            have hk4b : (kind != 4) = false := by rw [hk4]; rfl
            have hk4c : (kind == 4) = true := by rw [hk4]; rfl
            clear hk4
            have HNMS := Lib.hid hnames
            clear hnl hl0 HMM hin hlt
            go_enter Tryd.func48, Tryd.ntmps48
            go_upto_region 1 with fail
            try rw [hT]
            try rw [hob]
            clear hT hob
            generalize w.alloc ob = w1 at *
            go_wp2_with fail
            go_quiet (fail)
            have HWq := Lib.hid (HW1.out.drewN nq)
            have HBq := Lib.hid (HB1.out.trans (Th.drewN B g w1 nq))
            have d0q : (w1.drewN nq).cell? ⟨q, n * 4, none⟩ = some (.int .i64 (kk : Int)) := d0
            have d1q : (w1.drewN nq).cell? ⟨q, n * 4 + 1, none⟩ = some (.int .i64 (ll : Int)) := d1
            have d2q : (w1.drewN nq).cell? ⟨q, n * 4 + 2, none⟩ = some (.map (some bM)) := d2
            have fd1q : (w1.drewN nq).frozen? ⟨q, n * 4 + 1, none⟩ = false := fd1
            have k0q : (w1.drewN nq).cell? ⟨T, 0, none⟩ = some (.int .i64 kind) := k0
            have k2q : (w1.drewN nq).cell? ⟨T, 0 + 2, none⟩ = some (.string X) := k2
            have hNMq : Hid (NamesM (w1.drewN nq) bM xs) := hNM.same rfl
            generalize w1.drewN nq = w2 at HWq HBq d0q d1q d2q fd1q k0q k2q hNMq ⊢
            clear d0 d1 d2 fd1 k0 k2 c1 HW1 HB1 HA
            obtain ⟨c, hlk⟩ := NamesM.look hNMq.out X HX.out
            have hlk1 : (Instr.lookup 62 (.map (some bM)) (.string X) true).run Tryd.prog w2.drew = .ok (.tuple #[.int .i64 c, .bool false]) w2.drew := by
              have h9 := hlk 1
              rw [show X.data.toList = X.toList from (Lib.toList_data X).symm, decide_eq_false hmem] at h9
              exact h9
            clear hlk
            go_wp2_with fail
            go_region
            have HW3 : Hid (Tm w2.drew B g ⟨o, f :: G, dp⟩ vO (.slice (some ⟨q, 0, none⟩) (n + 1) cap) (some bM :: bs)) := HWq.out.drewN 1
            have HB3 : Hid (Th B g w w2.drew) := HBq.out.trans (Th.drewN B g w2 1)
            have hNM3 : NamesM w2.drew bM xs := hNMq.out.same rfl
            have d0r : w2.drew.cell? ⟨q, n * 4, none⟩ = some (.int .i64 (kk : Int)) := d0q
            have d1r : w2.drew.cell? ⟨q, n * 4 + 1, none⟩ = some (.int .i64 (ll : Int)) := d1q
            have d2r : w2.drew.cell? ⟨q, n * 4 + 2, none⟩ = some (.map (some bM)) := d2q
            have k0r : w2.drew.cell? ⟨T, 0, none⟩ = some (.int .i64 kind) := k0q
            have k2r : w2.drew.cell? ⟨T, 0 + 2, none⟩ = some (.string X) := k2q
            generalize w2.drew = w3 at HW3 HB3 hNM3 d0r d1r d2r k0r k2r ⊢
            clear d0q d1q d2q fd1q k0q k2q hlk1 HWq HBq hNMq
            have hND : NamesM w3.drew bM xs := hNM3.same rfl
            obtain ⟨w4, hup, hNM4, hg4⟩ := NamesM.putJ hND hxl X HX.out ll (by omega)
            rw [show X.data.toList = X.toList from (Lib.toList_data X).symm] at hNM4
            have H4 := Lib.hid ((HW3.out.drewN 1).name hg4 hNM4 HNMS.out)
            have HB4 := Lib.hid ((HB3.out.trans (Th.drewN B g w3 1)).grown HW3.out.hb hg4 (fun r hr => by cases hr; exact ⟨hBM, .inr (.inl (fun h => by obtain ⟨es, ck, hob⟩ := hND.obj; exact h.2.2 es ck hob))⟩))
            have hA4 := H4.out.topAt (n := n) rfl HN.out.1
            have d04 : w4.cell? ⟨q, n * 4 + 0, none⟩ = some (.int .i64 (f.kids : Int)) := hA4.cell 0 _ rfl
            have d14 : w4.cell? ⟨q, n * 4 + 1, none⟩ = some (.int .i64 (f.left : Int)) := hA4.cell 1 _ rfl
            have d24 : w4.cell? ⟨q, n * 4 + 2, none⟩ = some (.map (some bM)) := hA4.cell 2 _ rfl
            have fd14 := hA4.froz 1 (by show 1 < 4; decide)
            rw [HN.out.2.2.1] at d14
            rw [HN.out.2.2.2.1, Nat.add_zero] at d04
            clear hA4 hNM4 hg4 hND hxl
            go_wp2_with fail
            go_region
            all_goals
              clear d0r d1r d2r k0r k2r hNM3 hup HW3 HB3
              go_wp2_with fail
              go_quiet (fail)
              have HWr := Lib.hid (H4.out.drewN nq)
              have HBr := Lib.hid (HB4.out.trans (Th.drewN B g w4 nq))
              have P5 := Lib.hid (PT.out (w4.drewN nq) _ { f with names := some (xs ++ [X.toList]) } ⟨#[44]⟩ HWr.out (by show (1 : Nat) ≤ _; decide))
              rw [show (⟨#[44]⟩ : ByteArray).toList = [44] from tl_mk [44]] at P5
              go_wp2_with fail
              refine P5.out.mono ?_
              rintro e w5 ⟨rfl, ⟨vO5, H5⟩, HB5⟩
              have H5b := Lib.hid H5.out
              have hA5 := H5b.out.topAt (n := n) rfl HN.out.1
              have d15 : w5.cell? ⟨q, n * 4 + 1, none⟩ = some (.int .i64 (f.left : Int)) := hA5.cell 1 _ rfl
              rw [HN.out.2.2.1] at d15
              have fd15 := hA5.froz 1 (by show 1 < 4; decide)
              have H6 := Lib.hid (H5b.out.setTop (n := n) rfl HN.out.1 1 (by decide) (.int .i64 (l1 : Int)) { { f with names := some (xs ++ [X.toList]) } with left := f.left - 1 } (by show [Value.int .i64 (f.kids : Int), Value.int .i64 (l1 : Int), _, Value.int .u8 (f.e : Int)] = [Value.int .i64 (f.kids : Int), Value.int .i64 ((f.left - 1 : Nat) : Int), _, Value.int .u8 (f.e : Int)]; rw [show f.left - 1 = l1 from HL1.out]) rfl)
              have HB6 := Lib.hid ((HBr.out.trans HB5.out).grown H5b.out.hb (grown_setJ w5 ⟨q, n * 4 + 1, none⟩ (.int .i64 (l1 : Int))) (fun r hr => by cases hr; exact ⟨(row_not H5b.out.stk (.inr rfl) rfl).1, .inr (.inl (row_not H5b.out.stk (.inr rfl) rfl).2)⟩))
              clear hA5 H5 HB5
              go_wp2_with fail
              exact bodyPost_ret (v := .bool true) (by simp [results, Tryd.results48, go_sem]) rfl (.inr ⟨_, _, HPL.out, rfl, ⟨_, _, _, H6⟩, HB6.out⟩)
          · have HPL : Hid (placed f ⟨kind, kids, X.toList⟩ = some ({ f with left := f.left - 1, names := some (xs ++ [X.toList]) }, [])) := by
              show _ = _
              rw [placed, if_pos hin, if_neg (by rintro (h | h); rw [hnames] at h; exact hmem h; exact h hk4), if_neg (by rw [HN.out.2.2.1, HN.out.2.2.2.1]; exact hlt), hnames]
              rfl
            have e3 : ¬ (ll : Int) < (kk : Int) := by omega
            have e3b : decide ((ll : Int) < (kk : Int)) = false := decide_eq_false e3
            have hxl := hnl xs hnames
            have hk4b : (kind != 4) = false := by rw [hk4]; rfl
            have hk4c : (kind == 4) = true := by rw [hk4]; rfl
            clear hk4
            have HNMS := Lib.hid hnames
            clear hnl hl0 HMM hin hlt
            go_enter Tryd.func48, Tryd.ntmps48
            go_upto_region 1 with fail
            try rw [hT]
            try rw [hob]
            clear hT hob
            generalize w.alloc ob = w1 at *
            go_wp2_with fail
            go_quiet (fail)
            have HWq := Lib.hid (HW1.out.drewN nq)
            have HBq := Lib.hid (HB1.out.trans (Th.drewN B g w1 nq))
            have d0q : (w1.drewN nq).cell? ⟨q, n * 4, none⟩ = some (.int .i64 (kk : Int)) := d0
            have d1q : (w1.drewN nq).cell? ⟨q, n * 4 + 1, none⟩ = some (.int .i64 (ll : Int)) := d1
            have d2q : (w1.drewN nq).cell? ⟨q, n * 4 + 2, none⟩ = some (.map (some bM)) := d2
            have fd1q : (w1.drewN nq).frozen? ⟨q, n * 4 + 1, none⟩ = false := fd1
            have k0q : (w1.drewN nq).cell? ⟨T, 0, none⟩ = some (.int .i64 kind) := k0
            have k2q : (w1.drewN nq).cell? ⟨T, 0 + 2, none⟩ = some (.string X) := k2
            have hNMq : Hid (NamesM (w1.drewN nq) bM xs) := hNM.same rfl
            generalize w1.drewN nq = w2 at HWq HBq d0q d1q d2q fd1q k0q k2q hNMq ⊢
            clear d0 d1 d2 fd1 k0 k2 c1 HW1 HB1 HA
            obtain ⟨c, hlk⟩ := NamesM.look hNMq.out X HX.out
            have hlk1 : (Instr.lookup 62 (.map (some bM)) (.string X) true).run Tryd.prog w2.drew = .ok (.tuple #[.int .i64 c, .bool false]) w2.drew := by
              have h9 := hlk 1
              rw [show X.data.toList = X.toList from (Lib.toList_data X).symm, decide_eq_false hmem] at h9
              exact h9
            clear hlk
            go_wp2_with fail
            go_region
            have HW3 : Hid (Tm w2.drew B g ⟨o, f :: G, dp⟩ vO (.slice (some ⟨q, 0, none⟩) (n + 1) cap) (some bM :: bs)) := HWq.out.drewN 1
            have HB3 : Hid (Th B g w w2.drew) := HBq.out.trans (Th.drewN B g w2 1)
            have hNM3 : NamesM w2.drew bM xs := hNMq.out.same rfl
            have d0r : w2.drew.cell? ⟨q, n * 4, none⟩ = some (.int .i64 (kk : Int)) := d0q
            have d1r : w2.drew.cell? ⟨q, n * 4 + 1, none⟩ = some (.int .i64 (ll : Int)) := d1q
            have d2r : w2.drew.cell? ⟨q, n * 4 + 2, none⟩ = some (.map (some bM)) := d2q
            have k0r : w2.drew.cell? ⟨T, 0, none⟩ = some (.int .i64 kind) := k0q
            have k2r : w2.drew.cell? ⟨T, 0 + 2, none⟩ = some (.string X) := k2q
            generalize w2.drew = w3 at HW3 HB3 hNM3 d0r d1r d2r k0r k2r ⊢
            clear d0q d1q d2q fd1q k0q k2q hlk1 HWq HBq hNMq
            have hND : NamesM w3.drew bM xs := hNM3.same rfl
            obtain ⟨w4, hup, hNM4, hg4⟩ := NamesM.putJ hND hxl X HX.out ll (by omega)
            rw [show X.data.toList = X.toList from (Lib.toList_data X).symm] at hNM4
            have H4 := Lib.hid ((HW3.out.drewN 1).name hg4 hNM4 HNMS.out)
            have HB4 := Lib.hid ((HB3.out.trans (Th.drewN B g w3 1)).grown HW3.out.hb hg4 (fun r hr => by cases hr; exact ⟨hBM, .inr (.inl (fun h => by obtain ⟨es, ck, hob⟩ := hND.obj; exact h.2.2 es ck hob))⟩))
            have hA4 := H4.out.topAt (n := n) rfl HN.out.1
            have d04 : w4.cell? ⟨q, n * 4 + 0, none⟩ = some (.int .i64 (f.kids : Int)) := hA4.cell 0 _ rfl
            have d14 : w4.cell? ⟨q, n * 4 + 1, none⟩ = some (.int .i64 (f.left : Int)) := hA4.cell 1 _ rfl
            have d24 : w4.cell? ⟨q, n * 4 + 2, none⟩ = some (.map (some bM)) := hA4.cell 2 _ rfl
            have fd14 := hA4.froz 1 (by show 1 < 4; decide)
            rw [HN.out.2.2.1] at d14
            rw [HN.out.2.2.2.1, Nat.add_zero] at d04
            clear hA4 hNM4 hg4 hND hxl
            go_wp2_with fail
            go_region
            all_goals
              clear d0r d1r d2r k0r k2r hNM3 hup HW3 HB3
              go_wp2_with fail
              go_quiet (fail)
              have HWr := Lib.hid (H4.out.drewN nq)
              have HBr := Lib.hid (HB4.out.trans (Th.drewN B g w4 nq))
              have H6 := Lib.hid ((HWr.out).setTop (n := n) rfl HN.out.1 1 (by decide) (.int .i64 (l1 : Int)) { { f with names := some (xs ++ [X.toList]) } with left := f.left - 1 } (by show [Value.int .i64 (f.kids : Int), Value.int .i64 (l1 : Int), _, Value.int .u8 (f.e : Int)] = [Value.int .i64 (f.kids : Int), Value.int .i64 ((f.left - 1 : Nat) : Int), _, Value.int .u8 (f.e : Int)]; rw [show f.left - 1 = l1 from HL1.out]) rfl)
              have HB6 := Lib.hid ((HBr.out).grown (HWr.out).hb (grown_setJ (w4.drewN nq) ⟨q, n * 4 + 1, none⟩ (.int .i64 (l1 : Int))) (fun r hr => by cases hr; exact ⟨(row_not (HWr.out).stk (.inr rfl) rfl).1, .inr (.inl (row_not (HWr.out).stk (.inr rfl) rfl).2)⟩))
              go_wp2_with fail
              exact bodyPost_ret (v := .bool true) (by simp [results, Tryd.results48, go_sem]) rfl (.inr ⟨_, _, HPL.out, rfl, ⟨_, _, _, H6⟩, HB6.out⟩)
        · have HPL : Hid (placed f ⟨kind, kids, X.toList⟩ = none) := by
            show _ = _
            rw [placed, if_pos hin, if_pos (.inr hk4)]
          have hk4b : (kind != 4) = true := by rw [bne_iff_ne]; exact hk4
          have hk4c : (kind == 4) = false := by rw [beq_eq_false_iff_ne]; exact hk4
          have HNMS := Lib.hid hnames
          clear hnl hl0 HMM hin
          go_enter Tryd.func48, Tryd.ntmps48
          go_upto_region 1 with fail
          try rw [hT]
          try rw [hob]
          clear hT hob
          generalize w.alloc ob = w1 at *
          go_wp2_with fail
          go_quiet (fail)
          have HWq := Lib.hid (HW1.out.drewN nq)
          have HBq := Lib.hid (HB1.out.trans (Th.drewN B g w1 nq))
          have d0q : (w1.drewN nq).cell? ⟨q, n * 4, none⟩ = some (.int .i64 (kk : Int)) := d0
          have d1q : (w1.drewN nq).cell? ⟨q, n * 4 + 1, none⟩ = some (.int .i64 (ll : Int)) := d1
          have d2q : (w1.drewN nq).cell? ⟨q, n * 4 + 2, none⟩ = some (.map (some bM)) := d2
          have fd1q : (w1.drewN nq).frozen? ⟨q, n * 4 + 1, none⟩ = false := fd1
          have k0q : (w1.drewN nq).cell? ⟨T, 0, none⟩ = some (.int .i64 kind) := k0
          have k2q : (w1.drewN nq).cell? ⟨T, 0 + 2, none⟩ = some (.string X) := k2
          have hNMq : Hid (NamesM (w1.drewN nq) bM xs) := hNM.same rfl
          generalize w1.drewN nq = w2 at HWq HBq d0q d1q d2q fd1q k0q k2q hNMq ⊢
          clear d0 d1 d2 fd1 k0 k2 c1 HW1 HB1 HA
          obtain ⟨c, hlk⟩ := NamesM.look hNMq.out X HX.out
          have hlk1 : (Instr.lookup 62 (.map (some bM)) (.string X) true).run Tryd.prog w2.drew = .ok (.tuple #[.int .i64 c, .bool false]) w2.drew := by
            have h9 := hlk 1
            rw [show X.data.toList = X.toList from (Lib.toList_data X).symm, decide_eq_false hmem] at h9
            exact h9
          clear hlk
          go_wp2_with fail
          go_region
          go_wp2_with fail
          exact bodyPost_ret (v := .bool false) (by simp [results, Tryd.results48, go_sem]) rfl (.inl ⟨HPL.out, rfl, HBq.out.trans (Th.drewN B g w2 1)⟩)
    · have hev : (ll : Int) % 2 = 1 := by omega
      have hin := isName_odd (f := f) (by rw [HN.out.2.2.1]; exact h2)
      have HPL : Hid (placed f ⟨kind, kids, X.toList⟩ = some ({ f with left := f.left - 1 }, [58])) := by
        show _ = _
        rw [placed, if_neg (by rw [hin]; decide), if_pos (by rw [hnames]; rfl)]
      clear hnl hl0 HMM hin hnames h2
      go_enter Tryd.func48, Tryd.ntmps48
      go_upto_region 1 with fail
      try rw [hT]
      try rw [hob]
      clear hT hob
      generalize w.alloc ob = w1 at *
      go_wp2_with fail
      go_quiet (fail)
      have HWq := Lib.hid (HW1.out.drewN nq)
      have HBq := Lib.hid (HB1.out.trans (Th.drewN B g w1 nq))
      have d0q : (w1.drewN nq).cell? ⟨q, n * 4, none⟩ = some (.int .i64 (kk : Int)) := d0
      have d1q : (w1.drewN nq).cell? ⟨q, n * 4 + 1, none⟩ = some (.int .i64 (ll : Int)) := d1
      have d2q : (w1.drewN nq).cell? ⟨q, n * 4 + 2, none⟩ = some (.map (some bM)) := d2
      have fd1q : (w1.drewN nq).frozen? ⟨q, n * 4 + 1, none⟩ = false := fd1
      have k0q : (w1.drewN nq).cell? ⟨T, 0, none⟩ = some (.int .i64 kind) := k0
      have k2q : (w1.drewN nq).cell? ⟨T, 0 + 2, none⟩ = some (.string X) := k2
      have hNMq : Hid (NamesM (w1.drewN nq) bM xs) := hNM.same rfl
      generalize w1.drewN nq = w2 at HWq HBq d0q d1q d2q fd1q k0q k2q hNMq ⊢
      clear d0 d1 d2 fd1 k0 k2 c1 HW1 HB1 HA
      have HWr := HWq
      have HBr := HBq
      have P5 := Lib.hid (PT.out w2 _ f ⟨#[58]⟩ HWr.out (by show (1 : Nat) ≤ _; decide))
      rw [show (⟨#[58]⟩ : ByteArray).toList = [58] from tl_mk [58]] at P5
      go_wp2_with fail
      refine P5.out.mono ?_
      rintro e w5 ⟨rfl, ⟨vO5, H5⟩, HB5⟩
      have H5b := Lib.hid H5.out
      have hA5 := H5b.out.topAt (n := n) rfl HN.out.1
      have d15 : w5.cell? ⟨q, n * 4 + 1, none⟩ = some (.int .i64 (f.left : Int)) := hA5.cell 1 _ rfl
      rw [HN.out.2.2.1] at d15
      have fd15 := hA5.froz 1 (by show 1 < 4; decide)
      have H6 := Lib.hid (H5b.out.setTop (n := n) rfl HN.out.1 1 (by decide) (.int .i64 (l1 : Int)) { f with left := f.left - 1 } (by show [Value.int .i64 (f.kids : Int), Value.int .i64 (l1 : Int), _, Value.int .u8 (f.e : Int)] = [Value.int .i64 (f.kids : Int), Value.int .i64 ((f.left - 1 : Nat) : Int), _, Value.int .u8 (f.e : Int)]; rw [show f.left - 1 = l1 from HL1.out]) rfl)
      have HB6 := Lib.hid ((HBr.out.trans HB5.out).grown H5b.out.hb (grown_setJ w5 ⟨q, n * 4 + 1, none⟩ (.int .i64 (l1 : Int))) (fun r hr => by cases hr; exact ⟨(row_not H5b.out.stk (.inr rfl) rfl).1, .inr (.inl (row_not H5b.out.stk (.inr rfl) rfl).2)⟩))
      clear hA5 H5 HB5
      go_wp2_with fail
      exact bodyPost_ret (v := .bool true) (by simp [results, Tryd.results48, go_sem]) rfl (.inr ⟨_, _, HPL.out, rfl, ⟨_, _, _, H6⟩, HB6.out⟩)
end Je
end Go.Proofs.YtpaikjlcachabaaDoor
namespace Go.Proofs.YtpaikjlcachabaaDoor
open Go.RowKit
set_option linter.unusedVariables false
set_option linter.unusedSimpArgs false
namespace Je
open Js
theorem endS_props : ∀ (st : List Hf) (o : List UInt8), ((endS o st).2.length ≤ st.length ∧ (∀ f ∈ (endS o st).2, f ∈ st)) ∧ ∀ f G, (endS o st).2 = f :: G → f.left ≠ 0
  | [], o => ⟨⟨Nat.le_refl _, fun f h => h⟩, fun f G h => by cases h⟩
  | h :: G, o => by
    by_cases h0 : h.left = 0
    · rw [endS_go h0]
      obtain ⟨⟨h1, h2⟩, h3⟩ := endS_props G (if G = [] then o else put o [UInt8.ofNat h.e])
      exact ⟨⟨Nat.le_succ_of_le h1, fun f hf => List.mem_cons_of_mem _ (h2 f hf)⟩, h3⟩
    · rw [endS_stop h0]
      exact ⟨⟨Nat.le_refl _, fun f h => h⟩, fun f G h1 => by
        have h2 : h = f := by injection h1
        rw [← h2]; exact h0⟩
/-- what is begun behind m values -/
structure WfS (m : Nat) (st : List Hf) : Prop where
  len : st.length ≤ m + 1
  all : ∀ f ∈ st, f.kids ≤ 9223372036854775807 ∧ f.left ≤ f.kids ∧ (∀ xs, f.names = some xs → xs.length ≤ m) ∧ f.e < 256
theorem WfS.ends {m : Nat} {st : List Hf} (h : WfS m st) (o : List UInt8) : WfS m (endS o st).2 := by
  obtain ⟨⟨h1, h2⟩, -⟩ := endS_props st o
  exact ⟨Nat.le_trans h1 h.len, fun f hf => h.all f (h2 f hf)⟩
theorem placed_wf {m : Nat} {f h' : Hf} {G : List Hf} {v : Vl} {pre : List UInt8} (h : WfS m (f :: G)) (hp : placed f v = some (h', pre)) : WfS (m + 1) (h' :: G) ∧ (h' :: G).length ≤ m + 1 := by
  have hf := h.all f (by simp)
  have hlen := h.len
  rw [List.length_cons] at hlen
  have hh : h'.kids = f.kids ∧ h'.left = f.left - 1 ∧ h'.e = f.e ∧ (∀ xs, h'.names = some xs → xs.length ≤ m + 1) := by
    rw [placed] at hp
    split at hp
    · split at hp
      · cases hp
      · injection hp with hp
        injection hp with hp _
        subst hp
        refine ⟨rfl, rfl, rfl, fun xs hx => ?_⟩
        injection hx with hx
        rw [← hx, List.length_append]
        have : (f.names.getD []).length ≤ m := by
          cases hn : f.names with
          | none => exact Nat.zero_le _
          | some ys => exact hf.2.2.1 ys hn
        simp; omega
    · split at hp
      · injection hp with hp
        injection hp with hp _
        subst hp
        exact ⟨rfl, rfl, rfl, fun xs hx => Nat.le_succ_of_le (hf.2.2.1 xs hx)⟩
      · injection hp with hp
        injection hp with hp _
        subst hp
        exact ⟨rfl, rfl, rfl, fun xs hx => Nat.le_succ_of_le (hf.2.2.1 xs hx)⟩
  refine ⟨⟨by rw [List.length_cons]; omega, fun x hx => ?_⟩, by rw [List.length_cons]; omega⟩
  rcases List.mem_cons.1 hx with rfl | hx
  · exact ⟨by rw [hh.1]; exact hf.1, by rw [hh.1, hh.2.1]; omega, hh.2.2.2, by rw [hh.2.2.1]; exact hf.2.2.2⟩
  · have h9 := h.all x (by simp [hx])
    exact ⟨h9.1, h9.2.1, fun xs hx => Nat.le_succ_of_le (h9.2.2.1 xs hx), h9.2.2.2⟩
/-- another block's cells stay -/
theorem Th.at {B g : Nat} {w w' : World} (h : Th B g w w') {T o : Nat} {c : Value} {cs : List Value} (hA : At w T o (c :: cs)) (hT : T < w.heap.size) (hg : T ≠ g) (hn : NotH w T) : At w' T o (c :: cs) := fun j v hv => by
  obtain ⟨h3, h4⟩ := hA j v hv
  have h5 := h.block T hT hg hn
  refine ⟨?_, ?_⟩
  · rw [← h3]; simp only [World.cell?, h5]
  · rw [← h4]; simp only [World.frozen?, h5]
theorem notH_new (w : World) (cs : Array Value) : NotH (w.alloc (Obj.cells cs 61)) w.heap.size := by
  have h1 := (MapKept.heap_alloc w (Obj.cells cs 61)).1
  refine ⟨fun cur h => ?_, fun cur h => ?_, fun es k h => ?_⟩
  · rw [h1] at h; injection h with h; injection h with _ h; exact absurd h (by decide)
  · rw [h1] at h; injection h with h; injection h with _ h; exact absurd h (by decide)
  · rw [h1] at h; injection h with h; cases h
def RVl (r : Option Te) (B g : Nat) (w : World) (e : Ending) (w' : World) : Prop :=
  (r = none ∧ e = .returned (.bool false) ∧ Hid (Th B g w w')) ∨
  (∃ t', r = some t' ∧ e = .returned (.bool true) ∧ (∃ vO vS bs, Hid (Tm w' B g t' vO vS bs)) ∧ Hid (Th B g w w'))
theorem valueS_nil {t : Te} {v : Vl} (h : (endS t.out t.st).2 = []) : valueS t v = none := by
  rw [valueS]
  split
  · rfl
  · rename_i h1; rw [h1] at h; cases h
theorem valueS_none {t : Te} {v : Vl} {f : Hf} {G : List Hf} (h : (endS t.out t.st).2 = f :: G) (hp : placed f v = none) : valueS t v = none := by
  rw [valueS]
  split
  · rfl
  · rename_i h1
    rw [h1] at h
    injection h with h2 h3
    subst h2; subst h3
    rw [hp]
theorem valueS_some {t : Te} {v : Vl} {f h' : Hf} {G : List Hf} {pre : List UInt8} (h : (endS t.out t.st).2 = f :: G) (hp : placed f v = some (h', pre)) : valueS t v = some (tellV (if pre = [] then (endS t.out t.st).1 else put (endS t.out t.st).1 pre) (h' :: G) t.deep v) := by
  rw [valueS]
  split
  · rename_i h1; rw [h1] at h; cases h
  · rename_i h1
    rw [h1] at h
    injection h with h2 h3
    subst h2; subst h3
    rw [hp, h1]
set_option maxRecDepth 100000 in
set_option maxHeartbeats 6400000 in
theorem jvalue_any (w : World) (B g m : Nat) (t : Te) (vO vS : Value) (bs : List (Option Nat)) (hW : Tm w B g t vO vS bs) (hwf : WfS m t.st) (hm : m ≤ 4096) (X : ByteArray) (hX : X.size ≤ 140737488351232) (kind : Int) (kn : Nat) (hk : 0 ≤ kind ∧ kind ≤ 6) :
    Calls Tryd.prog 29 #[.pointer (some ⟨g, 0, none⟩), .agg #[.int .i64 kind, .int .i64 (kn : Int), .string X]] w (RVl (valueS t ⟨kind, kn, X.toList⟩) B g w) := by
  obtain ⟨ob, hob⟩ : ∃ x, Obj.cells #[Value.int .i64 kind, Value.int .i64 (kn : Int), Value.string X] 61 = x := ⟨_, rfl⟩
  obtain ⟨T, hT⟩ : ∃ T, w.heap.size = T := ⟨_, rfl⟩
  have HA : Hid (At (w.alloc ob) T 0 [.int .i64 kind, .int .i64 (kn : Int), .string X] ∧ NotH (w.alloc ob) T ∧ T < (w.alloc ob).heap.size ∧ T ≠ g) := by
    rw [← hob, ← hT]
    exact ⟨At.ofAlloc w #[Value.int .i64 kind, Value.int .i64 (kn : Int), Value.string X] 61, notH_new w _, by simp, by have := hW.lt; omega⟩
  have HB1 : Hid (Th B g w (w.alloc ob)) := (Th.refl B g w).alloc hW.hb ob
  have ED := Lib.hid (jended_any (w.alloc ob) B g t vO vS bs (hW.alloc ob) (by have := hwf.len; omega) (fun f hf => (hwf.all f hf).2.2.2))
  have HWF := Lib.hid (And.intro (hwf.ends t.out) (And.intro (endS_props t.st t.out).2 (And.intro hm hX)))
  obtain ⟨R, hR⟩ : ∃ R, valueS t ⟨kind, kn, X.toList⟩ = R := ⟨_, rfl⟩
  have HRR := Lib.hid hR
  rw [hR]
  have HOB := Lib.hid hob
  obtain ⟨o1, ho1⟩ : ∃ x, (endS t.out t.st).1 = x := ⟨_, rfl⟩
  have HO1 := Lib.hid ho1
  clear hW hwf hm hX hR ho1
  go_enter Tryd.func29, Tryd.ntmps29
  go_upto_region 1 with fail
  try rw [hT]
  try rw [hob]
  clear hT hob
  generalize w.alloc ob = w1 at *
  cases hst : (endS t.out t.st).2 with
  | nil =>
    have HR2 : Hid (R = none) := by show R = none; rw [← HRR.out, valueS_nil hst]
    have hd : decide ((endS t.out t.st).2 = []) = true := decide_eq_true hst
    clear hst
    go_wp2_with fail
    refine ED.out.mono ?_
    rintro e w2 ⟨rfl, -, HB2⟩
    rw [hd]
    go_wp2_with fail
    exact bodyPost_ret (v := .bool false) (by simp [results, Tryd.results29, go_sem]) rfl (.inl ⟨HR2.out, rfl, HB1.out.trans HB2.out⟩)
  | cons f G =>
    have hd : decide ((endS t.out t.st).2 = []) = false := by rw [hst]; rfl
    have HST := Lib.hid hst
    have hwf1 := HWF.out.1
    rw [hst] at hwf1
    have HWF1 := Lib.hid hwf1
    have HL0 : Hid (f.left ≠ 0) := HWF.out.2.1 f G hst
    have PL := Lib.hid (fun (w' : World) (vO' vS' : Value) (b : Option Nat) (bs' : List (Option Nat)) (h : Tm w' B g ⟨o1, f :: G, t.deep⟩ vO' vS' (b :: bs')) => jplaced_any w' B g o1 f G t.deep vO' vS' b bs' h X HWF.out.2.2.2 kind (kn : Int) HL0.out (by have := hwf1.all f (by simp); omega) (hwf1.all f (by simp)).1 (by have h9 := hwf1.len; rw [List.length_cons] at h9; have := HWF.out.2.2.1; omega) (fun xs hx => by have := (hwf1.all f (by simp)).2.2.1 xs hx; have := HWF.out.2.2.1; omega))
    clear hst hwf1
    go_wp2_with fail
    refine ED.out.mono ?_
    rintro e w2 ⟨rfl, ⟨vO2, vS2, bs2, h2⟩, HB2⟩
    rw [hd]
    have H2 : Hid (Tm w2 B g ⟨o1, f :: G, t.deep⟩ vO2 vS2 bs2) := by
      show Tm w2 B g ⟨o1, f :: G, t.deep⟩ vO2 vS2 bs2
      rw [← HST.out, ← HO1.out]
      exact h2.out
    obtain ⟨b2, bs2', rfl⟩ : ∃ b l, bs2 = b :: l := by
      cases bs2 with
      | nil => exact absurd H2.out.bl (by simp)
      | cons b l => exact ⟨b, l, rfl⟩
    have HA2 : Hid (At w2 T 0 [.int .i64 kind, .int .i64 (kn : Int), .string X] ∧ NotH w2 T ∧ T < w2.heap.size ∧ T ≠ g) := ⟨HB2.out.at HA.out.1 HA.out.2.2.1 HA.out.2.2.2 HA.out.2.1, HA.out.2.1.same (HB2.out.block T HA.out.2.2.1 HA.out.2.2.2 HA.out.2.1), Nat.lt_of_lt_of_le HA.out.2.2.1 HB2.out.size, HA.out.2.2.2⟩
    have HB2w := Lib.hid (HB1.out.trans HB2.out)
    have PL2 := Lib.hid (PL.out w2 vO2 vS2 b2 bs2' H2.out)
    have k0 := HA2.out.1.cell 0 _ rfl
    have k1 := HA2.out.1.cell 1 _ rfl
    have k2 := HA2.out.1.cell 2 _ rfl
    clear h2 PL ED HA HB1 HB2
    go_wp2_with fail
    refine PL2.out.mono ?_
    rintro e w3 (⟨hp, rfl, HB3⟩ | ⟨h', pre, hp, rfl, ⟨vO3, vS3, bs3, H3⟩, HB3⟩)
    · have HR2 : Hid (R = none) := by show R = none; rw [← HRR.out, valueS_none HST.out hp]
      clear hp
      go_wp2_with fail
      exact bodyPost_ret (v := .bool false) (by simp [results, Tryd.results29, go_sem]) rfl (.inl ⟨HR2.out, rfl, HB2w.out.trans HB3.out⟩)
    · have hwf3 := placed_wf HWF1.out hp
      have HR2 : Hid (R = some (tellV (if pre = [] then o1 else put o1 pre) (h' :: G) t.deep ⟨kind, kn, X.toList⟩)) := by show R = _; rw [← HRR.out, valueS_some HST.out hp, HO1.out]
      obtain ⟨o3, ho3⟩ : ∃ x, (if pre = [] then o1 else put o1 pre) = x := ⟨_, rfl⟩
      rw [ho3] at HR2 H3
      have HA3 : Hid (At w3 T 0 [.int .i64 kind, .int .i64 (kn : Int), .string X]) := HB3.out.at HA2.out.1 HA2.out.2.2.1 HA2.out.2.2.2 HA2.out.2.1
      have HN3 : Hid (NotH w3 T ∧ T < w3.heap.size ∧ T ≠ g) := ⟨HA2.out.2.1.same (HB3.out.block T HA2.out.2.2.1 HA2.out.2.2.2 HA2.out.2.1), Nat.lt_of_lt_of_le HA2.out.2.2.1 HB3.out.size, HA2.out.2.2.2⟩
      have HB3w := Lib.hid (HB2w.out.trans HB3.out)
      have HL3 : Hid ((h' :: G).length ≤ 4097) := by show _ ≤ _; have := hwf3.2; have := HWF.out.2.2.1; omega
      have PT := Lib.hid (fun (s : ByteArray) (hs : s.size ≤ 140737488351232) => jput_any w3 B g _ vO3 vS3 bs3 s H3.out hs)
      have k03 := HA3.out.cell 0 _ rfl
      have k13 := HA3.out.cell 1 _ rfl
      have k23 := HA3.out.cell 2 _ rfl
      clear hp ho3 hwf3 k0 k1 k2
      rcases (by omega : kind = 0 ∨ kind = 1 ∨ kind = 2 ∨ kind = 3 ∨ kind = 4 ∨ kind = 5 ∨ kind = 6) with rfl | rfl | rfl | rfl | rfl | rfl | rfl
      · have P4 := Lib.hid (PT.out ⟨#[110, 117, 108, 108]⟩ (by show (4 : Nat) ≤ _; decide))
        rw [show (⟨#[110, 117, 108, 108]⟩ : ByteArray).toList = [110, 117, 108, 108] from tl_mk [110, 117, 108, 108]] at P4
        go_wp2_with fail
        refine P4.out.mono ?_
        rintro e w4 ⟨rfl, ⟨vO4, H4⟩, HB4⟩
        go_wp2_with fail
        exact bodyPost_ret (v := .bool true) (by simp [results, Tryd.results29, go_sem]) rfl (.inr ⟨_, HR2.out, rfl, ⟨_, _, _, H4⟩, HB3w.out.trans HB4.out⟩)
      · have P4 := Lib.hid (PT.out ⟨#[102, 97, 108, 115, 101]⟩ (by show (5 : Nat) ≤ _; decide))
        rw [show (⟨#[102, 97, 108, 115, 101]⟩ : ByteArray).toList = [102, 97, 108, 115, 101] from tl_mk [102, 97, 108, 115, 101]] at P4
        go_wp2_with fail
        refine P4.out.mono ?_
        rintro e w4 ⟨rfl, ⟨vO4, H4⟩, HB4⟩
        go_wp2_with fail
        exact bodyPost_ret (v := .bool true) (by simp [results, Tryd.results29, go_sem]) rfl (.inr ⟨_, HR2.out, rfl, ⟨_, _, _, H4⟩, HB3w.out.trans HB4.out⟩)
      · have P4 := Lib.hid (PT.out ⟨#[116, 114, 117, 101]⟩ (by show (4 : Nat) ≤ _; decide))
        rw [show (⟨#[116, 114, 117, 101]⟩ : ByteArray).toList = [116, 114, 117, 101] from tl_mk [116, 114, 117, 101]] at P4
        go_wp2_with fail
        refine P4.out.mono ?_
        rintro e w4 ⟨rfl, ⟨vO4, H4⟩, HB4⟩
        go_wp2_with fail
        exact bodyPost_ret (v := .bool true) (by simp [results, Tryd.results29, go_sem]) rfl (.inr ⟨_, HR2.out, rfl, ⟨_, _, _, H4⟩, HB3w.out.trans HB4.out⟩)
      · have P4 := Lib.hid (PT.out X HWF.out.2.2.2)
        go_wp2_with fail
        refine P4.out.mono ?_
        rintro e w4 ⟨rfl, ⟨vO4, H4⟩, HB4⟩
        go_wp2_with fail
        exact bodyPost_ret (v := .bool true) (by simp [results, Tryd.results29, go_sem]) rfl (.inr ⟨_, HR2.out, rfl, ⟨_, _, _, H4⟩, HB3w.out.trans HB4.out⟩)
      · have P4 := Lib.hid (jquote_any w3 B g _ vO3 vS3 bs3 X H3.out HWF.out.2.2.2)
        go_wp2_with fail
        refine P4.out.mono ?_
        rintro e w4 ⟨rfl, ⟨vO4, H4⟩, HB4⟩
        go_wp2_with fail
        exact bodyPost_ret (v := .bool true) (by simp [results, Tryd.results29, go_sem]) rfl (.inr ⟨_, HR2.out, rfl, ⟨_, _, _, H4⟩, HB3w.out.trans HB4.out⟩)
      · have P4 := Lib.hid (PT.out ⟨#[91]⟩ (by show (1 : Nat) ≤ _; decide))
        rw [show (⟨#[91]⟩ : ByteArray).toList = [91] from tl_mk [91]] at P4
        go_wp2_with fail
        refine P4.out.mono ?_
        rintro e w4 ⟨rfl, ⟨vO4, H4⟩, HB4⟩
        have HA4 := HB4.out.at HA3.out HN3.out.2.1 HN3.out.2.2 HN3.out.1
        have k14 := HA4.cell 1 _ rfl
        clear HA4 k03 k13 k23
        have HD := Lib.hid (jhold_any w4 B g _ vO4 vS3 bs3 H4.out ⟨kn, kn, none, 93⟩ none (.inl ⟨rfl, rfl⟩) (by have := HL3.out; show (h' :: G).length ≤ 5000; omega))
        go_wp2_with fail
        refine HD.out.mono ?_
        rintro e w5 ⟨rfl, ⟨vO5, vS5, H5⟩, HB5⟩
        go_wp2_with fail
        exact bodyPost_ret (v := .bool true) (by simp [results, Tryd.results29, go_sem]) rfl (.inr ⟨_, HR2.out, rfl, ⟨_, _, _, H5⟩, (HB3w.out.trans HB4.out).trans HB5.out⟩)
      · have P4 := Lib.hid (PT.out ⟨#[123]⟩ (by show (1 : Nat) ≤ _; decide))
        rw [show (⟨#[123]⟩ : ByteArray).toList = [123] from tl_mk [123]] at P4
        go_wp2_with fail
        refine P4.out.mono ?_
        rintro e w4 ⟨rfl, ⟨vO4, H4⟩, HB4⟩
        have HA4 := HB4.out.at HA3.out HN3.out.2.1 HN3.out.2.2 HN3.out.1
        have k14 := HA4.cell 1 _ rfl
        clear HA4 k03 k13 k23
        have H4m := Lib.hid (H4.out.alloc (.map #[] 0))
        have HB4m := Lib.hid (HB4.out.alloc H4.out.hb (.map #[] 0))
        have HNM : Hid (NamesM (w4.alloc (.map #[] 0)) w4.heap.size [] ∧ B ≤ w4.heap.size ∧ some w4.heap.size ∉ bs3) := ⟨NamesM.made w4, H4.out.hb, fun h => by have := (H4.out.maps.ge _ h).2; omega⟩
        obtain ⟨bM, hbM⟩ : ∃ x, w4.heap.size = x := ⟨_, rfl⟩
        rw [hbM] at HNM
        have HD := Lib.hid (jhold_any (w4.alloc (.map #[] 0)) B g _ vO4 vS3 bs3 H4m.out ⟨kn, kn, some [], 125⟩ (some bM) (.inr ⟨rfl, bM, rfl, HNM.out⟩) (by have := HL3.out; show (h' :: G).length ≤ 5000; omega))
        have hmm := @run_makeMap Tryd.prog
        go_wp2_with fail
        refine HD.out.mono ?_
        rintro e w5 ⟨rfl, ⟨vO5, vS5, H5⟩, HB5⟩
        go_wp2_with fail
        exact bodyPost_ret (v := .bool true) (by simp [results, Tryd.results29, go_sem]) rfl (.inr ⟨_, HR2.out, rfl, ⟨_, _, _, H5⟩, (HB3w.out.trans HB4m.out).trans HB5.out⟩)
end Je
end Go.Proofs.YtpaikjlcachabaaDoor
