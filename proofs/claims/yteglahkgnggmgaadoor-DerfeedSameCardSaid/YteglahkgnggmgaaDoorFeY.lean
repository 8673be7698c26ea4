/- Joined by merge.py: FdA FdB FdC FdD FdE. -/
import Derived.Test.YteglahkgnggmgaaDoorFdX
import Derived.Test.YteglahkgnggmgaaDoorDrV
import Derived.Lib.BytesEntry
import Derived.Laws.Externs
import Derived.Laws.EntriesVeiled
import Derived.Deep.LoopGhost
import Derived.Deep.RegionHeld3
import Derived.Test.YteglahkgnggmgaaDoorDrN
import Derived.Deep.CutRange
namespace Go.Proofs.YteglahkgnggmgaaDoor
open Go.RowKit
set_option linter.unusedVariables false
set_option linter.unusedSimpArgs false
open Dr
namespace Fd
def gv (t : Fg) : List Value := [.int .i64 (t.node : Int), .int .i64 (t.p0 : Int), .int .i64 (t.e : Int), .int .i64 (t.la : Int), .int .i64 (t.le : Int)]
def gcells (G : List Fg) : List Value := G.reverse.flatMap gv
theorem flat_gv (l : List Fg) : (l.flatMap gv).length = 5 * l.length := by
  induction l with
  | nil => rfl
  | cons a l ih => rw [show (a :: l).flatMap gv = gv a ++ l.flatMap gv from rfl, List.length_append, ih, show (gv a).length = 5 from rfl, List.length_cons]; omega
theorem gcells_length (G : List Fg) : (gcells G).length = 5 * G.length := by rw [gcells, flat_gv, List.length_reverse]
theorem gcells_cons (f : Fg) (G : List Fg) : gcells (f :: G) = gcells G ++ gv f := by
  rw [gcells, List.reverse_cons, List.flatMap_append]
  simp [gcells]
theorem gv_one (f : Fg) : ∀ u ∈ gv f, u.oneCell' = true := by
  intro u hu
  simp only [gv, List.mem_cons, List.not_mem_nil, or_false] at hu
  rcases hu with rfl | rfl | rfl | rfl | rfl <;> rfl
theorem infoG : (Tryd.prog.info? 130).map (fun i => (i.zero, i.size, i.bytes)) = some (some (.agg #[.int .i64 0, .int .i64 0, .int .i64 0, .int .i64 0, .int .i64 0]), 5, 40) := by kernel_rfl
/-- the method that waits for the next byte -/
def nxF (m : Nat) : Nat := if m = 0 then 40 else if m = 1 then 62 else if m = 2 then 79 else if m = 3 then 85 else 88
def nxV (g k : Nat) : Value := .func (.func k) #[.pointer (some ⟨g, 0, none⟩)] #[]
/-- the cells behind the slices -/
def cs (g : Nat) (f : Fs) : List Value := [nxV g (nxF f.m), .bool (decide (f.m = 4)), .int .i64 f.e, .int .i64 (f.pl : Int), .int .i64 (f.a : Int), .int .i64 (f.left : Int), .int .i64 (f.len : Int), .int .i64 (f.st : Int), .int .i64 (f.en : Int)]
theorem cs_m (g : Nat) (f : Fs) (m : Nat) (h4 : f.m ≠ 4) (hm : m ≠ 4) : cs g { f with m := m } = (cs g f).set 0 (nxV g (nxF m)) := by
  unfold cs
  dsimp only
  rw [decide_eq_false h4, decide_eq_false hm]
  rfl
/-- all blocks below beta but g are as they were -/
structure Bx (g β : Nat) (w w' : World) : Prop where
  os : w'.os = w.os
  tape : w'.tape = w.tape
  output : w'.output = w.output
  size : w.heap.size ≤ w'.heap.size
  block : ∀ k, k < β → k ≠ g → w'.heap[k]? = w.heap[k]?
theorem Bx.refl' (g β : Nat) (w : World) : Bx g β w w := ⟨rfl, rfl, rfl, Nat.le_refl _, fun _ _ _ => rfl⟩
theorem Bx.trans {g β : Nat} {a b c : World} (h : Bx g β a b) (k : Bx g β b c) : Bx g β a c := ⟨k.os.trans h.os, k.tape.trans h.tape, k.output.trans h.output, Nat.le_trans h.size k.size, fun i hi hg => (k.block i hi hg).trans (h.block i hi hg)⟩
theorem bx_drewN (g β : Nat) (w : World) (k : Nat) : Bx g β w (w.drewN k) := ⟨rfl, rfl, rfl, Nat.le_refl _, fun _ _ _ => rfl⟩
theorem Bx.setG {g β : Nat} {a w : World} (h : Bx g β a w) {o : Nat} (u : Value) : Bx g β a (w.setCell ⟨g, o, none⟩ u) :=
  h.trans ⟨rfl, rfl, rfl, by simp [World.setCell], fun k hk hg => Below.heap_setCell _ _ _ _ (by show k ≠ g; exact hg)⟩
theorem Bx.setCell {g β : Nat} {a w : World} (h : Bx g β a w) {p : Addr} (hp : β ≤ p.block) (u : Value) : Bx g β a (w.setCell p u) :=
  h.trans ⟨rfl, rfl, rfl, by simp [World.setCell], fun k hk hg => Below.heap_setCell _ _ _ _ (by omega)⟩
theorem Bx.alloc {g β : Nat} {a w : World} (h : Bx g β a w) (hB : β ≤ w.heap.size) (o : Obj) : Bx g β a (w.alloc o) :=
  h.trans ⟨rfl, rfl, rfl, by simp, fun k hk hg => Below.heap_alloc _ _ _ (by omega)⟩
theorem Bx.grown {g β : Nat} {a w w' : World} {row : Option Nat} (h : Bx g β a w) (hg : w.grownBy w' row) (hB : β ≤ w.heap.size) (hr : ∀ k, row = some k → β ≤ k) : Bx g β a w' :=
  h.trans ⟨hg.os, hg.tape, hg.output, hg.size, fun k hk hk2 => hg.block k (by omega) (fun e => by have := hr k e.symm; omega)⟩
theorem Bx.of {g β : Nat} {w w' : World} (hb : Below w.heap.size w w') (h : β ≤ w.heap.size) : Bx g β w w' := ⟨hb.os, hb.tape, hb.output, hb.size, fun k hk _ => hb.block k (by omega)⟩
theorem Bx.low {g β : Nat} {w w' : World} (h : Bx g β w w') {B : Nat} (h1 : B ≤ g) (h2 : g < β) : Below B w w' := ⟨h.os, h.tape, h.output, h.size, fun k hk => h.block k (by omega) (by omega)⟩
theorem ut_bx {g β : Nat} {w w' : World} (h : UT g w) (hb : Bx g β w w') (hg : g < β) : UT g w' := h.below (hb.low (Nat.le_refl _) hg)
structure Fm (w : World) (g β : Nat) (L : Lm) (ro : Int) (T : List UInt8) (l : List Nd) (G : List Fg) (vT vN vS : Value) (c : List Value) : Prop where
  at0 : At w g 0 (.int .i64 (L.depth : Int) :: .int .i64 (L.items : Int) :: .int .i64 (L.bytes : Int) :: .int .i64 ro :: vT :: vN :: vS :: c)
  text : w.ownsRow β 5 1 vT T.length (bcells T)
  nodes : w.ownsRow β 63 3 vN l.length (ncells l)
  stack : w.ownsRow β 130 5 vS G.length (gcells G)
  gb : g < β
  bs : β ≤ w.heap.size
section
variable {w w' : World} {g β : Nat} {L : Lm} {ro : Int} {T : List UInt8} {l : List Nd} {G : List Fg} {vT vN vS : Value} {c : List Value} {t : Fg}
theorem Fm.lt (h : Fm w g β L ro T l G vT vN vS c) : g < w.heap.size := Nat.lt_of_lt_of_le h.gb h.bs
theorem set_size (w : World) (a : Addr) (u : Value) : (w.setCell a u).heap.size = w.heap.size := by simp [World.setCell]
theorem Fm.drewN (h : Fm w g β L ro T l G vT vN vS c) (k : Nat) : Fm (w.drewN k) g β L ro T l G vT vN vS c := ⟨h.at0.drewN k, own_drewN h.text k, own_drewN h.nodes k, own_drewN h.stack k, h.gb, h.bs⟩
theorem Fm.set (h : Fm w g β L ro T l G vT vN vS c) (j : Nat) (u : Value) : Fm (w.setCell ⟨g, 7 + j, none⟩ u) g β L ro T l G vT vN vS (c.set j u) := by
  have h1 := h.at0.set (7 + j) u
  rw [Nat.zero_add] at h1
  refine ⟨?_, ownsRow_setCell_below h.text (h.gb) _, ownsRow_setCell_below h.nodes (h.gb) _, ownsRow_setCell_below h.stack (h.gb) _, h.gb, by rw [set_size]; exact h.bs⟩
  rw [show 7 + j = j + 1 + 1 + 1 + 1 + 1 + 1 + 1 by omega] at h1 ⊢
  exact h1
theorem u8_ne_node : (5 : Nat) ≠ 63 := by decide
theorem u8_ne_begun : (5 : Nat) ≠ 130 := by decide
theorem node_ne_begun : (63 : Nat) ≠ 130 := by decide
theorem apart_of {v u : Value} (h : v.ownBlock = none ∨ v.ownBlock ≠ u.ownBlock) {k : Nat} (hk : u.ownBlock = some k) : v.ownBlock ≠ some k := by
  rcases h with h | h
  · rw [h]; exact fun e => by cases e
  · rw [← hk]; exact h
theorem Fm.alloc (h : Fm w g β L ro T l G vT vN vS c) (o : Obj) : Fm (w.alloc o) g β L ro T l G vT vN vS c :=
  ⟨h.at0.alloc o, h.text.alloc o, h.nodes.alloc o, h.stack.alloc o, h.gb, by simp; have := h.bs; omega⟩
theorem Fm.below (h : Fm w g β L ro T l G vT vN vS c) (hb : Below w.heap.size w w') : Fm w' g β L ro T l G vT vN vS c :=
  ⟨h.at0.below hb h.lt, own_below h.text hb (Nat.le_refl _), own_below h.nodes hb (Nat.le_refl _), own_below h.stack hb (Nat.le_refl _), h.gb, Nat.le_trans h.bs hb.size⟩
/-- the text's block, whole -/
theorem Fm.bytes (h : Fm w g β L ro T l G vT vN vS c) : ∃ a cap, vT = .slice a T.length cap ∧ T.length ≤ cap ∧ (0 < T.length → ∃ k, a = some ⟨k, 0, none⟩ ∧ β ≤ k ∧ At w k 0 (bcells T)) := by
  rcases h.text.2 with ⟨h1, h2⟩ | ⟨k, cap, cur, h1, h2, h3, h4, h5, h6, h7⟩
  · exact ⟨none, 0, by rw [h1, h2], by omega, fun h0 => by omega⟩
  · refine ⟨_, cap, h1, h4, fun _ => ⟨k, rfl, h2, ?_⟩⟩
    have h8 := h.text
    rw [h1] at h8
    exact At.ofOwnN h8
theorem Fm.top (h : Fm w g β L ro T l (t :: G) vT vN vS c) : ∃ k cap, vS = .slice (some ⟨k, 0, none⟩) (G.length + 1) cap ∧ G.length + 1 ≤ cap ∧ β ≤ k ∧ At w k (G.length * 5) (gv t) := by
  rcases h.stack.2 with ⟨_, h2⟩ | ⟨k, cap, cur, h1, h2, h3, h4, h5, h6, h7⟩
  · cases h2
  refine ⟨k, cap, h1, h4, h2, ?_⟩
  have h8 := h.stack
  rw [h1] at h8
  have h9 := At.ofOwnN h8
  rw [gcells_cons] at h9
  have h10 := At.sub (a := gcells G) (b := gv t) (c := []) (by rw [List.append_nil]; exact h9)
  rw [gcells_length, Nat.zero_add, Nat.mul_comm] at h10
  exact h10
theorem Fm.node (h : Fm w g β L ro T l G vT vN vS c) (i : Nat) (hi : i < l.length) : ∃ k cap, vN = .slice (some ⟨k, 0, none⟩) l.length cap ∧ β ≤ k ∧ At w k (i * 3) (nv (l.getD i ⟨0, 0, []⟩)) := by
  obtain ⟨a, c, hv, hg⟩ := own_form h.nodes
  obtain ⟨k, rfl⟩ := hg (by omega)
  have h0 := h.nodes
  rw [hv] at h0
  refine ⟨k, c, hv, (h0.lt k rfl).1, ?_⟩
  have h1 := At.ofOwnN h0
  obtain ⟨A, B, hAB, hA⟩ := nv_get l i hi
  rw [hAB] at h1
  have h2 := At.sub h1
  rw [hA, Nat.zero_add] at h2
  exact h2
/-- a cell of the topmost one that is begun is stored -/
theorem Fm.setTop (h : Fm w g β L ro T l (t :: G) vT vN vS c) {k cap n : Nat} (hk : vS = .slice (some ⟨k, 0, none⟩) (n + 1) cap) (hn : G.length = n) (j : Nat) (hj : j < 5) (u : Value) (t' : Fg) (ht : (gv t).set j u = gv t') :
    Fm (w.setCell ⟨k, n * 5 + j, none⟩ u) g β L ro T l (t' :: G) vT vN vS c := by
  subst hn
  have hb : vS.ownBlock = some k := by rw [hk]; rfl
  have hgb := h.gb
  have hgk := (h.stack.lt k hb).1
  have h8 := h.stack
  rw [hk] at h8
  have hs := (h8.stored (G.length * 5 + j) u).1
  refine ⟨h.at0.other k _ u (Or.inl (by omega)), ownsRow_setCell_other h.text (apart_of (own_ne h.text h.stack u8_ne_begun) hb) u, ownsRow_setCell_other h.nodes (apart_of (own_ne h.nodes h.stack node_ne_begun) hb) u, ?_, h.gb, by rw [set_size]; exact h.bs⟩
  have he : (gcells (t :: G)).set (G.length * 5 + j) u = gcells (t' :: G) := by
    rw [gcells_cons, gcells_cons, List.set_append_right _ _ (by rw [gcells_length]; omega), gcells_length, show G.length * 5 + j - 5 * G.length = j by omega, ht]
  rw [he, ← hk] at hs
  exact hs
theorem ncells_set (l : List Nd) (i j : Nat) (u : Value) (y : Nd → Nd) (hi : i < l.length) (hj : j < 3) (hy : (nv (l.getD i ⟨0, 0, []⟩)).set j u = nv (y (l.getD i ⟨0, 0, []⟩))) : (ncells l).set (i * 3 + j) u = ncells (l.modify i y) := by
  induction l generalizing i with
  | nil => exact absurd hi (Nat.not_lt_zero _)
  | cons x l ih =>
    cases i with
    | zero =>
      rw [Nat.zero_mul, Nat.zero_add, show (x :: l).modify 0 y = y x :: l from rfl, show ncells (x :: l) = nv x ++ ncells l from rfl, show ncells (y x :: l) = nv (y x) ++ ncells l from rfl, List.set_append_left _ _ (by show j < 3; exact hj)]
      rw [show ((x :: l).getD 0 ⟨0, 0, []⟩) = x from rfl] at hy
      rw [hy]
    | succ i =>
      rw [show (x :: l).modify (i + 1) y = x :: l.modify i y from rfl, show ncells (x :: l) = nv x ++ ncells l from rfl, show ncells (x :: l.modify i y) = nv x ++ ncells (l.modify i y) from rfl, List.set_append_right _ _ (by show 3 ≤ _; omega), show (i + 1) * 3 + j - (nv x).length = i * 3 + j by show _ - 3 = _; omega, ih i (by simpa using hi) (by simpa using hy)]
/-- a cell of a node is stored -/
theorem Fm.setNode (h : Fm w g β L ro T l G vT vN vS c) {k cap n : Nat} (hk : vN = .slice (some ⟨k, 0, none⟩) n cap) (hn : l.length = n) (i j : Nat) (hi : i < n) (hj : j < 3) (u : Value) (y : Nd → Nd) (hy : (nv (l.getD i ⟨0, 0, []⟩)).set j u = nv (y (l.getD i ⟨0, 0, []⟩))) :
    Fm (w.setCell ⟨k, i * 3 + j, none⟩ u) g β L ro T (l.modify i y) G vT vN vS c := by
  subst hn
  have hb : vN.ownBlock = some k := by rw [hk]; rfl
  have hgb := h.gb
  have hgk := (h.nodes.lt k hb).1
  have h8 := h.nodes
  rw [hk] at h8
  have hs := (h8.stored (i * 3 + j) u).1
  rw [ncells_set l i j u y hi hj hy, ← hk] at hs
  refine ⟨h.at0.other k _ u (Or.inl (by omega)), ownsRow_setCell_other h.text (apart_of (own_ne h.text h.nodes u8_ne_node) hb) u, ?_, ownsRow_setCell_other h.stack (apart_of (own_ne h.stack h.nodes (Ne.symm node_ne_begun)) hb) u, h.gb, by rw [set_size]; exact h.bs⟩
  rw [List.length_modify]
  exact hs
/-- a row has grown -/
theorem Fm.growT (h : Fm w g β L ro T l G vT vN vS c) {T' : List UInt8} {v' : Value} (hg : w.grownBy w' vT.ownBlock) (ho : w'.ownsRow β 5 1 v' T'.length (bcells T')) :
    Fm (w'.setCell ⟨g, 4, none⟩ v') g β L ro T' l G v' vN vS c := by
  have hlt := h.lt
  have h1 := h.at0.grown hg hlt (fun e => by have := (h.text.lt g e).1; have := h.gb; omega)
  exact ⟨h1.set 4 v', ownsRow_setCell_below ho (h.gb) _, ownsRow_setCell_below (h.nodes.kept hg (own_ne h.nodes h.text (Ne.symm u8_ne_node))) (h.gb) _, ownsRow_setCell_below (h.stack.kept hg (own_ne h.stack h.text (Ne.symm u8_ne_begun))) (h.gb) _, h.gb, by
    rw [set_size]; exact Nat.le_trans h.bs hg.size⟩
theorem Fm.growN (h : Fm w g β L ro T l G vT vN vS c) {l' : List Nd} {v' : Value} (hg : w.grownBy w' vN.ownBlock) (ho : w'.ownsRow β 63 3 v' l'.length (ncells l')) :
    Fm (w'.setCell ⟨g, 5, none⟩ v') g β L ro T l' G vT v' vS c := by
  have hlt := h.lt
  have h1 := h.at0.grown hg hlt (fun e => by have := (h.nodes.lt g e).1; have := h.gb; omega)
  exact ⟨h1.set 5 v', ownsRow_setCell_below (h.text.kept hg (own_ne h.text h.nodes u8_ne_node)) (h.gb) _, ownsRow_setCell_below ho (h.gb) _, ownsRow_setCell_below (h.stack.kept hg (own_ne h.stack h.nodes (Ne.symm node_ne_begun))) (h.gb) _, h.gb, by
    rw [set_size]; exact Nat.le_trans h.bs hg.size⟩
theorem Fm.growS (h : Fm w g β L ro T l G vT vN vS c) {G' : List Fg} {v' : Value} (hg : w.grownBy w' vS.ownBlock) (ho : w'.ownsRow β 130 5 v' G'.length (gcells G')) :
    Fm (w'.setCell ⟨g, 6, none⟩ v') g β L ro T l G' vT vN v' c := by
  have hlt := h.lt
  have h1 := h.at0.grown hg hlt (fun e => by have := (h.stack.lt g e).1; have := h.gb; omega)
  exact ⟨h1.set 6 v', ownsRow_setCell_below (h.text.kept hg (own_ne h.text h.stack u8_ne_begun)) (h.gb) _, ownsRow_setCell_below (h.nodes.kept hg (own_ne h.nodes h.stack node_ne_begun)) (h.gb) _, ownsRow_setCell_below ho (h.gb) _, h.gb, by
    rw [set_size]; exact Nat.le_trans h.bs hg.size⟩
/-- the topmost one is let go -/
theorem Fm.pop (h : Fm w g β L ro T l (t :: G) vT vN vS c) {k cap n : Nat} (hk : vS = .slice (some ⟨k, 0, none⟩) (n + 1) cap) (hn : G.length = n) :
    Fm (w.setCell ⟨g, 6, none⟩ (.slice (some ⟨k, 0, none⟩) n cap)) g β L ro T l G vT vN (.slice (some ⟨k, 0, none⟩) n cap) c := by
  subst hn
  have h8 := h.stack
  rw [hk] at h8
  have h9 := own_take h8 (m := G.length) (by omega) (by omega)
  rw [gcells_cons, List.take_left' (by rw [gcells_length, Nat.mul_comm])] at h9
  exact ⟨h.at0.set 6 _, ownsRow_setCell_below h.text (h.gb) _, ownsRow_setCell_below h.nodes (h.gb) _, ownsRow_setCell_below h9 (h.gb) _, h.gb, by rw [set_size]; exact h.bs⟩
end
/-- a feed in memory -/
def FmS (w : World) (g β : Nat) (L : Lm) (ro : Int) (f : Fs) (vT vN vS : Value) : Prop := Fm w g β L ro f.T f.l f.G vT vN vS (cs g f)
def RF (f : Fs) (g β : Nat) (L : Lm) (ro : Int) (w : World) (e : Ending) (w' : World) : Prop := e = .returned (.tuple #[]) ∧ ∃ vT vN vS, Hid (FmS w' g β L ro f vT vN vS) ∧ Hid (Bx g β w w')
theorem RF.of {R f : Fs} {g β : Nat} {L : Lm} {ro : Int} {w w' : World} {vT vN vS : Value} (hR : Hid (R = f)) (h : Hid (FmS w' g β L ro f vT vN vS)) (hb : Hid (Bx g β w w')) : RF R g β L ro w (.returned (.tuple #[])) w' := by
  have h1 := hR.out
  subst h1
  exact ⟨rfl, _, _, _, h, hb⟩
def RetV (v : Value) (w : World) (e : Ending) (w' : World) : Prop := e = .returned v ∧ ∃ k, w' = w.drewN k
set_option maxRecDepth 100000 in
set_option maxHeartbeats 1600000 in
theorem fault_any (w : World) (g β : Nat) (L : Lm) (ro : Int) (f : Fs) (vT vN vS : Value) (h : FmS w g β L ro f vT vN vS) (e : Int) (p : Nat) (z : Int) (hz : (p : Int) = z) :
    Calls Tryd.prog 42 #[.pointer (some ⟨g, 0, none⟩), .int .i64 e, .int .i64 z] w (fun x w' => x = .returned (.tuple #[]) ∧ Hid (FmS w' g β L ro (f.fault e p) vT vN vS) ∧ Hid (Bx g β w w')) := by
  have hgb : g < β := h.gb
  subst hz
  have HF : Hid (FmS ((w.setCell ⟨g, 9, none⟩ (.int .i64 e)).setCell ⟨g, 10, none⟩ (.int .i64 (p : Int))) g β L ro (f.fault e p) vT vN vS) := (h.set 2 (.int .i64 e)).set 3 (.int .i64 (p : Int))
  have HB : Hid (Bx g β w ((w.setCell ⟨g, 9, none⟩ (.int .i64 e)).setCell ⟨g, 10, none⟩ (.int .i64 (p : Int)))) := ((Bx.refl' g β w).setG _).setG _
  have h9 := h.at0.cell 9 _ rfl
  have h10 := h.at0.cell 10 _ rfl
  have f9 := h.at0.froz 9 (by show 9 < 16; decide)
  have f10 := h.at0.froz 10 (by show 10 < 16; decide)
  clear h
  go_enter Tryd.func42, Tryd.ntmps42
  go_wp2_with fail
  first | go_end0 | refine bodyPost_ret (results_none rfl _ _ _) rfl ?_
  exact ⟨rfl, HF, HB⟩
theorem eq_nilFunc (fn : Fn) (a b : Array Value) (w : World) : (binOp BinOp.eql 58 (.func fn a b) .nilFunc).run Tryd.prog w = .ok (.bool false) w := by
  kernel_rfl
set_option maxRecDepth 100000 in
theorem none_any (w : World) (g β : Nat) (L : Lm) (ro : Int) (f : Fs) (vT vN vS : Value) (h : FmS w g β L ro f vT vN vS) :
    Calls Tryd.prog 41 #[.pointer (some ⟨g, 0, none⟩)] w (fun x w' => x = .returned (.bool false) ∧ w = w') := by
  have hgb : g < β := h.gb
  have h7 := h.at0.cell 7 _ rfl
  rw [nxV] at h7
  have hq := eq_nilFunc (Fn.func (nxF f.m)) #[.pointer (some ⟨g, 0, none⟩)] #[] w
  clear h
  go_enter Tryd.func41, Tryd.ntmps41
  go_wp2_with fail
  go_ret
  exact ⟨rfl, rfl⟩
end Fd
end Go.Proofs.YteglahkgnggmgaaDoor
namespace Go.Proofs.YteglahkgnggmgaaDoor
open Go.RowKit
set_option linter.unusedVariables false
set_option linter.unusedSimpArgs false
open Dr
namespace Fd
/-! bytes.Compare -/
theorem bytesOf_bcells (A : List UInt8) : Lib.bytesOf (A.map fun x => (x.toNat : Int)) = A := by
  induction A with
  | nil => rfl
  | cons x A ih =>
    rw [List.map_cons]
    show _ :: Lib.bytesOf _ = _
    rw [ih]
    simp
theorem run_bytesOf (w : World) (k o n c : Nat) (A : List UInt8) (hn : A.length = n) (h : At w k o (bcells A)) : (Extern.Bytes.bytesOf (.slice (some ⟨k, o, none⟩) n c)).run Tryd.prog w = .ok ⟨A.toArray⟩ w := by
  have h1 := Lib.run_loadBytesX (P := Tryd.prog) w (A.map fun x => (x.toNat : Int)) ⟨k, o, none⟩ .empty (fun j x hj => by
    rw [List.getElem?_map] at hj
    obtain ⟨y, hy, rfl⟩ := Option.map_eq_some_iff.1 hj
    have h2 := (h j (.int .u8 (y.toNat : Int)) (by rw [bcells, List.getElem?_map, hy]; rfl)).1
    unfold Addr.add
    split
    · rename_i h0; subst h0; exact h2
    · exact h2)
  rw [bytesOf_bcells, List.length_map, hn] at h1
  show (Extern.Bytes.loadBytes _ n .empty).run Tryd.prog w = _
  rw [h1]
  congr 1
  apply ByteArray.ext
  show (#[] : Array UInt8) ++ A.toArray = A.toArray
  simp
theorem run_compare (w : World) (va vb : Value) (A B : List UInt8) (ha : (Extern.Bytes.bytesOf va).run Tryd.prog w = .ok ⟨A.toArray⟩ w) (hb : (Extern.Bytes.bytesOf vb).run Tryd.prog w = .ok ⟨B.toArray⟩ w) :
    (Extern.BytealgCompare.compare #[va, vb]).run Tryd.prog w = .ok (.int .i64 (Lib.compareBytes A B)) w := by
  change Sem.run Tryd.prog (do pure (goInt (Extern.BytealgCompare.cmp (← Extern.Bytes.bytesOf va) (← Extern.Bytes.bytesOf vb)))) w = _
  simp only [Sem.run_bind, Sem.run_pure, ha, hb, Result.andThen, Lib.cmp_eq]
  rfl
set_option maxRecDepth 100000 in
theorem compare_any (w : World) (va vb : Value) (A B : List UInt8) (ha : (Extern.Bytes.bytesOf va).run Tryd.prog w = .ok ⟨A.toArray⟩ w) (hb : (Extern.Bytes.bytesOf vb).run Tryd.prog w = .ok ⟨B.toArray⟩ w) :
    Calls Tryd.prog 89 #[va, vb] w (fun e w' => e = .returned (.int .i64 (Lib.compareBytes A B)) ∧ w = w') := by
  have hc := run_compare w va vb A B ha hb
  go_enter Tryd.func89, Tryd.ntmps89
  go_wp2_with fail
  rw [run_callFunc_extern Tryd.func90 (by kernel_rfl) (by kernel_rfl) (by kernel_rfl) (e := Extern.BytealgCompare.compare) (by kernel_rfl), hc]
  simp only [Result.andThen]
  rw [Oper.upon_value]
  go_wp2
  go_ret
  exact ⟨rfl, rfl⟩
theorem cmp_less : ∀ (a b : List UInt8), decide (0 < Lib.compareBytes a b) = Op.bytesLess b a
  | [], [] => rfl
  | [], _ :: _ => by simp [Lib.compareBytes, Op.bytesLess]
  | _ :: _, [] => by simp [Lib.compareBytes, Op.bytesLess]
  | x :: a, y :: b => by
    have ih := cmp_less a b
    rw [Lib.compareBytes, Op.bytesLess]
    by_cases h : x < y
    · rw [if_pos h]
      have h1 : ¬ y < x := fun h2 => by rw [UInt8.lt_iff_toNat_lt] at h h2; omega
      have h2 : (y == x) = false := by rw [beq_eq_false_iff_ne]; exact fun e => by subst e; exact h1 h
      simp [h1, h2]
    · rw [if_neg h]
      by_cases h1 : y < x
      · rw [if_pos h1]; simp [h1]
      · rw [if_neg h1, ih]
        have h2 : y = x := by
          rw [UInt8.lt_iff_toNat_lt] at h h1
          exact UInt8.toNat_inj.1 (by omega)
        simp [h2]
/-! what the code of a feed asks of it -/
def Gk (l : List Nd) : List Fg → Nat → Nat → Prop
  | [], _, _ => True
  | t :: G, p, n => (t.node < n ∧ t.p0 < p ∧ t.la ≤ t.le ∧ t.le ≤ p ∧ 0 ≤ (l.getD t.node ⟨0, 0, []⟩).kids ∧ (l.getD t.node ⟨0, 0, []⟩).kids ≤ (p : Int)) ∧ Gk l G t.p0 t.node
theorem Lk.gk {A : List UInt8} {fl : List Nd} : ∀ {G : List Fg} {M : List Fr} {b p n : Nat}, Lk A fl G M b p n → Gk fl G p n
  | [], [], _, _, _, _ => trivial
  | t :: G, r :: M, _, _, _, h => by
    obtain ⟨⟨h1, h1b, h1c⟩, ⟨h2, h2b, h2c, h2d⟩, ⟨h3, h3b⟩, ⟨h4, h4b, h4c⟩, h5⟩ := h
    refine ⟨⟨by omega, by omega, h4, h4b, ?_, ?_⟩, ?_⟩
    · rw [h1, h3b]; omega
    · rw [h1, h3b]; omega
    · rw [h1b, h1]; exact h5.gk
  | [], _ :: _, _, _, _, h => h.elim
  | _ :: _, [], _, _, _, h => h.elim
theorem Gk.re {l : List Nd} {G : List Fg} {p n p' n' : Nat} (h : Gk l G p n) (hp : p ≤ p') (hn : n ≤ n') : Gk l G p' n' := by
  cases G with
  | nil => trivial
  | cons t G => obtain ⟨⟨h1, h2, h3, h4, h5, h6⟩, h7⟩ := h; exact ⟨⟨by omega, by omega, h3, by omega, h5, by omega⟩, h7⟩
theorem Gk.list {l l' : List Nd} : ∀ {G : List Fg} {p n : Nat}, Gk l G p n → (∀ i, i < n → l'.getD i ⟨0, 0, []⟩ = l.getD i ⟨0, 0, []⟩) → Gk l' G p n
  | [], _, _, _, _ => trivial
  | t :: G, p, n, h, hi => by
    obtain ⟨⟨h1, h2, h3, h4, h5, h6⟩, h7⟩ := h
    exact ⟨⟨h1, h2, h3, h4, by rw [hi _ h1]; exact h5, by rw [hi _ h1]; exact h6⟩, h7.list (fun i hi' => hi i (by omega))⟩
/-- sizes -/
structure Sz (f : Fs) : Prop where
  t : f.T.length ≤ 262144
  l : f.l.length ≤ 4096
theorem Gk.len {l : List Nd} : ∀ {G : List Fg} {p n : Nat}, Gk l G p n → G.length ≤ p
  | [], _, _, _ => Nat.zero_le _
  | t :: G, p, n, h => by
    have h1 := h.2.len
    have h2 := h.1.2.1
    rw [List.length_cons]
    omega
theorem ended_T (f : Fs) (a : Nat) : (f.ended a).T = f.T := by
  rw [Fs.ended]; split
  · rfl
  · split <;> rfl
theorem ended_len (f : Fs) (a : Nat) : (f.ended a).l.length = f.l.length ∧ (f.ended a).G.length = f.G.length := by
  rw [Fs.ended]; split
  · exact ⟨rfl, rfl⟩
  · rename_i t G hG
    split
    · exact ⟨rfl, rfl⟩
    · exact ⟨List.length_modify .., by rw [hG]; rfl⟩
theorem Sz.ended {f : Fs} (h : Sz f) (a : Nat) : Sz (f.ended a) := ⟨by rw [ended_T]; exact h.t, by rw [(ended_len f a).1]; exact h.l⟩
theorem ended_gk {f : Fs} {a : Nat} (h : Gk f.l f.G a f.l.length) (ha : a < f.T.length) : Gk (f.ended a).l (f.ended a).G f.T.length f.l.length := by
  rw [Fs.ended]
  split
  · rename_i hG; show Gk f.l f.G _ _; rw [hG]; trivial
  · rename_i t G hG
    split
    · exact h.re (Nat.le_of_lt ha) (Nat.le_refl _)
    · rw [hG] at h
      obtain ⟨⟨h1, h2, h3, h4, h5, h6⟩, h7⟩ := h
      refine ⟨⟨h1, by show t.p0 < _; omega, Nat.le_of_lt ha, Nat.le_refl _, ?_, ?_⟩, ?_⟩
      · show 0 ≤ ((f.l.modify t.node _).getD t.node _).kids
        rw [getD_mod _ _ _ _ h1]
        show 0 ≤ (f.l.getD t.node _).kids + 1
        omega
      · show ((f.l.modify t.node _).getD t.node _).kids ≤ _
        rw [getD_mod _ _ _ _ h1]
        show (f.l.getD t.node _).kids + 1 ≤ _
        omega
      · exact h7.list (fun i hi => getD_mod_ne _ _ _ _ _ (fun h => by have h8 : i < t.node := hi; omega))
set_option maxRecDepth 100000 in
set_option maxHeartbeats 3200000 in
theorem ended_any (w : World) (g β : Nat) (L : Lm) (ro : Int) (f : Fs) (vT vN vS : Value) (h : FmS w g β L ro f vT vN vS) (a : Nat) (hk : Gk f.l f.G a f.l.length) (ha : a < f.T.length) (hz : Sz f) (hm4 : f.m ≠ 4) (z : Int) (hza : (a : Int) = z) :
    Calls Tryd.prog 87 #[.pointer (some ⟨g, 0, none⟩), .int .i64 z] w (RF (f.ended a) g β L ro w) := by
  have hgb : g < β := h.gb
  subst hza
  have HF := Lib.hid h
  obtain ⟨R, hR⟩ : ∃ R, f.ended a = R := ⟨_, rfl⟩
  rw [hR]
  have hlt := h.lt
  have HLT := Lib.hid hlt
  cases hG : f.G with
  | nil =>
    have hs := h.at0.cell 6 _ rfl
    have f7 := h.at0.froz 7 (by show 7 < 16; decide)
    have f8 := h.at0.froz 8 (by show 8 < 16; decide)
    have c7 := h.at0.cell 7 _ rfl
    have c8 := h.at0.cell 8 _ rfl
    obtain ⟨ad, c, hv, -⟩ := own_form h.stack
    rw [hv, hG] at hs
    have hs2 : w.cell? ⟨g, 6, none⟩ = some (.slice ad 0 c) := hs
    have HR : Hid (R = { f with m := 4 }) := by show R = _; rw [← hR, Fs.ended, hG]
    clear h hk ha hz hR hv hG hlt hs
    go_enter Tryd.func87, Tryd.ntmps87
    go_wp2_with fail
    first | go_end0 | refine bodyPost_ret (results_none rfl _ _ _) rfl ?_
    refine ⟨rfl, vT, vN, vS, ?_, ((Bx.refl' g β w).setG _).setG _⟩
    rw [HR.out]
    exact (HF.out.set 1 (.bool true)).set 0 (nxV g (nxF 4))
  | cons t G =>
    rw [hG] at hk
    have hkl := hk.len
    rw [List.length_cons] at hkl
    obtain ⟨⟨t1, t2, t3, t4, t5, t6⟩, -⟩ := hk
    have h2 : Fm w g β L ro f.T f.l (t :: G) vT vN vS (cs g f) := by have h1 := h; rw [FmS, hG] at h1; exact h1
    have H2 := Lib.hid h2
    obtain ⟨k, cap, rfl, hcap, hgk, hAt⟩ := h2.top
    obtain ⟨kn, capn, rfl, hgn, hAn⟩ := h2.node t.node t1
    obtain ⟨aT, cT, rfl, hcT, hbT⟩ := h2.bytes
    obtain ⟨kT, rfl, hgT, hAT⟩ := hbT (by omega)
    have x1 : ¬ k = kn := fun e => by
      rcases own_ne h2.stack h2.nodes (Ne.symm node_ne_begun) with h3 | h3
      · cases h3
      · exact h3 (by rw [e]; rfl)
    have x2 : ¬ kn = k := fun e => x1 e.symm
    have x3 : ¬ k = g := by omega
    have x4 : ¬ g = k := by omega
    have x5 : ¬ kn = g := by omega
    have x6 : ¬ g = kn := by omega
    have c4 := h2.at0.cell 4 _ rfl
    have c5 := h2.at0.cell 5 _ rfl
    have c6 := h2.at0.cell 6 _ rfl
    have c7 := h2.at0.cell 7 _ rfl
    have f7 := h2.at0.froz 7 (by show 7 < 16; decide)
    have hgl : G.length ≤ 262144 := by have := hz.t; omega
    clear hkl
    obtain ⟨n, hn⟩ : ∃ n, G.length = n := ⟨_, rfl⟩
    obtain ⟨m, hm⟩ : ∃ m, f.l.length = m := ⟨_, rfl⟩
    obtain ⟨nd, hnd⟩ : ∃ nd, t.node = nd := ⟨_, rfl⟩
    obtain ⟨tl, htl⟩ : ∃ nd, f.T.length = nd := ⟨_, rfl⟩
    obtain ⟨la, hla⟩ : ∃ nd, t.la = nd := ⟨_, rfl⟩
    obtain ⟨le, hle⟩ : ∃ nd, t.le = nd := ⟨_, rfl⟩
    obtain ⟨N0, hN0⟩ : ∃ x, f.l.getD t.node ⟨0, 0, []⟩ = x := ⟨_, rfl⟩
    obtain ⟨kd, hkd⟩ : ∃ x, N0.kids = x := ⟨_, rfl⟩
    have HS : Hid (Sz f) := hz
    have hzt := hz.t
    have hzl := hz.l
    rw [hn] at hAt c6 hgl hcap
    rw [hnd] at t1
    rw [hla] at t3
    rw [hle] at t3 t4
    rw [hN0, hkd] at t5 t6
    rw [hN0, hnd] at hAn
    rw [htl] at c4 ha hzt hcT
    rw [hm] at c5 t1 hzl
    have s0 := hAt.cell 0 _ rfl
    have s3 := hAt.cell 3 _ rfl
    have s4 := hAt.cell 4 _ rfl
    have fs3 := hAt.froz 3 (by show 3 < 5; decide)
    have fs4 := hAt.froz 4 (by show 4 < 5; decide)
    have n0 := hAn.cell 0 _ rfl
    have n1 := hAn.cell 1 _ rfl
    have fn1 := hAn.froz 1 (by show 1 < 3; decide)
    rw [Nat.add_zero] at s0 n0
    rw [hnd] at s0
    rw [hla] at s3
    rw [hle] at s4
    rw [hkd] at n1
    have e0 : ((n : Int) + 1 == 0) = false := by rw [beq_eq_false_iff_ne]; omega
    have e1 : (nd : Int) < (m : Int) := by omega
    have e4 : IntKind.i64.wrap (n : Int) = (n : Int) := wrap_fit n (by unfold maxLen; omega)
    have e5 : (n : Int) < (n : Int) + 1 := by omega
    have e6 : 0 ≤ kd := t5
    have e7 : kd ≤ 262144 := by omega
    have HN := Lib.hid (And.intro hn (And.intro hm (And.intro hnd (And.intro htl (And.intro hla (And.intro hle (And.intro hN0 hkd)))))))
    have HA := Lib.hid hAT
    have HK := Lib.hid (And.intro hgk (And.intro hgn hgT))
    have HHG := Lib.hid hG
    have HT := Lib.hid (And.intro t1 (And.intro t3 (And.intro t4 (And.intro t5 (And.intro t6 (And.intro ha (And.intro hzt (And.intro hzl (And.intro hcT hgl)))))))))
    have HW : Hid (∀ q, Hid (FmS (((((w.drewN q).setCell ⟨k, n * 5 + 3, none⟩ (.int .i64 (a : Int))).setCell ⟨k, n * 5 + 4, none⟩ (.int .i64 (tl : Int))).setCell ⟨kn, nd * 3 + 1, none⟩ (.int .i64 (kd + 1))).setCell ⟨g, 7, none⟩ (nxV g (nxF 0))) g β L ro { f with G := { t with la := a, le := tl } :: G, l := f.l.modify nd (fun n => { n with kids := n.kids + 1 }), m := 0 } (.slice (some ⟨kT, 0, none⟩) f.T.length cT) (.slice (some ⟨kn, 0, none⟩) f.l.length capn) (.slice (some ⟨k, 0, none⟩) (G.length + 1) cap)) ∧
        Hid (Bx g β w (((((w.drewN q).setCell ⟨k, n * 5 + 3, none⟩ (.int .i64 (a : Int))).setCell ⟨k, n * 5 + 4, none⟩ (.int .i64 (tl : Int))).setCell ⟨kn, nd * 3 + 1, none⟩ (.int .i64 (kd + 1))).setCell ⟨g, 7, none⟩ (nxV g (nxF 0))))) := fun q => by
      refine ⟨?_, ((((bx_drewN g β w q).setCell hgk _).setCell hgk _).setCell hgn _).setG _⟩
      have h3 := (h2.drewN q).setTop (n := n) (by rw [hn]) hn 3 (by decide) (.int .i64 (a : Int)) { t with la := a } rfl
      have h4 := h3.setTop (n := n) (by rw [hn]) hn 4 (by decide) (.int .i64 (tl : Int)) { t with la := a, le := tl } rfl
      have h5 := h4.setNode (n := m) (by rw [hm]) hm nd 1 t1 (by decide) (.int .i64 (kd + 1)) (fun n => { n with kids := n.kids + 1 }) (by rw [← hnd, hN0, ← hkd]; rfl)
      show Fm _ g β L ro f.T _ _ _ _ _ (cs g { f with m := 0 })
      rw [cs_m g f 0 hm4 (by decide)]
      exact h5.set 0 (nxV g (nxF 0))
    have hdr : f.T.drop a = f.T.drop a := rfl
    obtain ⟨X, hX⟩ : ∃ X, Dr.part f.T la le = X := ⟨_, rfl⟩
    obtain ⟨Y, hY⟩ : ∃ X, f.T.drop a = X := ⟨_, rfl⟩
    obtain ⟨cv, hcv⟩ : ∃ c, Lib.compareBytes X Y = c := ⟨_, rfl⟩
    have hless : decide (0 < cv) = Op.bytesLess Y X := by rw [← hcv, cmp_less]
    have CM : Hid (∀ q, Calls Tryd.prog 89 #[.slice (some ⟨kT, la, none⟩) (le - la) (cT - la), .slice (some ⟨kT, a, none⟩) (tl - a) (cT - a)] (w.drewN q) (fun e w' => e = .returned (.int .i64 cv) ∧ w.drewN q = w')) := fun q => by
      rw [← hcv]
      refine compare_any _ _ _ X Y (run_bytesOf _ kT la (le - la) (cT - la) X ?_ ?_) (run_bytesOf _ kT a (tl - a) (cT - a) Y ?_ ?_)
      · rw [← hX, Dr.part, List.length_take, List.length_drop, htl]; omega
      · refine (At.midOf (A := f.T.take la) (Z := X) (R := f.T.drop le) ?_ (by rw [List.length_take, htl]; omega)).drewN q
        have h9 : f.T.take la ++ (X ++ f.T.drop le) = f.T := by
          rw [← hX, Dr.part]
          conv => rhs; rw [← List.take_append_drop la f.T, ← List.take_append_drop (le - la) (f.T.drop la), List.drop_drop]
          rw [show la + (le - la) = le by omega]
        rw [h9]
        exact hAT
      · rw [← hY, List.length_drop, htl]
      · refine (At.midOf (A := f.T.take a) (Z := Y) (R := []) ?_ (by rw [List.length_take, htl]; omega)).drewN q
        rw [List.append_nil, ← hY, List.take_append_drop]
        exact hAT
    have HCV := Lib.hid (And.intro hX (And.intro hY hless))
    clear hdr hX hY hcv hless
    clear h hz h2 hbT hAt hAn hAT hlt hm4
    clear hn hm htl hla hle hnd hkd hgk hgn hgT hG
    by_cases q1 : N0.tag = 0x31
    · have e2 : ((N0.tag.toNat : Int) == 49) = true := by rw [q1]; rfl
      by_cases q2 : 0 < kd
      · have y1 : (la : Int) ≤ (le : Int) := by omega
        have y2 : (le : Int) ≤ (cT : Int) := by omega
        have y3 : (a : Int) ≤ (tl : Int) := by omega
        have y4 : (tl : Int) ≤ (cT : Int) := by omega
        have y5 : ¬ cT - la = 0 := by omega
        have y6 : ¬ cT - a = 0 := by omega
        have HQ := Lib.hid (And.intro q1 q2)
        by_cases q3 : 0 < cv
        · have HR : Hid (R = f.fault 9 a) := by
            show R = _
            rw [← hR, Fs.ended, HHG.out]
            dsimp only
            rw [hN0, HN.out.2.2.2.2.2.2.2, HN.out.2.2.2.2.1, HN.out.2.2.2.2.2.1, HCV.out.1, HCV.out.2.1, if_pos ⟨q1, q2, by rw [← HCV.out.2.2]; exact decide_eq_true q3⟩]
          have FA := Lib.hid (fun q => fault_any (w.drewN q) g β L ro f _ _ _ (HF.out.drewN q) 9 a (a : Int) rfl)
          clear hR hN0 q1 t1 t3 t4 t5 t6 ha hzt hzl hcT hgl hcap
          go_enter Tryd.func87, Tryd.ntmps87
          go_wp2_with fail
          go_quiet (fail)
          go_wp2_with fail
          go_quiet (fail)
          go_wp2_with fail
          go_quiet ((go_at_call 89; exact (CM.out _).mono fun _ _ h => ⟨h.1, _, h.2.symm⟩))
          go_wp2_with (first | (go_at_call 42; refine (FA.out _).mono ?_; rintro e w1 ⟨rfl, hF1, hB1⟩))
          first | go_end0 | refine bodyPost_ret (results_none rfl _ _ _) rfl ?_
          exact RF.of HR hF1 ((bx_drewN g β w _).trans hB1)
        · have q3b : ¬ 0 < cv := q3
          have HR : Hid (R = { f with G := { t with la := a, le := tl } :: G, l := f.l.modify nd (fun n => { n with kids := n.kids + 1 }), m := 0 }) := by
            show R = _
            rw [← hR, Fs.ended, HHG.out]
            dsimp only
            rw [hN0, HN.out.2.2.2.2.2.2.2, HN.out.2.2.2.2.1, HN.out.2.2.2.2.2.1, HCV.out.1, HCV.out.2.1, if_neg (fun h => q3 (of_decide_eq_true (HCV.out.2.2.trans h.2.2))), HN.out.2.2.1, HN.out.2.2.2.1]
          clear hR hN0 q1 q3 t1 t3 t4 t5 t6 ha hzt hzl hcT hgl hcap
          go_enter Tryd.func87, Tryd.ntmps87
          go_wp2_with fail
          go_quiet (fail)
          go_wp2_with fail
          go_quiet (fail)
          go_wp2_with fail
          go_quiet ((go_at_call 89; exact (CM.out _).mono fun _ _ h => ⟨h.1, _, h.2.symm⟩))
          go_wp2_with fail
          first | go_end0 | refine bodyPost_ret (results_none rfl _ _ _) rfl ?_
          exact RF.of HR (HW.out _).1 (HW.out _).2
      · have e8 : decide (0 < kd) = false := decide_eq_false q2
        have HR : Hid (R = { f with G := { t with la := a, le := tl } :: G, l := f.l.modify nd (fun n => { n with kids := n.kids + 1 }), m := 0 }) := by
          show R = _
          rw [← hR, Fs.ended, HHG.out]
          dsimp only
          rw [hN0, HN.out.2.2.2.2.2.2.2, HN.out.2.2.2.2.1, HN.out.2.2.2.2.2.1, HCV.out.1, HCV.out.2.1, if_neg (fun h => q2 h.2.1), HN.out.2.2.1, HN.out.2.2.2.1]
        clear hR hN0 q1 t1 t3 t4 t5 t6 ha hzt hzl hcT hgl hcap
        go_enter Tryd.func87, Tryd.ntmps87
        go_wp2_with fail
        go_quiet (fail)
        go_wp2_with fail
        go_quiet (fail)
        go_wp2_with fail
        go_quiet (fail)
        go_wp2_with fail
        first | go_end0 | refine bodyPost_ret (results_none rfl _ _ _) rfl ?_
        exact RF.of HR (HW.out _).1 (HW.out _).2
    · have e2 : ((N0.tag.toNat : Int) == 49) = false := by
        rw [beq_eq_false_iff_ne]
        intro h
        exact q1 (UInt8.toNat_inj.1 (by rw [show (49 : UInt8).toNat = 49 from rfl]; omega))
      have HR : Hid (R = { f with G := { t with la := a, le := tl } :: G, l := f.l.modify nd (fun n => { n with kids := n.kids + 1 }), m := 0 }) := by
        show R = _
        rw [← hR, Fs.ended, HHG.out]
        dsimp only
        rw [hN0, if_neg (fun h => q1 h.1), HN.out.2.2.1, HN.out.2.2.2.1]
      clear hR q1 hN0 t1 t3 t4 t5 t6 ha hzt hzl hcT hgl hcap
      go_enter Tryd.func87, Tryd.ntmps87
      go_wp2_with fail
      go_quiet (fail)
      go_wp2_with fail
      go_quiet (fail)
      go_wp2_with fail
      go_quiet (fail)
      go_wp2_with fail
      first | go_end0 | refine bodyPost_ret (results_none rfl _ _ _) rfl ?_
      exact RF.of HR (HW.out _).1 (HW.out _).2
end Fd
end Go.Proofs.YteglahkgnggmgaaDoor
namespace Go.Proofs.YteglahkgnggmgaaDoor
open Go.RowKit
set_option linter.unusedVariables false
set_option linter.unusedSimpArgs false
open Dr
namespace Fd
theorem close_nil (k : Nat) (f : Fs) (h : f.G = []) : Fs.close k f = f := by
  cases k with
  | zero => rfl
  | succ k => rw [Fs.close]; simp only [h]
theorem close_else (k : Nat) (f : Fs) {t : Fg} {G : List Fg} (h : f.G = t :: G) (h2 : ¬ t.e = f.T.length) : Fs.close k f = f := by
  cases k with
  | zero => rfl
  | succ k => rw [Fs.close]; simp only [h]; rw [if_neg (fun h3 => h2 h3.2)]
theorem close_more (k : Nat) (f : Fs) {t : Fg} {G : List Fg} (h : f.G = t :: G) (he : f.e = 0) (h2 : t.e = f.T.length) : Fs.close (k + 1) f = Fs.close k (({ f with G := G } : Fs).ended t.p0) := by
  rw [Fs.close]; simp only [h]; rw [if_pos ⟨he, h2⟩]
theorem ended_m {f : Fs} {a : Nat} (h : f.m ≠ 4) (hG : (f.ended a).G ≠ []) : (f.ended a).m ≠ 4 := by
  rw [Fs.ended] at hG ⊢
  split
  · rename_i h1; rw [h1] at hG; exact absurd rfl hG
  · split
    · exact h
    · exact fun h => by cases h
def InC (R : Fs) (g β : Nat) (L : Lm) (ro : Int) (w : World) (gk : Nat) (wr : World) : Prop :=
  ∃ f vT vN vS, Hid (FmS wr g β L ro f vT vN vS) ∧ Hid (Fs.close gk f = R ∧ f.G.length ≤ gk ∧ Gk f.l f.G f.T.length f.l.length ∧ Sz f ∧ (f.G ≠ [] → f.m ≠ 4)) ∧ Hid (Bx g β w wr)
set_option maxRecDepth 100000 in
set_option maxHeartbeats 3200000 in
theorem close_any (w : World) (g β : Nat) (L : Lm) (ro : Int) (f0 : Fs) (vT vN vS : Value) (h : FmS w g β L ro f0 vT vN vS) (hk : Gk f0.l f0.G f0.T.length f0.l.length) (hz : Sz f0) (hm : f0.G ≠ [] → f0.m ≠ 4) :
    Calls Tryd.prog 84 #[.pointer (some ⟨g, 0, none⟩)] w (RF (Fs.close f0.G.length f0) g β L ro w) := by
  have hgb : g < β := h.gb
  obtain ⟨R, hR⟩ : ∃ R, Fs.close f0.G.length f0 = R := ⟨_, rfl⟩
  obtain ⟨N0, hN0⟩ : ∃ R, f0.G.length = R := ⟨_, rfl⟩
  rw [hR]
  have HIN : Hid (InC R g β L ro w N0 w) := ⟨f0, vT, vN, vS, h, ⟨by rw [← hN0]; exact hR, by omega, hk, hz, hm⟩, Bx.refl' _ _ _⟩
  clear h hk hz hm hR hN0
  go_enter Tryd.func84, Tryd.ntmps84
  go_wp2_with fail
  go_loopg [] N0 (fun gk wr => InC R g β L ro w gk wr)
  case atStart => exact HIN.out
  case round =>
    obtain ⟨f, vT, vN, vS, HF, HC, HB⟩ := hrel
    clear HIN
    have c9 := HF.out.at0.cell 9 _ rfl
    obtain ⟨ee, hee⟩ : ∃ e, f.e = e := ⟨_, rfl⟩
    rw [hee] at c9
    by_cases he : ee = 0
    · have e1 : (ee == 0) = true := by rw [beq_iff_eq]; exact he
      have HE := Lib.hid (hee.trans he)
      have hzt := HC.out.2.2.2.1.t
      have hzg : f.G.length ≤ 262144 := Nat.le_trans HC.out.2.2.1.len hzt
      obtain ⟨aT, cT, rfl, hcT, hbT⟩ := HF.out.bytes
      have c4 := HF.out.at0.cell 4 _ rfl
      have c6 := HF.out.at0.cell 6 _ rfl
      obtain ⟨tl, htl⟩ : ∃ n, f.T.length = n := ⟨_, rfl⟩
      rw [htl] at c4 hzt
      cases hG : f.G with
      | nil =>
        obtain ⟨ad, c, hv, -⟩ := own_form HF.out.stack
        rw [hv, hG] at c6
        have c6b : wr.cell? ⟨g, 6, none⟩ = some (.slice ad 0 c) := c6
        have HR : Hid (R = f) := by show R = _; rw [← HC.out.1]; exact close_nil _ _ hG
        clear hee he hbT hcT htl hzg hG c6 hv
        go_wp2_with fail
        go_quiet (fail)
        go_wp2_with fail
        first | go_end0 | refine bodyPost_ret (results_none rfl _ _ _) rfl ?_
        exact RF.of HR (HF.out.drewN _) (HB.out.trans (bx_drewN _ _ _ _))
      | cons t G =>
        have h2 : Fm wr g β L ro f.T f.l (t :: G) (Value.slice aT f.T.length cT) vN vS (cs g f) := by have h1 := HF.out; rw [FmS, hG] at h1; exact h1
        have H2 := Lib.hid h2
        obtain ⟨k, cap, rfl, hcap, hgk, hAt⟩ := h2.top
        obtain ⟨n, hn⟩ : ∃ n, G.length = n := ⟨_, rfl⟩
        obtain ⟨te, hte⟩ : ∃ n, t.e = n := ⟨_, rfl⟩
        obtain ⟨tp, htp⟩ : ∃ n, t.p0 = n := ⟨_, rfl⟩
        rw [hG, List.length_cons, hn] at hzg
        rw [hn] at hAt hcap c6
        have s1 := hAt.cell 1 _ rfl
        have s2 := hAt.cell 2 _ rfl
        rw [hte] at s2
        rw [htp] at s1
        have e3 : (0 : Int) < (n : Int) + 1 := by omega
        have e4 : IntKind.i64.wrap (n : Int) = (n : Int) := wrap_fit n (by unfold maxLen; omega)
        have e5 : (n : Int) < (n : Int) + 1 := by omega
        have f6 := h2.at0.froz 6 (by show 6 < 16; decide)
        have e6 : (n : Int) ≤ (cap : Int) := by omega
        have HN := Lib.hid (And.intro hn (And.intro hte (And.intro htp (And.intro hgk (And.intro htl hzg)))))
        by_cases hq : te = tl
        · have e2 : ((te : Int) == (tl : Int)) = true := by rw [beq_iff_eq]; omega
          obtain ⟨k1, rfl⟩ : ∃ k1, gk = k1 + 1 := by
            have h9 := HC.out.2.1
            rw [hG, List.length_cons] at h9
            exact ⟨gk - 1, by omega⟩
          have HCL : Hid (Fs.close k1 (({ f with G := G } : Fs).ended tp) = R) := by
            show _ = R
            rw [← HC.out.1, close_more k1 f hG HE.out (by rw [hte, htl]; exact hq), htp]
          obtain ⟨⟨t1, t2, t3, t4, t5, t6⟩, t7⟩ := show Gk f.l (t :: G) f.T.length f.l.length by have h9 := HC.out.2.2.1; rw [hG] at h9; exact h9
          have HGK : Hid (Gk f.l G tp f.l.length ∧ tp < f.T.length) := ⟨by rw [← htp]; exact t7.re (Nat.le_refl _) (Nat.le_of_lt t1), by rw [← htp]; exact t2⟩
          have HM4 : Hid (f.m ≠ 4) := HC.out.2.2.2.2 (by rw [hG]; exact List.cons_ne_nil _ _)
          have HLE : Hid (G.length ≤ k1) := by
            have h9 := HC.out.2.1
            rw [hG, List.length_cons] at h9
            show _ ≤ _
            omega
          have HSZ : Hid (Sz ({ f with G := G } : Fs)) := ⟨HC.out.2.2.2.1.t, HC.out.2.2.2.1.l⟩
          have HP := Lib.hid (fun q => (H2.out.drewN q).pop (k := k) (cap := cap) (n := n) (by rw [hn]) hn)
          clear hee he hbT hcT htl hzg hG h2 hAt hcap hgk hn hte htp hq t1 t2 t3 t4 t5 t6 t7
          go_wp2_with fail
          go_quiet (fail)
          go_wp2_with fail
          go_quiet (fail)
          go_wp2_with fail
          go_region
          go_wp2_with fail
          refine (ended_any _ g β L ro { f with G := G } _ _ _ (HP.out _) tp HGK.out.1 HGK.out.2 HSZ.out HM4.out (tp : Int) rfl).mono ?_
          rintro e w1 ⟨rfl, vT1, vN1, vS1, hF1, hB1⟩
          have HIN : Hid (InC R g β L ro w k1 w1) := ⟨_, vT1, vN1, vS1, hF1, ⟨HCL.out, by rw [(ended_len _ _).2]; exact HLE.out, by
            have h9 := ended_gk (f := { f with G := G }) HGK.out.1 HGK.out.2
            rw [ended_T, (ended_len _ _).1]
            exact h9, HSZ.out.ended _, fun h9 => ended_m HM4.out h9⟩, HB.out.trans (((bx_drewN g β _ _).setG _).trans hB1)⟩
          clear hF1 hB1
          go_wp2_with fail
          go_roundg k1
          case measure => exact Nat.lt_succ_self _
          case rel => exact HIN.out
        · have e2 : ((te : Int) == (tl : Int)) = false := by rw [beq_eq_false_iff_ne]; omega
          have HR : Hid (R = f) := by show R = _; rw [← HC.out.1]; exact close_else _ _ hG (by rw [hte, htl]; exact hq)
          clear hee he hbT hcT htl hzg hG h2 hAt hcap hgk hn hte htp hq s1
          go_wp2_with fail
          go_quiet (fail)
          go_wp2_with fail
          first | go_end0 | refine bodyPost_ret (results_none rfl _ _ _) rfl ?_
          exact RF.of HR (HF.out.drewN _) (HB.out.trans (bx_drewN _ _ _ _))
    · have e1 : (ee == 0) = false := by rw [beq_eq_false_iff_ne]; exact he
      have HR : Hid (R = f) := by show R = _; rw [← HC.out.1]; exact close_bad _ _ (by rw [hee]; exact he)
      clear hee he
      go_wp2_with fail
      go_quiet (fail)
      go_wp2_with fail
      first | go_end0 | refine bodyPost_ret (results_none rfl _ _ _) rfl ?_
      exact RF.of HR (HF.out.drewN _) (HB.out.trans (bx_drewN _ _ _ _))
end Fd
end Go.Proofs.YteglahkgnggmgaaDoor
namespace Go.Proofs.YteglahkgnggmgaaDoor
open Go.RowKit
set_option linter.unusedVariables false
set_option linter.unusedSimpArgs false
open Dr
namespace Fd
theorem conv_at {w : World} {k o : Nat} {A : List UInt8} (h : At w k o (bcells A)) (n c : Nat) (hn : A.length = n) :
    (convert 42 9 (.slice (some ⟨k, o, none⟩) n c)).run Tryd.prog w = .ok (.string ⟨A.toArray⟩) w := by
  subst hn
  refine run_convert_bytes_back w 42 9 5 ⟨k, o, none⟩ c A Tryd.underlying42 Tryd.underlying5 Tryd.underlying9 fun j hj => ?_
  have h1 := (h j _ (bcells_get A j hj)).1
  unfold Addr.add
  split
  · rename_i h0; subst h0; exact h1
  · exact h1
/-- the list's last node's body is told -/
def Fs.bodied (f : Fs) : Fs := { f with l := f.l.modify (f.l.length - 1) (fun n => { n with body := f.T.drop f.st }) }
theorem whole_eq (f : Fs) : f.whole = if bodyOk f.tagL (f.T.drop f.st) = false then f.bodied.fault 9 f.a else Fs.close f.G.length (f.bodied.ended f.a) := rfl
set_option maxRecDepth 100000 in
set_option maxHeartbeats 3200000 in
theorem whole_any (w : World) (g β : Nat) (L : Lm) (ro : Int) (f : Fs) (vT vN vS : Value) (h : FmS w g β L ro f vT vN vS) (hU : UT g w) (hk : Gk f.l f.G f.a (f.l.length - 1)) (hl : 0 < f.l.length) (ha : f.a < f.T.length) (hst : f.st ≤ f.T.length) (hz : Sz f) (hm : f.m ≠ 4) :
    Calls Tryd.prog 86 #[.pointer (some ⟨g, 0, none⟩)] w (RF f.whole g β L ro w) := by
  have hgb : g < β := h.gb
  obtain ⟨R, hR⟩ : ∃ R, f.whole = R := ⟨_, rfl⟩
  rw [hR]
  rw [whole_eq] at hR
  have HF := Lib.hid h
  have HU := Lib.hid hU
  obtain ⟨i, hi⟩ : ∃ i, f.l.length - 1 = i := ⟨_, rfl⟩
  obtain ⟨kn, capn, rfl, hgn, hAn⟩ := h.node i (by omega)
  obtain ⟨aT, cT, rfl, hcT, hbT⟩ := h.bytes
  obtain ⟨kT, rfl, hgT, hAT⟩ := hbT (by omega)
  have c4 := h.at0.cell 4 _ rfl
  have c5 := h.at0.cell 5 _ rfl
  have c11 := h.at0.cell 11 _ rfl
  have c14 := h.at0.cell 14 _ rfl
  obtain ⟨m, hm0⟩ : ∃ m, f.l.length = m := ⟨_, rfl⟩
  obtain ⟨tl, htl⟩ : ∃ m, f.T.length = m := ⟨_, rfl⟩
  obtain ⟨st, hst0⟩ : ∃ m, f.st = m := ⟨_, rfl⟩
  obtain ⟨pa, hpa⟩ : ∃ m, f.a = m := ⟨_, rfl⟩
  obtain ⟨N, hN⟩ : ∃ N, f.l.getD i ⟨0, 0, []⟩ = N := ⟨_, rfl⟩
  obtain ⟨t, ht⟩ : ∃ t, N.tag.toNat = t := ⟨_, rfl⟩
  have htag : f.tagL = N.tag := by rw [Fs.tagL, hi, hN]
  rw [hN] at hAn
  rw [htl] at c4 hst ha hcT
  rw [hm0] at c5
  rw [hst0] at c14 hst
  rw [hpa] at c11 ha
  have n0 := hAn.cell 0 _ rfl
  have n2 := hAn.cell 2 _ rfl
  have fn2 := hAn.froz 2 (by show 2 < 3; decide)
  rw [Nat.add_zero, ht] at n0
  have hzt := hz.t
  have hzl := hz.l
  rw [htl] at hzt
  rw [hm0] at hzl hl
  have e1 : (i : Int) < (m : Int) := by omega
  have e4 : (m : Int) - 1 = (i : Int) := by omega
  have e5 : IntKind.i64.wrap (i : Int) = (i : Int) := wrap_fit i (by unfold maxLen; omega)
  have e6 : (st : Int) ≤ (tl : Int) := by omega
  have e7 : (tl : Int) ≤ (cT : Int) := by omega
  obtain ⟨bl, hbl⟩ : ∃ b, f.T.drop f.st = b := ⟨_, rfl⟩
  obtain ⟨bd, hbd⟩ : ∃ b : ByteArray, (⟨bl.toArray⟩ : ByteArray) = b := ⟨_, rfl⟩
  have hbdl : bd.toList = bl := by rw [← hbd, tl_mk]
  have hbs : bd.size ≤ 140737488351232 := by rw [← tl_size, hbdl, ← hbl, List.length_drop]; omega
  have hAB : At w kT st (bcells bl) := by
    refine At.midOf (A := f.T.take st) (Z := bl) (R := []) ?_ (by rw [List.length_take]; omega)
    rw [List.append_nil, ← hbl, hst0, List.take_append_drop]
    exact hAT
  have hlen : bl.length = tl - st := by rw [← hbl, List.length_drop, htl, hst0]
  have CV : ∀ q, (convert 42 9 (.slice (if cT = st then some ⟨kT, 0, none⟩ else some ⟨kT, st, none⟩) (tl - st) (cT - st))).run Tryd.prog (w.drewN q) = .ok (.string bd) (w.drewN q) := fun q => by
    by_cases h0 : cT = st
    · have h1 : bl = [] := List.eq_nil_of_length_eq_zero (by omega)
      rw [if_pos h0, ← hbd, h1, show tl - st = 0 by omega]
      exact conv_at (A := []) (fun j v hv => by simp [bcells] at hv) 0 _ rfl
    · rw [if_neg h0, ← hbd]
      exact conv_at (hAB.drewN q) _ _ hlen
  have HW : Hid (∀ q, Hid (FmS ((w.drewN q).setCell ⟨kn, i * 3 + 2, none⟩ (.string bd)) g β L ro f.bodied (.slice (some ⟨kT, 0, none⟩) f.T.length cT) (.slice (some ⟨kn, 0, none⟩) f.l.length capn) vS) ∧ Hid (Bx g β w ((w.drewN q).setCell ⟨kn, i * 3 + 2, none⟩ (.string bd)))) := fun q => by
    refine ⟨?_, (bx_drewN g β w q).setCell hgn _⟩
    have h5 := (h.drewN q).setNode (n := m) (by rw [hm0]) hm0 i 2 (by omega) (by decide) (.string bd) (fun n => { n with body := bl }) (by rw [← hbd]; rfl)
    show Fm _ g β L ro f.T (f.l.modify (f.l.length - 1) (fun n => { n with body := f.T.drop f.st })) _ _ _ _ _
    rw [hi, hbl]
    exact h5
  have RI := Lib.hid (fun w hU => right_any t bd hbs w hU)
  have hNb : bodyN t bd.toList = bodyOk f.tagL (f.T.drop f.st) := by rw [hbdl, hbl, bodyOk, htag, ht]
  rw [hNb] at RI
  obtain ⟨ok, hok⟩ : ∃ b, bodyOk f.tagL (f.T.drop f.st) = b := ⟨_, rfl⟩
  rw [hok] at RI hR
  have HAS : Hid (∀ q, At ((w.drewN q).setCell ⟨kn, i * 3 + 2, none⟩ (.string bd)) kn (i * 3) ((nv N).set 2 (.string bd))) := fun q => (hAn.drewN q).set 2 (.string bd)
  have HT := Lib.hid ht
  have HGK : Hid (Gk f.bodied.l f.bodied.G pa f.bodied.l.length) := by
    show Gk (f.l.modify _ _) f.G pa (f.l.modify _ _).length
    rw [List.length_modify]
    rw [hpa, hi] at hk
    refine (hk.list (fun j hj => getD_mod_ne _ _ _ _ _ (fun h9 => by omega))).re (Nat.le_refl _) (by omega)
  have HS : Hid (Sz f.bodied) := ⟨hz.t, by show (f.l.modify _ _).length ≤ 4096; rw [List.length_modify]; exact hz.l⟩
  have HM : Hid (f.bodied.m ≠ 4) := hm
  have HA : Hid (pa < f.bodied.T.length) := by show pa < f.T.length; omega
  have HG : Hid (f.bodied.G.length = f.G.length) := rfl
  have HP := Lib.hid hpa
  have HR := Lib.hid hR
  clear hok
  clear h hU hk hl ha hst hz hm hR hAn hbT hAT hi hm0 htl hst0 hpa hN ht htag hzt hzl hcT hbl hbd hbdl hbs hAB hlen hNb
  go_enter Tryd.func86, Tryd.ntmps86
  go_wp2_with fail
  go_quiet (fail)
  go_wp2_with fail
  go_region
  go_wp2_with fail
  all_goals
    have hA2 := HAS.out (nq + 1)
    have H2 := HW.out (nq + 1)
    generalize (w.drewN (nq + 1)).setCell ⟨kn, i * 3 + 2, none⟩ (.string bd) = w2 at hA2 H2 ⊢
    obtain ⟨HF2, HB2⟩ := H2
    have n0 := hA2.cell 0 _ rfl
    have n2 := hA2.cell 2 _ rfl
    rw [Nat.add_zero, HT.out] at n0
    have HA2 := Lib.hid hA2
    clear hA2
    cases ok
    · have HR2 : Hid (R = f.bodied.fault 9 pa) := by
        have h9 := HR.out
        rw [if_pos rfl, HP.out] at h9
        exact h9.symm
      go_region_held3 (fun w' => w'.cell? ⟨kn, i * 3, none⟩ = some (.int .u8 (t : Int)) ∧ w'.cell? ⟨kn, i * 3 + 2, none⟩ = some (.string bd)) (first | exact ⟨n0, n2⟩ | exact ⟨m0, m2⟩) ((go_at_call 56; refine (RI.out _ (ut_bx HU.out (HB2.out.trans (bx_drewN _ _ _ _)) hgb).1).mono ?_; rintro e w3 ⟨rfl, hb3⟩; have HF3 := Lib.hid ((HF2.out.drewN _).below hb3); have HB3 := Lib.hid ((HB2.out.trans (bx_drewN _ _ _ _)).trans (Bx.of hb3 (HF2.out.drewN _).bs)); have c11 := HF3.out.at0.cell 11 _ rfl; rw [show f.bodied.a = f.a from rfl, HP.out] at c11; have hA3 := (HA2.out.drewN _).below hb3 (HA2.out.lt (by simp [nv])); have m0 := hA3.cell 0 _ rfl; have m2 := hA3.cell 2 _ rfl; rw [Nat.add_zero, HT.out] at m0; clear hb3 hA3))
      go_wp2_with fail
      refine (fault_any _ g β L ro f.bodied _ _ _ HF3.out 9 pa (pa : Int) rfl).mono ?_
      rintro e w4 ⟨rfl, hF4, hB4⟩
      go_wp2_with fail
      first | go_end0 | refine bodyPost_ret (results_none rfl _ _ _) rfl ?_
      exact RF.of HR2 hF4 (HB3.out.trans hB4)
    · have HR2 : Hid (R = Fs.close f.G.length (f.bodied.ended pa)) := by
        have h9 := HR.out
        rw [if_neg (by decide), HP.out] at h9
        exact h9.symm
      go_region_held3 (fun w' => w'.cell? ⟨kn, i * 3, none⟩ = some (.int .u8 (t : Int)) ∧ w'.cell? ⟨kn, i * 3 + 2, none⟩ = some (.string bd)) (first | exact ⟨n0, n2⟩ | exact ⟨m0, m2⟩) ((go_at_call 56; refine (RI.out _ (ut_bx HU.out (HB2.out.trans (bx_drewN _ _ _ _)) hgb).1).mono ?_; rintro e w3 ⟨rfl, hb3⟩; have HF3 := Lib.hid ((HF2.out.drewN _).below hb3); have HB3 := Lib.hid ((HB2.out.trans (bx_drewN _ _ _ _)).trans (Bx.of hb3 (HF2.out.drewN _).bs)); have c11 := HF3.out.at0.cell 11 _ rfl; rw [show f.bodied.a = f.a from rfl, HP.out] at c11; have hA3 := (HA2.out.drewN _).below hb3 (HA2.out.lt (by simp [nv])); have m0 := hA3.cell 0 _ rfl; have m2 := hA3.cell 2 _ rfl; rw [Nat.add_zero, HT.out] at m0; clear hb3 hA3))
      go_wp2_with fail
      refine (ended_any _ g β L ro f.bodied _ _ _ HF3.out pa HGK.out HA.out HS.out HM.out (pa : Int) rfl).mono ?_
      rintro e w4 ⟨rfl, vT4, vN4, vS4, hF4, hB4⟩
      go_wp2_with fail
      refine (close_any _ g β L ro (f.bodied.ended pa) _ _ _ hF4.out (by rw [ended_T, (ended_len _ _).1]; exact ended_gk HGK.out HA.out) (HS.out.ended _) (fun h9 => ended_m HM.out h9)).mono ?_
      rintro e w5 ⟨rfl, vT5, vN5, vS5, hF5, hB5⟩
      rw [(ended_len _ _).2, HG.out] at hF5
      go_wp2_with fail
      first | go_end0 | refine bodyPost_ret (results_none rfl _ _ _) rfl ?_
      exact RF.of HR2 hF5 (HB3.out.trans (hB4.out.trans hB5))
end Fd
end Go.Proofs.YteglahkgnggmgaaDoor
namespace Go.Proofs.YteglahkgnggmgaaDoor
open Go.RowKit
set_option linter.unusedVariables false
set_option linter.unusedSimpArgs false
open Dr
namespace Fd
theorem cells_of {w : World} {k : Nat} {y cs : List Value} (hq : y = cs) (h : At w k 0 cs) : ∀ j u, y[j]? = some u → w.cell? ((⟨k, 0, none⟩ : Addr).add j) = some u := fun j u hu => by
  subst hq
  have := (h j u hu).1
  by_cases h0 : j = 0
  · subst h0; simpa [Addr.add] using this
  · simpa [Addr.add, h0] using this
section
variable {w : World} {ops : Array Oper} {o : Oper} {a : Act}
theorem step_append_gn {K : Act → World → Prop} {Q : Exit → Act → World → Prop} {E : Prop} (hgd : o.guard = none) (s x : Operand)
    (ho : o.op = .call { callee := .builtin .append, args := #[s, x], argTypes := #[57, 57] })
    (base : Nat) (v : Value) (n : Nat) (G : List Fg) (hs : a.eval s = v) (hown : w.ownsRow base 130 5 v n (gcells G))
    (g c : Nat) (f : Fg) (hx : a.eval x = .slice (some ⟨g, 0, none⟩) 1 c) (hcell : ∀ j u, (gv f)[j]? = some u → w.cell? ((⟨g, 0, none⟩ : Addr).add j) = some u)
    (hn : n ≤ 1000000) (hbase : base ≤ w.heap.size)
    (h : ∀ v' w', w'.ownsRow base 130 5 v' (n + 1) (gcells (f :: G)) → w.grownBy w' v.ownBlock → K (a.put o.dst v') w') :
    if Region.wanted o (yielded ops a.tmps) = true then Oper.wp Tryd.prog o a w K Q else E := by
  obtain ⟨i0, hi, hq⟩ := Option.map_eq_some_iff.1 infoG
  simp only [Prod.mk.injEq] at hq
  refine step_append_gen hgd s x 57 ho base 130 i0 _ 5 40 Tryd.underlying57 hi hq.1 hq.2.1 hq.2.2 rfl (by decide) v n (gcells G) hs hown g 1 c (gv f) hx rfl hcell (gv_one f) (by unfold maxLen; omega) (by omega) hbase ?_
  intro v' w' h1 h2
  exact h v' w' (by rw [gcells_cons]; exact h1) h2
end
def Fs.sized (f : Fs) (n : Nat) : Fs := { f with st := f.T.length, en := f.T.length + n }
def Fs.pushed (f : Fs) (n : Nat) : Fs := { f.sized n with l := f.l.modify (f.l.length - 1) (fun n => { n with kids := 0 }), G := ⟨f.l.length - 1, f.a, f.T.length + n, 0, 0⟩ :: f.G, m := 0 }
def Fs.bodyM (f : Fs) (n : Nat) : Fs := { f.sized n with m := 3 }
theorem Sz.sized {f : Fs} {n : Nat} (h : Sz f) : Sz (f.bodyM n) := ⟨h.t, h.l⟩
theorem pushed_gk {f : Fs} (n : Nat) (hk : Gk f.l f.G f.a (f.l.length - 1)) (hl : 0 < f.l.length) (ha : f.a < f.T.length) : Gk (f.pushed n).l (f.pushed n).G (f.pushed n).T.length (f.pushed n).l.length := by
  have h0 : (f.l.modify (f.l.length - 1) (fun n => ({ n with kids := 0 } : Nd))).getD (f.l.length - 1) ⟨0, 0, []⟩ = { (f.l.getD (f.l.length - 1) ⟨0, 0, []⟩) with kids := 0 } := getD_mod _ _ _ _ (by omega)
  refine ⟨⟨?_, ha, Nat.le_refl _, Nat.zero_le _, ?_, ?_⟩, ?_⟩
  · show f.l.length - 1 < (f.l.modify _ _).length
    rw [List.length_modify]; omega
  · show 0 ≤ ((f.l.modify _ _).getD (f.l.length - 1) _).kids
    rw [h0]; exact Int.le_refl _
  · show ((f.l.modify _ _).getD (f.l.length - 1) _).kids ≤ _
    rw [h0]; show (0 : Int) ≤ _; omega
  · exact hk.list (fun j hj => getD_mod_ne _ _ _ _ _ (fun h9 => by omega))
theorem Sz.pushed {f : Fs} (n : Nat) (h : Sz f) : Sz (f.pushed n) := ⟨h.t, by show (f.l.modify _ _).length ≤ 4096; rw [List.length_modify]; exact h.l⟩
theorem measured_eq (f : Fs) (n : Nat) : f.measured n = if (f.G.head?.any fun t => decide (t.e < f.T.length + n)) = true then (f.sized n).fault 9 f.a else if within f.tagL = true then Fs.close (f.G.length + 1) (f.pushed n) else if n = 0 then (f.bodyM n).whole else f.bodyM n := rfl
set_option maxRecDepth 100000 in
set_option maxHeartbeats 3200000 in
theorem measured_any (w : World) (g β : Nat) (L : Lm) (ro : Int) (f : Fs) (vT vN vS : Value) (h : FmS w g β L ro f vT vN vS) (hU : UT g w) (hk : Gk f.l f.G f.a (f.l.length - 1)) (hl : 0 < f.l.length) (ha : f.a < f.T.length) (hz : Sz f) (hm : f.m ≠ 4) (n : Nat) (hn : n ≤ 4294967296) (z : Int) (hnz : (n : Int) = z) :
    Calls Tryd.prog 78 #[.pointer (some ⟨g, 0, none⟩), .int .i64 z] w (RF (f.measured n) g β L ro w) := by
  have hgb : g < β := h.gb
  subst hnz
  obtain ⟨R, hR⟩ : ∃ R, f.measured n = R := ⟨_, rfl⟩
  rw [hR]
  rw [measured_eq] at hR
  have HF := Lib.hid h
  have HU := Lib.hid hU
  have c4 := h.at0.cell 4 _ rfl
  have c14 := h.at0.cell 14 _ rfl
  have f14 := h.at0.froz 14 (by show 14 < 16; decide)
  have c15 := h.at0.cell 15 _ rfl
  have f15 := h.at0.froz 15 (by show 15 < 16; decide)
  obtain ⟨aT, cT, rfl, hcT, hbT⟩ := h.bytes
  obtain ⟨tl, htl⟩ : ∃ m, f.T.length = m := ⟨_, rfl⟩
  have hzt := hz.t
  rw [htl] at c4 hzt
  obtain ⟨en, hen⟩ : ∃ m, tl + n = m := ⟨_, rfl⟩
  have e1 : (tl : Int) + (n : Int) = (en : Int) := by omega
  have e2 : IntKind.i64.wrap (en : Int) = (en : Int) := wrap_fit en (by unfold maxLen; omega)
  have HW : Hid (FmS ((w.setCell ⟨g, 14, none⟩ (.int .i64 (tl : Int))).setCell ⟨g, 15, none⟩ (.int .i64 (en : Int))) g β L ro (f.sized n) (.slice aT f.T.length cT) vN vS ∧ Bx g β w ((w.setCell ⟨g, 14, none⟩ (.int .i64 (tl : Int))).setCell ⟨g, 15, none⟩ (.int .i64 (en : Int)))) := by
    refine ⟨?_, ((Bx.refl' g β w).setG _).setG _⟩
    have h3 := (h.set 7 (.int .i64 (tl : Int))).set 8 (.int .i64 (en : Int))
    rw [← hen, ← htl] at h3 ⊢
    exact h3
  obtain ⟨b, hb⟩ : ∃ b, (f.G.head?.any fun t => decide (t.e < f.T.length + n)) = b := ⟨_, rfl⟩
  rw [hb] at hR
  have HR := Lib.hid hR
  have HX := Lib.hid (And.intro hk (And.intro hl (And.intro ha (And.intro hz (And.intro hm (And.intro hn (And.intro htl (And.intro hen hb))))))))
  clear h hU hk hl ha hz hm hR hcT hbT htl hzt hen hb
  go_enter Tryd.func78, Tryd.ntmps78
  go_wp2_with fail
  have H1 := HW.out
  generalize (w.setCell ⟨g, 14, none⟩ (.int .i64 (tl : Int))).setCell ⟨g, 15, none⟩ (.int .i64 (en : Int)) = w1 at H1 ⊢
  obtain ⟨h1, hb1⟩ := H1
  have HF1 := Lib.hid h1
  have HB1 := Lib.hid hb1
  clear h1 hb1 HW c4 c14 f14 c15 f15
  have c6 := HF1.out.at0.cell 6 _ rfl
  have c15 := HF1.out.at0.cell 15 _ rfl
  rw [show (f.sized n).en = f.T.length + n from rfl, HX.out.2.2.2.2.2.2.1, HX.out.2.2.2.2.2.2.2.1] at c15
  go_cut [47] from 22 to 47 (fun v wx => v = .bool b ∧ ∃ k, wx = w1.drewN k)
  case first =>
    cases hG : f.G with
    | nil =>
      obtain ⟨ad, c, hv, -⟩ := own_form HF1.out.stack
      have hG1 : (f.sized n).G = [] := hG
      rw [hv, hG1] at c6
      have c6b : w1.cell? ⟨g, 6, none⟩ = some (.slice ad 0 c) := c6
      have hb : b = false := by rw [← HX.out.2.2.2.2.2.2.2.2, hG]; rfl
      subst hb
      clear hv hG hG1 c6 c15
      go_wp2_with fail
      go_quiet (fail)
      go_wp2_with fail
      go_meet
      case rel => exact ⟨rfl, _, rfl⟩
    | cons t G =>
      have h2 : Fm w1 g β L ro f.T f.l (t :: G) (Value.slice aT f.T.length cT) vN vS (cs g (f.sized n)) := by
        have h1 := HF1.out
        rw [FmS, show (f.sized n).G = f.G from rfl, hG] at h1
        exact h1
      obtain ⟨k, cap, rfl, hcap, hgk, hAt⟩ := h2.top
      obtain ⟨m, hm⟩ : ∃ n, G.length = n := ⟨_, rfl⟩
      obtain ⟨te, hte⟩ : ∃ n, t.e = n := ⟨_, rfl⟩
      have hgl : m + 1 ≤ 262144 := by
        have h9 := HX.out.1.len
        rw [hG, List.length_cons, hm] at h9
        have h8 := HX.out.2.2.1
        have h7 := HX.out.2.2.2.1.t
        omega
      rw [hm] at c6 hAt
      have s2 := hAt.cell 2 _ rfl
      rw [hte] at s2
      have e3 : (0 : Int) < (m : Int) + 1 := by omega
      have e4 : IntKind.i64.wrap (m : Int) = (m : Int) := wrap_fit m (by unfold maxLen; omega)
      have e5 : (m : Int) < (m : Int) + 1 := by omega
      have hb2 : decide (te < en) = b := by
        rw [← HX.out.2.2.2.2.2.2.2.2, hG, HX.out.2.2.2.2.2.2.1, HX.out.2.2.2.2.2.2.2.1, ← hte]; rfl
      have HB2 := Lib.hid hb2
      clear h2 hAt hcap hgk hm hte hgl hG
      by_cases q1 : te < en
      · have e6 : (te : Int) < (en : Int) := by omega
        obtain rfl : b = true := by rw [← hb2]; exact decide_eq_true q1
        clear hb2
        go_wp2_with fail
        go_quiet (fail)
        go_wp2_with fail
        go_meet
        case rel => exact ⟨rfl, _, rfl⟩
      · have e6 : ¬ (te : Int) < (en : Int) := by omega
        have e7 : decide ((te : Int) < (en : Int)) = false := decide_eq_false e6
        obtain rfl : b = false := by rw [← hb2]; exact decide_eq_false q1
        clear hb2
        go_wp2_with fail
        go_quiet (fail)
        go_wp2_with fail
        go_meet
        case rel => exact ⟨rfl, _, rfl⟩
  case rest =>
    obtain ⟨rfl, k, rfl⟩ := hcut
    have HF2 := Lib.hid (HF1.out.drewN k)
    have HB2 := Lib.hid (HB1.out.trans (bx_drewN g β _ k))
    clear c6 c15
    generalize w1.drewN k = w2 at HF2 HB2 ⊢
    clear HF1 HB1
    have c11 := HF2.out.at0.cell 11 _ rfl
    obtain ⟨pa, hpa⟩ : ∃ m, f.a = m := ⟨_, rfl⟩
    rw [show (f.sized n).a = f.a from rfl, hpa] at c11
    have HP := Lib.hid hpa
    cases b with
    | true =>
      have HR2 : Hid (R = (f.sized n).fault 9 pa) := by
        have h9 := HR.out
        rw [if_pos rfl, hpa] at h9
        exact h9.symm
      clear hpa
      go_wp2_with fail
      refine (fault_any _ g β L ro (f.sized n) _ _ _ HF2.out 9 pa (pa : Int) rfl).mono ?_
      rintro e w4 ⟨rfl, hF4, hB4⟩
      go_wp2_with fail
      first | go_end0 | refine bodyPost_ret (results_none rfl _ _ _) rfl ?_
      exact RF.of HR2 hF4 (HB2.out.trans hB4)
    | false =>
      have HR1 := HR.out
      rw [if_neg (by decide)] at HR1
      have HR3 := Lib.hid HR1
      clear HR1 HR hpa
      obtain ⟨i, hi⟩ : ∃ i, f.l.length - 1 = i := ⟨_, rfl⟩
      obtain ⟨m, hm⟩ : ∃ m, f.l.length = m := ⟨_, rfl⟩
      have him : i < f.l.length := by have := HX.out.2.1; omega
      obtain ⟨kn, capn, rfl, hgn, hAn⟩ := HF2.out.node i him
      obtain ⟨N, hN⟩ : ∃ N, f.l.getD i ⟨0, 0, []⟩ = N := ⟨_, rfl⟩
      obtain ⟨tg, htg⟩ : ∃ t, N.tag.toNat = t := ⟨_, rfl⟩
      have htag : f.tagL = N.tag := by rw [Fs.tagL, hi, hN]
      have htl : tg < 256 := by rw [← htg]; exact N.tag.toNat_lt
      obtain ⟨wi, hwi⟩ : ∃ x, tg / 32 % 2 = x := ⟨_, rfl⟩
      have hwn : within f.tagL = decide (wi = 1) := by rw [htag, within, htg, hwi]
      rw [show (f.sized n).l.getD i ⟨0, 0, []⟩ = N from hN] at hAn
      have c5 := HF2.out.at0.cell 5 _ rfl
      rw [show (f.sized n).l.length = m from hm] at c5
      have n0 := hAn.cell 0 _ rfl
      have n1 := hAn.cell 1 _ rfl
      have fn1 := hAn.froz 1 (by show 1 < 3; decide)
      rw [Nat.add_zero, htg] at n0
      have hml : m ≤ 4096 := by have := HX.out.2.2.2.1.l; omega
      have e1 : (i : Int) < (m : Int) := by omega
      have e4 : (m : Int) - 1 = (i : Int) := by omega
      have e5 : IntKind.i64.wrap (i : Int) = (i : Int) := wrap_fit i (by unfold maxLen; omega)
      have WI := Lib.hid (fun w => within_any tg wi htl hwi w)
      have HR4 := HR3.out
      rw [hwn] at HR4
      have hwi2 : wi = 0 ∨ wi = 1 := by omega
      have HI := Lib.hid (And.intro hi (And.intro hm (And.intro hN hgn)))
      clear hi hm him hgn hN htg htag htl hwi hwn hml HR3 hAn
      have c7 := HF2.out.at0.cell 7 _ rfl
      have f7 := HF2.out.at0.froz 7 (by show 7 < 16; decide)
      rcases hwi2 with rfl | rfl
      · rw [if_neg (by decide)] at HR4
        have HR5 := Lib.hid HR4
        have HF3 : Hid (FmS (w2.setCell ⟨g, 7, none⟩ (nxV g (nxF 3))) g β L ro (f.bodyM n) (.slice aT f.T.length cT) (.slice (some ⟨kn, 0, none⟩) f.l.length capn) vS) := by
          show Fm _ g β L ro f.T f.l f.G _ _ _ (cs g { f.sized n with m := 3 })
          rw [cs_m g (f.sized n) 3 HX.out.2.2.2.2.1 (by decide)]
          exact HF2.out.set 0 (nxV g (nxF 3))
        have HB3 : Hid (Bx g β w (w2.setCell ⟨g, 7, none⟩ (nxV g (nxF 3)))) := HB2.out.setG _
        clear HR4 n1 fn1
        by_cases hn0 : n = 0
        · subst hn0
          have HR6 := HR5.out
          rw [if_pos rfl] at HR6
          have HR7 : Hid (R = (f.bodyM 0).whole) := HR6.symm
          clear HR6 HR5
          go_wp2_with (first | (go_at_call 55; refine (WI.out _).mono ?_; rintro e w4 ⟨rfl, rfl⟩))
          refine (whole_any _ g β L ro (f.bodyM 0) _ _ _ HF3.out (ut_bx HU.out HB3.out hgb) HX.out.1 HX.out.2.1 HX.out.2.2.1 (Nat.le_refl _) HX.out.2.2.2.1.sized (show (3 : Nat) ≠ 4 by decide)).mono ?_
          rintro e w5 ⟨rfl, vT5, vN5, vS5, hF5, hB5⟩
          go_wp2_with fail
          first | go_end0 | refine bodyPost_ret (results_none rfl _ _ _) rfl ?_
          exact RF.of HR7 hF5 (HB3.out.trans hB5)
        · have HR6 := HR5.out
          rw [if_neg hn0] at HR6
          have HR7 : Hid (R = f.bodyM n) := HR6.symm
          have e9 : ((n : Int) == 0) = false := by rw [beq_eq_false_iff_ne]; omega
          clear HR6 HR5 hn0
          go_wp2_with (first | (go_at_call 55; refine (WI.out _).mono ?_; rintro e w4 ⟨rfl, rfl⟩))
          first | go_end0 | refine bodyPost_ret (results_none rfl _ _ _) rfl ?_
          exact RF.of HR7 HF3.out HB3.out
      · rw [if_pos (by decide)] at HR4
        have HR5 : Hid (R = Fs.close (f.G.length + 1) (f.pushed n)) := HR4.symm
        have x5 : ¬ kn = g := by have := HI.out.2.2.2; omega
        have x6 : ¬ g = kn := fun h => x5 h.symm
        have HF3 : Hid (Fm (w2.setCell ⟨kn, i * 3 + 1, none⟩ (.int .i64 0)) g β L ro f.T (f.l.modify i (fun n => { n with kids := 0 })) f.G (.slice aT f.T.length cT) (.slice (some ⟨kn, 0, none⟩) f.l.length capn) vS (cs g (f.sized n))) :=
          HF2.out.setNode (n := m) (l := f.l) (by rw [show (f.sized n).l.length = m from HI.out.2.1]) HI.out.2.1 i 1 (by omega) (by decide) (.int .i64 0) (fun n => { n with kids := 0 }) rfl
        have HB3 : Hid (Bx g β w (w2.setCell ⟨kn, i * 3 + 1, none⟩ (.int .i64 0))) := HB2.out.setCell HI.out.2.2.2 _
        clear HR4
        go_wp2_with (first | (go_at_call 55; refine (WI.out _).mono ?_; rintro e w4 ⟨rfl, rfl⟩))
        generalize w2.setCell ⟨kn, i * 3 + 1, none⟩ (.int .i64 0) = w3 at HF3 HB3 ⊢
        clear HF2 HB2 c5 n0 n1 fn1 c7 f7 x5 x6 c11
        have HHP := HP
        have hA6 : ∀ (ob : Obj), (w3.alloc ob).cell? ⟨g, 6, none⟩ = some vS := fun ob => ((HF3.out.alloc ob).at0).cell 6 _ rfl
        have hA11 : ∀ (ob : Obj), (w3.alloc ob).cell? ⟨g, 11, none⟩ = some (.int .i64 (pa : Int)) := fun ob => by
          have h9 := ((HF3.out.alloc ob).at0).cell 11 _ rfl
          rw [show (f.sized n).a = f.a from rfl, HP.out] at h9
          exact h9
        have hA15 : ∀ (ob : Obj), (w3.alloc ob).cell? ⟨g, 15, none⟩ = some (.int .i64 (en : Int)) := fun ob => by
          have h9 := ((HF3.out.alloc ob).at0).cell 15 _ rfl
          rw [show (f.sized n).en = f.T.length + n from rfl, HX.out.2.2.2.2.2.2.1, HX.out.2.2.2.2.2.2.2.1] at h9
          exact h9
        have c6 := HF3.out.at0.cell 6 _ rfl
        have c11 := HF3.out.at0.cell 11 _ rfl
        have c15 := HF3.out.at0.cell 15 _ rfl
        rw [show (f.sized n).a = f.a from rfl, HP.out] at c11
        rw [show (f.sized n).en = f.T.length + n from rfl, HX.out.2.2.2.2.2.2.1, HX.out.2.2.2.2.2.2.2.1] at c15
        have HGL : Hid (f.G.length ≤ 262144) := by
          have h9 := HX.out.1.len
          have h8 := HX.out.2.2.1
          have h7 := HX.out.2.2.2.1.t
          show _ ≤ _
          omega
        go_cut [] from 76 to 94 (fun wx => ∃ vS', Fm wx g β L ro f.T (f.l.modify i (fun n => { n with kids := 0 })) (⟨i, pa, en, 0, 0⟩ :: f.G) (.slice aT f.T.length cT) (.slice (some ⟨kn, 0, none⟩) f.l.length capn) vS' (cs g (f.sized n)) ∧ Bx g β w3 wx)
        case first =>
          go_wp2_with fail
          go_region_law (refine step_append_gn rfl (.tmp 80) (.tmp 91) rfl β _ f.G.length f.G rfl (own_drewN (HF3.out.stack.alloc _) 1) _ 1 ⟨i, pa, en, 0, 0⟩ rfl (cells_of rfl (At.drew (At.ofAlloc w3 #[Value.int .i64 (i : Int), Value.int .i64 (pa : Int), Value.int .i64 (en : Int), Value.int .i64 0, Value.int .i64 0] 130))) (by have := HGL.out; omega) (by have := HF3.out.bs; simp; omega) ?_; intro v' w4 hown4 hgrow4; obtain ⟨a4, c4, hv4, -⟩ := own_form hown4; subst hv4; have hAt4 := At.grown (((HF3.out.alloc _).drewN 1).at0) hgrow4 ((HF3.out.alloc _).drewN 1).lt (fun e => by have := (HF3.out.stack.lt g e).1; omega); have hf64 := hAt4.froz 6 (by show 6 < 16; decide); have hc64 := hAt4.cell 6 _ rfl; have HR3 := Lib.hid (Fm.growS (G' := ⟨i, pa, en, 0, 0⟩ :: f.G) ((HF3.out.alloc _).drewN 1) hgrow4 hown4); have HB4 := Lib.hid (((((Bx.refl' g β w3).alloc HF3.out.bs _).trans (bx_drewN g β _ 1)).grown hgrow4 (by have := HF3.out.bs; simp; omega) (fun k hk => by have := (HF3.out.stack.lt k hk).1; omega)).setG (o := 6) (.slice a4 (f.G.length + 1) c4)); clear hAt4 hgrow4 hown4)
          all_goals
            go_wp2_with fail
            go_meet
            case rel => exact ⟨_, HR3.out, HB4.out⟩
        case rest =>
          obtain ⟨vS4, hF4, hB4⟩ := hcut
          have HF5 : Hid (FmS (wc.setCell ⟨g, 7, none⟩ (nxV g (nxF 0))) g β L ro (f.pushed n) (.slice aT f.T.length cT) (.slice (some ⟨kn, 0, none⟩) f.l.length capn) vS4) := by
            show Fm _ g β L ro f.T (f.l.modify (f.l.length - 1) _) (⟨f.l.length - 1, f.a, f.T.length + n, 0, 0⟩ :: f.G) _ _ _ (cs g { f.sized n with m := 0 })
            rw [cs_m g (f.sized n) 0 HX.out.2.2.2.2.1 (by decide), HI.out.1, HP.out, HX.out.2.2.2.2.2.2.1, HX.out.2.2.2.2.2.2.2.1]
            have h9 := hF4.set 0 (nxV g (nxF 0))
            rw [HX.out.2.2.2.2.2.2.1] at h9
            exact h9
          have HB5 : Hid (Bx g β w (wc.setCell ⟨g, 7, none⟩ (nxV g (nxF 0)))) := (HB3.out.trans hB4).setG _
          have c7 := hF4.at0.cell 7 _ rfl
          have f7 := hF4.at0.froz 7 (by show 7 < 16; decide)
          clear hF4 hB4 hA6 hA11 hA15 c6 c11 c15
          go_wp2_with fail
          refine (close_any _ g β L ro (f.pushed n) _ _ _ HF5.out (pushed_gk n HX.out.1 HX.out.2.1 HX.out.2.2.1) (HX.out.2.2.2.1.pushed n) (fun _ => show (0 : Nat) ≠ 4 by decide)).mono ?_
          rintro e w6 ⟨rfl, vT6, vN6, vS6, hF6, hB6⟩
          go_wp2_with fail
          first | go_end0 | refine bodyPost_ret (results_none rfl _ _ _) rfl ?_
          exact RF.of HR5 hF6 (HB5.out.trans hB6)
end Fd
end Go.Proofs.YteglahkgnggmgaaDoor
