/- A feed of items in memory (layer 20). -/
import Derived.Test.YteanipjgpekncaaDoorCfP
import Derived.Test.YteanipjgpekncaaDoorCpJ
import Derived.Deep.CutRange
import Derived.Deep.RegionHeld3
namespace Go.Proofs.YteanipjgpekncaaDoor
open Go.RowKit
set_option linter.unusedVariables false
set_option linter.unusedSimpArgs false
namespace Cf
open Co
open Dr (Rs Lm has lack at0S)
/-- the feed's own cells, behind its limits and its three rows -/
def cs (f : Fs) : List Value := [.int .i64 (f.m : Int), .int .i64 f.e, .int .i64 (f.pl : Int), .int .i64 (f.a : Int), .int .i64 (f.wd : Int), .int .u64 (f.left : Int), .int .u64 (f.arg : Int)]
theorem own_takeF {w : World} {B e size n m cap : Nat} {a : Option Addr} {xs : List Value} (h : w.ownsRow B e size (.slice a n cap) n xs) (hm : m ≤ n) (h0 : 0 < n) : w.ownsRow B e size (.slice a m cap) m (xs.take (m * size)) := by
  obtain ⟨hl, h⟩ := h
  have hms : m * size ≤ n * size := Nat.mul_le_mul_right _ hm
  refine ⟨by rw [List.length_take]; omega, ?_⟩
  rcases h with ⟨h1, h2⟩ | ⟨g, cap', cur, h1, h2, h3, h4, h5, h6, h7⟩
  · omega
  · cases h1
    refine .inr ⟨g, cap, cur, rfl, h2, h3, by omega, h5, h6, ?_⟩
    rw [← h7, List.take_take, Nat.min_eq_left hms]
/-- all blocks below beta but g are as they were -/
structure Bx (g β : Nat) (w w' : World) : Prop where
  os : w'.os = w.os
  tape : w'.tape = w.tape
  output : w'.output = w.output
  size : w.heap.size ≤ w'.heap.size
  block : ∀ k, k < β → k ≠ g → w'.heap[k]? = w.heap[k]?
theorem Bx.refl' (g β : Nat) (w : World) : Bx g β w w := ⟨rfl, rfl, rfl, Nat.le_refl _, fun _ _ _ => rfl⟩
theorem Bx.trans {g β : Nat} {a b c : World} (h : Bx g β a b) (k : Bx g β b c) : Bx g β a c := ⟨k.os.trans h.os, k.tape.trans h.tape, k.output.trans h.output, Nat.le_trans h.size k.size, fun i hi hg => (k.block i hi hg).trans (h.block i hi hg)⟩
theorem bx_drewN (g β : Nat) (w : World) (k : Nat) : Bx g β w (w.drewN k) := ⟨rfl, rfl, rfl, Nat.le_refl _, fun _ _ _ => rfl⟩
theorem Bx.setG {g β : Nat} {a w : World} (h : Bx g β a w) {o : Nat} (u : Value) : Bx g β a (w.setCell ⟨g, o, none⟩ u) :=
  h.trans ⟨rfl, rfl, rfl, by simp [World.setCell], fun k hk hg => Below.heap_setCell _ _ _ _ (by show k ≠ g; exact hg)⟩
theorem Bx.setCell {g β : Nat} {a w : World} (h : Bx g β a w) {p : Addr} (hp : β ≤ p.block) (u : Value) : Bx g β a (w.setCell p u) :=
  h.trans ⟨rfl, rfl, rfl, by simp [World.setCell], fun k hk hg => Below.heap_setCell _ _ _ _ (by omega)⟩
theorem Bx.alloc {g β : Nat} {a w : World} (h : Bx g β a w) (hB : β ≤ w.heap.size) (o : Obj) : Bx g β a (w.alloc o) :=
  h.trans ⟨rfl, rfl, rfl, by simp, fun k hk hg => Below.heap_alloc _ _ _ (by omega)⟩
theorem Bx.grown {g β : Nat} {a w w' : World} {row : Option Nat} (h : Bx g β a w) (hg : w.grownBy w' row) (hB : β ≤ w.heap.size) (hr : ∀ k, row = some k → β ≤ k) : Bx g β a w' :=
  h.trans ⟨hg.os, hg.tape, hg.output, hg.size, fun k hk hk2 => hg.block k (by omega) (fun e => by have := hr k e.symm; omega)⟩
theorem Bx.of {g β : Nat} {w w' : World} (hb : Below w.heap.size w w') (h : β ≤ w.heap.size) : Bx g β w w' := ⟨hb.os, hb.tape, hb.output, hb.size, fun k hk _ => hb.block k (by omega)⟩
theorem Bx.low {g β : Nat} {w w' : World} (h : Bx g β w w') {B : Nat} (h1 : B ≤ g) (h2 : g < β) : Below B w w' := ⟨h.os, h.tape, h.output, h.size, fun k hk => h.block k (by omega) (by omega)⟩
theorem ut_bx {g β : Nat} {w w' : World} (h : UT g w) (hb : Bx g β w w') (hg : g < β) : UT g w' := h.below (hb.low (Nat.le_refl _) hg)
structure Fm (w : World) (g β : Nat) (L : Lm) (ro : Int) (T : List UInt8) (l : List Am) (G : List Fr) (vT vN vS : Value) (c : List Value) : Prop where
  at0 : At w g 0 (.int .i64 (L.depth : Int) :: .int .i64 (L.items : Int) :: .int .i64 (L.bytes : Int) :: .int .i64 ro :: vT :: vN :: vS :: c)
  text : w.ownsRow β 5 1 vT T.length (bcells T)
  nodes : w.ownsRow β 75 3 vN l.length (rcells (l.map up))
  stack : w.ownsRow β 89 6 vS G.length (hcells G)
  gb : g < β
  bs : β ≤ w.heap.size
section
variable {w w' : World} {g β : Nat} {L : Lm} {ro : Int} {T : List UInt8} {l : List Am} {G : List Fr} {vT vN vS : Value} {c : List Value} {t : Fr}
theorem Fm.lt (h : Fm w g β L ro T l G vT vN vS c) : g < w.heap.size := Nat.lt_of_lt_of_le h.gb h.bs
theorem set_size (w : World) (a : Addr) (u : Value) : (w.setCell a u).heap.size = w.heap.size := by simp [World.setCell]
theorem Fm.drewN (h : Fm w g β L ro T l G vT vN vS c) (k : Nat) : Fm (w.drewN k) g β L ro T l G vT vN vS c := ⟨h.at0.drewN k, own_drewN h.text k, own_drewN h.nodes k, own_drewN h.stack k, h.gb, h.bs⟩
theorem Fm.set (h : Fm w g β L ro T l G vT vN vS c) (j : Nat) (u : Value) : Fm (w.setCell ⟨g, 7 + j, none⟩ u) g β L ro T l G vT vN vS (c.set j u) := by
  have h1 := h.at0.set (7 + j) u
  rw [Nat.zero_add] at h1
  refine ⟨?_, ownsRow_setCell_below h.text (h.gb) _, ownsRow_setCell_below h.nodes (h.gb) _, ownsRow_setCell_below h.stack (h.gb) _, h.gb, by rw [set_size]; exact h.bs⟩
  rw [show 7 + j = j + 1 + 1 + 1 + 1 + 1 + 1 + 1 by omega] at h1 ⊢
  exact h1
theorem u8_ne_node : (5 : Nat) ≠ 75 := by decide
theorem u8_ne_begun : (5 : Nat) ≠ 89 := by decide
theorem node_ne_begun : (75 : Nat) ≠ 89 := by decide
theorem apart_of {v u : Value} (h : v.ownBlock = none ∨ v.ownBlock ≠ u.ownBlock) {k : Nat} (hk : u.ownBlock = some k) : v.ownBlock ≠ some k := by
  rcases h with h | h
  · rw [h]; exact fun e => by cases e
  · rw [← hk]; exact h
theorem Fm.alloc (h : Fm w g β L ro T l G vT vN vS c) (o : Obj) : Fm (w.alloc o) g β L ro T l G vT vN vS c :=
  ⟨h.at0.alloc o, h.text.alloc o, h.nodes.alloc o, h.stack.alloc o, h.gb, by simp; have := h.bs; omega⟩
theorem Fm.below (h : Fm w g β L ro T l G vT vN vS c) (hb : Below w.heap.size w w') : Fm w' g β L ro T l G vT vN vS c :=
  ⟨h.at0.below hb h.lt, own_below h.text hb (Nat.le_refl _), own_below h.nodes hb (Nat.le_refl _), own_below h.stack hb (Nat.le_refl _), h.gb, Nat.le_trans h.bs hb.size⟩
/-- the text's block, whole -/
theorem Fm.bytes (h : Fm w g β L ro T l G vT vN vS c) : ∃ a cap, vT = .slice a T.length cap ∧ T.length ≤ cap ∧ (0 < T.length → ∃ k, a = some ⟨k, 0, none⟩ ∧ β ≤ k ∧ At w k 0 (bcells T)) := by
  rcases h.text.2 with ⟨h1, h2⟩ | ⟨k, cap, cur, h1, h2, h3, h4, h5, h6, h7⟩
  · exact ⟨none, 0, by rw [h1, h2], by omega, fun h0 => by omega⟩
  · refine ⟨_, cap, h1, h4, fun _ => ⟨k, rfl, h2, ?_⟩⟩
    have h8 := h.text
    rw [h1] at h8
    exact At.ofOwnN h8
theorem Fm.top (h : Fm w g β L ro T l (t :: G) vT vN vS c) : ∃ k cap, vS = .slice (some ⟨k, 0, none⟩) (G.length + 1) cap ∧ G.length + 1 ≤ cap ∧ β ≤ k ∧ At w k (G.length * 6) (hv t) := by
  rcases h.stack.2 with ⟨_, h2⟩ | ⟨k, cap, cur, h1, h2, h3, h4, h5, h6, h7⟩
  · cases h2
  refine ⟨k, cap, h1, h4, h2, ?_⟩
  have h8 := h.stack
  rw [h1] at h8
  have h9 := At.ofOwnN h8
  rw [hcells_cons] at h9
  have h10 := At.sub (a := hcells G) (b := hv t) (c := []) (by rw [List.append_nil]; exact h9)
  rw [hcells_length, Nat.zero_add, Nat.mul_comm] at h10
  exact h10
theorem rv_get (l : List Am) (i : Nat) (hi : i < l.length) : ∃ A B, rcells (l.map up) = A ++ rv (up (l.getD i ⟨0, 0, []⟩)) ++ B ∧ A.length = i * 3 := by
  refine ⟨rcells ((l.take i).map up), rcells ((l.drop (i + 1)).map up), ?_, ?_⟩
  · rw [show rv (up (l.getD i ⟨0, 0, []⟩)) = rcells ([l.getD i ⟨0, 0, []⟩].map up) by simp [rcells], ← rcells_append, ← rcells_append, ← List.map_append, ← List.map_append]
    congr 2
    rw [List.getD, List.getElem?_eq_getElem hi, Option.getD_some, List.append_assoc, List.singleton_append, ← List.drop_eq_getElem_cons hi, List.take_append_drop]
  · rw [rcells_length, List.length_map, List.length_take, Nat.min_eq_left (by omega), Nat.mul_comm]
theorem Fm.node (h : Fm w g β L ro T l G vT vN vS c) (i : Nat) (hi : i < l.length) : ∃ k cap, vN = .slice (some ⟨k, 0, none⟩) l.length cap ∧ β ≤ k ∧ At w k (i * 3) (rv (up (l.getD i ⟨0, 0, []⟩))) := by
  obtain ⟨a, c, hv, hg⟩ := own_form h.nodes
  obtain ⟨k, rfl⟩ := hg (by omega)
  have h0 := h.nodes
  rw [hv] at h0
  refine ⟨k, c, hv, (h0.lt k rfl).1, ?_⟩
  have h1 := At.ofOwnN h0
  obtain ⟨A, B, hAB, hA⟩ := rv_get l i hi
  rw [hAB] at h1
  have h2 := At.sub h1
  rw [hA, Nat.zero_add] at h2
  exact h2
/-- a cell of the topmost one that is begun is stored -/
theorem Fm.setTop (h : Fm w g β L ro T l (t :: G) vT vN vS c) {k cap n : Nat} (hk : vS = .slice (some ⟨k, 0, none⟩) (n + 1) cap) (hn : G.length = n) (j : Nat) (hj : j < 6) (u : Value) (t' : Fr) (ht : (hv t).set j u = hv t') :
    Fm (w.setCell ⟨k, n * 6 + j, none⟩ u) g β L ro T l (t' :: G) vT vN vS c := by
  subst hn
  have hb : vS.ownBlock = some k := by rw [hk]; rfl
  have hgb := h.gb
  have hgk := (h.stack.lt k hb).1
  have h8 := h.stack
  rw [hk] at h8
  have hs := (h8.stored (G.length * 6 + j) u).1
  refine ⟨h.at0.other k _ u (Or.inl (by omega)), ownsRow_setCell_other h.text (apart_of (own_ne h.text h.stack u8_ne_begun) hb) u, ownsRow_setCell_other h.nodes (apart_of (own_ne h.nodes h.stack node_ne_begun) hb) u, ?_, h.gb, by rw [set_size]; exact h.bs⟩
  have he : (hcells (t :: G)).set (G.length * 6 + j) u = hcells (t' :: G) := by
    rw [hcells_cons, hcells_cons, List.set_append_right _ _ (by rw [hcells_length]; omega), hcells_length, show G.length * 6 + j - 6 * G.length = j by omega, ht]
  rw [he, ← hk] at hs
  exact hs
theorem rcells_set (l : List Am) (i j : Nat) (u : Value) (y : Am → Am) (hi : i < l.length) (hj : j < 3) (hy : (rv (up (l.getD i ⟨0, 0, []⟩))).set j u = rv (up (y (l.getD i ⟨0, 0, []⟩)))) : (rcells (l.map up)).set (i * 3 + j) u = rcells ((l.modify i y).map up) := by
  induction l generalizing i with
  | nil => exact absurd hi (Nat.not_lt_zero _)
  | cons x l ih =>
    cases i with
    | zero =>
      rw [Nat.zero_mul, Nat.zero_add, show (x :: l).modify 0 y = y x :: l from rfl, show rcells ((x :: l).map up) = rv (up x) ++ rcells (l.map up) from rfl, show rcells ((y x :: l).map up) = rv (up (y x)) ++ rcells (l.map up) from rfl, List.set_append_left _ _ (by show j < 3; exact hj)]
      rw [show ((x :: l).getD 0 ⟨0, 0, []⟩) = x from rfl] at hy
      rw [hy]
    | succ i =>
      rw [show (x :: l).modify (i + 1) y = x :: l.modify i y from rfl, show rcells ((x :: l).map up) = rv (up x) ++ rcells (l.map up) from rfl, show rcells ((x :: l.modify i y).map up) = rv (up x) ++ rcells ((l.modify i y).map up) from rfl, List.set_append_right _ _ (by show 3 ≤ _; omega), show (i + 1) * 3 + j - (rv (up x)).length = i * 3 + j by show _ - 3 = _; omega, ih i (by simpa using hi) (by simpa using hy)]
/-- a cell of a node is stored -/
theorem Fm.setNode (h : Fm w g β L ro T l G vT vN vS c) {k cap n : Nat} (hk : vN = .slice (some ⟨k, 0, none⟩) n cap) (hn : l.length = n) (i j : Nat) (hi : i < n) (hj : j < 3) (u : Value) (y : Am → Am) (hy : (rv (up (l.getD i ⟨0, 0, []⟩))).set j u = rv (up (y (l.getD i ⟨0, 0, []⟩)))) :
    Fm (w.setCell ⟨k, i * 3 + j, none⟩ u) g β L ro T (l.modify i y) G vT vN vS c := by
  subst hn
  have hb : vN.ownBlock = some k := by rw [hk]; rfl
  have hgb := h.gb
  have hgk := (h.nodes.lt k hb).1
  have h8 := h.nodes
  rw [hk] at h8
  have hs := (h8.stored (i * 3 + j) u).1
  rw [rcells_set l i j u y hi hj hy, ← hk] at hs
  refine ⟨h.at0.other k _ u (Or.inl (by omega)), ownsRow_setCell_other h.text (apart_of (own_ne h.text h.nodes u8_ne_node) hb) u, ?_, ownsRow_setCell_other h.stack (apart_of (own_ne h.stack h.nodes (Ne.symm node_ne_begun)) hb) u, h.gb, by rw [set_size]; exact h.bs⟩
  rw [List.length_modify]
  exact hs
/-- a row has grown -/
theorem Fm.growT (h : Fm w g β L ro T l G vT vN vS c) {T' : List UInt8} {v' : Value} (hg : w.grownBy w' vT.ownBlock) (ho : w'.ownsRow β 5 1 v' T'.length (bcells T')) :
    Fm (w'.setCell ⟨g, 4, none⟩ v') g β L ro T' l G v' vN vS c := by
  have hlt := h.lt
  have h1 := h.at0.grown hg hlt (fun e => by have := (h.text.lt g e).1; have := h.gb; omega)
  exact ⟨h1.set 4 v', ownsRow_setCell_below ho (h.gb) _, ownsRow_setCell_below (h.nodes.kept hg (own_ne h.nodes h.text (Ne.symm u8_ne_node))) (h.gb) _, ownsRow_setCell_below (h.stack.kept hg (own_ne h.stack h.text (Ne.symm u8_ne_begun))) (h.gb) _, h.gb, by
    rw [set_size]; exact Nat.le_trans h.bs hg.size⟩
theorem Fm.growN (h : Fm w g β L ro T l G vT vN vS c) {l' : List Am} {v' : Value} (hg : w.grownBy w' vN.ownBlock) (ho : w'.ownsRow β 75 3 v' l'.length (rcells (l'.map up))) :
    Fm (w'.setCell ⟨g, 5, none⟩ v') g β L ro T l' G vT v' vS c := by
  have hlt := h.lt
  have h1 := h.at0.grown hg hlt (fun e => by have := (h.nodes.lt g e).1; have := h.gb; omega)
  exact ⟨h1.set 5 v', ownsRow_setCell_below (h.text.kept hg (own_ne h.text h.nodes u8_ne_node)) (h.gb) _, ownsRow_setCell_below ho (h.gb) _, ownsRow_setCell_below (h.stack.kept hg (own_ne h.stack h.nodes (Ne.symm node_ne_begun))) (h.gb) _, h.gb, by
    rw [set_size]; exact Nat.le_trans h.bs hg.size⟩
theorem Fm.growS (h : Fm w g β L ro T l G vT vN vS c) {G' : List Fr} {v' : Value} (hg : w.grownBy w' vS.ownBlock) (ho : w'.ownsRow β 89 6 v' G'.length (hcells G')) :
    Fm (w'.setCell ⟨g, 6, none⟩ v') g β L ro T l G' vT vN v' c := by
  have hlt := h.lt
  have h1 := h.at0.grown hg hlt (fun e => by have := (h.stack.lt g e).1; have := h.gb; omega)
  exact ⟨h1.set 6 v', ownsRow_setCell_below (h.text.kept hg (own_ne h.text h.stack u8_ne_begun)) (h.gb) _, ownsRow_setCell_below (h.nodes.kept hg (own_ne h.nodes h.stack node_ne_begun)) (h.gb) _, ownsRow_setCell_below ho (h.gb) _, h.gb, by
    rw [set_size]; exact Nat.le_trans h.bs hg.size⟩
/-- the topmost one is let go -/
theorem Fm.pop (h : Fm w g β L ro T l (t :: G) vT vN vS c) {k cap n : Nat} (hk : vS = .slice (some ⟨k, 0, none⟩) (n + 1) cap) (hn : G.length = n) :
    Fm (w.setCell ⟨g, 6, none⟩ (.slice (some ⟨k, 0, none⟩) n cap)) g β L ro T l G vT vN (.slice (some ⟨k, 0, none⟩) n cap) c := by
  subst hn
  have h8 := h.stack
  rw [hk] at h8
  have h9 := own_takeF h8 (m := G.length) (by omega) (by omega)
  rw [hcells_cons, List.take_left' (by rw [hcells_length, Nat.mul_comm])] at h9
  exact ⟨h.at0.set 6 _, ownsRow_setCell_below h.text (h.gb) _, ownsRow_setCell_below h.nodes (h.gb) _, ownsRow_setCell_below h9 (h.gb) _, h.gb, by rw [set_size]; exact h.bs⟩
end
theorem conv_at {w : World} {k o : Nat} {A : List UInt8} (h : At w k o (bcells A)) (n c : Nat) (hn : A.length = n) :
    (convert 42 9 (.slice (some ⟨k, o, none⟩) n c)).run Tryd.prog w = .ok (.string ⟨A.toArray⟩) w := by
  subst hn
  refine run_convert_bytes_back w 42 9 5 ⟨k, o, none⟩ c A Tryd.underlying42 Tryd.underlying5 Tryd.underlying9 fun j hj => ?_
  have h1 := (h j _ (bcells_get A j hj)).1
  unfold Addr.add
  split
  · rename_i h0; subst h0; exact h1
  · exact h1
/-- a feed in memory -/
def FmS (w : World) (g β : Nat) (L : Lm) (ro : Int) (f : Fs) (vT vN vS : Value) : Prop := Fm w g β L ro f.T f.l f.G vT vN vS (cs f)
def RF (f : Fs) (g β : Nat) (L : Lm) (ro : Int) (w : World) (e : Ending) (w' : World) : Prop := e = .returned (.tuple #[]) ∧ ∃ vT vN vS, Hid (FmS w' g β L ro f vT vN vS) ∧ Hid (Bx g β w w')
theorem RF.of {R f : Fs} {g β : Nat} {L : Lm} {ro : Int} {w w' : World} {vT vN vS : Value} (hR : Hid (R = f)) (h : Hid (FmS w' g β L ro f vT vN vS)) (hb : Hid (Bx g β w w')) : RF R g β L ro w (.returned (.tuple #[])) w' := by
  have h1 := hR.out
  subst h1
  exact ⟨rfl, _, _, _, h, hb⟩
set_option maxRecDepth 100000 in
set_option maxHeartbeats 1600000 in
theorem ffault_any (w : World) (g β : Nat) (L : Lm) (ro : Int) (f : Fs) (vT vN vS : Value) (h : FmS w g β L ro f vT vN vS) (e : Int) (p : Nat) (z : Int) (hz : (p : Int) = z) :
    Calls Tryd.prog 40 #[.pointer (some ⟨g, 0, none⟩), .int .i64 e, .int .i64 z] w (fun x w' => x = .returned (.tuple #[]) ∧ Hid (FmS w' g β L ro (f.fault e p) vT vN vS) ∧ Hid (Bx g β w w')) := by
  have hgb : g < β := h.gb
  subst hz
  have HF : Hid (FmS ((w.setCell ⟨g, 8, none⟩ (.int .i64 e)).setCell ⟨g, 9, none⟩ (.int .i64 (p : Int))) g β L ro (f.fault e p) vT vN vS) := (h.set 1 (.int .i64 e)).set 2 (.int .i64 (p : Int))
  have HB : Hid (Bx g β w ((w.setCell ⟨g, 8, none⟩ (.int .i64 e)).setCell ⟨g, 9, none⟩ (.int .i64 (p : Int)))) := ((Bx.refl' g β w).setG _).setG _
  have h9 := h.at0.cell 8 _ rfl
  have h10 := h.at0.cell 9 _ rfl
  have f9 := h.at0.froz 8 (by show 8 < 14; decide)
  have f10 := h.at0.froz 9 (by show 9 < 14; decide)
  clear h
  go_enter Tryd.func40, Tryd.ntmps40
  go_wp2_with fail
  first | go_end0 | refine bodyPost_ret (results_none rfl _ _ _) rfl ?_
  exact ⟨rfl, HF, HB⟩
set_option maxRecDepth 100000 in
theorem none_any (w : World) (g β : Nat) (L : Lm) (ro : Int) (f : Fs) (vT vN vS : Value) (h : FmS w g β L ro f vT vN vS) (hd : 0 < L.depth) :
    Calls Tryd.prog 39 #[.pointer (some ⟨g, 0, none⟩)] w (fun x w' => x = .returned (.bool false) ∧ w = w') := by
  have hgb : g < β := h.gb
  have h7 := h.at0.cell 0 _ rfl
  rw [Nat.zero_add] at h7
  have hq : ((L.depth : Int) == 0) = false := by rw [beq_eq_false_iff_ne]; omega
  clear h
  go_enter Tryd.func39, Tryd.ntmps39
  go_wp2_with fail
  go_ret
  exact ⟨rfl, rfl⟩
end Cf
end Go.Proofs.YteanipjgpekncaaDoor
