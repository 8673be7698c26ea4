/- A feed of values in memory (layer 19). -/
import Derived.Test.YtilfidcomeandaaJsW
import Derived.Test.YtilfidcomeandaaJfP
import Derived.Test.YtilfidcomeandaaJtK
namespace Go.Proofs.Ytilfidcomeandaa
open Go.RowKit
set_option linter.unusedVariables false
set_option linter.unusedSimpArgs false
namespace Jf
open Js
open Dr (Rs Lm has lack)
theorem own_takeF {w : World} {B e size n m cap : Nat} {a : Option Addr} {xs : List Value} (h : w.ownsRow B e size (.slice a n cap) n xs) (hm : m ≤ n) (h0 : 0 < n) : w.ownsRow B e size (.slice a m cap) m (xs.take (m * size)) := by
  obtain ⟨hl, h⟩ := h
  have hms : m * size ≤ n * size := Nat.mul_le_mul_right _ hm
  refine ⟨by rw [List.length_take]; omega, ?_⟩
  rcases h with ⟨h1, h2⟩ | ⟨g, cap', cur, h1, h2, h3, h4, h5, h6, h7⟩
  · omega
  · cases h1
    refine .inr ⟨g, cap, cur, rfl, h2, h3, by omega, h5, h6, ?_⟩
    rw [← h7, List.take_take, Nat.min_eq_left hms]
/-- all blocks below beta but g are as they were -/
structure Bx (g β : Nat) (w w' : World) : Prop where
  os : w'.os = w.os
  tape : w'.tape = w.tape
  output : w'.output = w.output
  size : w.heap.size ≤ w'.heap.size
  block : ∀ k, k < β → k ≠ g → w'.heap[k]? = w.heap[k]?
theorem Bx.refl' (g β : Nat) (w : World) : Bx g β w w := ⟨rfl, rfl, rfl, Nat.le_refl _, fun _ _ _ => rfl⟩
theorem Bx.trans {g β : Nat} {a b c : World} (h : Bx g β a b) (k : Bx g β b c) : Bx g β a c := ⟨k.os.trans h.os, k.tape.trans h.tape, k.output.trans h.output, Nat.le_trans h.size k.size, fun i hi hg => (k.block i hi hg).trans (h.block i hi hg)⟩
theorem bx_drewN (g β : Nat) (w : World) (k : Nat) : Bx g β w (w.drewN k) := ⟨rfl, rfl, rfl, Nat.le_refl _, fun _ _ _ => rfl⟩
theorem Bx.setG {g β : Nat} {a w : World} (h : Bx g β a w) {o : Nat} (u : Value) : Bx g β a (w.setCell ⟨g, o, none⟩ u) :=
  h.trans ⟨rfl, rfl, rfl, by simp [World.setCell], fun k hk hg => Below.heap_setCell _ _ _ _ (by show k ≠ g; exact hg)⟩
theorem Bx.setCell {g β : Nat} {a w : World} (h : Bx g β a w) {p : Addr} (hp : β ≤ p.block) (u : Value) : Bx g β a (w.setCell p u) :=
  h.trans ⟨rfl, rfl, rfl, by simp [World.setCell], fun k hk hg => Below.heap_setCell _ _ _ _ (by omega)⟩
theorem Bx.alloc {g β : Nat} {a w : World} (h : Bx g β a w) (hB : β ≤ w.heap.size) (o : Obj) : Bx g β a (w.alloc o) :=
  h.trans ⟨rfl, rfl, rfl, by simp, fun k hk hg => Below.heap_alloc _ _ _ (by omega)⟩
theorem Bx.grown {g β : Nat} {a w w' : World} {row : Option Nat} (h : Bx g β a w) (hg : w.grownBy w' row) (hB : β ≤ w.heap.size) (hr : ∀ k, row = some k → β ≤ k) : Bx g β a w' :=
  h.trans ⟨hg.os, hg.tape, hg.output, hg.size, fun k hk hk2 => hg.block k (by omega) (fun e => by have := hr k e.symm; omega)⟩
theorem Bx.of {g β : Nat} {w w' : World} (hb : Below w.heap.size w w') (h : β ≤ w.heap.size) : Bx g β w w' := ⟨hb.os, hb.tape, hb.output, hb.size, fun k hk _ => hb.block k (by omega)⟩
theorem Bx.tk {g β a : Nat} {w w' : World} (h : Tk a w w') (hb : β ≤ a) : Bx g β w w' := ⟨h.below.os, h.below.tape, h.below.output, h.below.size, fun k hk _ => h.below.block k (by omega)⟩
/-- a store, as a change of one block -/
theorem grown_set (w : World) (a : Addr) (u : Value) : w.grownBy (w.setCell a u) (some a.block) := ⟨rfl, rfl, rfl, by simp [World.setCell], fun k hk hne => Below.heap_setCell _ _ _ _ (fun e => hne (by rw [e]))⟩
/-- a block that is no row of values nor of what is begun -/
def NotT (w : World) (a : Nat) : Prop := (∀ cur, w.heap[a]? ≠ some (.cells cur 62 (0, 0))) ∧ (∀ cur, w.heap[a]? ≠ some (.cells cur 94 (0, 0)))
/-- a block of the feed's own, but for what is at hand -/
def Oth (w : World) (β q : Nat) : Prop :=
  q < β ∨ (∃ es clock, w.heap[q]? = some (.map es clock)) ∨ (∃ cur, w.heap[q]? = some (.cells cur 62 (0, 0))) ∨ (∃ cur, w.heap[q]? = some (.cells cur 94 (0, 0)))
/-- what is at hand, in memory: the interface's value -/
def HandM (w : World) (β : Nat) : Hd → Value → Prop
  | .none, v => v = .nilIface
  | .word r, v => ∃ a, v = .iface 114 (.pointer (some ⟨a, 0, none⟩)) ∧ At w a 0 [.string (str r)] ∧ β ≤ a ∧ NotT w a
  | .num wv t, v => ∃ a vT, v = .iface 84 (.pointer (some ⟨a, 0, none⟩)) ∧ Nm w a wv t vT ∧ β ≤ a ∧ NotT w a
  | .str x, v => ∃ a, v = .iface 91 (.pointer (some ⟨a, 0, none⟩)) ∧ StrM w a x ∧ β ≤ a ∧ NotT w a
theorem at_obj {w : World} {g o : Nat} {c : Value} {cs : List Value} (h : At w g o (c :: cs)) : ∃ cur e fr, w.heap[g]? = some (.cells cur e fr) := by
  have h1 := (h 0 c rfl).1
  unfold World.cell? at h1
  cases hb : w.heap[g]? with
  | none => simp only [hb] at h1; cases h1
  | some o =>
    simp only [hb] at h1
    cases o <;> first | exact ⟨_, _, _, rfl⟩ | (cases h1; done)
theorem oth_at {w : World} {β q a : Nat} {c : Value} {cs : List Value} (h : Oth w β q) (hA : At w a 0 (c :: cs)) (hb : β ≤ a) (hn : NotT w a) : a ≠ q := by
  intro e
  subst e
  rcases h with h | ⟨es, k, h⟩ | ⟨cur, h⟩ | ⟨cur, h⟩
  · omega
  · obtain ⟨cur, e, fr, h1⟩ := at_obj hA
    rw [h] at h1; cases h1
  · exact hn.1 _ h
  · exact hn.2 _ h
theorem oth_text {w : World} {β q B n : Nat} {v : Value} {xs : List Value} (h : Oth w β q) (ho : w.ownsRow B 5 1 v n xs) (hb : β ≤ B) : v.ownBlock = none ∨ v.ownBlock ≠ some q := by
  rcases ho.2 with ⟨rfl, _⟩ | ⟨g, cap, cur, rfl, h1, h2, _⟩
  · exact .inl rfl
  · refine .inr fun e => ?_
    have h3 : g = q := by simpa [Value.ownBlock] using e
    subst h3
    rcases h with h | ⟨es, k, h⟩ | ⟨cur, h⟩ | ⟨cur, h⟩
    · omega
    · rw [h] at h2; cases h2
    · rw [h] at h2; injection h2 with h2; injection h2 with _ h2; exact absurd h2 (by decide)
    · rw [h] at h2; injection h2 with h2; injection h2 with _ h2; exact absurd h2 (by decide)
theorem NotT.same {w w' : World} {a : Nat} (h : NotT w a) (hs : w'.heap[a]? = w.heap[a]?) : NotT w' a := ⟨fun cur => by rw [hs]; exact h.1 cur, fun cur => by rw [hs]; exact h.2 cur⟩
theorem NotT.grown {w w' : World} {a : Nat} {row : Option Nat} (h : NotT w a) (hg : w.grownBy w' row) (hl : a < w.heap.size) (hne : row ≠ some a) : NotT w' a := h.same (hg.block a hl (fun e => hne e.symm))
theorem HandM.kept {w w' : World} {β : Nat} {hd : Hd} {v : Value} {row : Option Nat} (h : HandM w β hd v) (hg : w.grownBy w' row) (hr : ∀ q, row = some q → Oth w β q) : HandM w' β hd v := by
  cases hd with
  | none => exact h
  | word r =>
    obtain ⟨a, rfl, hA, hb, hn⟩ := h
    have hl := hA.lt (by simp)
    have hne : row ≠ some a := fun e => oth_at (hr a e) hA hb hn rfl
    exact ⟨a, rfl, hA.grown hg hl hne, hb, hn.grown hg hl hne⟩
  | num wv t =>
    obtain ⟨a, vT, rfl, hN, hb, hn⟩ := h
    have hl := hN.lt
    have hne : row ≠ some a := fun e => oth_at (hr a e) hN.at0 hb hn rfl
    refine ⟨a, vT, rfl, ⟨hN.at0.grown hg hl hne, hN.text.kept hg ?_⟩, hb, hn.grown hg hl hne⟩
    cases row with
    | none => cases hv : vT.ownBlock <;> simp
    | some q => exact oth_text (hr q rfl) hN.text (by omega)
  | str x =>
    obtain ⟨a, rfl, ⟨wh, vT, left, num, half, low, high, hx, hw⟩, hb, hn⟩ := h
    have hl := hx.lt
    have hne : row ≠ some a := fun e => oth_at (hr a e) hx.at0 hb hn rfl
    refine ⟨a, rfl, ⟨wh, vT, left, num, half, low, high, ⟨hx.at0.grown hg hl hne, hx.text.kept hg ?_⟩, hw⟩, hb, hn.grown hg hl hne⟩
    cases row with
    | none => cases hv : vT.ownBlock <;> simp
    | some q => exact oth_text (hr q rfl) hx.text (by omega)
theorem HandM.drewN {w : World} {β : Nat} {hd : Hd} {v : Value} (h : HandM w β hd v) (k : Nat) : HandM (w.drewN k) β hd v := by
  cases hd with
  | none => exact h
  | word r => exact h
  | num wv t =>
    obtain ⟨a, vT, rfl, hN, h2⟩ := h
    exact ⟨a, vT, rfl, ⟨hN.at0.drewN k, own_drewN hN.text k⟩, h2⟩
  | str x =>
    obtain ⟨a, rfl, ⟨wh, vT, left, num, half, low, high, hx, hw⟩, h2⟩ := h
    exact ⟨a, rfl, ⟨wh, vT, left, num, half, low, high, ⟨hx.at0.drewN k, own_drewN hx.text k⟩, hw⟩, h2⟩
/-- a feed's cells -/
def jc (L : Lm) (ro : Int) (k : Nat) (vV vS : Value) (nx : Nat) (vH : Value) (nm : Bool) (a e pl : Int) : List Value :=
  [.int .i64 (L.depth : Int), .int .i64 (L.items : Int), .int .i64 (L.bytes : Int), .int .i64 ro, .int .i64 (k : Int), vV, vS, .int .i64 (nx : Int), vH, .bool nm, .int .i64 a, .int .i64 e, .int .i64 pl]
structure Jm (w : World) (g β : Nat) (L : Lm) (ro : Int) (k : Nat) (l : List Vl) (G : List Fr) (B : List (Option Nat)) (hd : Hd) (vV vS vH : Value) (nx : Nat) (nm : Bool) (a e pl : Int) : Prop where
  at0 : At w g 0 (jc L ro k vV vS nx vH nm a e pl)
  vals : w.ownsRow β 62 3 vV l.length (vcells l)
  stack : w.ownsRow β 94 2 vS G.length (gcells G B)
  maps : Ms w β G B
  hand : HandM w β hd vH
  gb : g < β
  bs : β ≤ w.heap.size
theorem val_ne_begun : (62 : Nat) ≠ 94 := by decide
theorem ne_none {v : Value} : v.ownBlock = none ∨ v.ownBlock ≠ none := by cases h : v.ownBlock <;> simp
section
variable {w w' : World} {g β : Nat} {L : Lm} {ro : Int} {k : Nat} {l : List Vl} {G : List Fr} {B : List (Option Nat)} {hd : Hd} {vV vS vH : Value} {nx : Nat} {nm : Bool} {a e pl : Int} {t : Fr}
theorem Jm.lt (h : Jm w g β L ro k l G B hd vV vS vH nx nm a e pl) : g < w.heap.size := Nat.lt_of_lt_of_le h.gb h.bs
theorem Jm.drewN (h : Jm w g β L ro k l G B hd vV vS vH nx nm a e pl) (n : Nat) : Jm (w.drewN n) g β L ro k l G B hd vV vS vH nx nm a e pl :=
  ⟨h.at0.drewN n, own_drewN h.vals n, own_drewN h.stack n, h.maps.same (fun _ _ _ _ => rfl), h.hand.drewN n, h.gb, h.bs⟩
theorem Jm.othV (h : Jm w g β L ro k l G B hd vV vS vH nx nm a e pl) : ∀ q, vV.ownBlock = some q → Oth w β q := fun q hq => by
  rcases h.vals.2 with ⟨rfl, _⟩ | ⟨b, cap, cur, rfl, h1, h2, _⟩
  · cases hq
  · obtain rfl : b = q := by simpa [Value.ownBlock] using hq
    exact .inr (.inr (.inl ⟨cur, h2⟩))
theorem Jm.othS (h : Jm w g β L ro k l G B hd vV vS vH nx nm a e pl) : ∀ q, vS.ownBlock = some q → Oth w β q := fun q hq => by
  rcases h.stack.2 with ⟨rfl, _⟩ | ⟨b, cap, cur, rfl, h1, h2, _⟩
  · cases hq
  · obtain rfl : b = q := by simpa [Value.ownBlock] using hq
    exact .inr (.inr (.inr ⟨cur, h2⟩))
/-- a cell of the feed's own is stored -/
theorem Jm.set (h : Jm w g β L ro k l G B hd vV vS vH nx nm a e pl) (j : Nat) (u : Value) {k' nx' : Nat} {nm' : Bool} {a' e' pl' : Int}
    (he : (jc L ro k vV vS nx vH nm a e pl).set j u = jc L ro k' vV vS nx' vH nm' a' e' pl') : Jm (w.setCell ⟨g, j, none⟩ u) g β L ro k' l G B hd vV vS vH nx' nm' a' e' pl' := by
  have h1 := h.at0.set j u
  rw [Nat.zero_add, he] at h1
  exact ⟨h1, ownsRow_setCell_below h.vals h.gb _, ownsRow_setCell_below h.stack h.gb _, h.maps.kept (grown_set w ⟨g, j, none⟩ u) (fun b xs hb hm => by rintro ⟨⟩; exact hm.ne_at h.at0 rfl), h.hand.kept (grown_set w ⟨g, j, none⟩ u) (fun q hq => by cases hq; exact .inl h.gb), h.gb, by rw [set_size]; exact h.bs⟩
/-- what is at hand is stored -/
theorem Jm.setHand (h : Jm w g β L ro k l G B hd vV vS vH nx nm a e pl) {hd' : Hd} {u : Value} (hH : HandM w β hd' u) : Jm (w.setCell ⟨g, 8, none⟩ u) g β L ro k l G B hd' vV vS u nx nm a e pl := by
  have h1 := h.at0.set 8 u
  rw [Nat.zero_add] at h1
  exact ⟨h1, ownsRow_setCell_below h.vals h.gb _, ownsRow_setCell_below h.stack h.gb _, h.maps.kept (grown_set w ⟨g, 8, none⟩ u) (fun b xs hb hm => by rintro ⟨⟩; exact hm.ne_at h.at0 rfl), hH.kept (grown_set w ⟨g, 8, none⟩ u) (fun q hq => by cases hq; exact .inl h.gb), h.gb, by rw [set_size]; exact h.bs⟩
theorem Jm.alloc (h : Jm w g β L ro k l G B hd vV vS vH nx nm a e pl) (o : Obj) : Jm (w.alloc o) g β L ro k l G B hd vV vS vH nx nm a e pl :=
  ⟨h.at0.alloc o, h.vals.alloc o, h.stack.alloc o, h.maps.kept (World.grownBy_alloc w o none) (fun _ _ _ _ => by simp), h.hand.kept (World.grownBy_alloc w o none) (fun q hq => by cases hq), h.gb, by simp; have := h.bs; omega⟩
/-- the row of values has grown -/
theorem Jm.growV (h : Jm w g β L ro k l G B hd vV vS vH nx nm a e pl) {l' : List Vl} {v' : Value} (hg : w.grownBy w' vV.ownBlock) (ho : w'.ownsRow β 62 3 v' l'.length (vcells l')) :
    Jm (w'.setCell ⟨g, 5, none⟩ v') g β L ro k l' G B hd v' vS vH nx nm a e pl := by
  have hlt := h.lt
  have h1 := h.at0.grown hg hlt (fun e => by have := (h.vals.lt g e).1; have := h.gb; omega)
  have h2 := h.maps.kept hg (fun b xs hb hm => hm.ne_row h.vals)
  have h3 := h.hand.kept hg h.othV
  have h4 := h.stack.kept hg (own_ne h.stack h.vals (Ne.symm val_ne_begun))
  have h5 := grown_set w' ⟨g, 5, none⟩ v'
  refine ⟨h1.set 5 v', ownsRow_setCell_below ho h.gb _, ownsRow_setCell_below h4 h.gb _, h2.kept h5 (fun b xs hb hm => by rintro ⟨⟩; exact hm.ne_at h1 rfl), h3.kept h5 (fun q hq => by cases hq; exact .inl h.gb), h.gb, by rw [set_size]; exact Nat.le_trans h.bs hg.size⟩
/-- the row of what is begun has grown -/
theorem Jm.growS (h : Jm w g β L ro k l G B hd vV vS vH nx nm a e pl) {G' : List Fr} {B' : List (Option Nat)} {v' : Value} (hg : w.grownBy w' vS.ownBlock) (ho : w'.ownsRow β 94 2 v' G'.length (gcells G' B')) (hm : Ms w' β G' B') :
    Jm (w'.setCell ⟨g, 6, none⟩ v') g β L ro k l G' B' hd vV v' vH nx nm a e pl := by
  have hlt := h.lt
  have h1 := h.at0.grown hg hlt (fun e => by have := (h.stack.lt g e).1; have := h.gb; omega)
  have h3 := h.hand.kept hg h.othS
  have h4 := h.vals.kept hg (own_ne h.vals h.stack val_ne_begun)
  have h5 := grown_set w' ⟨g, 6, none⟩ v'
  refine ⟨h1.set 6 v', ownsRow_setCell_below h4 h.gb _, ownsRow_setCell_below ho h.gb _, hm.kept h5 (fun b xs hb hm => by rintro ⟨⟩; exact hm.ne_at h1 rfl), h3.kept h5 (fun q hq => by cases hq; exact .inl h.gb), h.gb, by rw [set_size]; exact Nat.le_trans h.bs hg.size⟩
/-- the topmost one is let go -/
theorem Jm.pop {B : List (Option Nat)} {b : Option Nat} (h : Jm w g β L ro k l (t :: G) (b :: B) hd vV vS vH nx nm a e pl) {q cap n : Nat} (hk : vS = .slice (some ⟨q, 0, none⟩) (n + 1) cap) (hn : G.length = n) :
    Jm (w.setCell ⟨g, 6, none⟩ (.slice (some ⟨q, 0, none⟩) n cap)) g β L ro k l G B hd vV (.slice (some ⟨q, 0, none⟩) n cap) vH nx nm a e pl := by
  subst hn
  have h8 := h.stack
  rw [hk] at h8
  have h9 := own_takeF h8 (m := G.length) (by omega) (by omega)
  have hm := h.maps
  have hl : B.length = G.length := by have := hm.length; simpa using this
  rw [gcells_cons, List.take_left' (by rw [gcells_length hl, Nat.mul_comm])] at h9
  have hm2 : Ms w β G B := by cases hm <;> assumption
  exact ⟨h.at0.set 6 _, ownsRow_setCell_below h.vals h.gb _, ownsRow_setCell_below h9 h.gb _, hm2.kept (grown_set w ⟨g, 6, none⟩ _) (fun b xs hb hm => by rintro ⟨⟩; exact hm.ne_at h.at0 rfl), h.hand.kept (grown_set w ⟨g, 6, none⟩ _) (fun q hq => by cases hq; exact .inl h.gb), h.gb, by rw [set_size]; exact h.bs⟩
/-- the topmost one's cells -/
theorem Jm.top {B : List (Option Nat)} {b : Option Nat} (h : Jm w g β L ro k l (t :: G) (b :: B) hd vV vS vH nx nm a e pl) : ∃ q cap, vS = .slice (some ⟨q, 0, none⟩) (G.length + 1) cap ∧ G.length + 1 ≤ cap ∧ β ≤ q ∧ At w q (G.length * 2) [.int .i64 ((flat G t.b).length : Int), .map b] := by
  rcases h.stack.2 with ⟨_, h2⟩ | ⟨q, cap, cur, h1, h2, h3, h4, h5, h6, h7⟩
  · cases h2
  refine ⟨q, cap, h1, h4, h2, ?_⟩
  have h8 := h.stack
  rw [h1] at h8
  have h9 := At.ofOwnN h8
  have hl : B.length = G.length := by have := h.maps.length; simpa using this
  rw [gcells_cons] at h9
  have h10 := At.sub (a := gcells G B) (b := [.int .i64 ((flat G t.b).length : Int), .map b]) (c := []) (by rw [List.append_nil]; exact h9)
  rw [gcells_length hl, Nat.zero_add, Nat.mul_comm] at h10
  exact h10
/-- a value's cells -/
theorem Jm.value (h : Jm w g β L ro k l G B hd vV vS vH nx nm a e pl) (i : Nat) (hi : i < l.length) : ∃ q cap, vV = .slice (some ⟨q, 0, none⟩) l.length cap ∧ β ≤ q ∧ At w q (i * 3) (vv (l.getD i v0)) := by
  obtain ⟨a, c, hv, hg⟩ := own_form h.vals
  obtain ⟨q, rfl⟩ := hg (by omega)
  have h0 := h.vals
  rw [hv] at h0
  refine ⟨q, c, hv, (h0.lt q rfl).1, ?_⟩
  have h1 := value_at (At.ofOwnN h0) i hi
  rw [Nat.zero_add] at h1
  exact h1
theorem apart_of {v u : Value} (h : v.ownBlock = none ∨ v.ownBlock ≠ u.ownBlock) {k : Nat} (hk : u.ownBlock = some k) : v.ownBlock ≠ some k := by
  rcases h with h | h
  · rw [h]; exact fun e => by cases e
  · rw [← hk]; exact h
/-- a cell of a value is stored -/
theorem Jm.setVal (h : Jm w g β L ro k l G B hd vV vS vH nx nm a e pl) {q cap n : Nat} (hk : vV = .slice (some ⟨q, 0, none⟩) n cap) (hn : l.length = n) (i j : Nat) (hi : i < n) (hj : j < 3) (u : Value) (y : Vl → Vl) (hy : (vv (l.getD i v0)).set j u = vv (y (l.getD i v0))) :
    Jm (w.setCell ⟨q, i * 3 + j, none⟩ u) g β L ro k (l.modify i y) G B hd vV vS vH nx nm a e pl := by
  subst hn
  have hb : vV.ownBlock = some q := by rw [hk]; rfl
  have hgb := h.gb
  have hgk := (h.vals.lt q hb).1
  have h8 := h.vals
  rw [hk] at h8
  have hs := (h8.stored (i * 3 + j) u).1
  rw [vcells_set l i j u y hi hj hy, ← hk] at hs
  have h5 := grown_set w ⟨q, i * 3 + j, none⟩ u
  refine ⟨h.at0.other q _ u (Or.inl (by omega)), ?_, ownsRow_setCell_other h.stack (apart_of (own_ne h.stack h.vals (Ne.symm val_ne_begun)) hb) u, h.maps.kept h5 (fun b xs _ hm => by have := hm.ne_row h.vals; rw [hb] at this; exact this), h.hand.kept h5 (fun r hr => by cases hr; exact h.othV q hb), h.gb, by rw [set_size]; exact h.bs⟩
  rw [List.length_modify]
  exact hs
/-- a name is put to the topmost object -/
theorem Jm.name {B : List (Option Nat)} {b : Nat} {xs : List (List UInt8)} {x : List UInt8} (h : Jm w g β L ro k l (t :: G) (some b :: B) hd vV vS vH nx nm a e pl) (hg : w.grownBy w' (some b)) (hm : NamesM w' b (xs ++ [x])) (ho : t.o = some xs) :
    Jm w' g β L ro k l (addName x (t :: G)) (some b :: B) hd vV vS vH nx nm a e pl := by
  obtain ⟨ys, hm0, hob⟩ : ∃ ys, NamesM w b ys ∧ β ≤ b := by cases h.maps with | obj _ _ h1 h2 _ => exact ⟨_, h1, h2⟩
  have hlt := h.lt
  refine ⟨h.at0.grown hg hlt (by intro e; cases e; exact hm0.ne_at h.at0 rfl), h.vals.kept hg (.inr (hm0.ne_row h.vals).symm), ?_, h.maps.named hg hm ho, h.hand.kept hg (fun q hq => by cases hq; exact .inr (.inl hm0.obj)), h.gb, Nat.le_trans h.bs hg.size⟩
  rw [gcells_name, addName_length]
  exact h.stack.kept hg (.inr (hm0.ne_row h.stack).symm)
/-- what is at hand took a byte -/
theorem Jm.take (h : Jm w g β L ro k l G B hd vV vS vH nx nm a e pl) {b : Nat} {hd' : Hd} (ht : Tk b w w') (hb : β ≤ b) (hl : b < w.heap.size) (hn : NotT w b) (hob : ∃ c cs, At w b 0 (c :: cs)) (hH : HandM w' β hd' vH) : Jm w' g β L ro k l G B hd' vV vS vH nx nm a e pl := by
  have hgb := h.gb
  obtain ⟨c, cs, hc⟩ := hob
  have hrow : ∀ {E z n : Nat} {v : Value} {ys : List Value}, (E : Nat) ≠ 5 → (E = 62 ∨ E = 94) → w.ownsRow β E z v n ys → w'.ownsRow β E z v n ys := by
    intro E z n v ys hE hE2 ho
    refine own_same ho fun q hq => ?_
    rcases ho.2 with ⟨rfl, _⟩ | ⟨r, cap, cur, rfl, h1, h2, _⟩
    · cases hq
    · obtain rfl : r = q := by simpa [Value.ownBlock] using hq
      refine ht.other r (ho.lt r hq).2 (fun e => ?_) (fun cur' e => ?_)
      · subst e
        rcases hE2 with rfl | rfl
        · exact hn.1 _ h2
        · exact hn.2 _ h2
      · rw [h2] at e; injection e with e; injection e with _ e; exact hE e
  refine ⟨fun j u hu => ?_, hrow (by decide) (.inl rfl) h.vals, hrow (by decide) (.inr rfl) h.stack, h.maps.same (fun q xs hq hm => ?_), hH, h.gb, Nat.le_trans h.bs ht.size⟩
  · have h1 := h.at0.below ht.below (by omega)
    exact h1 j u hu
  · obtain ⟨es, ck, hm1⟩ := hm.obj
    refine ht.other q hm.lt (hm.ne_at hc) (fun cur e => ?_)
    rw [hm1] at e; cases e
end
/-- a feed that goes on, in memory; its maps' blocks -/
def FmB (w : World) (g β : Nat) (L : Lm) (ro : Int) (s : St) (k : Nat) (B : List (Option Nat)) : Prop := ∃ vV vS vH a, Jm w g β L ro k (flat s.G s.cur) s.G B s.hand vV vS vH s.nx s.named.isSome a 0 0 ∧ ∀ x, s.named = some x → a = (x : Int)
def FmS (w : World) (g β : Nat) (L : Lm) (ro : Int) (s : St) (k : Nat) : Prop := ∃ B, FmB w g β L ro s k B
/-- a feed with a fault, in memory -/
def DeadM (w : World) (g β : Nat) (L : Lm) (ro : Int) (e : Int) (q n k : Nat) : Prop :=
  ∃ vV c cap nx vH nm a, At w g 0 (jc L ro k vV (.slice c n cap) nx vH nm a e (q : Int)) ∧ g < β ∧ β ≤ w.heap.size
/-- what a step comes to -/
def RO (o : Out) (n : Nat) (g β : Nat) (L : Lm) (ro : Int) (k : Nat) (w : World) (e : Ending) (w' : World) : Prop :=
  e = .returned (.tuple #[]) ∧ Hid (Bx g β w w') ∧ (match o with | .go s => Hid (FmS w' g β L ro s k) | .fl c q => Hid (DeadM w' g β L ro c q n k))
theorem FmS.drewN {w : World} {g β : Nat} {L : Lm} {ro : Int} {s : St} {k : Nat} (h : FmS w g β L ro s k) (n : Nat) : FmS (w.drewN n) g β L ro s k := by
  obtain ⟨B, vV, vS, vH, a, h, h2⟩ := h
  exact ⟨B, vV, vS, vH, a, h.drewN n, h2⟩
end Jf
end Go.Proofs.Ytilfidcomeandaa
