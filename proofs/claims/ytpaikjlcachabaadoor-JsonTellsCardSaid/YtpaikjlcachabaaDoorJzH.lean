/- Joined by merge.py: JdA JdB JdC JdD JdE. -/
import Derived.Test.YtpaikjlcachabaaDoorJsW
import Derived.Test.YtpaikjlcachabaaDoorJfP
import Derived.Test.YtpaikjlcachabaaDoorJtK
import Derived.Test.YtpaikjlcachabaaDoorDrD
import Derived.Test.YtpaikjlcachabaaDoorJzA
import Derived.Deep.RegionHeld3
import Derived.BigRegion
import Derived.Deep.RegionLaw
import Derived.Deep.LoopGhost
namespace Go.Proofs.YtpaikjlcachabaaDoor
open Go.RowKit
set_option linter.unusedVariables false
set_option linter.unusedSimpArgs false
namespace Jd
open Js
open Dr (Rs Lm has lack)
theorem own_takeF {w : World} {B e size n m cap : Nat} {a : Option Addr} {xs : List Value} (h : w.ownsRow B e size (.slice a n cap) n xs) (hm : m ≤ n) (h0 : 0 < n) : w.ownsRow B e size (.slice a m cap) m (xs.take (m * size)) := by
  obtain ⟨hl, h⟩ := h
  have hms : m * size ≤ n * size := Nat.mul_le_mul_right _ hm
  refine ⟨by rw [List.length_take]; omega, ?_⟩
  rcases h with ⟨h1, h2⟩ | ⟨g, cap', cur, h1, h2, h3, h4, h5, h6, h7⟩
  · omega
  · cases h1
    refine .inr ⟨g, cap, cur, rfl, h2, h3, by omega, h5, h6, ?_⟩
    rw [← h7, List.take_take, Nat.min_eq_left hms]
theorem grown_set (w : World) (a : Addr) (u : Value) : w.grownBy (w.setCell a u) (some a.block) := ⟨rfl, rfl, rfl, by simp [World.setCell], fun k hk hne => Below.heap_setCell _ _ _ _ (fun e => hne (by rw [e]))⟩
theorem below_drewN (B : Nat) (w : World) (k : Nat) : Below B w (w.drewN k) := ⟨rfl, rfl, rfl, Nat.le_refl _, fun _ _ => rfl⟩
theorem grown_of_below {w w' : World} (hb : Below w.heap.size w w') : w.grownBy w' none := ⟨hb.os, hb.tape, hb.output, hb.size, fun k hk _ => hb.block k hk⟩
theorem grown_draw (w : World) (k : Nat) (a : Addr) (u : Value) : w.grownBy ((w.drewN k).setCell a u) (some a.block) :=
  have h := grown_set (w.drewN k) a u
  ⟨h.os, h.tape, h.output, h.size, h.block⟩
/-- a block that is no row of values nor of what is begun -/
def NotT (w : World) (a : Nat) : Prop := (∀ cur, w.heap[a]? ≠ some (.cells cur 61 (0, 0))) ∧ (∀ cur, w.heap[a]? ≠ some (.cells cur 99 (0, 0)))
theorem notT_tk {q : Nat} {w w' : World} (h : Tk q w w') (hl : q < w.heap.size) (hn : NotT w q) : NotT w' q :=
  ⟨fun cur hc => by obtain ⟨c2, h2⟩ := h.ty hl _ _ hc; exact hn.1 _ h2, fun cur hc => by obtain ⟨c2, h2⟩ := h.ty hl _ _ hc; exact hn.2 _ h2⟩
theorem NotT.same {w w' : World} {a : Nat} (h : NotT w a) (hs : w'.heap[a]? = w.heap[a]?) : NotT w' a := ⟨fun cur => by rw [hs]; exact h.1 cur, fun cur => by rw [hs]; exact h.2 cur⟩
theorem notT_new (w : World) (c : Array Value) (e : TypeId) (h1 : e ≠ 61) (h2 : e ≠ 99) : NotT (w.alloc (Obj.cells c e)) w.heap.size := by
  constructor
  · intro cur hc
    rw [(MapKept.heap_alloc w _).1] at hc
    injection hc with hc
    injection hc with _ hc
    exact h1 hc
  · intro cur hc
    rw [(MapKept.heap_alloc w _).1] at hc
    injection hc with hc
    injection hc with _ hc
    exact h2 hc
/-- a reader's cells -/
def dc (s : ByteArray) (L : Lm) (ro : Int) (p nx : Nat) (vV vS : Value) : List Value :=
  [.string s, .int .i64 (L.bytes : Int), .int .i64 (p : Int), .int .i64 (L.depth : Int), .int .i64 (L.items : Int), .int .i64 (L.bytes : Int), .int .i64 ro, .int .i64 (nx : Int), vV, vS]
structure Jd (w : World) (g : Nat) (s : ByteArray) (L : Lm) (ro : Int) (p nx : Nat) (l : List Vl) (G : List Fr) (B : List (Option Nat)) (vV vS : Value) : Prop where
  at0 : At w g 0 (dc s L ro p nx vV vS)
  vals : w.ownsRow (g + 1) 61 3 vV l.length (vcells l)
  stack : w.ownsRow (g + 1) 99 2 vS G.length (gcells G B)
  maps : Ms w (g + 1) G B
theorem val_ne_begun : (61 : Nat) ≠ 99 := by decide
theorem apart_of {v u : Value} (h : v.ownBlock = none ∨ v.ownBlock ≠ u.ownBlock) {k : Nat} (hk : u.ownBlock = some k) : v.ownBlock ≠ some k := by
  rcases h with h | h
  · rw [h]; exact fun e => by cases e
  · rw [← hk]; exact h
section
variable {w w' : World} {g : Nat} {s : ByteArray} {L : Lm} {ro : Int} {p nx : Nat} {l : List Vl} {G : List Fr} {B : List (Option Nat)} {vV vS : Value} {t : Fr}
theorem Jd.lt (h : Jd w g s L ro p nx l G B vV vS) : g < w.heap.size := h.at0.lt (by simp [dc])
theorem Jd.tx (h : Jd w g s L ro p nx l G B vV vS) : Tx w g 0 s L.bytes p ∧ w.frozen? ⟨g, 2, none⟩ = false := by
  refine ⟨⟨?_, ?_, ?_⟩, ?_⟩
  · have := h.at0.cell 0 _ rfl; rw [Nat.zero_add] at this; exact this
  · have := h.at0.cell 1 _ rfl; rw [Nat.zero_add] at this; exact this
  · have := h.at0.cell 2 _ rfl; rw [Nat.zero_add] at this; exact this
  · have := h.at0.froz 2 (by show 2 < 10; decide); rw [Nat.zero_add] at this; exact this
theorem Jd.drewN (h : Jd w g s L ro p nx l G B vV vS) (n : Nat) : Jd (w.drewN n) g s L ro p nx l G B vV vS :=
  ⟨h.at0.drewN n, own_drewN h.vals n, own_drewN h.stack n, h.maps.same (fun _ _ _ _ => rfl)⟩
/-- a cell of the reader's own is stored -/
theorem Jd.set (h : Jd w g s L ro p nx l G B vV vS) (j : Nat) (u : Value) {p' nx' : Nat}
    (he : (dc s L ro p nx vV vS).set j u = dc s L ro p' nx' vV vS) : Jd (w.setCell ⟨g, j, none⟩ u) g s L ro p' nx' l G B vV vS := by
  have h1 := h.at0.set j u
  rw [Nat.zero_add, he] at h1
  exact ⟨h1, ownsRow_setCell_below h.vals (Nat.lt_succ_self g) _, ownsRow_setCell_below h.stack (Nat.lt_succ_self g) _, h.maps.kept (grown_set w ⟨g, j, none⟩ u) (fun b xs hb hm => by rintro ⟨⟩; exact hm.ne_at h.at0 rfl)⟩
theorem Jd.alloc (h : Jd w g s L ro p nx l G B vV vS) (o : Obj) : Jd (w.alloc o) g s L ro p nx l G B vV vS :=
  ⟨h.at0.alloc o, h.vals.alloc o, h.stack.alloc o, h.maps.kept (World.grownBy_alloc w o none) (fun _ _ _ _ => by simp)⟩
theorem Jd.below (h : Jd w g s L ro p nx l G B vV vS) (hb : Below w.heap.size w w') : Jd w' g s L ro p nx l G B vV vS :=
  ⟨h.at0.below hb h.lt, own_below h.vals hb (Nat.le_refl _), own_below h.stack hb (Nat.le_refl _), h.maps.kept (grown_of_below hb) (fun _ _ _ _ => by simp)⟩
/-- the row of values has grown -/
theorem Jd.growV (h : Jd w g s L ro p nx l G B vV vS) {l' : List Vl} {v' : Value} (hg : w.grownBy w' vV.ownBlock) (ho : w'.ownsRow (g + 1) 61 3 v' l'.length (vcells l')) :
    Jd (w'.setCell ⟨g, 8, none⟩ v') g s L ro p nx l' G B v' vS := by
  have hlt := h.lt
  have h1 := h.at0.grown hg hlt (fun e => by have := (h.vals.lt g e).1; omega)
  have h2 := h.maps.kept hg (fun b xs hb hm => hm.ne_row h.vals)
  have h4 := h.stack.kept hg (own_ne h.stack h.vals (Ne.symm val_ne_begun))
  have h5 := grown_set w' ⟨g, 8, none⟩ v'
  exact ⟨h1.set 8 v', ownsRow_setCell_below ho (Nat.lt_succ_self g) _, ownsRow_setCell_below h4 (Nat.lt_succ_self g) _, h2.kept h5 (fun b xs hb hm => by rintro ⟨⟩; exact hm.ne_at h1 rfl)⟩
/-- the row of what is begun has grown -/
theorem Jd.growS (h : Jd w g s L ro p nx l G B vV vS) {G' : List Fr} {B' : List (Option Nat)} {v' : Value} (hg : w.grownBy w' vS.ownBlock) (ho : w'.ownsRow (g + 1) 99 2 v' G'.length (gcells G' B')) (hm : Ms w' (g + 1) G' B') :
    Jd (w'.setCell ⟨g, 9, none⟩ v') g s L ro p nx l G' B' vV v' := by
  have hlt := h.lt
  have h1 := h.at0.grown hg hlt (fun e => by have := (h.stack.lt g e).1; omega)
  have h4 := h.vals.kept hg (own_ne h.vals h.stack val_ne_begun)
  have h5 := grown_set w' ⟨g, 9, none⟩ v'
  exact ⟨h1.set 9 v', ownsRow_setCell_below h4 (Nat.lt_succ_self g) _, ownsRow_setCell_below ho (Nat.lt_succ_self g) _, hm.kept h5 (fun b xs hb hm => by rintro ⟨⟩; exact hm.ne_at h1 rfl)⟩
/-- the topmost one is let go -/
theorem Jd.pop {b : Option Nat} (h : Jd w g s L ro p nx l (t :: G) (b :: B) vV vS) {q cap n : Nat} (hk : vS = .slice (some ⟨q, 0, none⟩) (n + 1) cap) (hn : G.length = n) :
    Jd (w.setCell ⟨g, 9, none⟩ (.slice (some ⟨q, 0, none⟩) n cap)) g s L ro p nx l G B vV (.slice (some ⟨q, 0, none⟩) n cap) := by
  subst hn
  have h8 := h.stack
  rw [hk] at h8
  have h9 := own_takeF h8 (m := G.length) (by omega) (by omega)
  have hm := h.maps
  have hl : B.length = G.length := by have := hm.length; simpa using this
  rw [gcells_cons, List.take_left' (by rw [gcells_length hl, Nat.mul_comm])] at h9
  have hm2 : Ms w (g + 1) G B := by cases hm <;> assumption
  exact ⟨h.at0.set 9 _, ownsRow_setCell_below h.vals (Nat.lt_succ_self g) _, ownsRow_setCell_below h9 (Nat.lt_succ_self g) _, hm2.kept (grown_set w ⟨g, 9, none⟩ _) (fun b xs hb hm => by rintro ⟨⟩; exact hm.ne_at h.at0 rfl)⟩
/-- the topmost one's cells -/
theorem Jd.top {b : Option Nat} (h : Jd w g s L ro p nx l (t :: G) (b :: B) vV vS) : ∃ q cap, vS = .slice (some ⟨q, 0, none⟩) (G.length + 1) cap ∧ G.length + 1 ≤ cap ∧ g < q ∧ At w q (G.length * 2) [.int .i64 ((flat G t.b).length : Int), .map b] := by
  rcases h.stack.2 with ⟨_, h2⟩ | ⟨q, cap, cur, h1, h2, h3, h4, h5, h6, h7⟩
  · cases h2
  refine ⟨q, cap, h1, h4, h2, ?_⟩
  have h8 := h.stack
  rw [h1] at h8
  have h9 := At.ofOwnN h8
  have hl : B.length = G.length := by have := h.maps.length; simpa using this
  rw [gcells_cons] at h9
  have h10 := At.sub (a := gcells G B) (b := [.int .i64 ((flat G t.b).length : Int), .map b]) (c := []) (by rw [List.append_nil]; exact h9)
  rw [gcells_length hl, Nat.zero_add, Nat.mul_comm] at h10
  exact h10
/-- a value's cells -/
theorem Jd.value (h : Jd w g s L ro p nx l G B vV vS) (i : Nat) (hi : i < l.length) : ∃ q cap, vV = .slice (some ⟨q, 0, none⟩) l.length cap ∧ g < q ∧ At w q (i * 3) (vv (l.getD i v0)) := by
  obtain ⟨a, c, hv, hg⟩ := own_form h.vals
  obtain ⟨q, rfl⟩ := hg (by omega)
  have h0 := h.vals
  rw [hv] at h0
  refine ⟨q, c, hv, (h0.lt q rfl).1, ?_⟩
  have h1 := value_at (At.ofOwnN h0) i hi
  rw [Nat.zero_add] at h1
  exact h1
/-- a cell of a value is stored -/
theorem Jd.setVal (h : Jd w g s L ro p nx l G B vV vS) {q cap n : Nat} (hk : vV = .slice (some ⟨q, 0, none⟩) n cap) (hn : l.length = n) (i j : Nat) (hi : i < n) (hj : j < 3) (u : Value) (y : Vl → Vl) (hy : (vv (l.getD i v0)).set j u = vv (y (l.getD i v0))) :
    Jd (w.setCell ⟨q, i * 3 + j, none⟩ u) g s L ro p nx (l.modify i y) G B vV vS := by
  subst hn
  have hb : vV.ownBlock = some q := by rw [hk]; rfl
  have hgk := (h.vals.lt q hb).1
  have h8 := h.vals
  rw [hk] at h8
  have hs := (h8.stored (i * 3 + j) u).1
  rw [vcells_set l i j u y hi hj hy, ← hk] at hs
  have h5 := grown_set w ⟨q, i * 3 + j, none⟩ u
  refine ⟨h.at0.other q _ u (Or.inl (by omega)), ?_, ownsRow_setCell_other h.stack (apart_of (own_ne h.stack h.vals (Ne.symm val_ne_begun)) hb) u, h.maps.kept h5 (fun b xs _ hm => by have := hm.ne_row h.vals; rw [hb] at this; exact this)⟩
  rw [List.length_modify]
  exact hs
/-- a name is put to the topmost object -/
theorem Jd.name {b : Nat} {xs : List (List UInt8)} {x : List UInt8} (h : Jd w g s L ro p nx l (t :: G) (some b :: B) vV vS) (hg : w.grownBy w' (some b)) (hm : NamesM w' b (xs ++ [x])) (ho : t.o = some xs) :
    Jd w' g s L ro p nx l (addName x (t :: G)) (some b :: B) vV vS := by
  obtain ⟨ys, hm0, hob⟩ : ∃ ys, NamesM w b ys ∧ g + 1 ≤ b := by cases h.maps with | obj _ _ h1 h2 _ => exact ⟨_, h1, h2⟩
  have hlt := h.lt
  refine ⟨h.at0.grown hg hlt (by intro e; cases e; exact hm0.ne_at h.at0 rfl), h.vals.kept hg (.inr (hm0.ne_row h.vals).symm), ?_, h.maps.named hg hm ho⟩
  rw [gcells_name, addName_length]
  exact h.stack.kept hg (.inr (hm0.ne_row h.stack).symm)
/-- a token took a byte -/
theorem Jd.take (h : Jd w g s L ro p nx l G B vV vS) {b : Nat} (ht : Tk b w w') (hb : g < b) (hl : b < w.heap.size) (hn : NotT w b) (hob : ∃ c cs, At w b 0 (c :: cs)) : Jd w' g s L ro p nx l G B vV vS := by
  obtain ⟨c, cs, hc⟩ := hob
  have hrow : ∀ {E z n : Nat} {v : Value} {ys : List Value}, (E : Nat) ≠ 5 → (E = 61 ∨ E = 99) → w.ownsRow (g + 1) E z v n ys → w'.ownsRow (g + 1) E z v n ys := by
    intro E z n v ys hE hE2 ho
    refine own_same ho fun q hq => ?_
    rcases ho.2 with ⟨rfl, _⟩ | ⟨r, cap, cur, rfl, h1, h2, _⟩
    · cases hq
    · obtain rfl : r = q := by simpa [Value.ownBlock] using hq
      refine ht.other r (ho.lt r hq).2 (fun e => ?_) (fun cur' e => ?_)
      · subst e
        rcases hE2 with rfl | rfl
        · exact hn.1 _ h2
        · exact hn.2 _ h2
      · rw [h2] at e; injection e with e; injection e with _ e; exact hE e
  refine ⟨h.at0.below ht.below hb, hrow (by decide) (.inl rfl) h.vals, hrow (by decide) (.inr rfl) h.stack, h.maps.same (fun q xs hq hm => ?_)⟩
  obtain ⟨es, ck, hm1⟩ := hm.obj
  refine ht.other q hm.lt (hm.ne_at hc) (fun cur e => ?_)
  rw [hm1] at e; cases e
end
/-- a reader in memory: what may come next, the list, what is begun, where the next byte stands -/
def JdB (w : World) (g : Nat) (s : ByteArray) (L : Lm) (ro : Int) (nx : Nat) (cur : List Vl) (G : List Fr) (p : Nat) (B : List (Option Nat)) : Prop := ∃ vV vS, Jd w g s L ro p nx (flat G cur) G B vV vS
def JdS (w : World) (g : Nat) (s : ByteArray) (L : Lm) (ro : Int) (st : St) (p : Nat) : Prop := ∃ B, JdB w g s L ro st.nx st.cur st.G p B
theorem JdB.drewN {w : World} {g : Nat} {s : ByteArray} {L : Lm} {ro : Int} {nx : Nat} {cur : List Vl} {G : List Fr} {p : Nat} {B : List (Option Nat)} (h : JdB w g s L ro nx cur G p B) (n : Nat) : JdB (w.drewN n) g s L ro nx cur G p B := by
  obtain ⟨vV, vS, h⟩ := h
  exact ⟨vV, vS, h.drewN n⟩
theorem JdS.drewN {w : World} {g : Nat} {s : ByteArray} {L : Lm} {ro : Int} {st : St} {p : Nat} (h : JdS w g s L ro st p) (n : Nat) : JdS (w.drewN n) g s L ro st p := by
  obtain ⟨B, h⟩ := h
  exact ⟨B, h.drewN n⟩
theorem JdB.take {w w' : World} {g : Nat} {s : ByteArray} {L : Lm} {ro : Int} {nx : Nat} {cur : List Vl} {G : List Fr} {p : Nat} {B : List (Option Nat)} (h : JdB w g s L ro nx cur G p B) {b : Nat} (ht : Tk b w w') (hb : g < b) (hl : b < w.heap.size) (hn : NotT w b) (hob : ∃ c cs, At w b 0 (c :: cs)) : JdB w' g s L ro nx cur G p B := by
  obtain ⟨vV, vS, h⟩ := h
  exact ⟨vV, vS, h.take ht hb hl hn hob⟩
theorem JdB.alloc {w : World} {g : Nat} {s : ByteArray} {L : Lm} {ro : Int} {nx : Nat} {cur : List Vl} {G : List Fr} {p : Nat} {B : List (Option Nat)} (h : JdB w g s L ro nx cur G p B) (o : Obj) : JdB (w.alloc o) g s L ro nx cur G p B := by
  obtain ⟨vV, vS, h⟩ := h
  exact ⟨vV, vS, h.alloc o⟩
theorem JdB.lt {w : World} {g : Nat} {s : ByteArray} {L : Lm} {ro : Int} {nx : Nat} {cur : List Vl} {G : List Fr} {p : Nat} {B : List (Option Nat)} (h : JdB w g s L ro nx cur G p B) : g < w.heap.size := by
  obtain ⟨vV, vS, h⟩ := h
  exact h.lt
theorem JdB.tx {w : World} {g : Nat} {s : ByteArray} {L : Lm} {ro : Int} {nx : Nat} {cur : List Vl} {G : List Fr} {p : Nat} {B : List (Option Nat)} (h : JdB w g s L ro nx cur G p B) : Tx w g 0 s L.bytes p ∧ w.frozen? ⟨g, 2, none⟩ = false := by
  obtain ⟨vV, vS, h⟩ := h
  exact h.tx
/-- what holds of the text and its limits -/
structure Env (s : ByteArray) (L : Lm) : Prop where
  sz : s.size ≤ 140737488351232
  i : L.items ≤ 4096
  d : L.depth ≤ 32
  b : L.bytes ≤ 262144
section
variable (w : World) (g : Nat) (s : ByteArray) (L : Lm) (ro : Int) (st : St) (p : Nat) {nx : Nat} {l : List Vl} {G : List Fr} {B : List (Option Nat)} {vV vS : Value}
/-- the next byte is there -/
theorem peek_yes (h : Tx w g 0 s L.bytes p) (hE : Env s L) (hh : has s.toList L p = true) (b : UInt8) (hb : s.toList.getD p 0 = b) :
    Calls Tryd.prog 35 #[.pointer (some ⟨g, 0, none⟩)] w (fun e w' => e = .returned (.int .u8 (b.toNat : Int)) ∧ ∃ k, w' = w.drewN k) := by
  subst hb
  have h1 := has_lt hh
  rw [tl_size] at h1
  exact peek_ok w g s L.bytes p h h1.1 h1.2 hE.sz
theorem next_yes (h : Jd w g s L ro p nx l G B vV vS) (hE : Env s L) (hh : has s.toList L p = true) (b : UInt8) (hb : s.toList.getD p 0 = b) :
    Calls Tryd.prog 24 #[.pointer (some ⟨g, 0, none⟩)] w (fun e w' => e = .returned (.int .u8 (b.toNat : Int)) ∧ Hid (Jd w' g s L ro (p + 1) nx l G B vV vS) ∧ Hid (Below g w w') ∧ Hid (w.grownBy w' (some g))) := by
  subst hb
  have h1 := has_lt hh
  rw [tl_size] at h1
  refine (next_ok w g s L.bytes p h.tx.1 h.tx.2 h1.1 h1.2 hE.sz).mono ?_
  rintro e w' ⟨rfl, k, rfl⟩
  exact ⟨rfl, (h.drewN k).set 2 (.int .i64 ((p + 1 : Nat) : Int)) rfl, (below_drewN g w k).setCell (p := ⟨g, 2, none⟩) (Nat.le_refl g) _, grown_draw w k ⟨g, 2, none⟩ _⟩
theorem nextB_yes {cur : List Vl} (h : JdB w g s L ro nx cur G p B) (hE : Env s L) (hh : has s.toList L p = true) (b : UInt8) (hb : s.toList.getD p 0 = b) :
    Calls Tryd.prog 24 #[.pointer (some ⟨g, 0, none⟩)] w (fun e w' => e = .returned (.int .u8 (b.toNat : Int)) ∧ Hid (JdB w' g s L ro nx cur G (p + 1) B) ∧ Hid (Below g w w') ∧ Hid (w.grownBy w' (some g))) := by
  obtain ⟨vV, vS, h⟩ := h
  refine (next_yes w g s L ro p h hE hh b hb).mono ?_
  rintro e w' ⟨h1, h2, h3, h4⟩
  exact ⟨h1, ⟨vV, vS, h2.out⟩, h3, h4⟩
theorem nextB_no {cur : List Vl} (h : JdB w g s L ro nx cur G p B) (hp : p ≤ 140737488351232) (hh : has s.toList L p = false) :
    Calls Tryd.prog 24 #[.pointer (some ⟨g, 0, none⟩)] w (No (lkE L.bytes s) (lkP L.bytes s) g w) := by
  refine next_no w g s L.bytes p h.tx.1 ?_ hp
  rintro ⟨h1, h2⟩
  rw [has_yes (by rw [tl_size]; exact h1) h2] at hh
  cases hh
end
theorem lack_eq (s : ByteArray) (L : Lm) : ∃ b, (lack s.toList L : Rs (List Vl)) = .no (lkE L.bytes s) (lkP L.bytes s) b := by
  rw [lack, Dr.lackE, Dr.lackP, lkE, lkP, tl_size]
  exact ⟨_, rfl⟩
end Jd
end Go.Proofs.YtpaikjlcachabaaDoor
namespace Go.Proofs.YtpaikjlcachabaaDoor
open Go.RowKit
set_option linter.unusedVariables false
set_option linter.unusedSimpArgs false
namespace Jd
open Js
open Dr (Rs Lm has lack)
open Jr (Cl sx wx)
/-- what a step of one byte comes to -/
def RA (o : Out) (p g : Nat) (s : ByteArray) (L : Lm) (ro : Int) (w : World) (e : Ending) (w' : World) : Prop :=
  match o with
  | .go st => e = .returned (.tuple #[]) ∧ Hid (JdS w' g s L ro st (p + 1)) ∧ Hid (Below g w w')
  | .fl c q => e = .panicked (flt c (q : Int)) ∧ Below g w w'
theorem RA.go {o : Out} {st : St} {p g : Nat} {s : ByteArray} {L : Lm} {ro : Int} {w w' : World} (ho : Hid (o = .go st)) (h : Hid (JdS w' g s L ro st (p + 1))) (hb : Hid (Below g w w')) : RA o p g s L ro w (.returned (.tuple #[])) w' := by rw [ho.out]; exact ⟨rfl, h, hb⟩
theorem RA.fl {o : Out} {c : Int} {q p g : Nat} {s : ByteArray} {L : Lm} {ro : Int} {w w' : World} {e : Ending} (ho : Hid (o = .fl c q)) (he : e = .panicked (flt c (q : Int))) (hb : Below g w w') : RA o p g s L ro w e w' := by rw [ho.out]; exact ⟨he, hb⟩
theorem u8lit (b : UInt8) (t : Nat) (ht : b.toNat = t) (c : Nat) (hc : c < 256) : b = UInt8.ofNat c ↔ t = c := by
  constructor
  · intro e; rw [← ht, e]; simp; omega
  · intro e; rw [← e, ← ht]; simp
theorem blank_t (b : UInt8) (t : Nat) (ht : b.toNat = t) : Js.blank b = decide (t = 32 ∨ t = 9 ∨ t = 10 ∨ t = 13) := by
  rw [Js.blank]
  refine decide_eq_decide.2 ?_
  rw [show b = 32 ↔ t = 32 from u8lit b t ht 32 (by decide), show b = 9 ↔ t = 9 from u8lit b t ht 9 (by decide), show b = 10 ↔ t = 10 from u8lit b t ht 10 (by decide), show b = 13 ↔ t = 13 from u8lit b t ht 13 (by decide)]
set_option maxRecDepth 100000 in
set_option maxHeartbeats 1600000 in
theorem dblank_any (b : UInt8) (w : World) : Calls Tryd.prog 23 #[.int .u8 (b.toNat : Int)] w (fun e w' => e = .returned (.bool (Js.blank b)) ∧ w = w') := by
  obtain ⟨t, ht⟩ : ∃ t, b.toNat = t := ⟨_, rfl⟩
  rw [blank_t b t ht, ht]
  clear ht
  by_cases h1 : t = 32
  · subst h1
    go_enter Tryd.func23, Tryd.ntmps23
    go_wp2_with fail
    go_ret
    exact ⟨rfl, rfl⟩
  by_cases h2 : t = 9
  · subst h2
    go_enter Tryd.func23, Tryd.ntmps23
    go_wp2_with fail
    go_ret
    exact ⟨rfl, rfl⟩
  by_cases h3 : t = 10
  · subst h3
    go_enter Tryd.func23, Tryd.ntmps23
    go_wp2_with fail
    go_ret
    exact ⟨rfl, rfl⟩
  by_cases h4 : t = 13
  · subst h4
    go_enter Tryd.func23, Tryd.ntmps23
    go_wp2_with fail
    go_ret
    exact ⟨rfl, rfl⟩
  rw [decide_eq_false (by omega)]
  have e1 := eqF (n := t) (c := 32) (by omega)
  have e2 := eqF (n := t) (c := 9) (by omega)
  have e3 := eqF (n := t) (c := 10) (by omega)
  have e4 := eqF (n := t) (c := 13) (by omega)
  clear h1 h2 h3 h4
  go_enter Tryd.func23, Tryd.ntmps23
  go_wp2_with fail
  go_ret
  exact ⟨rfl, rfl⟩
section
variable (w : World) (g : Nat) (s : ByteArray) (L : Lm) (ro : Int) (st : St) (p : Nat)
theorem fail_at (c : Int) (q : Nat) (g : Nat) (w : World) : Calls Tryd.prog 25 #[.int .i64 c, .int .i64 (q : Int)] w (fun e w' => e = .panicked (flt c (q : Int)) ∧ Below g w w') := by
  refine (fail_any c (q : Int) w).mono ?_
  rintro e w' ⟨rfl, rfl⟩
  exact ⟨rfl, Below.refl _ _⟩
set_option maxRecDepth 100000 in
set_option maxHeartbeats 1600000 in
theorem taken_ok (z : Int) (b : Bool) (hz : (z = 0 ∧ b = true) ∨ (z = 1 ∧ b = false)) : Calls Tryd.prog 73 #[.pointer (some ⟨g, 0, none⟩), .int .i64 z] w (fun e w' => e = .returned (.bool b) ∧ w = w') := by
  rcases hz with ⟨rfl, rfl⟩ | ⟨rfl, rfl⟩
  · go_enter Tryd.func73, Tryd.ntmps73
    go_wp2_with fail
    go_ret
    exact ⟨rfl, rfl⟩
  · go_enter Tryd.func73, Tryd.ntmps73
    go_wp2_with fail
    go_ret
    exact ⟨rfl, rfl⟩
set_option maxRecDepth 100000 in
set_option maxHeartbeats 1600000 in
theorem taken_bad (hT : Tx w g 0 s L.bytes (p + 1)) (hp : p ≤ 262144) : Calls Tryd.prog 73 #[.pointer (some ⟨g, 0, none⟩), .int .i64 3] w (fun e w' => e = .panicked (flt 9 (p : Int)) ∧ Below g w w') := by
  have PL := Lib.hid (place_ok w g s L.bytes (p + 1) hT)
  have FA := Lib.hid (fail_at 9 p g w)
  obtain ⟨z, hz⟩ : ∃ z, p + 1 = z := ⟨_, rfl⟩
  rw [hz] at PL
  have e1 : (z : Int) - 1 = (p : Int) := by omega
  have e2 : IntKind.i64.wrap (p : Int) = (p : Int) := wrap_fit p (by unfold maxLen; omega)
  clear hT hp hz
  go_enter Tryd.func73, Tryd.ntmps73
  go_wp2_with (first | (go_at_call 26; refine PL.out.mono ?_; rintro e w1 ⟨rfl, rfl⟩) | (go_at_call 25; refine FA.out.mono ?_; rintro e w1 ⟨rfl, hb⟩))
  exact ⟨rfl, rfl, hb⟩
set_option maxRecDepth 100000 in
set_option maxHeartbeats 1600000 in
theorem dended_any (h : JdS w g s L ro st p) (hG : st.G.length ≤ 1000) :
    Calls Tryd.prog 56 #[.pointer (some ⟨g, 0, none⟩)] w (fun e w' => e = .returned (.tuple #[]) ∧ Hid (JdS w' g s L ro st.ended p) ∧ Hid (Below g w w')) := by
  obtain ⟨B, vV, vS, h⟩ := h
  have HF := Lib.hid h
  obtain ⟨aS, cS, rfl, -⟩ := own_form h.stack
  obtain ⟨m, hm⟩ : ∃ m, st.G.length = m := ⟨_, rfl⟩
  have c6 := h.at0.cell 9 _ rfl
  rw [hm] at c6
  have c7 := h.at0.cell 7 _ rfl
  have f7 := h.at0.froz 7 (by show 7 < 10; decide)
  have h5 : Hid (Jd (w.setCell ⟨g, 7, none⟩ (.int .i64 5)) g s L ro p 5 (flat st.G st.cur) st.G B vV (.slice aS st.G.length cS)) := HF.out.set 7 (.int .i64 5) rfl
  have h6 : Hid (Jd ((w.setCell ⟨g, 7, none⟩ (.int .i64 5)).setCell ⟨g, 7, none⟩ (.int .i64 6)) g s L ro p 6 (flat st.G st.cur) st.G B vV (.slice aS st.G.length cS)) := h5.out.set 7 (.int .i64 6) rfl
  have hb5 : Hid (Below g w (w.setCell ⟨g, 7, none⟩ (.int .i64 5))) := (Below.refl g w).setCell (p := ⟨g, 7, none⟩) (Nat.le_refl g) _
  have hb6 : Hid (Below g w ((w.setCell ⟨g, 7, none⟩ (.int .i64 5)).setCell ⟨g, 7, none⟩ (.int .i64 6))) := hb5.out.setCell (p := ⟨g, 7, none⟩) (Nat.le_refl g) _
  have HM := Lib.hid hm
  rw [hm] at hG
  by_cases h0 : m = 0
  · have HE : Hid (st.ended = { st with nx := 6, hand := .none }) := by
      show st.ended = _
      have : st.G = [] := List.eq_nil_of_length_eq_zero (by omega)
      rw [St.ended, this]; rfl
    have q0 : ((m : Int) == 0) = true := by rw [beq_iff_eq]; omega
    clear h h0 hm
    go_enter Tryd.func56, Tryd.ntmps56
    go_wp2_with fail
    first | go_end0 | refine bodyPost_ret (results_none rfl _ _ _) rfl ?_
    refine ⟨rfl, ?_, hb6⟩
    rw [HE.out]
    exact ⟨B, _, _, h6.out⟩
  · have HE : Hid (st.ended = { st with nx := 5, hand := .none }) := by
      show st.ended = _
      rw [St.ended]
      cases hG : st.G with
      | nil => rw [hG] at hm; exact absurd hm.symm h0
      | cons f G => rfl
    have q0 : ((m : Int) == 0) = false := by rw [beq_eq_false_iff_ne]; omega
    clear h h0 hm h6 hb6
    go_enter Tryd.func56, Tryd.ntmps56
    go_wp2_with fail
    first | go_end0 | refine bodyPost_ret (results_none rfl _ _ _) rfl ?_
    refine ⟨rfl, ?_, hb5⟩
    rw [HE.out]
    exact ⟨B, _, _, h5.out⟩
set_option maxRecDepth 100000 in
set_option maxHeartbeats 1600000 in
theorem dpass_any (h : JdS w g s L ro st p) (hE : Env s L) (hh : has s.toList L p = true) (r : Bool) (nx : Nat) (z : Int) (hz : (nx : Int) = z) :
    Calls Tryd.prog 36 #[.pointer (some ⟨g, 0, none⟩), .bool r, .int .i64 z] w (RA (st.pass r nx p) p g s L ro w) := by
  subst hz
  obtain ⟨R, hR⟩ : ∃ R, st.pass r nx p = R := ⟨_, rfl⟩
  rw [hR]
  rw [St.pass] at hR
  obtain ⟨B, vV, vS, h⟩ := h
  cases r with
  | false =>
    have PL := Lib.hid (place_ok w g s L.bytes p h.tx.1)
    have FA := Lib.hid (fail_at 9 p g w)
    have HR : Hid (R = .fl 9 p) := hR.symm
    clear h hR hh
    go_enter Tryd.func36, Tryd.ntmps36
    go_wp2_with (first | (go_at_call 26; refine PL.out.mono ?_; rintro e w1 ⟨rfl, rfl⟩) | (go_at_call 25; refine FA.out.mono ?_; rintro e w1 ⟨rfl, hb⟩))
    exact ⟨rfl, RA.fl HR rfl hb⟩
  | true =>
    have HR : Hid (R = .go { st with nx := nx }) := hR.symm
    have NX := Lib.hid (next_yes w g s L ro p h hE hh _ rfl)
    clear h hR hh
    go_enter Tryd.func36, Tryd.ntmps36
    go_wp2_with fail
    refine NX.out.mono ?_
    rintro e w4 ⟨rfl, hF4, hB4, -⟩
    have c7 := hF4.out.at0.cell 7 _ rfl
    have f7 := hF4.out.at0.froz 7 (by show 7 < 10; decide)
    have h5 : Hid (JdS (w4.setCell ⟨g, 7, none⟩ (.int .i64 (nx : Int))) g s L ro { st with nx := nx } (p + 1)) := ⟨B, _, _, hF4.out.set 7 (.int .i64 (nx : Int)) rfl⟩
    go_wp2_with fail
    first | go_end0 | refine bodyPost_ret (results_none rfl _ _ _) rfl ?_
    exact RA.go HR h5 (hB4.out.setCell (p := ⟨g, 7, none⟩) (Nat.le_refl g) _)
set_option maxRecDepth 100000 in
set_option maxHeartbeats 1600000 in
theorem dend_any (h : JdS w g s L ro st p) (hE : Env s L) (hh : has s.toList L p = true) (hG : st.G ≠ []) (hl : st.G.length ≤ 1000) :
    Calls Tryd.prog 38 #[.pointer (some ⟨g, 0, none⟩)] w (RA (.go st.close) p g s L ro w) := by
  obtain ⟨R, hR⟩ : ∃ R, st.close = R := ⟨_, rfl⟩
  rw [hR]
  obtain ⟨t, G, hG'⟩ : ∃ t G, st.G = t :: G := by cases hG' : st.G with | nil => exact absurd hG' hG | cons t G => exact ⟨t, G, rfl⟩
  rw [close_ended st t G hG'] at hR
  obtain ⟨B, vV, vS, h⟩ := h
  rw [hG'] at h
  have hB0 := h.maps.length
  obtain ⟨b, B, rfl⟩ : ∃ b B', B = b :: B' := by cases B with | nil => cases hB0 | cons b B => exact ⟨b, B, rfl⟩
  have NX := Lib.hid (next_yes w g s L ro p h hE hh _ rfl)
  rw [hG'] at hl
  have HL := Lib.hid hl
  clear h hG hG' hl hB0 hh
  go_enter Tryd.func38, Tryd.ntmps38
  go_wp2_with fail
  refine NX.out.mono ?_
  rintro e w1 ⟨rfl, hF1, hB1, -⟩
  obtain ⟨q, cap, rfl, hcap, hq, hAt⟩ := hF1.out.top
  obtain ⟨n, hn0⟩ : ∃ n, G.length = n := ⟨_, rfl⟩
  have c9 := hF1.out.at0.cell 9 _ rfl
  have f9 := hF1.out.at0.froz 9 (by show 9 < 10; decide)
  rw [hn0] at c9 hcap
  have h5 : Hid (JdS (w1.setCell ⟨g, 9, none⟩ (.slice (some ⟨q, 0, none⟩) n cap)) g s L ro { st with cur := t.b ++ Js.hold t :: st.cur, G := G } (p + 1)) := by
    have h8 := hF1.out
    rw [hn0] at h8
    have h9 := h8.pop rfl hn0
    rw [← flat_close] at h9
    exact ⟨B, _, _, h9⟩
  have hb5 : Hid (Below g w (w1.setCell ⟨g, 9, none⟩ (.slice (some ⟨q, 0, none⟩) n cap))) := hB1.out.setCell (p := ⟨g, 9, none⟩) (Nat.le_refl g) _
  have EN := Lib.hid (dended_any (World.drew (w1.setCell ⟨g, 9, none⟩ (.slice (some ⟨q, 0, none⟩) n cap))) g s L ro { st with cur := t.b ++ Js.hold t :: st.cur, G := G } (p + 1) (h5.out.drewN 1) (by have := HL.out; simp at this; show G.length ≤ _; omega))
  have e1 : (n : Int) + 1 - 1 = (n : Int) := by omega
  have e2 : IntKind.i64.wrap (n : Int) = (n : Int) := wrap_fit n (by have := HL.out; unfold maxLen; simp at this; omega)
  have e3 : (n : Int) ≤ (cap : Int) := by omega
  rw [hR] at EN
  clear hAt hn0 hR hF1
  go_wp2_with fail
  go_region
  go_wp2_with fail
  refine (EN.out).mono ?_
  rintro e w4 ⟨rfl, hF4, hB4⟩
  go_wp2_with fail
  first | go_end0 | refine bodyPost_ret (results_none rfl _ _ _) rfl ?_
  exact ⟨rfl, hF4, (hb5.out.trans (below_drewN g _ 1)).trans hB4.out⟩
end
end Jd
end Go.Proofs.YtpaikjlcachabaaDoor
namespace Go.Proofs.YtpaikjlcachabaaDoor
open Go.RowKit
set_option linter.unusedVariables false
set_option linter.unusedSimpArgs false
namespace Jd
open Js
open Dr (Rs Lm has lack)
open Jr (Cl sx wx)
section
variable (w : World) (g : Nat) (s : ByteArray) (L : Lm) (ro : Int) (st : St) (p : Nat)
set_option maxRecDepth 100000 in
set_option maxHeartbeats 3200000 in
theorem dgoOn_any (h : JdS w g s L ro st p) (hE : Env s L) (hh : has s.toList L p = true) (hG : st.G ≠ []) (hl : st.G.length ≤ 1000) (b : UInt8) (t : Nat) (ht : b.toNat = t) :
    Calls Tryd.prog 37 #[.pointer (some ⟨g, 0, none⟩), .int .u8 (t : Int)] w (RA (st.goOn b p) p g s L ro w) := by
  obtain ⟨R, hR⟩ : ∃ R, st.goOn b p = R := ⟨_, rfl⟩
  rw [hR]
  rw [St.goOn] at hR
  obtain ⟨f, G, hG'⟩ : ∃ t G, st.G = t :: G := by cases hG' : st.G with | nil => exact absurd hG' hG | cons t G => exact ⟨t, G, rfl⟩
  have hb : ∀ c : Nat, c < 256 → (b = UInt8.ofNat c ↔ t = c) := fun c hc => by
    constructor
    · intro e; rw [← ht, e]; simp; omega
    · intro e; rw [← e, ← ht]; simp
  have CL := Lib.hid (fun n => dend_any (w.drewN n) g s L ro st p (h.drewN n) hE hh hG hl)
  have PA := Lib.hid (fun n r nx => dpass_any (w.drewN n) g s L ro st p (h.drewN n) hE hh r nx (nx : Int) rfl)
  have hobj : st.object = f.o.isSome := by rw [St.object, hG']
  rw [hobj] at hR
  obtain ⟨B, vV, vS, h⟩ := h
  rw [hG'] at h
  have hB0 := h.maps.length
  obtain ⟨bm, B, rfl⟩ : ∃ b B', B = b :: B' := by cases B with | nil => cases hB0 | cons b B => exact ⟨b, B, rfl⟩
  have hbo : bm.isSome = f.o.isSome := by
    cases h.maps with
    | arr _ ho => rw [ho]; rfl
    | obj _ ho _ _ _ => rw [ho]; rfl
  obtain ⟨q, cap, rfl, hcap, hq, hAt⟩ := h.top
  obtain ⟨n, hn0⟩ : ∃ n, G.length = n := ⟨_, rfl⟩
  have c6 := h.at0.cell 9 _ rfl
  rw [hn0] at c6 hcap hAt
  have d1 := hAt.cell 1 _ rfl
  rw [hG'] at hl
  have e1 : (n : Int) + 1 - 1 = (n : Int) := by omega
  have e2 : IntKind.i64.wrap (n : Int) = (n : Int) := wrap_fit n (by unfold maxLen; simp at hl; omega)
  have e3 : (n : Int) < (n : Int) + 1 := by omega
  have QN : ∀ (w : World) (r : Option Nat), (binOp .neq 62 (.map r) (.map none)).run Tryd.prog w = .ok (.bool (!r.isNone)) w := fun w r => run_neq_map_nil w _ _ _ r Tryd.underlying62
  have hbn : (!bm.isNone) = f.o.isSome := by rw [← hbo]; cases bm <;> rfl
  obtain ⟨o, ho⟩ : ∃ o, f.o.isSome = o := ⟨_, rfl⟩
  rw [ho] at hbn hR
  clear h hAt hn0 hG hG' hl hB0 hbo ho hobj hh
  cases o with
  | true =>
    rw [if_pos rfl] at hR
    by_cases h125 : t = 125
    · have HR : Hid (R = .go st.close) := by show R = _; rw [← hR, if_pos (show b = 125 from (hb 125 (by decide)).2 h125)]
      subst h125
      clear hR hb ht
      go_enter Tryd.func37, Tryd.ntmps37
      go_wp2_with fail
      go_quiet (fail)
      go_wp2_with fail
      refine (CL.out _).mono ?_
      rintro e w4 ⟨rfl, hF4, hB4⟩
      go_wp2_with fail
      first | go_end0 | refine bodyPost_ret (results_none rfl _ _ _) rfl ?_
      exact RA.go HR hF4 ((below_drewN g w _).trans hB4.out)
    · have HR : Hid (R = st.pass (decide (b = 44)) 2 p) := by show R = _; rw [← hR, if_neg (show ¬ b = 125 from fun e => h125 ((hb 125 (by decide)).1 e))]
      have e5 := eqF (n := t) (c := 125) (by omega)
      have h44 : decide (b = 44) = decide (t = 44) := decide_eq_decide.2 (show b = 44 ↔ t = 44 from hb 44 (by decide))
      rw [h44] at HR
      have h45 : ((t : Int) == 44) = decide (t = 44) := by rw [Bool.eq_iff_iff, beq_iff_eq, decide_eq_true_iff]; omega
      generalize decide (t = 44) = r at *
      clear hR hb ht h44 h125
      go_enter Tryd.func37, Tryd.ntmps37
      go_wp2_with fail
      go_quiet (fail)
      go_wp2_with fail
      refine (PA.out _ r 2).mono ?_
      intro e w4 hR4
      rw [← HR.out] at hR4
      have HB0 : Hid (Below g w (w.drewN nq)) := below_drewN g w _
      cases R with
      | fl c q =>
        obtain ⟨rfl, hB4⟩ := hR4
        go_wp2_with fail
        exact ⟨rfl, rfl, HB0.out.trans hB4⟩
      | go st2 =>
        obtain ⟨rfl, hF4, hB4⟩ := hR4
        go_wp2_with fail
        first | go_end0 | refine bodyPost_ret (results_none rfl _ _ _) rfl ?_
        exact ⟨rfl, hF4, HB0.out.trans hB4.out⟩
  | false =>
    rw [if_neg (by decide)] at hR
    by_cases h93 : t = 93
    · have HR : Hid (R = .go st.close) := by show R = _; rw [← hR, if_pos (show b = 93 from (hb 93 (by decide)).2 h93)]
      subst h93
      clear hR hb ht
      go_enter Tryd.func37, Tryd.ntmps37
      go_wp2_with fail
      go_quiet (fail)
      go_wp2_with fail
      refine (CL.out _).mono ?_
      rintro e w4 ⟨rfl, hF4, hB4⟩
      go_wp2_with fail
      first | go_end0 | refine bodyPost_ret (results_none rfl _ _ _) rfl ?_
      exact RA.go HR hF4 ((below_drewN g w _).trans hB4.out)
    · have HR : Hid (R = st.pass (decide (b = 44)) 0 p) := by show R = _; rw [← hR, if_neg (show ¬ b = 93 from fun e => h93 ((hb 93 (by decide)).1 e))]
      have e5 := eqF (n := t) (c := 93) (by omega)
      have h44 : decide (b = 44) = decide (t = 44) := decide_eq_decide.2 (show b = 44 ↔ t = 44 from hb 44 (by decide))
      rw [h44] at HR
      have h45 : ((t : Int) == 44) = decide (t = 44) := by rw [Bool.eq_iff_iff, beq_iff_eq, decide_eq_true_iff]; omega
      generalize decide (t = 44) = r at *
      clear hR hb ht h44 h93
      go_enter Tryd.func37, Tryd.ntmps37
      go_wp2_with fail
      go_quiet (fail)
      go_wp2_with fail
      refine (PA.out _ r 0).mono ?_
      intro e w4 hR4
      rw [← HR.out] at hR4
      have HB0 : Hid (Below g w (w.drewN nq)) := below_drewN g w _
      cases R with
      | fl c q =>
        obtain ⟨rfl, hB4⟩ := hR4
        go_wp2_with fail
        exact ⟨rfl, rfl, HB0.out.trans hB4⟩
      | go st2 =>
        obtain ⟨rfl, hF4, hB4⟩ := hR4
        go_wp2_with fail
        first | go_end0 | refine bodyPost_ret (results_none rfl _ _ _) rfl ?_
        exact ⟨rfl, hF4, HB0.out.trans hB4.out⟩
end
/-- a block that is no row of values -/
def NotV (w : World) (a : Nat) : Prop := ∀ cur, w.heap[a]? ≠ some (.cells cur 61 (0, 0))
theorem NotV.same {w w' : World} {a : Nat} (h : NotV w a) (hs : w'.heap[a]? = w.heap[a]?) : NotV w' a := fun cur => by rw [hs]; exact h cur
/-- blocks that are neither the reader's own nor rows of values are as they were -/
structure Kq (g : Nat) (w w' : World) : Prop where
  size : w.heap.size ≤ w'.heap.size
  block : ∀ a, a < w.heap.size → a ≠ g → NotV w a → w'.heap[a]? = w.heap[a]?
theorem Kq.refl (g : Nat) (w : World) : Kq g w w := ⟨Nat.le_refl _, fun _ _ _ _ => rfl⟩
theorem Kq.trans {g : Nat} {a b c : World} (h : Kq g a b) (k : Kq g b c) : Kq g a c := ⟨Nat.le_trans h.size k.size, fun i hi hg hn => by
  have h1 := h.block i hi hg hn
  exact (k.block i (Nat.lt_of_lt_of_le hi h.size) hg (hn.same h1)).trans h1⟩
theorem Kq.drewN (g : Nat) (w : World) (k : Nat) : Kq g w (w.drewN k) := ⟨Nat.le_refl _, fun _ _ _ _ => rfl⟩
theorem Kq.alloc (g : Nat) (w : World) (o : Obj) : Kq g w (w.alloc o) := ⟨by simp, fun a ha _ _ => Below.heap_alloc _ _ _ ha⟩
theorem Kq.setG (g : Nat) (w : World) (o : Nat) (u : Value) : Kq g w (w.setCell ⟨g, o, none⟩ u) := ⟨by simp [World.setCell], fun a _ hg _ => Below.heap_setCell _ _ _ _ (by show a ≠ g; exact hg)⟩
theorem row_ty {w : World} {B e z n : Nat} {v : Value} {xs : List Value} (h : w.ownsRow B e z v n xs) {q : Nat} (hq : v.ownBlock = some q) : ∃ cur, w.heap[q]? = some (.cells cur e (0, 0)) := by
  rcases h.2 with ⟨rfl, _⟩ | ⟨b, cap, cur, rfl, _, h2, _⟩
  · cases hq
  · obtain rfl : b = q := by simpa [Value.ownBlock] using hq
    exact ⟨cur, h2⟩
theorem Kq.grown {g : Nat} {w w' : World} {row : Option Nat} (hg : w.grownBy w' row) (hr : ∀ q, row = some q → q = g ∨ ¬ NotV w q) : Kq g w w' := ⟨hg.size, fun a ha hag hn => hg.block a ha (fun e => by
  rcases hr a e.symm with h | h
  · exact hag h
  · exact h hn)⟩
theorem Kq.names {g : Nat} {w w' : World} {b : Nat} {xs : List (List UInt8)} {c : Value} {cs : List Value} (h : Kq g w w') (hm : NamesM w b xs) (hA : At w g 0 (c :: cs)) : NamesM w' b xs := by
  refine hm.same (h.block b hm.lt (hm.ne_at hA) ?_)
  obtain ⟨es, ck, hb⟩ := hm.obj
  exact fun cur e => by rw [hb] at e; cases e
theorem Kq.at {g a : Nat} {w w' : World} {c : Value} {cs : List Value} (h : Kq g w w') (hg : a ≠ g) (hn : NotV w a) (hA : At w a 0 (c :: cs)) : At w' a 0 (c :: cs) := fun j u hu => by
  have h1 := h.block a (hA.lt (by simp)) hg hn
  obtain ⟨h2, h3⟩ := hA j u hu
  exact ⟨(World.cell?_of_block h1).trans h2, (World.frozen?_of_block h1).trans h3⟩
theorem Kq.notV {g a : Nat} {w w' : World} (h : Kq g w w') (hl : a < w.heap.size) (hg : a ≠ g) (hn : NotV w a) : NotV w' a := hn.same (h.block a hl hg hn)
theorem jf_kids (t : Fr) (G : List Fr) (cur : List Vl) : (flat (t :: G) cur).modify (flat G t.b).length (fun v => { v with kids := v.kids + 1 }) = flat (bump (t :: G)) cur := by
  rw [flat_cons, bump, flat_cons]
  have h : ∀ (a : List Vl) (x : Vl) (b : List Vl) (y : Vl → Vl), (a ++ x :: b).modify a.length y = a ++ y x :: b := by
    intro a x b y
    induction a with
    | nil => rfl
    | cons z a ih => rw [List.cons_append, List.length_cons, List.modify_succ_cons, ih]; rfl
  rw [h]
  rfl
theorem jf_at (t : Fr) (G : List Fr) (cur : List Vl) : (flat (t :: G) cur).getD (flat G t.b).length v0 = Js.hold t := by
  rw [flat_cons, List.getD, List.getElem?_append_right (Nat.le_refl _), Nat.sub_self]; rfl
section
variable {w : World} {ops : Array Oper} {o : Oper} {a : Act}
theorem step_append_vl {K : Act → World → Prop} {Q : Exit → Act → World → Prop} {E : Prop} (hgd : o.guard = none) (s x : Operand)
    (ho : o.op = .call { callee := .builtin .append, args := #[s, x], argTypes := #[25, 25] })
    (base : Nat) (v : Value) (n : Nat) (l : List Vl) (hs : a.eval s = v) (hown : w.ownsRow base 61 3 v n (vcells l))
    (g c : Nat) (y : Vl) (hx : a.eval x = .slice (some ⟨g, 0, none⟩) 1 c) (hcell : ∀ j u, (vv y)[j]? = some u → w.cell? ((⟨g, 0, none⟩ : Addr).add j) = some u)
    (hn : n ≤ 1000000) (hbase : base ≤ w.heap.size)
    (h : ∀ v' w', w'.ownsRow base 61 3 v' (n + 1) (vcells (l ++ [y])) → w.grownBy w' v.ownBlock → K (a.put o.dst v') w') :
    if Region.wanted o (yielded ops a.tmps) = true then Oper.wp Tryd.prog o a w K Q else E := by
  obtain ⟨i0, hi, hq⟩ := Option.map_eq_some_iff.1 infoVl
  simp only [Prod.mk.injEq] at hq
  refine step_append_gen hgd s x 25 ho base 61 i0 _ 3 32 Tryd.underlying25 hi hq.1 hq.2.1 hq.2.2 rfl (by decide) v n (vcells l) hs hown g 1 c (vv y) hx rfl hcell (vv_one y) (by unfold maxLen; omega) (by omega) hbase ?_
  intro v' w' h1 h2
  exact h v' w' (by rw [vcells_append]; simpa [vcells] using h1) h2
end
def box (kind : Int) : Obj := Obj.cells #[.int .i64 kind, .int .i64 0, .string ByteArray.empty] 61
def RAdd (kind : Int) (nx : Nat) (cur : List Vl) (G : List Fr) (p g : Nat) (s : ByteArray) (L : Lm) (ro : Int) (B : List (Option Nat)) (w : World) (e : Ending) (w' : World) : Prop :=
  e = .returned (.tuple #[]) ∧ Hid (JdB w' g s L ro nx (cur ++ [⟨kind, 0, []⟩]) (bump G) p B) ∧ Hid (Below g w w') ∧ Hid (Kq g w w') ∧ Hid (w'.cell? ⟨g, 9, none⟩ = w.cell? ⟨g, 9, none⟩)
section
variable (w : World) (g : Nat) (s : ByteArray) (L : Lm) (ro : Int) (nx : Nat) (cur : List Vl) (G : List Fr) (p : Nat) (B : List (Option Nat))
set_option maxRecDepth 100000 in
set_option maxHeartbeats 1600000 in
theorem dadd_no (h : JdB w g s L ro nx cur G p B) (kind : Int) (hi : L.items ≤ (flat G cur).length) :
    Calls Tryd.prog 57 #[.pointer (some ⟨g, 0, none⟩), .agg #[.int .i64 kind, .int .i64 0, .string ByteArray.empty]] w (fun e w' => e = .panicked (flt 10 (p : Int)) ∧ Below g w w') := by
  obtain ⟨vV, vS, h⟩ := h
  obtain ⟨aV, cV, rfl, -⟩ := own_form h.vals
  have hA := h.alloc (box kind)
  have HBX : Hid (Below g w (w.alloc (box kind))) := (Below.refl g w).alloc (Nat.le_of_lt h.lt) _
  have PL := Lib.hid (fun n => place_ok ((w.alloc (box kind)).drewN n) g s L.bytes p (hA.tx.1.drewN n))
  have FA := Lib.hid (fun w => fail_at 10 p g w)
  have h4 := hA.at0.cell 4 _ rfl
  have h8 := hA.at0.cell 8 _ rfl
  obtain ⟨m, hm⟩ : ∃ m, (flat G cur).length = m := ⟨_, rfl⟩
  rw [hm] at hi h8
  have e0 : (L.items : Int) ≤ (m : Int) := by omega
  clear h hm hi hA
  go_enter Tryd.func57, Tryd.ntmps57
  go_wp2_with fail
  rw [show w.alloc (Obj.cells #[.int .i64 kind, .int .i64 0, .string ByteArray.empty] 61) = w.alloc (box kind) from rfl]
  generalize w.alloc (box kind) = w1 at *
  go_quiet (fail)
  go_wp2_with fail
  refine (PL.out _).mono ?_
  rintro e w1 ⟨rfl, rfl⟩
  go_wp2_with fail
  refine (FA.out _).mono ?_
  rintro e w1 ⟨rfl, hb⟩
  go_wp2_with fail
  exact ⟨rfl, rfl, (HBX.out.trans (below_drewN g _ _)).trans hb⟩
set_option maxRecDepth 100000 in
set_option maxHeartbeats 3200000 in
theorem dadd_nil (h : JdB w g s L ro nx cur [] p B) (kind : Int) (hi : (flat [] cur).length < L.items) (hL : L.items ≤ 4096) :
    Calls Tryd.prog 57 #[.pointer (some ⟨g, 0, none⟩), .agg #[.int .i64 kind, .int .i64 0, .string ByteArray.empty]] w (RAdd kind nx cur [] p g s L ro B w) := by
  obtain ⟨vV, vS, h⟩ := h
  have hB0 := h.maps.length
  obtain ⟨aVV, cVV, rfl, -⟩ := own_form h.vals
  obtain ⟨aS, cS, rfl, -⟩ := own_form h.stack
  have HC9 : Hid (w.cell? ⟨g, 9, none⟩ = _) := (by have := h.at0.cell 9 _ rfl; rw [Nat.zero_add] at this; exact this)
  have hA := h.alloc (box kind)
  have HBX : Hid (Below g w (w.alloc (box kind))) := (Below.refl g w).alloc (Nat.le_of_lt h.lt) _
  have HKX : Hid (Kq g w (w.alloc (box kind))) := Kq.alloc g w _
  have HTX : Hid (At (w.alloc (box kind)) w.heap.size 0 [.int .i64 kind, .int .i64 0, .string ByteArray.empty]) := At.ofAlloc w #[.int .i64 kind, .int .i64 0, .string ByteArray.empty] 61
  obtain ⟨m, hm⟩ : ∃ m, (flat [] cur).length = m := ⟨_, rfl⟩
  obtain ⟨T, hT⟩ : ∃ T, w.heap.size = T := ⟨_, rfl⟩
  rw [hm] at hA
  have h4 := hA.at0.cell 4 _ rfl
  have h8 := hA.at0.cell 8 _ rfl
  have h9 := hA.at0.cell 9 _ rfl
  rw [hm] at hi
  have e0 : ¬ (L.items : Int) ≤ (m : Int) := by omega
  have HF := Lib.hid hA
  have HFL : Hid (flat (bump []) (cur ++ [⟨kind, 0, []⟩]) = flat [] cur ++ [⟨kind, 0, []⟩] ∧ (flat [] cur).length = m) := ⟨rfl, hm⟩
  have HX : Hid ((flat [] cur).length = m ∧ m ≤ 4096) := ⟨hm, by omega⟩
  rw [hT] at HTX
  have HTT := Lib.hid hT
  clear h hm hi hL hA
  go_enter Tryd.func57, Tryd.ntmps57
  go_wp2_with fail
  try rw [hT]
  clear hT
  rw [show w.alloc (Obj.cells #[.int .i64 kind, .int .i64 0, .string ByteArray.empty] 61) = w.alloc (box kind) from rfl]
  generalize w.alloc (box kind) = w1 at *
  go_quiet (fail)
  go_upto_region 5 with fail
  have HF2 := Lib.hid (HF.out.drewN nq)
  have HB2 : Hid (Below g w (w1.drewN nq)) := HBX.out.trans (below_drewN g w1 nq)
  have HK2 : Hid (Kq g w (w1.drewN nq)) := HKX.out.trans (Kq.drewN g w1 nq)
  have HT2 : Hid (At (w1.drewN nq) T 0 [.int .i64 kind, .int .i64 0, .string ByteArray.empty]) := HTX.out.drewN nq
  obtain ⟨l2, hl2⟩ : ∃ l, flat [] cur = l := ⟨_, rfl⟩
  rw [hl2] at HF2 HFL HX
  clear hl2
  generalize w1.drewN nq = w2 at HF2 HB2 HK2 HT2 ⊢
  clear h4 h8 h9
  have HV2 : Hid (∀ ob : Obj, ((World.drew w2).alloc ob).ownsRow (g + 1) 61 3 (.slice aVV m cVV) m (vcells l2)) := fun ob => by have h8 := HF2.out.vals; rw [HX.out.1] at h8; exact (own_drewN h8 1).alloc ob
  have k0 := HT2.out.cell 0 _ rfl
  have k1 := HT2.out.cell 1 _ rfl
  have k2 := HT2.out.cell 2 _ rfl
  have c8 := HF2.out.at0.cell 8 _ rfl
  obtain ⟨vV2, hvV2⟩ : ∃ v, Value.slice aVV m cVV = v := ⟨_, rfl⟩
  rw [hvV2] at HV2 HF2 c8
  have d8 : ∀ ob : Obj, (w2.alloc ob).cell? ⟨g, 0 + 8, none⟩ = some vV2 := fun ob => (HF2.out.alloc ob).at0.cell 8 _ rfl
  clear hvV2
  go_wp2_with fail
  go_region_law (first
    | (refine step_append_vl rfl (.tmp 53) (.tmp 55) rfl (g + 1) vV2 m l2 rfl (HV2.out _) _ 1 (⟨kind, 0, []⟩ : Vl) rfl (at_cellsW (vv_new kind) (At.ofAlloc _ #[Value.int .i64 kind, Value.int .i64 0, Value.string ByteArray.empty] 61)) (by have := HX.out.2; omega) (by have := HF2.out.lt; simp; omega) ?_; intro v5 w5 hown5 hgrow5; obtain ⟨a5, c5', hv5, -⟩ := own_form hown5; subst hv5; have hJ := (HF2.out.drewN 1).alloc (box kind); have hAt5 := At.grown hJ.at0 hgrow5 hJ.lt (fun e => by have := ((HV2.out (box kind)).lt g e).1; omega); have hf85 := hAt5.froz 8 (by show 8 < 10; decide); have hc85 := hAt5.cell 8 _ rfl; have HW5 := Lib.hid hown5; have HGR := Lib.hid hgrow5; have HJ := Lib.hid hJ; clear hAt5 hgrow5 hown5 hJ))
  all_goals
    go_wp2_with fail
    first | go_end0 | refine bodyPost_ret (results_none rfl _ _ _) rfl ?_
    have h9 := HJ.out.growV (l' := l2 ++ [(⟨kind, 0, []⟩ : Vl)]) HGR.out (by rw [List.length_append, HX.out.1]; exact HW5.out)
    rw [← HFL.out.1] at h9
    have h99 := h9.at0.cell 9 _ rfl
    rw [Nat.zero_add] at h99
    refine ⟨rfl, ⟨_, _, h9⟩, ?_, ?_, h99.trans HC9.out.symm⟩
    · exact (((HB2.out.trans (below_drewN g _ 1)).alloc (Nat.le_of_lt HF2.out.lt) (box kind)).grown (row := vV2.ownBlock) HGR.out (by have := HF2.out.lt; simp; omega) (fun q hq => by have := ((HV2.out (box kind)).lt q hq).1; omega)).setCell (p := ⟨g, 8, none⟩) (Nat.le_refl g) _
    · exact (((HK2.out.trans (Kq.drewN g _ 1)).trans (Kq.alloc g _ (box kind))).trans (Kq.grown (row := vV2.ownBlock) HGR.out (fun q hq => by obtain ⟨cur, hc⟩ := row_ty (HV2.out (box kind)) hq; exact .inr (fun hn => hn _ hc)))).trans (Kq.setG g _ 8 _)
set_option maxRecDepth 100000 in
set_option maxHeartbeats 6400000 in
theorem dadd_cons (t : Fr) (h : JdB w g s L ro nx cur (t :: G) p B) (kind : Int) (hi : (flat (t :: G) cur).length < L.items) (hL : L.items ≤ 4096) (hl : (t :: G).length ≤ 1000) (hkt : t.n ≤ 1000000) :
    Calls Tryd.prog 57 #[.pointer (some ⟨g, 0, none⟩), .agg #[.int .i64 kind, .int .i64 0, .string ByteArray.empty]] w (RAdd kind nx cur (t :: G) p g s L ro B w) := by
  obtain ⟨vV, vS, h0⟩ := h
  have h := h0.alloc (box kind)
  have hB0 := h.maps.length
  obtain ⟨bm, B, rfl⟩ : ∃ b B', B = b :: B' := by cases B with | nil => cases hB0 | cons b B => exact ⟨b, B, rfl⟩
  obtain ⟨i, hii⟩ : ∃ i, (flat G t.b).length = i := ⟨_, rfl⟩
  obtain ⟨m, hm⟩ : ∃ m, (flat (t :: G) cur).length = m := ⟨_, rfl⟩
  have him : i < m := by rw [← hii, ← hm, flat_cons, List.length_append]; simp
  obtain ⟨qS, capS, rfl, hcapS, hqS, hAtS⟩ := h.top
  obtain ⟨qV, cVV, rfl, hqV, hAtV⟩ := h.value i (by omega)
  rw [← hii, jf_at] at hAtV
  rw [hii] at hAtV hAtS
  have hfz : (Js.hold t).kids = (t.n : Int) := rfl
  obtain ⟨n, hn0⟩ : ∃ n, G.length = n := ⟨_, rfl⟩
  have HC9 : Hid (w.cell? ⟨g, 9, none⟩ = some (.slice (some ⟨qS, 0, none⟩) (n + 1) capS)) := (by have := h0.at0.cell 9 _ rfl; rw [Nat.zero_add, hn0] at this; exact this)
  have h4 := h.at0.cell 4 _ rfl
  have h8 := h.at0.cell 8 _ rfl
  have h9 := h.at0.cell 9 _ rfl
  rw [hn0] at h9 hAtS
  rw [hm] at h8
  have d0 := hAtS.cell 0 _ rfl
  rw [Nat.add_zero] at d0
  have d1 := hAtV.cell 1 _ rfl
  rw [hfz] at d1
  have fd1 := hAtV.froz 1 (by show 1 < 3; decide)
  rw [hm] at hi
  have e0 : ¬ (L.items : Int) ≤ (m : Int) := by omega
  have e1 : (n : Int) + 1 - 1 = (n : Int) := by omega
  have e2 : IntKind.i64.wrap (n : Int) = (n : Int) := wrap_fit n (by unfold maxLen; simp at hl; omega)
  have e3 : (n : Int) < (n : Int) + 1 := by omega
  have e3b : (0 : Int) < (n : Int) + 1 := by omega
  have e4 : (i : Int) < (m : Int) := by omega
  obtain ⟨z, hz⟩ : ∃ z, t.n + 1 = z := ⟨_, rfl⟩
  obtain ⟨tn, htn⟩ : ∃ z, t.n = z := ⟨_, rfl⟩
  rw [htn] at d1 hz hkt
  have e5 : (tn : Int) + 1 = (z : Int) := by omega
  have e6 : IntKind.i64.wrap (z : Int) = (z : Int) := wrap_fit z (by unfold maxLen; omega)
  have HFL : Hid (flat (bump (t :: G)) (cur ++ [⟨kind, 0, []⟩]) = flat (bump (t :: G)) cur ++ [⟨kind, 0, []⟩] ∧ (flat (bump (t :: G)) cur).length = m ∧ (flat (t :: G) cur).length = m) := ⟨flat_app _ _ _, by rw [flat_bump_length, hm], hm⟩
  have HS : Hid (∀ w : World, Jd w g s L ro p nx (flat (t :: G) cur) (t :: G) (bm :: B) (.slice (some ⟨qV, 0, none⟩) m cVV) (.slice (some ⟨qS, 0, none⟩) (n + 1) capS) → Jd (w.setCell ⟨qV, i * 3 + 1, none⟩ (.int .i64 (z : Int))) g s L ro p nx (flat (bump (t :: G)) cur) (bump (t :: G)) (bm :: B) (.slice (some ⟨qV, 0, none⟩) m cVV) (.slice (some ⟨qS, 0, none⟩) (n + 1) capS)) := by
    intro w h
    have h8 := h.setVal rfl hm i 1 (by omega) (by decide) (.int .i64 (z : Int)) (fun v => { v with kids := v.kids + 1 }) (by rw [← hii, jf_at]; show [_, _, _] = [_, _, _]; rw [show ((z : Nat) : Int) = (Js.hold t).kids + 1 by rw [hfz, htn]; omega])
    rw [← hii, jf_kids] at h8
    rw [hii] at h8
    exact ⟨h8.at0, h8.vals, by rw [gcells_bump, bump_length]; exact h8.stack, h8.maps.bump⟩
  have HF := Lib.hid h
  rw [hm, hn0] at HF
  have HBX : Hid (Below g w (w.alloc (box kind))) := (Below.refl g w).alloc (Nat.le_of_lt h0.lt) _
  have HKX : Hid (Kq g w (w.alloc (box kind))) := Kq.alloc g w _
  have HTX : Hid (At (w.alloc (box kind)) w.heap.size 0 [.int .i64 kind, .int .i64 0, .string ByteArray.empty]) := At.ofAlloc w #[.int .i64 kind, .int .i64 0, .string ByteArray.empty] 61
  have HTN : Hid (w.heap.size ≠ qV) := by
    have h1 := (h0.vals.lt qV rfl).2
    show w.heap.size ≠ qV
    omega
  obtain ⟨T, hT⟩ : ∃ T, w.heap.size = T := ⟨_, rfl⟩
  rw [hT] at HTX HTN
  have HX : Hid ((flat (bump (t :: G)) cur).length = m ∧ m ≤ 4096) := ⟨HFL.out.2.1, by omega⟩
  have HQ := Lib.hid (And.intro hqV (And.intro hfz htn))
  clear h h0 hm hi hL hAtS hAtV hB0 hl hkt hn0 hii him hfz htn hz
  go_enter Tryd.func57, Tryd.ntmps57
  go_wp2_with fail
  try rw [hT]
  clear hT
  rw [show w.alloc (Obj.cells #[.int .i64 kind, .int .i64 0, .string ByteArray.empty] 61) = w.alloc (box kind) from rfl]
  generalize w.alloc (box kind) = w1 at *
  go_quiet (fail)
  go_upto_region 4 with fail
  go_region
  go_upto_region 5 with fail
  have HF1 := HF.out.drewN (nq + 1)
  have HF2 := Lib.hid (HS.out _ HF1)
  have HB2 : Hid (Below g w ((w1.drewN (nq + 1)).setCell ⟨qV, i * 3 + 1, none⟩ (.int .i64 (z : Int)))) := (HBX.out.trans (below_drewN g w1 (nq + 1))).setCell (p := ⟨qV, _, none⟩) (Nat.le_of_lt HQ.out.1) _
  have HK2 : Hid (Kq g w ((w1.drewN (nq + 1)).setCell ⟨qV, i * 3 + 1, none⟩ (.int .i64 (z : Int)))) := (HKX.out.trans (Kq.drewN g w1 (nq + 1))).trans (Kq.grown (grown_set _ ⟨qV, i * 3 + 1, none⟩ _) (fun q hq => by cases hq; obtain ⟨cur, hc⟩ := row_ty HF1.vals rfl; exact .inr (fun hn => hn _ hc)))
  have HT2 : Hid (At ((w1.drewN (nq + 1)).setCell ⟨qV, i * 3 + 1, none⟩ (.int .i64 (z : Int))) T 0 [.int .i64 kind, .int .i64 0, .string ByteArray.empty]) := (HTX.out.drewN (nq + 1)).other qV _ _ (.inl (Ne.symm HTN.out))
  clear HF1
  obtain ⟨l2, hl2⟩ : ∃ l, flat (bump (t :: G)) cur = l := ⟨_, rfl⟩
  rw [hl2] at HF2 HFL HX
  clear hl2
  generalize (w1.drewN (nq + 1)).setCell ⟨qV, i * 3 + 1, none⟩ (.int .i64 (z : Int)) = w2 at HF2 HB2 HK2 HT2 ⊢
  clear h4 h8 h9 d0 d1 fd1
  obtain ⟨aVV, haVV⟩ : ∃ a, (some ⟨qV, 0, none⟩ : Option Addr) = a := ⟨_, rfl⟩
  rw [haVV] at HF2
  clear haVV
  have HV2 : Hid (∀ ob : Obj, ((World.drew w2).alloc ob).ownsRow (g + 1) 61 3 (.slice aVV m cVV) m (vcells l2)) := fun ob => by have h8 := HF2.out.vals; rw [HX.out.1] at h8; exact (own_drewN h8 1).alloc ob
  have k0 := HT2.out.cell 0 _ rfl
  have k1 := HT2.out.cell 1 _ rfl
  have k2 := HT2.out.cell 2 _ rfl
  have c8 := HF2.out.at0.cell 8 _ rfl
  obtain ⟨vV2, hvV2⟩ : ∃ v, Value.slice aVV m cVV = v := ⟨_, rfl⟩
  rw [hvV2] at HV2 HF2 c8
  have d8 : ∀ ob : Obj, (w2.alloc ob).cell? ⟨g, 0 + 8, none⟩ = some vV2 := fun ob => (HF2.out.alloc ob).at0.cell 8 _ rfl
  clear hvV2
  go_wp2_with fail
  go_region_law (first
    | (refine step_append_vl rfl (.tmp 53) (.tmp 55) rfl (g + 1) vV2 m l2 rfl (HV2.out _) _ 1 (⟨kind, 0, []⟩ : Vl) rfl (at_cellsW (vv_new kind) (At.ofAlloc _ #[Value.int .i64 kind, Value.int .i64 0, Value.string ByteArray.empty] 61)) (by have := HX.out.2; omega) (by have := HF2.out.lt; simp; omega) ?_; intro v5 w5 hown5 hgrow5; obtain ⟨a5, c5', hv5, -⟩ := own_form hown5; subst hv5; have hJ := (HF2.out.drewN 1).alloc (box kind); have hAt5 := At.grown hJ.at0 hgrow5 hJ.lt (fun e => by have := ((HV2.out (box kind)).lt g e).1; omega); have hf85 := hAt5.froz 8 (by show 8 < 10; decide); have hc85 := hAt5.cell 8 _ rfl; have HW5 := Lib.hid hown5; have HGR := Lib.hid hgrow5; have HJ := Lib.hid hJ; clear hAt5 hgrow5 hown5 hJ))
  all_goals
    go_wp2_with fail
    first | go_end0 | refine bodyPost_ret (results_none rfl _ _ _) rfl ?_
    have h9 := HJ.out.growV (l' := l2 ++ [(⟨kind, 0, []⟩ : Vl)]) HGR.out (by rw [List.length_append, HX.out.1]; exact HW5.out)
    rw [← HFL.out.1] at h9
    have h99 := h9.at0.cell 9 _ rfl
    rw [Nat.zero_add] at h99
    refine ⟨rfl, ⟨_, _, h9⟩, ?_, ?_, h99.trans HC9.out.symm⟩
    · exact (((HB2.out.trans (below_drewN g _ 1)).alloc (Nat.le_of_lt HF2.out.lt) (box kind)).grown (row := vV2.ownBlock) HGR.out (by have := HF2.out.lt; simp; omega) (fun q hq => by have := ((HV2.out (box kind)).lt q hq).1; omega)).setCell (p := ⟨g, 8, none⟩) (Nat.le_refl g) _
    · exact (((HK2.out.trans (Kq.drewN g _ 1)).trans (Kq.alloc g _ (box kind))).trans (Kq.grown (row := vV2.ownBlock) HGR.out (fun q hq => by obtain ⟨cur, hc⟩ := row_ty (HV2.out (box kind)) hq; exact .inr (fun hn => hn _ hc)))).trans (Kq.setG g _ 8 _)
theorem dadd_yes (h : JdB w g s L ro nx cur G p B) (kind : Int) (hi : (flat G cur).length < L.items) (hL : L.items ≤ 4096) (hl : G.length ≤ 1000) (hk : ∀ f ∈ G, f.n ≤ 1000000) :
    Calls Tryd.prog 57 #[.pointer (some ⟨g, 0, none⟩), .agg #[.int .i64 kind, .int .i64 0, .string ByteArray.empty]] w (RAdd kind nx cur G p g s L ro B w) := by
  cases G with
  | nil => exact dadd_nil w g s L ro nx cur p B h kind hi hL
  | cons t G => exact dadd_cons w g s L ro nx cur G p B t h kind hi hL hl (hk t (by simp))
end
end Jd
end Go.Proofs.YtpaikjlcachabaaDoor
namespace Go.Proofs.YtpaikjlcachabaaDoor
open Go.RowKit
set_option linter.unusedVariables false
set_option linter.unusedSimpArgs false
namespace Jd
open Js
open Dr (Rs Lm has lack)
open Jr (Cl sx wx)
theorem StrM.kept {w w' : World} {h g : Nat} {x : Ss} (m : StrM w h x) (hg : w.grownBy w' (some g)) (hl : g < h) : StrM w' h x := by
  obtain ⟨wh, vT, left, num, half, low, high, hx, hw⟩ := m
  refine ⟨wh, vT, left, num, half, low, high, ⟨hx.at0.grown hg hx.lt (by intro e; cases e; omega), hx.text.kept hg ?_⟩, hw⟩
  cases hv : vT.ownBlock with
  | none => exact .inl rfl
  | some q => exact .inr (fun e => by cases e; have := (hx.text.lt g hv).1; omega)
theorem NotT.kept {w w' : World} {h g : Nat} (m : NotT w h) (hg : w.grownBy w' (some g)) (hh : h < w.heap.size) (hl : g < h) : NotT w' h := m.same (hg.block h hh (fun e => by cases e; omega))
theorem StrM.at1 {w : World} {h : Nat} {x : Ss} (m : StrM w h x) : (∃ c cs, At w h 0 (c :: cs)) ∧ h < w.heap.size := by
  obtain ⟨wh, vT, left, num, half, low, high, hx, hw⟩ := m
  exact ⟨⟨_, _, hx.at0⟩, hx.lt⟩
def freshS : Obj := Obj.cells #[.int .i64 0, .slice none 0 0, .int .i64 0, .int .i32 0, .int .i32 0, .int .u8 0, .int .u8 0] 122
def InText (g : Nat) (s : ByteArray) (L : Lm) (ro : Int) (st : St) (p : Nat) (B : List (Option Nat)) (h : Nat) (w : World) (gk : Nat) (wr : World) : Prop :=
  ∃ x q, Hid (JdB wr g s L ro st.nx st.cur st.G q B) ∧ Hid (StrM wr h x) ∧ Hid (okM x.m ∧ x.t.length ≤ 4 * q ∧ p < q ∧ q ≤ s.size ∧ q ≤ L.bytes ∧ s.size - q < gk ∧ Cl s.toList L (sx st x.m x.t) q (sx st .plain []) (p + 1)) ∧ Hid (NotT wr h ∧ g < h) ∧ Hid (Below g w wr)
def RText (st : St) (p g : Nat) (s : ByteArray) (L : Lm) (ro : Int) (B : List (Option Nat)) (w : World) (e : Ending) (w' : World) : Prop :=
  (∃ x : Ss, ∃ q : Nat, p < q ∧ has s.toList L q = true ∧ x.take (s.toList.getD q 0) = .done ∧ (okM x.m ∧ x.t.length ≤ 4 * q) ∧ Cl s.toList L (sx st x.m x.t) q (sx st .plain []) (p + 1) ∧ e = .returned (.string ⟨x.t.toArray⟩) ∧ Hid (JdB w' g s L ro st.nx (withText x.t st.cur) st.G (q + 1) B) ∧ Hid (Below g w w')) ∨
  (∃ c q b t k, RunsT s.toList L (sx st .plain []) (p + 1) (.no c q b) t k ∧ e = .panicked (flt c (q : Int)) ∧ Below g w w')
section
variable (w : World) (g : Nat) (s : ByteArray) (L : Lm) (ro : Int) (st : St) (p : Nat) (B : List (Option Nat))
theorem lack_runs {b : Bool} {c : Int} {q : Nat} (hl : (lack s.toList L : Rs (List Vl)) = .no c q b) (x : Ss) (r : Nat) (hh : has s.toList L r = false) (hc : Cl s.toList L (sx st x.m x.t) r (sx st .plain []) (p + 1)) : ∃ t k, RunsT s.toList L (sx st .plain []) (p + 1) (.no c q b) t k := by
  have h := Jr.sx_lack (S := s.toList) (L := L) (st := st) (m := x.m) (t := x.t) hh
  rw [hl] at h
  exact ⟨_, _, hc _ _ _ h⟩
theorem last_pos {G : List Fr} {cur : List Vl} (h : cur ≠ []) : 0 < (flat G cur).length := by
  cases G with
  | nil => exact List.length_pos_iff.2 h
  | cons f G => rw [flat_cons, List.length_append, List.length_cons]; omega
theorem flat_withText (G : List Fr) (cur : List Vl) (t : List UInt8) (h : cur ≠ []) : flat G (withText t cur) = (flat G cur).modify ((flat G cur).length - 1) (fun v => { v with text := t }) := by
  have hm : ∀ (a b : List Vl), b ≠ [] → (a ++ b).modify ((a ++ b).length - 1) (fun v => { v with text := t }) = a ++ b.modify (b.length - 1) (fun v => { v with text := t }) := by
    intro a b hb
    have hl : 0 < b.length := List.length_pos_iff.2 hb
    induction a with
    | nil => rfl
    | cons x a ih =>
      rw [List.cons_append, List.length_cons, show (a ++ b).length + 1 - 1 = ((a ++ b).length - 1) + 1 by rw [List.length_append]; omega, List.modify_succ_cons, ih, List.cons_append]
  cases G with
  | nil => rfl
  | cons f G =>
    rw [flat_cons, flat_cons, show flat G f.b ++ Js.hold f :: cur = (flat G f.b ++ [Js.hold f]) ++ cur by simp, hm _ _ h, withText]
    simp
/-- the last value's text is stored -/
theorem Jd.setLast {w : World} {g : Nat} {s : ByteArray} {L : Lm} {ro : Int} {p nx : Nat} {cur : List Vl} {G : List Fr} {B : List (Option Nat)} {vV vS : Value} (h : Jd w g s L ro p nx (flat G cur) G B vV vS) (hc : cur ≠ []) (x : List UInt8) {q cap m : Nat} (hk : vV = .slice (some ⟨q, 0, none⟩) (m + 1) cap) (hm : (flat G cur).length = m + 1) :
    Jd (w.setCell ⟨q, m * 3 + 2, none⟩ (.string ⟨x.toArray⟩)) g s L ro p nx (flat G (withText x cur)) G B vV vS := by
  have h8 := h.setVal hk hm m 2 (by omega) (by decide) (.string ⟨x.toArray⟩) (fun v => { v with text := x }) rfl
  rw [flat_withText G cur x hc, hm]
  exact h8
set_option maxRecDepth 100000 in
set_option maxHeartbeats 6400000 in
theorem dtext_any (h : JdB w g s L ro st.nx st.cur st.G p B) (hE : Env s L) (hh : has s.toList L p = true) (hc : st.cur ≠ []) (hsz : (flat st.G st.cur).length ≤ 1000000) :
    Calls Tryd.prog 58 #[.pointer (some ⟨g, 0, none⟩)] w (RText st p g s L ro B w) := by
  have NX := Lib.hid (nextB_yes w g s L ro p h hE hh _ rfl)
  have HE := Lib.hid hE
  have HC := Lib.hid (And.intro hc hsz)
  have hlt := has_lt hh
  rw [tl_size] at hlt
  have HLT := Lib.hid hlt
  clear h hE hh hc hsz hlt
  go_enter Tryd.func58, Tryd.ntmps58
  go_wp2_with fail
  refine NX.out.mono ?_
  rintro e w1 ⟨rfl, hF1, hB1, -⟩
  have hN0 : NotT (w1.alloc freshS) w1.heap.size := notT_new _ _ _ (by decide) (by decide)
  have hS0 : StrM (w1.alloc freshS) w1.heap.size s0 := ⟨0, .slice none 0 0, 0, 0, 0, 0, 0, ⟨At.ofAlloc w1 #[.int .i64 0, .slice none 0 0, .int .i64 0, .int .i32 0, .int .i32 0, .int .u8 0, .int .u8 0] 122, World.ownsRow_nil _ _ _ _⟩, rfl, rfl⟩
  have HIN : Hid (InText g s L ro st p B w1.heap.size w (s.size + 1) (w1.alloc freshS)) := ⟨s0, p + 1, hF1.out.alloc _, hS0, ⟨trivial, by simp [s0], by omega, by have := HLT.out; omega, by have := HLT.out; omega, by omega, Cl.refl _ _ _ _⟩, ⟨hN0, hF1.out.lt⟩, hB1.out.alloc (Nat.le_of_lt hF1.out.lt) _⟩
  clear hN0 hS0 hF1 hB1 NX
  go_wp2_with fail
  obtain ⟨h, hh⟩ : ∃ h, w1.heap.size = h := ⟨_, rfl⟩
  rw [hh] at HIN ⊢
  clear hh
  go_loopg [] (s.size + 1) (fun gk wr => InText g s L ro st p B h w gk wr)
  case atStart => exact HIN.out
  case round =>
    obtain ⟨x, q, HJ, HS, HX, HT, HB⟩ := hrel
    clear HIN
    have hq2 : q ≤ 262144 := by have := HX.out.2.2.2.2.1; have := HE.out.b; omega
    cases hq : has s.toList L q with
    | false =>
      have NQ := Lib.hid (nextB_no wr g s L ro q HJ.out (by omega) hq)
      obtain ⟨bb, hl⟩ := lack_eq s L
      have HRN := Lib.hid (lack_runs s L st p hl x q hq HX.out.2.2.2.2.2.2)
      clear hq hl hq2
      go_wp2_with fail
      refine NQ.out.mono ?_
      rintro e w2 ⟨rfl, hb⟩
      go_wp2_with fail
      obtain ⟨tk, kk, hr⟩ := HRN.out
      exact ⟨rfl, .inr ⟨_, _, _, tk, kk, hr, rfl, HB.out.trans hb⟩⟩
    | true =>
      obtain ⟨b, hb⟩ : ∃ b, s.toList.getD q 0 = b := ⟨_, rfl⟩
      have NQ := Lib.hid (nextB_yes wr g s L ro q HJ.out HE.out hq b hb)
      have HQ := Lib.hid (And.intro hq hb)
      have hqs := has_lt hq
      rw [tl_size] at hqs
      have HQS := Lib.hid (And.intro hqs hq2)
      clear hq hb hqs hq2
      go_wp2_with fail
      refine NQ.out.mono ?_
      rintro e w2 ⟨rfl, hF2, hB2, hG2⟩
      obtain ⟨hob0, hhl0⟩ := StrM.at1 HS.out
      have hS2 := StrM.kept HS.out hG2.out HT.out.2
      have hN2 := NotT.kept HT.out.1 hG2.out hhl0 HT.out.2
      obtain ⟨hob2, hhl2⟩ := StrM.at1 hS2
      have TK := Lib.hid (take_any h x b w2 (by have := HX.out.2.1; have := HQS.out.2; omega) hS2 HX.out.1)
      have HO2 := Lib.hid (And.intro hob2 (And.intro hhl2 hN2))
      clear hob0 hhl0 hS2 hN2 hob2 hhl2 NQ
      obtain ⟨r, hr⟩ : ∃ r, x.take b = r := ⟨_, rfl⟩
      rw [hr] at TK
      have HR := Lib.hid hr
      clear hr
      go_wp2_with fail
      refine TK.out.mono ?_
      cases r with
      | more y =>
        rintro e w3 ⟨rfl, hS3, hT3⟩
        have TA := Lib.hid (taken_ok w3 g 0 true (.inl ⟨rfl, rfl⟩))
        have HF3 : Hid (JdB w3 g s L ro st.nx st.cur st.G (q + 1) B) := hF2.out.take hT3.out HT.out.2 HO2.out.2.1 HO2.out.2.2 HO2.out.1
        have HB3 : Hid (Below g w w3) := (HB.out.trans hB2.out).trans (hT3.out.below.mono (Nat.le_of_lt HT.out.2))
        have HN3 : Hid (NotT w3 h ∧ g < h) := ⟨notT_tk hT3.out HO2.out.2.1 HO2.out.2.2, HT.out.2⟩
        have HX3 : Hid (okM y.m ∧ y.t.length ≤ 4 * (q + 1) ∧ p < q + 1 ∧ q + 1 ≤ s.size ∧ q + 1 ≤ L.bytes ∧ s.size - (q + 1) < s.size - q ∧ Cl s.toList L (sx st y.m y.t) (q + 1) (sx st .plain []) (p + 1)) := by
          have h1 := HQS.out.1
          have h2 := Js.take_len HR.out
          have h3 := HX.out.2.1
          refine ⟨take_ok _ _ _ HX.out.1 HR.out, by omega, by have := HX.out.2.2.1; omega, by omega, by omega, by omega, ?_⟩
          refine Cl.trans (Jr.sx_more HQ.out.1 ?_) HX.out.2.2.2.2.2.2
          rw [HQ.out.2]
          exact HR.out
        have HGK : Hid (s.size - q < gk) := HX.out.2.2.2.2.2.1
        clear TK
        go_wp2_with fail
        refine TA.out.mono ?_
        rintro e w4 ⟨rfl, rfl⟩
        go_wp2_with fail
        go_roundg (s.size - q)
        case measure => exact HGK.out
        case rel => exact ⟨y, q + 1, HF3, hS3, HX3, HN3, HB3⟩
      | bad =>
        rintro e w3 ⟨rfl, hT3⟩
        have HF3 : Hid (JdB w3 g s L ro st.nx st.cur st.G (q + 1) B) := hF2.out.take hT3.out HT.out.2 HO2.out.2.1 HO2.out.2.2 HO2.out.1
        have HB3 : Hid (Below g w w3) := (HB.out.trans hB2.out).trans (hT3.out.below.mono (Nat.le_of_lt HT.out.2))
        have TA := Lib.hid (taken_bad w3 g s L q HF3.out.tx.1 HQS.out.2)
        have HRB : Hid (RunsT s.toList L (sx st .plain []) (p + 1) (.no 9 q false) (q + 1) st.G.length) := HX.out.2.2.2.2.2.2 _ _ _ (Jr.sx_bad HQ.out.1 (by rw [HQ.out.2]; exact HR.out))
        clear TK
        go_wp2_with fail
        refine TA.out.mono ?_
        rintro e w4 ⟨rfl, hb4⟩
        go_wp2_with fail
        exact ⟨rfl, .inr ⟨_, _, _, _, _, HRB.out, rfl, HB3.out.trans hb4⟩⟩
      | done =>
        rintro e w3 ⟨rfl, hS3, hT3⟩
        have TA := Lib.hid (taken_ok w3 g 1 false (.inr ⟨rfl, rfl⟩))
        have hF3 : JdB w3 g s L ro st.nx st.cur st.G (q + 1) B := hF2.out.take hT3.out HT.out.2 HO2.out.2.1 HO2.out.2.2 HO2.out.1
        have HB3 : Hid (Below g w w3) := (HB.out.trans hB2.out).trans (hT3.out.below.mono (Nat.le_of_lt HT.out.2))
        obtain ⟨wh, vT, left, num, half, low, high, hx, -⟩ := hS3.out
        have TX := Lib.hid (stext_any h wh vT left num half low high x.t w3 hx)
        obtain ⟨vV, vS, hJ3⟩ := hF3
        have hm0 := last_pos (G := st.G) HC.out.1
        obtain ⟨m, hm⟩ : ∃ m, (flat st.G st.cur).length = m + 1 := ⟨(flat st.G st.cur).length - 1, by omega⟩
        obtain ⟨qV, capV, rfl, hqV, hAtV⟩ := hJ3.value m (by omega)
        have c8 := hJ3.at0.cell 8 _ rfl
        rw [hm] at c8 hJ3
        have d2 := hAtV.cell 2 _ rfl
        have fd2 := hAtV.froz 2 (by show 2 < 3; decide)
        have e1 : (m : Int) + 1 - 1 = (m : Int) := by omega
        have e2 : IntKind.i64.wrap (m : Int) = (m : Int) := wrap_fit m (by have := HC.out.2; unfold maxLen; omega)
        have e3 : (m : Int) < (m : Int) + 1 := by omega
        have HJ3 := Lib.hid hJ3
        have HM := Lib.hid (And.intro hm hqV)
        clear TK hx hAtV hm hqV hm0 hJ3
        go_wp2_with fail
        refine TA.out.mono ?_
        rintro e w4 ⟨rfl, rfl⟩
        go_wp2_with fail
        refine TX.out.mono ?_
        rintro e w4 ⟨rfl, rfl⟩
        go_wp2_with fail
        go_region
        go_wp2_with fail
        go_ret
        refine .inl ⟨x, q, HX.out.2.2.1, HQ.out.1, by rw [HQ.out.2]; exact HR.out, ⟨HX.out.1, HX.out.2.1⟩, HX.out.2.2.2.2.2.2, rfl, ⟨_, _, ((HJ3.out.drewN 1).setLast HC.out.1 x.t rfl HM.out.1)⟩, ?_⟩
        exact (HB3.out.trans (below_drewN g w3 1)).setCell (p := ⟨qV, _, none⟩) (Nat.le_of_lt HM.out.2) _
end
end Jd
end Go.Proofs.YtpaikjlcachabaaDoor
namespace Go.Proofs.YtpaikjlcachabaaDoor
open Go.RowKit
set_option linter.unusedVariables false
set_option linter.unusedSimpArgs false
namespace Jd
open Js
open Dr (Rs Lm has lack)
open Jr (Cl sx wx)
/-- what reading comes to: a state between what is read, further on; or a fault -/
def RStep (st : St) (p g : Nat) (s : ByteArray) (L : Lm) (ro : Int) (w : World) (e : Ending) (w' : World) : Prop :=
  (∃ st' p', p < p' ∧ p' ≤ s.size ∧ p' ≤ L.bytes ∧ st'.hand = .none ∧ Inv L st' p' ∧ Cl s.toList L st' p' st p ∧ e = .returned (.tuple #[]) ∧ Hid (JdS w' g s L ro st' p') ∧ Hid (Below g w w')) ∨
  (∃ c q b t k, RunsT s.toList L st p (.no c q b) t k ∧ e = .panicked (flt c (q : Int)) ∧ Below g w w')
/-- one step of the machine -/
theorem cl_go {S : List UInt8} {L : Lm} {st st' : St} {p : Nat} {b : UInt8} (hh : has S L p = true) (hb : S.getD p 0 = b) (ha : st.act L b p = .go st') : Cl S L st' (p + 1) st p := fun r t k h => go_at hh hb ha h
theorem Inv.hands {L : Lm} {st : St} {k k' : Nat} {hd : Hd} (h : Inv L st k) (hk : k ≤ k') (hne : st.hand ≠ .none) (hne' : hd ≠ .none) (hstr : ∀ x, st.hand = .str x → ∃ y, hd = .str y) (ho : handOk k' hd) : Inv L { st with hand := hd } k' :=
  ⟨ho, fun _ => h.cur hne, fun e => absurd e hne', fun _ => (h.nx1 hne).imp id (fun ⟨a, h1, h2, ⟨x, h3⟩, h4⟩ => ⟨a, h1, by omega, hstr x h3, h4⟩), h.size, h.deep, fun f hf => Nat.le_trans (h.kids f hf) hk, fun f hf x hx => Nat.le_trans (h.names f hf x hx) hk⟩
def WM (w : World) (h : Nat) (r : List UInt8) : Prop := At w h 0 [.string (str r)]
def InWord (g : Nat) (s : ByteArray) (L : Lm) (ro : Int) (st : St) (r0 : List UInt8) (p : Nat) (B : List (Option Nat)) (h : Nat) (w : World) (gk : Nat) (wr : World) : Prop :=
  ∃ r q, Hid (JdB wr g s L ro st.nx st.cur st.G q B) ∧ Hid (WM wr h r) ∧ Hid ((r ≠ [] ∧ r.length ≤ 10) ∧ p < q ∧ q ≤ s.size ∧ q ≤ L.bytes ∧ s.size - q < gk ∧ Cl s.toList L (wx st r) q (wx st r0) (p + 1)) ∧ Hid (NotT wr h ∧ g < h) ∧ Hid (Below g w wr)
def freshW (r : List UInt8) : Obj := Obj.cells #[.string (str r)] 135
section
variable (w : World) (g : Nat) (s : ByteArray) (L : Lm) (ro : Int) (st : St) (p : Nat) (B : List (Option Nat))
theorem lack_runsW {b : Bool} {c : Int} {q : Nat} (hl : (lack s.toList L : Rs (List Vl)) = .no c q b) (x0 x : List UInt8) (r : Nat) (hh : has s.toList L r = false) (hc : Cl s.toList L (wx st x) r (wx st x0) (p + 1)) : ∃ t k, RunsT s.toList L (wx st x0) (p + 1) (.no c q b) t k := by
  have h : RunsT s.toList L (wx st x) r (lack s.toList L) (lackK s.toList L) st.G.length := stop_lack hh (fun _ => Jr.wx_last st x)
  rw [hl] at h
  exact ⟨_, _, hc _ _ _ h⟩
set_option maxRecDepth 100000 in
set_option maxHeartbeats 6400000 in
theorem dword_any (h : JdB w g s L ro st.nx st.cur st.G p B) (hE : Env s L) (hI : Inv L st p) (hsh : st.hand = .none) (x : UInt8) (r0 : List UInt8) (hr0 : r0 ≠ [] ∧ r0.length ≤ 10) (hh : has s.toList L p = true) (hx : s.toList.getD p 0 = x) (kind : Int)
    (ha : st.act L x p = st.add L p (.go (st.begin kind (.word r0)))) :
    Calls Tryd.prog 60 #[.pointer (some ⟨g, 0, none⟩), .int .i64 kind, .string (str (x :: r0))] w (RStep st p g s L ro w) := by
  have hkd : ∀ f ∈ st.G, f.n ≤ 1000000 := fun f hf => by have := hI.kids f hf; have := (has_lt hh).2; have := hE.b; omega
  have hl : st.G.length ≤ 1000 := by have := hI.deep; have := hE.d; omega
  rw [St.add] at ha
  by_cases hi : L.items ≤ st.size
  · have AD := Lib.hid (dadd_no w g s L ro st.nx st.cur st.G p B h kind hi)
    rw [if_pos hi] at ha
    have HR : Hid (RunsT s.toList L st p (.no 10 p false) (p + 1) st.G.length) := fl_at hh hx ha
    clear h hE hI hsh hh hx ha hkd hl hi
    go_enter Tryd.func60, Tryd.ntmps60
    go_wp2_with fail
    refine AD.out.mono ?_
    rintro e w1 ⟨rfl, hb⟩
    go_wp2_with fail
    exact ⟨rfl, .inr ⟨_, _, _, _, _, HR.out, rfl, hb⟩⟩
  rw [if_neg hi] at ha
  have AD := Lib.hid (dadd_yes w g s L ro st.nx st.cur st.G p B h kind (by rw [St.size] at hi; omega) hE.i hl hkd)
  obtain ⟨st1, hst1⟩ : ∃ x, st.begin kind (.word r0) = x := ⟨_, rfl⟩
  have hI1 : Inv L st1 (p + 1) := hI.act (by rw [ha, hst1])
  have hC1 : Cl s.toList L st1 (p + 1) st p := cl_go hh hx (by rw [ha, hst1])
  have hw1 : wx st1 r0 = st1 := by rw [← hst1]; rfl
  have hAD : ∀ {e : Ending} {w' : World}, RAdd kind st.nx st.cur st.G p g s L ro B w e w' → e = .returned (.tuple #[]) ∧ Hid (JdB w' g s L ro st1.nx st1.cur st1.G p B) ∧ Hid (Below g w w') := by
    rintro e w' ⟨h1, h2, h3, -⟩
    rw [← hst1]
    exact ⟨h1, h2, h3⟩
  have HAD := Lib.hid (fun (e : Ending) (w' : World) => @hAD e w')
  have hlt := has_lt hh
  rw [tl_size] at hlt
  have HX0 := Lib.hid (And.intro hh (And.intro hx (And.intro hI1 (And.intro hC1 (And.intro hw1 (And.intro hr0 hlt))))))
  have HE := Lib.hid hE
  have NW := Lib.hid (fun w => newWord_any x r0 hr0.2 w)
  have HH1 : Hid (st1.hand = .word r0) := by show _ = _; rw [← hst1]; rfl
  obtain ⟨ws, hws⟩ : ∃ u, str (x :: r0) = u := ⟨_, rfl⟩
  rw [hws] at NW ⊢
  clear h hE hI hsh hh hx ha hkd hl hi hst1 hI1 hC1 hw1 hAD hlt hws hr0
  go_enter Tryd.func60, Tryd.ntmps60
  go_wp2_with fail
  refine AD.out.mono ?_
  intro e w1 hAD1
  obtain ⟨rfl, hF1, hB1⟩ := HAD.out e w1 hAD1
  have NX := Lib.hid (nextB_yes w1 g s L ro p hF1.out HE.out HX0.out.1 x HX0.out.2.1)
  clear hAD1
  go_wp2_with fail
  refine NX.out.mono ?_
  rintro e w2 ⟨rfl, hF2, hB2, -⟩
  go_wp2_with fail
  refine (NW.out _).mono ?_
  rintro e w3 ⟨rfl, rfl⟩
  have HIN : Hid (InWord g s L ro st1 r0 p B w2.heap.size w (s.size + 1) (w2.alloc (freshW r0))) := ⟨r0, p + 1, hF2.out.alloc _, At.ofAlloc w2 #[.string (str r0)] 135, ⟨HX0.out.2.2.2.2.2.1, by omega, by have := HX0.out.2.2.2.2.2.2; omega, by have := HX0.out.2.2.2.2.2.2; omega, by omega, Cl.refl _ _ _ _⟩, ⟨notT_new _ _ _ (by decide) (by decide), hF2.out.lt⟩, (hB1.out.trans hB2.out).alloc (Nat.le_of_lt hF2.out.lt) _⟩
  clear hF1 hB1 hF2 hB2 NX AD NW
  go_wp2_with fail
  rw [show w2.alloc (Obj.cells #[.string (str r0)] 135) = w2.alloc (freshW r0) from rfl]
  obtain ⟨h, hh⟩ : ∃ h, w2.heap.size = h := ⟨_, rfl⟩
  rw [hh] at HIN ⊢
  clear hh
  generalize w2.alloc (freshW r0) = w3 at HIN ⊢
  go_loopg [] (s.size + 1) (fun gk wr => InWord g s L ro st1 r0 p B h w gk wr)
  case atStart => exact HIN.out
  case round =>
    obtain ⟨r, q, HJ, HS, HX, HT, HB⟩ := hrel
    clear HIN
    have hq2 : q ≤ 262144 := by have := HX.out.2.2.2.1; have := HE.out.b; omega
    cases hq : has s.toList L q with
    | false =>
      have NQ := Lib.hid (nextB_no wr g s L ro q HJ.out (by omega) hq)
      obtain ⟨bb, hl⟩ := lack_eq s L
      obtain ⟨tk, kk, hr⟩ := lack_runsW s L st1 p hl r0 r q hq HX.out.2.2.2.2.2
      rw [HX0.out.2.2.2.2.1] at hr
      have HRN := Lib.hid (HX0.out.2.2.2.1 _ _ _ hr)
      clear hq hl hq2 hr
      go_wp2_with fail
      refine NQ.out.mono ?_
      rintro e w2 ⟨rfl, hb⟩
      go_wp2_with fail
      exact ⟨rfl, .inr ⟨_, _, _, tk, kk, HRN.out, rfl, HB.out.trans hb⟩⟩
    | true =>
      obtain ⟨b, hb⟩ : ∃ b, s.toList.getD q 0 = b := ⟨_, rfl⟩
      have NQ := Lib.hid (nextB_yes wr g s L ro q HJ.out HE.out hq b hb)
      have HQ := Lib.hid (And.intro hq hb)
      have hqs := has_lt hq
      rw [tl_size] at hqs
      have HQS := Lib.hid (And.intro hqs hq2)
      obtain ⟨y, r1, rfl⟩ : ∃ y r1, r = y :: r1 := by
        cases r with
        | nil => exact absurd rfl HX.out.1.1
        | cons y r1 => exact ⟨y, r1, rfl⟩
      clear hq hb hqs hq2
      go_wp2_with fail
      refine NQ.out.mono ?_
      rintro e w2 ⟨rfl, hF2, hB2, hG2⟩
      have hhl0 : h < wr.heap.size := HS.out.lt (by simp)
      have hS2 : WM w2 h (y :: r1) := At.grown HS.out hG2.out hhl0 (by have := HT.out.2; intro e; cases e; omega)
      have hN2 := NotT.kept HT.out.1 hG2.out hhl0 HT.out.2
      have hhl2 : h < w2.heap.size := hS2.lt (by simp)
      have TK := Lib.hid (wordTake_any h y r1 b (by have := HX.out.1.2; simp at this; omega) w2 hS2)
      have HO2 : Hid ((∃ c cs, At w2 h 0 (c :: cs)) ∧ h < w2.heap.size ∧ NotT w2 h) := ⟨⟨_, _, hS2⟩, hhl2, hN2⟩
      have HI2 : Hid (Inv L (wx st1 (y :: r1)) q) := by
        have h1 : Inv L { st1 with hand := .word (y :: r1) } q := Inv.hands HX0.out.2.2.1 (by have := HX.out.2.1; omega) (by rw [HH1.out]; simp) (by simp) (fun x hx => by rw [HH1.out] at hx; cases hx) HX.out.1
        exact h1
      clear hhl0 hS2 hN2 hhl2 NQ
      go_wp2_with fail
      refine TK.out.mono ?_
      rintro e w3 (⟨hne, rfl, rfl⟩ | ⟨hby, he, hA3, hT3⟩)
      · have TA := Lib.hid (taken_bad w2 g s L q hF2.out.tx.1 HQS.out.2)
        have HB3 : Hid (Below g w w2) := HB.out.trans hB2.out
        have HRB : Hid (RunsT s.toList L st p (.no 9 q false) (q + 1) st1.G.length) := by
          have h1 : RunsT s.toList L (wx st1 (y :: r1)) q (.no 9 q false) (q + 1) st1.G.length := fl_at (s := wx st1 (y :: r1)) HQ.out.1 HQ.out.2 (by rw [Jr.wx_act, if_neg hne])
          have h2 := HX.out.2.2.2.2.2 _ _ _ h1
          rw [HX0.out.2.2.2.2.1] at h2
          exact HX0.out.2.2.2.1 _ _ _ h2
        clear TK hne
        go_wp2_with fail
        refine TA.out.mono ?_
        rintro e w4 ⟨rfl, hb4⟩
        go_wp2_with fail
        exact ⟨rfl, .inr ⟨_, _, _, _, _, HRB.out, rfl, HB3.out.trans hb4⟩⟩
      · have HF3 : Hid (JdB w3 g s L ro st1.nx st1.cur st1.G (q + 1) B) := hF2.out.take hT3.out HT.out.2 HO2.out.2.1 HO2.out.2.2 HO2.out.1
        have HB3 : Hid (Below g w w3) := (HB.out.trans hB2.out).trans (hT3.out.below.mono (Nat.le_of_lt HT.out.2))
        by_cases hr1 : r1 = []
        · rw [if_pos hr1] at he
          subst he
          have TA := Lib.hid (taken_ok w3 g 1 false (.inr ⟨rfl, rfl⟩))
          have hact : (wx st1 (y :: r1)).act L b q = .go st1.ended := by rw [Jr.wx_act, if_pos hby, if_pos hr1]
          have HC3 : Hid (Cl s.toList L st1.ended (q + 1) st p) := by
            have h1 := Cl.trans (cl_go HQ.out.1 HQ.out.2 hact) HX.out.2.2.2.2.2
            rw [HX0.out.2.2.2.2.1] at h1
            exact Cl.trans h1 HX0.out.2.2.2.1
          have HI3 : Hid (Inv L st1.ended (q + 1)) := HI2.out.act hact
          have EN := Lib.hid (dended_any w3 g s L ro st1 (q + 1) ⟨B, HF3.out⟩ (by have := HX0.out.2.2.1.deep; have := HE.out.d; omega))
          clear TK hr1 hact hby
          go_wp2_with fail
          refine TA.out.mono ?_
          rintro e w4 ⟨rfl, rfl⟩
          go_wp2_with fail
          refine EN.out.mono ?_
          rintro e w4 ⟨rfl, hF4, hB4⟩
          go_wp2_with fail
          first | go_end0 | refine bodyPost_ret (results_none rfl _ _ _) rfl ?_
          exact .inl ⟨st1.ended, q + 1, by have := HX.out.2.1; omega, by have := HQS.out.1; omega, by have := HQS.out.1; omega, rfl, HI3.out, HC3.out, rfl, hF4, HB3.out.trans hB4.out⟩
        · rw [if_neg hr1] at he
          subst he
          have TA := Lib.hid (taken_ok w3 g 0 true (.inl ⟨rfl, rfl⟩))
          have hact : (wx st1 (y :: r1)).act L b q = .go (wx st1 r1) := by rw [Jr.wx_act, if_pos hby, if_neg hr1]
          have HN3 : Hid (NotT w3 h ∧ g < h) := ⟨notT_tk hT3.out HO2.out.2.1 HO2.out.2.2, HT.out.2⟩
          have HX3 : Hid ((r1 ≠ [] ∧ r1.length ≤ 10) ∧ p < q + 1 ∧ q + 1 ≤ s.size ∧ q + 1 ≤ L.bytes ∧ s.size - (q + 1) < s.size - q ∧ Cl s.toList L (wx st1 r1) (q + 1) (wx st1 r0) (p + 1)) := by
            have h1 := HQS.out.1
            exact ⟨⟨hr1, by have := HX.out.1.2; simp at this; omega⟩, by have := HX.out.2.1; omega, by omega, by omega, by omega, Cl.trans (cl_go HQ.out.1 HQ.out.2 hact) HX.out.2.2.2.2.2⟩
          have HGK : Hid (s.size - q < gk) := HX.out.2.2.2.2.1
          clear TK hr1 hact hby
          go_wp2_with fail
          refine TA.out.mono ?_
          rintro e w4 ⟨rfl, rfl⟩
          go_wp2_with fail
          go_roundg (s.size - q)
          case measure => exact HGK.out
          case rel => exact ⟨r1, q + 1, HF3, hA3, HX3, HN3, HB3⟩
end
end Jd
end Go.Proofs.YtpaikjlcachabaaDoor
