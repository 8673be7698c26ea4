/- json's reader in memory (layer 16). -/
import Derived.Test.YtilfidcomeandaaJsW
import Derived.Test.YtilfidcomeandaaJfP
import Derived.Test.YtilfidcomeandaaJtK
import Derived.Test.YtilfidcomeandaaDrD
namespace Go.Proofs.Ytilfidcomeandaa
open Go.RowKit
set_option linter.unusedVariables false
set_option linter.unusedSimpArgs false
namespace Jd
open Js
open Dr (Rs Lm has lack)
theorem own_takeF {w : World} {B e size n m cap : Nat} {a : Option Addr} {xs : List Value} (h : w.ownsRow B e size (.slice a n cap) n xs) (hm : m ≤ n) (h0 : 0 < n) : w.ownsRow B e size (.slice a m cap) m (xs.take (m * size)) := by
  obtain ⟨hl, h⟩ := h
  have hms : m * size ≤ n * size := Nat.mul_le_mul_right _ hm
  refine ⟨by rw [List.length_take]; omega, ?_⟩
  rcases h with ⟨h1, h2⟩ | ⟨g, cap', cur, h1, h2, h3, h4, h5, h6, h7⟩
  · omega
  · cases h1
    refine .inr ⟨g, cap, cur, rfl, h2, h3, by omega, h5, h6, ?_⟩
    rw [← h7, List.take_take, Nat.min_eq_left hms]
theorem grown_set (w : World) (a : Addr) (u : Value) : w.grownBy (w.setCell a u) (some a.block) := ⟨rfl, rfl, rfl, by simp [World.setCell], fun k hk hne => Below.heap_setCell _ _ _ _ (fun e => hne (by rw [e]))⟩
theorem below_drewN (B : Nat) (w : World) (k : Nat) : Below B w (w.drewN k) := ⟨rfl, rfl, rfl, Nat.le_refl _, fun _ _ => rfl⟩
theorem grown_of_below {w w' : World} (hb : Below w.heap.size w w') : w.grownBy w' none := ⟨hb.os, hb.tape, hb.output, hb.size, fun k hk _ => hb.block k hk⟩
theorem grown_draw (w : World) (k : Nat) (a : Addr) (u : Value) : w.grownBy ((w.drewN k).setCell a u) (some a.block) :=
  have h := grown_set (w.drewN k) a u
  ⟨h.os, h.tape, h.output, h.size, h.block⟩
/-- a block that is no row of values nor of what is begun -/
def NotT (w : World) (a : Nat) : Prop := (∀ cur, w.heap[a]? ≠ some (.cells cur 62 (0, 0))) ∧ (∀ cur, w.heap[a]? ≠ some (.cells cur 106 (0, 0)))
theorem notT_tk {q : Nat} {w w' : World} (h : Tk q w w') (hl : q < w.heap.size) (hn : NotT w q) : NotT w' q :=
  ⟨fun cur hc => by obtain ⟨c2, h2⟩ := h.ty hl _ _ hc; exact hn.1 _ h2, fun cur hc => by obtain ⟨c2, h2⟩ := h.ty hl _ _ hc; exact hn.2 _ h2⟩
theorem NotT.same {w w' : World} {a : Nat} (h : NotT w a) (hs : w'.heap[a]? = w.heap[a]?) : NotT w' a := ⟨fun cur => by rw [hs]; exact h.1 cur, fun cur => by rw [hs]; exact h.2 cur⟩
theorem notT_new (w : World) (c : Array Value) (e : TypeId) (h1 : e ≠ 62) (h2 : e ≠ 106) : NotT (w.alloc (Obj.cells c e)) w.heap.size := by
  constructor
  · intro cur hc
    rw [(MapKept.heap_alloc w _).1] at hc
    injection hc with hc
    injection hc with _ hc
    exact h1 hc
  · intro cur hc
    rw [(MapKept.heap_alloc w _).1] at hc
    injection hc with hc
    injection hc with _ hc
    exact h2 hc
/-- a reader's cells -/
def dc (s : ByteArray) (L : Lm) (ro : Int) (p nx : Nat) (vV vS : Value) : List Value :=
  [.string s, .int .i64 (L.bytes : Int), .int .i64 (p : Int), .int .i64 (L.depth : Int), .int .i64 (L.items : Int), .int .i64 (L.bytes : Int), .int .i64 ro, .int .i64 (nx : Int), vV, vS]
structure Jd (w : World) (g : Nat) (s : ByteArray) (L : Lm) (ro : Int) (p nx : Nat) (l : List Vl) (G : List Fr) (B : List (Option Nat)) (vV vS : Value) : Prop where
  at0 : At w g 0 (dc s L ro p nx vV vS)
  vals : w.ownsRow (g + 1) 62 3 vV l.length (vcells l)
  stack : w.ownsRow (g + 1) 106 2 vS G.length (gcells G B)
  maps : Ms w (g + 1) G B
theorem val_ne_begun : (62 : Nat) ≠ 106 := by decide
theorem apart_of {v u : Value} (h : v.ownBlock = none ∨ v.ownBlock ≠ u.ownBlock) {k : Nat} (hk : u.ownBlock = some k) : v.ownBlock ≠ some k := by
  rcases h with h | h
  · rw [h]; exact fun e => by cases e
  · rw [← hk]; exact h
section
variable {w w' : World} {g : Nat} {s : ByteArray} {L : Lm} {ro : Int} {p nx : Nat} {l : List Vl} {G : List Fr} {B : List (Option Nat)} {vV vS : Value} {t : Fr}
theorem Jd.lt (h : Jd w g s L ro p nx l G B vV vS) : g < w.heap.size := h.at0.lt (by simp [dc])
theorem Jd.tx (h : Jd w g s L ro p nx l G B vV vS) : Tx w g 0 s L.bytes p ∧ w.frozen? ⟨g, 2, none⟩ = false := by
  refine ⟨⟨?_, ?_, ?_⟩, ?_⟩
  · have := h.at0.cell 0 _ rfl; rw [Nat.zero_add] at this; exact this
  · have := h.at0.cell 1 _ rfl; rw [Nat.zero_add] at this; exact this
  · have := h.at0.cell 2 _ rfl; rw [Nat.zero_add] at this; exact this
  · have := h.at0.froz 2 (by show 2 < 10; decide); rw [Nat.zero_add] at this; exact this
theorem Jd.drewN (h : Jd w g s L ro p nx l G B vV vS) (n : Nat) : Jd (w.drewN n) g s L ro p nx l G B vV vS :=
  ⟨h.at0.drewN n, own_drewN h.vals n, own_drewN h.stack n, h.maps.same (fun _ _ _ _ => rfl)⟩
/-- a cell of the reader's own is stored -/
theorem Jd.set (h : Jd w g s L ro p nx l G B vV vS) (j : Nat) (u : Value) {p' nx' : Nat}
    (he : (dc s L ro p nx vV vS).set j u = dc s L ro p' nx' vV vS) : Jd (w.setCell ⟨g, j, none⟩ u) g s L ro p' nx' l G B vV vS := by
  have h1 := h.at0.set j u
  rw [Nat.zero_add, he] at h1
  exact ⟨h1, ownsRow_setCell_below h.vals (Nat.lt_succ_self g) _, ownsRow_setCell_below h.stack (Nat.lt_succ_self g) _, h.maps.kept (grown_set w ⟨g, j, none⟩ u) (fun b xs hb hm => by rintro ⟨⟩; exact hm.ne_at h.at0 rfl)⟩
theorem Jd.alloc (h : Jd w g s L ro p nx l G B vV vS) (o : Obj) : Jd (w.alloc o) g s L ro p nx l G B vV vS :=
  ⟨h.at0.alloc o, h.vals.alloc o, h.stack.alloc o, h.maps.kept (World.grownBy_alloc w o none) (fun _ _ _ _ => by simp)⟩
theorem Jd.below (h : Jd w g s L ro p nx l G B vV vS) (hb : Below w.heap.size w w') : Jd w' g s L ro p nx l G B vV vS :=
  ⟨h.at0.below hb h.lt, own_below h.vals hb (Nat.le_refl _), own_below h.stack hb (Nat.le_refl _), h.maps.kept (grown_of_below hb) (fun _ _ _ _ => by simp)⟩
/-- the row of values has grown -/
theorem Jd.growV (h : Jd w g s L ro p nx l G B vV vS) {l' : List Vl} {v' : Value} (hg : w.grownBy w' vV.ownBlock) (ho : w'.ownsRow (g + 1) 62 3 v' l'.length (vcells l')) :
    Jd (w'.setCell ⟨g, 8, none⟩ v') g s L ro p nx l' G B v' vS := by
  have hlt := h.lt
  have h1 := h.at0.grown hg hlt (fun e => by have := (h.vals.lt g e).1; omega)
  have h2 := h.maps.kept hg (fun b xs hb hm => hm.ne_row h.vals)
  have h4 := h.stack.kept hg (own_ne h.stack h.vals (Ne.symm val_ne_begun))
  have h5 := grown_set w' ⟨g, 8, none⟩ v'
  exact ⟨h1.set 8 v', ownsRow_setCell_below ho (Nat.lt_succ_self g) _, ownsRow_setCell_below h4 (Nat.lt_succ_self g) _, h2.kept h5 (fun b xs hb hm => by rintro ⟨⟩; exact hm.ne_at h1 rfl)⟩
/-- the row of what is begun has grown -/
theorem Jd.growS (h : Jd w g s L ro p nx l G B vV vS) {G' : List Fr} {B' : List (Option Nat)} {v' : Value} (hg : w.grownBy w' vS.ownBlock) (ho : w'.ownsRow (g + 1) 106 2 v' G'.length (gcells G' B')) (hm : Ms w' (g + 1) G' B') :
    Jd (w'.setCell ⟨g, 9, none⟩ v') g s L ro p nx l G' B' vV v' := by
  have hlt := h.lt
  have h1 := h.at0.grown hg hlt (fun e => by have := (h.stack.lt g e).1; omega)
  have h4 := h.vals.kept hg (own_ne h.vals h.stack val_ne_begun)
  have h5 := grown_set w' ⟨g, 9, none⟩ v'
  exact ⟨h1.set 9 v', ownsRow_setCell_below h4 (Nat.lt_succ_self g) _, ownsRow_setCell_below ho (Nat.lt_succ_self g) _, hm.kept h5 (fun b xs hb hm => by rintro ⟨⟩; exact hm.ne_at h1 rfl)⟩
/-- the topmost one is let go -/
theorem Jd.pop {b : Option Nat} (h : Jd w g s L ro p nx l (t :: G) (b :: B) vV vS) {q cap n : Nat} (hk : vS = .slice (some ⟨q, 0, none⟩) (n + 1) cap) (hn : G.length = n) :
    Jd (w.setCell ⟨g, 9, none⟩ (.slice (some ⟨q, 0, none⟩) n cap)) g s L ro p nx l G B vV (.slice (some ⟨q, 0, none⟩) n cap) := by
  subst hn
  have h8 := h.stack
  rw [hk] at h8
  have h9 := own_takeF h8 (m := G.length) (by omega) (by omega)
  have hm := h.maps
  have hl : B.length = G.length := by have := hm.length; simpa using this
  rw [gcells_cons, List.take_left' (by rw [gcells_length hl, Nat.mul_comm])] at h9
  have hm2 : Ms w (g + 1) G B := by cases hm <;> assumption
  exact ⟨h.at0.set 9 _, ownsRow_setCell_below h.vals (Nat.lt_succ_self g) _, ownsRow_setCell_below h9 (Nat.lt_succ_self g) _, hm2.kept (grown_set w ⟨g, 9, none⟩ _) (fun b xs hb hm => by rintro ⟨⟩; exact hm.ne_at h.at0 rfl)⟩
/-- the topmost one's cells -/
theorem Jd.top {b : Option Nat} (h : Jd w g s L ro p nx l (t :: G) (b :: B) vV vS) : ∃ q cap, vS = .slice (some ⟨q, 0, none⟩) (G.length + 1) cap ∧ G.length + 1 ≤ cap ∧ g < q ∧ At w q (G.length * 2) [.int .i64 ((flat G t.b).length : Int), .map b] := by
  rcases h.stack.2 with ⟨_, h2⟩ | ⟨q, cap, cur, h1, h2, h3, h4, h5, h6, h7⟩
  · cases h2
  refine ⟨q, cap, h1, h4, h2, ?_⟩
  have h8 := h.stack
  rw [h1] at h8
  have h9 := At.ofOwnN h8
  have hl : B.length = G.length := by have := h.maps.length; simpa using this
  rw [gcells_cons] at h9
  have h10 := At.sub (a := gcells G B) (b := [.int .i64 ((flat G t.b).length : Int), .map b]) (c := []) (by rw [List.append_nil]; exact h9)
  rw [gcells_length hl, Nat.zero_add, Nat.mul_comm] at h10
  exact h10
/-- a value's cells -/
theorem Jd.value (h : Jd w g s L ro p nx l G B vV vS) (i : Nat) (hi : i < l.length) : ∃ q cap, vV = .slice (some ⟨q, 0, none⟩) l.length cap ∧ g < q ∧ At w q (i * 3) (vv (l.getD i v0)) := by
  obtain ⟨a, c, hv, hg⟩ := own_form h.vals
  obtain ⟨q, rfl⟩ := hg (by omega)
  have h0 := h.vals
  rw [hv] at h0
  refine ⟨q, c, hv, (h0.lt q rfl).1, ?_⟩
  have h1 := value_at (At.ofOwnN h0) i hi
  rw [Nat.zero_add] at h1
  exact h1
/-- a cell of a value is stored -/
theorem Jd.setVal (h : Jd w g s L ro p nx l G B vV vS) {q cap n : Nat} (hk : vV = .slice (some ⟨q, 0, none⟩) n cap) (hn : l.length = n) (i j : Nat) (hi : i < n) (hj : j < 3) (u : Value) (y : Vl → Vl) (hy : (vv (l.getD i v0)).set j u = vv (y (l.getD i v0))) :
    Jd (w.setCell ⟨q, i * 3 + j, none⟩ u) g s L ro p nx (l.modify i y) G B vV vS := by
  subst hn
  have hb : vV.ownBlock = some q := by rw [hk]; rfl
  have hgk := (h.vals.lt q hb).1
  have h8 := h.vals
  rw [hk] at h8
  have hs := (h8.stored (i * 3 + j) u).1
  rw [vcells_set l i j u y hi hj hy, ← hk] at hs
  have h5 := grown_set w ⟨q, i * 3 + j, none⟩ u
  refine ⟨h.at0.other q _ u (Or.inl (by omega)), ?_, ownsRow_setCell_other h.stack (apart_of (own_ne h.stack h.vals (Ne.symm val_ne_begun)) hb) u, h.maps.kept h5 (fun b xs _ hm => by have := hm.ne_row h.vals; rw [hb] at this; exact this)⟩
  rw [List.length_modify]
  exact hs
/-- a name is put to the topmost object -/
theorem Jd.name {b : Nat} {xs : List (List UInt8)} {x : List UInt8} (h : Jd w g s L ro p nx l (t :: G) (some b :: B) vV vS) (hg : w.grownBy w' (some b)) (hm : NamesM w' b (xs ++ [x])) (ho : t.o = some xs) :
    Jd w' g s L ro p nx l (addName x (t :: G)) (some b :: B) vV vS := by
  obtain ⟨ys, hm0, hob⟩ : ∃ ys, NamesM w b ys ∧ g + 1 ≤ b := by cases h.maps with | obj _ _ h1 h2 _ => exact ⟨_, h1, h2⟩
  have hlt := h.lt
  refine ⟨h.at0.grown hg hlt (by intro e; cases e; exact hm0.ne_at h.at0 rfl), h.vals.kept hg (.inr (hm0.ne_row h.vals).symm), ?_, h.maps.named hg hm ho⟩
  rw [gcells_name, addName_length]
  exact h.stack.kept hg (.inr (hm0.ne_row h.stack).symm)
/-- a token took a byte -/
theorem Jd.take (h : Jd w g s L ro p nx l G B vV vS) {b : Nat} (ht : Tk b w w') (hb : g < b) (hl : b < w.heap.size) (hn : NotT w b) (hob : ∃ c cs, At w b 0 (c :: cs)) : Jd w' g s L ro p nx l G B vV vS := by
  obtain ⟨c, cs, hc⟩ := hob
  have hrow : ∀ {E z n : Nat} {v : Value} {ys : List Value}, (E : Nat) ≠ 5 → (E = 62 ∨ E = 106) → w.ownsRow (g + 1) E z v n ys → w'.ownsRow (g + 1) E z v n ys := by
    intro E z n v ys hE hE2 ho
    refine own_same ho fun q hq => ?_
    rcases ho.2 with ⟨rfl, _⟩ | ⟨r, cap, cur, rfl, h1, h2, _⟩
    · cases hq
    · obtain rfl : r = q := by simpa [Value.ownBlock] using hq
      refine ht.other r (ho.lt r hq).2 (fun e => ?_) (fun cur' e => ?_)
      · subst e
        rcases hE2 with rfl | rfl
        · exact hn.1 _ h2
        · exact hn.2 _ h2
      · rw [h2] at e; injection e with e; injection e with _ e; exact hE e
  refine ⟨h.at0.below ht.below hb, hrow (by decide) (.inl rfl) h.vals, hrow (by decide) (.inr rfl) h.stack, h.maps.same (fun q xs hq hm => ?_)⟩
  obtain ⟨es, ck, hm1⟩ := hm.obj
  refine ht.other q hm.lt (hm.ne_at hc) (fun cur e => ?_)
  rw [hm1] at e; cases e
end
/-- a reader in memory: what may come next, the list, what is begun, where the next byte stands -/
def JdB (w : World) (g : Nat) (s : ByteArray) (L : Lm) (ro : Int) (nx : Nat) (cur : List Vl) (G : List Fr) (p : Nat) (B : List (Option Nat)) : Prop := ∃ vV vS, Jd w g s L ro p nx (flat G cur) G B vV vS
def JdS (w : World) (g : Nat) (s : ByteArray) (L : Lm) (ro : Int) (st : St) (p : Nat) : Prop := ∃ B, JdB w g s L ro st.nx st.cur st.G p B
theorem JdB.drewN {w : World} {g : Nat} {s : ByteArray} {L : Lm} {ro : Int} {nx : Nat} {cur : List Vl} {G : List Fr} {p : Nat} {B : List (Option Nat)} (h : JdB w g s L ro nx cur G p B) (n : Nat) : JdB (w.drewN n) g s L ro nx cur G p B := by
  obtain ⟨vV, vS, h⟩ := h
  exact ⟨vV, vS, h.drewN n⟩
theorem JdS.drewN {w : World} {g : Nat} {s : ByteArray} {L : Lm} {ro : Int} {st : St} {p : Nat} (h : JdS w g s L ro st p) (n : Nat) : JdS (w.drewN n) g s L ro st p := by
  obtain ⟨B, h⟩ := h
  exact ⟨B, h.drewN n⟩
theorem JdB.take {w w' : World} {g : Nat} {s : ByteArray} {L : Lm} {ro : Int} {nx : Nat} {cur : List Vl} {G : List Fr} {p : Nat} {B : List (Option Nat)} (h : JdB w g s L ro nx cur G p B) {b : Nat} (ht : Tk b w w') (hb : g < b) (hl : b < w.heap.size) (hn : NotT w b) (hob : ∃ c cs, At w b 0 (c :: cs)) : JdB w' g s L ro nx cur G p B := by
  obtain ⟨vV, vS, h⟩ := h
  exact ⟨vV, vS, h.take ht hb hl hn hob⟩
theorem JdB.alloc {w : World} {g : Nat} {s : ByteArray} {L : Lm} {ro : Int} {nx : Nat} {cur : List Vl} {G : List Fr} {p : Nat} {B : List (Option Nat)} (h : JdB w g s L ro nx cur G p B) (o : Obj) : JdB (w.alloc o) g s L ro nx cur G p B := by
  obtain ⟨vV, vS, h⟩ := h
  exact ⟨vV, vS, h.alloc o⟩
theorem JdB.lt {w : World} {g : Nat} {s : ByteArray} {L : Lm} {ro : Int} {nx : Nat} {cur : List Vl} {G : List Fr} {p : Nat} {B : List (Option Nat)} (h : JdB w g s L ro nx cur G p B) : g < w.heap.size := by
  obtain ⟨vV, vS, h⟩ := h
  exact h.lt
theorem JdB.tx {w : World} {g : Nat} {s : ByteArray} {L : Lm} {ro : Int} {nx : Nat} {cur : List Vl} {G : List Fr} {p : Nat} {B : List (Option Nat)} (h : JdB w g s L ro nx cur G p B) : Tx w g 0 s L.bytes p ∧ w.frozen? ⟨g, 2, none⟩ = false := by
  obtain ⟨vV, vS, h⟩ := h
  exact h.tx
/-- what holds of the text and its limits -/
structure Env (s : ByteArray) (L : Lm) : Prop where
  sz : s.size ≤ 140737488351232
  i : L.items ≤ 4096
  d : L.depth ≤ 32
  b : L.bytes ≤ 262144
section
variable (w : World) (g : Nat) (s : ByteArray) (L : Lm) (ro : Int) (st : St) (p : Nat) {nx : Nat} {l : List Vl} {G : List Fr} {B : List (Option Nat)} {vV vS : Value}
/-- the next byte is there -/
theorem peek_yes (h : Tx w g 0 s L.bytes p) (hE : Env s L) (hh : has s.toList L p = true) (b : UInt8) (hb : s.toList.getD p 0 = b) :
    Calls Try.prog 43 #[.pointer (some ⟨g, 0, none⟩)] w (fun e w' => e = .returned (.int .u8 (b.toNat : Int)) ∧ ∃ k, w' = w.drewN k) := by
  subst hb
  have h1 := has_lt hh
  rw [tl_size] at h1
  exact peek_ok w g s L.bytes p h h1.1 h1.2 hE.sz
theorem next_yes (h : Jd w g s L ro p nx l G B vV vS) (hE : Env s L) (hh : has s.toList L p = true) (b : UInt8) (hb : s.toList.getD p 0 = b) :
    Calls Try.prog 30 #[.pointer (some ⟨g, 0, none⟩)] w (fun e w' => e = .returned (.int .u8 (b.toNat : Int)) ∧ Hid (Jd w' g s L ro (p + 1) nx l G B vV vS) ∧ Hid (Below g w w') ∧ Hid (w.grownBy w' (some g))) := by
  subst hb
  have h1 := has_lt hh
  rw [tl_size] at h1
  refine (next_ok w g s L.bytes p h.tx.1 h.tx.2 h1.1 h1.2 hE.sz).mono ?_
  rintro e w' ⟨rfl, k, rfl⟩
  exact ⟨rfl, (h.drewN k).set 2 (.int .i64 ((p + 1 : Nat) : Int)) rfl, (below_drewN g w k).setCell (p := ⟨g, 2, none⟩) (Nat.le_refl g) _, grown_draw w k ⟨g, 2, none⟩ _⟩
theorem nextB_yes {cur : List Vl} (h : JdB w g s L ro nx cur G p B) (hE : Env s L) (hh : has s.toList L p = true) (b : UInt8) (hb : s.toList.getD p 0 = b) :
    Calls Try.prog 30 #[.pointer (some ⟨g, 0, none⟩)] w (fun e w' => e = .returned (.int .u8 (b.toNat : Int)) ∧ Hid (JdB w' g s L ro nx cur G (p + 1) B) ∧ Hid (Below g w w') ∧ Hid (w.grownBy w' (some g))) := by
  obtain ⟨vV, vS, h⟩ := h
  refine (next_yes w g s L ro p h hE hh b hb).mono ?_
  rintro e w' ⟨h1, h2, h3, h4⟩
  exact ⟨h1, ⟨vV, vS, h2.out⟩, h3, h4⟩
theorem nextB_no {cur : List Vl} (h : JdB w g s L ro nx cur G p B) (hp : p ≤ 140737488351232) (hh : has s.toList L p = false) :
    Calls Try.prog 30 #[.pointer (some ⟨g, 0, none⟩)] w (No (lkE L.bytes s) (lkP L.bytes s) g w) := by
  refine next_no w g s L.bytes p h.tx.1 ?_ hp
  rintro ⟨h1, h2⟩
  rw [has_yes (by rw [tl_size]; exact h1) h2] at hh
  cases hh
end
theorem lack_eq (s : ByteArray) (L : Lm) : ∃ b, (lack s.toList L : Rs (List Vl)) = .no (lkE L.bytes s) (lkP L.bytes s) b := by
  rw [lack, Dr.lackE, Dr.lackP, lkE, lkP, tl_size]
  exact ⟨_, rfl⟩
end Jd
end Go.Proofs.Ytilfidcomeandaa
