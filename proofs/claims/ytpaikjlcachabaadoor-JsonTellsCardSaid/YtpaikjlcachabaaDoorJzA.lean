/- Joined by merge.py: JrA JrB JrC JrD JrE JrF JrG. -/
import Derived.Test.YtpaikjlcachabaaDoorJsV
import Derived.Test.YtpaikjlcachabaaDoorJtH
namespace Go.Proofs.YtpaikjlcachabaaDoor
open Go.RowKit
set_option linter.unusedVariables false
set_option linter.unusedSimpArgs false
namespace Jr
open Js
open Dr (Rs Lm has lack lackE lackP)


/-- the document's reader, cell by cell -/
theorem gtl_getD (s : ByteArray) (k : Nat) (h : k < s.size) : s.toList.getD k 0 = s[k] := by rw [List.getD, tl_get s k h]; rfl
def rgc (s : ByteArray) (L : Lm) (ro : Int) (vo : Value) (er : Int) (pl tk fr : Nat) (en : Bool) : List Value :=
  [.string s, .int .i64 (L.depth : Int), .int .i64 (L.items : Int), .int .i64 (L.bytes : Int), .int .i64 ro, .slice none 0 0, .int .i64 er, .int .i64 (pl : Int), .int .i64 (tk : Int), .int .i64 (fr : Int), .bool en, vo]
structure Rg (w : World) (g : Nat) (s : ByteArray) (L : Lm) (ro : Int) (O : List Vl) (vo : Value) (er : Int) (pl tk fr : Nat) (en : Bool) : Prop where
  at0 : At w g 0 (rgc s L ro vo er pl tk fr en)
  out : w.ownsRow (g + 1) 61 3 vo O.length (vcells O)
  lt : g < w.heap.size
section
variable {w w' : World} {g : Nat} {s : ByteArray} {L : Lm} {ro : Int} {O : List Vl} {vo : Value} {er : Int} {pl tk fr : Nat} {en : Bool}
theorem Rg.drewN (h : Rg w g s L ro O vo er pl tk fr en) (k : Nat) : Rg (w.drewN k) g s L ro O vo er pl tk fr en := ⟨h.at0.drewN k, own_drewN h.out k, h.lt⟩
theorem Rg.setC (h : Rg w g s L ro O vo er pl tk fr en) (k : Nat) (v : Value) {er' : Int} {pl' tk' fr' : Nat} {en' : Bool} (he : (rgc s L ro vo er pl tk fr en).set k v = rgc s L ro vo er' pl' tk' fr' en') : Rg (w.setCell ⟨g, k, none⟩ v) g s L ro O vo er' pl' tk' fr' en' :=
  ⟨by have h1 := h.at0.set k v; rw [he, Nat.zero_add] at h1; exact h1, ownsRow_setCell_below h.out (Nat.lt_succ_self g) _, by rw [show (w.setCell ⟨g, k, none⟩ v).heap.size = w.heap.size by simp [World.setCell]]; exact h.lt⟩
theorem Rg.below (h : Rg w g s L ro O vo er pl tk fr en) (hb : Below w.heap.size w w') : Rg w' g s L ro O vo er pl tk fr en :=
  ⟨h.at0.below hb h.lt, own_below h.out hb (Nat.le_refl _), Nat.lt_of_lt_of_le h.lt hb.size⟩
theorem Rg.alloc (h : Rg w g s L ro O vo er pl tk fr en) (o : Obj) : Rg (w.alloc o) g s L ro O vo er pl tk fr en :=
  ⟨h.at0.alloc o, h.out.alloc o, by simp; have := h.lt; omega⟩
end
/-- the reader goes on -/
def Gok (w : World) (g : Nat) (s : ByteArray) (L : Lm) (ro : Int) (O : List Vl) (fr tk : Nat) : Prop := (∃ vo, Rg w g s L ro O vo 0 0 tk fr false) ∧ tk ≤ L.bytes ∧ tk ≤ s.size
/-- the reader has a fault -/
def Gno (w : World) (g : Nat) (s : ByteArray) (L : Lm) (ro : Int) (c : Int) (q : Nat) (b : Bool) (tk fr : Nat) : Prop := ∃ O vo, Rg w g s L ro O vo c q tk fr b
theorem Gok.drewN {w : World} {g : Nat} {s : ByteArray} {L : Lm} {ro : Int} {O : List Vl} {fr tk : Nat} (h : Gok w g s L ro O fr tk) (k : Nat) : Gok (w.drewN k) g s L ro O fr tk := by
  obtain ⟨⟨vo, h⟩, h1⟩ := h
  exact ⟨⟨vo, h.drewN k⟩, h1⟩
theorem Gok.below {w w' : World} {g : Nat} {s : ByteArray} {L : Lm} {ro : Int} {O : List Vl} {fr tk : Nat} (h : Gok w g s L ro O fr tk) (hb : Below w.heap.size w w') : Gok w' g s L ro O fr tk := by
  obtain ⟨⟨vo, h⟩, h1⟩ := h
  exact ⟨⟨vo, h.below hb⟩, h1⟩
theorem Gok.lt {w : World} {g : Nat} {s : ByteArray} {L : Lm} {ro : Int} {O : List Vl} {fr tk : Nat} (h : Gok w g s L ro O fr tk) : g < w.heap.size := by
  obtain ⟨⟨vo, h⟩, -⟩ := h
  exact h.lt
/-- a block that is no row of values -/
def NotV (w : World) (a : Nat) : Prop := ∀ cur, w.heap[a]? ≠ some (.cells cur 61 (0, 0))
theorem NotV.same {w w' : World} {a : Nat} (h : NotV w a) (hs : w'.heap[a]? = w.heap[a]?) : NotV w' a := fun cur => by rw [hs]; exact h cur
/-- all blocks but the reader's own and rows of values are as they were -/
structure Fg (g : Nat) (w w' : World) : Prop where
  os : w'.os = w.os
  tape : w'.tape = w.tape
  output : w'.output = w.output
  size : w.heap.size ≤ w'.heap.size
  block : ∀ a, a < w.heap.size → a ≠ g → NotV w a → w'.heap[a]? = w.heap[a]?
  low : ∀ a, a < g → w'.heap[a]? = w.heap[a]?
  out : ∀ a n c, w.cell? ⟨g, 11, none⟩ = some (.slice a n c) → ∃ a' n' c', w'.cell? ⟨g, 11, none⟩ = some (.slice a' n' c') ∧ n ≤ n'
theorem Fg.refl (g : Nat) (w : World) : Fg g w w := ⟨rfl, rfl, rfl, Nat.le_refl _, fun _ _ _ _ => rfl, fun _ _ => rfl, fun a n c h => ⟨a, n, c, h, Nat.le_refl _⟩⟩
theorem Fg.trans {g : Nat} {a b c : World} (h : Fg g a b) (k : Fg g b c) : Fg g a c := ⟨k.os.trans h.os, k.tape.trans h.tape, k.output.trans h.output, Nat.le_trans h.size k.size, fun i hi hg hn => by
  have h1 := h.block i hi hg hn
  exact (k.block i (Nat.lt_of_lt_of_le hi h.size) hg (hn.same h1)).trans h1, fun i hi => (k.low i hi).trans (h.low i hi), fun a n c h1 => by
  obtain ⟨a1, n1, c1, h2, h3⟩ := h.out a n c h1
  obtain ⟨a2, n2, c2, h4, h5⟩ := k.out a1 n1 c1 h2
  exact ⟨a2, n2, c2, h4, Nat.le_trans h3 h5⟩⟩
theorem Fg.drewN (g : Nat) (w : World) (k : Nat) : Fg g w (w.drewN k) := ⟨rfl, rfl, rfl, Nat.le_refl _, fun _ _ _ _ => rfl, fun _ _ => rfl, fun a n c h => ⟨a, n, c, h, Nat.le_refl _⟩⟩
theorem Fg.of {g : Nat} {w w' : World} (h : Below w.heap.size w w') (hg : g ≤ w.heap.size) : Fg g w w' := ⟨h.os, h.tape, h.output, h.size, fun a ha _ _ => h.block a ha, fun a ha => h.block a (by omega), fun a n c h1 => ⟨a, n, c, (World.cell?_of_block (h.block g (World.block_lt_of_cell? w _ h1))).trans h1, Nat.le_refl _⟩⟩
theorem Fg.setG {g : Nat} {w w' : World} (h : Fg g w w') (o : Nat) (u : Value) (ho : o ≠ 11 := by decide) : Fg g w (w'.setCell ⟨g, o, none⟩ u) := h.trans ⟨rfl, rfl, rfl, by simp [World.setCell], fun a _ hg _ => Below.heap_setCell _ _ _ _ (by show a ≠ g; exact hg), fun a ha => Below.heap_setCell _ _ _ _ (by show a ≠ g; omega), fun a n c h1 => ⟨a, n, c, by simp [go_sem, h1, ho, Ne.symm ho], Nat.le_refl _⟩⟩
/-- the list's cell is stored: it is no shorter -/
theorem Fg.push {g : Nat} {w w' : World} (h : Fg g w w') {a a1 : Option Addr} {n n1 c c1 : Nat} (hc : w'.cell? ⟨g, 11, none⟩ = some (.slice a n c)) (hn : n ≤ n1) : Fg g w (w'.setCell ⟨g, 11, none⟩ (.slice a1 n1 c1)) := h.trans ⟨rfl, rfl, rfl, by simp [World.setCell], fun a _ hg _ => Below.heap_setCell _ _ _ _ (by show a ≠ g; exact hg), fun a ha => Below.heap_setCell _ _ _ _ (by show a ≠ g; omega), fun a2 n2 c2 h1 => by
  rw [hc] at h1
  injection h1 with h1
  injection h1 with h2 h3 h4
  exact ⟨a1, n1, c1, by simp [go_sem, hc], by omega⟩⟩
theorem Fg.below {g : Nat} {w w' : World} (h : Fg g w w') : Below g w w' := ⟨h.os, h.tape, h.output, h.size, fun a ha => h.low a ha⟩
theorem Fg.alloc {g : Nat} {w w' : World} (h : Fg g w w') (hg : g ≤ w'.heap.size) (o : Obj) : Fg g w (w'.alloc o) := h.trans (Fg.of ((Below.refl _ _).alloc (Nat.le_refl _) o) hg)
/-- a block of its own, of another type, is stored to or grown -/
theorem Fg.grown {g : Nat} {w w' w2 : World} {row : Option Nat} (h : Fg g w w') (hgs : g ≤ w'.heap.size) (k : w'.grownBy w2 row) (hr : ∀ q, row = some q → w.heap.size ≤ q ∧ g ≤ q) : Fg g w w2 := ⟨k.os.trans h.os, k.tape.trans h.tape, k.output.trans h.output, Nat.le_trans h.size k.size, fun a ha hg hn => (k.block a (Nat.lt_of_lt_of_le ha h.size) (fun e => by have := (hr a e.symm).1; omega)).trans (h.block a ha hg hn), fun a ha => (k.block a (by omega) (fun e => by have := (hr a e.symm).2; omega)).trans (h.low a ha), fun a n c h1 => by
  obtain ⟨a1, n1, c1, h2, h3⟩ := h.out a n c h1
  have h4 := World.block_lt_of_cell? w _ h1
  exact ⟨a1, n1, c1, (World.cell?_of_block (k.block g (World.block_lt_of_cell? w' _ h2) (fun e => by have h5 := (hr g e.symm).1; have h6 : g < w.heap.size := h4; omega))).trans h2, h3⟩⟩
/-- the answers: all is well; or a fault -/
def GYes (v : Value) (g : Nat) (s : ByteArray) (L : Lm) (ro : Int) (O : List Vl) (fr tk : Nat) (w : World) (e : Ending) (w' : World) : Prop := e = .returned v ∧ Hid (Gok w' g s L ro O fr tk) ∧ Hid (Fg g w w')
def GNay (v : Value) (g : Nat) (s : ByteArray) (L : Lm) (ro : Int) (c : Int) (q : Nat) (b : Bool) (tk fr : Nat) (w : World) (e : Ending) (w' : World) : Prop := e = .returned v ∧ Hid (Gno w' g s L ro c q b tk fr) ∧ Hid (Fg g w w')
set_option maxRecDepth 100000 in
theorem gtake_any {w : World} {g : Nat} {s : ByteArray} {L : Lm} {ro : Int} {O : List Vl} {vo : Value} {tk fr : Nat} (h : Rg w g s L ro O vo 0 0 tk fr false) (z : Int) (a : Nat) (hta : tk ≤ a) (hz : (a : Int) = z) :
    Calls Tryd.prog 67 #[.pointer (some ⟨g, 0, none⟩), .int .i64 z] w (fun e w' => e = .returned (.tuple #[]) ∧ Hid (Rg w' g s L ro O vo 0 0 a fr false) ∧ Hid (Fg g w w')) := by
  subst hz
  have HR := Lib.hid h
  have h8 := h.at0.cell 8 _ rfl
  have f8 := h.at0.froz 8 (Nat.le_of_ble_eq_true rfl)
  rw [Nat.zero_add] at h8 f8
  clear h
  by_cases h1 : tk < a
  · have e1 : (tk : Int) < (a : Int) := by omega
    clear h1 hta
    go_enter Tryd.func67, Tryd.ntmps67
    go_wp2_with fail
    go_end0
    exact ⟨rfl, HR.out.setC 8 _ rfl, (Fg.refl g w).setG _ _⟩
  · have e1 : ¬ (tk : Int) < (a : Int) := by omega
    have HTA : Hid (tk = a) := by show tk = a; omega
    clear h1 hta
    go_enter Tryd.func67, Tryd.ntmps67
    go_wp2_with fail
    go_end0
    exact ⟨rfl, by rw [← HTA.out]; exact HR, Fg.refl g w⟩
set_option maxRecDepth 100000 in
theorem gfault_any {w : World} {g : Nat} {s : ByteArray} {L : Lm} {ro : Int} {O : List Vl} {vo : Value} {tk fr : Nat} {en : Bool} (h : Rg w g s L ro O vo 0 0 tk fr en) (z c : Int) (q : Nat) (hz : (q : Int) = z) :
    Calls Tryd.prog 68 #[.pointer (some ⟨g, 0, none⟩), .int .i64 z, .int .i64 c] w (GNay (.bool false) g s L ro c q en tk fr w) := by
  subst hz
  have HR := Lib.hid h
  have h6 := h.at0.cell 6 _ rfl
  have f6 := h.at0.froz 6 (Nat.le_of_ble_eq_true rfl)
  have h7 := h.at0.cell 7 _ rfl
  have f7 := h.at0.froz 7 (Nat.le_of_ble_eq_true rfl)
  rw [Nat.zero_add] at h6 f6 h7 f7
  clear h
  go_enter Tryd.func68, Tryd.ntmps68
  go_wp2_with fail
  go_ret
  exact ⟨rfl, ⟨O, vo, (HR.out.setC 6 (.int .i64 c) (er' := c) rfl).setC 7 _ rfl⟩, ((Fg.refl g w).setG _ _).setG _ _⟩
set_option maxRecDepth 100000 in
set_option maxHeartbeats 800000 in
theorem gwant_yes {w : World} {g : Nat} {s : ByteArray} {L : Lm} {ro : Int} {O : List Vl} {fr tk : Nat} (h : Gok w g s L ro O fr tk) (z : Int) (p : Nat) (hz : (p : Int) = z) (h1 : p < s.size) (h2 : p < L.bytes) (hs : s.size ≤ 140737488351232) (htk : tk ≤ p + 1) :
    Calls Tryd.prog 43 #[.pointer (some ⟨g, 0, none⟩), .int .i64 z] w (GYes (.bool true) g s L ro O fr (p + 1) w) := by
  subst hz
  obtain ⟨⟨vo, h⟩, -⟩ := h
  have HPP : Hid (p + 1 ≤ L.bytes ∧ p + 1 ≤ s.size) := ⟨h2, h1⟩
  have HR := Lib.hid h
  have TK := Lib.hid (gtake_any h ((p : Int) + 1) (p + 1) htk (by omega))
  have h0 := h.at0.cell 0 _ rfl
  have h3 := h.at0.cell 3 _ rfl
  rw [Nat.zero_add] at h0 h3
  have e1 : (p : Int) < (s.size : Int) := by omega
  have e2 : (p : Int) < (L.bytes : Int) := by omega
  have e3 : (p : Int) ≤ 140737488351232 := by omega
  clear h h1 h2 hs htk
  go_enter Tryd.func43, Tryd.ntmps43
  go_wp2_with (first | (go_at_call 67; refine TK.out.mono ?_; rintro e w1 ⟨rfl, HR1, HB1⟩))
  go_ret
  exact ⟨rfl, ⟨⟨vo, HR1.out⟩, HPP.out⟩, HB1⟩
set_option maxRecDepth 100000 in
set_option maxHeartbeats 800000 in
theorem gwant_no {w : World} {g : Nat} {s : ByteArray} {L : Lm} {ro : Int} {O : List Vl} {fr tk : Nat} (h : Gok w g s L ro O fr tk) (z : Int) (p : Nat) (hz : (p : Int) = z) (h1 : ¬ (p < s.size ∧ p < L.bytes)) :
    Calls Tryd.prog 43 #[.pointer (some ⟨g, 0, none⟩), .int .i64 z] w (GNay (.bool false) g s L ro (lackE s.toList L) (lackP s.toList L) (decide (s.toList.length ≤ L.bytes)) (lackK s.toList L) fr w) := by
  subst hz
  rw [lackE, lackP, lackK, tl_size]
  obtain ⟨⟨vo, h⟩, htb, hts⟩ := h
  have HR := Lib.hid h
  have TK := Lib.hid (fun w' (b : Nat) (hb : tk ≤ b) (h' : Rg w' g s L ro O vo 0 0 tk fr false) => gtake_any h' (b : Int) b hb rfl)
  have h0 := h.at0.cell 0 _ rfl
  have h3 := h.at0.cell 3 _ rfl
  rw [Nat.zero_add] at h0 h3
  obtain ⟨b, hb⟩ : ∃ n, L.bytes = n := ⟨_, rfl⟩
  rw [hb] at h1 htb
  rw [hb]
  rw [hb] at h3
  have HTB : Hid (tk ≤ b ∧ tk ≤ s.size) := ⟨htb, hts⟩
  have HN := Lib.hid (hb)
  clear h hb htb hts
  have h0q : ∀ k, (w.drewN k).cell? ⟨g, 0, none⟩ = some (.string s) := fun _ => h0
  by_cases h2 : b < s.size
  · have e4 : (b : Int) < (s.size : Int) := by omega
    rw [if_pos h2, if_pos h2, decide_eq_false (by omega)]
    by_cases h4 : p < s.size
    · have e1 : (p : Int) < (s.size : Int) := by omega
      have e2 : ¬ (p : Int) < (b : Int) := by omega
      clear h1 h2 h4
      go_enter Tryd.func43, Tryd.ntmps43
      go_wp2_with fail
      go_quiet (fail)
      go_wp2_with (first
        | (go_at_call 67; refine (TK.out _ b HTB.out.1 (HR.out.drewN _)).mono ?_; rintro e w1 ⟨rfl, HR1, HB1⟩; have g0 := HR1.out.at0.cell 0 _ rfl; have g3 := HR1.out.at0.cell 3 _ rfl; have f10 := HR1.out.at0.froz 10 (Nat.le_of_ble_eq_true rfl); have g10 := HR1.out.at0.cell 10 _ rfl; rw [Nat.zero_add] at g0 g3 f10 g10; rw [HN.out] at g3)
        | (go_at_call 68; refine (gfault_any HR1.out _ _ b rfl).mono ?_; rintro e w2 ⟨rfl, HR2, HB2⟩))
      go_ret
      exact ⟨rfl, HR2, ((Fg.drewN _ _ _).trans HB1.out).trans HB2.out⟩
    · have e1 : ¬ (p : Int) < (s.size : Int) := by omega
      clear h1 h2 h4
      go_enter Tryd.func43, Tryd.ntmps43
      go_wp2_with fail
      go_quiet (fail)
      go_wp2_with (first
        | (go_at_call 67; refine (TK.out _ b HTB.out.1 (HR.out.drewN _)).mono ?_; rintro e w1 ⟨rfl, HR1, HB1⟩; have g0 := HR1.out.at0.cell 0 _ rfl; have g3 := HR1.out.at0.cell 3 _ rfl; have f10 := HR1.out.at0.froz 10 (Nat.le_of_ble_eq_true rfl); have g10 := HR1.out.at0.cell 10 _ rfl; rw [Nat.zero_add] at g0 g3 f10 g10; rw [HN.out] at g3)
        | (go_at_call 68; refine (gfault_any HR1.out _ _ b rfl).mono ?_; rintro e w2 ⟨rfl, HR2, HB2⟩))
      go_ret
      exact ⟨rfl, HR2, ((Fg.drewN _ _ _).trans HB1.out).trans HB2.out⟩
  · have e4 : ¬ (b : Int) < (s.size : Int) := by omega
    rw [if_neg h2, if_neg h2, decide_eq_true (by omega)]
    have e1 : ¬ (p : Int) < (s.size : Int) := by omega
    clear h1 h2
    go_enter Tryd.func43, Tryd.ntmps43
    go_wp2_with fail
    go_quiet (fail)
    go_wp2_with (first
      | (go_at_call 67; refine (TK.out _ s.size HTB.out.2 (HR.out.drewN _)).mono ?_; rintro e w1 ⟨rfl, HR1, HB1⟩; have g0 := HR1.out.at0.cell 0 _ rfl; have g3 := HR1.out.at0.cell 3 _ rfl; have f10 := HR1.out.at0.froz 10 (Nat.le_of_ble_eq_true rfl); have g10 := HR1.out.at0.cell 10 _ rfl; rw [Nat.zero_add] at g0 g3 f10 g10; rw [HN.out] at g3)
      | (go_at_call 68; refine (gfault_any (HR1.out.setC 10 (.bool true) (en' := true) rfl) _ _ s.size rfl).mono ?_; rintro e w2 ⟨rfl, HR2, HB2⟩))
    go_ret
    exact ⟨rfl, HR2, (((Fg.drewN _ _ _).trans HB1.out).setG _ _).trans HB2.out⟩
theorem glack_eq {α : Type} (s : ByteArray) (L : Lm) : (lack s.toList L : Rs α) = .no (lackE s.toList L) (lackP s.toList L) (decide (s.toList.length ≤ L.bytes)) := rfl
theorem gfault_ok {w : World} {g : Nat} {s : ByteArray} {L : Lm} {ro : Int} {O : List Vl} {fr tk : Nat} (h : Gok w g s L ro O fr tk) (z c : Int) (q : Nat) (hz : (q : Int) = z) :
    Calls Tryd.prog 68 #[.pointer (some ⟨g, 0, none⟩), .int .i64 z, .int .i64 c] w (GNay (.bool false) g s L ro c q false tk fr w) := by
  obtain ⟨⟨vo, h⟩, -⟩ := h
  exact gfault_any h z c q hz
theorem Gok.txt {w : World} {g : Nat} {s : ByteArray} {L : Lm} {ro : Int} {O : List Vl} {fr tk : Nat} (h : Gok w g s L ro O fr tk) : w.cell? ⟨g, 0, none⟩ = some (.string s) := by
  obtain ⟨⟨vo, h⟩, -⟩ := h
  have h0 := h.at0.cell 0 _ rfl
  rw [Nat.zero_add] at h0
  exact h0
set_option maxRecDepth 100000 in
theorem gfault16_any {w : World} {g : Nat} {s : ByteArray} {L : Lm} {ro : Int} {O : List Vl} {vo : Value} {tk fr : Nat} {en : Bool} (h : Rg w g s L ro O vo 0 0 tk fr en) (z c : Int) (q : Nat) (hz : (q : Int) = z) :
    Calls Tryd.prog 45 #[.pointer (some ⟨g, 0, none⟩), .int .i64 z, .int .i64 c] w (GNay (.bool false) g s L ro c q en tk fr w) := by
  subst hz
  have HR := Lib.hid h
  have h6 := h.at0.cell 6 _ rfl
  have f6 := h.at0.froz 6 (Nat.le_of_ble_eq_true rfl)
  have h7 := h.at0.cell 7 _ rfl
  have f7 := h.at0.froz 7 (Nat.le_of_ble_eq_true rfl)
  rw [Nat.zero_add] at h6 f6 h7 f7
  clear h
  go_enter Tryd.func45, Tryd.ntmps45
  go_wp2_with fail
  go_ret
  exact ⟨rfl, ⟨O, vo, (HR.out.setC 6 (.int .i64 c) (er' := c) rfl).setC 7 _ rfl⟩, ((Fg.refl g w).setG _ _).setG _ _⟩
theorem gfault16_ok {w : World} {g : Nat} {s : ByteArray} {L : Lm} {ro : Int} {O : List Vl} {fr tk : Nat} (h : Gok w g s L ro O fr tk) (z c : Int) (q : Nat) (hz : (q : Int) = z) :
    Calls Tryd.prog 45 #[.pointer (some ⟨g, 0, none⟩), .int .i64 z, .int .i64 c] w (GNay (.bool false) g s L ro c q false tk fr w) := by
  obtain ⟨⟨vo, h⟩, -⟩ := h
  exact gfault16_any h z c q hz
def RetV (v : Value) (w : World) (e : Ending) (w' : World) : Prop := e = .returned v ∧ w = w'
set_option maxRecDepth 100000 in
theorem rblank_any (b : UInt8) (w : World) : Calls Tryd.prog 44 #[.int .u8 (b.toNat : Int)] w (RetV (.bool (Js.blank b)) w) := by
  by_cases h1 : b = 32
  · subst h1
    go_enter Tryd.func44, Tryd.ntmps44
    go_wp2_with fail
    go_ret
    exact ⟨rfl, rfl⟩
  by_cases h2 : b = 9
  · subst h2
    go_enter Tryd.func44, Tryd.ntmps44
    go_wp2_with fail
    go_ret
    exact ⟨rfl, rfl⟩
  by_cases h3 : b = 10
  · subst h3
    go_enter Tryd.func44, Tryd.ntmps44
    go_wp2_with fail
    go_ret
    exact ⟨rfl, rfl⟩
  by_cases h4 : b = 13
  · subst h4
    go_enter Tryd.func44, Tryd.ntmps44
    go_wp2_with fail
    go_ret
    exact ⟨rfl, rfl⟩
  rw [show Js.blank b = false from decide_eq_false (fun h => by rcases h with h | h | h | h; exact h1 h; exact h2 h; exact h3 h; exact h4 h)]
  have q : ∀ c : UInt8, b ≠ c → b.toNat ≠ c.toNat := fun c h e => h (UInt8.toNat_inj.1 e)
  have k1 : b.toNat ≠ 32 := q 32 h1
  have k2 : b.toNat ≠ 9 := q 9 h2
  have k3 : b.toNat ≠ 10 := q 10 h3
  have k4 : b.toNat ≠ 13 := q 13 h4
  obtain ⟨n, hn⟩ : ∃ n, b.toNat = n := ⟨_, rfl⟩
  rw [hn] at k1 k2 k3 k4 ⊢
  have e1 := eqF (n := n) (c := 32) (by omega)
  have e2 := eqF (n := n) (c := 9) (by omega)
  have e3 := eqF (n := n) (c := 10) (by omega)
  have e4 := eqF (n := n) (c := 13) (by omega)
  clear hn q h1 h2 h3 h4 k1 k2 k3 k4
  go_enter Tryd.func44, Tryd.ntmps44
  go_wp2_with fail
  go_ret
  exact ⟨rfl, rfl⟩
set_option maxRecDepth 100000 in
theorem rdigit_any (b : UInt8) (w : World) : Calls Tryd.prog 62 #[.int .u8 (b.toNat : Int)] w (RetV (.bool (isDigit b)) w) := by
  rw [isDigit]
  obtain ⟨n, hn⟩ : ∃ n, b.toNat = n := ⟨_, rfl⟩
  rw [hn]
  clear hn
  by_cases h1 : 48 ≤ n
  · have e1 : (48 : Int) ≤ n := by omega
    by_cases h2 : n ≤ 57
    · have e2 : (n : Int) ≤ 57 := by omega
      rw [decide_eq_true ⟨h1, h2⟩]
      clear h1 h2
      go_enter Tryd.func62, Tryd.ntmps62
      go_wp2_with fail
      go_ret
      exact ⟨rfl, rfl⟩
    · have e2 : ¬ (n : Int) ≤ 57 := by omega
      rw [decide_eq_false (fun h => h2 h.2)]
      clear h1 h2
      go_enter Tryd.func62, Tryd.ntmps62
      go_wp2_with fail
      go_ret
      exact ⟨rfl, rfl⟩
  · have e1 : ¬ (48 : Int) ≤ n := by omega
    rw [decide_eq_false (fun h => h1 h.1)]
    clear h1
    go_enter Tryd.func62, Tryd.ntmps62
    go_wp2_with fail
    go_ret
    exact ⟨rfl, rfl⟩
end Jr
end Go.Proofs.YtpaikjlcachabaaDoor
namespace Go.Proofs.YtpaikjlcachabaaDoor
open Go.RowKit
set_option linter.unusedVariables false
set_option linter.unusedSimpArgs false
namespace Jr
open Js
open Dr (Rs Lm has lack lackE lackP)
/-- whatever follows from there follows from here -/
def Cl (S : List UInt8) (L : Lm) (s' : St) (p' : Nat) (s : St) (p : Nat) : Prop := ∀ r t k, RunsT S L s' p' r t k → RunsT S L s p r t k
theorem Cl.refl (S : List UInt8) (L : Lm) (s : St) (p : Nat) : Cl S L s p s p := fun _ _ _ h => h
theorem Cl.trans {S : List UInt8} {L : Lm} {a b c : St} {p q r : Nat} (h : Cl S L a p b q) (k : Cl S L b q c r) : Cl S L a p c r := fun _ _ _ x => k _ _ _ (h _ _ _ x)
/-- a byte that is wanted is there, and is it -/
def RetIs (g : Nat) (s : ByteArray) (L : Lm) (ro : Int) (O : List Vl) (fr : Nat) (p : Nat) (c : UInt8) (w : World) (e : Ending) (w' : World) : Prop :=
  (has s.toList L p = true ∧ s.toList.getD p 0 = c ∧ GYes (.bool true) g s L ro O fr (p + 1) w e w') ∨
  (has s.toList L p = true ∧ s.toList.getD p 0 ≠ c ∧ GNay (.bool false) g s L ro 9 p false (p + 1) fr w e w') ∨
  (has s.toList L p = false ∧ GNay (.bool false) g s L ro (lackE s.toList L) (lackP s.toList L) (decide (s.toList.length ≤ L.bytes)) (lackK s.toList L) fr w e w')
theorem has_of {s : ByteArray} {L : Lm} {p : Nat} (h1 : p < s.size) (h2 : p < L.bytes) : has s.toList L p = true := has_yes (by rw [tl_size]; exact h1) h2
theorem has_not {s : ByteArray} {L : Lm} {p : Nat} (h : ¬ (p < s.size ∧ p < L.bytes)) : has s.toList L p = false := decide_eq_false (by rw [tl_size]; exact h)
theorem byte_at (s : ByteArray) (p : Nat) (h : p < s.size) : (s[p]).toNat = (s.toList.getD p 0).toNat := by rw [List.getD, tl_get s p h]; rfl
set_option maxRecDepth 100000 in
set_option maxHeartbeats 1600000 in
theorem is_any {w : World} {g : Nat} {s : ByteArray} {L : Lm} {ro : Int} {O : List Vl} {fr tk : Nat} (hG : Gok w g s L ro O fr tk) (p : Nat) (c : UInt8) (hs : s.size ≤ 140737488351232) (htk : tk ≤ p + 1) :
    Calls Tryd.prog 83 #[.pointer (some ⟨g, 0, none⟩), .int .i64 (p : Int), .int .u8 (c.toNat : Int)] w (RetIs g s L ro O fr p c w) := by
  by_cases h1 : p < s.size ∧ p < L.bytes
  · obtain ⟨hp, hp2⟩ := h1
    have W := Lib.hid (gwant_yes hG (p : Int) p rfl hp hp2 hs htk)
    have HH := Lib.hid (has_of hp hp2)
    have hb := byte_at s p hp
    have e1 : (p : Int) < (s.size : Int) := by omega
    have e3 : (0 : Int) ≤ (p : Int) := by omega
    have HN := Lib.hid hs
    clear hp2
    by_cases hc : s.toList.getD p 0 = c
    · have HC := Lib.hid hc
      have q1 : ((s[p]).toNat : Int) = (c.toNat : Int) := by rw [hb, hc]
      clear hc hb hG htk hs
      go_enter Tryd.func83, Tryd.ntmps83
      go_wp2_with (go_at_call 43; refine W.out.mono ?_; rintro e w1 ⟨rfl, HG1, HB1⟩; have t0 := Gok.txt HG1.out)
      go_ret
      exact .inl ⟨HH.out, HC.out, rfl, HG1, HB1⟩
    · have HC := Lib.hid hc
      have q0 : (s[p]).toNat ≠ c.toNat := by rw [hb]; exact fun e => hc (UInt8.toNat_inj.1 e)
      have q1 : (((s[p]).toNat : Int) == (c.toNat : Int)) = false := by rw [beq_eq_false_iff_ne]; omega
      clear hc hb hG htk hs q0
      go_enter Tryd.func83, Tryd.ntmps83
      go_wp2_with (first | (go_at_call 43; refine W.out.mono ?_; rintro e w1 ⟨rfl, HG1, HB1⟩; have t0 := Gok.txt HG1.out) | (go_at_call 45; refine (gfault16_ok HG1.out _ _ p rfl).mono ?_; rintro e w2 ⟨rfl, HG2, HB2⟩))
      go_ret
      exact .inr (.inl ⟨HH.out, HC.out, rfl, HG2, HB1.out.trans HB2.out⟩)
  · have W := Lib.hid (gwant_no hG (p : Int) p rfl h1)
    have HH := Lib.hid (has_not h1)
    clear hG htk hs h1
    go_enter Tryd.func83, Tryd.ntmps83
    go_wp2_with (go_at_call 43; refine W.out.mono ?_; rintro e w1 ⟨rfl, HG1, HB1⟩)
    go_ret
    exact .inr (.inr ⟨HH.out, rfl, HG1, HB1⟩)
end Jr
end Go.Proofs.YtpaikjlcachabaaDoor
namespace Go.Proofs.YtpaikjlcachabaaDoor
open Go.RowKit
set_option linter.unusedVariables false
set_option linter.unusedSimpArgs false
namespace Jr
open Js
open Dr (Rs Lm has lack lackE lackP)
def RetPass (st : St) (p : Nat) (g : Nat) (s : ByteArray) (L : Lm) (ro : Int) (O : List Vl) (w : World) (e : Ending) (w' : World) : Prop :=
  (∃ q : Nat, p ≤ q ∧ has s.toList L q = true ∧ Js.blank (s.toList.getD q 0) = false ∧ Cl s.toList L st q st p ∧ GYes (.tuple #[.int .i64 (q : Int), .bool true]) g s L ro O st.G.length (q + 1) w e w') ∨
  (∃ c q b tk, RunsT s.toList L st p (.no c q b) tk st.G.length ∧ GNay (.tuple #[.int .i64 0, .bool false]) g s L ro c q b tk st.G.length w e w')
set_option maxRecDepth 100000 in
set_option maxHeartbeats 1600000 in
theorem pass_any {w : World} {g : Nat} {s : ByteArray} {L : Lm} {ro : Int} {O : List Vl} {tk : Nat} (st : St) (hst : st.hand = .none) (hnx : st.nx ≠ 6) (hG : Gok w g s L ro O st.G.length tk) (p : Nat) (hs : s.size ≤ 140737488351232) (htk : tk ≤ p + 1) (hp : p ≤ s.size) :
    Calls Tryd.prog 41 #[.pointer (some ⟨g, 0, none⟩), .int .i64 (p : Int)] w (RetPass st p g s L ro O w) := by
  have HG0 : Hid (∃ tk, tk ≤ p + 1 ∧ Gok w g s L ro O st.G.length tk) := ⟨tk, htk, hG⟩
  have HST := Lib.hid (And.intro hst hnx)
  have HS := Lib.hid hs
  obtain ⟨fr, hfr⟩ : ∃ n, st.G.length = n := ⟨_, rfl⟩
  have HFR := Lib.hid hfr
  rw [hfr] at HG0
  clear hG htk hs hst hnx hfr
  go_enter Tryd.func41, Tryd.ntmps41
  go_wp2_with fail
  go_loopw [1] (fun vi wr => ∃ q : Nat, vi = .int .i64 (q : Int) ∧ p ≤ q ∧ q ≤ s.size ∧ Hid (∃ tk, tk ≤ q + 1 ∧ Gok wr g s L ro O fr tk) ∧ Hid (Cl s.toList L st q st p) ∧ Hid (Fg g w wr)) (fun vi _ => s.size - (intOf vi).toNat)
  case atStart => exact ⟨p, rfl, Nat.le_refl _, hp, HG0, Cl.refl _ _ _ _, Fg.refl g w⟩
  case round =>
    obtain ⟨q, rfl, hpq, hqs, HG, HC, HB⟩ := hrel
    have HPQ := Lib.hid hpq
    clear HG0
    obtain ⟨tk, htk, hG⟩ := HG.out
    by_cases h1 : q < s.size ∧ q < L.bytes
    · obtain ⟨hq1, hq2⟩ := h1
      have W := Lib.hid (gwant_yes hG (q : Int) q rfl hq1 hq2 HS.out htk)
      have HH := Lib.hid (has_of hq1 hq2)
      have hb := byte_at s q hq1
      have e1 : (q : Int) < (s.size : Int) := by omega
      have e3 : (0 : Int) ≤ (q : Int) := by omega
      have e4 : (q : Int) < 140737488351232 := by have := HS.out; omega
      have BL := Lib.hid (fun w' => rblank_any (s.toList.getD q 0) w')
      rw [← hb] at BL
      obtain ⟨y, hy⟩ : ∃ y, (s[q]).toNat = y := ⟨_, rfl⟩
      rw [hy] at BL
      obtain ⟨bb, hbb⟩ : ∃ b, Js.blank (s.toList.getD q 0) = b := ⟨_, rfl⟩
      have HBB := Lib.hid hbb
      have HQ1 := Lib.hid hq1
      rw [hbb] at BL
      clear hb hbb hG htk hpq hqs hq2
      cases bb with
      | true =>
        go_wp2_with (first | (go_at_call 43; refine W.out.mono ?_; rintro e w1 ⟨rfl, HG1, HB1⟩; have t0 := Gok.txt HG1.out) | (go_at_call 44; refine (BL.out _).mono ?_; rintro e w2 ⟨rfl, rfl⟩))
        go_roundw
        case rel => exact ⟨q + 1, by go_num, by have := HPQ.out; omega, HQ1.out, ⟨q + 1, by omega, HG1.out⟩, Cl.trans (fun r t k h => pass_blank HST.out.1 HH.out rfl HBB.out h) HC.out, HB.out.trans HB1.out⟩
        case measure => have h9 := HQ1.out; simp [intOf]; omega
      | false =>
        go_wp2_with (first | (go_at_call 43; refine W.out.mono ?_; rintro e w1 ⟨rfl, HG1, HB1⟩; have t0 := Gok.txt HG1.out) | (go_at_call 44; refine (BL.out _).mono ?_; rintro e w2 ⟨rfl, rfl⟩))
        exact bodyPost_ret (v := .tuple #[.int .i64 (q : Int), .bool true]) (by simp [results, Tryd.results41, go_sem]) rfl (.inl ⟨q, HPQ.out, HH.out, HBB.out, HC.out, rfl, by rw [HFR.out]; exact HG1, HB.out.trans HB1.out⟩)
    · have W := Lib.hid (gwant_no hG (q : Int) q rfl h1)
      have hlk : RunsT s.toList L st q (lack s.toList L) (lackK s.toList L) st.G.length := stop_lack (has_not h1) (fun _ => by
        rw [St.last, HST.out.1]
        dsimp only
        split
        · rw [if_neg HST.out.2]
        · rfl)
      have HLK := Lib.hid (HC.out _ _ _ hlk)
      clear hG htk h1 hlk hpq hqs
      go_wp2_with (go_at_call 43; refine W.out.mono ?_; rintro e w1 ⟨rfl, HG1, HB1⟩)
      exact bodyPost_ret (v := .tuple #[.int .i64 0, .bool false]) (by simp [results, Tryd.results41, go_sem]) rfl (.inr ⟨_, _, _, _, HLK.out, rfl, by rw [HFR.out]; exact HG1, HB.out.trans HB1.out⟩)
end Jr
end Go.Proofs.YtpaikjlcachabaaDoor
namespace Go.Proofs.YtpaikjlcachabaaDoor
open Go.RowKit
set_option linter.unusedVariables false
set_option linter.unusedSimpArgs false
namespace Jr
open Js
open Dr (Rs Lm has lack lackE lackP)
def hexI (b : UInt8) : Int := match hexOf b with | some v => (v : Int) | none => -1
theorem hexOf_lt {b : UInt8} {v : Nat} (h : hexOf b = some v) : v < 16 := by
  rw [hexOf] at h
  repeat' split at h
  all_goals first | (cases h; omega) | cases h
set_option maxRecDepth 100000 in
set_option maxHeartbeats 1600000 in
theorem rhex_any (b : UInt8) (w : World) : Calls Tryd.prog 98 #[.int .u8 (b.toNat : Int)] w (RetV (.int .i64 (hexI b)) w) := by
  have DG := Lib.hid (fun w' => rdigit_any b w')
  rw [isDigit] at DG
  rw [hexI, hexOf]
  have hlt := b.toNat_lt
  obtain ⟨n, hn⟩ : ∃ n, b.toNat = n := ⟨_, rfl⟩
  rw [hn] at DG hlt ⊢
  clear hn
  by_cases g1 : 48 ≤ n ∧ n ≤ 57
  · rw [decide_eq_true g1] at DG
    rw [if_pos g1]
    dsimp only
    obtain ⟨v0, hv0⟩ : ∃ v, n - 48 = v := ⟨_, rfl⟩
    have k1 : (n : Int) - 48 = (v0 : Int) := by omega
    rw [hv0]
    have k5 : (v0 : Int) < 16 := by omega
    clear hlt g1 hv0
    go_enter Tryd.func98, Tryd.ntmps98
    go_wp2_with (go_at_call 62; refine (DG.out _).mono ?_; rintro e w2 ⟨rfl, rfl⟩)
    go_ret
    exact ⟨rfl, rfl⟩
  rw [decide_eq_false g1] at DG
  rw [if_neg g1]
  by_cases g2 : 97 ≤ n ∧ n ≤ 102
  · rw [if_pos g2]
    dsimp only
    obtain ⟨v0, hv0⟩ : ∃ v, n - 97 = v := ⟨_, rfl⟩
    have k1 : (n : Int) - 97 = (v0 : Int) := by omega
    have k5 : (v0 : Int) < 16 := by omega
    rw [hv0]
    have d3 : (97 : Int) ≤ n := by omega
    have d4 : (n : Int) ≤ 102 := by omega
    have k2 : ((v0 + 10 : Nat) : Int) = (v0 : Int) + 10 := by omega
    rw [k2]
    clear hlt g1 g2 hv0 k2
    go_enter Tryd.func98, Tryd.ntmps98
    go_wp2_with (go_at_call 62; refine (DG.out _).mono ?_; rintro e w2 ⟨rfl, rfl⟩)
    go_ret
    exact ⟨rfl, rfl⟩
  rw [if_neg g2]
  by_cases g3 : 65 ≤ n ∧ n ≤ 70
  · rw [if_pos g3]
    dsimp only
    obtain ⟨v0, hv0⟩ : ∃ v, n - 65 = v := ⟨_, rfl⟩
    have k1 : (n : Int) - 65 = (v0 : Int) := by omega
    have k5 : (v0 : Int) < 16 := by omega
    rw [hv0]
    have d3 : ¬ (97 : Int) ≤ n := by omega
    have d5 : (65 : Int) ≤ n := by omega
    have d6 : (n : Int) ≤ 70 := by omega
    have k2 : ((v0 + 10 : Nat) : Int) = (v0 : Int) + 10 := by omega
    rw [k2]
    clear hlt g1 g2 g3 hv0 k2
    go_enter Tryd.func98, Tryd.ntmps98
    go_wp2_with (go_at_call 62; refine (DG.out _).mono ?_; rintro e w2 ⟨rfl, rfl⟩)
    go_ret
    exact ⟨rfl, rfl⟩
  rw [if_neg g3]
  dsimp only
  by_cases b1 : n < 65
  · have d3 : ¬ (97 : Int) ≤ n := by omega
    have d5 : ¬ (65 : Int) ≤ n := by omega
    clear hlt g1 g2 g3 b1
    go_enter Tryd.func98, Tryd.ntmps98
    go_wp2_with (go_at_call 62; refine (DG.out _).mono ?_; rintro e w2 ⟨rfl, rfl⟩)
    go_ret
    exact ⟨rfl, rfl⟩
  by_cases b2 : n < 97
  · have d3 : ¬ (97 : Int) ≤ n := by omega
    have d5 : (65 : Int) ≤ n := by omega
    have d6 : ¬ (n : Int) ≤ 70 := by omega
    clear hlt g1 g2 g3 b1 b2
    go_enter Tryd.func98, Tryd.ntmps98
    go_wp2_with (go_at_call 62; refine (DG.out _).mono ?_; rintro e w2 ⟨rfl, rfl⟩)
    go_ret
    exact ⟨rfl, rfl⟩
  have d3 : (97 : Int) ≤ n := by omega
  have d4 : ¬ (n : Int) ≤ 102 := by omega
  have d5 : (65 : Int) ≤ n := by omega
  have d6 : ¬ (n : Int) ≤ 70 := by omega
  clear hlt g1 g2 g3 b1 b2
  go_enter Tryd.func98, Tryd.ntmps98
  go_wp2_with (go_at_call 62; refine (DG.out _).mono ?_; rintro e w2 ⟨rfl, rfl⟩)
  go_ret
  exact ⟨rfl, rfl⟩
/-- a string at hand -/
def sx (st : St) (m : Sm) (t : List UInt8) : St := { st with hand := .str ⟨m, t⟩ }
def Four (S : List UInt8) (L : Lm) (st : St) (t : List UInt8) (hf p : Nat) (i n : Nat) : Prop :=
  n < 16 ^ i ∧ (i ≤ 3 → Cl S L (sx st (.hex (4 - i) n hf) t) (p + i) (sx st (.hex 4 0 hf) t) p) ∧
  (i = 4 → ∃ m v, has S L (p + 3) = true ∧ hexOf (S.getD (p + 3) 0) = some v ∧ n = 16 * m + v ∧ Cl S L (sx st (.hex 1 m hf) t) (p + 3) (sx st (.hex 4 0 hf) t) p)
theorem sx_last (st : St) (m : Sm) (t : List UInt8) : (sx st m t).last = none := by
  rw [St.last]
  split
  · rfl
  · rfl
theorem sx_lack {S : List UInt8} {L : Lm} {st : St} {m : Sm} {t : List UInt8} {p : Nat} (hh : has S L p = false) : RunsT S L (sx st m t) p (lack S L) (lackK S L) st.G.length := stop_lack hh (fun _ => sx_last st m t)
theorem sx_bad {S : List UInt8} {L : Lm} {st : St} {m : Sm} {t : List UInt8} {p : Nat} (hh : has S L p = true) (hb : (⟨m, t⟩ : Ss).take (S.getD p 0) = .bad) : RunsT S L (sx st m t) p (.no 9 p false) (p + 1) st.G.length := by
  refine RunsT.fl (s := sx st m t) hh ?_
  show (match (⟨m, t⟩ : Ss).take (S.getD p 0) with | .more y => Out.go { sx st m t with hand := .str y } | .bad => .fl 9 p | .done => (sx st m t).endStr t) = _
  rw [hb]
theorem sx_more {S : List UInt8} {L : Lm} {st : St} {m m' : Sm} {t t' : List UInt8} {p : Nat} (hh : has S L p = true) (hb : (⟨m, t⟩ : Ss).take (S.getD p 0) = .more ⟨m', t'⟩) : Cl S L (sx st m' t') (p + 1) (sx st m t) p := by
  intro r tk k h
  refine RunsT.go (s := sx st m t) hh ?_ h
  show (match (⟨m, t⟩ : Ss).take (S.getD p 0) with | .more y => Out.go { sx st m t with hand := .str y } | .bad => .fl 9 p | .done => (sx st m t).endStr t) = _
  rw [hb]
  rfl
theorem Four.zero (S : List UInt8) (L : Lm) (st : St) (t : List UInt8) (hf p : Nat) : Four S L st t hf p 0 0 := ⟨by decide, fun _ => Cl.refl _ _ _ _, fun h => by cases h⟩
theorem take_hex (l n hf v : Nat) (t : List UInt8) (b : UInt8) (h : hexOf b = some v) : (⟨.hex l n hf, t⟩ : Ss).take b = if 0 < l - 1 then .more ⟨.hex (l - 1) (16 * n + v) hf, t⟩ else numbered t (16 * n + v) hf := by
  show (match hexOf b with | none => Sr.bad | some v => if 0 < l - 1 then Sr.more ⟨.hex (l - 1) (16 * n + v) hf, t⟩ else numbered t (16 * n + v) hf) = _
  rw [h]
theorem take_hexN (l n hf : Nat) (t : List UInt8) (b : UInt8) (h : hexOf b = none) : (⟨.hex l n hf, t⟩ : Ss).take b = .bad := by
  show (match hexOf b with | none => Sr.bad | some v => if 0 < l - 1 then Sr.more ⟨.hex (l - 1) (16 * n + v) hf, t⟩ else numbered t (16 * n + v) hf) = _
  rw [h]
theorem Four.step {S : List UInt8} {L : Lm} {st : St} {t : List UInt8} {hf p i n v : Nat} (h : Four S L st t hf p i n) (hi : i < 4) (hh : has S L (p + i) = true) (hv : hexOf (S.getD (p + i) 0) = some v) : Four S L st t hf p (i + 1) (16 * n + v) := by
  obtain ⟨h1, h2, -⟩ := h
  have hv16 := hexOf_lt hv
  refine ⟨by rw [Nat.pow_succ]; omega, fun h3 => ?_, fun h4 => ?_⟩
  · refine Cl.trans (sx_more (m' := .hex (4 - (i + 1)) (16 * n + v) hf) (t' := t) hh ?_) (h2 (by omega))
    show (⟨.hex (4 - i) n hf, t⟩ : Ss).take (S.getD (p + i) 0) = _
    rw [take_hex _ _ _ _ _ _ hv, if_pos (by omega), show 4 - i - 1 = 4 - (i + 1) by omega]
  · obtain rfl : i = 3 := by omega
    exact ⟨n, v, hh, hv, rfl, h2 (Nat.le_refl 3)⟩
def RetFour (st : St) (t : List UInt8) (hf p : Nat) (g : Nat) (s : ByteArray) (L : Lm) (ro : Int) (O : List Vl) (w : World) (e : Ending) (w' : World) : Prop :=
  (∃ m v, has s.toList L (p + 3) = true ∧ hexOf (s.toList.getD (p + 3) 0) = some v ∧ 16 * m + v < 65536 ∧ Cl s.toList L (sx st (.hex 1 m hf) t) (p + 3) (sx st (.hex 4 0 hf) t) p ∧ GYes (.tuple #[.int .i64 ((16 * m + v : Nat) : Int), .bool true]) g s L ro O st.G.length (p + 4) w e w') ∨
  (∃ c q b tk, RunsT s.toList L (sx st (.hex 4 0 hf) t) p (.no c q b) tk st.G.length ∧ GNay (.tuple #[.int .i64 0, .bool false]) g s L ro c q b tk st.G.length w e w')
set_option maxRecDepth 100000 in
set_option maxHeartbeats 1600000 in
theorem four_any {w : World} {g : Nat} {s : ByteArray} {L : Lm} {ro : Int} {O : List Vl} {tk : Nat} (st : St) (t : List UInt8) (hf : Nat) (hG : Gok w g s L ro O st.G.length tk) (p : Nat) (hs : s.size ≤ 140737488351232) (htk : tk ≤ p + 1) (hp : p ≤ s.size + 100) :
    Calls Tryd.prog 91 #[.pointer (some ⟨g, 0, none⟩), .int .i64 (p : Int)] w (RetFour st t hf p g s L ro O w) := by
  have HG0 : Hid (∃ tk, tk ≤ p + 0 + 1 ∧ Gok w g s L ro O st.G.length tk) := ⟨tk, htk, hG⟩
  have HS := Lib.hid hs
  have HP : Hid ((p : Int) ≤ 140737488351500) := by show (p : Int) ≤ _; omega
  obtain ⟨fr, hfr⟩ : ∃ n, st.G.length = n := ⟨_, rfl⟩
  have HFR := Lib.hid hfr
  rw [hfr] at HG0
  clear hG htk hs hp hfr
  go_enter Tryd.func91, Tryd.ntmps91
  go_wp2_with fail
  go_loopw [6, 7, 8] (fun vn vi vh wr => ∃ i n : Nat, vn = .int .i64 (n : Int) ∧ vi = .int .i64 (i : Int) ∧ i ≤ 4 ∧ n < 65536 ∧ Hid (∃ tk, tk ≤ p + i + 1 ∧ Gok wr g s L ro O fr tk ∧ (i = 4 → tk = p + 4)) ∧ Hid (Four s.toList L st t hf p i n) ∧ Hid (Fg g w wr)) (fun _ vi _ _ => 4 - (intOf vi).toNat)
  case atStart =>
    obtain ⟨tk, h1, h2⟩ := HG0.out
    exact ⟨0, 0, rfl, rfl, by omega, by omega, ⟨tk, h1, h2, fun h => by cases h⟩, Four.zero _ _ _ _ _ _, Fg.refl g w⟩
  case round =>
    obtain ⟨i, n, rfl, rfl, hi4, hn, HG, HF, HB⟩ := hrel
    clear HG0
    by_cases h4 : i < 4
    · have e1 : (i : Int) < 4 := by omega
      obtain ⟨tk, htk, hG, -⟩ := HG.out
      have HI := Lib.hid h4
      have e8 : (p : Int) + (i : Int) < 140737488351600 := by have := HP.out; omega
      obtain ⟨q, hq⟩ : ∃ q, p + i = q := ⟨_, rfl⟩
      have hqi : (p : Int) + (i : Int) = (q : Int) := by omega
      have HQ := Lib.hid hq
      rw [hq] at htk
      by_cases h1 : q < s.size ∧ q < L.bytes
      · obtain ⟨hq1, hq2⟩ := h1
        have W := Lib.hid (gwant_yes hG (q : Int) q rfl hq1 hq2 HS.out htk)
        have HH := Lib.hid (has_of hq1 hq2)
        have hb := byte_at s q hq1
        have e2 : (q : Int) < (s.size : Int) := by omega
        have e3 : (0 : Int) ≤ (q : Int) := by omega
        have e0 := hq1
        have BL := Lib.hid (fun w' => rhex_any (s.toList.getD q 0) w')
        rw [← hb] at BL
        obtain ⟨y, hy⟩ : ∃ y, (s[q]).toNat = y := ⟨_, rfl⟩
        rw [hy] at BL
        obtain ⟨xi, hxi⟩ : ∃ x, hexI (s.toList.getD q 0) = x := ⟨_, rfl⟩
        rw [hxi] at BL
        have HXI := Lib.hid hxi
        have HNN := Lib.hid hn
        clear hb hG htk hq2 hq h4 hi4 hn hxi
        go_wp2_with (go_at_call 43; refine W.out.mono ?_; rintro e w1 ⟨rfl, HG1, HB1⟩; have t0 := Gok.txt HG1.out)
        refine (BL.out _).mono ?_
        rintro e w2 ⟨rfl, rfl⟩
        clear W BL
        cases hx : hexOf (s.toList.getD q 0) with
        | none =>
          obtain rfl : xi = -1 := by rw [← HXI.out, hexI, hx]
          have HBD : Hid (RunsT s.toList L (sx st (.hex 4 0 hf) t) p (.no 9 q false) (q + 1) st.G.length) := by
            have h7 := HF.out.2.1 (by have := HI.out; omega)
            rw [HQ.out] at h7
            exact h7 _ _ _ (sx_bad HH.out (take_hexN _ _ _ _ _ hx))
          clear hx
          go_wp2_with (go_at_call 45; refine (gfault16_ok HG1.out _ _ q rfl).mono ?_; rintro e w2 ⟨rfl, HG2, HB2⟩)
          exact bodyPost_ret (v := .tuple #[.int .i64 0, .bool false]) (by simp [results, Tryd.results91, go_sem]) rfl (.inr ⟨_, _, _, _, HBD.out, rfl, by rw [HFR.out]; exact HG2, (HB.out.trans HB1.out).trans HB2.out⟩)
        | some v =>
          obtain rfl : xi = (v : Int) := by rw [← HXI.out, hexI, hx]
          have hv := hexOf_lt hx
          have HST : Hid (Four s.toList L st t hf p (i + 1) (16 * n + v)) := Four.step HF.out HI.out (by rw [HQ.out]; exact HH.out) (by rw [HQ.out]; exact hx)
          have hn2 : 16 * n + v < 65536 := by
            have h7 := HST.out.1
            have h8 : 16 ^ (i + 1) ≤ 16 ^ 4 := Nat.pow_le_pow_right (by decide) (by have := HI.out; omega)
            omega
          obtain ⟨z, hz⟩ : ∃ z, 16 * n + v = z := ⟨_, rfl⟩
          have k6 : Hid (wrap64 (wrap64 (16 * (n : Int)) + (v : Int)) = (z : Int)) := by
            have hw : ∀ x : Int, -9223372036854775808 ≤ x → x ≤ 9223372036854775807 → wrap64 x = x := fun x _ _ => by unfold wrap64; omega
            show wrap64 (wrap64 (16 * (n : Int)) + (v : Int)) = (z : Int)
            rw [hw (16 * (n : Int)) (by omega) (by omega), hw _ (by omega) (by omega)]
            omega
          have e7 : (v : Int) < 16 := by omega
          have e6 : ¬ (v : Int) < 0 := by omega
          rw [hz] at HST hn2
          have HN2 := Lib.hid hn2
          clear hx hn2 hv hz hqi e8 e2 e3
          go_wp2_with fail
          go_roundw
          case rel => exact ⟨i + 1, z, congrArg (Value.int IntKind.i64) k6.out, congrArg (Value.int IntKind.i64) (show (i : Int) + 1 = ((i + 1 : Nat) : Int) by omega), by have := HI.out; omega, HN2.out, ⟨q + 1, by have := HQ.out; omega, HG1.out, fun h => by have := HQ.out; omega⟩, HST, HB.out.trans HB1.out⟩
          case measure => have h9 := HI.out; simp [intOf]; omega
      · have W := Lib.hid (gwant_no hG (q : Int) q rfl h1)
        have HLK : Hid (RunsT s.toList L (sx st (.hex 4 0 hf) t) p (lack s.toList L) (lackK s.toList L) st.G.length) := by
          have h7 := HF.out.2.1 (by omega)
          rw [hq] at h7
          exact h7 _ _ _ (sx_lack (has_not h1))
        clear hG htk h1 hq h4 hi4 hn
        go_wp2_with (go_at_call 43; refine W.out.mono ?_; rintro e w1 ⟨rfl, HG1, HB1⟩)
        exact bodyPost_ret (v := .tuple #[.int .i64 0, .bool false]) (by simp [results, Tryd.results91, go_sem]) rfl (.inr ⟨_, _, _, _, HLK.out, rfl, by rw [HFR.out]; exact HG1, HB.out.trans HB1.out⟩)
    · obtain rfl : i = 4 := by omega
      have HN2 := Lib.hid hn
      clear hi4 hn h4
      go_wp2_with fail
      obtain ⟨tk, -, hG, h8⟩ := HG.out
      obtain rfl : tk = p + 4 := by first | exact h8 rfl | exact h8 trivial
      obtain ⟨m, v, k1, k2, rfl, k4⟩ := HF.out.2.2 rfl
      exact bodyPost_ret (v := .tuple #[.int .i64 ((16 * m + v : Nat) : Int), .bool true]) (by simp [results, Tryd.results91, go_sem]) rfl (.inl ⟨m, v, k1, k2, HN2.out, k4, rfl, by rw [HFR.out]; exact hG, HB⟩)
end Jr
end Go.Proofs.YtpaikjlcachabaaDoor
namespace Go.Proofs.YtpaikjlcachabaaDoor
open Go.RowKit
set_option linter.unusedVariables false
set_option linter.unusedSimpArgs false
namespace Jr
open Js
open Dr (Rs Lm has lack lackE lackP)
theorem cv_cells (w : World) (l : List UInt8) (cs : Array Value) (n : Nat) (hc : cs.toList = bcells l) (hn : l.length = n) :
    (convert 66 9 (.slice (some ⟨w.heap.size, 0, none⟩) n n)).run Tryd.prog (w.alloc (Obj.cells cs 5)) = .ok (.string ⟨l.toArray⟩) (w.alloc (Obj.cells cs 5)) := by
  subst hn
  have hA := At.ofAlloc w cs 5
  rw [hc] at hA
  refine run_convert_bytes_back _ 66 9 5 ⟨w.heap.size, 0, none⟩ l.length l Tryd.underlying66 Tryd.underlying5 Tryd.underlying9 fun j hj => ?_
  have h1 := hA.cell j (.int .u8 ((l[j]).toNat : Int)) (by rw [bcells, List.getElem?_map, List.getElem?_eq_getElem hj]; rfl)
  have h2 : (⟨w.heap.size, 0, none⟩ : Addr).add j = ⟨w.heap.size, 0 + j, none⟩ := by unfold Addr.add; split <;> simp_all
  rw [h2]
  exact h1
set_option maxRecDepth 100000 in
set_option maxHeartbeats 1600000 in
theorem rsign_any (n : Nat) (h : n ≤ 1114111) (w : World) : Calls Tryd.prog 92 #[.int .i64 (n : Int)] w (fun e w' => e = .returned (.string ⟨(enc8 n).toArray⟩) ∧ Below w.heap.size w w') := by
  have hb : ∀ x : Nat, x < 256 → (Value.int .u8 ((UInt8.ofNat x).toNat : Int)) = .int .u8 (x : Int) := fun x hx => by rw [UInt8.toNat_ofNat', Nat.mod_eq_of_lt hx]
  rw [enc8]
  by_cases h1 : n < 128
  · rw [if_pos h1]
    have hcv := fun w => cv_cells w [UInt8.ofNat n] #[.int .u8 (n : Int)] 1 (by show _ = [Value.int .u8 ((UInt8.ofNat n).toNat : Int)]; rw [hb n (by omega)]) rfl
    have e1 : (n : Int) < 128 := by omega
    clear h1 h hb
    go_enter Tryd.func92, Tryd.ntmps92
    go_wp2_with fail
    go_ret
    exact ⟨rfl, (Below.refl _ _).alloc (Nat.le_refl _) _⟩
  rw [if_neg h1]
  by_cases h2 : n < 2048
  · rw [if_pos h2]
    have hcv := fun w => cv_cells w [UInt8.ofNat (192 + n / 64), UInt8.ofNat (128 + n % 64)] #[.int .u8 (192 + (n : Int) / 64), .int .u8 (128 + (n : Int) % 64)] 2 (by show _ = [Value.int .u8 ((UInt8.ofNat (192 + n / 64)).toNat : Int), Value.int .u8 ((UInt8.ofNat (128 + n % 64)).toNat : Int)]; rw [hb _ (by omega), hb _ (by omega)]; rfl) rfl
    have e1 : ¬ (n : Int) < 128 := by omega
    have e2 : (n : Int) < 2048 := by omega
    have e3 : (0 : Int) ≤ (n : Int) / 64 := by omega
    have e4 : (n : Int) / 64 < 32 := by omega
    have e5 : (n : Int) % 64 < 64 := by omega
    clear h1 h2 h hb
    go_enter Tryd.func92, Tryd.ntmps92
    go_wp2_with fail
    go_ret
    exact ⟨rfl, (Below.refl _ _).alloc (Nat.le_refl _) _⟩
  rw [if_neg h2]
  by_cases h3 : n < 65536
  · rw [if_pos h3]
    have hcv := fun w => cv_cells w [UInt8.ofNat (224 + n / 4096), UInt8.ofNat (128 + n / 64 % 64), UInt8.ofNat (128 + n % 64)] #[.int .u8 (224 + (n : Int) / 4096), .int .u8 (128 + (n : Int) / 64 % 64), .int .u8 (128 + (n : Int) % 64)] 3 (by show _ = [Value.int .u8 ((UInt8.ofNat (224 + n / 4096)).toNat : Int), Value.int .u8 ((UInt8.ofNat (128 + n / 64 % 64)).toNat : Int), Value.int .u8 ((UInt8.ofNat (128 + n % 64)).toNat : Int)]; rw [hb _ (by omega), hb _ (by omega), hb _ (by omega)]; rfl) rfl
    have e1 : ¬ (n : Int) < 128 := by omega
    have e2 : ¬ (n : Int) < 2048 := by omega
    have e3 : (n : Int) < 65536 := by omega
    have e4 : (n : Int) / 4096 < 16 := by omega
    have e5 : (n : Int) % 64 < 64 := by omega
    have e6 : (n : Int) / 64 % 64 < 64 := by omega
    clear h1 h2 h3 h hb
    go_enter Tryd.func92, Tryd.ntmps92
    go_wp2_with fail
    go_ret
    exact ⟨rfl, (Below.refl _ _).alloc (Nat.le_refl _) _⟩
  rw [if_neg h3]
  have hcv := fun w => cv_cells w [UInt8.ofNat (240 + n / 262144), UInt8.ofNat (128 + n / 4096 % 64), UInt8.ofNat (128 + n / 64 % 64), UInt8.ofNat (128 + n % 64)] #[.int .u8 (240 + (n : Int) / 262144), .int .u8 (128 + (n : Int) / 4096 % 64), .int .u8 (128 + (n : Int) / 64 % 64), .int .u8 (128 + (n : Int) % 64)] 4 (by show _ = [Value.int .u8 ((UInt8.ofNat (240 + n / 262144)).toNat : Int), Value.int .u8 ((UInt8.ofNat (128 + n / 4096 % 64)).toNat : Int), Value.int .u8 ((UInt8.ofNat (128 + n / 64 % 64)).toNat : Int), Value.int .u8 ((UInt8.ofNat (128 + n % 64)).toNat : Int)]; rw [hb _ (by omega), hb _ (by omega), hb _ (by omega), hb _ (by omega)]; rfl) rfl
  have e1 : ¬ (n : Int) < 128 := by omega
  have e2 : ¬ (n : Int) < 2048 := by omega
  have e3 : ¬ (n : Int) < 65536 := by omega
  have e4 : (n : Int) / 262144 < 5 := by omega
  have e5 : (n : Int) % 64 < 64 := by omega
  have e6 : (n : Int) / 64 % 64 < 64 := by omega
  have e7 : (n : Int) / 4096 % 64 < 64 := by omega
  have e8 : (n : Int) ≤ 1114111 := by omega
  clear h1 h2 h3 h hb
  go_enter Tryd.func92, Tryd.ntmps92
  go_wp2_with fail
  go_ret
  exact ⟨rfl, (Below.refl _ _).alloc (Nat.le_refl _) _⟩
end Jr
end Go.Proofs.YtpaikjlcachabaaDoor
namespace Go.Proofs.YtpaikjlcachabaaDoor
open Go.RowKit
set_option linter.unusedVariables false
set_option linter.unusedSimpArgs false
namespace Jr
open Js
open Dr (Rs Lm has lack lackE lackP)
/-- a word at hand -/
def wx (st : St) (r : List UInt8) : St := { st with hand := .word r }
theorem wx_last (st : St) (r : List UInt8) : (wx st r).last = none := by
  rw [St.last]
  split
  · rfl
  · rfl
theorem wx_act (L : Lm) (st : St) (x : UInt8) (r : List UInt8) (b : UInt8) (p : Nat) : (wx st (x :: r)).act L b p = if b = x then (if r = [] then .go st.ended else .go (wx st r)) else .fl 9 p := rfl
/-- behind the first i bytes of a word x :: r, whose first byte stands at p -/
def WordAt (S : List UInt8) (L : Lm) (st : St) (x : UInt8) (r : List UInt8) (p i : Nat) : Prop :=
  (1 ≤ i → i ≤ r.length → Cl S L (wx st (r.drop (i - 1))) (p + i) (wx st r) (p + 1)) ∧ (i = r.length + 1 → Cl S L st.ended (p + i) (wx st r) (p + 1))
theorem WordAt.zero (S : List UInt8) (L : Lm) (st : St) (x : UInt8) (r : List UInt8) (p : Nat) : WordAt S L st x r p 0 := ⟨fun h => absurd h (by decide), fun h => by omega⟩
theorem WordAt.step {S : List UInt8} {L : Lm} {st : St} {x : UInt8} {r : List UInt8} {p i : Nat} (hr : r ≠ []) (h : WordAt S L st x r p i) (hi : i < r.length + 1) (hh : has S L (p + i) = true) (hb : S.getD (p + i) 0 = (x :: r).getD i 0) : WordAt S L st x r p (i + 1) := by
  have hl : 0 < r.length := List.length_pos_iff.2 hr
  by_cases h0 : i = 0
  · subst h0
    exact ⟨fun _ _ => Cl.refl _ _ _ _, fun h9 => by omega⟩
  · have h2 := h.1 (by omega) (by omega)
    obtain ⟨j, rfl⟩ : ∃ j, i = j + 1 := ⟨i - 1, by omega⟩
    rw [Nat.add_sub_cancel] at h2
    have hd : r.drop j = r[j] :: r.drop (j + 1) := List.drop_eq_getElem_cons (by omega)
    have hx : S.getD (p + (j + 1)) 0 = r[j] := by
      rw [hb, List.getD, List.getElem?_cons_succ, List.getElem?_eq_getElem (by omega)]
      rfl
    rw [hd] at h2
    have ha : (wx st (r[j] :: r.drop (j + 1))).act L (S.getD (p + (j + 1)) 0) (p + (j + 1)) = if r.drop (j + 1) = [] then .go st.ended else .go (wx st (r.drop (j + 1))) := by rw [wx_act, if_pos hx]
    refine ⟨fun _ h8 => ?_, fun h9 => ?_⟩
    · rw [if_neg (by intro e; have := congrArg List.length e; rw [List.length_drop] at this; simp at this; omega)] at ha
      exact Cl.trans (fun r' t k h7 => RunsT.go hh ha h7) h2
    · rw [if_pos (List.drop_eq_nil_of_le (by omega))] at ha
      exact Cl.trans (fun r' t k h7 => RunsT.go hh ha h7) h2
def RetWord (st : St) (x : UInt8) (r : List UInt8) (p : Nat) (g : Nat) (s : ByteArray) (L : Lm) (ro : Int) (O : List Vl) (w : World) (e : Ending) (w' : World) : Prop :=
  (Cl s.toList L st.ended (p + r.length + 1) (wx st r) (p + 1) ∧ GYes (.tuple #[.int .i64 ((p + r.length + 1 : Nat) : Int), .bool true]) g s L ro O st.G.length (p + r.length + 1) w e w') ∨
  (∃ c q b tk, RunsT s.toList L (wx st r) (p + 1) (.no c q b) tk st.G.length ∧ GNay (.tuple #[.int .i64 0, .bool false]) g s L ro c q b tk st.G.length w e w')
end Jr
end Go.Proofs.YtpaikjlcachabaaDoor
namespace Go.Proofs.YtpaikjlcachabaaDoor
open Go.RowKit
set_option linter.unusedVariables false
set_option linter.unusedSimpArgs false
namespace Jr
open Js
open Dr (Rs Lm has lack lackE lackP)
theorem word_bad {S : List UInt8} {L : Lm} {st : St} {x : UInt8} {r : List UInt8} {p i : Nat} (h : WordAt S L st x r p i) (hi : i < r.length + 1) (h0 : i ≠ 0) (hh : has S L (p + i) = true) (hb : S.getD (p + i) 0 ≠ (x :: r).getD i 0) : RunsT S L (wx st r) (p + 1) (.no 9 (p + i) false) (p + i + 1) st.G.length := by
  have h2 := h.1 (by omega) (by omega)
  obtain ⟨j, rfl⟩ : ∃ j, i = j + 1 := ⟨i - 1, by omega⟩
  rw [Nat.add_sub_cancel] at h2
  have hd : r.drop j = r[j] :: r.drop (j + 1) := List.drop_eq_getElem_cons (by omega)
  have hx : ¬ S.getD (p + (j + 1)) 0 = r[j] := by
    have hc : (x :: r).getD (j + 1) 0 = r[j] := by
      rw [List.getD, List.getElem?_cons_succ, List.getElem?_eq_getElem (by omega)]
      rfl
    rw [hc] at hb
    exact hb
  rw [hd] at h2
  have ha : (wx st (r[j] :: r.drop (j + 1))).act L (S.getD (p + (j + 1)) 0) (p + (j + 1)) = .fl 9 (p + (j + 1)) := by rw [wx_act, if_neg hx]
  exact h2 _ _ _ (RunsT.fl hh ha)
theorem word_lack {S : List UInt8} {L : Lm} {st : St} {x : UInt8} {r : List UInt8} {p i : Nat} (h : WordAt S L st x r p i) (hi : i < r.length + 1) (h0 : i ≠ 0) (hh : has S L (p + i) = false) : RunsT S L (wx st r) (p + 1) (lack S L) (lackK S L) st.G.length :=
  h.1 (by omega) (by omega) _ _ _ (stop_lack hh (fun _ => wx_last _ _))
set_option maxRecDepth 100000 in
set_option maxHeartbeats 1600000 in
theorem word_any {w : World} {g : Nat} {s : ByteArray} {L : Lm} {ro : Int} {O : List Vl} {tk : Nat} (st : St) (x : UInt8) (r : List UInt8) (hr : r ≠ []) (hrl : r.length ≤ 10) (W : ByteArray) (hW : W.toList = x :: r) (hG : Gok w g s L ro O st.G.length tk) (p : Nat) (hs : s.size ≤ 140737488351232) (htk : tk ≤ p + 1) (hp : has s.toList L p = true) (hb : s.toList.getD p 0 = x) :
    Calls Tryd.prog 66 #[.pointer (some ⟨g, 0, none⟩), .int .i64 (p : Int), .string W] w (RetWord st x r p g s L ro O w) := by
  have HG0 : Hid (∃ tk, tk ≤ p + 0 + 1 ∧ Gok w g s L ro O st.G.length tk) := ⟨tk, htk, hG⟩
  have HS := Lib.hid hs
  have hpl : p < s.size := by have := (has_lt hp).1; rw [tl_size] at this; exact this
  have HP : Hid ((p : Int) < 140737488351232) := by show (p : Int) < _; omega
  have hWs : W.size = r.length + 1 := by rw [← tl_size, hW]; rfl
  have HWL := Lib.hid hW
  have HRN := Lib.hid hr
  have HPB := Lib.hid (And.intro hp hb)
  obtain ⟨n, hn⟩ : ∃ n, r.length + 1 = n := ⟨_, rfl⟩
  rw [hn] at hWs
  have HN := Lib.hid (And.intro hn (show n ≤ 11 by omega))
  have HWS := Lib.hid hWs
  have IS := Lib.hid (fun (w' : World) (tk' q : Nat) (c : UInt8) (h : Gok w' g s L ro O st.G.length tk') (h2 : tk' ≤ q + 1) => is_any h q c hs h2)
  obtain ⟨fr, hfr⟩ : ∃ n, st.G.length = n := ⟨_, rfl⟩
  have HFR := Lib.hid hfr
  rw [hfr] at HG0 IS
  clear hG htk hs hp hb hfr hW hr hrl hn hpl
  go_enter Tryd.func66, Tryd.ntmps66
  go_wp2_with fail
  go_loopw [8] (fun vi wr => ∃ i : Nat, vi = .int .i64 (i : Int) ∧ i ≤ n ∧ Hid (∃ tk, tk ≤ p + i + 1 ∧ Gok wr g s L ro O fr tk ∧ (1 ≤ i → tk = p + i)) ∧ Hid (WordAt s.toList L st x r p i) ∧ Hid (Fg g w wr)) (fun vi _ => n - (intOf vi).toNat)
  case atStart =>
    obtain ⟨tk, h1, h2⟩ := HG0.out
    exact ⟨0, rfl, Nat.zero_le _, ⟨tk, h1, h2, fun h => absurd h (by decide)⟩, WordAt.zero _ _ _ _ _ _, Fg.refl g w⟩
  case round =>
    obtain ⟨i, rfl, hin, HG, HF, HB⟩ := hrel
    clear HG0
    by_cases h4 : i < n
    · have e1 : (i : Int) < (W.size : Int) := by omega
      obtain ⟨tk, htk, hG, -⟩ := HG.out
      have HI := Lib.hid h4
      obtain ⟨q, hq⟩ : ∃ q, p + i = q := ⟨_, rfl⟩
      have hqi : (p : Int) + (i : Int) = (q : Int) := by omega
      have HQ := Lib.hid hq
      rw [hq] at htk
      have hiW : i < W.size := by omega
      have e3 : (0 : Int) ≤ (i : Int) := by omega
      have e5 : (q : Int) < 140737488351300 := by have := HP.out; have := HN.out.2; omega
      obtain ⟨c, hc⟩ : ∃ c, (x :: r).getD i 0 = c := ⟨_, rfl⟩
      have hwc : (W[i]).toNat = c.toNat := by rw [byte_at W i hiW, HWL.out, hc]
      have HC := Lib.hid hc
      obtain ⟨y, hy⟩ : ∃ y, (W[i]).toNat = y := ⟨_, rfl⟩
      have IC := Lib.hid (IS.out wr tk q c hG htk)
      rw [← hwc, hy] at IC
      clear hwc hG htk hq hc h4 hin hWs
      go_wp2_with fail
      refine IC.out.mono ?_
      rintro e w2 (⟨hh, hbc, rfl, hG2, hB2⟩ | ⟨hh, hbc, rfl, hG2, hB2⟩ | ⟨hh, rfl, hG2, hB2⟩)
      · have HST : Hid (WordAt s.toList L st x r p (i + 1)) := WordAt.step HRN.out HF.out (by have := HN.out.1; have := HI.out; omega) (by rw [HQ.out]; exact hh) (by rw [HQ.out, hbc, HC.out])
        have HG3 : Hid (∃ tk, tk ≤ p + (i + 1) + 1 ∧ Gok w2 g s L ro O fr tk ∧ (1 ≤ i + 1 → tk = p + (i + 1))) := ⟨q + 1, by have := HQ.out; omega, hG2.out, fun _ => by have := HQ.out; omega⟩
        have e9 : (i : Int) ≤ 20 := by have := HI.out; have := HN.out.2; omega
        clear hh hbc hG2 IC e1 hqi e3 e5 hy hiW
        go_wp2_with fail
        go_roundw
        case rel => exact ⟨i + 1, congrArg (Value.int IntKind.i64) (show (i : Int) + 1 = ((i + 1 : Nat) : Int) by omega), by have := HI.out; omega, HG3, HST, HB.out.trans hB2.out⟩
        case measure => have h9 := HI.out; simp [intOf]; omega
      · have hi0 : i ≠ 0 := fun h => by
          subst h
          apply hbc
          rw [← HC.out, ← HQ.out, Nat.add_zero, HPB.out.2]; rfl
        have HBD : Hid (RunsT s.toList L (wx st r) (p + 1) (.no 9 q false) (q + 1) st.G.length) := by
          have h7 := word_bad HF.out (by have := HN.out.1; have := HI.out; omega) hi0 (by rw [HQ.out]; exact hh) (by rw [HQ.out, HC.out]; exact hbc)
          rw [HQ.out] at h7
          exact h7
        clear hh hbc IC e1 hqi e3 e5 hy hiW hi0
        go_wp2_with fail
        exact bodyPost_ret (v := .tuple #[.int .i64 0, .bool false]) (by simp [results, Tryd.results66, go_sem]) rfl (.inr ⟨_, _, _, _, HBD.out, rfl, by rw [HFR.out]; exact hG2, HB.out.trans hB2.out⟩)
      · have hi0 : i ≠ 0 := fun h => by
          subst h
          have h9 := HPB.out.1
          rw [← HQ.out, Nat.add_zero, h9] at hh
          cases hh
        have HLK : Hid (RunsT s.toList L (wx st r) (p + 1) (lack s.toList L) (lackK s.toList L) st.G.length) := word_lack HF.out (by have := HN.out.1; have := HI.out; omega) hi0 (by rw [HQ.out]; exact hh)
        clear hh IC e1 hqi e3 e5 hy hiW hi0
        go_wp2_with fail
        exact bodyPost_ret (v := .tuple #[.int .i64 0, .bool false]) (by simp [results, Tryd.results66, go_sem]) rfl (.inr ⟨_, _, _, _, HLK.out, rfl, by rw [HFR.out]; exact hG2, HB.out.trans hB2.out⟩)
    · obtain rfl : i = n := by omega
      have HWS2 := Lib.hid hWs
      obtain ⟨tk, -, hG, h8⟩ := HG.out
      obtain rfl : tk = p + i := h8 (by have := HN.out.1; omega)
      have HG9 := Lib.hid hG
      have HCL : Hid (Cl s.toList L st.ended (p + i) (wx st r) (p + 1)) := HF.out.2 HN.out.1.symm
      have e1 : ¬ (i : Int) < (W.size : Int) := by omega
      have e9 : (W.size : Int) = (i : Int) := by omega
      obtain ⟨q, hq⟩ : ∃ q, p + i = q := ⟨_, rfl⟩
      have hqi : (p : Int) + (i : Int) = (q : Int) := by omega
      have hqj : (p : Int) + (W.size : Int) = (q : Int) := by omega
      have hq2 : q = p + r.length + 1 := by have := HN.out.1; omega
      have e5 : (q : Int) < 140737488351300 := by have := HP.out; have := HN.out.2; omega
      rw [hq] at HG9 HCL
      have HQ2 := Lib.hid hq2
      clear hG h8 HG HF h4 hin hq hq2 hWs
      go_wp2_with fail
      refine bodyPost_ret (v := .tuple #[.int .i64 (q : Int), .bool true]) (by simp [results, Tryd.results66, go_sem]) rfl (.inl ?_)
      rw [← HQ2.out]
      exact ⟨HCL.out, rfl, by rw [HFR.out]; exact HG9, HB⟩
end Jr
end Go.Proofs.YtpaikjlcachabaaDoor
