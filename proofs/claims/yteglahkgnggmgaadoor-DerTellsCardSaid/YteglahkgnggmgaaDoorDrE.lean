/- The reader in memory; a length. -/
import Derived.Test.YteglahkgnggmgaaDoorDrD
namespace Go.Proofs.YteglahkgnggmgaaDoor
open Go.RowKit
set_option linter.unusedVariables false
set_option linter.unusedSimpArgs false
open Dr
def nv (n : Nd) : List Value := [.int .u8 (n.tag.toNat : Int), .int .i64 n.kids, .string ⟨n.body.toArray⟩]
def ncells (l : List Nd) : List Value := l.flatMap nv
def fv (f : Fr) : List Value := [.int .i64 (f.node : Int), .int .i64 (f.p0 : Int), .int .i64 (f.e : Int), .int .i64 (f.kids : Int), .string (if f.tag = 0x31 then ⟨f.last.toArray⟩ else ByteArray.empty)]
def fcells (G : List Fr) : List Value := G.reverse.flatMap fv
theorem ncells_length (l : List Nd) : (ncells l).length = 3 * l.length := by
  induction l with
  | nil => rfl
  | cons a l ih => rw [show ncells (a :: l) = nv a ++ ncells l from rfl, List.length_append, ih, show (nv a).length = 3 from rfl, List.length_cons]; omega
theorem ncells_append (l m : List Nd) : ncells (l ++ m) = ncells l ++ ncells m := List.flatMap_append
theorem flat_fv (l : List Fr) : (l.flatMap fv).length = 5 * l.length := by
  induction l with
  | nil => rfl
  | cons a l ih => rw [show (a :: l).flatMap fv = fv a ++ l.flatMap fv from rfl, List.length_append, ih, show (fv a).length = 5 from rfl, List.length_cons]; omega
theorem fcells_length (G : List Fr) : (fcells G).length = 5 * G.length := by rw [fcells, flat_fv, List.length_reverse]
theorem fcells_cons (f : Fr) (G : List Fr) : fcells (f :: G) = fcells G ++ fv f := by
  rw [fcells, List.reverse_cons, List.flatMap_append]
  simp [fcells]
/-- the reader in memory -/
structure Rd (w : World) (g : Nat) (s : ByteArray) (L : Lm) (p : Nat) (l : List Nd) (G : List Fr) (vn vs : Value) (ro : Int) : Prop where
  at0 : At w g 0 [.string s, .int .i64 (L.bytes : Int), .int .i64 (p : Int), .int .i64 (L.depth : Int), .int .i64 (L.items : Int), .int .i64 (L.bytes : Int), .int .i64 ro, vn, vs]
  nodes : w.ownsRow (g + 1) 63 3 vn l.length (ncells l)
  stack : w.ownsRow (g + 1) 91 5 vs G.length (fcells G)
  lt : g < w.heap.size
theorem Rd.tx {w : World} {g : Nat} {s : ByteArray} {L : Lm} {p : Nat} {l : List Nd} {G : List Fr} {vn vs : Value} {ro : Int} (h : Rd w g s L p l G vn vs ro) : Tx w g 0 s L.bytes p ∧ w.frozen? ⟨g, 2, none⟩ = false :=
  ⟨⟨h.at0.cell 0 _ rfl, h.at0.cell 1 _ rfl, h.at0.cell 2 _ rfl⟩, h.at0.froz 2 (by simp)⟩
theorem Rd.drewN {w : World} {g : Nat} {s : ByteArray} {L : Lm} {p : Nat} {l : List Nd} {G : List Fr} {vn vs : Value} {ro : Int} (h : Rd w g s L p l G vn vs ro) (k : Nat) : Rd (w.drewN k) g s L p l G vn vs ro :=
  ⟨h.at0.drewN k, own_drewN h.nodes k, own_drewN h.stack k, h.lt⟩
theorem size_drewN (w : World) (k : Nat) : (w.drewN k).heap.size = w.heap.size := rfl
theorem Rd.place {w : World} {g : Nat} {s : ByteArray} {L : Lm} {p : Nat} {l : List Nd} {G : List Fr} {vn vs : Value} {ro : Int} (h : Rd w g s L p l G vn vs ro) (q : Nat) : Rd (w.setCell ⟨g, 2, none⟩ (.int .i64 (q : Int))) g s L q l G vn vs ro :=
  ⟨(h.at0.set 2 (.int .i64 (q : Int))), ownsRow_setCell_below h.nodes (Nat.lt_succ_self g) _, ownsRow_setCell_below h.stack (Nat.lt_succ_self g) _, by rw [show (w.setCell ⟨g, 2, none⟩ (.int .i64 (q : Int))).heap.size = w.heap.size by simp [World.setCell]]; exact h.lt⟩
theorem below_drewN (g : Nat) (w : World) (k : Nat) : Below g w (w.drewN k) := ⟨rfl, rfl, rfl, Nat.le_refl _, fun _ _ => rfl⟩
theorem below_place (g : Nat) (w : World) (k : Nat) (v : Value) : Below g w ((w.drewN k).setCell ⟨g, 2, none⟩ v) := (below_drewN g w k).setCell (Nat.le_refl _) v
/-- an answer of one value, the reader's place moved; or a fault -/
def RsLen (r : Rs (Nat × Nat)) (g : Nat) (s : ByteArray) (L : Lm) (l : List Nd) (G : List Fr) (vn vs : Value) (ro : Int) (w : World) (e : Ending) (w' : World) : Prop :=
  match r with
  | .ok (n, q) => e = .returned (.int .i64 (n : Int)) ∧ Hid (Rd w' g s L q l G vn vs ro) ∧ Hid (Below g w w')
  | .no c q _ => No c q g w e w'
theorem or8 (n : Nat) (b : Nat) (hb : b < 256) (hn : n < 18014398509481984) : bits .or .i64 ((256 * n : Nat) : Int) (b : Int) = ((256 * n + b : Nat) : Int) := by
  rw [i64n_or _ _ (by omega) (by omega)]
  have := Nat.shiftLeft_add_eq_or_of_lt (show b < 2 ^ 8 by omega) n
  rw [Nat.shiftLeft_eq] at this
  rw [show 256 * n = n * 2 ^ 8 by omega, ← this]
section
variable {w : World} {g : Nat} {s : ByteArray} {L : Lm} {p : Nat} {l : List Nd} {G : List Fr} {vn vs : Value} {ro : Int}
/-- a value is answered, the reader's place is q then -/
def At1 (v : Value) (g : Nat) (s : ByteArray) (L : Lm) (q : Nat) (l : List Nd) (G : List Fr) (vn vs : Value) (ro : Int) (w : World) (e : Ending) (w' : World) : Prop := e = .returned v ∧ Hid (Rd w' g s L q l G vn vs ro) ∧ Hid (Below g w w')
theorem next_yes (hR : Rd w g s L p l G vn vs ro) (h1 : p < s.size) (h2 : p < L.bytes) (hz : s.size ≤ 140737488351232) (b : Nat) (hb : (s.toList.getD p 0).toNat = b) :
    Calls Tryd.prog 48 #[.pointer (some ⟨g, 0, none⟩)] w (At1 (.int .u8 (b : Int)) g s L (p + 1) l G vn vs ro w) := by
  refine (next_ok w g s L.bytes p hR.tx.1 hR.tx.2 h1 h2 hz).mono ?_
  rintro e w' ⟨rfl, k, rfl⟩
  rw [hb]
  exact ⟨rfl, (hR.drewN k).place _, below_place _ _ _ _⟩
theorem next_lack (hR : Rd w g s L p l G vn vs ro) (h : ¬ (p < s.size ∧ p < L.bytes)) (hp : p ≤ 140737488351232) :
    Calls Tryd.prog 48 #[.pointer (some ⟨g, 0, none⟩)] w (No (lkE L.bytes s) (lkP L.bytes s) g w) := next_no w g s L.bytes p hR.tx.1 h hp
theorem place_yes (hR : Rd w g s L p l G vn vs ro) :
    Calls Tryd.prog 45 #[.pointer (some ⟨g, 0, none⟩)] w (fun e w' => e = .returned (.int .i64 (p : Int)) ∧ w = w') := place_ok w g s L.bytes p hR.tx.1
theorem skip_yes (hR : Rd w g s L p l G vn vs ro) (to : Nat) (h0 : p ≤ to) (h1 : to ≤ s.size) (h2 : to ≤ L.bytes) (z : Int) (hz : (to : Int) = z) (u : ByteArray) (hu : s.extract p to = u) :
    Calls Tryd.prog 65 #[.pointer (some ⟨g, 0, none⟩), .int .i64 z] w (At1 (.string u) g s L to l G vn vs ro w) := by
  subst hz hu
  refine (skip_ok w g s L.bytes p to hR.tx.1 hR.tx.2 h0 h1 h2).mono ?_
  rintro e w' ⟨rfl, k, rfl⟩
  exact ⟨rfl, (hR.drewN k).place _, below_place _ _ _ _⟩
theorem skip_lack (hR : Rd w g s L p l G vn vs ro) (to : Nat) (h : ¬ (to ≤ s.size ∧ to ≤ L.bytes)) (z : Int) (hz : (to : Int) = z) :
    Calls Tryd.prog 65 #[.pointer (some ⟨g, 0, none⟩), .int .i64 z] w (No (lkE L.bytes s) (lkP L.bytes s) g w) := by
  subst hz
  exact skip_no w g s L.bytes p to hR.tx.1 h
end
end Go.Proofs.YteglahkgnggmgaaDoor
