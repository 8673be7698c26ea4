/- Holders of items: package item, the program's; the reader in memory. -/
import Derived.Test.YteanipjgpekncaaDoorCpA
import Derived.Test.YteanipjgpekncaaDoorDrD
import Derived.Test.YteanipjgpekncaaDoorRowI
namespace Go.Proofs.YteanipjgpekncaaDoor
open Go.RowKit
set_option linter.unusedVariables false
set_option linter.unusedSimpArgs false
namespace Co
open Dr (Rs Lm has lack at0S)
/-- the order of texts -/
theorem bl_swap2 : ∀ (a b : List UInt8), (!Op.bytesLess a b && !a == b) = Op.bytesLess b a
  | [], [] => rfl
  | [], _ :: _ => rfl
  | _ :: _, [] => rfl
  | x :: a, y :: b => by
    have ih := bl_swap2 a b
    simp only [Op.bytesLess]
    by_cases h : x = y
    · subst h
      have h1 : (decide (x < x)) = false := decide_eq_false (by simp)
      rw [h1, ← ih]
      simp
    · have h1 : (x == y) = false := by rw [beq_eq_false_iff_ne]; exact h
      have h2 : (y == x) = false := by rw [beq_eq_false_iff_ne]; exact fun e => h e.symm
      have h3 : ((x :: a) == (y :: b)) = false := by rw [beq_eq_false_iff_ne]; intro e; cases e; exact h rfl
      rw [h1, h2, h3]
      simp only [Bool.false_and, Bool.or_false, Bool.not_false, Bool.and_true]
      rw [← decide_not]
      refine decide_eq_decide.2 ?_
      rw [UInt8.not_lt, UInt8.le_iff_lt_or_eq]
      exact ⟨fun e => e.resolve_right (fun q => h q.symm), Or.inl⟩
set_option maxRecDepth 100000 in
theorem full_any (w : World) (k o n : Nat) (h : w.cell? ⟨k, o + 1, none⟩ = some (.int .u64 (n : Int))) :
    Calls Tryd.prog 44 #[.pointer (some ⟨k, o, none⟩)] w (RetVal (.bool (decide (n = 0))) w) := by
  by_cases h0 : n = 0
  · subst h0
    go_enter Tryd.func44, Tryd.ntmps44
    go_wp2_with fail
    go_ret
    exact ⟨rfl, rfl⟩
  · have e1 : ((n : Int) == 0) = false := by rw [beq_eq_false_iff_ne]; omega
    rw [decide_eq_false h0]
    clear h0
    go_enter Tryd.func44, Tryd.ntmps44
    go_wp2_with fail
    go_ret
    exact ⟨rfl, rfl⟩
set_option maxRecDepth 100000 in
theorem at_any (w : World) (k o p : Nat) (h : w.cell? ⟨k, o, none⟩ = some (.int .i64 (p : Int))) :
    Calls Tryd.prog 46 #[.pointer (some ⟨k, o, none⟩)] w (RetVal (.int .i64 (p : Int)) w) := by
  go_enter Tryd.func46, Tryd.ntmps46
  go_wp2_with fail
  go_ret
  exact ⟨rfl, rfl⟩
set_option maxRecDepth 100000 in
theorem wants_any (w : World) (k o : Nat) (a b : Bool) (h : w.cell? ⟨k, o + 2, none⟩ = some (.bool a)) (h2 : w.cell? ⟨k, o + 3, none⟩ = some (.bool b)) :
    Calls Tryd.prog 70 #[.pointer (some ⟨k, o, none⟩)] w (RetVal (.bool (a && !b)) w) := by
  cases a <;> cases b
  all_goals
    go_enter Tryd.func70, Tryd.ntmps70
    go_wp2_with fail
    go_ret
    exact ⟨rfl, rfl⟩
set_option maxRecDepth 100000 in
theorem other_any (w : World) (k o : Nat) (z y : Int) (b : Bool) (h : w.cell? ⟨k, o + 1, none⟩ = some (.int .u64 z)) (h2 : w.cell? ⟨k, o + 3, none⟩ = some (.bool b)) (f1 : w.frozen? ⟨k, o + 1, none⟩ = false) (f3 : w.frozen? ⟨k, o + 3, none⟩ = false) (e1 : z - 1 = y) (e2 : IntKind.u64.wrap y = y) :
    Calls Tryd.prog 71 #[.pointer (some ⟨k, o, none⟩)] w (fun e w' => e = .returned (.tuple #[]) ∧ w' = (w.setCell ⟨k, o + 3, none⟩ (.bool false)).setCell ⟨k, o + 1, none⟩ (.int .u64 y)) := by
  go_enter Tryd.func71, Tryd.ntmps71
  go_wp2_with fail
  first | go_end0 | refine bodyPost_ret (results_none rfl _ _ _) rfl ?_
  exact ⟨rfl, rfl⟩
set_option maxRecDepth 100000 in
theorem key_any (w : World) (k o : Nat) (ks vl : Bool) (la s : ByteArray) (h : w.cell? ⟨k, o + 4, none⟩ = some (.bool ks)) (h2 : w.cell? ⟨k, o + 3, none⟩ = some (.bool vl)) (h3 : w.cell? ⟨k, o + 5, none⟩ = some (.string la))
    (f4 : w.frozen? ⟨k, o + 4, none⟩ = false) (f3 : w.frozen? ⟨k, o + 3, none⟩ = false) (f5 : w.frozen? ⟨k, o + 5, none⟩ = false) :
    Calls Tryd.prog 72 #[.pointer (some ⟨k, o, none⟩), .string s] w (fun e w' => e = .returned (.bool (!(ks && !Op.bytesLess la.toList s.toList))) ∧ w' = ((w.setCell ⟨k, o + 4, none⟩ (.bool true)).setCell ⟨k, o + 3, none⟩ (.bool true)).setCell ⟨k, o + 5, none⟩ (.string s)) := by
  cases ks
  · go_enter Tryd.func72, Tryd.ntmps72
    go_wp2_with fail
    go_ret
    exact ⟨rfl, rfl⟩
  · have hsw := Lib.hid (bl_swap2 s.toList la.toList)
    go_enter Tryd.func72, Tryd.ntmps72
    go_wp2_with fail
    go_ret
    refine ⟨?_, rfl⟩
    show Ending.returned (Value.bool (!Op.bytesLess s.toList la.toList && !s.toList == la.toList)) = _
    rw [hsw.out, Bool.true_and, Bool.not_not]
/-- an atom's cells -/
def rv (a : Ra) : List Value := [.int .i64 a.kind, .int .u64 (a.num : Int), .string ⟨a.text.toArray⟩]
def rcells (l : List Ra) : List Value := l.flatMap rv
def hcells (G : List Fr) : List Value := G.reverse.flatMap hv
theorem rv_length (a : Ra) : (rv a).length = 3 := rfl
theorem rcells_length (l : List Ra) : (rcells l).length = 3 * l.length := by
  induction l with
  | nil => rfl
  | cons a l ih => rw [show rcells (a :: l) = rv a ++ rcells l from rfl, List.length_append, ih, show (rv a).length = 3 from rfl, List.length_cons]; omega
theorem rcells_append (l m : List Ra) : rcells (l ++ m) = rcells l ++ rcells m := List.flatMap_append
theorem flat_hv (l : List Fr) : (l.flatMap hv).length = 6 * l.length := by
  induction l with
  | nil => rfl
  | cons a l ih => rw [show (a :: l).flatMap hv = hv a ++ l.flatMap hv from rfl, List.length_append, ih, show (hv a).length = 6 from rfl, List.length_cons]; omega
theorem hcells_length (G : List Fr) : (hcells G).length = 6 * G.length := by rw [hcells, flat_hv, List.length_reverse]
theorem hcells_cons (f : Fr) (G : List Fr) : hcells (f :: G) = hcells G ++ hv f := by
  rw [hcells, List.reverse_cons, List.flatMap_append]
  simp [hcells]
/-- the reader in memory -/
structure Rd (w : World) (g : Nat) (s : ByteArray) (L : Lm) (p : Nat) (l : List Am) (G : List Fr) (vn vs : Value) (ro : Int) : Prop where
  at0 : At w g 0 [.string s, .int .i64 (L.bytes : Int), .int .i64 (p : Int), .int .i64 (L.depth : Int), .int .i64 (L.items : Int), .int .i64 (L.bytes : Int), .int .i64 ro, vn, vs]
  nodes : w.ownsRow (g + 1) 75 3 vn l.length (rcells (l.map up))
  stack : w.ownsRow (g + 1) 89 6 vs G.length (hcells G)
  lt : g < w.heap.size
section
variable {w w' : World} {g : Nat} {s : ByteArray} {L : Lm} {p : Nat} {l : List Am} {G : List Fr} {f : Fr} {vn vs : Value} {ro : Int}
theorem Rd.tx (h : Rd w g s L p l G vn vs ro) : Tx w g 0 s L.bytes p ∧ w.frozen? ⟨g, 2, none⟩ = false :=
  ⟨⟨h.at0.cell 0 _ rfl, h.at0.cell 1 _ rfl, h.at0.cell 2 _ rfl⟩, h.at0.froz 2 (by simp)⟩
theorem Rd.drewN (h : Rd w g s L p l G vn vs ro) (k : Nat) : Rd (w.drewN k) g s L p l G vn vs ro :=
  ⟨h.at0.drewN k, own_drewN h.nodes k, own_drewN h.stack k, h.lt⟩
theorem Rd.place (h : Rd w g s L p l G vn vs ro) (q : Nat) : Rd (w.setCell ⟨g, 2, none⟩ (.int .i64 (q : Int))) g s L q l G vn vs ro :=
  ⟨(h.at0.set 2 (.int .i64 (q : Int))), ownsRow_setCell_below h.nodes (Nat.lt_succ_self g) _, ownsRow_setCell_below h.stack (Nat.lt_succ_self g) _, by rw [show (w.setCell ⟨g, 2, none⟩ (.int .i64 (q : Int))).heap.size = w.heap.size by simp [World.setCell]]; exact h.lt⟩
theorem below_drewN (g : Nat) (w : World) (k : Nat) : Below g w (w.drewN k) := ⟨rfl, rfl, rfl, Nat.le_refl _, fun _ _ => rfl⟩
theorem below_place (g : Nat) (w : World) (k : Nat) (v : Value) : Below g w ((w.drewN k).setCell ⟨g, 2, none⟩ v) := (below_drewN g w k).setCell (Nat.le_refl _) v
/-- a value is answered, the reader's place is q then -/
def At1 (v : Value) (g : Nat) (s : ByteArray) (L : Lm) (q : Nat) (l : List Am) (G : List Fr) (vn vs : Value) (ro : Int) (w : World) (e : Ending) (w' : World) : Prop := e = .returned v ∧ Hid (Rd w' g s L q l G vn vs ro) ∧ Hid (Below g w w')
theorem next_yes (hR : Rd w g s L p l G vn vs ro) (h1 : p < s.size) (h2 : p < L.bytes) (hz : s.size ≤ 140737488351232) (b : Nat) (hb : (s.toList.getD p 0).toNat = b) :
    Calls Tryd.prog 48 #[.pointer (some ⟨g, 0, none⟩)] w (At1 (.int .u8 (b : Int)) g s L (p + 1) l G vn vs ro w) := by
  refine (next_ok w g s L.bytes p hR.tx.1 hR.tx.2 h1 h2 hz).mono ?_
  rintro e w' ⟨rfl, k, rfl⟩
  rw [hb]
  exact ⟨rfl, (hR.drewN k).place _, below_place _ _ _ _⟩
theorem next_lack (hR : Rd w g s L p l G vn vs ro) (h : ¬ (p < s.size ∧ p < L.bytes)) (hp : p ≤ 140737488351232) :
    Calls Tryd.prog 48 #[.pointer (some ⟨g, 0, none⟩)] w (No (lkE L.bytes s) (lkP L.bytes s) g w) := next_no w g s L.bytes p hR.tx.1 h hp
theorem place_yes (hR : Rd w g s L p l G vn vs ro) :
    Calls Tryd.prog 50 #[.pointer (some ⟨g, 0, none⟩)] w (fun e w' => e = .returned (.int .i64 (p : Int)) ∧ w = w') := place_ok w g s L.bytes p hR.tx.1
theorem skip_yes (hR : Rd w g s L p l G vn vs ro) (to : Nat) (h0 : p ≤ to) (h1 : to ≤ s.size) (h2 : to ≤ L.bytes) (z : Int) (hz : (to : Int) = z) (u : ByteArray) (hu : s.extract p to = u) :
    Calls Tryd.prog 69 #[.pointer (some ⟨g, 0, none⟩), .int .i64 z] w (At1 (.string u) g s L to l G vn vs ro w) := by
  subst hz hu
  refine (skip_ok w g s L.bytes p to hR.tx.1 hR.tx.2 h0 h1 h2).mono ?_
  rintro e w' ⟨rfl, k, rfl⟩
  exact ⟨rfl, (hR.drewN k).place _, below_place _ _ _ _⟩
theorem skip_lack (hR : Rd w g s L p l G vn vs ro) (to : Nat) (h : ¬ (to ≤ s.size ∧ to ≤ L.bytes)) (z : Int) (hz : (to : Int) = z) :
    Calls Tryd.prog 69 #[.pointer (some ⟨g, 0, none⟩), .int .i64 z] w (No (lkE L.bytes s) (lkP L.bytes s) g w) := by
  subst hz
  exact skip_no w g s L.bytes p to hR.tx.1 h
theorem wrap_fit (n : Nat) (h : n ≤ maxLen) : IntKind.i64.wrap (n : Int) = (n : Int) := by
  unfold maxLen at h
  simp only [IntKind.wrap, IntKind.bits, IntKind.signed]
  simp
  omega
theorem own_fit {w : World} {B e size n : Nat} {v : Value} {xs : List Value} (h : w.ownsRow B e size v n xs) : n ≤ maxLen := by
  rcases h.2 with ⟨_, h0⟩ | ⟨g, cap, cur, _, _, _, h1, h2, _⟩
  · rw [h0]; exact Nat.zero_le _
  · exact Nat.le_trans h1 h2
/-- the topmost frame's cells -/
theorem own_top {B : Nat} (h : w.ownsRow B 89 6 vs (f :: G).length (hcells (f :: G))) : ∃ k cap, vs = .slice (some ⟨k, 0, none⟩) (G.length + 1) cap ∧ B ≤ k ∧ At w k (G.length * 6) (hv f) := by
  obtain ⟨a, c, hvv, hg⟩ := own_form h
  obtain ⟨k, rfl⟩ := hg (by simp)
  subst hvv
  refine ⟨k, c, rfl, (h.lt k rfl).1, ?_⟩
  have h1 := At.ofOwnN h
  rw [hcells_cons] at h1
  have h2 := At.sub (a := hcells G) (b := hv f) (c := []) (by rw [List.append_nil]; exact h1)
  rw [hcells_length, Nat.zero_add, Nat.mul_comm] at h2
  exact h2
theorem Rd.top (h : Rd w g s L p l (f :: G) vn vs ro) : ∃ k cap, vs = .slice (some ⟨k, 0, none⟩) (G.length + 1) cap ∧ g < k ∧ At w k (G.length * 6) (hv f) := own_top h.stack
theorem kinds_ne : (75 : Nat) ≠ 89 := by decide
/-- a cell of the topmost frame is stored -/
theorem own_setTop {B k cap : Nat} (h : w.ownsRow B 89 6 (.slice (some ⟨k, 0, none⟩) (G.length + 1) cap) (f :: G).length (hcells (f :: G))) (j : Nat) (hj : j < 6) (u : Value) (f' : Fr) (hf : (hv f).set j u = hv f') :
    (w.setCell ⟨k, G.length * 6 + j, none⟩ u).ownsRow B 89 6 (.slice (some ⟨k, 0, none⟩) (G.length + 1) cap) (f' :: G).length (hcells (f' :: G)) := by
  have hs := (h.stored (G.length * 6 + j) u).1
  have he : (hcells (f :: G)).set (G.length * 6 + j) u = hcells (f' :: G) := by
    rw [hcells_cons, hcells_cons, List.set_append_right _ _ (by rw [hcells_length]; omega), hcells_length, show G.length * 6 + j - 6 * G.length = j by omega, hf]
  rw [he] at hs
  exact hs
theorem Rd.setTop (h : Rd w g s L p l (f :: G) vn vs ro) {k cap : Nat} (hk : vs = .slice (some ⟨k, 0, none⟩) (G.length + 1) cap) (j : Nat) (hj : j < 6) (u : Value) (f' : Fr) (hf : (hv f).set j u = hv f') :
    Rd (w.setCell ⟨k, G.length * 6 + j, none⟩ u) g s L p l (f' :: G) vn vs ro := by
  subst hk
  have hgk := (h.stack.lt k rfl).1
  have hne : vn.ownBlock ≠ some k := by
    rcases own_ne h.nodes h.stack kinds_ne with h1 | h1
    · rw [h1]; exact fun e => by cases e
    · exact h1
  exact ⟨h.at0.other k (G.length * 6 + j) u (Or.inl (by omega)), ownsRow_setCell_other h.nodes hne u, own_setTop h.stack j hj u f' hf, by rw [show (w.setCell ⟨k, G.length * 6 + j, none⟩ u).heap.size = w.heap.size by simp [World.setCell]]; exact h.lt⟩
theorem tl_arr (s : ByteArray) : (⟨s.toList.toArray⟩ : ByteArray) = s := tl_inj (tl_mk _)
theorem Rd.topKey {k cap n : Nat} (h : Rd w g s L p l (f :: G) vn (.slice (some ⟨k, 0, none⟩) (G.length + 1) cap) ro) (hn : G.length = n) (u : ByteArray) (x : List UInt8) (hx : u.toList = x) :
    Rd (((w.setCell ⟨k, n * 6 + 4, none⟩ (.bool true)).setCell ⟨k, n * 6 + 3, none⟩ (.bool true)).setCell ⟨k, n * 6 + 5, none⟩ (.string u)) g s L p l ({ f with keys := true, value := true, last := x } :: G) vn (.slice (some ⟨k, 0, none⟩) (G.length + 1) cap) ro := by
  subst hx hn
  have h8 := h.setTop rfl 4 (by decide) (.bool true) { f with keys := true } rfl
  have h9 := h8.setTop rfl 3 (by decide) (.bool true) { f with keys := true, value := true } rfl
  exact h9.setTop rfl 5 (by decide) (.string u) { f with keys := true, value := true, last := u.toList } (by simp [hv, tl_arr])
theorem Rd.topOther {k cap n : Nat} (h : Rd w g s L p l (f :: G) vn (.slice (some ⟨k, 0, none⟩) (G.length + 1) cap) ro) (hn : G.length = n) (m : Nat) (y : Int) (hm : f.left - 1 = m) (hy : (m : Int) = y) :
    Rd ((w.setCell ⟨k, n * 6 + 3, none⟩ (.bool false)).setCell ⟨k, n * 6 + 1, none⟩ (.int .u64 y)) g s L p l ({ f with value := false, left := f.left - 1 } :: G) vn (.slice (some ⟨k, 0, none⟩) (G.length + 1) cap) ro := by
  subst hy hm hn
  have h8 := h.setTop rfl 3 (by decide) (.bool false) { f with value := false } rfl
  exact h8.setTop rfl 1 (by decide) (.int .u64 ((f.left - 1 : Nat) : Int)) { f with value := false, left := f.left - 1 } rfl
end
end Co
end Go.Proofs.YteanipjgpekncaaDoor
