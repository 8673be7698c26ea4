import Derived.Test.YtikgonlhdkknkaaGreatDoorCuH
import Derived.Test.YtikgonlhdkknkaaGreatDoorCoZ
import Derived.Test.YtikgonlhdkknkaaGreatDoorCuW
set_option maxRecDepth 100000
set_option maxHeartbeats 6400000
set_option linter.unusedVariables false
set_option linter.unusedSimpArgs false
open Go.Lib (hid)
namespace Go.Proofs.YtikgonlhdkknkaaGreatDoor
open Go.RowKit
namespace Co
open Dr (Rs Lm has lack at0S)
def hdE (c n : Nat) : Int := if 27 < n then 9 else if c = 7 ∧ (n < 20 ∨ 23 < n) then 11 else 0
def hdW (n : Nat) : Nat := if n < 24 then 0 else 2 ^ (n - 24)
theorem headE_eq (t : UInt8) : headE t = hdE (t.toNat / 32) (t.toNat % 32) := rfl
theorem widT_eq (t : UInt8) : widT t = hdW (t.toNat % 32) := rfl
theorem kind_any (t c : Nat) (h : t < 256) (hc : t / 32 = c) (w : World) : Calls Tryz.prog 76 #[.int .u8 (t : Int)] w (RetVal (.int .i64 (c : Int)) w) := by
 have q1 : (t : Int) / 32 = (c : Int) := by omega
 have hc2 : (c : Int) < 8 := by omega
 clear hc
 go_enter Tryz.func76, Tryz.ntmps76
 go_wp2_with fail
 go_ret
 exact ⟨rfl, rfl⟩
def RetWE (z : Nat) (c : Int) (w : World) (e : Ending) (w' : World) : Prop := e = .returned (.tuple #[.int .i64 (z : Int), .int .i64 c]) ∧ w = w'
theorem cask_any (t c n : Nat) (h : t < 256) (hc : t / 32 = c) (hn : t % 32 = n) (w : World) : Calls Tryz.prog 97 #[.int .u8 (t : Int)] w (RetWE (if hdE c n = 0 then hdW n else 0) (hdE c n) w) := by
 have KI := hid (fun w => kind_any t c h hc w)
 have e31 := u8_and31 t h
 rw [hn] at e31
 have hn2 : n < 32 := by omega
 have hc2 : c < 8 := by omega
 obtain ⟨E, hE⟩ : ∃ E, hdE c n = E := ⟨_, rfl⟩
 obtain ⟨W, hW⟩ : ∃ W, (if hdE c n = 0 then hdW n else 0) = W := ⟨_, rfl⟩
 rw [hW]
 rw [hE]
 rw [hE] at hW
 clear hc hn h
 by_cases h27 : 27 < n
 ·have e1 : (27 : Int) < (n : Int) := by omega
  obtain rfl : E = 9 := by rw [← hE, hdE, if_pos h27]
  obtain rfl : W = 0 := by rw [← hW]; rfl
  clear hE hW h27 hn2
  go_enter Tryz.func97, Tryz.ntmps97
  go_wp2_with fail
  go_ret2
  exact ⟨rfl, rfl⟩
 ·have e1 : ¬ (27 : Int) < (n : Int) := by omega
  have e1b : decide ((27 : Int) < (n : Int)) = false := dfa e1
  by_cases h7 : c = 7
  ·subst h7
   by_cases hs : n < 20
   ·have e2 : (n : Int) < 20 := by omega
    obtain rfl : E = 11 := by rw [← hE, hdE, if_neg h27, if_pos ⟨rfl, .inl hs⟩]
    obtain rfl : W = 0 := by rw [← hW]; rfl
    clear hE hW h27 hs hn2
    go_enter Tryz.func97, Tryz.ntmps97
    go_wp2_with (go_at_call 76; refine (KI.out _).mono ?_; rintro e w1 ⟨rfl, rfl⟩)
    go_ret2
    exact ⟨rfl, rfl⟩
   ·have e2 : ¬ (n : Int) < 20 := by omega
    have e2b : decide ((n : Int) < 20) = false := dfa e2
    by_cases h23 : 23 < n
    ·have e3 : (23 : Int) < (n : Int) := by omega
     obtain rfl : E = 11 := by rw [← hE, hdE, if_neg h27, if_pos ⟨rfl, .inr h23⟩]
     obtain rfl : W = 0 := by rw [← hW]; rfl
     clear hE hW h27 hs h23 hn2
     go_enter Tryz.func97, Tryz.ntmps97
     go_wp2_with (go_at_call 76; refine (KI.out _).mono ?_; rintro e w1 ⟨rfl, rfl⟩)
     go_ret2
     exact ⟨rfl, rfl⟩
    ·have e3 : ¬ (23 : Int) < (n : Int) := by omega
     have e3b : decide ((23 : Int) < (n : Int)) = false := dfa e3
     have e4 : (n : Int) < 24 := by omega
     obtain rfl : E = 0 := by rw [← hE, hdE, if_neg h27, if_neg (by omega)]
     obtain rfl : W = 0 := by rw [← hW, if_pos rfl, hdW, if_pos (by omega)]
     clear hE hW h27 hs h23 hn2
     go_enter Tryz.func97, Tryz.ntmps97
     go_wp2_with (go_at_call 76; refine (KI.out _).mono ?_; rintro e w1 ⟨rfl, rfl⟩)
     go_ret2
     exact ⟨rfl, rfl⟩
  ·have e2 : ((c : Int) == 7) = false := by rw [beq_eq_false_iff_ne]; omega
   obtain rfl : E = 0 := by rw [← hE, hdE, if_neg h27, if_neg (by omega)]
   rw [if_pos rfl] at hW
   by_cases h24 : n < 24
   ·have e4 : (n : Int) < 24 := by omega
    obtain rfl : W = 0 := by rw [← hW, hdW, if_pos (by omega)]
    clear hE hW h27 h24 hn2 h7
    go_enter Tryz.func97, Tryz.ntmps97
    go_wp2_with (go_at_call 76; refine (KI.out _).mono ?_; rintro e w1 ⟨rfl, rfl⟩)
    go_ret2
    exact ⟨rfl, rfl⟩
   ·rcases (by omega : n = 24 ∨ n = 25 ∨ n = 26 ∨ n = 27) with rfl | rfl | rfl | rfl
    all_goals
     rw [hdW, if_neg (by decide)] at hW
     subst hW
     clear hE h27 h24 hn2 h7
     go_enter Tryz.func97, Tryz.ntmps97
     go_wp2_with (go_at_call 76; refine (KI.out _).mono ?_; rintro e w1 ⟨rfl, rfl⟩)
     go_ret2
     exact ⟨rfl, rfl⟩
theorem div_ne (n k : Nat) (hk : 0 < k) (z : Nat) (h : n / k = z) : (!((z : Int) == 0)) = decide (k ≤ n) := by
 by_cases h1 : k ≤ n
 ·have : 1 ≤ n / k := (Nat.one_le_div_iff hk).2 h1
  rw [dtr h1, show ((z : Int) == 0) = false by rw [beq_eq_false_iff_ne]; omega]
  rfl
 ·have : n / k = 0 := Nat.div_eq_of_lt (by omega)
  rw [dfa h1, show ((z : Int) == 0) = true by rw [beq_iff_eq]; omega]
  rfl
theorem short_any (k n : Nat) (hk : k = 0 ∨ k = 1 ∨ k = 2 ∨ k = 4 ∨ k = 8) (hn : n < 18446744073709551616) (w : World) : Calls Tryz.prog 98 #[.int .i64 (k : Int), .int .u64 (n : Int)] w (RetVal (.bool (short k n)) w) := by
 obtain ⟨R, hR⟩ : ∃ R, short k n = R := ⟨_, rfl⟩
 rw [hR]
 rcases hk with rfl | rfl | rfl | rfl | rfl
 ·obtain rfl : R = true := by rw [← hR]; rfl
  clear hR
  go_enter Tryz.func98, Tryz.ntmps98
  go_wp2_with fail
  go_ret
  exact ⟨rfl, rfl⟩
 ·have e1 : decide ((24 : Int) ≤ (n : Int)) = R := by rw [← hR, short, if_neg (by decide), if_pos rfl]; exact decide_eq_decide.2 (by omega)
  clear hR
  go_enter Tryz.func98, Tryz.ntmps98
  go_wp2_with fail
  go_ret
  exact ⟨by rw [← e1]; first | rfl | simp, rfl⟩
 ·obtain ⟨z, hz⟩ : ∃ z, n / 256 = z := ⟨_, rfl⟩
  have e0 := div_ne n 256 (by decide) z hz
  have e1 : (n : Int) / 256 = (z : Int) := by omega
  have e2 : (!((z : Int) == 0)) = R := by rw [e0, ← hR]; rfl
  clear hR hz e0
  go_enter Tryz.func98, Tryz.ntmps98
  go_wp2_with fail
  go_ret
  exact ⟨by rw [← e2]; first | rfl | simp, rfl⟩
 ·obtain ⟨z, hz⟩ : ∃ z, n / 65536 = z := ⟨_, rfl⟩
  have e0 := div_ne n 65536 (by decide) z hz
  have e1 : (n : Int) / 65536 = (z : Int) := by omega
  have e2 : (!((z : Int) == 0)) = R := by rw [e0, ← hR]; rfl
  clear hR hz e0
  go_enter Tryz.func98, Tryz.ntmps98
  go_wp2_with fail
  go_ret
  exact ⟨by rw [← e2]; first | rfl | simp, rfl⟩
 ·obtain ⟨z, hz⟩ : ∃ z, n / 4294967296 = z := ⟨_, rfl⟩
  have e0 := div_ne n 4294967296 (by decide) z hz
  have e1 : (n : Int) / 4294967296 = (z : Int) := by omega
  have e2 : (!((z : Int) == 0)) = R := by rw [e0, ← hR]; rfl
  clear hR hz e0
  go_enter Tryz.func98, Tryz.ntmps98
  go_wp2_with fail
  go_ret
  exact ⟨by rw [← e2]; first | rfl | simp, rfl⟩
theorem holds_any (k : Nat) (w : World) : Calls Tryz.prog 71 #[.int .i64 (k : Int)] w (RetVal (.bool (holds k)) w) := by
 rcases (by omega : k = 4 ∨ k = 5 ∨ k = 6 ∨ (k ≠ 4 ∧ k ≠ 5 ∧ k ≠ 6)) with rfl | rfl | rfl | h
 ·go_enter Tryz.func71, Tryz.ntmps71
  go_wp2_with fail
  go_ret
  exact ⟨rfl, rfl⟩
 ·go_enter Tryz.func71, Tryz.ntmps71
  go_wp2_with fail
  go_ret
  exact ⟨rfl, rfl⟩
 ·go_enter Tryz.func71, Tryz.ntmps71
  go_wp2_with fail
  go_ret
  exact ⟨rfl, rfl⟩
 ·have e4 : ((k : Int) == 4) = false := by rw [beq_eq_false_iff_ne]; omega
  have e5 : ((k : Int) == 5) = false := by rw [beq_eq_false_iff_ne]; omega
  have e6 : ((k : Int) == 6) = false := by rw [beq_eq_false_iff_ne]; omega
  rw [show holds k = false from dfa (by omega)]
  clear h
  go_enter Tryz.func71, Tryz.ntmps71
  go_wp2_with fail
  go_ret
  exact ⟨rfl, rfl⟩
theorem lesser_any (a b : Nat) (w : World) : Calls Tryz.prog 77 #[.int .u64 (a : Int), .int .u64 (b : Int)] w (RetVal (.int .u64 ((min a b : Nat) : Int)) w) := by
 by_cases h : a < b
 ·have e1 : (a : Int) < (b : Int) := by omega
  rw [Nat.min_eq_left (by omega)]
  clear h
  go_enter Tryz.func77, Tryz.ntmps77
  go_wp2_with fail
  go_ret
  exact ⟨rfl, rfl⟩
 ·have e1 : ¬ (a : Int) < (b : Int) := by omega
  rw [Nat.min_eq_right (by omega)]
  clear h
  go_enter Tryz.func77, Tryz.ntmps77
  go_wp2_with fail
  go_ret
  exact ⟨rfl, rfl⟩
def hv (f : Fr) : List Value := [.int .i64 (f.p0 : Int), .int .u64 (f.left : Int), .bool f.pairs, .bool f.value, .bool f.keys, .string ⟨f.last.toArray⟩]
theorem hv_length (f : Fr) : (hv f).length = 6 := rfl
theorem hold_any (p k n : Nat) (w : World) : Calls Tryz.prog 72 #[.int .i64 (p : Int), .int .i64 (k : Int), .int .u64 (n : Int)] w (fun e w' => e = .returned (.agg #[.int .i64 (p : Int), .int .u64 ((if k = 6 then 1 else n : Nat) : Int), .bool (decide (k = 5)), .bool false, .bool false, .string ByteArray.empty]) ∧ Below w.heap.size w w') := by
 by_cases h6 : k = 6
 ·subst h6
  rw [if_pos rfl]
  go_enter Tryz.func72, Tryz.ntmps72
  go_wp2_with fail
  have hA := At.ofAlloc w #[.int .i64 (p : Int), .int .u64 1, .bool false, .bool false, .bool false, .string ByteArray.empty] 110
  refine bodyPost_ret (results_at rfl _ w.heap.size _ _ rfl hA Tryz.underlying110 rfl (by kernel_rfl)) rfl ?_
  exact ⟨rfl, (Below.refl _ _).alloc (nle _) _⟩
 ·rw [if_neg h6]
  have e6 : ((k : Int) == 6) = false := by rw [beq_eq_false_iff_ne]; omega
  by_cases h5 : k = 5
  ·subst h5
   clear h6
   go_enter Tryz.func72, Tryz.ntmps72
   go_wp2_with fail
   have hA := At.ofAlloc w #[.int .i64 (p : Int), .int .u64 (n : Int), .bool true, .bool false, .bool false, .string ByteArray.empty] 110
   refine bodyPost_ret (results_at rfl _ w.heap.size _ _ rfl hA Tryz.underlying110 rfl (by kernel_rfl)) rfl ?_
   exact ⟨rfl, (Below.refl _ _).alloc (nle _) _⟩
  ·have e5 : ((k : Int) == 5) = false := by rw [beq_eq_false_iff_ne]; omega
   rw [dfa h5]
   clear h6 h5
   go_enter Tryz.func72, Tryz.ntmps72
   go_wp2_with fail
   have hA := At.ofAlloc w #[.int .i64 (p : Int), .int .u64 (n : Int), .bool false, .bool false, .bool false, .string ByteArray.empty] 110
   refine bodyPost_ret (results_at rfl _ w.heap.size _ _ rfl hA Tryz.underlying110 rfl (by kernel_rfl)) rfl ?_
   exact ⟨rfl, (Below.refl _ _).alloc (nle _) _⟩
theorem bl_swap2 : ∀ (a b : List UInt8), (!Op.bytesLess a b && !a == b) = Op.bytesLess b a
 | [], [] => rfl
 | [], _ :: _ => rfl
 | _ :: _, [] => rfl
 | x :: a, y :: b => by
  have ih := bl_swap2 a b
  simp only [Op.bytesLess]
  by_cases h : x = y
  ·subst h
   have h1 : (decide (x < x)) = false := dfa (by simp)
   rw [h1, ← ih]
   simp
  ·have h1 : (x == y) = false := by rw [beq_eq_false_iff_ne]; exact h
   have h2 : (y == x) = false := by rw [beq_eq_false_iff_ne]; exact fun e => h e.symm
   have h3 : ((x :: a) == (y :: b)) = false := by rw [beq_eq_false_iff_ne]; intro e; cases e; exact h rfl
   rw [h1, h2, h3]
   simp only [Bool.false_and, Bool.or_false, Bool.not_false, Bool.and_true]
   rw [← decide_not]
   refine decide_eq_decide.2 ?_
   rw [UInt8.not_lt, UInt8.le_iff_lt_or_eq]
   exact ⟨fun e => e.resolve_right (fun q => h q.symm), Or.inl⟩
theorem full_any (w : World) (k o n : Nat) (h : w.cell? ⟨k, o + 1, none⟩ = some (.int .u64 (n : Int))) :
  Calls Tryz.prog 50 #[.pointer (some ⟨k, o, none⟩)] w (RetVal (.bool (decide (n = 0))) w) := by
 by_cases h0 : n = 0
 ·subst h0
  go_enter Tryz.func50, Tryz.ntmps50
  go_wp2_with fail
  go_ret
  exact ⟨rfl, rfl⟩
 ·have e1 : ((n : Int) == 0) = false := by rw [beq_eq_false_iff_ne]; omega
  rw [dfa h0]
  clear h0
  go_enter Tryz.func50, Tryz.ntmps50
  go_wp2_with fail
  go_ret
  exact ⟨rfl, rfl⟩
theorem at_any (w : World) (k o p : Nat) (h : w.cell? ⟨k, o, none⟩ = some (.int .i64 (p : Int))) :
  Calls Tryz.prog 52 #[.pointer (some ⟨k, o, none⟩)] w (RetVal (.int .i64 (p : Int)) w) := by
 go_enter Tryz.func52, Tryz.ntmps52
 go_wp2_with fail
 go_ret
 exact ⟨rfl, rfl⟩
theorem wants_any (w : World) (k o : Nat) (a b : Bool) (h : w.cell? ⟨k, o + 2, none⟩ = some (.bool a)) (h2 : w.cell? ⟨k, o + 3, none⟩ = some (.bool b)) :
  Calls Tryz.prog 79 #[.pointer (some ⟨k, o, none⟩)] w (RetVal (.bool (a && !b)) w) := by
 cases a <;> cases b
 all_goals
  go_enter Tryz.func79, Tryz.ntmps79
  go_wp2_with fail
  go_ret
  exact ⟨rfl, rfl⟩
theorem other_any (w : World) (k o : Nat) (z y : Int) (b : Bool) (h : w.cell? ⟨k, o + 1, none⟩ = some (.int .u64 z)) (h2 : w.cell? ⟨k, o + 3, none⟩ = some (.bool b)) (f1 : w.frozen? ⟨k, o + 1, none⟩ = false) (f3 : w.frozen? ⟨k, o + 3, none⟩ = false) (e1 : z - 1 = y) (e2 : IntKind.u64.wrap y = y) :
  Calls Tryz.prog 80 #[.pointer (some ⟨k, o, none⟩)] w (fun e w' => e = .returned (.tuple #[]) ∧ w' = (w.setCell ⟨k, o + 3, none⟩ (.bool false)).setCell ⟨k, o + 1, none⟩ (.int .u64 y)) := by
 go_enter Tryz.func80, Tryz.ntmps80
 go_wp2_with fail
 first | go_end0 | refine bodyPost_ret (results_none rfl _ _ _) rfl ?_
 exact ⟨rfl, rfl⟩
theorem key_any (w : World) (k o : Nat) (ks vl : Bool) (la s : ByteArray) (h : w.cell? ⟨k, o + 4, none⟩ = some (.bool ks)) (h2 : w.cell? ⟨k, o + 3, none⟩ = some (.bool vl)) (h3 : w.cell? ⟨k, o + 5, none⟩ = some (.string la))
  (f4 : w.frozen? ⟨k, o + 4, none⟩ = false) (f3 : w.frozen? ⟨k, o + 3, none⟩ = false) (f5 : w.frozen? ⟨k, o + 5, none⟩ = false) :
  Calls Tryz.prog 81 #[.pointer (some ⟨k, o, none⟩), .string s] w (fun e w' => e = .returned (.bool (!(ks && !Op.bytesLess la.toList s.toList))) ∧ w' = ((w.setCell ⟨k, o + 4, none⟩ (.bool true)).setCell ⟨k, o + 3, none⟩ (.bool true)).setCell ⟨k, o + 5, none⟩ (.string s)) := by
 cases ks
 ·go_enter Tryz.func81, Tryz.ntmps81
  go_wp2_with fail
  go_ret
  exact ⟨rfl, rfl⟩
 ·have hsw := hid (bl_swap2 s.toList la.toList)
  go_enter Tryz.func81, Tryz.ntmps81
  go_wp2_with fail
  go_ret
  refine ⟨?_, rfl⟩
  show Ending.returned (Value.bool (!Op.bytesLess s.toList la.toList && !s.toList == la.toList)) = _
  rw [hsw.out, Bool.true_and, Bool.not_not]
def rv (a : Ra) : List Value := [.int .i64 a.kind, .int .u64 (a.num : Int), .string ⟨a.text.toArray⟩]
def rcells (l : List Ra) : List Value := l.flatMap rv
def hcells (G : List Fr) : List Value := G.reverse.flatMap hv
theorem rcells_length (l : List Ra) : (rcells l).length = 3 * l.length := by
 induction l with
 | nil => rfl
 | cons a l ih => rw [show rcells (a :: l) = rv a ++ rcells l from rfl, lap, ih, show (rv a).length = 3 from rfl, lco]; omega
theorem rcells_append (l m : List Ra) : rcells (l ++ m) = rcells l ++ rcells m := List.flatMap_append
theorem flat_hv (l : List Fr) : (l.flatMap hv).length = 6 * l.length := by
 induction l with
 | nil => rfl
 | cons a l ih => rw [show (a :: l).flatMap hv = hv a ++ l.flatMap hv from rfl, lap, ih, show (hv a).length = 6 from rfl, lco]; omega
theorem hcells_length (G : List Fr) : (hcells G).length = 6 * G.length := by rw [hcells, flat_hv, List.length_reverse]
theorem hcells_cons (f : Fr) (G : List Fr) : hcells (f :: G) = hcells G ++ hv f := by
 rw [hcells, List.reverse_cons, List.flatMap_append]
 simp [hcells]
structure Rd (w : World) (g : Nat) (s : ByteArray) (L : Lm) (p : Nat) (l : List Am) (G : List Fr) (vn vs : Value) (ro : Int) : Prop where
 at0 : At w g 0 [.string s, .int .i64 (L.bytes : Int), .int .i64 (p : Int), .int .i64 (L.depth : Int), .int .i64 (L.items : Int), .int .i64 (L.bytes : Int), .int .i64 ro, vn, vs]
 nodes : w.ownsRow (g + 1) 60 3 vn l.length (rcells (l.map up))
 stack : w.ownsRow (g + 1) 110 6 vs G.length (hcells G)
 lt : g < w.heap.size
section
variable {w w' : World} {g : Nat} {s : ByteArray} {L : Lm} {p : Nat} {l : List Am} {G : List Fr} {f : Fr} {vn vs : Value} {ro : Int}
theorem Rd.tx (h : Rd w g s L p l G vn vs ro) : Tx w g 0 s L.bytes p ∧ w.frozen? ⟨g, 2, none⟩ = false :=
 ⟨⟨h.at0.cell 0 _ rfl, h.at0.cell 1 _ rfl, h.at0.cell 2 _ rfl⟩, h.at0.froz 2 (by simp)⟩
theorem Rd.drewN (h : Rd w g s L p l G vn vs ro) (k : Nat) : Rd (w.drewN k) g s L p l G vn vs ro :=
 ⟨h.at0.drewN k, own_drewN h.nodes k, own_drewN h.stack k, h.lt⟩
theorem Rd.place (h : Rd w g s L p l G vn vs ro) (q : Nat) : Rd (w.setCell ⟨g, 2, none⟩ (.int .i64 (q : Int))) g s L q l G vn vs ro :=
 ⟨(h.at0.set 2 (.int .i64 (q : Int))), ownsRow_setCell_below h.nodes (Nat.lt_succ_self g) _, ownsRow_setCell_below h.stack (Nat.lt_succ_self g) _, by rw [show (w.setCell ⟨g, 2, none⟩ (.int .i64 (q : Int))).heap.size = w.heap.size by simp [World.setCell]]; exact h.lt⟩
theorem below_drewN (g : Nat) (w : World) (k : Nat) : Below g w (w.drewN k) := ⟨rfl, rfl, rfl, nle _, fun _ _ => rfl⟩
theorem below_place (g : Nat) (w : World) (k : Nat) (v : Value) : Below g w ((w.drewN k).setCell ⟨g, 2, none⟩ v) := (below_drewN g w k).setCell (nle _) v
def At1 (v : Value) (g : Nat) (s : ByteArray) (L : Lm) (q : Nat) (l : List Am) (G : List Fr) (vn vs : Value) (ro : Int) (w : World) (e : Ending) (w' : World) : Prop := e = .returned v ∧ Hid (Rd w' g s L q l G vn vs ro) ∧ Hid (Below g w w')
theorem next_yes (hR : Rd w g s L p l G vn vs ro) (h1 : p < s.size) (h2 : p < L.bytes) (hz : s.size ≤ 140737488351232) (b : Nat) (hb : (s.toList.getD p 0).toNat = b) :
  Calls Tryz.prog 54 #[.pointer (some ⟨g, 0, none⟩)] w (At1 (.int .u8 (b : Int)) g s L (p + 1) l G vn vs ro w) := by
 refine (next_ok w g s L.bytes p hR.tx.1 hR.tx.2 h1 h2 hz).mono ?_
 rintro e w' ⟨rfl, k, rfl⟩
 rw [hb]
 exact ⟨rfl, (hR.drewN k).place _, below_place _ _ _ _⟩
theorem next_lack (hR : Rd w g s L p l G vn vs ro) (h : ¬ (p < s.size ∧ p < L.bytes)) (hp : p ≤ 140737488351232) :
  Calls Tryz.prog 54 #[.pointer (some ⟨g, 0, none⟩)] w (No (lkE L.bytes s) (lkP L.bytes s) g w) := next_no w g s L.bytes p hR.tx.1 h hp
theorem place_yes (hR : Rd w g s L p l G vn vs ro) :
  Calls Tryz.prog 56 #[.pointer (some ⟨g, 0, none⟩)] w (fun e w' => e = .returned (.int .i64 (p : Int)) ∧ w = w') := place_ok w g s L.bytes p hR.tx.1
theorem skip_lack (hR : Rd w g s L p l G vn vs ro) (to : Nat) (h : ¬ (to ≤ s.size ∧ to ≤ L.bytes)) (z : Int) (hz : (to : Int) = z) :
  Calls Tryz.prog 78 #[.pointer (some ⟨g, 0, none⟩), .int .i64 z] w (No (lkE L.bytes s) (lkP L.bytes s) g w) := by
 subst hz
 exact skip_no w g s L.bytes p to hR.tx.1 h
theorem wrap_fit (n : Nat) (h : n ≤ maxLen) : IntKind.i64.wrap (n : Int) = (n : Int) := by
 unfold maxLen at h
 simp only [IntKind.wrap, IntKind.bits, IntKind.signed]
 simp
 omega
theorem own_fit {w : World} {B e size n : Nat} {v : Value} {xs : List Value} (h : w.ownsRow B e size v n xs) : n ≤ maxLen := by
 rcases h.2 with ⟨_, h0⟩ | ⟨g, cap, cur, _, _, _, h1, h2, _⟩
 ·rw [h0]; exact Nat.zero_le _
 ·exact Nat.le_trans h1 h2
theorem own_top {B : Nat} (h : w.ownsRow B 110 6 vs (f :: G).length (hcells (f :: G))) : ∃ k cap, vs = .slice (some ⟨k, 0, none⟩) (G.length + 1) cap ∧ B ≤ k ∧ At w k (G.length * 6) (hv f) := by
 obtain ⟨a, c, hvv, hg⟩ := own_form h
 obtain ⟨k, rfl⟩ := hg (by simp)
 subst hvv
 refine ⟨k, c, rfl, (h.lt k rfl).1, ?_⟩
 have h1 := At.ofOwnN h
 rw [hcells_cons] at h1
 have h2 := At.sub (a := hcells G) (b := hv f) (c := []) (by rw [List.append_nil]; exact h1)
 rw [hcells_length, Nat.zero_add, Nat.mul_comm] at h2
 exact h2
theorem Rd.top (h : Rd w g s L p l (f :: G) vn vs ro) : ∃ k cap, vs = .slice (some ⟨k, 0, none⟩) (G.length + 1) cap ∧ g < k ∧ At w k (G.length * 6) (hv f) := own_top h.stack
theorem kinds_ne : (60 : Nat) ≠ 110 := by decide
theorem own_setTop {B k cap : Nat} (h : w.ownsRow B 110 6 (.slice (some ⟨k, 0, none⟩) (G.length + 1) cap) (f :: G).length (hcells (f :: G))) (j : Nat) (hj : j < 6) (u : Value) (f' : Fr) (hf : (hv f).set j u = hv f') :
  (w.setCell ⟨k, G.length * 6 + j, none⟩ u).ownsRow B 110 6 (.slice (some ⟨k, 0, none⟩) (G.length + 1) cap) (f' :: G).length (hcells (f' :: G)) := by
 have hs := (h.stored (G.length * 6 + j) u).1
 have he : (hcells (f :: G)).set (G.length * 6 + j) u = hcells (f' :: G) := by
  rw [hcells_cons, hcells_cons, List.set_append_right _ _ (by rw [hcells_length]; omega), hcells_length, show G.length * 6 + j - 6 * G.length = j by omega, hf]
 rw [he] at hs
 exact hs
theorem Rd.setTop (h : Rd w g s L p l (f :: G) vn vs ro) {k cap : Nat} (hk : vs = .slice (some ⟨k, 0, none⟩) (G.length + 1) cap) (j : Nat) (hj : j < 6) (u : Value) (f' : Fr) (hf : (hv f).set j u = hv f') :
  Rd (w.setCell ⟨k, G.length * 6 + j, none⟩ u) g s L p l (f' :: G) vn vs ro := by
 subst hk
 have hgk := (h.stack.lt k rfl).1
 have hne : vn.ownBlock ≠ some k := by
  rcases own_ne h.nodes h.stack kinds_ne with h1 | h1
  ·rw [h1]; exact fun e => by cases e
  ·exact h1
 exact ⟨h.at0.other k (G.length * 6 + j) u (Or.inl (by omega)), ownsRow_setCell_other h.nodes hne u, own_setTop h.stack j hj u f' hf, by rw [show (w.setCell ⟨k, G.length * 6 + j, none⟩ u).heap.size = w.heap.size by simp [World.setCell]]; exact h.lt⟩
theorem tl_arr (s : ByteArray) : (⟨s.toList.toArray⟩ : ByteArray) = s := tl_inj (tl_mk _)
theorem Rd.topKey {k cap n : Nat} (h : Rd w g s L p l (f :: G) vn (.slice (some ⟨k, 0, none⟩) (G.length + 1) cap) ro) (hn : G.length = n) (u : ByteArray) (x : List UInt8) (hx : u.toList = x) :
  Rd (((w.setCell ⟨k, n * 6 + 4, none⟩ (.bool true)).setCell ⟨k, n * 6 + 3, none⟩ (.bool true)).setCell ⟨k, n * 6 + 5, none⟩ (.string u)) g s L p l ({ f with keys := true, value := true, last := x } :: G) vn (.slice (some ⟨k, 0, none⟩) (G.length + 1) cap) ro := by
 subst hx hn
 have h8 := h.setTop rfl 4 (by decide) (.bool true) { f with keys := true } rfl
 have h9 := h8.setTop rfl 3 (by decide) (.bool true) { f with keys := true, value := true } rfl
 exact h9.setTop rfl 5 (by decide) (.string u) { f with keys := true, value := true, last := u.toList } (by simp [hv, tl_arr])
theorem Rd.topOther {k cap n : Nat} (h : Rd w g s L p l (f :: G) vn (.slice (some ⟨k, 0, none⟩) (G.length + 1) cap) ro) (hn : G.length = n) (m : Nat) (y : Int) (hm : f.left - 1 = m) (hy : (m : Int) = y) :
  Rd ((w.setCell ⟨k, n * 6 + 3, none⟩ (.bool false)).setCell ⟨k, n * 6 + 1, none⟩ (.int .u64 y)) g s L p l ({ f with value := false, left := f.left - 1 } :: G) vn (.slice (some ⟨k, 0, none⟩) (G.length + 1) cap) ro := by
 subst hy hm hn
 have h8 := h.setTop rfl 3 (by decide) (.bool false) { f with value := false } rfl
 exact h8.setTop rfl 1 (by decide) (.int .u64 ((f.left - 1 : Nat) : Int)) { f with value := false, left := f.left - 1 } rfl
end
end Co
end Go.Proofs.YtikgonlhdkknkaaGreatDoor
namespace Go.Proofs.YtikgonlhdkknkaaGreatDoor
open Go.RowKit
namespace Co
open Dr (Rs Lm has lack at0S)
theorem lack_eq {α : Type} (s : ByteArray) (L : Lm) : (lack s.toList L : Rs α) = .no (lkE L.bytes s) (lkP L.bytes s) (decide (s.size ≤ L.bytes)) := by
 unfold lack Dr.lackE Dr.lackP lkE lkP
 rw [tl_size]
theorem has_yes (s : ByteArray) (L : Lm) (p : Nat) (h : p < s.size ∧ p < L.bytes) : has s.toList L p = true := by rw [has, decide_eq_true_iff, tl_size]; exact h
theorem has_no (s : ByteArray) (L : Lm) (p : Nat) (h : ¬ (p < s.size ∧ p < L.bytes)) : has s.toList L p = false := by rw [has, decide_eq_false_iff_not, tl_size]; exact h
theorem u64c (n : Nat) (h : n < 18446744073709551616) : IntKind.u64.wrap (n : Int) = (n : Int) := by simp [IntKind.wrap, IntKind.bits, IntKind.signed]; omega
theorem u64_num (x : Nat) (h : x < 18446744073709551616) : (BitVec.ofInt 64 (x : Int)).toNat = x := by
 rw [BitVec.toNat_ofInt]; omega
theorem u64_or (x y : Nat) (hx : x < 18446744073709551616) (hy : y < 18446744073709551616) : bits .or .u64 (x : Int) (y : Int) = ((x ||| y : Nat) : Int) := by
 show IntKind.u64.wrap ((BitVec.ofInt 64 (x : Int) ||| BitVec.ofInt 64 (y : Int)).toNat : Nat) = _
 rw [BitVec.toNat_or, u64_num x hx, u64_num y hy]
 exact u64c _ (Nat.or_lt_two_pow (n := 64) hx hy)
theorem or8u (n b : Nat) (hb : b < 256) (hn : 256 * n < 18446744073709551616) : bits .or .u64 ((256 * n : Nat) : Int) (b : Int) = ((256 * n + b : Nat) : Int) := by
 rw [u64_or _ _ hn (by omega)]
 have := Nat.shiftLeft_add_eq_or_of_lt (show b < 2 ^ 8 by omega) n
 rw [Nat.shiftLeft_eq] at this
 rw [show 256 * n = n * 2 ^ 8 by omega, ← this]
section
variable {S : List UInt8} {L : Lm} {p n : Nat}
theorem argB_lt (q : Nat) : ∀ i n, argB S L q i = .ok n → n < 256 ^ i := fun i n h => (argB_inv q i n h).2
theorem argB_no {i j : Nat} {e : Int} {q : Nat} {c : Bool} (h : argB S L p i = .no e q c) (hj : i ≤ j) : argB S L p j = .no e q c := by
 induction hj with
 | refl => exact h
 | step _ ih => rw [argB, ih]
theorem argB_lack {i : Nat} (h : argB S L p i = .ok n) (hh : has S L (p + i + 1) = false) : argB S L p (i + 1) = lack S L := by rw [argB, h]; simp [hh]
theorem argB_next {i d : Nat} (h : argB S L p i = .ok n) (hh : has S L (p + i + 1) = true) (hb : at0S S (p + i + 1) = d) : argB S L p (i + 1) = .ok (256 * n + d) := by
 rw [argB, h]
 simp [hh, hb]
end
def RsArg (r : Rs Nat) (q : Nat) (g : Nat) (s : ByteArray) (L : Lm) (l : List Am) (G : List Fr) (vn vs : Value) (ro : Int) (w : World) (e : Ending) (w' : World) : Prop :=
 match r with
 | .ok n => At1 (.int .u64 (n : Int)) g s L q l G vn vs ro w e w'
 | .no c q _ => No c q g w e w'
section
variable (w : World) (g : Nat) (s : ByteArray) (L : Lm) (p : Nat) (l : List Am) (G : List Fr) (vn vs : Value) (ro : Int)
theorem argument_bad (hR : Rd w g s L (p + 1) l G vn vs ro) (t : Nat) (ht : (s.toList.getD p 0).toNat = t) (c : Int) (hc : headE (s.toList.getD p 0) = c) (h0 : c ≠ 0) (hp : p ≤ 140737488351232) :
  Calls Tryz.prog 75 #[.pointer (some ⟨g, 0, none⟩), .int .u8 (t : Int)] w (No c p g w) := by
 have ht2 : t < 256 := by rw [← ht]; exact (s.toList.getD p 0).toNat_lt
 rw [headE_eq, ht] at hc
 have F := hid (fun c p w => fail_any c p w)
 have AS := hid (fun w => cask_any t _ _ ht2 rfl rfl w)
 rw [hc, if_neg h0] at AS
 have HR := hid hR
 have e1 : ((p + 1 : Nat) : Int) - 1 = (p : Int) := by omega
 have e2 : (p : Int) ≤ 140737488351232 := by omega
 have e3 : (c != 0) = true := by rw [bne_iff_ne]; exact h0
 clear hR hc ht ht2 hp
 go_enter Tryz.func75, Tryz.ntmps75
 go_wp2_with (first
  | (go_at_call 56; refine (place_yes HR.out).mono ?_; rintro e wp ⟨rfl, rfl⟩)
  | (go_at_call 97; refine (AS.out _).mono ?_; rintro e wa ⟨rfl, rfl⟩)
  | (go_at_call 55; refine (F.out _ _ _).mono ?_; rintro e wf ⟨rfl, rfl⟩))
 exact ⟨rfl, rfl, Below.refl _ _⟩
theorem argR_none {S : List UInt8} (h : widT (S.getD p 0) = 0) : argR S L p = .ok (infT (S.getD p 0)) := by rw [argR, h]; rfl
theorem argument_none (hR : Rd w g s L (p + 1) l G vn vs ro) (t : Nat) (ht : (s.toList.getD p 0).toNat = t) (hc : headE (s.toList.getD p 0) = 0) (hw : widT (s.toList.getD p 0) = 0) (hp : p ≤ 140737488351232) :
  Calls Tryz.prog 75 #[.pointer (some ⟨g, 0, none⟩), .int .u8 (t : Int)] w (RsArg (argR s.toList L p) (p + 1) g s L l G vn vs ro w) := by
 rw [argR_none L p hw]
 have ht2 : t < 256 := by rw [← ht]; exact (s.toList.getD p 0).toNat_lt
 rw [headE_eq, ht] at hc
 rw [widT_eq, ht] at hw
 rw [infT, ht]
 have AS := hid (fun w => cask_any t _ _ ht2 rfl rfl w)
 rw [hc, if_pos rfl, hw] at AS
 obtain ⟨n, hn⟩ : ∃ n, t % 32 = n := ⟨_, rfl⟩
 rw [hn]
 have e31 := u8_and31 t ht2
 rw [hn] at e31
 have SH : Hid (∀ w, Calls Tryz.prog 98 #[.int .i64 0, .int .u64 (n : Int)] w (RetVal (.bool true) w)) := fun w => short_any 0 n (.inl rfl) (by omega) w
 have HR := hid hR
 have e1 : ((p + 1 : Nat) : Int) - 1 = (p : Int) := by omega
 have e2 : (p : Int) ≤ 140737488351232 := by omega
 have e4 : IntKind.u64.wrap (n : Int) = (n : Int) := u64c n (by omega)
 clear hR hc ht ht2 hp hw hn
 go_enter Tryz.func75, Tryz.ntmps75
 go_wp2_with (first
  | (go_at_call 56; refine (place_yes HR.out).mono ?_; rintro e wp ⟨rfl, rfl⟩)
  | (go_at_call 97; refine (AS.out _).mono ?_; rintro e wa ⟨rfl, rfl⟩))
 go_loopw [8, 30] (fun vq vi wr => vq = .int .u64 (n : Int) ∧ vi = .int .i64 0 ∧ wr = w) (fun _ _ _ => 0)
 case atStart => exact ⟨rfl, rfl, rfl⟩
 case round =>
  obtain ⟨rfl, rfl, rfl⟩ := hrel
  go_wp2_with (first
   | (go_at_call 98; refine (SH.out _).mono ?_; rintro e wa ⟨rfl, rfl⟩))
  go_ret
  exact ⟨rfl, HR, Below.refl _ _⟩
theorem argR_of {S : List UInt8} {n : Nat} (h : widT (S.getD p 0) ≠ 0) (hB : argB S L p (widT (S.getD p 0)) = .ok n) : argR S L p = if short (widT (S.getD p 0)) n = true then .ok n else .no 9 p false := by
 rw [argR, hB]
 dsimp only
 rw [if_neg h]
theorem argR_no {S : List UInt8} {e : Int} {q : Nat} {c : Bool} (hB : argB S L p (widT (S.getD p 0)) = .no e q c) : argR S L p = .no e q c := by rw [argR, hB]
theorem wid_cases {t : UInt8} (hc : headE t = 0) (hw : widT t ≠ 0) : widT t = 1 ∨ widT t = 2 ∨ widT t = 4 ∨ widT t = 8 := by
 rw [headE] at hc
 rw [widT] at hw ⊢
 split at hc
 ·cases hc
 ·split at hw
  ·exact absurd rfl hw
  ·rename_i h1 h2
   rw [if_neg h2]
   rcases (by omega : infT t = 24 ∨ infT t = 25 ∨ infT t = 26 ∨ infT t = 27) with h | h | h | h <;> rw [h] <;> simp
theorem argument_some (hR : Rd w g s L (p + 1) l G vn vs ro) (t : Nat) (ht : (s.toList.getD p 0).toNat = t) (hc : headE (s.toList.getD p 0) = 0) (hw : widT (s.toList.getD p 0) ≠ 0) (hp1 : p + 1 ≤ s.size) (hz : s.size ≤ 140737488351232) :
  Calls Tryz.prog 75 #[.pointer (some ⟨g, 0, none⟩), .int .u8 (t : Int)] w (RsArg (argR s.toList L p) (p + 1 + widT (s.toList.getD p 0)) g s L l G vn vs ro w) := by
 obtain ⟨W, hW⟩ : ∃ W, widT (s.toList.getD p 0) = W := ⟨_, rfl⟩
 have hWc := wid_cases hc hw
 have hof := fun n => argR_of L p (S := s.toList) (n := n) hw
 have hno := fun e q c => argR_no L p (S := s.toList) (e := e) (q := q) (c := c)
 rw [hW] at hWc hof hno hw ⊢
 have ht2 : t < 256 := by rw [← ht]; exact (s.toList.getD p 0).toNat_lt
 rw [headE_eq, ht] at hc
 rw [widT_eq, ht] at hW
 have AS := hid (fun w => cask_any t _ _ ht2 rfl rfl w)
 rw [hc, if_pos rfl, hW] at AS
 obtain ⟨n0, hn0⟩ : ∃ n, t % 32 = n := ⟨_, rfl⟩
 have e31 := u8_and31 t ht2
 rw [hn0] at e31
 obtain ⟨R, hRR⟩ : ∃ R, argR s.toList L p = R := ⟨_, rfl⟩
 rw [hRR]
 rw [hRR] at hof hno
 have HOF := hid hof
 have HNO := hid hno
 have HZ := hid hz
 have HW := hid (show W = 0 ∨ W = 1 ∨ W = 2 ∨ W = 4 ∨ W = 8 by omega)
 have HP1 := hid (show p + 0 + 1 ≤ s.size by omega)
 have F := hid (fun c p w => fail_any c p w)
 have HR := hid hR
 have e1 : ((p + 1 : Nat) : Int) - 1 = (p : Int) := by omega
 have e2 : (p : Int) ≤ 140737488351232 := by omega
 have e4 : IntKind.u64.wrap (n0 : Int) = (n0 : Int) := u64c n0 (by omega)
 have e5 : (0 : Int) < (W : Int) := by omega
 have e5b : 0 < W := by omega
 have e5c : decide (0 < W) = true := dtr e5b
 clear hR hc ht ht2 hp1 hz hw hn0 hof hno hRR hW hWc
 go_enter Tryz.func75, Tryz.ntmps75
 go_wp2_with (first
  | (go_at_call 56; refine (place_yes HR.out).mono ?_; rintro e wp ⟨rfl, rfl⟩)
  | (go_at_call 97; refine (AS.out _).mono ?_; rintro e wa ⟨rfl, rfl⟩))
 go_loopw [8, 30] (fun vq vi wr => ∃ i n : Nat, vi = .int .i64 (i : Int) ∧ vq = .int .u64 (n : Int) ∧ i ≤ W ∧ Hid (argB s.toList L p i = .ok n) ∧ Hid (Rd wr g s L (p + i + 1) l G vn vs ro) ∧ Hid (Below g w wr) ∧ Hid (p + i + 1 ≤ s.size)) (fun _ vi _ => W - (intOf vi).toNat)
 case atStart => exact ⟨0, 0, rfl, rfl, Nat.zero_le _, rfl, HR, Below.refl _ _, HP1⟩
 case round =>
  obtain ⟨i, n, rfl, rfl, hi, HB, HR2, HB2, HQ⟩ := hrel
  by_cases him : i < W
  ·have ei : (i : Int) < (W : Int) := by omega
   have hn8 := argB_lt p _ _ HB.out
   have hn2 : 256 * n < 18446744073709551616 := by
    have h1 : (256 : Nat) ^ i ≤ 256 ^ 7 := Nat.pow_le_pow_right (by decide) (by have := HW.out; omega)
    have h2 : (256 : Nat) ^ 7 = 72057594037927936 := by decide
    omega
   have HI : Hid (∃ j, W = i + 1 + j) := ⟨W - i - 1, by omega⟩
   have e9 : (i : Int) ≤ 8 := by have := HW.out; omega
   by_cases h5 : p + i + 1 < s.size ∧ p + i + 1 < L.bytes
   ·obtain ⟨d, hd⟩ : ∃ d, (s.toList.getD (p + i + 1) 0).toNat = d := ⟨_, rfl⟩
    have N2 := hid (next_yes HR2.out h5.1 h5.2 HZ.out d hd)
    have hd2 : d < 256 := by rw [← hd]; exact (s.toList.getD (p + i + 1) 0).toNat_lt
    have HN := hid (argB_next HB.out (has_yes s L (p + i + 1) h5) hd)
    have H5 := hid (show p + (i + 1) + 1 ≤ s.size by omega)
    have ho := or8u n d hd2 hn2
    obtain ⟨m, hm⟩ : ∃ m, 256 * n = m := ⟨_, rfl⟩
    obtain ⟨z, hzz⟩ : ∃ z, 256 * n + d = z := ⟨_, rfl⟩
    rw [hm] at ho
    rw [hm] at hzz
    rw [hzz] at ho
    rw [hm, hzz] at HN
    have hwm : IntKind.u64.wrap ((n : Int) * 256) = (m : Int) := by
     rw [show (n : Int) * 256 = ((m : Nat) : Int) by omega]
     exact u64c m (by omega)
    have hwd : IntKind.u64.wrap (d : Int) = (d : Int) := u64c d (by omega)
    clear hd h5 hm hzz hn2 hn8 him hd2 hi
    go_wp2_with (first
     | (go_at_call 54; refine N2.out.mono ?_; rintro e w3 ⟨rfl, HR3, HB3⟩))
    go_roundw
    case rel => exact ⟨i + 1, z, by go_num, rfl, by obtain ⟨j, hj⟩ := HI.out; omega, HN, HR3, HB2.out.trans HB3.out, H5⟩
    case measure => obtain ⟨j, hj⟩ := HI.out; simp [intOf]; omega
   ·have HF : Hid (R = .no (lkE L.bytes s) (lkP L.bytes s) (decide (s.size ≤ L.bytes))) := by
     have h1 := argB_lack HB.out (has_no s L (p + i + 1) h5)
     rw [lack_eq] at h1
     exact HNO.out _ _ _ (argB_no h1 (by omega))
    have N2 := hid (next_lack HR2.out h5 (by have := HQ.out; have := HZ.out; omega))
    have hwm : IntKind.u64.wrap ((n : Int) * 256) = ((256 * n : Nat) : Int) := by
     rw [show (n : Int) * 256 = ((256 * n : Nat) : Int) by omega]
     exact u64c _ (by omega)
    clear h5 hn2 hn8 him hi
    go_wp2_with (first
     | (go_at_call 54; refine N2.out.mono ?_; rintro e w3 ⟨rfl, hb⟩))
    rw [HF.out]
    exact ⟨rfl, rfl, HB2.out.trans hb⟩
  ·obtain rfl : i = W := by omega
   have ei : ¬ (i : Int) < (i : Int) := by omega
   have hn8 := argB_lt p _ _ HB.out
   have hn2 : n < 18446744073709551616 := by
    have h1 : (256 : Nat) ^ i ≤ 256 ^ 8 := Nat.pow_le_pow_right (by decide) (by have := HW.out; omega)
    have h2 : (256 : Nat) ^ 8 = 18446744073709551616 := by decide
    omega
   have SH := hid (fun w => short_any i n HW.out hn2 w)
   have hR := HOF.out n HB.out
   obtain ⟨sh, hsh⟩ : ∃ sh, short i n = sh := ⟨_, rfl⟩
   rw [hsh] at SH hR
   have HPP : Hid (Rd wr g s L (p + 1 + i) l G vn vs ro) := by show Rd _ _ _ _ _ _ _ _ _ _; rw [show p + 1 + i = p + i + 1 by omega]; exact HR2.out
   cases sh with
   | true =>
    have HF : Hid (R = .ok n) := hR
    clear hR hn2 hn8 him hi hsh
    go_wp2_with (first
     | (go_at_call 98; refine (SH.out _).mono ?_; rintro e wa ⟨rfl, rfl⟩))
    go_ret
    rw [HF.out]
    exact ⟨rfl, HPP, HB2⟩
   | false =>
    have HF : Hid (R = .no 9 p false) := hR
    clear hR hn2 hn8 him hi hsh
    go_wp2_with (first
     | (go_at_call 98; refine (SH.out _).mono ?_; rintro e wa ⟨rfl, rfl⟩)
     | (go_at_call 55; refine (F.out _ _ _).mono ?_; rintro e wf ⟨rfl, rfl⟩))
    rw [HF.out]
    exact ⟨rfl, rfl, HB2.out⟩
theorem argument_any (hR : Rd w g s L (p + 1) l G vn vs ro) (t : Nat) (ht : (s.toList.getD p 0).toNat = t) (hc : headE (s.toList.getD p 0) = 0) (hp1 : p + 1 ≤ s.size) (hz : s.size ≤ 140737488351232) :
  Calls Tryz.prog 75 #[.pointer (some ⟨g, 0, none⟩), .int .u8 (t : Int)] w (RsArg (argR s.toList L p) (p + 1 + widT (s.toList.getD p 0)) g s L l G vn vs ro w) := by
 by_cases hw : widT (s.toList.getD p 0) = 0
 ·rw [hw]
  exact argument_none w g s L p l G vn vs ro hR t ht hc hw (by omega)
 ·exact argument_some w g s L p l G vn vs ro hR t ht hc hw hp1 hz
end
end Co
end Go.Proofs.YtikgonlhdkknkaaGreatDoor
