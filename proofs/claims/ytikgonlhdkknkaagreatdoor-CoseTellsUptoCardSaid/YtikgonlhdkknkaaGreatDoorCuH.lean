import Derived.Test.YtikgonlhdkknkaaGreatDoorRowX
import Derived.Test.YtikgonlhdkknkaaGreatDoorOctX
import Derived.Deep.QuietTactic
import Derived.BigQuiet
set_option maxRecDepth 100000
set_option maxHeartbeats 1600000
set_option linter.unusedVariables false
set_option linter.unusedSimpArgs false
namespace Go.Proofs.YtikgonlhdkknkaaGreatDoor
namespace Dr
structure Nd where
 tag : UInt8
 kids : Int
 body : List UInt8
deriving DecidableEq
inductive Rs (α : Type) where
 | ok (a : α)
 | no (e : Int) (pl : Nat) (en : Bool)
structure Lm where
 depth : Nat
 items : Nat
 bytes : Nat
def within (t : UInt8) : Bool := decide (t.toNat / 32 % 2 = 1)
def tagF (c n i : Nat) : Int :=
 if c % 2 = 1 ∨ n = 31 then 11 else if c = 2 then 0
 else if n = 16 ∨ n = 17 then (if i = 1 then 0 else 9)
 else if 1 ≤ n ∧ n ≤ 6 ∨ n = 12 then (if i = 1 then 9 else 0)
 else 11
def tagE (t : UInt8) : Int := tagF (t.toNat / 64) (t.toNat % 32) (t.toNat / 32 % 2)
section
variable (S : List UInt8) (L : Lm)
def has (q : Nat) : Bool := decide (q < S.length ∧ q < L.bytes)
def at0S (q : Nat) : Nat := (S.getD q 0).toNat
def part (a q : Nat) : List UInt8 := (S.drop a).take (q - a)
def lackE : Int := if L.bytes < S.length then 10 else 9
def lackP : Nat := if L.bytes < S.length then L.bytes else S.length
def lack {α : Type} : Rs α := .no (lackE S L) (lackP S L) (decide (S.length ≤ L.bytes))
def lenB (q : Nat) : Nat → Rs Nat
 | 0 => .ok 0
 | i + 1 => match lenB q i with
  | .no e p b => .no e p b
  | .ok n => if has S L (q + i + 1) = true then (if i = 0 ∧ at0S S (q + 1) = 0 then .no 9 (q + 1) false else .ok (256 * n + at0S S (q + i + 1))) else lack S L
def lenR (q : Nat) : Rs (Nat × Nat) :=
 if has S L q = true then
  (if at0S S q < 128 then .ok (at0S S q, q + 1)
  else if at0S S q = 128 ∨ 132 < at0S S q then .no 9 q false
  else match lenB S L q (at0S S q - 128) with
   | .no e p b => .no e p b
   | .ok n => if n < 128 then .no 9 (q + (at0S S q - 128)) false else .ok (n, q + (at0S S q - 128) + 1))
 else lack S L
structure Fr where
 tag : UInt8
 node : Nat
 p0 : Nat
 e : Nat
 kids : Nat
 last : List UInt8
inductive St where
 | el (G : List Fr) (l : List Nd) (p : Nat)
 | pend (G : List Fr) (l : List Nd) (a p : Nat)
 | loop (G : List Fr) (l : List Nd) (p : Nat)
variable (bodyOk : UInt8 → List UInt8 → Bool) (less : List UInt8 → List UInt8 → Bool)
def elS (G : List Fr) (l : List Nd) (p : Nat) : Rs St :=
 if has S L p = false then lack S L
 else if L.items ≤ l.length then .no 10 p false
 else if tagE (S.getD p 0) ≠ 0 then .no (tagE (S.getD p 0)) p false
 else if within (S.getD p 0) = true ∧ L.depth ≤ G.length then .no 10 p false
 else match lenR S L (p + 1) with
  | .no e q b => .no e q b
  | .ok (n, q) =>
   if (G.head?.any fun f => decide (f.e < q + n)) = true then .no 9 p false
   else if within (S.getD p 0) = true then .ok (.loop ({ tag := S.getD p 0, node := l.length, p0 := p, e := q + n, kids := 0, last := [] } :: G) (l ++ [{ tag := S.getD p 0, kids := 0, body := [] }]) q)
   else if n ≠ 0 ∧ has S L (q + n - 1) = false then lack S L
   else if bodyOk (S.getD p 0) (part S q (q + n)) = false then .no 9 p false
   else .ok (.pend G (l ++ [{ tag := S.getD p 0, kids := -1, body := part S q (q + n) }]) p (q + n))
def pendS (G : List Fr) (l : List Nd) (a p : Nat) : Rs St :=
 match G with
 | [] => .ok (.loop [] l p)
 | f :: G' =>
  if f.tag = 0x31 ∧ 0 < f.kids ∧ less (part S a p) f.last = true then .no 9 a false
  else .ok (.loop ({ f with kids := f.kids + 1, last := part S a p } :: G') l p)
def loopS (f : Fr) (G : List Fr) (l : List Nd) (p : Nat) : St :=
 if p < f.e then .el (f :: G) l p else .pend G (l.modify f.node (fun n => { n with kids := (f.kids : Int) })) f.p0 p
def fin (l : List Nd) (p : Nat) : Rs (List Nd) :=
 if p < S.length then (if has S L p = true then .no 9 p false else lack S L) else .ok l
inductive Runs : St → Rs (List Nd) → Prop
 | el {G l p s r} : elS S L bodyOk G l p = .ok s → Runs s r → Runs (.el G l p) r
 | elNo {G l p e q b} : elS S L bodyOk G l p = .no e q b → Runs (.el G l p) (.no e q b)
 | pend {G l a p s r} : pendS S less G l a p = .ok s → Runs s r → Runs (.pend G l a p) r
 | pendNo {G l a p e q b} : pendS S less G l a p = .no e q b → Runs (.pend G l a p) (.no e q b)
 | loop {f G l p r} : Runs (loopS f G l p) r → Runs (.loop (f :: G) l p) r
 | fin {l p} : Runs (.loop [] l p) (fin S L l p)
end
end Dr
end Go.Proofs.YtikgonlhdkknkaaGreatDoor
namespace Go.Proofs.YtikgonlhdkknkaaGreatDoor
open Go.RowKit
def RetVal (v : Value) (w : World) (e : Ending) (w' : World) : Prop := e = .returned v ∧ w = w'
theorem and31 : ∀ n : Fin 256, n.val &&& 31 = n.val % 32 := by decide +kernel
theorem u8_and31 (t : Nat) (h : t < 256) : bits .and .u8 (t : Int) 31 = ((t % 32 : Nat) : Int) := by
 have := u8_and_nat t 31 (by omega) (by omega)
 rw [and31 ⟨t, h⟩] at this
 exact this
end Go.Proofs.YtikgonlhdkknkaaGreatDoor
namespace Go.Proofs.YtikgonlhdkknkaaGreatDoor
open Go.RowKit
def flt (c p : Int) : List PanicEntry := [{ v := .iface 67 (.agg #[.int .i64 c, .int .i64 p]), recovered := false }]
theorem fail_any (c p : Int) (w : World) : Calls Tryz.prog 55 #[.int .i64 c, .int .i64 p] w (fun e w' => e = .panicked (flt c p) ∧ w = w') := by
 go_enter Tryz.func55, Tryz.ntmps55
 go_wp2_with fail
 exact ⟨rfl, rfl, rfl⟩
def Tx (w : World) (g o : Nat) (s : ByteArray) (B p : Nat) : Prop :=
 w.cell? ⟨g, o, none⟩ = some (.string s) ∧ w.cell? ⟨g, o + 1, none⟩ = some (.int .i64 (B : Int)) ∧ w.cell? ⟨g, o + 2, none⟩ = some (.int .i64 (p : Int))
theorem want_ok (w : World) (g o : Nat) (s : ByteArray) (B p to : Nat) (hT : Tx w g o s B p) (h1 : to ≤ s.size) (h2 : to ≤ B) :
  Calls Tryz.prog 99 #[.pointer (some ⟨g, o, none⟩), .int .i64 (to : Int)] w (fun e w' => e = .returned (.tuple #[]) ∧ w = w') := by
 obtain ⟨hc0, hc1, hc2⟩ := hT
 have e1 : (to : Int) ≤ (s.size : Int) := by omega
 have e2 : (to : Int) ≤ (B : Int) := by omega
 clear h1 h2
 go_enter Tryz.func99, Tryz.ntmps99
 go_wp2_with fail
 first | go_end0 | refine bodyPost_ret (results_none rfl _ _ _) rfl ?_
 exact ⟨rfl, rfl⟩
end Go.Proofs.YtikgonlhdkknkaaGreatDoor
namespace Go.Proofs.YtikgonlhdkknkaaGreatDoor
open Go.RowKit
def No (c : Int) (q : Nat) (g : Nat) (w : World) (e : Ending) (w' : World) : Prop := e = .panicked (flt c (q : Int)) ∧ Below g w w'
def lkE (B : Nat) (s : ByteArray) : Int := if B < s.size then 10 else 9
def lkP (B : Nat) (s : ByteArray) : Nat := if B < s.size then B else s.size
theorem le_no {a b : Int} (h : ¬ a ≤ b) : decide (a ≤ b) = false := dfa h
theorem want_no (w : World) (g : Nat) (s : ByteArray) (B p to : Nat) (hT : Tx w g 0 s B p) (h : ¬ (to ≤ s.size ∧ to ≤ B)) :
  Calls Tryz.prog 99 #[.pointer (some ⟨g, 0, none⟩), .int .i64 (to : Int)] w (No (lkE B s) (lkP B s) g w) := by
 obtain ⟨hc0, hc1, hc2⟩ := hT
 have F := Lib.hid (fun c p w => fail_any c p w)
 by_cases h1 : to ≤ s.size
 ·have h2 : ¬ to ≤ B := fun h2 => h ⟨h1, h2⟩
  have e1 : (to : Int) ≤ (s.size : Int) := by omega
  have e2 := le_no (show ¬ (to : Int) ≤ (B : Int) by omega)
  have e2b : ¬ (to : Int) ≤ (B : Int) := by omega
  have e3 := le_no (show ¬ (s.size : Int) ≤ (B : Int) by omega)
  have e3b : ¬ (s.size : Int) ≤ (B : Int) := by omega
  rw [lkE, lkP, if_pos (by omega), if_pos (by omega)]
  clear h h1 h2
  go_enter Tryz.func99, Tryz.ntmps99
  go_wp2_with fail
  go_region
  go_wp2_with (go_at_call 55; refine (F.out _ _ _).mono ?_; rintro e w1 ⟨rfl, rfl⟩)
  exact ⟨rfl, rfl, (Below.refl _ _).drew⟩
 ·have e1 := le_no (show ¬ (to : Int) ≤ (s.size : Int) by omega)
  have e1b : ¬ (to : Int) ≤ (s.size : Int) := by omega
  by_cases h3 : s.size ≤ B
  ·have e3 : (s.size : Int) ≤ (B : Int) := by omega
   rw [lkE, lkP, if_neg (by omega), if_neg (by omega)]
   clear h h1 h3
   go_enter Tryz.func99, Tryz.ntmps99
   go_wp2_with fail
   go_region
   go_wp2_with (go_at_call 55; refine (F.out _ _ _).mono ?_; rintro e w1 ⟨rfl, rfl⟩)
   exact ⟨rfl, rfl, (Below.refl _ _).drew⟩
  ·have e3 := le_no (show ¬ (s.size : Int) ≤ (B : Int) by omega)
   have e3b : ¬ (s.size : Int) ≤ (B : Int) := by omega
   rw [lkE, lkP, if_pos (by omega), if_pos (by omega)]
   clear h h1 h3
   go_enter Tryz.func99, Tryz.ntmps99
   go_wp2_with fail
   go_region
   go_wp2_with (go_at_call 55; refine (F.out _ _ _).mono ?_; rintro e w1 ⟨rfl, rfl⟩)
   exact ⟨rfl, rfl, (Below.refl _ _).drew⟩
theorem peek_ok (w : World) (g : Nat) (s : ByteArray) (B p : Nat) (hT : Tx w g 0 s B p) (h1 : p < s.size) (h2 : p < B) (hz : s.size ≤ 140737488351232) :
  Calls Tryz.prog 83 #[.pointer (some ⟨g, 0, none⟩)] w (fun e w' => e = .returned (.int .u8 ((s.toList.getD p 0).toNat : Int)) ∧ ∃ k, w' = w.drewN k) := by
 have W := Lib.hid (want_ok w g 0 s B p (p + 1) hT (by omega) (by omega))
 rw [show ((p + 1 : Nat) : Int) = (p : Int) + 1 by omega] at W
 obtain ⟨hc0, hc1, hc2⟩ := hT
 have hb : (s[p]).toNat = (s.toList.getD p 0).toNat := by rw [List.getD, tl_get s p h1]; rfl
 have e1 : (p : Int) < (s.size : Int) := by omega
 have e3 : (p : Int) < 140737488351232 := by omega
 have HB := Lib.hid hb
 clear h2 hb hz
 go_enter Tryz.func83, Tryz.ntmps83
 go_wp2_with (go_at_call 99; refine W.out.mono ?_; rintro e w1 ⟨rfl, rfl⟩)
 go_quiet (fail)
 go_wp2_with fail
 go_ret
 refine ⟨?_, _, rfl⟩
 rw [← HB.out]
 rfl
theorem peek_no (w : World) (g : Nat) (s : ByteArray) (B p : Nat) (hT : Tx w g 0 s B p) (h : ¬ (p < s.size ∧ p < B)) (hp : p ≤ 140737488351232) :
  Calls Tryz.prog 83 #[.pointer (some ⟨g, 0, none⟩)] w (No (lkE B s) (lkP B s) g w) := by
 have W := Lib.hid (want_no w g s B p (p + 1) hT (by omega))
 rw [show ((p + 1 : Nat) : Int) = (p : Int) + 1 by omega] at W
 obtain ⟨hc0, hc1, hc2⟩ := hT
 have e3 : (p : Int) ≤ 140737488351232 := by omega
 clear h hp
 go_enter Tryz.func83, Tryz.ntmps83
 go_wp2_with (go_at_call 99; refine W.out.mono ?_; rintro e w1 ⟨rfl, hb⟩)
 exact ⟨rfl, rfl, hb⟩
theorem next_ok (w : World) (g : Nat) (s : ByteArray) (B p : Nat) (hT : Tx w g 0 s B p) (hf : w.frozen? ⟨g, 2, none⟩ = false) (h1 : p < s.size) (h2 : p < B) (hz : s.size ≤ 140737488351232) :
  Calls Tryz.prog 54 #[.pointer (some ⟨g, 0, none⟩)] w (fun e w' => e = .returned (.int .u8 ((s.toList.getD p 0).toNat : Int)) ∧ ∃ k, w' = (w.drewN k).setCell ⟨g, 2, none⟩ (.int .i64 ((p + 1 : Nat) : Int))) := by
 have W := Lib.hid (peek_ok w g s B p hT h1 h2 hz)
 obtain ⟨b, hb⟩ : ∃ b, (s.toList.getD p 0).toNat = b := ⟨_, rfl⟩
 rw [hb] at W ⊢
 obtain ⟨hc0, hc1, hc2⟩ := hT
 have e1 : (p : Int) < 140737488351232 := by omega
 clear h1 h2 hz hb
 go_enter Tryz.func54, Tryz.ntmps54
 go_wp2_with (go_at_call 83; refine W.out.mono ?_; rintro e w1 ⟨rfl, k, rfl⟩)
 go_ret
 exact ⟨rfl, k, rfl⟩
theorem next_no (w : World) (g : Nat) (s : ByteArray) (B p : Nat) (hT : Tx w g 0 s B p) (h : ¬ (p < s.size ∧ p < B)) (hp : p ≤ 140737488351232) :
  Calls Tryz.prog 54 #[.pointer (some ⟨g, 0, none⟩)] w (No (lkE B s) (lkP B s) g w) := by
 have W := Lib.hid (peek_no w g s B p hT h hp)
 clear h hp hT
 go_enter Tryz.func54, Tryz.ntmps54
 go_wp2_with (go_at_call 83; refine W.out.mono ?_; rintro e w1 ⟨rfl, hb⟩)
 exact ⟨rfl, rfl, hb⟩
theorem skip_ok (w : World) (g : Nat) (s : ByteArray) (B p to : Nat) (hT : Tx w g 0 s B p) (hf : w.frozen? ⟨g, 2, none⟩ = false) (h0 : p ≤ to) (h1 : to ≤ s.size) (h2 : to ≤ B) :
  Calls Tryz.prog 78 #[.pointer (some ⟨g, 0, none⟩), .int .i64 (to : Int)] w (fun e w' => e = .returned (.string (s.extract p to)) ∧ ∃ k, w' = (w.drewN k).setCell ⟨g, 2, none⟩ (.int .i64 (to : Int))) := by
 have W := Lib.hid (want_ok w g 0 s B p to hT h1 h2)
 obtain ⟨hc0, hc1, hc2⟩ := hT
 have e1 : (p : Int) ≤ (to : Int) := by omega
 have e2 : (to : Int) ≤ (s.size : Int) := by omega
 clear h2
 go_enter Tryz.func78, Tryz.ntmps78
 go_wp2_with (go_at_call 99; refine W.out.mono ?_; rintro e w1 ⟨rfl, rfl⟩)
 go_ret
 exact ⟨rfl, 0, rfl⟩
theorem skip_no (w : World) (g : Nat) (s : ByteArray) (B p to : Nat) (hT : Tx w g 0 s B p) (h : ¬ (to ≤ s.size ∧ to ≤ B)) :
  Calls Tryz.prog 78 #[.pointer (some ⟨g, 0, none⟩), .int .i64 (to : Int)] w (No (lkE B s) (lkP B s) g w) := by
 have W := Lib.hid (want_no w g s B p to hT h)
 clear h hT
 go_enter Tryz.func78, Tryz.ntmps78
 go_wp2_with (go_at_call 99; refine W.out.mono ?_; rintro e w1 ⟨rfl, hb⟩)
 exact ⟨rfl, rfl, hb⟩
theorem part_ok (w : World) (g : Nat) (s : ByteArray) (B p a b : Nat) (hT : Tx w g 0 s B p) (h0 : a ≤ b) (h1 : b ≤ s.size) :
  Calls Tryz.prog 82 #[.pointer (some ⟨g, 0, none⟩), .int .i64 (a : Int), .int .i64 (b : Int)] w (fun e w' => e = .returned (.string (s.extract a b)) ∧ w = w') := by
 obtain ⟨hc0, hc1, hc2⟩ := hT
 have e1 : (a : Int) ≤ (b : Int) := by omega
 have e2 : (b : Int) ≤ (s.size : Int) := by omega
 go_enter Tryz.func82, Tryz.ntmps82
 go_wp2_with fail
 go_ret
 exact ⟨rfl, rfl⟩
theorem place_ok (w : World) (g : Nat) (s : ByteArray) (B p : Nat) (hT : Tx w g 0 s B p) :
  Calls Tryz.prog 56 #[.pointer (some ⟨g, 0, none⟩)] w (fun e w' => e = .returned (.int .i64 (p : Int)) ∧ w = w') := by
 obtain ⟨hc0, hc1, hc2⟩ := hT
 go_enter Tryz.func56, Tryz.ntmps56
 go_wp2_with fail
 go_ret
 exact ⟨rfl, rfl⟩
theorem tended_ok (w : World) (g : Nat) (s : ByteArray) (B p : Nat) (b : Bool) (hT : Tx w g 0 s B p) (hb : decide (s.size ≤ p) = b) :
  Calls Tryz.prog 53 #[.pointer (some ⟨g, 0, none⟩)] w (fun e w' => e = .returned (.bool b) ∧ ∃ k, w' = w.drewN k) := by
 obtain ⟨hc0, hc1, hc2⟩ := hT
 go_enter Tryz.func53, Tryz.ntmps53
 go_wp2_with fail
 go_quiet (fail)
 go_wp2_with fail
 go_ret
 exact ⟨rfl, _, rfl⟩
end Go.Proofs.YtikgonlhdkknkaaGreatDoor
