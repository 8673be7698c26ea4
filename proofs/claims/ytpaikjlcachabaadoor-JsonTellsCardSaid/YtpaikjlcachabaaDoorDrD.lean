/- Reading: want, Peek, Next, Skip. -/
import Derived.Test.YtpaikjlcachabaaDoorDrC
import Derived.Deep.QuietTactic
import Derived.BigQuiet
namespace Go.Proofs.YtpaikjlcachabaaDoor
open Go.RowKit
set_option linter.unusedVariables false
set_option linter.unusedSimpArgs false
/-- a fault: what lay ahead of the reader's block is as it was -/
def No (c : Int) (q : Nat) (g : Nat) (w : World) (e : Ending) (w' : World) : Prop := e = .panicked (flt c (q : Int)) ∧ Below g w w'
def lkE (B : Nat) (s : ByteArray) : Int := if B < s.size then 10 else 9
def lkP (B : Nat) (s : ByteArray) : Nat := if B < s.size then B else s.size
theorem le_no {a b : Int} (h : ¬ a ≤ b) : decide (a ≤ b) = false := decide_eq_false h
set_option maxRecDepth 100000 in
set_option maxHeartbeats 1600000 in
theorem want_no (w : World) (g : Nat) (s : ByteArray) (B p to : Nat) (hT : Tx w g 0 s B p) (h : ¬ (to ≤ s.size ∧ to ≤ B)) :
    Calls Tryd.prog 55 #[.pointer (some ⟨g, 0, none⟩), .int .i64 (to : Int)] w (No (lkE B s) (lkP B s) g w) := by
  obtain ⟨hc0, hc1, hc2⟩ := hT
  have F := Lib.hid (fun c p w => fail_any c p w)
  by_cases h1 : to ≤ s.size
  · have h2 : ¬ to ≤ B := fun h2 => h ⟨h1, h2⟩
    have e1 : (to : Int) ≤ (s.size : Int) := by omega
    have e2 := le_no (show ¬ (to : Int) ≤ (B : Int) by omega)
    have e2b : ¬ (to : Int) ≤ (B : Int) := by omega
    have e3 := le_no (show ¬ (s.size : Int) ≤ (B : Int) by omega)
    have e3b : ¬ (s.size : Int) ≤ (B : Int) := by omega
    rw [lkE, lkP, if_pos (by omega), if_pos (by omega)]
    clear h h1 h2
    go_enter Tryd.func55, Tryd.ntmps55
    go_wp2_with fail
    go_region
    go_wp2_with (go_at_call 25; refine (F.out _ _ _).mono ?_; rintro e w1 ⟨rfl, rfl⟩)
    exact ⟨rfl, rfl, (Below.refl _ _).drew⟩
  · have e1 := le_no (show ¬ (to : Int) ≤ (s.size : Int) by omega)
    have e1b : ¬ (to : Int) ≤ (s.size : Int) := by omega
    by_cases h3 : s.size ≤ B
    · have e3 : (s.size : Int) ≤ (B : Int) := by omega
      rw [lkE, lkP, if_neg (by omega), if_neg (by omega)]
      clear h h1 h3
      go_enter Tryd.func55, Tryd.ntmps55
      go_wp2_with fail
      go_region
      go_wp2_with (go_at_call 25; refine (F.out _ _ _).mono ?_; rintro e w1 ⟨rfl, rfl⟩)
      exact ⟨rfl, rfl, (Below.refl _ _).drew⟩
    · have e3 := le_no (show ¬ (s.size : Int) ≤ (B : Int) by omega)
      have e3b : ¬ (s.size : Int) ≤ (B : Int) := by omega
      rw [lkE, lkP, if_pos (by omega), if_pos (by omega)]
      clear h h1 h3
      go_enter Tryd.func55, Tryd.ntmps55
      go_wp2_with fail
      go_region
      go_wp2_with (go_at_call 25; refine (F.out _ _ _).mono ?_; rintro e w1 ⟨rfl, rfl⟩)
      exact ⟨rfl, rfl, (Below.refl _ _).drew⟩
/-- the reader's text behind a draw, and with its place moved -/
theorem Tx.drewN {w : World} {g o : Nat} {s : ByteArray} {B p : Nat} (h : Tx w g o s B p) (k : Nat) : Tx (w.drewN k) g o s B p := h
set_option maxRecDepth 100000 in
set_option maxHeartbeats 1600000 in
theorem peek_ok (w : World) (g : Nat) (s : ByteArray) (B p : Nat) (hT : Tx w g 0 s B p) (h1 : p < s.size) (h2 : p < B) (hz : s.size ≤ 140737488351232) :
    Calls Tryd.prog 35 #[.pointer (some ⟨g, 0, none⟩)] w (fun e w' => e = .returned (.int .u8 ((s.toList.getD p 0).toNat : Int)) ∧ ∃ k, w' = w.drewN k) := by
  have W := Lib.hid (want_ok w g 0 s B p (p + 1) hT (by omega) (by omega))
  rw [show ((p + 1 : Nat) : Int) = (p : Int) + 1 by omega] at W
  obtain ⟨hc0, hc1, hc2⟩ := hT
  have hb : (s[p]).toNat = (s.toList.getD p 0).toNat := by rw [List.getD, tl_get s p h1]; rfl
  have e1 : (p : Int) < (s.size : Int) := by omega
  have e3 : (p : Int) < 140737488351232 := by omega
  have HB := Lib.hid hb
  clear h2 hb hz
  go_enter Tryd.func35, Tryd.ntmps35
  go_wp2_with (go_at_call 55; refine W.out.mono ?_; rintro e w1 ⟨rfl, rfl⟩)
  go_quiet (fail)
  go_wp2_with fail
  go_ret
  refine ⟨?_, _, rfl⟩
  rw [← HB.out]
  rfl
set_option maxRecDepth 100000 in
set_option maxHeartbeats 1600000 in
theorem peek_no (w : World) (g : Nat) (s : ByteArray) (B p : Nat) (hT : Tx w g 0 s B p) (h : ¬ (p < s.size ∧ p < B)) (hp : p ≤ 140737488351232) :
    Calls Tryd.prog 35 #[.pointer (some ⟨g, 0, none⟩)] w (No (lkE B s) (lkP B s) g w) := by
  have W := Lib.hid (want_no w g s B p (p + 1) hT (by omega))
  rw [show ((p + 1 : Nat) : Int) = (p : Int) + 1 by omega] at W
  obtain ⟨hc0, hc1, hc2⟩ := hT
  have e3 : (p : Int) ≤ 140737488351232 := by omega
  clear h hp
  go_enter Tryd.func35, Tryd.ntmps35
  go_wp2_with (go_at_call 55; refine W.out.mono ?_; rintro e w1 ⟨rfl, hb⟩)
  exact ⟨rfl, rfl, hb⟩
set_option maxRecDepth 100000 in
set_option maxHeartbeats 1600000 in
theorem next_ok (w : World) (g : Nat) (s : ByteArray) (B p : Nat) (hT : Tx w g 0 s B p) (hf : w.frozen? ⟨g, 2, none⟩ = false) (h1 : p < s.size) (h2 : p < B) (hz : s.size ≤ 140737488351232) :
    Calls Tryd.prog 24 #[.pointer (some ⟨g, 0, none⟩)] w (fun e w' => e = .returned (.int .u8 ((s.toList.getD p 0).toNat : Int)) ∧ ∃ k, w' = (w.drewN k).setCell ⟨g, 2, none⟩ (.int .i64 ((p + 1 : Nat) : Int))) := by
  have W := Lib.hid (peek_ok w g s B p hT h1 h2 hz)
  obtain ⟨b, hb⟩ : ∃ b, (s.toList.getD p 0).toNat = b := ⟨_, rfl⟩
  rw [hb] at W ⊢
  obtain ⟨hc0, hc1, hc2⟩ := hT
  have e1 : (p : Int) < 140737488351232 := by omega
  clear h1 h2 hz hb
  go_enter Tryd.func24, Tryd.ntmps24
  go_wp2_with (go_at_call 35; refine W.out.mono ?_; rintro e w1 ⟨rfl, k, rfl⟩)
  go_ret
  exact ⟨rfl, k, rfl⟩
set_option maxRecDepth 100000 in
set_option maxHeartbeats 1600000 in
theorem next_no (w : World) (g : Nat) (s : ByteArray) (B p : Nat) (hT : Tx w g 0 s B p) (h : ¬ (p < s.size ∧ p < B)) (hp : p ≤ 140737488351232) :
    Calls Tryd.prog 24 #[.pointer (some ⟨g, 0, none⟩)] w (No (lkE B s) (lkP B s) g w) := by
  have W := Lib.hid (peek_no w g s B p hT h hp)
  clear h hp hT
  go_enter Tryd.func24, Tryd.ntmps24
  go_wp2_with (go_at_call 35; refine W.out.mono ?_; rintro e w1 ⟨rfl, hb⟩)
  exact ⟨rfl, rfl, hb⟩
set_option maxRecDepth 100000 in
theorem place_ok (w : World) (g : Nat) (s : ByteArray) (B p : Nat) (hT : Tx w g 0 s B p) :
    Calls Tryd.prog 26 #[.pointer (some ⟨g, 0, none⟩)] w (fun e w' => e = .returned (.int .i64 (p : Int)) ∧ w = w') := by
  obtain ⟨hc0, hc1, hc2⟩ := hT
  go_enter Tryd.func26, Tryd.ntmps26
  go_wp2_with fail
  go_ret
  exact ⟨rfl, rfl⟩
set_option maxRecDepth 100000 in
theorem tended_ok (w : World) (g : Nat) (s : ByteArray) (B p : Nat) (b : Bool) (hT : Tx w g 0 s B p) (hb : decide (s.size ≤ p) = b) :
    Calls Tryd.prog 22 #[.pointer (some ⟨g, 0, none⟩)] w (fun e w' => e = .returned (.bool b) ∧ ∃ k, w' = w.drewN k) := by
  obtain ⟨hc0, hc1, hc2⟩ := hT
  go_enter Tryd.func22, Tryd.ntmps22
  go_wp2_with fail
  go_quiet (fail)
  go_wp2_with fail
  go_ret
  exact ⟨rfl, _, rfl⟩
end Go.Proofs.YtpaikjlcachabaaDoor
