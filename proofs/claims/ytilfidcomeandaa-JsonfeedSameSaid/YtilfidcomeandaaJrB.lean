/- The document's reader of JSON: one byte; blanks. -/
import Derived.Test.YtilfidcomeandaaJrA
namespace Go.Proofs.Ytilfidcomeandaa
open Go.RowKit
set_option linter.unusedVariables false
set_option linter.unusedSimpArgs false
namespace Jr
open Js
open Dr (Rs Lm has lack lackE lackP)
/-- whatever follows from there follows from here -/
def Cl (S : List UInt8) (L : Lm) (s' : St) (p' : Nat) (s : St) (p : Nat) : Prop := ∀ r t k, RunsT S L s' p' r t k → RunsT S L s p r t k
theorem Cl.refl (S : List UInt8) (L : Lm) (s : St) (p : Nat) : Cl S L s p s p := fun _ _ _ h => h
theorem Cl.trans {S : List UInt8} {L : Lm} {a b c : St} {p q r : Nat} (h : Cl S L a p b q) (k : Cl S L b q c r) : Cl S L a p c r := fun _ _ _ x => k _ _ _ (h _ _ _ x)
/-- a byte that is wanted is there, and is it -/
def RetIs (g : Nat) (s : ByteArray) (L : Lm) (ro : Int) (O : List Vl) (fr : Nat) (p : Nat) (c : UInt8) (w : World) (e : Ending) (w' : World) : Prop :=
  (has s.toList L p = true ∧ s.toList.getD p 0 = c ∧ GYes (.bool true) g s L ro O fr (p + 1) w e w') ∨
  (has s.toList L p = true ∧ s.toList.getD p 0 ≠ c ∧ GNay (.bool false) g s L ro 9 p false (p + 1) fr w e w') ∨
  (has s.toList L p = false ∧ GNay (.bool false) g s L ro (lackE s.toList L) (lackP s.toList L) (decide (s.toList.length ≤ L.bytes)) (lackK s.toList L) fr w e w')
theorem has_of {s : ByteArray} {L : Lm} {p : Nat} (h1 : p < s.size) (h2 : p < L.bytes) : has s.toList L p = true := has_yes (by rw [tl_size]; exact h1) h2
theorem has_not {s : ByteArray} {L : Lm} {p : Nat} (h : ¬ (p < s.size ∧ p < L.bytes)) : has s.toList L p = false := decide_eq_false (by rw [tl_size]; exact h)
theorem byte_at (s : ByteArray) (p : Nat) (h : p < s.size) : (s[p]).toNat = (s.toList.getD p 0).toNat := by rw [List.getD, tl_get s p h]; rfl
set_option maxRecDepth 100000 in
set_option maxHeartbeats 1600000 in
theorem is_any {w : World} {g : Nat} {s : ByteArray} {L : Lm} {ro : Int} {O : List Vl} {fr tk : Nat} (hG : Gok w g s L ro O fr tk) (p : Nat) (c : UInt8) (hs : s.size ≤ 140737488351232) (htk : tk ≤ p + 1) :
    Calls Try.prog 78 #[.pointer (some ⟨g, 0, none⟩), .int .i64 (p : Int), .int .u8 (c.toNat : Int)] w (RetIs g s L ro O fr p c w) := by
  by_cases h1 : p < s.size ∧ p < L.bytes
  · obtain ⟨hp, hp2⟩ := h1
    have W := Lib.hid (gwant_yes hG (p : Int) p rfl hp hp2 hs htk)
    have HH := Lib.hid (has_of hp hp2)
    have hb := byte_at s p hp
    have e1 : (p : Int) < (s.size : Int) := by omega
    have e3 : (0 : Int) ≤ (p : Int) := by omega
    have HN := Lib.hid hs
    clear hp2
    by_cases hc : s.toList.getD p 0 = c
    · have HC := Lib.hid hc
      have q1 : ((s[p]).toNat : Int) = (c.toNat : Int) := by rw [hb, hc]
      clear hc hb hG htk hs
      go_enter Try.func78, Try.ntmps78
      go_wp2_with (go_at_call 38; refine W.out.mono ?_; rintro e w1 ⟨rfl, HG1, HB1⟩; have t0 := Gok.txt HG1.out)
      go_ret
      exact .inl ⟨HH.out, HC.out, rfl, HG1, HB1⟩
    · have HC := Lib.hid hc
      have q0 : (s[p]).toNat ≠ c.toNat := by rw [hb]; exact fun e => hc (UInt8.toNat_inj.1 e)
      have q1 : (((s[p]).toNat : Int) == (c.toNat : Int)) = false := by rw [beq_eq_false_iff_ne]; omega
      clear hc hb hG htk hs q0
      go_enter Try.func78, Try.ntmps78
      go_wp2_with (first | (go_at_call 38; refine W.out.mono ?_; rintro e w1 ⟨rfl, HG1, HB1⟩; have t0 := Gok.txt HG1.out) | (go_at_call 40; refine (gfault16_ok HG1.out _ _ p rfl).mono ?_; rintro e w2 ⟨rfl, HG2, HB2⟩))
      go_ret
      exact .inr (.inl ⟨HH.out, HC.out, rfl, HG2, HB1.out.trans HB2.out⟩)
  · have W := Lib.hid (gwant_no hG (p : Int) p rfl h1)
    have HH := Lib.hid (has_not h1)
    clear hG htk hs h1
    go_enter Try.func78, Try.ntmps78
    go_wp2_with (go_at_call 38; refine W.out.mono ?_; rintro e w1 ⟨rfl, HG1, HB1⟩)
    go_ret
    exact .inr (.inr ⟨HH.out, rfl, HG1, HB1⟩)
end Jr
end Go.Proofs.Ytilfidcomeandaa
