/- A feed of values in memory: a byte is taken. -/
import Derived.Test.YtilfidcomeandaaJfH
namespace Go.Proofs.Ytilfidcomeandaa
open Go.RowKit
set_option linter.unusedVariables false
set_option linter.unusedSimpArgs false
namespace Jf
open Js
open Dr (Rs Lm has lack)
theorem blank_t (b : UInt8) (t : Nat) (ht : b.toNat = t) : Js.blank b = decide (t = 32 ∨ t = 9 ∨ t = 10 ∨ t = 13) := by
  rw [Js.blank]
  refine decide_eq_decide.2 ?_
  rw [show b = 32 ↔ t = 32 from u8lit b t ht 32 (by decide), show b = 9 ↔ t = 9 from u8lit b t ht 9 (by decide), show b = 10 ↔ t = 10 from u8lit b t ht 10 (by decide), show b = 13 ↔ t = 13 from u8lit b t ht 13 (by decide)]
theorem notT_tk {q : Nat} {w w' : World} (h : Tk q w w') (hl : q < w.heap.size) (hn : NotT w q) : NotT w' q :=
  ⟨fun cur hc => by obtain ⟨c2, h2⟩ := h.ty hl _ _ hc; exact hn.1 _ h2, fun cur hc => by obtain ⟨c2, h2⟩ := h.ty hl _ _ hc; exact hn.2 _ h2⟩
/-- a feed whose own cells alone are known -/
def WkM (w : World) (g β : Nat) (L : Lm) (ro : Int) (n k : Nat) : Prop :=
  ∃ vV c cap nx vH nm a, At w g 0 (jc L ro k vV (.slice c n cap) nx vH nm a 0 0) ∧ g < β ∧ β ≤ w.heap.size
section
variable (w : World) (g β : Nat) (L : Lm) (ro : Int) (n k : Nat)
set_option maxRecDepth 100000 in
set_option maxHeartbeats 1600000 in
theorem ffault_w (h : WkM w g β L ro n k) (c : Int) (q : Nat) (z : Int) (hz : (q : Int) = z) :
    Calls Try.prog 20 #[.pointer (some ⟨g, 0, none⟩), .int .i64 c, .int .i64 z] w (RD c q n g β L ro k w) := by
  subst hz
  obtain ⟨vV, aS, cS, nx, vH, nm, a, h, hgb, hbs⟩ := h
  have HA : Hid (At ((w.setCell ⟨g, 11, none⟩ (.int .i64 c)).setCell ⟨g, 12, none⟩ (.int .i64 (q : Int))) g 0 (jc L ro k vV (.slice aS n cS) nx vH nm a c (q : Int))) := (h.set 11 (.int .i64 c)).set 12 (.int .i64 (q : Int))
  have HB : Hid (Bx g β w ((w.setCell ⟨g, 11, none⟩ (.int .i64 c)).setCell ⟨g, 12, none⟩ (.int .i64 (q : Int)))) := ((Bx.refl' g β w).setG _).setG _
  have HS : Hid (g < β ∧ β ≤ w.heap.size) := ⟨hgb, hbs⟩
  have h9 := h.cell 11 _ rfl
  have h10 := h.cell 12 _ rfl
  have f9 := h.froz 11 (by show 11 < 13; decide)
  have f10 := h.froz 12 (by show 12 < 13; decide)
  clear h
  go_enter Try.func20, Try.ntmps20
  go_wp2_with fail
  first | go_end0 | refine bodyPost_ret (results_none rfl _ _ _) rfl ?_
  exact ⟨rfl, ⟨_, _, _, _, _, _, _, HA.out, HS.out.1, by rw [set_size, set_size]; exact HS.out.2⟩, HB⟩
set_option maxRecDepth 100000 in
set_option maxHeartbeats 1600000 in
theorem fwrong_w (h : WkM w g β L ro n k) (p : Nat) (hp : k = p + 1) (hk : k ≤ 262144) :
    Calls Try.prog 33 #[.pointer (some ⟨g, 0, none⟩)] w (RD 9 p n g β L ro k w) := by
  have FA := Lib.hid (ffault_w w g β L ro n k h 9 p (p : Int) rfl)
  obtain ⟨vV, aS, cS, nx, vH, nm, a, h, hgb, hbs⟩ := h
  have h4 := h.cell 4 _ rfl
  have e1 : (k : Int) - 1 = (p : Int) := by omega
  have e2 : IntKind.i64.wrap (p : Int) = (p : Int) := wrap_fit p (by unfold maxLen; omega)
  clear h hp hk
  go_enter Try.func33, Try.ntmps33
  go_wp2_with fail
  refine FA.out.mono ?_
  rintro e w4 ⟨rfl, hF4, hB4⟩
  go_wp2_with fail
  first | go_end0 | refine bodyPost_ret (results_none rfl _ _ _) rfl ?_
  exact ⟨rfl, hF4, hB4⟩
end
section
variable (w : World) (g β : Nat) (L : Lm) (ro : Int) (s : St) (k : Nat)
theorem bd_of {L : Lm} {s : St} {p : Nat} (h : Inv L s p) (hp : p ≤ 262144) (hL : L.items ≤ 4096) (hd : L.depth ≤ 32) : Bd L s := ⟨hL, by have := h.deep; omega, fun f hf => by have := h.kids f hf; omega⟩
theorem word_m (n : Nat) (w : World) (a : Option Addr) : (method (n + 1) 114 (.pointer a) "Take").run Try.prog w = .ok (81, .pointer a) w := by kernel_rfl
theorem num_m (n : Nat) (w : World) (a : Option Addr) : (method (n + 1) 84 (.pointer a) "Take").run Try.prog w = .ok (74, .pointer a) w := by kernel_rfl
theorem str_m (n : Nat) (w : World) (a : Option Addr) : (method (n + 1) 91 (.pointer a) "Take").run Try.prog w = .ok (80, .pointer a) w := by kernel_rfl
theorem act_none {L : Lm} {s : St} {b : UInt8} {p : Nat} (hh : s.hand = .none) : s.act L b p = s.between L b p := by rw [St.act, hh]
theorem nil_ne (w : World) : (binOp .neq 46 .nilIface .nilIface).run Try.prog w = .ok (.bool false) w := by kernel_rfl
theorem word_ne (w : World) (v : Value) : (binOp .neq 46 (.iface 114 v) .nilIface).run Try.prog w = .ok (.bool true) w := by kernel_rfl
theorem num_ne (w : World) (v : Value) : (binOp .neq 46 (.iface 84 v) .nilIface).run Try.prog w = .ok (.bool true) w := by kernel_rfl
theorem str_ne (w : World) (v : Value) : (binOp .neq 46 (.iface 91 v) .nilIface).run Try.prog w = .ok (.bool true) w := by kernel_rfl
set_option maxRecDepth 100000 in
set_option maxHeartbeats 3200000 in
theorem ftake_none_b32 (h : FmS w g β L ro s k) (p : Nat) (hi : Inv L s p) (hp : k = p + 1) (hk : k ≤ 262144) (hL : L.items ≤ 4096) (hD : L.depth ≤ 32) (b : UInt8) (t : Nat) (ht : b.toNat = t) (hh : s.hand = .none) (hc : t = 32) :
    Calls Try.prog 21 #[.pointer (some ⟨g, 0, none⟩), .int .u8 (t : Int)] w (RO (s.act L b p) s.G.length g β L ro k w) := by
  have hg := h.facts
  have hgb := hg.1
  have hgs := hg.2.1
  have hB := bd_of hi (by omega) hL hD
  obtain ⟨R, hR⟩ : ∃ R, s.act L b p = R := ⟨_, rfl⟩
  rw [hR]
  have c8 : w.cell? ⟨g, 8, none⟩ = some .nilIface := by
    obtain ⟨B, vV, vS, vH, a, h4, hn⟩ := h
    have h9 := h4.hand
    rw [hh] at h9
    have h8 := h4.at0.cell 8 _ rfl
    rw [Nat.zero_add, show vH = .nilIface from h9] at h8
    exact h8
  rw [act_none hh, St.between] at hR
  rw [blank_t b t ht, if_pos (decide_eq_true (by omega))] at hR
  have HR : Hid (R = .go s) := hR.symm
  have Q := nil_ne
  have HF := Lib.hid h
  have m32 : ((t : Int) != 32) = false := by rw [bne_eq_false_iff_eq]; omega
  clear h hi hp hk hL hD hB hR ht hg hc
  go_enter Try.func21, Try.ntmps21
  go_wp2_with fail
  first | go_end0 | refine bodyPost_ret (results_none rfl _ _ _) rfl ?_
  exact RO.go HR ⟨rfl, HF, Bx.refl' g β w⟩
set_option maxRecDepth 100000 in
set_option maxHeartbeats 3200000 in
theorem ftake_none_b9 (h : FmS w g β L ro s k) (p : Nat) (hi : Inv L s p) (hp : k = p + 1) (hk : k ≤ 262144) (hL : L.items ≤ 4096) (hD : L.depth ≤ 32) (b : UInt8) (t : Nat) (ht : b.toNat = t) (hh : s.hand = .none) (hc : t = 9) :
    Calls Try.prog 21 #[.pointer (some ⟨g, 0, none⟩), .int .u8 (t : Int)] w (RO (s.act L b p) s.G.length g β L ro k w) := by
  have hg := h.facts
  have hgb := hg.1
  have hgs := hg.2.1
  have hB := bd_of hi (by omega) hL hD
  obtain ⟨R, hR⟩ : ∃ R, s.act L b p = R := ⟨_, rfl⟩
  rw [hR]
  have c8 : w.cell? ⟨g, 8, none⟩ = some .nilIface := by
    obtain ⟨B, vV, vS, vH, a, h4, hn⟩ := h
    have h9 := h4.hand
    rw [hh] at h9
    have h8 := h4.at0.cell 8 _ rfl
    rw [Nat.zero_add, show vH = .nilIface from h9] at h8
    exact h8
  rw [act_none hh, St.between] at hR
  rw [blank_t b t ht, if_pos (decide_eq_true (by omega))] at hR
  have HR : Hid (R = .go s) := hR.symm
  have Q := nil_ne
  have HF := Lib.hid h
  have m32 : ((t : Int) != 32) = true := by rw [bne_iff_ne]; omega
  have m9 : ((t : Int) != 9) = false := by rw [bne_eq_false_iff_eq]; omega
  clear h hi hp hk hL hD hB hR ht hg hc
  go_enter Try.func21, Try.ntmps21
  go_wp2_with fail
  first | go_end0 | refine bodyPost_ret (results_none rfl _ _ _) rfl ?_
  exact RO.go HR ⟨rfl, HF, Bx.refl' g β w⟩
set_option maxRecDepth 100000 in
set_option maxHeartbeats 3200000 in
theorem ftake_none_b10 (h : FmS w g β L ro s k) (p : Nat) (hi : Inv L s p) (hp : k = p + 1) (hk : k ≤ 262144) (hL : L.items ≤ 4096) (hD : L.depth ≤ 32) (b : UInt8) (t : Nat) (ht : b.toNat = t) (hh : s.hand = .none) (hc : t = 10) :
    Calls Try.prog 21 #[.pointer (some ⟨g, 0, none⟩), .int .u8 (t : Int)] w (RO (s.act L b p) s.G.length g β L ro k w) := by
  have hg := h.facts
  have hgb := hg.1
  have hgs := hg.2.1
  have hB := bd_of hi (by omega) hL hD
  obtain ⟨R, hR⟩ : ∃ R, s.act L b p = R := ⟨_, rfl⟩
  rw [hR]
  have c8 : w.cell? ⟨g, 8, none⟩ = some .nilIface := by
    obtain ⟨B, vV, vS, vH, a, h4, hn⟩ := h
    have h9 := h4.hand
    rw [hh] at h9
    have h8 := h4.at0.cell 8 _ rfl
    rw [Nat.zero_add, show vH = .nilIface from h9] at h8
    exact h8
  rw [act_none hh, St.between] at hR
  rw [blank_t b t ht, if_pos (decide_eq_true (by omega))] at hR
  have HR : Hid (R = .go s) := hR.symm
  have Q := nil_ne
  have HF := Lib.hid h
  have m32 : ((t : Int) != 32) = true := by rw [bne_iff_ne]; omega
  have m9 : ((t : Int) != 9) = true := by rw [bne_iff_ne]; omega
  have m10 : ((t : Int) != 10) = false := by rw [bne_eq_false_iff_eq]; omega
  clear h hi hp hk hL hD hB hR ht hg hc
  go_enter Try.func21, Try.ntmps21
  go_wp2_with fail
  first | go_end0 | refine bodyPost_ret (results_none rfl _ _ _) rfl ?_
  exact RO.go HR ⟨rfl, HF, Bx.refl' g β w⟩
set_option maxRecDepth 100000 in
set_option maxHeartbeats 3200000 in
theorem ftake_none_b13 (h : FmS w g β L ro s k) (p : Nat) (hi : Inv L s p) (hp : k = p + 1) (hk : k ≤ 262144) (hL : L.items ≤ 4096) (hD : L.depth ≤ 32) (b : UInt8) (t : Nat) (ht : b.toNat = t) (hh : s.hand = .none) (hc : t = 13) :
    Calls Try.prog 21 #[.pointer (some ⟨g, 0, none⟩), .int .u8 (t : Int)] w (RO (s.act L b p) s.G.length g β L ro k w) := by
  have hg := h.facts
  have hgb := hg.1
  have hgs := hg.2.1
  have hB := bd_of hi (by omega) hL hD
  obtain ⟨R, hR⟩ : ∃ R, s.act L b p = R := ⟨_, rfl⟩
  rw [hR]
  have c8 : w.cell? ⟨g, 8, none⟩ = some .nilIface := by
    obtain ⟨B, vV, vS, vH, a, h4, hn⟩ := h
    have h9 := h4.hand
    rw [hh] at h9
    have h8 := h4.at0.cell 8 _ rfl
    rw [Nat.zero_add, show vH = .nilIface from h9] at h8
    exact h8
  rw [act_none hh, St.between] at hR
  rw [blank_t b t ht, if_pos (decide_eq_true (by omega))] at hR
  have HR : Hid (R = .go s) := hR.symm
  have Q := nil_ne
  have HF := Lib.hid h
  have m32 : ((t : Int) != 32) = true := by rw [bne_iff_ne]; omega
  have m9 : ((t : Int) != 9) = true := by rw [bne_iff_ne]; omega
  have m10 : ((t : Int) != 10) = true := by rw [bne_iff_ne]; omega
  have m13 : ((t : Int) != 13) = false := by rw [bne_eq_false_iff_eq]; omega
  clear h hi hp hk hL hD hB hR ht hg hc
  go_enter Try.func21, Try.ntmps21
  go_wp2_with fail
  first | go_end0 | refine bodyPost_ret (results_none rfl _ _ _) rfl ?_
  exact RO.go HR ⟨rfl, HF, Bx.refl' g β w⟩
set_option maxRecDepth 100000 in
set_option maxHeartbeats 3200000 in
theorem ftake_none_o (h : FmS w g β L ro s k) (p : Nat) (hi : Inv L s p) (hp : k = p + 1) (hk : k ≤ 262144) (hL : L.items ≤ 4096) (hD : L.depth ≤ 32) (b : UInt8) (t : Nat) (ht : b.toNat = t) (hh : s.hand = .none) (hc : ¬ (t = 32 ∨ t = 9 ∨ t = 10 ∨ t = 13)) :
    Calls Try.prog 21 #[.pointer (some ⟨g, 0, none⟩), .int .u8 (t : Int)] w (RO (s.act L b p) s.G.length g β L ro k w) := by
  have hg := h.facts
  have hgb := hg.1
  have hgs := hg.2.1
  have hB := bd_of hi (by omega) hL hD
  obtain ⟨R, hR⟩ : ∃ R, s.act L b p = R := ⟨_, rfl⟩
  rw [hR]
  have c8 : w.cell? ⟨g, 8, none⟩ = some .nilIface := by
    obtain ⟨B, vV, vS, vH, a, h4, hn⟩ := h
    have h9 := h4.hand
    rw [hh] at h9
    have h8 := h4.at0.cell 8 _ rfl
    rw [Nat.zero_add, show vH = .nilIface from h9] at h8
    exact h8
  rw [act_none hh, St.between] at hR
  rw [blank_t b t ht, if_neg (by rw [decide_eq_false hc]; decide)] at hR
  have Q := nil_ne
  have CT := Lib.hid (fstep_any w g β L ro s k h hh (hi.nx0 hh).1 p hp hk hB b t ht)
  rw [hR] at CT
  have m32 : ((t : Int) != 32) = true := by rw [bne_iff_ne]; omega
  have m9 : ((t : Int) != 9) = true := by rw [bne_iff_ne]; omega
  have m10 : ((t : Int) != 10) = true := by rw [bne_iff_ne]; omega
  have m13 : ((t : Int) != 13) = true := by rw [bne_iff_ne]; omega
  clear h hi hp hk hL hD hB hR ht hg hc
  go_enter Try.func21, Try.ntmps21
  go_wp2_with fail
  refine CT.out.mono ?_
  rintro e w4 ⟨rfl, hB4, hF4⟩
  go_wp2_with fail
  first | go_end0 | refine bodyPost_ret (results_none rfl _ _ _) rfl ?_
  exact ⟨rfl, hB4, hF4⟩
set_option maxRecDepth 100000 in
set_option maxHeartbeats 3200000 in
theorem ftake_word (h : FmS w g β L ro s k) (p : Nat) (hi : Inv L s p) (hp : k = p + 1) (hk : k ≤ 262144) (hL : L.items ≤ 4096) (hD : L.depth ≤ 32) (b : UInt8) (t : Nat) (ht : b.toNat = t) (x : UInt8) (r : List UInt8) (hh : s.hand = .word (x :: r)) :
    Calls Try.prog 21 #[.pointer (some ⟨g, 0, none⟩), .int .u8 (t : Int)] w (RO (s.act L b p) s.G.length g β L ro k w) := by
  have hg := h.facts
  have hgb := hg.1
  have hgs := hg.2.1
  have hB := bd_of hi (by omega) hL hD
  obtain ⟨R, hR⟩ : ∃ R, s.act L b p = R := ⟨_, rfl⟩
  rw [hR]
  have hr10 : r.length ≤ 10 := by have := hi.hand; rw [hh] at this; have := this.2; simp at this; omega
  have hcur := hi.cur (by rw [hh]; simp)
  have hnm : s.named = none := by
    rcases hi.nx1 (by rw [hh]; simp) with h1 | ⟨a, _, _, ⟨x, hx⟩, _⟩
    · exact h1.1
    · rw [hh] at hx; cases hx
  obtain ⟨B, vV, vS, vH, a, h4, hn⟩ := h
  have hH := h4.hand
  rw [hh] at hH
  obtain ⟨q, rfl, hA, hq, hnt⟩ := hH
  have c8 := h4.at0.cell 8 _ rfl
  have WT := Lib.hid (wordTake_any q x r b hr10 w hA)
  rw [ht] at WT
  have Q := word_ne
  have QM := word_m
  have HX := Lib.hid (And.intro hh (And.intro hp (And.intro hk (And.intro hcur (And.intro hnm (And.intro hB hi))))))
  have H4 := Lib.hid h4
  have HNN := Lib.hid hn
  have HQ := Lib.hid (And.intro hA (And.intro hq hnt))
  have HR := Lib.hid hR
  clear h4 hA hq hnt hi hp hk hL hD hB hR ht hg hcur hnm hn
  go_enter Try.func21, Try.ntmps21
  go_wp2_with fail
  refine WT.out.mono ?_
  rintro e w3 (⟨hne, rfl, rfl⟩ | ⟨hbx, he, hA3, hT3⟩)
  · have HR2 : Hid (R = .fl 9 p) := by show R = _; rw [← HR.out, St.act, HX.out.1]; dsimp only; rw [if_neg hne]
    have WR := Lib.hid (fwrong_any w g β L ro s k ⟨B, _, _, _, _, H4.out, HNN.out⟩ p HX.out.2.1 HX.out.2.2.1)
    go_wp2_with fail
    refine WR.out.mono ?_
    rintro e w4 ⟨rfl, hF4, hB4⟩
    go_wp2_with fail
    first | go_end0 | refine bodyPost_ret (results_none rfl _ _ _) rfl ?_
    exact RO.fl HR2 ⟨rfl, hF4, hB4⟩
  · have hl : q < w.heap.size := HQ.out.1.lt (by simp)
    have hJ3 := H4.out.take hT3.out HQ.out.2.1 hl HQ.out.2.2 ⟨_, _, HQ.out.1⟩ (hd' := .word r) ⟨q, rfl, hA3.out, HQ.out.2.1, notT_tk hT3.out hl HQ.out.2.2⟩
    have HF3 : Hid (FmS w3 g β L ro { s with hand := .word r } k) := ⟨B, _, _, _, _, hJ3, HNN.out⟩
    have HB3 : Hid (Bx g β w w3) := Bx.tk hT3.out HQ.out.2.1
    clear hJ3 hl
    by_cases hr : r = []
    · rw [if_pos hr] at he
      subst he
      have HR2 : Hid (R = .go s.ended) := by show R = _; rw [← HR.out, St.act, HX.out.1]; dsimp only; rw [if_pos hbx, if_pos hr]
      have EN := Lib.hid (fend_word w3 g β L ro { s with hand := .word r } k HF3.out HX.out.2.2.2.1 (by have := HX.out.2.2.2.2.2.2.size; have := HX.out.2.2.2.2.2.1.hL; show s.size ≤ _; omega) HX.out.2.2.2.2.2.1.hl r rfl HX.out.2.2.2.2.1)
      clear hr
      go_wp2_with fail
      refine EN.out.mono ?_
      rintro e w4 ⟨rfl, hF4, hB4⟩
      go_wp2_with fail
      first | go_end0 | refine bodyPost_ret (results_none rfl _ _ _) rfl ?_
      exact RO.go HR2 ⟨rfl, hF4, HB3.out.trans hB4.out⟩
    · rw [if_neg hr] at he
      subst he
      have HR2 : Hid (R = .go { s with hand := .word r }) := by show R = _; rw [← HR.out, St.act, HX.out.1]; dsimp only; rw [if_pos hbx, if_neg hr]
      clear hr
      go_wp2_with fail
      first | go_end0 | refine bodyPost_ret (results_none rfl _ _ _) rfl ?_
      exact RO.go HR2 ⟨rfl, HF3, HB3⟩
set_option maxRecDepth 100000 in
set_option maxHeartbeats 3200000 in
theorem ftake_num_go (h : FmS w g β L ro s k) (p : Nat) (hi : Inv L s p) (hp : k = p + 1) (hk : k ≤ 262144) (hL : L.items ≤ 4096) (hD : L.depth ≤ 32) (b : UInt8) (t : Nat) (ht : b.toNat = t) (wv y : Nat) (x : List UInt8) (hh : s.hand = .num wv x) (hnx : nextN wv b = some y) :
    Calls Try.prog 21 #[.pointer (some ⟨g, 0, none⟩), .int .u8 (t : Int)] w (RO (s.act L b p) s.G.length g β L ro k w) := by
  have hg := h.facts
  have hgb := hg.1
  have hgs := hg.2.1
  have hB := bd_of hi (by omega) hL hD
  obtain ⟨R, hR⟩ : ∃ R, s.act L b p = R := ⟨_, rfl⟩
  rw [hR]
  have hcur := hi.cur (by rw [hh]; simp)
  have hnm : s.named = none := by
    rcases hi.nx1 (by rw [hh]; simp) with h1 | ⟨a, _, _, ⟨x, hx⟩, _⟩
    · exact h1.1
    · rw [hh] at hx; cases hx
  have hhd := hi.hand
  rw [hh] at hhd
  obtain ⟨B, vV, vS, vH, a, h4, hn⟩ := h
  have hH := h4.hand
  rw [hh] at hH
  obtain ⟨q, vT, rfl, hA, hq, hnt⟩ := hH
  have c8 := h4.at0.cell 8 _ rfl
  have WT := Lib.hid (ntake_any q wv x vT b w hhd.1 (by have := hhd.2; omega) hA)
  rw [ht] at WT
  have Q := num_ne
  have QM := num_m
  have HX := Lib.hid (And.intro hh (And.intro hp (And.intro hk (And.intro hcur (And.intro hnm (And.intro hB hi))))))
  have H4 := Lib.hid h4
  have HNN := Lib.hid hn
  have HQ := Lib.hid (And.intro hA (And.intro hq hnt))
  have HR := Lib.hid hR
  have HBT := Lib.hid (And.intro hL (And.intro hD ht))
  have HNX := Lib.hid hnx
  clear h4 hA hq hnt hi hp hk hL hD hB hR ht hg hcur hnm hhd hn hnx
  go_enter Try.func21, Try.ntmps21
  go_wp2_with fail
  refine WT.out.mono ?_
  intro e w3 hNN
  obtain ⟨vT, he, hN3, hT3⟩ : ∃ vT, e = .returned (.int .i64 0) ∧ Hid (Nm w3 q y (x ++ [b]) vT) ∧ Hid (Tk q w w3) := by
    rcases hNN with ⟨y2, vT, hy2, h1, h2, h3⟩ | ⟨hn, _⟩
    · obtain rfl := Option.some.inj (hy2.symm.trans HNX.out)
      exact ⟨vT, h1, h2, h3⟩
    · exact absurd (hn.symm.trans HNX.out) (by simp)
  subst he
  clear hNN
  have hl : q < w.heap.size := HQ.out.1.lt
  have hJ3 := H4.out.take hT3.out HQ.out.2.1 hl HQ.out.2.2 ⟨_, _, HQ.out.1.at0⟩ (hd' := .num y (x ++ [b])) ⟨q, vT, rfl, hN3.out, HQ.out.2.1, notT_tk hT3.out hl HQ.out.2.2⟩
  have HF3 : Hid (FmS w3 g β L ro { s with hand := .num y (x ++ [b]) } k) := ⟨B, _, _, _, _, hJ3, HNN.out⟩
  have HB3 : Hid (Bx g β w w3) := Bx.tk hT3.out HQ.out.2.1
  have HR2 : Hid (R = .go { s with hand := .num y (x ++ [b]) }) := by show R = _; rw [← HR.out, St.act, HX.out.1]; dsimp only; rw [HNX.out]
  clear hJ3 hl
  go_wp2_with fail
  first | go_end0 | refine bodyPost_ret (results_none rfl _ _ _) rfl ?_
  exact RO.go HR2 ⟨rfl, HF3, HB3⟩
set_option maxRecDepth 100000 in
set_option maxHeartbeats 3200000 in
theorem ftake_num_bad (h : FmS w g β L ro s k) (p : Nat) (hi : Inv L s p) (hp : k = p + 1) (hk : k ≤ 262144) (hL : L.items ≤ 4096) (hD : L.depth ≤ 32) (b : UInt8) (t : Nat) (ht : b.toNat = t) (wv : Nat) (x : List UInt8) (hh : s.hand = .num wv x) (hnx : nextN wv b = none) (hw : wholeN wv = false) :
    Calls Try.prog 21 #[.pointer (some ⟨g, 0, none⟩), .int .u8 (t : Int)] w (RO (s.act L b p) s.G.length g β L ro k w) := by
  have hg := h.facts
  have hgb := hg.1
  have hgs := hg.2.1
  have hB := bd_of hi (by omega) hL hD
  obtain ⟨R, hR⟩ : ∃ R, s.act L b p = R := ⟨_, rfl⟩
  rw [hR]
  have hcur := hi.cur (by rw [hh]; simp)
  have hnm : s.named = none := by
    rcases hi.nx1 (by rw [hh]; simp) with h1 | ⟨a, _, _, ⟨x, hx⟩, _⟩
    · exact h1.1
    · rw [hh] at hx; cases hx
  have hhd := hi.hand
  rw [hh] at hhd
  obtain ⟨B, vV, vS, vH, a, h4, hn⟩ := h
  have hH := h4.hand
  rw [hh] at hH
  obtain ⟨q, vT, rfl, hA, hq, hnt⟩ := hH
  have c8 := h4.at0.cell 8 _ rfl
  have WT := Lib.hid (ntake_any q wv x vT b w hhd.1 (by have := hhd.2; omega) hA)
  rw [ht] at WT
  have Q := num_ne
  have QM := num_m
  have HX := Lib.hid (And.intro hh (And.intro hp (And.intro hk (And.intro hcur (And.intro hnm (And.intro hB hi))))))
  have H4 := Lib.hid h4
  have HNN := Lib.hid hn
  have HQ := Lib.hid (And.intro hA (And.intro hq hnt))
  have HR := Lib.hid hR
  have HBT := Lib.hid (And.intro hL (And.intro hD ht))
  have HNX := Lib.hid (And.intro hnx hw)
  have WR := Lib.hid (fwrong_any w g β L ro s k ⟨B, _, _, _, _, h4, hn⟩ p hp hk)
  clear h4 hA hq hnt hi hp hk hL hD hB hR ht hg hcur hnm hhd hn hnx hw
  go_enter Try.func21, Try.ntmps21
  go_wp2_with fail
  refine WT.out.mono ?_
  intro e w3 hNN
  obtain ⟨he, hw3⟩ : e = .returned (.int .i64 3) ∧ w = w3 := by
    rcases hNN with ⟨y2, vT, hy2, h1, h2, h3⟩ | ⟨hn, h1, h2⟩
    · exact absurd (hy2.symm.trans HNX.out.1) (by simp)
    · rw [HNX.out.2] at h1; exact ⟨h1, h2⟩
  subst he hw3
  clear hNN
  have HR2 : Hid (R = .fl 9 p) := by show R = _; rw [← HR.out, St.act, HX.out.1]; dsimp only; rw [HNX.out.1]; dsimp only; rw [HNX.out.2]; rfl
  go_wp2_with fail
  refine WR.out.mono ?_
  rintro e w4 ⟨rfl, hF4, hB4⟩
  go_wp2_with fail
  first | go_end0 | refine bodyPost_ret (results_none rfl _ _ _) rfl ?_
  exact RO.fl HR2 ⟨rfl, hF4, hB4⟩
set_option maxRecDepth 100000 in
set_option maxHeartbeats 3200000 in
theorem ftake_over_b32 (h : FmS w g β L ro s k) (p : Nat) (hi : Inv L s p) (hp : k = p + 1) (hk : k ≤ 262144) (hL : L.items ≤ 4096) (hD : L.depth ≤ 32) (b : UInt8) (t : Nat) (ht : b.toNat = t) (wv : Nat) (x : List UInt8) (hh : s.hand = .num wv x) (hnx : nextN wv b = none) (hw : wholeN wv = true) (hc : t = 32) :
    Calls Try.prog 21 #[.pointer (some ⟨g, 0, none⟩), .int .u8 (t : Int)] w (RO (s.act L b p) s.G.length g β L ro k w) := by
  have hg := h.facts
  have hgb := hg.1
  have hgs := hg.2.1
  have hB := bd_of hi (by omega) hL hD
  obtain ⟨R, hR⟩ : ∃ R, s.act L b p = R := ⟨_, rfl⟩
  rw [hR]
  have hcur := hi.cur (by rw [hh]; simp)
  have hnm : s.named = none := by
    rcases hi.nx1 (by rw [hh]; simp) with h1 | ⟨a, _, _, ⟨x, hx⟩, _⟩
    · exact h1.1
    · rw [hh] at hx; cases hx
  have hhd := hi.hand
  rw [hh] at hhd
  obtain ⟨B, vV, vS, vH, a, h4, hn⟩ := h
  have hH := h4.hand
  rw [hh] at hH
  obtain ⟨q, vT, rfl, hA, hq, hnt⟩ := hH
  have c8 := h4.at0.cell 8 _ rfl
  have WT := Lib.hid (ntake_any q wv x vT b w hhd.1 (by have := hhd.2; omega) hA)
  rw [ht] at WT
  have Q := num_ne
  have QM := num_m
  have HX := Lib.hid (And.intro hh (And.intro hp (And.intro hk (And.intro hcur (And.intro hnm (And.intro hB hi))))))
  have H4 := Lib.hid h4
  have HNN := Lib.hid hn
  have HQ := Lib.hid (And.intro hA (And.intro hq hnt))
  have HR := Lib.hid hR
  have HBT := Lib.hid (And.intro hL (And.intro hD ht))
  have HNX := Lib.hid (And.intro hnx hw)
  have hsz1 : s.size ≤ 1000000 := by have := hi.size; omega
  have EN := Lib.hid (fend_num w g β L ro s k ⟨B, _, _, _, _, h4, hn⟩ hcur hsz1 hB.hl wv x hh hnm)
  have m32 : ((t : Int) != 32) = false := by rw [bne_eq_false_iff_eq]; omega
  have HBL : Hid (Js.blank b = true) := by show _ = _; rw [blank_t b t ht]; exact decide_eq_true (by omega)
  clear h4 hA hq hnt hi hp hk hL hD hB hR ht hg hcur hnm hhd hn hnx hw hsz1 hc
  go_enter Try.func21, Try.ntmps21
  go_wp2_with fail
  refine WT.out.mono ?_
  intro e w3 hNN
  obtain ⟨he, hw3⟩ : e = .returned (.int .i64 2) ∧ w = w3 := by
    rcases hNN with ⟨y2, vT, hy2, h1, h2, h3⟩ | ⟨hn, h1, h2⟩
    · exact absurd (hy2.symm.trans HNX.out.1) (by simp)
    · rw [HNX.out.2] at h1; exact ⟨h1, h2⟩
  subst he hw3
  clear hNN
  have HR1 : Hid (R = (s.endNum x).between L b p) := by show R = _; rw [← HR.out, St.act, HX.out.1]; dsimp only; rw [HNX.out.1]; dsimp only; rw [HNX.out.2]; rfl
  go_wp2_with fail
  refine EN.out.mono ?_
  rintro e w4 ⟨rfl, hF4, hB4⟩
  have HR2 : Hid (R = .go (s.endNum x)) := by show R = _; rw [HR1.out, St.between, if_pos HBL.out]
  go_wp2_with fail
  first | go_end0 | refine bodyPost_ret (results_none rfl _ _ _) rfl ?_
  exact RO.go HR2 ⟨rfl, hF4, hB4⟩
set_option maxRecDepth 100000 in
set_option maxHeartbeats 3200000 in
theorem ftake_over_b9 (h : FmS w g β L ro s k) (p : Nat) (hi : Inv L s p) (hp : k = p + 1) (hk : k ≤ 262144) (hL : L.items ≤ 4096) (hD : L.depth ≤ 32) (b : UInt8) (t : Nat) (ht : b.toNat = t) (wv : Nat) (x : List UInt8) (hh : s.hand = .num wv x) (hnx : nextN wv b = none) (hw : wholeN wv = true) (hc : t = 9) :
    Calls Try.prog 21 #[.pointer (some ⟨g, 0, none⟩), .int .u8 (t : Int)] w (RO (s.act L b p) s.G.length g β L ro k w) := by
  have hg := h.facts
  have hgb := hg.1
  have hgs := hg.2.1
  have hB := bd_of hi (by omega) hL hD
  obtain ⟨R, hR⟩ : ∃ R, s.act L b p = R := ⟨_, rfl⟩
  rw [hR]
  have hcur := hi.cur (by rw [hh]; simp)
  have hnm : s.named = none := by
    rcases hi.nx1 (by rw [hh]; simp) with h1 | ⟨a, _, _, ⟨x, hx⟩, _⟩
    · exact h1.1
    · rw [hh] at hx; cases hx
  have hhd := hi.hand
  rw [hh] at hhd
  obtain ⟨B, vV, vS, vH, a, h4, hn⟩ := h
  have hH := h4.hand
  rw [hh] at hH
  obtain ⟨q, vT, rfl, hA, hq, hnt⟩ := hH
  have c8 := h4.at0.cell 8 _ rfl
  have WT := Lib.hid (ntake_any q wv x vT b w hhd.1 (by have := hhd.2; omega) hA)
  rw [ht] at WT
  have Q := num_ne
  have QM := num_m
  have HX := Lib.hid (And.intro hh (And.intro hp (And.intro hk (And.intro hcur (And.intro hnm (And.intro hB hi))))))
  have H4 := Lib.hid h4
  have HNN := Lib.hid hn
  have HQ := Lib.hid (And.intro hA (And.intro hq hnt))
  have HR := Lib.hid hR
  have HBT := Lib.hid (And.intro hL (And.intro hD ht))
  have HNX := Lib.hid (And.intro hnx hw)
  have hsz1 : s.size ≤ 1000000 := by have := hi.size; omega
  have EN := Lib.hid (fend_num w g β L ro s k ⟨B, _, _, _, _, h4, hn⟩ hcur hsz1 hB.hl wv x hh hnm)
  have m32 : ((t : Int) != 32) = true := by rw [bne_iff_ne]; omega
  have m9 : ((t : Int) != 9) = false := by rw [bne_eq_false_iff_eq]; omega
  have HBL : Hid (Js.blank b = true) := by show _ = _; rw [blank_t b t ht]; exact decide_eq_true (by omega)
  clear h4 hA hq hnt hi hp hk hL hD hB hR ht hg hcur hnm hhd hn hnx hw hsz1 hc
  go_enter Try.func21, Try.ntmps21
  go_wp2_with fail
  refine WT.out.mono ?_
  intro e w3 hNN
  obtain ⟨he, hw3⟩ : e = .returned (.int .i64 2) ∧ w = w3 := by
    rcases hNN with ⟨y2, vT, hy2, h1, h2, h3⟩ | ⟨hn, h1, h2⟩
    · exact absurd (hy2.symm.trans HNX.out.1) (by simp)
    · rw [HNX.out.2] at h1; exact ⟨h1, h2⟩
  subst he hw3
  clear hNN
  have HR1 : Hid (R = (s.endNum x).between L b p) := by show R = _; rw [← HR.out, St.act, HX.out.1]; dsimp only; rw [HNX.out.1]; dsimp only; rw [HNX.out.2]; rfl
  go_wp2_with fail
  refine EN.out.mono ?_
  rintro e w4 ⟨rfl, hF4, hB4⟩
  have HR2 : Hid (R = .go (s.endNum x)) := by show R = _; rw [HR1.out, St.between, if_pos HBL.out]
  go_wp2_with fail
  first | go_end0 | refine bodyPost_ret (results_none rfl _ _ _) rfl ?_
  exact RO.go HR2 ⟨rfl, hF4, hB4⟩
set_option maxRecDepth 100000 in
set_option maxHeartbeats 3200000 in
theorem ftake_over_b10 (h : FmS w g β L ro s k) (p : Nat) (hi : Inv L s p) (hp : k = p + 1) (hk : k ≤ 262144) (hL : L.items ≤ 4096) (hD : L.depth ≤ 32) (b : UInt8) (t : Nat) (ht : b.toNat = t) (wv : Nat) (x : List UInt8) (hh : s.hand = .num wv x) (hnx : nextN wv b = none) (hw : wholeN wv = true) (hc : t = 10) :
    Calls Try.prog 21 #[.pointer (some ⟨g, 0, none⟩), .int .u8 (t : Int)] w (RO (s.act L b p) s.G.length g β L ro k w) := by
  have hg := h.facts
  have hgb := hg.1
  have hgs := hg.2.1
  have hB := bd_of hi (by omega) hL hD
  obtain ⟨R, hR⟩ : ∃ R, s.act L b p = R := ⟨_, rfl⟩
  rw [hR]
  have hcur := hi.cur (by rw [hh]; simp)
  have hnm : s.named = none := by
    rcases hi.nx1 (by rw [hh]; simp) with h1 | ⟨a, _, _, ⟨x, hx⟩, _⟩
    · exact h1.1
    · rw [hh] at hx; cases hx
  have hhd := hi.hand
  rw [hh] at hhd
  obtain ⟨B, vV, vS, vH, a, h4, hn⟩ := h
  have hH := h4.hand
  rw [hh] at hH
  obtain ⟨q, vT, rfl, hA, hq, hnt⟩ := hH
  have c8 := h4.at0.cell 8 _ rfl
  have WT := Lib.hid (ntake_any q wv x vT b w hhd.1 (by have := hhd.2; omega) hA)
  rw [ht] at WT
  have Q := num_ne
  have QM := num_m
  have HX := Lib.hid (And.intro hh (And.intro hp (And.intro hk (And.intro hcur (And.intro hnm (And.intro hB hi))))))
  have H4 := Lib.hid h4
  have HNN := Lib.hid hn
  have HQ := Lib.hid (And.intro hA (And.intro hq hnt))
  have HR := Lib.hid hR
  have HBT := Lib.hid (And.intro hL (And.intro hD ht))
  have HNX := Lib.hid (And.intro hnx hw)
  have hsz1 : s.size ≤ 1000000 := by have := hi.size; omega
  have EN := Lib.hid (fend_num w g β L ro s k ⟨B, _, _, _, _, h4, hn⟩ hcur hsz1 hB.hl wv x hh hnm)
  have m32 : ((t : Int) != 32) = true := by rw [bne_iff_ne]; omega
  have m9 : ((t : Int) != 9) = true := by rw [bne_iff_ne]; omega
  have m10 : ((t : Int) != 10) = false := by rw [bne_eq_false_iff_eq]; omega
  have HBL : Hid (Js.blank b = true) := by show _ = _; rw [blank_t b t ht]; exact decide_eq_true (by omega)
  clear h4 hA hq hnt hi hp hk hL hD hB hR ht hg hcur hnm hhd hn hnx hw hsz1 hc
  go_enter Try.func21, Try.ntmps21
  go_wp2_with fail
  refine WT.out.mono ?_
  intro e w3 hNN
  obtain ⟨he, hw3⟩ : e = .returned (.int .i64 2) ∧ w = w3 := by
    rcases hNN with ⟨y2, vT, hy2, h1, h2, h3⟩ | ⟨hn, h1, h2⟩
    · exact absurd (hy2.symm.trans HNX.out.1) (by simp)
    · rw [HNX.out.2] at h1; exact ⟨h1, h2⟩
  subst he hw3
  clear hNN
  have HR1 : Hid (R = (s.endNum x).between L b p) := by show R = _; rw [← HR.out, St.act, HX.out.1]; dsimp only; rw [HNX.out.1]; dsimp only; rw [HNX.out.2]; rfl
  go_wp2_with fail
  refine EN.out.mono ?_
  rintro e w4 ⟨rfl, hF4, hB4⟩
  have HR2 : Hid (R = .go (s.endNum x)) := by show R = _; rw [HR1.out, St.between, if_pos HBL.out]
  go_wp2_with fail
  first | go_end0 | refine bodyPost_ret (results_none rfl _ _ _) rfl ?_
  exact RO.go HR2 ⟨rfl, hF4, hB4⟩
set_option maxRecDepth 100000 in
set_option maxHeartbeats 3200000 in
theorem ftake_over_b13 (h : FmS w g β L ro s k) (p : Nat) (hi : Inv L s p) (hp : k = p + 1) (hk : k ≤ 262144) (hL : L.items ≤ 4096) (hD : L.depth ≤ 32) (b : UInt8) (t : Nat) (ht : b.toNat = t) (wv : Nat) (x : List UInt8) (hh : s.hand = .num wv x) (hnx : nextN wv b = none) (hw : wholeN wv = true) (hc : t = 13) :
    Calls Try.prog 21 #[.pointer (some ⟨g, 0, none⟩), .int .u8 (t : Int)] w (RO (s.act L b p) s.G.length g β L ro k w) := by
  have hg := h.facts
  have hgb := hg.1
  have hgs := hg.2.1
  have hB := bd_of hi (by omega) hL hD
  obtain ⟨R, hR⟩ : ∃ R, s.act L b p = R := ⟨_, rfl⟩
  rw [hR]
  have hcur := hi.cur (by rw [hh]; simp)
  have hnm : s.named = none := by
    rcases hi.nx1 (by rw [hh]; simp) with h1 | ⟨a, _, _, ⟨x, hx⟩, _⟩
    · exact h1.1
    · rw [hh] at hx; cases hx
  have hhd := hi.hand
  rw [hh] at hhd
  obtain ⟨B, vV, vS, vH, a, h4, hn⟩ := h
  have hH := h4.hand
  rw [hh] at hH
  obtain ⟨q, vT, rfl, hA, hq, hnt⟩ := hH
  have c8 := h4.at0.cell 8 _ rfl
  have WT := Lib.hid (ntake_any q wv x vT b w hhd.1 (by have := hhd.2; omega) hA)
  rw [ht] at WT
  have Q := num_ne
  have QM := num_m
  have HX := Lib.hid (And.intro hh (And.intro hp (And.intro hk (And.intro hcur (And.intro hnm (And.intro hB hi))))))
  have H4 := Lib.hid h4
  have HNN := Lib.hid hn
  have HQ := Lib.hid (And.intro hA (And.intro hq hnt))
  have HR := Lib.hid hR
  have HBT := Lib.hid (And.intro hL (And.intro hD ht))
  have HNX := Lib.hid (And.intro hnx hw)
  have hsz1 : s.size ≤ 1000000 := by have := hi.size; omega
  have EN := Lib.hid (fend_num w g β L ro s k ⟨B, _, _, _, _, h4, hn⟩ hcur hsz1 hB.hl wv x hh hnm)
  have m32 : ((t : Int) != 32) = true := by rw [bne_iff_ne]; omega
  have m9 : ((t : Int) != 9) = true := by rw [bne_iff_ne]; omega
  have m10 : ((t : Int) != 10) = true := by rw [bne_iff_ne]; omega
  have m13 : ((t : Int) != 13) = false := by rw [bne_eq_false_iff_eq]; omega
  have HBL : Hid (Js.blank b = true) := by show _ = _; rw [blank_t b t ht]; exact decide_eq_true (by omega)
  clear h4 hA hq hnt hi hp hk hL hD hB hR ht hg hcur hnm hhd hn hnx hw hsz1 hc
  go_enter Try.func21, Try.ntmps21
  go_wp2_with fail
  refine WT.out.mono ?_
  intro e w3 hNN
  obtain ⟨he, hw3⟩ : e = .returned (.int .i64 2) ∧ w = w3 := by
    rcases hNN with ⟨y2, vT, hy2, h1, h2, h3⟩ | ⟨hn, h1, h2⟩
    · exact absurd (hy2.symm.trans HNX.out.1) (by simp)
    · rw [HNX.out.2] at h1; exact ⟨h1, h2⟩
  subst he hw3
  clear hNN
  have HR1 : Hid (R = (s.endNum x).between L b p) := by show R = _; rw [← HR.out, St.act, HX.out.1]; dsimp only; rw [HNX.out.1]; dsimp only; rw [HNX.out.2]; rfl
  go_wp2_with fail
  refine EN.out.mono ?_
  rintro e w4 ⟨rfl, hF4, hB4⟩
  have HR2 : Hid (R = .go (s.endNum x)) := by show R = _; rw [HR1.out, St.between, if_pos HBL.out]
  go_wp2_with fail
  first | go_end0 | refine bodyPost_ret (results_none rfl _ _ _) rfl ?_
  exact RO.go HR2 ⟨rfl, hF4, hB4⟩
set_option maxRecDepth 100000 in
set_option maxHeartbeats 3200000 in
theorem ftake_over_o (h : FmS w g β L ro s k) (p : Nat) (hi : Inv L s p) (hp : k = p + 1) (hk : k ≤ 262144) (hL : L.items ≤ 4096) (hD : L.depth ≤ 32) (b : UInt8) (t : Nat) (ht : b.toNat = t) (wv : Nat) (x : List UInt8) (hh : s.hand = .num wv x) (hnx : nextN wv b = none) (hw : wholeN wv = true) (hc : ¬ (t = 32 ∨ t = 9 ∨ t = 10 ∨ t = 13)) :
    Calls Try.prog 21 #[.pointer (some ⟨g, 0, none⟩), .int .u8 (t : Int)] w (RO (s.act L b p) s.G.length g β L ro k w) := by
  have hg := h.facts
  have hgb := hg.1
  have hgs := hg.2.1
  have hB := bd_of hi (by omega) hL hD
  obtain ⟨R, hR⟩ : ∃ R, s.act L b p = R := ⟨_, rfl⟩
  rw [hR]
  have hcur := hi.cur (by rw [hh]; simp)
  have hnm : s.named = none := by
    rcases hi.nx1 (by rw [hh]; simp) with h1 | ⟨a, _, _, ⟨x, hx⟩, _⟩
    · exact h1.1
    · rw [hh] at hx; cases hx
  have hhd := hi.hand
  rw [hh] at hhd
  obtain ⟨B, vV, vS, vH, a, h4, hn⟩ := h
  have hH := h4.hand
  rw [hh] at hH
  obtain ⟨q, vT, rfl, hA, hq, hnt⟩ := hH
  have c8 := h4.at0.cell 8 _ rfl
  have WT := Lib.hid (ntake_any q wv x vT b w hhd.1 (by have := hhd.2; omega) hA)
  rw [ht] at WT
  have Q := num_ne
  have QM := num_m
  have HX := Lib.hid (And.intro hh (And.intro hp (And.intro hk (And.intro hcur (And.intro hnm (And.intro hB hi))))))
  have H4 := Lib.hid h4
  have HNN := Lib.hid hn
  have HQ := Lib.hid (And.intro hA (And.intro hq hnt))
  have HR := Lib.hid hR
  have HBT := Lib.hid (And.intro hL (And.intro hD ht))
  have HNX := Lib.hid (And.intro hnx hw)
  have hsz1 : s.size ≤ 1000000 := by have := hi.size; omega
  have EN := Lib.hid (fend_num w g β L ro s k ⟨B, _, _, _, _, h4, hn⟩ hcur hsz1 hB.hl wv x hh hnm)
  have m32 : ((t : Int) != 32) = true := by rw [bne_iff_ne]; omega
  have m9 : ((t : Int) != 9) = true := by rw [bne_iff_ne]; omega
  have m10 : ((t : Int) != 10) = true := by rw [bne_iff_ne]; omega
  have m13 : ((t : Int) != 13) = true := by rw [bne_iff_ne]; omega
  have HBL : Hid (Js.blank b = false) := by show _ = _; rw [blank_t b t ht]; exact decide_eq_false hc
  clear h4 hA hq hnt hi hp hk hL hD hB hR ht hg hcur hnm hhd hn hnx hw hsz1 hc
  go_enter Try.func21, Try.ntmps21
  go_wp2_with fail
  refine WT.out.mono ?_
  intro e w3 hNN
  obtain ⟨he, hw3⟩ : e = .returned (.int .i64 2) ∧ w = w3 := by
    rcases hNN with ⟨y2, vT, hy2, h1, h2, h3⟩ | ⟨hn, h1, h2⟩
    · exact absurd (hy2.symm.trans HNX.out.1) (by simp)
    · rw [HNX.out.2] at h1; exact ⟨h1, h2⟩
  subst he hw3
  clear hNN
  have HR1 : Hid (R = (s.endNum x).between L b p) := by show R = _; rw [← HR.out, St.act, HX.out.1]; dsimp only; rw [HNX.out.1]; dsimp only; rw [HNX.out.2]; rfl
  go_wp2_with fail
  refine EN.out.mono ?_
  rintro e w4 ⟨rfl, hF4, hB4⟩
  have hi2 := HX.out.2.2.2.2.2.2.endNum HX.out.1
  have CT := Lib.hid (fstep_any w4 g β L ro (s.endNum x) k hF4.out rfl (hi2.nx0 rfl).1 p HX.out.2.1 HX.out.2.2.1 (bd_of hi2 (by have := HX.out.2.1; have := HX.out.2.2.1; omega) HBT.out.1 HBT.out.2.1) b t HBT.out.2.2)
  rw [show (s.endNum x).step L b p = R by rw [HR1.out, St.between, if_neg (by rw [HBL.out]; decide)]] at CT
  clear hi2
  go_wp2_with fail
  refine CT.out.mono ?_
  rintro e w5 ⟨rfl, hB5, hF5⟩
  go_wp2_with fail
  first | go_end0 | refine bodyPost_ret (results_none rfl _ _ _) rfl ?_
  exact ⟨rfl, hB4.out.trans hB5.out, hF5⟩
set_option maxRecDepth 100000 in
set_option maxHeartbeats 3200000 in
theorem ftake_str_more (h : FmS w g β L ro s k) (p : Nat) (hi : Inv L s p) (hp : k = p + 1) (hk : k ≤ 262144) (hL : L.items ≤ 4096) (hD : L.depth ≤ 32) (b : UInt8) (t : Nat) (ht : b.toNat = t) (x y : Ss) (hh : s.hand = .str x) (hx : x.take b = .more y) :
    Calls Try.prog 21 #[.pointer (some ⟨g, 0, none⟩), .int .u8 (t : Int)] w (RO (s.act L b p) s.G.length g β L ro k w) := by
  have hg := h.facts
  have hgb := hg.1
  have hgs := hg.2.1
  have hB := bd_of hi (by omega) hL hD
  obtain ⟨R, hR⟩ : ∃ R, s.act L b p = R := ⟨_, rfl⟩
  rw [hR]
  have hcur := hi.cur (by rw [hh]; simp)
  have hhd := hi.hand
  rw [hh] at hhd
  obtain ⟨B, vV, vS, vH, a, h4, hn⟩ := h
  have hH := h4.hand
  rw [hh] at hH
  obtain ⟨q, rfl, hA, hq, hnt⟩ := hH
  have c8 := h4.at0.cell 8 _ rfl
  have WT := Lib.hid (take_any q x b w (by have := hhd.2; omega) hA hhd.1)
  rw [ht] at WT
  have Q := str_ne
  have QM := str_m
  have HX := Lib.hid (And.intro hh (And.intro hp (And.intro hk (And.intro hcur (And.intro hhd (And.intro hB hi))))))
  have H4 := Lib.hid h4
  have HNN := Lib.hid hn
  have HQ := Lib.hid (And.intro (show q < w.heap.size from by obtain ⟨_, _, _, _, _, _, _, hx, _⟩ := hA; exact hx.lt) (And.intro hq (And.intro hnt (show ∃ c cs, At w q 0 (c :: cs) from by obtain ⟨_, _, _, _, _, _, _, hx, _⟩ := hA; exact ⟨_, _, hx.at0⟩))))
  have HR := Lib.hid hR
  have HLD := Lib.hid hL
  rw [hx] at WT
  have HTX := Lib.hid hx
  clear h4 hA hq hnt hi hp hk hL hD hB hR ht hg hcur hhd hn hx
  go_enter Try.func21, Try.ntmps21
  go_wp2_with fail
  refine WT.out.mono ?_
  rintro e w3 ⟨rfl, hS3, hT3⟩
  have hJ3 := H4.out.take hT3.out HQ.out.2.1 HQ.out.1 HQ.out.2.2.1 HQ.out.2.2.2 (hd' := .str y) ⟨q, rfl, hS3.out, HQ.out.2.1, notT_tk hT3.out HQ.out.1 HQ.out.2.2.1⟩
  have HF3 : Hid (FmS w3 g β L ro { s with hand := .str y } k) := ⟨B, _, _, _, _, hJ3, HNN.out⟩
  have HB3 : Hid (Bx g β w w3) := Bx.tk hT3.out HQ.out.2.1
  have HR2 : Hid (R = .go { s with hand := .str y }) := by show R = _; rw [← HR.out, St.act, HX.out.1]; dsimp only; rw [HTX.out]
  clear hJ3
  go_wp2_with fail
  first | go_end0 | refine bodyPost_ret (results_none rfl _ _ _) rfl ?_
  exact RO.go HR2 ⟨rfl, HF3, HB3⟩
set_option maxRecDepth 100000 in
set_option maxHeartbeats 3200000 in
theorem ftake_str_bad (h : FmS w g β L ro s k) (p : Nat) (hi : Inv L s p) (hp : k = p + 1) (hk : k ≤ 262144) (hL : L.items ≤ 4096) (hD : L.depth ≤ 32) (b : UInt8) (t : Nat) (ht : b.toNat = t) (x : Ss) (hh : s.hand = .str x) (hx : x.take b = .bad) :
    Calls Try.prog 21 #[.pointer (some ⟨g, 0, none⟩), .int .u8 (t : Int)] w (RO (s.act L b p) s.G.length g β L ro k w) := by
  have hg := h.facts
  have hgb := hg.1
  have hgs := hg.2.1
  have hB := bd_of hi (by omega) hL hD
  obtain ⟨R, hR⟩ : ∃ R, s.act L b p = R := ⟨_, rfl⟩
  rw [hR]
  have hcur := hi.cur (by rw [hh]; simp)
  have hhd := hi.hand
  rw [hh] at hhd
  obtain ⟨B, vV, vS, vH, a, h4, hn⟩ := h
  have hH := h4.hand
  rw [hh] at hH
  obtain ⟨q, rfl, hA, hq, hnt⟩ := hH
  have c8 := h4.at0.cell 8 _ rfl
  have WT := Lib.hid (take_any q x b w (by have := hhd.2; omega) hA hhd.1)
  rw [ht] at WT
  have Q := str_ne
  have QM := str_m
  have HX := Lib.hid (And.intro hh (And.intro hp (And.intro hk (And.intro hcur (And.intro hhd (And.intro hB hi))))))
  have H4 := Lib.hid h4
  have HNN := Lib.hid hn
  have HQ := Lib.hid (And.intro (show q < w.heap.size from by obtain ⟨_, _, _, _, _, _, _, hx, _⟩ := hA; exact hx.lt) (And.intro hq (And.intro hnt (show ∃ c cs, At w q 0 (c :: cs) from by obtain ⟨_, _, _, _, _, _, _, hx, _⟩ := hA; exact ⟨_, _, hx.at0⟩))))
  have HR := Lib.hid hR
  have HLD := Lib.hid hL
  rw [hx] at WT
  have HTX := Lib.hid hx
  clear h4 hA hq hnt hi hp hk hL hD hB hR ht hg hcur hhd hn hx
  go_enter Try.func21, Try.ntmps21
  go_wp2_with fail
  refine WT.out.mono ?_
  rintro e w3 ⟨rfl, hT3⟩
  have HW3 : WkM w3 g β L ro s.G.length k := by
    obtain ⟨aS, cS, hvS, -⟩ := own_form H4.out.stack
    have h1 := H4.out.at0.below hT3.out.below (by have := HQ.out.2.1; omega)
    rw [hvS] at h1
    exact ⟨_, _, _, _, _, _, _, h1, hgb, Nat.le_trans H4.out.bs hT3.out.size⟩
  have WR := Lib.hid (fwrong_w w3 g β L ro s.G.length k HW3 p HX.out.2.1 HX.out.2.2.1)
  have HB3 : Hid (Bx g β w w3) := Bx.tk hT3.out HQ.out.2.1
  have HR2 : Hid (R = .fl 9 p) := by show R = _; rw [← HR.out, St.act, HX.out.1]; dsimp only; rw [HTX.out]
  clear HW3
  go_wp2_with fail
  refine WR.out.mono ?_
  rintro e w4 ⟨rfl, hF4, hB4⟩
  go_wp2_with fail
  first | go_end0 | refine bodyPost_ret (results_none rfl _ _ _) rfl ?_
  exact RO.fl HR2 ⟨rfl, hF4, HB3.out.trans hB4.out⟩
set_option maxRecDepth 100000 in
set_option maxHeartbeats 3200000 in
theorem ftake_str_done (h : FmS w g β L ro s k) (p : Nat) (hi : Inv L s p) (hp : k = p + 1) (hk : k ≤ 262144) (hL : L.items ≤ 4096) (hD : L.depth ≤ 32) (b : UInt8) (t : Nat) (ht : b.toNat = t) (x : Ss) (hh : s.hand = .str x) (hx : x.take b = .done) (hnm : s.named = none) :
    Calls Try.prog 21 #[.pointer (some ⟨g, 0, none⟩), .int .u8 (t : Int)] w (RO (s.act L b p) s.G.length g β L ro k w) := by
  have hg := h.facts
  have hgb := hg.1
  have hgs := hg.2.1
  have hB := bd_of hi (by omega) hL hD
  obtain ⟨R, hR⟩ : ∃ R, s.act L b p = R := ⟨_, rfl⟩
  rw [hR]
  have hcur := hi.cur (by rw [hh]; simp)
  have hhd := hi.hand
  rw [hh] at hhd
  obtain ⟨B, vV, vS, vH, a, h4, hn⟩ := h
  have hH := h4.hand
  rw [hh] at hH
  obtain ⟨q, rfl, hA, hq, hnt⟩ := hH
  have c8 := h4.at0.cell 8 _ rfl
  have WT := Lib.hid (take_any q x b w (by have := hhd.2; omega) hA hhd.1)
  rw [ht] at WT
  have Q := str_ne
  have QM := str_m
  have HX := Lib.hid (And.intro hh (And.intro hp (And.intro hk (And.intro hcur (And.intro hhd (And.intro hB hi))))))
  have H4 := Lib.hid h4
  have HNN := Lib.hid hn
  have HQ := Lib.hid (And.intro (show q < w.heap.size from by obtain ⟨_, _, _, _, _, _, _, hx, _⟩ := hA; exact hx.lt) (And.intro hq (And.intro hnt (show ∃ c cs, At w q 0 (c :: cs) from by obtain ⟨_, _, _, _, _, _, _, hx, _⟩ := hA; exact ⟨_, _, hx.at0⟩))))
  have HR := Lib.hid hR
  have HLD := Lib.hid hL
  rw [hx] at WT
  have HTX := Lib.hid hx
  clear h4 hA hq hnt hi hp hk hL hD hB hR ht hg hcur hhd hn hx
  have HNM := Lib.hid hnm
  clear hnm
  go_enter Try.func21, Try.ntmps21
  go_wp2_with fail
  refine WT.out.mono ?_
  rintro e w3 ⟨rfl, hS3, hT3⟩
  have hJ3 := H4.out.take hT3.out HQ.out.2.1 HQ.out.1 HQ.out.2.2.1 HQ.out.2.2.2 (hd' := .str x) ⟨q, rfl, hS3.out, HQ.out.2.1, notT_tk hT3.out HQ.out.1 HQ.out.2.2.1⟩
  have HF3 : Hid (FmS w3 g β L ro s k) := ⟨B, _, _, _, _, by rw [HX.out.1] ; exact hJ3, HNN.out⟩
  have HB3 : Hid (Bx g β w w3) := Bx.tk hT3.out HQ.out.2.1
  have HR1 : Hid (R = s.endStr x.t) := by show R = _; rw [← HR.out, St.act, HX.out.1]; dsimp only; rw [HTX.out]
  clear hJ3
  have EN := Lib.hid (fend_str w3 g β L ro s k HF3.out HX.out.2.2.2.1 (by have := HX.out.2.2.2.2.2.2.size; have := HLD.out; omega) HX.out.2.2.2.2.2.1.hl x.t x.m HX.out.1 HNM.out)
  have HR2 : Hid (R = .go ({ s with cur := withText x.t s.cur } : St).ended) := by show R = _; rw [HR1.out, St.endStr, HNM.out]
  go_wp2_with fail
  refine EN.out.mono ?_
  rintro e w4 ⟨rfl, hF4, hB4⟩
  go_wp2_with fail
  first | go_end0 | refine bodyPost_ret (results_none rfl _ _ _) rfl ?_
  exact RO.go HR2 ⟨rfl, hF4, HB3.out.trans hB4.out⟩
set_option maxRecDepth 100000 in
set_option maxHeartbeats 3200000 in
theorem ftake_str_named (h : FmS w g β L ro s k) (p : Nat) (hi : Inv L s p) (hp : k = p + 1) (hk : k ≤ 262144) (hL : L.items ≤ 4096) (hD : L.depth ≤ 32) (b : UInt8) (t : Nat) (ht : b.toNat = t) (x : Ss) (hh : s.hand = .str x) (hx : x.take b = .done) (qn : Nat) (hnm : s.named = some qn) :
    Calls Try.prog 21 #[.pointer (some ⟨g, 0, none⟩), .int .u8 (t : Int)] w (RO (s.act L b p) s.G.length g β L ro k w) := by
  have hg := h.facts
  have hgb := hg.1
  have hgs := hg.2.1
  have hB := bd_of hi (by omega) hL hD
  obtain ⟨R, hR⟩ : ∃ R, s.act L b p = R := ⟨_, rfl⟩
  rw [hR]
  have hcur := hi.cur (by rw [hh]; simp)
  have hhd := hi.hand
  rw [hh] at hhd
  obtain ⟨B, vV, vS, vH, a, h4, hn⟩ := h
  have hH := h4.hand
  rw [hh] at hH
  obtain ⟨q, rfl, hA, hq, hnt⟩ := hH
  have c8 := h4.at0.cell 8 _ rfl
  have WT := Lib.hid (take_any q x b w (by have := hhd.2; omega) hA hhd.1)
  rw [ht] at WT
  have Q := str_ne
  have QM := str_m
  have HX := Lib.hid (And.intro hh (And.intro hp (And.intro hk (And.intro hcur (And.intro hhd (And.intro hB hi))))))
  have H4 := Lib.hid h4
  have HNN := Lib.hid hn
  have HQ := Lib.hid (And.intro (show q < w.heap.size from by obtain ⟨_, _, _, _, _, _, _, hx, _⟩ := hA; exact hx.lt) (And.intro hq (And.intro hnt (show ∃ c cs, At w q 0 (c :: cs) from by obtain ⟨_, _, _, _, _, _, _, hx, _⟩ := hA; exact ⟨_, _, hx.at0⟩))))
  have HR := Lib.hid hR
  have HLD := Lib.hid hL
  rw [hx] at WT
  have HTX := Lib.hid hx
  clear h4 hA hq hnt hi hp hk hL hD hB hR ht hg hcur hhd hn hx
  have HNM := Lib.hid hnm
  clear hnm
  go_enter Try.func21, Try.ntmps21
  go_wp2_with fail
  refine WT.out.mono ?_
  rintro e w3 ⟨rfl, hS3, hT3⟩
  have hJ3 := H4.out.take hT3.out HQ.out.2.1 HQ.out.1 HQ.out.2.2.1 HQ.out.2.2.2 (hd' := .str x) ⟨q, rfl, hS3.out, HQ.out.2.1, notT_tk hT3.out HQ.out.1 HQ.out.2.2.1⟩
  have HF3 : Hid (FmS w3 g β L ro s k) := ⟨B, _, _, _, _, by rw [HX.out.1] ; exact hJ3, HNN.out⟩
  have HB3 : Hid (Bx g β w w3) := Bx.tk hT3.out HQ.out.2.1
  have HR1 : Hid (R = s.endStr x.t) := by show R = _; rw [← HR.out, St.act, HX.out.1]; dsimp only; rw [HTX.out]
  clear hJ3
  have hobj : isObj s.G := by
    rcases HX.out.2.2.2.2.2.2.nx1 (by rw [HX.out.1]; simp) with h1 | ⟨a, _, _, _, h5, _⟩
    · rw [HNM.out] at h1; cases h1.1
    · exact h5
  have hxn : s.names.length ≤ 1000000 := by
    obtain ⟨f, G, y, h1, h2⟩ := hobj
    have h3 := HX.out.2.2.2.2.2.2.names f (by rw [h1]; simp) y h2
    rw [St.names, h1]
    show (f.o.getD []).length ≤ _
    rw [h2]
    have := HX.out.2.1
    have := HX.out.2.2.1
    show y.length ≤ _
    omega
  have EN := Lib.hid (fend_named w3 g β L ro s k HF3.out HX.out.2.2.2.1 (by have := HX.out.2.2.2.2.2.2.size; have := HLD.out; omega) HX.out.2.2.2.2.2.1.hl x.t x.m qn s.names HX.out.1 HNM.out hobj rfl hxn (by have := HX.out.2.2.2.2.1.2; have := HX.out.2.1; have := HX.out.2.2.1; omega))
  rw [← HR1.out] at EN
  clear hobj hxn
  go_wp2_with fail
  refine EN.out.mono ?_
  rintro e w4 ⟨rfl, hB4, hF4⟩
  go_wp2_with fail
  first | go_end0 | refine bodyPost_ret (results_none rfl _ _ _) rfl ?_
  exact ⟨rfl, HB3.out.trans hB4.out, hF4⟩
theorem ftake_any (h : FmS w g β L ro s k) (p : Nat) (hi : Inv L s p) (hp : k = p + 1) (hk : k ≤ 262144) (hL : L.items ≤ 4096) (hD : L.depth ≤ 32) (b : UInt8) (t : Nat) (ht : b.toNat = t) :
    Calls Try.prog 21 #[.pointer (some ⟨g, 0, none⟩), .int .u8 (t : Int)] w (RO (s.act L b p) s.G.length g β L ro k w) := by
  cases hh : s.hand with
  | none =>
    by_cases hc : t = 32 ∨ t = 9 ∨ t = 10 ∨ t = 13
    · rcases hc with hc | hc | hc | hc
      · exact ftake_none_b32 w g β L ro s k h p hi hp hk hL hD b t ht hh hc
      · exact ftake_none_b9 w g β L ro s k h p hi hp hk hL hD b t ht hh hc
      · exact ftake_none_b10 w g β L ro s k h p hi hp hk hL hD b t ht hh hc
      · exact ftake_none_b13 w g β L ro s k h p hi hp hk hL hD b t ht hh hc
    · exact ftake_none_o w g β L ro s k h p hi hp hk hL hD b t ht hh hc
  | word r =>
    have h1 := hi.hand
    rw [hh] at h1
    cases r with
    | nil => exact absurd rfl h1.1
    | cons x r => exact ftake_word w g β L ro s k h p hi hp hk hL hD b t ht x r hh
  | num wv x =>
    cases hnx : nextN wv b with
    | some y => exact ftake_num_go w g β L ro s k h p hi hp hk hL hD b t ht wv y x hh hnx
    | none =>
      cases hw : wholeN wv with
      | false => exact ftake_num_bad w g β L ro s k h p hi hp hk hL hD b t ht wv x hh hnx hw
      | true =>
        by_cases hc : t = 32 ∨ t = 9 ∨ t = 10 ∨ t = 13
        · rcases hc with hc | hc | hc | hc
          · exact ftake_over_b32 w g β L ro s k h p hi hp hk hL hD b t ht wv x hh hnx hw hc
          · exact ftake_over_b9 w g β L ro s k h p hi hp hk hL hD b t ht wv x hh hnx hw hc
          · exact ftake_over_b10 w g β L ro s k h p hi hp hk hL hD b t ht wv x hh hnx hw hc
          · exact ftake_over_b13 w g β L ro s k h p hi hp hk hL hD b t ht wv x hh hnx hw hc
        · exact ftake_over_o w g β L ro s k h p hi hp hk hL hD b t ht wv x hh hnx hw hc
  | str x =>
    cases hx : x.take b with
    | more y => exact ftake_str_more w g β L ro s k h p hi hp hk hL hD b t ht x y hh hx
    | bad => exact ftake_str_bad w g β L ro s k h p hi hp hk hL hD b t ht x hh hx
    | done =>
      cases hnm : s.named with
      | none => exact ftake_str_done w g β L ro s k h p hi hp hk hL hD b t ht x hh hx hnm
      | some qn => exact ftake_str_named w g β L ro s k h p hi hp hk hL hD b t ht x hh hx qn hnm
end
end Jf
end Go.Proofs.Ytilfidcomeandaa
