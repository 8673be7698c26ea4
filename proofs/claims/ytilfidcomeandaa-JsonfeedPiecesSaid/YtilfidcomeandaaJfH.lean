/- A feed of values in memory: what is at hand ends. -/
import Derived.Test.YtilfidcomeandaaJfG
namespace Go.Proofs.Ytilfidcomeandaa
open Go.RowKit
set_option linter.unusedVariables false
set_option linter.unusedSimpArgs false
namespace Jf
open Js
open Dr (Rs Lm has lack)
theorem NamesM.put {w : World} {b : Nat} {xs : List (List UInt8)} (hown : NamesM w b xs) (hn : xs.length ≤ 1000000) (s : ByteArray) (hs : s.size ≤ 140737488351232) (z : Nat) (hz : z ≤ 1000000) :
    ∃ w', (Instr.mapUpdate 92 (.map (some b)) (.string s) (.int .i64 (z : Int))).run Try.prog w = .ok () w' ∧ NamesM w' b (xs ++ [s.data.toList]) ∧ w.grownBy w' (some b) := by
  obtain ⟨D, h, h2⟩ := hown
  obtain ⟨w', hrun, h3, h4⟩ := h.update strK Try.underlying92 (by unfold maxLen; omega) (key := .string s) (val := .int .i64 (z : Int)) (Go.WideMaps.keyOf_string_mk Try.underlying9 (by unfold maxLen; omega)) (plainElem_int (H := Unit) Try.underlying3 (WalkArith.wf_i64 (by omega)))
  refine ⟨w', hrun, ⟨_, ?_, has_put D h.isMap xs _ (.lit (.int .i64 (z : Int))) h2⟩, h4⟩
  rw [List.length_append]
  exact h3
theorem ta_no1 (w : World) (v : Value) : (Instr.typeAssert (.iface 114 v) 46 84 true).run Try.prog w = .ok (.tuple #[.pointer none, .bool false]) w := by kernel_rfl
theorem ta_no2 (w : World) (v : Value) : (Instr.typeAssert (.iface 114 v) 46 91 true).run Try.prog w = .ok (.tuple #[.pointer none, .bool false]) w := by kernel_rfl
theorem ta_no3 (w : World) (v : Value) : (Instr.typeAssert (.iface 91 v) 46 84 true).run Try.prog w = .ok (.tuple #[.pointer none, .bool false]) w := by kernel_rfl
theorem ta_no4 (w : World) : (Instr.typeAssert .nilIface 46 84 true).run Try.prog w = .ok (.tuple #[.pointer none, .bool false]) w := by kernel_rfl
theorem ta_num (w : World) (v : Value) : (Instr.typeAssert (.iface 84 v) 46 84 true).run Try.prog w = .ok (.tuple #[v, .bool true]) w := by kernel_rfl
theorem ta_str (w : World) (v : Value) : (Instr.typeAssert (.iface 91 v) 46 91 true).run Try.prog w = .ok (.tuple #[v, .bool true]) w := by kernel_rfl
theorem flat_withText (G : List Fr) (cur : List Vl) (t : List UInt8) (h : cur ≠ []) : flat G (withText t cur) = (flat G cur).modify ((flat G cur).length - 1) (fun v => { v with text := t }) := by
  have hm : ∀ (a b : List Vl), b ≠ [] → (a ++ b).modify ((a ++ b).length - 1) (fun v => { v with text := t }) = a ++ b.modify (b.length - 1) (fun v => { v with text := t }) := by
    intro a b hb
    have hl : 0 < b.length := List.length_pos_iff.2 hb
    induction a with
    | nil => rfl
    | cons x a ih =>
      rw [List.cons_append, List.length_cons, show (a ++ b).length + 1 - 1 = ((a ++ b).length - 1) + 1 by rw [List.length_append]; omega, List.modify_succ_cons, ih, List.cons_append]
  cases G with
  | nil => rfl
  | cons f G =>
    rw [flat_cons, flat_cons, show flat G f.b ++ Js.hold f :: cur = (flat G f.b ++ [Js.hold f]) ++ cur by simp, hm _ _ h, withText]
    simp
section
variable (w : World) (g β : Nat) (L : Lm) (ro : Int) (s : St) (k : Nat)
/-- the last value's cells -/
theorem last_len {G : List Fr} {cur : List Vl} (h : cur ≠ []) : 0 < (flat G cur).length := by
  cases G with
  | nil => exact List.length_pos_iff.2 h
  | cons f G => rw [flat_cons, List.length_append, List.length_cons]; omega
set_option maxRecDepth 100000 in
set_option maxHeartbeats 3200000 in
theorem fend_word (h : FmS w g β L ro s k) (hcur : s.cur ≠ []) (hsz : s.size ≤ 1000000) (hG : s.G.length ≤ 1000) (r : List UInt8) (hh : s.hand = .word r) (hnm : s.named = none) :
    Calls Try.prog 34 #[.pointer (some ⟨g, 0, none⟩)] w (RG s.ended g β L ro k w) := by
  have hsz2 : (flat s.G s.cur).length ≤ 1000000 := hsz
  obtain ⟨B, vV, vS, vH, a, h4, hn⟩ := h
  have hgb := h4.gb
  have hm0 := last_len (G := s.G) hcur
  obtain ⟨m, hm⟩ : ∃ m, (flat s.G s.cur).length = m + 1 := ⟨(flat s.G s.cur).length - 1, by omega⟩
  have hm1 : m ≤ 1000000 := by omega
  obtain ⟨qV, capV, rfl, hqV, hAtV⟩ := h4.value m (by omega)
  have c5 := h4.at0.cell 5 _ rfl
  rw [hm] at c5 h4
  have c8 := h4.at0.cell 8 _ rfl
  have f8 := h4.at0.froz 8 (by show 8 < 13; decide)
  have c9 := h4.at0.cell 9 _ rfl
  have d2 := hAtV.cell 2 _ rfl
  have fd2 := hAtV.froz 2 (by show 2 < 3; decide)
  have hgq : ¬ g = qV := by omega
  have e1 : (m : Int) + 1 - 1 = (m : Int) := by omega
  have e2 : IntKind.i64.wrap (m : Int) = (m : Int) := wrap_fit m (by unfold maxLen; omega)
  have e3 : (m : Int) < (m : Int) + 1 := by omega
  have HV : Hid (β ≤ qV ∧ (flat s.G s.cur).length = m + 1 ∧ m ≤ 1000000) := ⟨hqV, hm, hm1⟩
  have HG := Lib.hid hG
  have hH := h4.hand
  rw [hh] at hH
  obtain ⟨b, rfl, -⟩ := hH
  have T1 := ta_no1
  have T2 := ta_no2
  rw [hnm] at c9
  have HE : Hid (∀ n, FmS ((w.drewN n).setCell ⟨g, 8, none⟩ .nilIface) g β L ro { s with hand := .none } k) := fun n => ⟨B, _, _, _, a, (h4.drewN n).setHand (hd' := .none) rfl, hn⟩
  have EN := Lib.hid (fun n => fended_any _ g β L ro { s with hand := .none } k (HE.out n) rfl hG)
  clear h4 hAtV hn hm hm0 hm1 hqV hG hcur hsz hsz2 hh hnm
  go_enter Try.func34, Try.ntmps34
  go_wp2_with fail
  go_quiet (fail)
  go_wp2_with fail
  refine (EN.out _).mono ?_
  rintro e w4 ⟨rfl, hF4, hB4⟩
  go_wp2_with fail
  first | go_end0 | refine bodyPost_ret (results_none rfl _ _ _) rfl ?_
  exact ⟨rfl, hF4, (((bx_drewN g β w _).setG _).trans hB4.out)⟩
set_option maxRecDepth 100000 in
set_option maxHeartbeats 3200000 in
theorem fend_num (h : FmS w g β L ro s k) (hcur : s.cur ≠ []) (hsz : s.size ≤ 1000000) (hG : s.G.length ≤ 1000) (wv : Nat) (x : List UInt8) (hh : s.hand = .num wv x) (hnm : s.named = none) :
    Calls Try.prog 34 #[.pointer (some ⟨g, 0, none⟩)] w (RG (s.endNum x) g β L ro k w) := by
  have hsz2 : (flat s.G s.cur).length ≤ 1000000 := hsz
  obtain ⟨B, vV, vS, vH, a, h4, hn⟩ := h
  have hgb := h4.gb
  have hm0 := last_len (G := s.G) hcur
  obtain ⟨m, hm⟩ : ∃ m, (flat s.G s.cur).length = m + 1 := ⟨(flat s.G s.cur).length - 1, by omega⟩
  have hm1 : m ≤ 1000000 := by omega
  obtain ⟨qV, capV, rfl, hqV, hAtV⟩ := h4.value m (by omega)
  have c5 := h4.at0.cell 5 _ rfl
  rw [hm] at c5 h4
  have c8 := h4.at0.cell 8 _ rfl
  have f8 := h4.at0.froz 8 (by show 8 < 13; decide)
  have c9 := h4.at0.cell 9 _ rfl
  have d2 := hAtV.cell 2 _ rfl
  have fd2 := hAtV.froz 2 (by show 2 < 3; decide)
  have hgq : ¬ g = qV := by omega
  have e1 : (m : Int) + 1 - 1 = (m : Int) := by omega
  have e2 : IntKind.i64.wrap (m : Int) = (m : Int) := wrap_fit m (by unfold maxLen; omega)
  have e3 : (m : Int) < (m : Int) + 1 := by omega
  have HV : Hid (β ≤ qV ∧ (flat s.G s.cur).length = m + 1 ∧ m ≤ 1000000) := ⟨hqV, hm, hm1⟩
  have HG := Lib.hid hG
  have HST : Hid (∀ (w : World) (u : ByteArray), u = ⟨x.toArray⟩ → Jm w g β L ro k (flat s.G s.cur) s.G B s.hand (.slice (some ⟨qV, 0, none⟩) (m + 1) capV) vS vH s.nx s.named.isSome a 0 0 → Jm (w.setCell ⟨qV, m * 3 + 2, none⟩ (.string u)) g β L ro k (flat s.G (withText x s.cur)) s.G B s.hand (.slice (some ⟨qV, 0, none⟩) (m + 1) capV) vS vH s.nx s.named.isSome a 0 0) := by
    rintro w u rfl h
    have h8 := h.setVal rfl hm m 2 (by omega) (by decide) (.string ⟨x.toArray⟩) (fun v => { v with text := x }) rfl
    rw [show flat s.G (withText x s.cur) = _ from flat_withText s.G s.cur x hcur, hm]
    exact h8
  have hH := h4.hand
  rw [hh] at hH
  obtain ⟨b, vT, rfl, hN, hbb, -⟩ := hH
  have T1 := ta_num
  have NT := Lib.hid (fun n => ntext_any b wv x vT (w.drewN n) ⟨hN.at0.drewN n, own_drewN hN.text n⟩)
  rw [hnm] at c9
  have HE : Hid (∀ n, FmS (((w.drewN n).setCell ⟨qV, m * 3 + 2, none⟩ (.string ⟨x.toArray⟩)).setCell ⟨g, 8, none⟩ .nilIface) g β L ro { s with hand := .none, cur := withText x s.cur } k) := fun n => ⟨B, _, _, _, a, (HST.out _ _ rfl (h4.drewN n)).setHand (hd' := .none) rfl, hn⟩
  have EN := Lib.hid (fun n => fended_any _ g β L ro { s with hand := .none, cur := withText x s.cur } k (HE.out n) rfl hG)
  clear h4 hAtV hn hm hm0 hm1 hqV hG hcur hsz hsz2 hh hnm HST hN
  go_enter Try.func34, Try.ntmps34
  go_wp2_with fail
  go_quiet (fail)
  go_wp2_with (first | (go_at_call 42; refine (NT.out _).mono ?_; rintro e w3 ⟨rfl, rfl⟩))
  refine (EN.out _).mono ?_
  rintro e w4 ⟨rfl, hF4, hB4⟩
  go_wp2_with fail
  first | go_end0 | refine bodyPost_ret (results_none rfl _ _ _) rfl ?_
  exact ⟨rfl, hF4, ((((bx_drewN g β w _).setCell (p := ⟨qV, _, none⟩) HV.out.1 _).setG _).trans hB4.out)⟩
set_option maxRecDepth 100000 in
set_option maxHeartbeats 3200000 in
theorem fend_str (h : FmS w g β L ro s k) (hcur : s.cur ≠ []) (hsz : s.size ≤ 1000000) (hG : s.G.length ≤ 1000) (x : List UInt8) (m0 : Sm) (hh : s.hand = .str ⟨m0, x⟩) (hnm : s.named = none) :
    Calls Try.prog 34 #[.pointer (some ⟨g, 0, none⟩)] w (RG ({ s with cur := withText x s.cur } : St).ended g β L ro k w) := by
  have hsz2 : (flat s.G s.cur).length ≤ 1000000 := hsz
  obtain ⟨B, vV, vS, vH, a, h4, hn⟩ := h
  have hgb := h4.gb
  have hm0 := last_len (G := s.G) hcur
  obtain ⟨m, hm⟩ : ∃ m, (flat s.G s.cur).length = m + 1 := ⟨(flat s.G s.cur).length - 1, by omega⟩
  have hm1 : m ≤ 1000000 := by omega
  obtain ⟨qV, capV, rfl, hqV, hAtV⟩ := h4.value m (by omega)
  have c5 := h4.at0.cell 5 _ rfl
  rw [hm] at c5 h4
  have c8 := h4.at0.cell 8 _ rfl
  have f8 := h4.at0.froz 8 (by show 8 < 13; decide)
  have c9 := h4.at0.cell 9 _ rfl
  have d2 := hAtV.cell 2 _ rfl
  have fd2 := hAtV.froz 2 (by show 2 < 3; decide)
  have hgq : ¬ g = qV := by omega
  have e1 : (m : Int) + 1 - 1 = (m : Int) := by omega
  have e2 : IntKind.i64.wrap (m : Int) = (m : Int) := wrap_fit m (by unfold maxLen; omega)
  have e3 : (m : Int) < (m : Int) + 1 := by omega
  have HV : Hid (β ≤ qV ∧ (flat s.G s.cur).length = m + 1 ∧ m ≤ 1000000) := ⟨hqV, hm, hm1⟩
  have HG := Lib.hid hG
  have HST : Hid (∀ (w : World) (u : ByteArray), u = ⟨x.toArray⟩ → Jm w g β L ro k (flat s.G s.cur) s.G B s.hand (.slice (some ⟨qV, 0, none⟩) (m + 1) capV) vS vH s.nx s.named.isSome a 0 0 → Jm (w.setCell ⟨qV, m * 3 + 2, none⟩ (.string u)) g β L ro k (flat s.G (withText x s.cur)) s.G B s.hand (.slice (some ⟨qV, 0, none⟩) (m + 1) capV) vS vH s.nx s.named.isSome a 0 0) := by
    rintro w u rfl h
    have h8 := h.setVal rfl hm m 2 (by omega) (by decide) (.string ⟨x.toArray⟩) (fun v => { v with text := x }) rfl
    rw [show flat s.G (withText x s.cur) = _ from flat_withText s.G s.cur x hcur, hm]
    exact h8
  have hH := h4.hand
  rw [hh] at hH
  obtain ⟨b, rfl, ⟨wh, vT, left, num, half, low, high, hX, -⟩, hbb, -⟩ := hH
  have T1 := ta_str
  have T2 := ta_no3
  have NT := Lib.hid (fun n => stext_any b wh vT left num half low high x (w.drewN n) ⟨hX.at0.drewN n, own_drewN hX.text n⟩)
  rw [hnm] at c9
  have HE : Hid (∀ n, FmS (((w.drewN n).setCell ⟨qV, m * 3 + 2, none⟩ (.string ⟨x.toArray⟩)).setCell ⟨g, 8, none⟩ .nilIface) g β L ro { s with hand := .none, cur := withText x s.cur } k) := fun n => ⟨B, _, _, _, a, (HST.out _ _ rfl (h4.drewN n)).setHand (hd' := .none) rfl, hn⟩
  have EN := Lib.hid (fun n => fended_any _ g β L ro { s with hand := .none, cur := withText x s.cur } k (HE.out n) rfl hG)
  clear h4 hAtV hn hm hm0 hm1 hqV hG hcur hsz hsz2 hh hnm HST hX
  go_enter Try.func34, Try.ntmps34
  go_wp2_with fail
  go_quiet (fail)
  go_wp2_with (first | (go_at_call 49; refine (NT.out _).mono ?_; rintro e w3 ⟨rfl, rfl⟩))
  refine (EN.out _).mono ?_
  rintro e w4 ⟨rfl, hF4, hB4⟩
  go_wp2_with fail
  first | go_end0 | refine bodyPost_ret (results_none rfl _ _ _) rfl ?_
  exact ⟨rfl, hF4, ((((bx_drewN g β w _).setCell (p := ⟨qV, _, none⟩) HV.out.1 _).setG _).trans hB4.out)⟩
set_option maxRecDepth 100000 in
set_option maxHeartbeats 3200000 in
theorem fend_named (h : FmS w g β L ro s k) (hcur : s.cur ≠ []) (hsz : s.size ≤ 1000000) (hG : s.G.length ≤ 1000) (x : List UInt8) (m0 : Sm) (q : Nat) (xs : List (List UInt8)) (hh : s.hand = .str ⟨m0, x⟩) (hnm : s.named = some q) (hobj : isObj s.G) (hxs : xs = s.names) (hxn : xs.length ≤ 1000000) (hxl : x.length ≤ 140737488351232) :
    Calls Try.prog 34 #[.pointer (some ⟨g, 0, none⟩)] w (RO (s.endStr x) s.G.length g β L ro k w) := by
  have hsz2 : (flat s.G s.cur).length ≤ 1000000 := hsz
  obtain ⟨B, vV, vS, vH, a, h4, hn⟩ := h
  have hgb := h4.gb
  have hm0 := last_len (G := s.G) hcur
  obtain ⟨m, hm⟩ : ∃ m, (flat s.G s.cur).length = m + 1 := ⟨(flat s.G s.cur).length - 1, by omega⟩
  have hm1 : m ≤ 1000000 := by omega
  obtain ⟨qV, capV, rfl, hqV, hAtV⟩ := h4.value m (by omega)
  have c5 := h4.at0.cell 5 _ rfl
  rw [hm] at c5 h4
  have c8 := h4.at0.cell 8 _ rfl
  have f8 := h4.at0.froz 8 (by show 8 < 13; decide)
  have c9 := h4.at0.cell 9 _ rfl
  have d2 := hAtV.cell 2 _ rfl
  have fd2 := hAtV.froz 2 (by show 2 < 3; decide)
  have hgq : ¬ g = qV := by omega
  have e1 : (m : Int) + 1 - 1 = (m : Int) := by omega
  have e2 : IntKind.i64.wrap (m : Int) = (m : Int) := wrap_fit m (by unfold maxLen; omega)
  have e3 : (m : Int) < (m : Int) + 1 := by omega
  have HV : Hid (β ≤ qV ∧ (flat s.G s.cur).length = m + 1 ∧ m ≤ 1000000) := ⟨hqV, hm, hm1⟩
  have HG := Lib.hid hG
  have HST : Hid (∀ (w : World) (u : ByteArray), u = ⟨x.toArray⟩ → Jm w g β L ro k (flat s.G s.cur) s.G B s.hand (.slice (some ⟨qV, 0, none⟩) (m + 1) capV) vS vH s.nx s.named.isSome a 0 0 → Jm (w.setCell ⟨qV, m * 3 + 2, none⟩ (.string u)) g β L ro k (flat s.G (withText x s.cur)) s.G B s.hand (.slice (some ⟨qV, 0, none⟩) (m + 1) capV) vS vH s.nx s.named.isSome a 0 0) := by
    rintro w u rfl h
    have h8 := h.setVal rfl hm m 2 (by omega) (by decide) (.string ⟨x.toArray⟩) (fun v => { v with text := x }) rfl
    rw [show flat s.G (withText x s.cur) = _ from flat_withText s.G s.cur x hcur, hm]
    exact h8
  have hH := h4.hand
  rw [hh] at hH
  obtain ⟨b, rfl, ⟨wh, vT, left, num, half, low, high, hX, -⟩, hbb, -⟩ := hH
  have T1 := ta_str
  have T2 := ta_no3
  have NT := Lib.hid (fun n => stext_any b wh vT left num half low high x (w.drewN n) ⟨hX.at0.drewN n, own_drewN hX.text n⟩)
  obtain ⟨f, G, hG'⟩ : ∃ f G, s.G = f :: G := by obtain ⟨f, G, y, h1, _⟩ := hobj; exact ⟨f, G, h1⟩
  have hfo : f.o = some xs := by obtain ⟨f2, G2, y, h1, h2⟩ := hobj; rw [hG'] at h1; cases h1; rw [hxs, St.names, hG']; show f.o = some (f.o.getD []); rw [h2]; rfl
  obtain ⟨X, hX0⟩ : ∃ X : ByteArray, X = ⟨x.toArray⟩ := ⟨_, rfl⟩
  have hXs : X.size ≤ 140737488351232 := by rw [hX0]; show x.toArray.size ≤ _; simpa using hxl
  have hXt : X.data.toList = x := by rw [hX0]
  rw [← hX0] at NT
  rw [hnm] at c9
  have f9 := h4.at0.froz 9 (by show 9 < 13; decide)
  have hq : a = (q : Int) := hn q hnm
  have HJ : Hid (∀ n, Jm ((((w.drewN n).setCell ⟨qV, m * 3 + 2, none⟩ (.string X)).setCell ⟨g, 8, none⟩ .nilIface).setCell ⟨g, 9, none⟩ (.bool false)) g β L ro k (flat (f :: G) (withText x s.cur)) (f :: G) B .none (.slice (some ⟨qV, 0, none⟩) (m + 1) capV) vS .nilIface s.nx false a 0 0) := fun n => by
    have h9 := ((HST.out _ _ hX0 (h4.drewN n)).setHand (hd' := .none) rfl).set 9 (.bool false) (nm' := false) rfl
    rw [hG'] at h9
    exact h9
  have hmp := h4.maps
  rw [hG'] at hmp
  obtain ⟨bM, B', rfl⟩ : ∃ bM B', B = some bM :: B' := by
    cases hmp with
    | arr _ ho => rw [hfo] at ho; cases ho
    | obj _ _ _ _ _ => exact ⟨_, _, rfl⟩
  have HX0 := Lib.hid hX0
  have HF0 : Hid (f.o = some xs ∧ xs.length ≤ 1000000 ∧ X.data.toList = x ∧ X.size ≤ 140737488351232 ∧ G.length ≤ 1000 ∧ (flat (f :: G) (withText x s.cur)).length = m + 1 ∧ (flat (f :: G) (withText x s.cur)).getD m v0 = { (flat (f :: G) s.cur).getD m v0 with text := x }) := by
    refine ⟨hfo, hxn, hXt, hXs, by rw [hG'] at hG; simp at hG; omega, by rw [flat_length (f :: G) _ s.cur (withText_length _ _), ← hG']; exact hm, ?_⟩
    rw [← hG', flat_withText s.G s.cur x hcur, hm]
    have hlm : m < (flat s.G s.cur).length := by omega
    rw [List.getD, List.getD, List.getElem?_modify]
    simp [hlm]
  obtain ⟨R, hR⟩ : ∃ R, s.endStr x = R := ⟨_, rfl⟩
  rw [hR]
  rw [St.endStr, hnm] at hR
  replace hR : (if x ∈ s.names then Out.fl 9 q else .go { s with cur := withText x s.cur, hand := .none, named := none, nx := 4, G := addName x s.G }) = R := hR
  rw [← hxs, hG'] at hR
  have HSG := Lib.hid hG'
  clear h4 hAtV hn hm hm0 hm1 hqV hG hcur hsz hsz2 hh hnm HST hX hX0 hXs hXt hmp hG' hfo hobj hxs hxn hxl
  go_enter Try.func34, Try.ntmps34
  go_wp2_with fail
  go_quiet (fail)
  go_upto_region 12 with (first | (go_at_call 49; refine (NT.out _).mono ?_; rintro e w3 ⟨rfl, rfl⟩))
  have HJ2 := Lib.hid (HJ.out nq)
  have HB2 : Hid (Bx g β w ((((w.drewN nq).setCell ⟨qV, m * 3 + 2, none⟩ (.string X)).setCell ⟨g, 8, none⟩ .nilIface).setCell ⟨g, 9, none⟩ (.bool false))) := ((((bx_drewN g β w _).setCell (p := ⟨qV, _, none⟩) HV.out.1 _).setG _).setG _)
  generalize ((((w.drewN nq).setCell ⟨qV, m * 3 + 2, none⟩ (.string X)).setCell ⟨g, 8, none⟩ .nilIface).setCell ⟨g, 9, none⟩ (.bool false)) = w2 at HJ2 HB2 ⊢
  obtain ⟨qS, capS, hvS, hcapS, hqS, hAtS⟩ := HJ2.out.top
  subst hvS
  obtain ⟨q2, cap2, hq2, -, hAt2⟩ := HJ2.out.value m (by rw [HF0.out.2.2.2.2.2.1]; omega)
  rw [HF0.out.2.2.2.2.2.2] at hAt2
  obtain rfl : qV = q2 := by injection hq2 with h1; injection h1 with h1; injection h1
  have hNM : NamesM w2 bM xs := by
    have h1 := HF0.out.1
    cases HJ2.out.maps with
    | obj _ ho hm _ _ => rw [ho] at h1; cases h1; exact hm
  have HNM := Lib.hid (fun n => (hNM.same rfl : NamesM (w2.drewN n) bM xs))
  clear hNM hq2 c5 f8 c9 c8 d2 fd2 f9
  obtain ⟨nG, hnG⟩ : ∃ n, G.length = n := ⟨_, rfl⟩
  have c5 := HJ2.out.at0.cell 5 _ rfl
  have c6 := HJ2.out.at0.cell 6 _ rfl
  have c10 := HJ2.out.at0.cell 10 _ rfl
  have c7 := HJ2.out.at0.cell 7 _ rfl
  have f7 := HJ2.out.at0.froz 7 (by show 7 < 13; decide)
  rw [hnG] at c6 hAtS
  have s1 := hAtS.cell 1 _ rfl
  have d2 := hAt2.cell 2 _ rfl
  replace d2 : w2.cell? ⟨qV, m * 3 + 2, none⟩ = some (.string X) := by rw [HX0.out]; exact d2
  have hGle := HF0.out.2.2.2.2.1
  rw [hnG] at hGle
  have g1 : (nG : Int) + 1 - 1 = (nG : Int) := by omega
  have g2 : IntKind.i64.wrap (nG : Int) = (nG : Int) := wrap_fit nG (by unfold maxLen; omega)
  have g3 : (nG : Int) < (nG : Int) + 1 := by omega
  have HNG := Lib.hid hnG
  have hs2 : ∀ n, FmS (w2.drewN n) g β L ro { s with hand := .none, cur := withText x s.cur, named := none } k := fun n => ⟨some bM :: B', _, _, _, a, by rw [HSG.out]; exact HJ2.out.drewN n, fun x hx => by cases hx⟩
  have FA := Lib.hid (fun n => ffault_any (w2.drewN n) g β L ro { s with hand := .none, cur := withText x s.cur, named := none } k (hs2 n) 9 q (q : Int) rfl)
  have HQA := Lib.hid hq
  rw [hq] at c10
  clear hAtS hAt2 hs2 hGle hnG hq
  by_cases htw : x ∈ xs
  · have HR : Hid (R = .fl 9 q) := by show R = _; rw [← hR, if_pos htw]
    have htd : decide (X.data.toList ∈ xs) = true := by rw [HF0.out.2.2.1]; exact decide_eq_true htw
    clear hR htw
    go_quiet (fail)
    go_wp2_with (first | (at_lookup; refine wpList_name_there rfl _ _ rfl bM xs rfl (HNM.out _) X rfl HF0.out.2.2.2.1 ?_; intro c; rw [htd]))
    refine (FA.out _).mono ?_
    rintro e w4 ⟨rfl, hF4, hB4⟩
    go_wp2_with fail
    first | go_end0 | refine bodyPost_ret (results_none rfl _ _ _) rfl ?_
    exact RO.fl HR ⟨rfl, hF4, (HB2.out.trans (bx_drewN g β w2 _)).trans hB4.out⟩
  · have HR : Hid (R = .go { s with cur := withText x s.cur, hand := .none, named := none, nx := 4, G := addName x s.G }) := by show R = _; rw [← hR, if_neg htw, HSG.out]
    have htd : decide (X.data.toList ∈ xs) = false := by rw [HF0.out.2.2.1]; exact decide_eq_false htw
    clear hR htw
    go_quiet (fail)
    go_wp2_with (first | (at_lookup; refine wpList_name_there rfl _ _ rfl bM xs rfl (HNM.out _) X rfl HF0.out.2.2.2.1 ?_; intro c; rw [htd]))
    obtain ⟨w5, hrun, hm5, hg5⟩ := NamesM.put (HNM.out (nq + 1)) HF0.out.2.1 X HF0.out.2.2.2.1 m HV.out.2.2
    have hJ5 := (HJ2.out.drewN (nq + 1)).name hg5 hm5 HF0.out.1
    rw [HF0.out.2.2.1] at hJ5
    have k7 := hJ5.at0.cell 7 _ rfl
    have fk7 := hJ5.at0.froz 7 (by show 7 < 13; decide)
    have HJ5 := Lib.hid (hJ5.set 7 (.int .i64 4) (nx' := 4) rfl)
    have HG5 := Lib.hid hg5
    have HBM : Hid (β ≤ bM) := (HJ2.out.maps.ge bM (by simp)).1
    clear hm5 hg5 hJ5
    go_region
    go_wp2_with fail
    first | go_end0 | refine bodyPost_ret (results_none rfl _ _ _) rfl ?_
    have h9 := HJ5.out
    rw [← addName_flat x (f :: G) (.inl ⟨f, G, xs, rfl, HF0.out.1⟩) (withText x s.cur), ← HSG.out] at h9
    exact RO.go HR ⟨rfl, ⟨some bM :: B', _, _, _, a, h9, fun x hx => by cases hx⟩, ((HB2.out.trans (bx_drewN g β w2 (nq + 1))).grown HG5.out HJ2.out.bs (fun q hq => by cases hq; exact HBM.out)).setG _⟩
end
end Jf
end Go.Proofs.Ytilfidcomeandaa
