/- A feed of values in memory: fault, wrong, none, ended, pass, close. -/
import Derived.Test.YtilfidcomeandaaJfA
import Derived.Deep.RegionHeld3
namespace Go.Proofs.Ytilfidcomeandaa
open Go.RowKit
set_option linter.unusedVariables false
set_option linter.unusedSimpArgs false
namespace Jf
open Js
open Dr (Rs Lm has lack)
section
variable (w : World) (g β : Nat) (L : Lm) (ro : Int) (s : St) (k : Nat)
theorem FmS.facts {w : World} {g β : Nat} {L : Lm} {ro : Int} {s : St} {k : Nat} (h : FmS w g β L ro s k) : g < β ∧ g < w.heap.size ∧ β ≤ w.heap.size := by
  obtain ⟨B, vV, vS, vH, a, h, -⟩ := h
  exact ⟨h.gb, h.lt, h.bs⟩
/-- what a fault tells -/
def RD (c : Int) (q n : Nat) (g β : Nat) (L : Lm) (ro : Int) (k : Nat) (w : World) (e : Ending) (w' : World) : Prop := e = .returned (.tuple #[]) ∧ Hid (DeadM w' g β L ro c q n k) ∧ Hid (Bx g β w w')
set_option maxRecDepth 100000 in
set_option maxHeartbeats 1600000 in
theorem ffault_any (h : FmS w g β L ro s k) (c : Int) (q : Nat) (z : Int) (hz : (q : Int) = z) :
    Calls Try.prog 20 #[.pointer (some ⟨g, 0, none⟩), .int .i64 c, .int .i64 z] w (RD c q s.G.length g β L ro k w) := by
  subst hz
  obtain ⟨B, vV, vS, vH, a, h, -⟩ := h
  have hgb := h.gb
  obtain ⟨aS, cS, rfl, -⟩ := own_form h.stack
  have HA : Hid (At ((w.setCell ⟨g, 11, none⟩ (.int .i64 c)).setCell ⟨g, 12, none⟩ (.int .i64 (q : Int))) g 0 (jc L ro k vV (.slice aS s.G.length cS) s.nx vH s.named.isSome a c (q : Int))) := (h.at0.set 11 (.int .i64 c)).set 12 (.int .i64 (q : Int))
  have HB : Hid (Bx g β w ((w.setCell ⟨g, 11, none⟩ (.int .i64 c)).setCell ⟨g, 12, none⟩ (.int .i64 (q : Int)))) := ((Bx.refl' g β w).setG _).setG _
  have HS : Hid (g < β ∧ β ≤ w.heap.size) := ⟨h.gb, h.bs⟩
  have h9 := h.at0.cell 11 _ rfl
  have h10 := h.at0.cell 12 _ rfl
  have f9 := h.at0.froz 11 (by show 11 < 13; decide)
  have f10 := h.at0.froz 12 (by show 12 < 13; decide)
  clear h
  go_enter Try.func20, Try.ntmps20
  go_wp2_with fail
  first | go_end0 | refine bodyPost_ret (results_none rfl _ _ _) rfl ?_
  exact ⟨rfl, ⟨_, _, _, _, _, _, _, HA.out, HS.out.1, by rw [set_size, set_size]; exact HS.out.2⟩, HB⟩
set_option maxRecDepth 100000 in
set_option maxHeartbeats 1600000 in
theorem fwrong_any (h : FmS w g β L ro s k) (p : Nat) (hp : k = p + 1) (hk : k ≤ 262144) :
    Calls Try.prog 33 #[.pointer (some ⟨g, 0, none⟩)] w (RD 9 p s.G.length g β L ro k w) := by
  have FA := Lib.hid (ffault_any w g β L ro s k h 9 p (p : Int) rfl)
  obtain ⟨B, vV, vS, vH, a, h, -⟩ := h
  have hgb := h.gb
  have h4 := h.at0.cell 4 _ rfl
  have e1 : (k : Int) - 1 = (p : Int) := by omega
  have e2 : IntKind.i64.wrap (p : Int) = (p : Int) := wrap_fit p (by unfold maxLen; omega)
  clear h hp hk
  go_enter Try.func33, Try.ntmps33
  go_wp2_with fail
  refine FA.out.mono ?_
  rintro e w4 ⟨rfl, hF4, hB4⟩
  go_wp2_with fail
  first | go_end0 | refine bodyPost_ret (results_none rfl _ _ _) rfl ?_
  exact ⟨rfl, hF4, hB4⟩
set_option maxRecDepth 100000 in
theorem fnone_any (c : List Value) (d : Nat) (hA : At w g 0 (.int .i64 (d : Int) :: c)) (hd : 0 < d) :
    Calls Try.prog 19 #[.pointer (some ⟨g, 0, none⟩)] w (fun x w' => x = .returned (.bool false) ∧ w = w') := by
  have h7 := hA.cell 0 _ rfl
  rw [Nat.zero_add] at h7
  have hq : ((d : Int) == 0) = false := by rw [beq_eq_false_iff_ne]; omega
  clear hA
  go_enter Try.func19, Try.ntmps19
  go_wp2_with fail
  go_ret
  exact ⟨rfl, rfl⟩
/-- what a step that goes on tells -/
def RG (s' : St) (g β : Nat) (L : Lm) (ro : Int) (k : Nat) (w : World) (e : Ending) (w' : World) : Prop := e = .returned (.tuple #[]) ∧ Hid (FmS w' g β L ro s' k) ∧ Hid (Bx g β w w')
set_option maxRecDepth 100000 in
set_option maxHeartbeats 1600000 in
theorem fended_any (h : FmS w g β L ro s k) (hh : s.hand = .none) (hG : s.G.length ≤ 1000) :
    Calls Try.prog 50 #[.pointer (some ⟨g, 0, none⟩)] w (RG s.ended g β L ro k w) := by
  obtain ⟨B, vV, vS, vH, a, h, hn⟩ := h
  have hgb := h.gb
  have HN := Lib.hid hn
  have HF := Lib.hid h
  obtain ⟨aS, cS, rfl, -⟩ := own_form h.stack
  obtain ⟨m, hm⟩ : ∃ m, s.G.length = m := ⟨_, rfl⟩
  have c6 := h.at0.cell 6 _ rfl
  rw [hm] at c6
  have c7 := h.at0.cell 7 _ rfl
  have f7 := h.at0.froz 7 (by show 7 < 13; decide)
  have HHH := Lib.hid hh
  have h5 : Hid (Jm (w.setCell ⟨g, 7, none⟩ (.int .i64 5)) g β L ro k (flat s.G s.cur) s.G B s.hand vV (.slice aS s.G.length cS) vH 5 s.named.isSome a 0 0) := HF.out.set 7 (.int .i64 5) rfl
  have h6 : Hid (Jm ((w.setCell ⟨g, 7, none⟩ (.int .i64 5)).setCell ⟨g, 7, none⟩ (.int .i64 6)) g β L ro k (flat s.G s.cur) s.G B s.hand vV (.slice aS s.G.length cS) vH 6 s.named.isSome a 0 0) := h5.out.set 7 (.int .i64 6) rfl
  have hb5 : Hid (Bx g β w (w.setCell ⟨g, 7, none⟩ (.int .i64 5))) := (Bx.refl' g β w).setG _
  have hb6 : Hid (Bx g β w ((w.setCell ⟨g, 7, none⟩ (.int .i64 5)).setCell ⟨g, 7, none⟩ (.int .i64 6))) := hb5.out.setG _
  have HM := Lib.hid hm
  rw [hm] at hG
  by_cases h0 : m = 0
  · have q0 : ((m : Int) == 0) = true := by rw [beq_iff_eq]; omega
    have HE : Hid (s.ended = { s with nx := 6, hand := .none }) := by
      show s.ended = _
      have : s.G = [] := List.eq_nil_of_length_eq_zero (by omega)
      rw [St.ended, this]; rfl
    clear h h0 hm hn hh
    go_enter Try.func50, Try.ntmps50
    go_wp2_with fail
    first | go_end0 | refine bodyPost_ret (results_none rfl _ _ _) rfl ?_
    refine ⟨rfl, ?_, hb6⟩
    rw [HE.out]
    have h7 := h6.out
    rw [HHH.out] at h7
    exact ⟨B, _, _, _, a, h7, HN.out⟩
  · have q0 : ((m : Int) == 0) = false := by rw [beq_eq_false_iff_ne]; omega
    have HE : Hid (s.ended = { s with nx := 5, hand := .none }) := by
      show s.ended = _
      rw [St.ended]
      cases hG : s.G with
      | nil => rw [hG] at hm; exact absurd hm.symm h0
      | cons f G => rfl
    clear h h0 hm hn hh h6 hb6
    go_enter Try.func50, Try.ntmps50
    go_wp2_with fail
    first | go_end0 | refine bodyPost_ret (results_none rfl _ _ _) rfl ?_
    refine ⟨rfl, ?_, hb5⟩
    rw [HE.out]
    have h7 := h5.out
    rw [HHH.out] at h7
    exact ⟨B, _, _, _, a, h7, HN.out⟩
theorem RO.fl {o : Out} {c : Int} {q n g β : Nat} {L : Lm} {ro : Int} {k : Nat} {w w' : World} {e : Ending} (he : Hid (o = .fl c q)) (h : RD c q n g β L ro k w e w') : RO o n g β L ro k w e w' := by
  rw [he.out]
  exact ⟨h.1, h.2.2, h.2.1⟩
theorem RO.go {o : Out} {s : St} {n g β : Nat} {L : Lm} {ro : Int} {k : Nat} {w w' : World} {e : Ending} (he : Hid (o = .go s)) (h : RG s g β L ro k w e w') : RO o n g β L ro k w e w' := by
  rw [he.out]
  exact ⟨h.1, h.2.2, h.2.1⟩
set_option maxRecDepth 100000 in
set_option maxHeartbeats 1600000 in
theorem fpass_any (h : FmS w g β L ro s k) (p : Nat) (hp : k = p + 1) (hk : k ≤ 262144) (r : Bool) (nx : Nat) (z : Int) (hz : (nx : Int) = z) :
    Calls Try.prog 51 #[.pointer (some ⟨g, 0, none⟩), .bool r, .int .i64 z] w (RO (s.pass r nx p) s.G.length g β L ro k w) := by
  subst hz
  obtain ⟨R, hR⟩ : ∃ R, s.pass r nx p = R := ⟨_, rfl⟩
  rw [hR]
  rw [St.pass] at hR
  cases r with
  | false =>
    have WR := Lib.hid (fwrong_any w g β L ro s k h p hp hk)
    have HR : Hid (R = .fl 9 p) := hR.symm
    clear h hp hk hR
    go_enter Try.func51, Try.ntmps51
    go_wp2_with fail
    refine WR.out.mono ?_
    rintro e w4 ⟨rfl, hF4, hB4⟩
    go_wp2_with fail
    first | go_end0 | refine bodyPost_ret (results_none rfl _ _ _) rfl ?_
    exact RO.fl HR ⟨rfl, hF4, hB4⟩
  | true =>
    have HR : Hid (R = .go { s with nx := nx }) := hR.symm
    obtain ⟨B, vV, vS, vH, a, h, hn⟩ := h
    have hgb := h.gb
    have HN := Lib.hid hn
    have c7 := h.at0.cell 7 _ rfl
    have f7 := h.at0.froz 7 (by show 7 < 13; decide)
    have h5 : Hid (Jm (w.setCell ⟨g, 7, none⟩ (.int .i64 (nx : Int))) g β L ro k (flat s.G s.cur) s.G B s.hand vV vS vH nx s.named.isSome a 0 0) := h.set 7 (.int .i64 (nx : Int)) rfl
    have hb5 : Hid (Bx g β w (w.setCell ⟨g, 7, none⟩ (.int .i64 (nx : Int)))) := (Bx.refl' g β w).setG _
    clear h hn hR
    go_enter Try.func51, Try.ntmps51
    go_wp2_with fail
    first | go_end0 | refine bodyPost_ret (results_none rfl _ _ _) rfl ?_
    exact RO.go HR ⟨rfl, ⟨B, _, _, _, a, h5.out, HN.out⟩, hb5⟩
set_option maxRecDepth 100000 in
set_option maxHeartbeats 1600000 in
theorem fclose_any (h : FmS w g β L ro s k) (hh : s.hand = .none) (hG : s.G ≠ []) (hl : s.G.length ≤ 1000) :
    Calls Try.prog 53 #[.pointer (some ⟨g, 0, none⟩)] w (RG s.close g β L ro k w) := by
  obtain ⟨R, hR⟩ : ∃ R, s.close = R := ⟨_, rfl⟩
  rw [hR]
  obtain ⟨t, G, hG'⟩ : ∃ t G, s.G = t :: G := by cases hG' : s.G with | nil => exact absurd hG' hG | cons t G => exact ⟨t, G, rfl⟩
  rw [close_ended s t G hG'] at hR
  obtain ⟨B, vV, vS, vH, a, h, hn⟩ := h
  rw [hG'] at h
  have hB0 := h.maps.length
  obtain ⟨b, B, rfl⟩ : ∃ b B', B = b :: B' := by cases B with | nil => cases hB0 | cons b B => exact ⟨b, B, rfl⟩
  have hgb := h.gb
  obtain ⟨q, cap, rfl, hcap, hq, hAt⟩ := h.top
  obtain ⟨n, hn0⟩ : ∃ n, G.length = n := ⟨_, rfl⟩
  have c6 := h.at0.cell 6 _ rfl
  have f6 := h.at0.froz 6 (by show 6 < 13; decide)
  rw [hn0] at c6 hcap
  have h5 : Hid (FmS (w.setCell ⟨g, 6, none⟩ (.slice (some ⟨q, 0, none⟩) n cap)) g β L ro { s with cur := t.b ++ Js.hold t :: s.cur, G := G } k) := by
    rw [hn0] at h
    have h9 := h.pop rfl hn0
    rw [← flat_close] at h9
    exact ⟨B, _, _, _, a, h9, hn⟩
  have hb5 : Hid (Bx g β w (w.setCell ⟨g, 6, none⟩ (.slice (some ⟨q, 0, none⟩) n cap))) := (Bx.refl' g β w).setG _
  have EN := Lib.hid (fended_any (World.drew (w.setCell ⟨g, 6, none⟩ (.slice (some ⟨q, 0, none⟩) n cap))) g β L ro { s with cur := t.b ++ Js.hold t :: s.cur, G := G } k (h5.out.drewN 1) hh (by rw [hG'] at hl; simp at hl; show G.length ≤ _; omega))
  rw [hG'] at hl
  have e1 : (n : Int) + 1 - 1 = (n : Int) := by omega
  have e2 : IntKind.i64.wrap (n : Int) = (n : Int) := wrap_fit n (by unfold maxLen; simp at hl; omega)
  have e3 : (n : Int) ≤ (cap : Int) := by omega
  rw [hR] at EN
  clear h hAt hn0 hG hG' hl hR hn hB0
  go_enter Try.func53, Try.ntmps53
  go_wp2_with fail
  go_region
  go_wp2_with fail
  refine (EN.out).mono ?_
  rintro e w4 ⟨rfl, hF4, hB4⟩
  go_wp2_with fail
  first | go_end0 | refine bodyPost_ret (results_none rfl _ _ _) rfl ?_
  exact ⟨rfl, hF4, (hb5.out.trans (bx_drewN g β _ 1)).trans hB4.out⟩
set_option maxRecDepth 100000 in
set_option maxHeartbeats 3200000 in
theorem fgoOn_any (h : FmS w g β L ro s k) (hh : s.hand = .none) (hG : s.G ≠ []) (hl : s.G.length ≤ 1000) (p : Nat) (hp : k = p + 1) (hk : k ≤ 262144) (b : UInt8) (t : Nat) (ht : b.toNat = t) :
    Calls Try.prog 52 #[.pointer (some ⟨g, 0, none⟩), .int .u8 (t : Int)] w (RO (s.goOn b p) s.G.length g β L ro k w) := by
  obtain ⟨R, hR⟩ : ∃ R, s.goOn b p = R := ⟨_, rfl⟩
  rw [hR]
  rw [St.goOn] at hR
  obtain ⟨f, G, hG'⟩ : ∃ t G, s.G = t :: G := by cases hG' : s.G with | nil => exact absurd hG' hG | cons t G => exact ⟨t, G, rfl⟩
  have hb : ∀ c : Nat, c < 256 → (b = UInt8.ofNat c ↔ t = c) := fun c hc => by
    constructor
    · intro e; rw [← ht, e]; simp; omega
    · intro e; rw [← e, ← ht]; simp
  have CL := Lib.hid (fun n => fclose_any (w.drewN n) g β L ro s k (h.drewN n) hh hG hl)
  have PA := Lib.hid (fun n r nx => fpass_any (w.drewN n) g β L ro s k (h.drewN n) p hp hk r nx (nx : Int) rfl)
  have hobj : s.object = f.o.isSome := by rw [St.object, hG']
  rw [hobj] at hR
  obtain ⟨B, vV, vS, vH, a, h, hn⟩ := h
  rw [hG'] at h
  have hB0 := h.maps.length
  obtain ⟨bm, B, rfl⟩ : ∃ b B', B = b :: B' := by cases B with | nil => cases hB0 | cons b B => exact ⟨b, B, rfl⟩
  have hbo : bm.isSome = f.o.isSome := by
    cases h.maps with
    | arr _ ho => rw [ho]; rfl
    | obj _ ho _ _ _ => rw [ho]; rfl
  have hgb := h.gb
  obtain ⟨q, cap, rfl, hcap, hq, hAt⟩ := h.top
  obtain ⟨n, hn0⟩ : ∃ n, G.length = n := ⟨_, rfl⟩
  have c6 := h.at0.cell 6 _ rfl
  rw [hn0] at c6 hcap hAt
  have d1 := hAt.cell 1 _ rfl
  rw [hG'] at hl
  have e1 : (n : Int) + 1 - 1 = (n : Int) := by omega
  have e2 : IntKind.i64.wrap (n : Int) = (n : Int) := wrap_fit n (by unfold maxLen; simp at hl; omega)
  have e3 : (n : Int) < (n : Int) + 1 := by omega
  have QN : ∀ (w : World) (r : Option Nat), (binOp .neq 92 (.map r) (.map none)).run Try.prog w = .ok (.bool (!r.isNone)) w := fun w r => run_neq_map_nil w _ _ _ r Try.underlying92
  have hbn : (!bm.isNone) = f.o.isSome := by rw [← hbo]; cases bm <;> rfl
  obtain ⟨o, ho⟩ : ∃ o, f.o.isSome = o := ⟨_, rfl⟩
  rw [ho] at hbn hR
  clear h hAt hn0 hG hG' hl hn hB0 hbo ho hobj hh hp hk
  cases o with
  | true =>
    rw [if_pos rfl] at hR
    by_cases h125 : t = 125
    · have HR : Hid (R = .go s.close) := by show R = _; rw [← hR, if_pos (show b = 125 from (hb 125 (by decide)).2 h125)]
      subst h125
      clear hR hb ht
      go_enter Try.func52, Try.ntmps52
      go_wp2_with fail
      go_quiet (fail)
      go_wp2_with fail
      refine (CL.out _).mono ?_
      rintro e w4 ⟨rfl, hF4, hB4⟩
      go_wp2_with fail
      first | go_end0 | refine bodyPost_ret (results_none rfl _ _ _) rfl ?_
      exact RO.go HR ⟨rfl, hF4, (bx_drewN g β w _).trans hB4.out⟩
    · have HR : Hid (R = s.pass (decide (b = 44)) 2 p) := by show R = _; rw [← hR, if_neg (show ¬ b = 125 from fun e => h125 ((hb 125 (by decide)).1 e))]
      have e5 := eqF (n := t) (c := 125) (by omega)
      have h44 : decide (b = 44) = decide (t = 44) := decide_eq_decide.2 (show b = 44 ↔ t = 44 from hb 44 (by decide))
      rw [h44] at HR
      have h45 : ((t : Int) == 44) = decide (t = 44) := by rw [Bool.eq_iff_iff, beq_iff_eq, decide_eq_true_iff]; omega
      generalize decide (t = 44) = r at *
      clear hR hb ht h44 h125
      go_enter Try.func52, Try.ntmps52
      go_wp2_with fail
      go_quiet (fail)
      go_wp2_with fail
      refine (PA.out _ r 2).mono ?_
      intro e w4 hR4
      rw [← HR.out] at hR4
      obtain ⟨rfl, hB4, hF4⟩ := hR4
      go_wp2_with fail
      first | go_end0 | refine bodyPost_ret (results_none rfl _ _ _) rfl ?_
      exact ⟨rfl, (bx_drewN g β w _).trans hB4.out, hF4⟩
  | false =>
    rw [if_neg (by decide)] at hR
    by_cases h93 : t = 93
    · have HR : Hid (R = .go s.close) := by show R = _; rw [← hR, if_pos (show b = 93 from (hb 93 (by decide)).2 h93)]
      subst h93
      clear hR hb ht
      go_enter Try.func52, Try.ntmps52
      go_wp2_with fail
      go_quiet (fail)
      go_wp2_with fail
      refine (CL.out _).mono ?_
      rintro e w4 ⟨rfl, hF4, hB4⟩
      go_wp2_with fail
      first | go_end0 | refine bodyPost_ret (results_none rfl _ _ _) rfl ?_
      exact RO.go HR ⟨rfl, hF4, (bx_drewN g β w _).trans hB4.out⟩
    · have HR : Hid (R = s.pass (decide (b = 44)) 0 p) := by show R = _; rw [← hR, if_neg (show ¬ b = 93 from fun e => h93 ((hb 93 (by decide)).1 e))]
      have e5 := eqF (n := t) (c := 93) (by omega)
      have h44 : decide (b = 44) = decide (t = 44) := decide_eq_decide.2 (show b = 44 ↔ t = 44 from hb 44 (by decide))
      rw [h44] at HR
      have h45 : ((t : Int) == 44) = decide (t = 44) := by rw [Bool.eq_iff_iff, beq_iff_eq, decide_eq_true_iff]; omega
      generalize decide (t = 44) = r at *
      clear hR hb ht h44 h93
      go_enter Try.func52, Try.ntmps52
      go_wp2_with fail
      go_quiet (fail)
      go_wp2_with fail
      refine (PA.out _ r 0).mono ?_
      intro e w4 hR4
      rw [← HR.out] at hR4
      obtain ⟨rfl, hB4, hF4⟩ := hR4
      go_wp2_with fail
      first | go_end0 | refine bodyPost_ret (results_none rfl _ _ _) rfl ?_
      exact ⟨rfl, (bx_drewN g β w _).trans hB4.out, hF4⟩
end
end Jf
end Go.Proofs.Ytilfidcomeandaa
