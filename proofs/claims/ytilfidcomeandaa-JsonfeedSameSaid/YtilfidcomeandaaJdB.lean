/- json's reader in memory: blank, taken, ended, pass, end, goOn. -/
import Derived.Test.YtilfidcomeandaaJdA
import Derived.Test.YtilfidcomeandaaJrD
import Derived.Test.YtilfidcomeandaaJrF
import Derived.Deep.RegionHeld3
namespace Go.Proofs.Ytilfidcomeandaa
open Go.RowKit
set_option linter.unusedVariables false
set_option linter.unusedSimpArgs false
namespace Jd
open Js
open Dr (Rs Lm has lack)
open Jr (Cl sx wx)
/-- what a step of one byte comes to -/
def RA (o : Out) (p g : Nat) (s : ByteArray) (L : Lm) (ro : Int) (w : World) (e : Ending) (w' : World) : Prop :=
  match o with
  | .go st => e = .returned (.tuple #[]) ∧ Hid (JdS w' g s L ro st (p + 1)) ∧ Hid (Below g w w')
  | .fl c q => e = .panicked (flt c (q : Int)) ∧ Below g w w'
theorem RA.go {o : Out} {st : St} {p g : Nat} {s : ByteArray} {L : Lm} {ro : Int} {w w' : World} (ho : Hid (o = .go st)) (h : Hid (JdS w' g s L ro st (p + 1))) (hb : Hid (Below g w w')) : RA o p g s L ro w (.returned (.tuple #[])) w' := by rw [ho.out]; exact ⟨rfl, h, hb⟩
theorem RA.fl {o : Out} {c : Int} {q p g : Nat} {s : ByteArray} {L : Lm} {ro : Int} {w w' : World} {e : Ending} (ho : Hid (o = .fl c q)) (he : e = .panicked (flt c (q : Int))) (hb : Below g w w') : RA o p g s L ro w e w' := by rw [ho.out]; exact ⟨he, hb⟩
theorem u8lit (b : UInt8) (t : Nat) (ht : b.toNat = t) (c : Nat) (hc : c < 256) : b = UInt8.ofNat c ↔ t = c := by
  constructor
  · intro e; rw [← ht, e]; simp; omega
  · intro e; rw [← e, ← ht]; simp
theorem blank_t (b : UInt8) (t : Nat) (ht : b.toNat = t) : Js.blank b = decide (t = 32 ∨ t = 9 ∨ t = 10 ∨ t = 13) := by
  rw [Js.blank]
  refine decide_eq_decide.2 ?_
  rw [show b = 32 ↔ t = 32 from u8lit b t ht 32 (by decide), show b = 9 ↔ t = 9 from u8lit b t ht 9 (by decide), show b = 10 ↔ t = 10 from u8lit b t ht 10 (by decide), show b = 13 ↔ t = 13 from u8lit b t ht 13 (by decide)]
set_option maxRecDepth 100000 in
set_option maxHeartbeats 1600000 in
theorem dblank_any (b : UInt8) (w : World) : Calls Try.prog 29 #[.int .u8 (b.toNat : Int)] w (fun e w' => e = .returned (.bool (Js.blank b)) ∧ w = w') := by
  obtain ⟨t, ht⟩ : ∃ t, b.toNat = t := ⟨_, rfl⟩
  rw [blank_t b t ht, ht]
  clear ht
  by_cases h1 : t = 32
  · subst h1
    go_enter Try.func29, Try.ntmps29
    go_wp2_with fail
    go_ret
    exact ⟨rfl, rfl⟩
  by_cases h2 : t = 9
  · subst h2
    go_enter Try.func29, Try.ntmps29
    go_wp2_with fail
    go_ret
    exact ⟨rfl, rfl⟩
  by_cases h3 : t = 10
  · subst h3
    go_enter Try.func29, Try.ntmps29
    go_wp2_with fail
    go_ret
    exact ⟨rfl, rfl⟩
  by_cases h4 : t = 13
  · subst h4
    go_enter Try.func29, Try.ntmps29
    go_wp2_with fail
    go_ret
    exact ⟨rfl, rfl⟩
  rw [decide_eq_false (by omega)]
  have e1 := eqF (n := t) (c := 32) (by omega)
  have e2 := eqF (n := t) (c := 9) (by omega)
  have e3 := eqF (n := t) (c := 10) (by omega)
  have e4 := eqF (n := t) (c := 13) (by omega)
  clear h1 h2 h3 h4
  go_enter Try.func29, Try.ntmps29
  go_wp2_with fail
  go_ret
  exact ⟨rfl, rfl⟩
section
variable (w : World) (g : Nat) (s : ByteArray) (L : Lm) (ro : Int) (st : St) (p : Nat)
theorem fail_at (c : Int) (q : Nat) (g : Nat) (w : World) : Calls Try.prog 31 #[.int .i64 c, .int .i64 (q : Int)] w (fun e w' => e = .panicked (flt c (q : Int)) ∧ Below g w w') := by
  refine (fail_any c (q : Int) w).mono ?_
  rintro e w' ⟨rfl, rfl⟩
  exact ⟨rfl, Below.refl _ _⟩
set_option maxRecDepth 100000 in
set_option maxHeartbeats 1600000 in
theorem taken_ok (z : Int) (b : Bool) (hz : (z = 0 ∧ b = true) ∨ (z = 1 ∧ b = false)) : Calls Try.prog 79 #[.pointer (some ⟨g, 0, none⟩), .int .i64 z] w (fun e w' => e = .returned (.bool b) ∧ w = w') := by
  rcases hz with ⟨rfl, rfl⟩ | ⟨rfl, rfl⟩
  · go_enter Try.func79, Try.ntmps79
    go_wp2_with fail
    go_ret
    exact ⟨rfl, rfl⟩
  · go_enter Try.func79, Try.ntmps79
    go_wp2_with fail
    go_ret
    exact ⟨rfl, rfl⟩
set_option maxRecDepth 100000 in
set_option maxHeartbeats 1600000 in
theorem taken_bad (hT : Tx w g 0 s L.bytes (p + 1)) (hp : p ≤ 262144) : Calls Try.prog 79 #[.pointer (some ⟨g, 0, none⟩), .int .i64 3] w (fun e w' => e = .panicked (flt 9 (p : Int)) ∧ Below g w w') := by
  have PL := Lib.hid (place_ok w g s L.bytes (p + 1) hT)
  have FA := Lib.hid (fail_at 9 p g w)
  obtain ⟨z, hz⟩ : ∃ z, p + 1 = z := ⟨_, rfl⟩
  rw [hz] at PL
  have e1 : (z : Int) - 1 = (p : Int) := by omega
  have e2 : IntKind.i64.wrap (p : Int) = (p : Int) := wrap_fit p (by unfold maxLen; omega)
  clear hT hp hz
  go_enter Try.func79, Try.ntmps79
  go_wp2_with (first | (go_at_call 32; refine PL.out.mono ?_; rintro e w1 ⟨rfl, rfl⟩) | (go_at_call 31; refine FA.out.mono ?_; rintro e w1 ⟨rfl, hb⟩))
  exact ⟨rfl, rfl, hb⟩
set_option maxRecDepth 100000 in
set_option maxHeartbeats 1600000 in
theorem dended_any (h : JdS w g s L ro st p) (hG : st.G.length ≤ 1000) :
    Calls Try.prog 65 #[.pointer (some ⟨g, 0, none⟩)] w (fun e w' => e = .returned (.tuple #[]) ∧ Hid (JdS w' g s L ro st.ended p) ∧ Hid (Below g w w')) := by
  obtain ⟨B, vV, vS, h⟩ := h
  have HF := Lib.hid h
  obtain ⟨aS, cS, rfl, -⟩ := own_form h.stack
  obtain ⟨m, hm⟩ : ∃ m, st.G.length = m := ⟨_, rfl⟩
  have c6 := h.at0.cell 9 _ rfl
  rw [hm] at c6
  have c7 := h.at0.cell 7 _ rfl
  have f7 := h.at0.froz 7 (by show 7 < 10; decide)
  have h5 : Hid (Jd (w.setCell ⟨g, 7, none⟩ (.int .i64 5)) g s L ro p 5 (flat st.G st.cur) st.G B vV (.slice aS st.G.length cS)) := HF.out.set 7 (.int .i64 5) rfl
  have h6 : Hid (Jd ((w.setCell ⟨g, 7, none⟩ (.int .i64 5)).setCell ⟨g, 7, none⟩ (.int .i64 6)) g s L ro p 6 (flat st.G st.cur) st.G B vV (.slice aS st.G.length cS)) := h5.out.set 7 (.int .i64 6) rfl
  have hb5 : Hid (Below g w (w.setCell ⟨g, 7, none⟩ (.int .i64 5))) := (Below.refl g w).setCell (p := ⟨g, 7, none⟩) (Nat.le_refl g) _
  have hb6 : Hid (Below g w ((w.setCell ⟨g, 7, none⟩ (.int .i64 5)).setCell ⟨g, 7, none⟩ (.int .i64 6))) := hb5.out.setCell (p := ⟨g, 7, none⟩) (Nat.le_refl g) _
  have HM := Lib.hid hm
  rw [hm] at hG
  by_cases h0 : m = 0
  · have HE : Hid (st.ended = { st with nx := 6, hand := .none }) := by
      show st.ended = _
      have : st.G = [] := List.eq_nil_of_length_eq_zero (by omega)
      rw [St.ended, this]; rfl
    have q0 : ((m : Int) == 0) = true := by rw [beq_iff_eq]; omega
    clear h h0 hm
    go_enter Try.func65, Try.ntmps65
    go_wp2_with fail
    first | go_end0 | refine bodyPost_ret (results_none rfl _ _ _) rfl ?_
    refine ⟨rfl, ?_, hb6⟩
    rw [HE.out]
    exact ⟨B, _, _, h6.out⟩
  · have HE : Hid (st.ended = { st with nx := 5, hand := .none }) := by
      show st.ended = _
      rw [St.ended]
      cases hG : st.G with
      | nil => rw [hG] at hm; exact absurd hm.symm h0
      | cons f G => rfl
    have q0 : ((m : Int) == 0) = false := by rw [beq_eq_false_iff_ne]; omega
    clear h h0 hm h6 hb6
    go_enter Try.func65, Try.ntmps65
    go_wp2_with fail
    first | go_end0 | refine bodyPost_ret (results_none rfl _ _ _) rfl ?_
    refine ⟨rfl, ?_, hb5⟩
    rw [HE.out]
    exact ⟨B, _, _, h5.out⟩
set_option maxRecDepth 100000 in
set_option maxHeartbeats 1600000 in
theorem dpass_any (h : JdS w g s L ro st p) (hE : Env s L) (hh : has s.toList L p = true) (r : Bool) (nx : Nat) (z : Int) (hz : (nx : Int) = z) :
    Calls Try.prog 44 #[.pointer (some ⟨g, 0, none⟩), .bool r, .int .i64 z] w (RA (st.pass r nx p) p g s L ro w) := by
  subst hz
  obtain ⟨R, hR⟩ : ∃ R, st.pass r nx p = R := ⟨_, rfl⟩
  rw [hR]
  rw [St.pass] at hR
  obtain ⟨B, vV, vS, h⟩ := h
  cases r with
  | false =>
    have PL := Lib.hid (place_ok w g s L.bytes p h.tx.1)
    have FA := Lib.hid (fail_at 9 p g w)
    have HR : Hid (R = .fl 9 p) := hR.symm
    clear h hR hh
    go_enter Try.func44, Try.ntmps44
    go_wp2_with (first | (go_at_call 32; refine PL.out.mono ?_; rintro e w1 ⟨rfl, rfl⟩) | (go_at_call 31; refine FA.out.mono ?_; rintro e w1 ⟨rfl, hb⟩))
    exact ⟨rfl, RA.fl HR rfl hb⟩
  | true =>
    have HR : Hid (R = .go { st with nx := nx }) := hR.symm
    have NX := Lib.hid (next_yes w g s L ro p h hE hh _ rfl)
    clear h hR hh
    go_enter Try.func44, Try.ntmps44
    go_wp2_with fail
    refine NX.out.mono ?_
    rintro e w4 ⟨rfl, hF4, hB4, -⟩
    have c7 := hF4.out.at0.cell 7 _ rfl
    have f7 := hF4.out.at0.froz 7 (by show 7 < 10; decide)
    have h5 : Hid (JdS (w4.setCell ⟨g, 7, none⟩ (.int .i64 (nx : Int))) g s L ro { st with nx := nx } (p + 1)) := ⟨B, _, _, hF4.out.set 7 (.int .i64 (nx : Int)) rfl⟩
    go_wp2_with fail
    first | go_end0 | refine bodyPost_ret (results_none rfl _ _ _) rfl ?_
    exact RA.go HR h5 (hB4.out.setCell (p := ⟨g, 7, none⟩) (Nat.le_refl g) _)
set_option maxRecDepth 100000 in
set_option maxHeartbeats 1600000 in
theorem dend_any (h : JdS w g s L ro st p) (hE : Env s L) (hh : has s.toList L p = true) (hG : st.G ≠ []) (hl : st.G.length ≤ 1000) :
    Calls Try.prog 46 #[.pointer (some ⟨g, 0, none⟩)] w (RA (.go st.close) p g s L ro w) := by
  obtain ⟨R, hR⟩ : ∃ R, st.close = R := ⟨_, rfl⟩
  rw [hR]
  obtain ⟨t, G, hG'⟩ : ∃ t G, st.G = t :: G := by cases hG' : st.G with | nil => exact absurd hG' hG | cons t G => exact ⟨t, G, rfl⟩
  rw [close_ended st t G hG'] at hR
  obtain ⟨B, vV, vS, h⟩ := h
  rw [hG'] at h
  have hB0 := h.maps.length
  obtain ⟨b, B, rfl⟩ : ∃ b B', B = b :: B' := by cases B with | nil => cases hB0 | cons b B => exact ⟨b, B, rfl⟩
  have NX := Lib.hid (next_yes w g s L ro p h hE hh _ rfl)
  rw [hG'] at hl
  have HL := Lib.hid hl
  clear h hG hG' hl hB0 hh
  go_enter Try.func46, Try.ntmps46
  go_wp2_with fail
  refine NX.out.mono ?_
  rintro e w1 ⟨rfl, hF1, hB1, -⟩
  obtain ⟨q, cap, rfl, hcap, hq, hAt⟩ := hF1.out.top
  obtain ⟨n, hn0⟩ : ∃ n, G.length = n := ⟨_, rfl⟩
  have c9 := hF1.out.at0.cell 9 _ rfl
  have f9 := hF1.out.at0.froz 9 (by show 9 < 10; decide)
  rw [hn0] at c9 hcap
  have h5 : Hid (JdS (w1.setCell ⟨g, 9, none⟩ (.slice (some ⟨q, 0, none⟩) n cap)) g s L ro { st with cur := t.b ++ Js.hold t :: st.cur, G := G } (p + 1)) := by
    have h8 := hF1.out
    rw [hn0] at h8
    have h9 := h8.pop rfl hn0
    rw [← flat_close] at h9
    exact ⟨B, _, _, h9⟩
  have hb5 : Hid (Below g w (w1.setCell ⟨g, 9, none⟩ (.slice (some ⟨q, 0, none⟩) n cap))) := hB1.out.setCell (p := ⟨g, 9, none⟩) (Nat.le_refl g) _
  have EN := Lib.hid (dended_any (World.drew (w1.setCell ⟨g, 9, none⟩ (.slice (some ⟨q, 0, none⟩) n cap))) g s L ro { st with cur := t.b ++ Js.hold t :: st.cur, G := G } (p + 1) (h5.out.drewN 1) (by have := HL.out; simp at this; show G.length ≤ _; omega))
  have e1 : (n : Int) + 1 - 1 = (n : Int) := by omega
  have e2 : IntKind.i64.wrap (n : Int) = (n : Int) := wrap_fit n (by have := HL.out; unfold maxLen; simp at this; omega)
  have e3 : (n : Int) ≤ (cap : Int) := by omega
  rw [hR] at EN
  clear hAt hn0 hR hF1
  go_wp2_with fail
  go_region
  go_wp2_with fail
  refine (EN.out).mono ?_
  rintro e w4 ⟨rfl, hF4, hB4⟩
  go_wp2_with fail
  first | go_end0 | refine bodyPost_ret (results_none rfl _ _ _) rfl ?_
  exact ⟨rfl, hF4, (hb5.out.trans (below_drewN g _ 1)).trans hB4.out⟩
end
end Jd
end Go.Proofs.Ytilfidcomeandaa
