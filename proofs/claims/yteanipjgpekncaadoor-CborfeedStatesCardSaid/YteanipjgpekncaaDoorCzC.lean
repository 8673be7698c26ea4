/- The document's head of an item: of several bytes; whole. -/
import Derived.Test.YteanipjgpekncaaDoorCzB
namespace Go.Proofs.YteanipjgpekncaaDoor
open Go.RowKit
set_option linter.unusedVariables false
set_option linter.unusedSimpArgs false
namespace Cz
open Co
open Cs (lackK elK finK RunsT argB_ok)
open Dr (Rs Lm has lack at0S lackE lackP)
section
variable {w w' : World} {g : Nat} {s : ByteArray} {L : Lm} {ro : Int} {O : List Am} {fr p K : Nat} {r : Rs Nat} {e : Ending}
theorem DHead.yes {n x q : Nat} (hr : r = .ok n) (hk : kindT (s.toList.getD p 0) = x) (hq : p + 1 + widT (s.toList.getD p 0) = q) (he : e = .returned (.tuple #[.int .i64 (x : Int), .int .u64 (n : Int), .int .i64 (q : Int), .bool true])) (h1 : Hid (Gok w' g s L ro O fr q)) (h2 : Hid (Below g w w')) : DHead r K p s L ro g O fr w e w' := by
  subst hr hk hq
  exact ⟨he, h1, h2⟩
theorem DHead.nay {c : Int} {q : Nat} {b : Bool} (hr : r = .no c q b) (he : e = .returned (.tuple #[.int .i64 0, .int .u64 0, .int .i64 0, .bool false])) (h1 : Hid (Gno w' g s L ro c q b K fr)) (h2 : Hid (Below g w w')) : DHead r K p s L ro g O fr w e w' := by
  subst hr
  exact ⟨he, h1, h2⟩
theorem argR_wide {n W : Nat} (hw : widT (s.toList.getD p 0) = W) (h0 : W = 1 ∨ W = 2 ∨ W = 4 ∨ W = 8) (hA : argB s.toList L p W = .ok n) : argR s.toList L p = if widN n = W then .ok n else .no 9 p false := by
  subst hw
  have h1 := argR_of L p (by omega) hA
  have hn := argB_lt p _ n hA
  have h2 := short_iff _ n h0 hn
  rw [h1]
  by_cases h3 : widN n = widT (s.toList.getD p 0)
  · rw [if_pos (h2.2 h3), if_pos h3]
  · rw [if_neg (fun h => h3 (h2.1 h)), if_neg h3]
end
section
variable (w : World) (g : Nat) (s : ByteArray) (L : Lm) (ro : Int) (O : List Am) (fr p : Nat)
set_option maxRecDepth 100000 in
set_option maxHeartbeats 1600000 in
theorem ghead_w1 (hR : Gok w g s L ro O fr p) (hz : s.size ≤ 140737488351232) (h0 : p < s.size ∧ p < L.bytes) (h2 : ¬ L.items ≤ O.length) (h4 : infT (s.toList.getD p 0) = 24) (h5 : kindT (s.toList.getD p 0) ≠ 7) (K : Nat) (hK1 : ∀ n, argB s.toList L p (widT (s.toList.getD p 0)) = .ok n → K = p + 1 + widT (s.toList.getD p 0)) (hK2 : ∀ c q b, argB s.toList L p (widT (s.toList.getD p 0)) = .no c q b → K = lackK s.toList L) :
    Calls Tryd.prog 75 #[.pointer (some ⟨g, 0, none⟩), .int .i64 (p : Int)] w (DHead (argR s.toList L p) K p s L ro g O fr w) := by
  have HK1 := Lib.hid hK1
  have HK2 := Lib.hid hK2
  clear hK1 hK2
  have W := Lib.hid (gwant_yes hR (p : Int) p rfl h0.1 h0.2 hz (Nat.le_succ p))
  obtain ⟨m, hm⟩ : ∃ m, O.length = m := ⟨_, rfl⟩
  have HM := Lib.hid hm
  have e1 : ¬ (L.items : Int) ≤ (m : Int) := by omega
  have e1b : decide ((L.items : Int) ≤ (m : Int)) = false := decide_eq_false e1
  obtain ⟨t, ht⟩ : ∃ t, (s.toList.getD p 0).toNat = t := ⟨_, rfl⟩
  have ht2 : t < 256 := by rw [← ht]; exact (s.toList.getD p 0).toNat_lt
  have hlt : p < s.size := h0.1
  have hsp : (s[p]'hlt).toNat = t := by rw [← gtl_getD s p hlt]; exact ht
  have e10 : (p : Int) ≤ 140737488351232 := by omega
  have e2 : IntKind.i64.wrap (t : Int) = (t : Int) := wrap_fit t (by unfold maxLen; omega)
  obtain ⟨x, hx⟩ : ∃ x, t / 32 = x := ⟨_, rfl⟩
  have e3 : (t : Int) / 32 = (x : Int) := by omega
  have e4 : IntKind.i64.wrap (x : Int) = (x : Int) := wrap_fit x (by unfold maxLen; omega)
  obtain ⟨y, hy⟩ : ∃ y, t % 32 = y := ⟨_, rfl⟩
  have e5 : (t : Int) % 32 = (y : Int) := by omega
  have e6 : IntKind.i64.wrap (y : Int) = (y : Int) := wrap_fit y (by unfold maxLen; omega)
  have hkx : kindT (s.toList.getD p 0) = x := by rw [kindT, ht, hx]
  have hiy : infT (s.toList.getD p 0) = y := by rw [infT, ht, hy]
  have hw : widT (s.toList.getD p 0) = 1 := by rw [widT, h4]; rfl
  have HW0 := Lib.hid hw
  have HK := Lib.hid hkx
  rw [hiy] at h4
  have e5n : (t : Int) % 32 = 24 := by omega
  rw [hkx] at h5
  have e8 : ¬ (x : Int) = 7 := by omega
  clear e5 e6
  have hx8 : x < 8 := by omega
  have RH := Lib.hid (fun n (hn : n < 18446744073709551616) w => rhead_any x n hx8 hn w)
  have WY := Lib.hid (fun w' (q : Nat) (h1 : q < s.size) (h2 : q < L.bytes) (h : Gok w' g s L ro O fr q) => gwant_yes h (q : Int) q rfl h1 h2 hz (Nat.le_succ q))
  have WN := Lib.hid (fun w' (q : Nat) (h1 : ¬ (q < s.size ∧ q < L.bytes)) (h : Gok w' g s L ro O fr q) => gwant_no h (q : Int) q rfl h1)
  have HZ := Lib.hid (And.intro hz hlt)
  have hix : ∀ w : World, (Instr.index 128 (.agg #[.int .i64 1, .int .i64 2, .int .i64 4, .int .i64 8]) (.int .i64 0)).run Tryd.prog w = .ok (.int .i64 1) w := fun _ => rfl
  clear hR hz h0 h2 hm ht hx hy ht2 hkx hiy h4 h5 hx8 hw
  go_enter Tryd.func75, Tryd.ntmps75
  go_wp2_with (first | (go_at_call 52; refine W.out.mono ?_; rintro e w1 ⟨rfl, HQ1, HB1⟩; obtain ⟨a1, c1, HR1⟩ := HQ1.out.opn; have g0 := HQ1.out.txt))
  have k11 := HR1.out.at0.cell 11 _ rfl
  have k2 := HR1.out.at0.cell 2 _ rfl
  rw [HM.out] at k11
  have g0N : ∀ k, (w1.drewN k).cell? ⟨g, 0, none⟩ = some (.string s) := fun _ => g0
  go_quiet (fail)
  have HQ0 := Lib.hid (HQ1.out.drewN nq)
  have HB0 : Hid (Below g w (w1.drewN nq)) := HB1.out.trans (Co.below_drewN _ _ _)
  obtain ⟨wq, hwq⟩ : ∃ v, w1.drewN nq = v := ⟨_, rfl⟩
  rw [hwq] at HQ0 HB0
  try rw [hwq]
  clear hwq k11 k2 g0N g0
  have g0 := HQ0.out.txt
  go_wp2_with fail
  clear g0
  go_loopw [11, 12] (fun vn vi wr => ∃ i j n : Nat, i + 1 = j ∧ vi = .int .i64 (j : Int) ∧ vn = .int .u64 (n : Int) ∧ i ≤ 1 ∧ Hid (argB s.toList L p i = .ok n) ∧ Hid (Gok wr g s L ro O fr (p + j)) ∧ Hid (Below g w wr)) (fun _ vi _ => 2 - (intOf vi).toNat)
  case atStart => exact ⟨0, 1, 0, rfl, rfl, rfl, Nat.zero_le _, rfl, HQ0, HB0⟩
  case round =>
    obtain ⟨i, j, n, hj, rfl, rfl, hil, HA, HQ, HB⟩ := hrel
    clear HQ0 HB0
    have hn := argB_lt p i n HA.out
    by_cases hi : i = 1
    · subst hi
      obtain rfl : j = 2 := hj.symm
      have hn9 : n < 18446744073709551616 := Nat.lt_of_lt_of_le hn (by decide)
      have RH1 := Lib.hid (RH.out n hn9)
      have hA := argR_wide HW0.out (by decide) HA.out
      have HKA : Hid (K = p + 2) := by
        have h9 := HK1.out n (by rw [HW0.out]; exact HA.out)
        rw [HW0.out] at h9
        show K = p + 2
        omega
      have hz2 := hdN_length x n
      obtain ⟨wd, hwd⟩ : ∃ z, widN n = z := ⟨_, rfl⟩
      rw [hwd] at hA hz2
      by_cases hs : wd = 1
      · subst hs
        rw [if_pos rfl] at hA
        have HA3 := Lib.hid hA
        have HZZ := Lib.hid hz2
        obtain ⟨q1, hq1⟩ : ∃ q, p + 1 = q := ⟨_, rfl⟩
        obtain ⟨q, hq⟩ : ∃ q, q1 + 1 = q := ⟨_, rfl⟩
        have e20 : (p : Int) + 1 = (q1 : Int) := by omega
        have e21 : IntKind.i64.wrap (q1 : Int) = (q1 : Int) := wrap_fit q1 (by have := HZ.out; unfold maxLen; omega)
        have e22 : (q1 : Int) + 1 = (q : Int) := by omega
        have e23 : IntKind.i64.wrap (q : Int) = (q : Int) := wrap_fit q (by have := HZ.out; unfold maxLen; omega)
        have HQq : Hid (p + 1 + widT (s.toList.getD p 0) = q) := by show _ = _; rw [HW0.out, hq1, hq]
        have HQP : Hid (p + 2 = q) := by show p + 2 = q; omega
        clear hn hn9 hz2 hA hil hq hq1 hj hwd
        go_wp2_with (first | (go_at_call 61; refine (RH1.out _).mono ?_; rintro e w2 ⟨u, rfl, hu, hb2⟩; have hus : u.size = 2 := (by rw [← tl_size, hu]; exact HZZ.out); have HQ2 := Lib.hid (HQ.out.below hb2); have HB2 : Hid (Below g w w2) := HB.out.trans (hb2.mono (Nat.le_of_lt HQ.out.lt)); clear hb2 hu))
        (try simp only [Exit.inBlock, Exit.then])
        refine bodyPost_ret (results_four rfl _ _ _) rfl ?_
        exact DHead.yes HA3.out HK.out HQq.out rfl (by rw [← HQP.out]; exact HQ2) HB2
      · rw [if_neg hs] at hA
        have HA3 := Lib.hid hA
        obtain ⟨z, hz⟩ : ∃ z, wd + 1 = z := ⟨_, rfl⟩
        rw [hz] at hz2
        have HZZ := Lib.hid hz2
        have e20 : ¬ (z : Int) = 2 := by omega
        clear hn hn9 hz2 hA hil hj hwd hs hz
        go_wp2_with (first
          | (go_at_call 61; refine (RH1.out _).mono ?_; rintro e w2 ⟨u, rfl, hu, hb2⟩; have hus : u.size = z := (by rw [← tl_size, hu]; exact HZZ.out); have HQ2 := Lib.hid (HQ.out.below hb2); have HB2 : Hid (Below g w w2) := HB.out.trans (hb2.mono (Nat.le_of_lt HQ.out.lt)); clear hb2 hu)
          | (go_at_call 53; refine (gfault17_ok HQ2.out _ _ p rfl).mono ?_; rintro e wf ⟨rfl, HRF, HBF⟩))
        (try simp only [Exit.inBlock, Exit.then])
        refine bodyPost_ret (results_four rfl _ _ _) rfl ?_
        exact DHead.nay HA3.out rfl (by rw [HKA.out]; exact HRF) (HB2.out.trans HBF.out)
    · obtain ⟨q, hq⟩ : ∃ q, p + j = q := ⟨_, rfl⟩
      have hij : p + i + 1 = q := by omega
      have e20 : (p : Int) + (j : Int) = (q : Int) := by omega
      have e21 : IntKind.i64.wrap (q : Int) = (q : Int) := wrap_fit q (by have := HZ.out; unfold maxLen; omega)
      have e22 : (j : Int) ≤ 1 := by omega
      by_cases h1 : q < s.size ∧ q < L.bytes
      · have WY1 := Lib.hid (WY.out _ q h1.1 h1.2 (by rw [← hq]; exact HQ.out))
        have hqs := h1.1
        obtain ⟨d, hd⟩ : ∃ d, (s.toList.getD q 0).toNat = d := ⟨_, rfl⟩
        have hd2 : d < 256 := by rw [← hd]; exact (s.toList.getD q 0).toNat_lt
        have hsq : (s[q]'hqs).toNat = d := by rw [← gtl_getD s q hqs]; exact hd
        have hn6 : n < 256 ^ 7 := Nat.lt_of_lt_of_le hn (Nat.pow_le_pow_right (by decide) (by omega))
        have hn7 : n < 72057594037927936 := hn6
        obtain ⟨m1, hm1⟩ : ∃ q, n * 256 = q := ⟨_, rfl⟩
        have e23 : (n : Int) * 256 = (m1 : Int) := by omega
        have e24 : IntKind.u64.wrap (m1 : Int) = (m1 : Int) := u64c m1 (by omega)
        have e25 : IntKind.u64.wrap (d : Int) = (d : Int) := u64c d (by omega)
        obtain ⟨n2, hn2⟩ : ∃ q, m1 + d = q := ⟨_, rfl⟩
        have e26 : (m1 : Int) + (d : Int) = (n2 : Int) := by omega
        have e27 : IntKind.u64.wrap (n2 : Int) = (n2 : Int) := u64c n2 (by omega)
        obtain ⟨j2, hj2⟩ : ∃ q, j + 1 = q := ⟨_, rfl⟩
        have e28 : (j : Int) + 1 = (j2 : Int) := by omega
        have e29 : IntKind.i64.wrap (j2 : Int) = (j2 : Int) := wrap_fit j2 (by unfold maxLen; omega)
        have HA4 : Hid (argB s.toList L p j = .ok n2) := by
          show _ = _
          rw [← hj, argB_next HA.out (by rw [hij]; exact has_yes s L q h1) (show at0S s.toList (p + i + 1) = d by rw [hij]; exact hd)]
          congr 1
          omega
        have HJ : Hid (j + 1 = j2 ∧ j ≤ 1) := ⟨hj2, by omega⟩
        have HQJ : Hid (q + 1 = p + j2) := by show q + 1 = p + j2; omega
        clear hn hn6 hn7 hm1 hn2 hd hd2 h1 hq hij hi hil hj hj2
        go_wp2_with (first | (go_at_call 52; refine WY1.out.mono ?_; rintro e w2 ⟨rfl, HQ2, hb2⟩; have HB2 : Hid (Below g w w2) := HB.out.trans hb2.out; have g2 := HQ2.out.txt; clear hb2))
        go_roundw
        case rel => exact ⟨j, j2, n2, HJ.out.1, rfl, rfl, HJ.out.2, HA4, by rw [← HQJ.out]; exact HQ2, HB2⟩
        case measure => have := HJ.out; simp [intOf]; omega
      · have WN1 := Lib.hid (WN.out _ q h1 (by rw [← hq]; exact HQ.out))
        have hA := argR_no (S := s.toList) L p (by rw [HW0.out]; exact argB_no ((argB_lack HA.out (by rw [hij]; exact has_no s L q h1)).trans (glack_eq s L)) (show i + 1 ≤ 1 by omega))
        have HKL : Hid (K = lackK s.toList L) := HK2.out _ _ _ (by rw [HW0.out]; exact argB_no ((argB_lack HA.out (by rw [hij]; exact has_no s L q h1)).trans (glack_eq s L)) (show i + 1 ≤ 1 by omega))
        have HA3 := Lib.hid hA
        clear hn h1 hq hij hi hil hj hA
        go_wp2_with (first | (go_at_call 52; refine WN1.out.mono ?_; rintro e w2 ⟨rfl, HQ2, hb2⟩; have HB2 : Hid (Below g w w2) := HB.out.trans hb2.out; clear hb2))
        (try simp only [Exit.inBlock, Exit.then])
        refine bodyPost_ret (results_four rfl _ _ _) rfl ?_
        exact DHead.nay HA3.out rfl (by rw [HKL.out]; exact HQ2) HB2
set_option maxRecDepth 100000 in
set_option maxHeartbeats 1600000 in
theorem ghead_w2 (hR : Gok w g s L ro O fr p) (hz : s.size ≤ 140737488351232) (h0 : p < s.size ∧ p < L.bytes) (h2 : ¬ L.items ≤ O.length) (h4 : infT (s.toList.getD p 0) = 25) (h5 : kindT (s.toList.getD p 0) ≠ 7) (K : Nat) (hK1 : ∀ n, argB s.toList L p (widT (s.toList.getD p 0)) = .ok n → K = p + 1 + widT (s.toList.getD p 0)) (hK2 : ∀ c q b, argB s.toList L p (widT (s.toList.getD p 0)) = .no c q b → K = lackK s.toList L) :
    Calls Tryd.prog 75 #[.pointer (some ⟨g, 0, none⟩), .int .i64 (p : Int)] w (DHead (argR s.toList L p) K p s L ro g O fr w) := by
  have HK1 := Lib.hid hK1
  have HK2 := Lib.hid hK2
  clear hK1 hK2
  have W := Lib.hid (gwant_yes hR (p : Int) p rfl h0.1 h0.2 hz (Nat.le_succ p))
  obtain ⟨m, hm⟩ : ∃ m, O.length = m := ⟨_, rfl⟩
  have HM := Lib.hid hm
  have e1 : ¬ (L.items : Int) ≤ (m : Int) := by omega
  have e1b : decide ((L.items : Int) ≤ (m : Int)) = false := decide_eq_false e1
  obtain ⟨t, ht⟩ : ∃ t, (s.toList.getD p 0).toNat = t := ⟨_, rfl⟩
  have ht2 : t < 256 := by rw [← ht]; exact (s.toList.getD p 0).toNat_lt
  have hlt : p < s.size := h0.1
  have hsp : (s[p]'hlt).toNat = t := by rw [← gtl_getD s p hlt]; exact ht
  have e10 : (p : Int) ≤ 140737488351232 := by omega
  have e2 : IntKind.i64.wrap (t : Int) = (t : Int) := wrap_fit t (by unfold maxLen; omega)
  obtain ⟨x, hx⟩ : ∃ x, t / 32 = x := ⟨_, rfl⟩
  have e3 : (t : Int) / 32 = (x : Int) := by omega
  have e4 : IntKind.i64.wrap (x : Int) = (x : Int) := wrap_fit x (by unfold maxLen; omega)
  obtain ⟨y, hy⟩ : ∃ y, t % 32 = y := ⟨_, rfl⟩
  have e5 : (t : Int) % 32 = (y : Int) := by omega
  have e6 : IntKind.i64.wrap (y : Int) = (y : Int) := wrap_fit y (by unfold maxLen; omega)
  have hkx : kindT (s.toList.getD p 0) = x := by rw [kindT, ht, hx]
  have hiy : infT (s.toList.getD p 0) = y := by rw [infT, ht, hy]
  have hw : widT (s.toList.getD p 0) = 2 := by rw [widT, h4]; rfl
  have HW0 := Lib.hid hw
  have HK := Lib.hid hkx
  rw [hiy] at h4
  have e5n : (t : Int) % 32 = 25 := by omega
  rw [hkx] at h5
  have e8 : ¬ (x : Int) = 7 := by omega
  clear e5 e6
  have hx8 : x < 8 := by omega
  have RH := Lib.hid (fun n (hn : n < 18446744073709551616) w => rhead_any x n hx8 hn w)
  have WY := Lib.hid (fun w' (q : Nat) (h1 : q < s.size) (h2 : q < L.bytes) (h : Gok w' g s L ro O fr q) => gwant_yes h (q : Int) q rfl h1 h2 hz (Nat.le_succ q))
  have WN := Lib.hid (fun w' (q : Nat) (h1 : ¬ (q < s.size ∧ q < L.bytes)) (h : Gok w' g s L ro O fr q) => gwant_no h (q : Int) q rfl h1)
  have HZ := Lib.hid (And.intro hz hlt)
  have hix : ∀ w : World, (Instr.index 128 (.agg #[.int .i64 1, .int .i64 2, .int .i64 4, .int .i64 8]) (.int .i64 1)).run Tryd.prog w = .ok (.int .i64 2) w := fun _ => rfl
  clear hR hz h0 h2 hm ht hx hy ht2 hkx hiy h4 h5 hx8 hw
  go_enter Tryd.func75, Tryd.ntmps75
  go_wp2_with (first | (go_at_call 52; refine W.out.mono ?_; rintro e w1 ⟨rfl, HQ1, HB1⟩; obtain ⟨a1, c1, HR1⟩ := HQ1.out.opn; have g0 := HQ1.out.txt))
  have k11 := HR1.out.at0.cell 11 _ rfl
  have k2 := HR1.out.at0.cell 2 _ rfl
  rw [HM.out] at k11
  have g0N : ∀ k, (w1.drewN k).cell? ⟨g, 0, none⟩ = some (.string s) := fun _ => g0
  go_quiet (fail)
  have HQ0 := Lib.hid (HQ1.out.drewN nq)
  have HB0 : Hid (Below g w (w1.drewN nq)) := HB1.out.trans (Co.below_drewN _ _ _)
  obtain ⟨wq, hwq⟩ : ∃ v, w1.drewN nq = v := ⟨_, rfl⟩
  rw [hwq] at HQ0 HB0
  try rw [hwq]
  clear hwq k11 k2 g0N g0
  have g0 := HQ0.out.txt
  go_wp2_with fail
  clear g0
  go_loopw [11, 12] (fun vn vi wr => ∃ i j n : Nat, i + 1 = j ∧ vi = .int .i64 (j : Int) ∧ vn = .int .u64 (n : Int) ∧ i ≤ 2 ∧ Hid (argB s.toList L p i = .ok n) ∧ Hid (Gok wr g s L ro O fr (p + j)) ∧ Hid (Below g w wr)) (fun _ vi _ => 3 - (intOf vi).toNat)
  case atStart => exact ⟨0, 1, 0, rfl, rfl, rfl, Nat.zero_le _, rfl, HQ0, HB0⟩
  case round =>
    obtain ⟨i, j, n, hj, rfl, rfl, hil, HA, HQ, HB⟩ := hrel
    clear HQ0 HB0
    have hn := argB_lt p i n HA.out
    by_cases hi : i = 2
    · subst hi
      obtain rfl : j = 3 := hj.symm
      have hn9 : n < 18446744073709551616 := Nat.lt_of_lt_of_le hn (by decide)
      have RH1 := Lib.hid (RH.out n hn9)
      have hA := argR_wide HW0.out (by decide) HA.out
      have HKA : Hid (K = p + 3) := by
        have h9 := HK1.out n (by rw [HW0.out]; exact HA.out)
        rw [HW0.out] at h9
        show K = p + 3
        omega
      have hz2 := hdN_length x n
      obtain ⟨wd, hwd⟩ : ∃ z, widN n = z := ⟨_, rfl⟩
      rw [hwd] at hA hz2
      by_cases hs : wd = 2
      · subst hs
        rw [if_pos rfl] at hA
        have HA3 := Lib.hid hA
        have HZZ := Lib.hid hz2
        obtain ⟨q1, hq1⟩ : ∃ q, p + 1 = q := ⟨_, rfl⟩
        obtain ⟨q, hq⟩ : ∃ q, q1 + 2 = q := ⟨_, rfl⟩
        have e20 : (p : Int) + 1 = (q1 : Int) := by omega
        have e21 : IntKind.i64.wrap (q1 : Int) = (q1 : Int) := wrap_fit q1 (by have := HZ.out; unfold maxLen; omega)
        have e22 : (q1 : Int) + 2 = (q : Int) := by omega
        have e23 : IntKind.i64.wrap (q : Int) = (q : Int) := wrap_fit q (by have := HZ.out; unfold maxLen; omega)
        have HQq : Hid (p + 1 + widT (s.toList.getD p 0) = q) := by show _ = _; rw [HW0.out, hq1, hq]
        have HQP : Hid (p + 3 = q) := by show p + 3 = q; omega
        clear hn hn9 hz2 hA hil hq hq1 hj hwd
        go_wp2_with (first | (go_at_call 61; refine (RH1.out _).mono ?_; rintro e w2 ⟨u, rfl, hu, hb2⟩; have hus : u.size = 3 := (by rw [← tl_size, hu]; exact HZZ.out); have HQ2 := Lib.hid (HQ.out.below hb2); have HB2 : Hid (Below g w w2) := HB.out.trans (hb2.mono (Nat.le_of_lt HQ.out.lt)); clear hb2 hu))
        (try simp only [Exit.inBlock, Exit.then])
        refine bodyPost_ret (results_four rfl _ _ _) rfl ?_
        exact DHead.yes HA3.out HK.out HQq.out rfl (by rw [← HQP.out]; exact HQ2) HB2
      · rw [if_neg hs] at hA
        have HA3 := Lib.hid hA
        obtain ⟨z, hz⟩ : ∃ z, wd + 1 = z := ⟨_, rfl⟩
        rw [hz] at hz2
        have HZZ := Lib.hid hz2
        have e20 : ¬ (z : Int) = 3 := by omega
        clear hn hn9 hz2 hA hil hj hwd hs hz
        go_wp2_with (first
          | (go_at_call 61; refine (RH1.out _).mono ?_; rintro e w2 ⟨u, rfl, hu, hb2⟩; have hus : u.size = z := (by rw [← tl_size, hu]; exact HZZ.out); have HQ2 := Lib.hid (HQ.out.below hb2); have HB2 : Hid (Below g w w2) := HB.out.trans (hb2.mono (Nat.le_of_lt HQ.out.lt)); clear hb2 hu)
          | (go_at_call 53; refine (gfault17_ok HQ2.out _ _ p rfl).mono ?_; rintro e wf ⟨rfl, HRF, HBF⟩))
        (try simp only [Exit.inBlock, Exit.then])
        refine bodyPost_ret (results_four rfl _ _ _) rfl ?_
        exact DHead.nay HA3.out rfl (by rw [HKA.out]; exact HRF) (HB2.out.trans HBF.out)
    · obtain ⟨q, hq⟩ : ∃ q, p + j = q := ⟨_, rfl⟩
      have hij : p + i + 1 = q := by omega
      have e20 : (p : Int) + (j : Int) = (q : Int) := by omega
      have e21 : IntKind.i64.wrap (q : Int) = (q : Int) := wrap_fit q (by have := HZ.out; unfold maxLen; omega)
      have e22 : (j : Int) ≤ 2 := by omega
      by_cases h1 : q < s.size ∧ q < L.bytes
      · have WY1 := Lib.hid (WY.out _ q h1.1 h1.2 (by rw [← hq]; exact HQ.out))
        have hqs := h1.1
        obtain ⟨d, hd⟩ : ∃ d, (s.toList.getD q 0).toNat = d := ⟨_, rfl⟩
        have hd2 : d < 256 := by rw [← hd]; exact (s.toList.getD q 0).toNat_lt
        have hsq : (s[q]'hqs).toNat = d := by rw [← gtl_getD s q hqs]; exact hd
        have hn6 : n < 256 ^ 7 := Nat.lt_of_lt_of_le hn (Nat.pow_le_pow_right (by decide) (by omega))
        have hn7 : n < 72057594037927936 := hn6
        obtain ⟨m1, hm1⟩ : ∃ q, n * 256 = q := ⟨_, rfl⟩
        have e23 : (n : Int) * 256 = (m1 : Int) := by omega
        have e24 : IntKind.u64.wrap (m1 : Int) = (m1 : Int) := u64c m1 (by omega)
        have e25 : IntKind.u64.wrap (d : Int) = (d : Int) := u64c d (by omega)
        obtain ⟨n2, hn2⟩ : ∃ q, m1 + d = q := ⟨_, rfl⟩
        have e26 : (m1 : Int) + (d : Int) = (n2 : Int) := by omega
        have e27 : IntKind.u64.wrap (n2 : Int) = (n2 : Int) := u64c n2 (by omega)
        obtain ⟨j2, hj2⟩ : ∃ q, j + 1 = q := ⟨_, rfl⟩
        have e28 : (j : Int) + 1 = (j2 : Int) := by omega
        have e29 : IntKind.i64.wrap (j2 : Int) = (j2 : Int) := wrap_fit j2 (by unfold maxLen; omega)
        have HA4 : Hid (argB s.toList L p j = .ok n2) := by
          show _ = _
          rw [← hj, argB_next HA.out (by rw [hij]; exact has_yes s L q h1) (show at0S s.toList (p + i + 1) = d by rw [hij]; exact hd)]
          congr 1
          omega
        have HJ : Hid (j + 1 = j2 ∧ j ≤ 2) := ⟨hj2, by omega⟩
        have HQJ : Hid (q + 1 = p + j2) := by show q + 1 = p + j2; omega
        clear hn hn6 hn7 hm1 hn2 hd hd2 h1 hq hij hi hil hj hj2
        go_wp2_with (first | (go_at_call 52; refine WY1.out.mono ?_; rintro e w2 ⟨rfl, HQ2, hb2⟩; have HB2 : Hid (Below g w w2) := HB.out.trans hb2.out; have g2 := HQ2.out.txt; clear hb2))
        go_roundw
        case rel => exact ⟨j, j2, n2, HJ.out.1, rfl, rfl, HJ.out.2, HA4, by rw [← HQJ.out]; exact HQ2, HB2⟩
        case measure => have := HJ.out; simp [intOf]; omega
      · have WN1 := Lib.hid (WN.out _ q h1 (by rw [← hq]; exact HQ.out))
        have hA := argR_no (S := s.toList) L p (by rw [HW0.out]; exact argB_no ((argB_lack HA.out (by rw [hij]; exact has_no s L q h1)).trans (glack_eq s L)) (show i + 1 ≤ 2 by omega))
        have HKL : Hid (K = lackK s.toList L) := HK2.out _ _ _ (by rw [HW0.out]; exact argB_no ((argB_lack HA.out (by rw [hij]; exact has_no s L q h1)).trans (glack_eq s L)) (show i + 1 ≤ 2 by omega))
        have HA3 := Lib.hid hA
        clear hn h1 hq hij hi hil hj hA
        go_wp2_with (first | (go_at_call 52; refine WN1.out.mono ?_; rintro e w2 ⟨rfl, HQ2, hb2⟩; have HB2 : Hid (Below g w w2) := HB.out.trans hb2.out; clear hb2))
        (try simp only [Exit.inBlock, Exit.then])
        refine bodyPost_ret (results_four rfl _ _ _) rfl ?_
        exact DHead.nay HA3.out rfl (by rw [HKL.out]; exact HQ2) HB2
set_option maxRecDepth 100000 in
set_option maxHeartbeats 1600000 in
theorem ghead_w4 (hR : Gok w g s L ro O fr p) (hz : s.size ≤ 140737488351232) (h0 : p < s.size ∧ p < L.bytes) (h2 : ¬ L.items ≤ O.length) (h4 : infT (s.toList.getD p 0) = 26) (h5 : kindT (s.toList.getD p 0) ≠ 7) (K : Nat) (hK1 : ∀ n, argB s.toList L p (widT (s.toList.getD p 0)) = .ok n → K = p + 1 + widT (s.toList.getD p 0)) (hK2 : ∀ c q b, argB s.toList L p (widT (s.toList.getD p 0)) = .no c q b → K = lackK s.toList L) :
    Calls Tryd.prog 75 #[.pointer (some ⟨g, 0, none⟩), .int .i64 (p : Int)] w (DHead (argR s.toList L p) K p s L ro g O fr w) := by
  have HK1 := Lib.hid hK1
  have HK2 := Lib.hid hK2
  clear hK1 hK2
  have W := Lib.hid (gwant_yes hR (p : Int) p rfl h0.1 h0.2 hz (Nat.le_succ p))
  obtain ⟨m, hm⟩ : ∃ m, O.length = m := ⟨_, rfl⟩
  have HM := Lib.hid hm
  have e1 : ¬ (L.items : Int) ≤ (m : Int) := by omega
  have e1b : decide ((L.items : Int) ≤ (m : Int)) = false := decide_eq_false e1
  obtain ⟨t, ht⟩ : ∃ t, (s.toList.getD p 0).toNat = t := ⟨_, rfl⟩
  have ht2 : t < 256 := by rw [← ht]; exact (s.toList.getD p 0).toNat_lt
  have hlt : p < s.size := h0.1
  have hsp : (s[p]'hlt).toNat = t := by rw [← gtl_getD s p hlt]; exact ht
  have e10 : (p : Int) ≤ 140737488351232 := by omega
  have e2 : IntKind.i64.wrap (t : Int) = (t : Int) := wrap_fit t (by unfold maxLen; omega)
  obtain ⟨x, hx⟩ : ∃ x, t / 32 = x := ⟨_, rfl⟩
  have e3 : (t : Int) / 32 = (x : Int) := by omega
  have e4 : IntKind.i64.wrap (x : Int) = (x : Int) := wrap_fit x (by unfold maxLen; omega)
  obtain ⟨y, hy⟩ : ∃ y, t % 32 = y := ⟨_, rfl⟩
  have e5 : (t : Int) % 32 = (y : Int) := by omega
  have e6 : IntKind.i64.wrap (y : Int) = (y : Int) := wrap_fit y (by unfold maxLen; omega)
  have hkx : kindT (s.toList.getD p 0) = x := by rw [kindT, ht, hx]
  have hiy : infT (s.toList.getD p 0) = y := by rw [infT, ht, hy]
  have hw : widT (s.toList.getD p 0) = 4 := by rw [widT, h4]; rfl
  have HW0 := Lib.hid hw
  have HK := Lib.hid hkx
  rw [hiy] at h4
  have e5n : (t : Int) % 32 = 26 := by omega
  rw [hkx] at h5
  have e8 : ¬ (x : Int) = 7 := by omega
  clear e5 e6
  have hx8 : x < 8 := by omega
  have RH := Lib.hid (fun n (hn : n < 18446744073709551616) w => rhead_any x n hx8 hn w)
  have WY := Lib.hid (fun w' (q : Nat) (h1 : q < s.size) (h2 : q < L.bytes) (h : Gok w' g s L ro O fr q) => gwant_yes h (q : Int) q rfl h1 h2 hz (Nat.le_succ q))
  have WN := Lib.hid (fun w' (q : Nat) (h1 : ¬ (q < s.size ∧ q < L.bytes)) (h : Gok w' g s L ro O fr q) => gwant_no h (q : Int) q rfl h1)
  have HZ := Lib.hid (And.intro hz hlt)
  have hix : ∀ w : World, (Instr.index 128 (.agg #[.int .i64 1, .int .i64 2, .int .i64 4, .int .i64 8]) (.int .i64 2)).run Tryd.prog w = .ok (.int .i64 4) w := fun _ => rfl
  clear hR hz h0 h2 hm ht hx hy ht2 hkx hiy h4 h5 hx8 hw
  go_enter Tryd.func75, Tryd.ntmps75
  go_wp2_with (first | (go_at_call 52; refine W.out.mono ?_; rintro e w1 ⟨rfl, HQ1, HB1⟩; obtain ⟨a1, c1, HR1⟩ := HQ1.out.opn; have g0 := HQ1.out.txt))
  have k11 := HR1.out.at0.cell 11 _ rfl
  have k2 := HR1.out.at0.cell 2 _ rfl
  rw [HM.out] at k11
  have g0N : ∀ k, (w1.drewN k).cell? ⟨g, 0, none⟩ = some (.string s) := fun _ => g0
  go_quiet (fail)
  have HQ0 := Lib.hid (HQ1.out.drewN nq)
  have HB0 : Hid (Below g w (w1.drewN nq)) := HB1.out.trans (Co.below_drewN _ _ _)
  obtain ⟨wq, hwq⟩ : ∃ v, w1.drewN nq = v := ⟨_, rfl⟩
  rw [hwq] at HQ0 HB0
  try rw [hwq]
  clear hwq k11 k2 g0N g0
  have g0 := HQ0.out.txt
  go_wp2_with fail
  clear g0
  go_loopw [11, 12] (fun vn vi wr => ∃ i j n : Nat, i + 1 = j ∧ vi = .int .i64 (j : Int) ∧ vn = .int .u64 (n : Int) ∧ i ≤ 4 ∧ Hid (argB s.toList L p i = .ok n) ∧ Hid (Gok wr g s L ro O fr (p + j)) ∧ Hid (Below g w wr)) (fun _ vi _ => 5 - (intOf vi).toNat)
  case atStart => exact ⟨0, 1, 0, rfl, rfl, rfl, Nat.zero_le _, rfl, HQ0, HB0⟩
  case round =>
    obtain ⟨i, j, n, hj, rfl, rfl, hil, HA, HQ, HB⟩ := hrel
    clear HQ0 HB0
    have hn := argB_lt p i n HA.out
    by_cases hi : i = 4
    · subst hi
      obtain rfl : j = 5 := hj.symm
      have hn9 : n < 18446744073709551616 := Nat.lt_of_lt_of_le hn (by decide)
      have RH1 := Lib.hid (RH.out n hn9)
      have hA := argR_wide HW0.out (by decide) HA.out
      have HKA : Hid (K = p + 5) := by
        have h9 := HK1.out n (by rw [HW0.out]; exact HA.out)
        rw [HW0.out] at h9
        show K = p + 5
        omega
      have hz2 := hdN_length x n
      obtain ⟨wd, hwd⟩ : ∃ z, widN n = z := ⟨_, rfl⟩
      rw [hwd] at hA hz2
      by_cases hs : wd = 4
      · subst hs
        rw [if_pos rfl] at hA
        have HA3 := Lib.hid hA
        have HZZ := Lib.hid hz2
        obtain ⟨q1, hq1⟩ : ∃ q, p + 1 = q := ⟨_, rfl⟩
        obtain ⟨q, hq⟩ : ∃ q, q1 + 4 = q := ⟨_, rfl⟩
        have e20 : (p : Int) + 1 = (q1 : Int) := by omega
        have e21 : IntKind.i64.wrap (q1 : Int) = (q1 : Int) := wrap_fit q1 (by have := HZ.out; unfold maxLen; omega)
        have e22 : (q1 : Int) + 4 = (q : Int) := by omega
        have e23 : IntKind.i64.wrap (q : Int) = (q : Int) := wrap_fit q (by have := HZ.out; unfold maxLen; omega)
        have HQq : Hid (p + 1 + widT (s.toList.getD p 0) = q) := by show _ = _; rw [HW0.out, hq1, hq]
        have HQP : Hid (p + 5 = q) := by show p + 5 = q; omega
        clear hn hn9 hz2 hA hil hq hq1 hj hwd
        go_wp2_with (first | (go_at_call 61; refine (RH1.out _).mono ?_; rintro e w2 ⟨u, rfl, hu, hb2⟩; have hus : u.size = 5 := (by rw [← tl_size, hu]; exact HZZ.out); have HQ2 := Lib.hid (HQ.out.below hb2); have HB2 : Hid (Below g w w2) := HB.out.trans (hb2.mono (Nat.le_of_lt HQ.out.lt)); clear hb2 hu))
        (try simp only [Exit.inBlock, Exit.then])
        refine bodyPost_ret (results_four rfl _ _ _) rfl ?_
        exact DHead.yes HA3.out HK.out HQq.out rfl (by rw [← HQP.out]; exact HQ2) HB2
      · rw [if_neg hs] at hA
        have HA3 := Lib.hid hA
        obtain ⟨z, hz⟩ : ∃ z, wd + 1 = z := ⟨_, rfl⟩
        rw [hz] at hz2
        have HZZ := Lib.hid hz2
        have e20 : ¬ (z : Int) = 5 := by omega
        clear hn hn9 hz2 hA hil hj hwd hs hz
        go_wp2_with (first
          | (go_at_call 61; refine (RH1.out _).mono ?_; rintro e w2 ⟨u, rfl, hu, hb2⟩; have hus : u.size = z := (by rw [← tl_size, hu]; exact HZZ.out); have HQ2 := Lib.hid (HQ.out.below hb2); have HB2 : Hid (Below g w w2) := HB.out.trans (hb2.mono (Nat.le_of_lt HQ.out.lt)); clear hb2 hu)
          | (go_at_call 53; refine (gfault17_ok HQ2.out _ _ p rfl).mono ?_; rintro e wf ⟨rfl, HRF, HBF⟩))
        (try simp only [Exit.inBlock, Exit.then])
        refine bodyPost_ret (results_four rfl _ _ _) rfl ?_
        exact DHead.nay HA3.out rfl (by rw [HKA.out]; exact HRF) (HB2.out.trans HBF.out)
    · obtain ⟨q, hq⟩ : ∃ q, p + j = q := ⟨_, rfl⟩
      have hij : p + i + 1 = q := by omega
      have e20 : (p : Int) + (j : Int) = (q : Int) := by omega
      have e21 : IntKind.i64.wrap (q : Int) = (q : Int) := wrap_fit q (by have := HZ.out; unfold maxLen; omega)
      have e22 : (j : Int) ≤ 4 := by omega
      by_cases h1 : q < s.size ∧ q < L.bytes
      · have WY1 := Lib.hid (WY.out _ q h1.1 h1.2 (by rw [← hq]; exact HQ.out))
        have hqs := h1.1
        obtain ⟨d, hd⟩ : ∃ d, (s.toList.getD q 0).toNat = d := ⟨_, rfl⟩
        have hd2 : d < 256 := by rw [← hd]; exact (s.toList.getD q 0).toNat_lt
        have hsq : (s[q]'hqs).toNat = d := by rw [← gtl_getD s q hqs]; exact hd
        have hn6 : n < 256 ^ 7 := Nat.lt_of_lt_of_le hn (Nat.pow_le_pow_right (by decide) (by omega))
        have hn7 : n < 72057594037927936 := hn6
        obtain ⟨m1, hm1⟩ : ∃ q, n * 256 = q := ⟨_, rfl⟩
        have e23 : (n : Int) * 256 = (m1 : Int) := by omega
        have e24 : IntKind.u64.wrap (m1 : Int) = (m1 : Int) := u64c m1 (by omega)
        have e25 : IntKind.u64.wrap (d : Int) = (d : Int) := u64c d (by omega)
        obtain ⟨n2, hn2⟩ : ∃ q, m1 + d = q := ⟨_, rfl⟩
        have e26 : (m1 : Int) + (d : Int) = (n2 : Int) := by omega
        have e27 : IntKind.u64.wrap (n2 : Int) = (n2 : Int) := u64c n2 (by omega)
        obtain ⟨j2, hj2⟩ : ∃ q, j + 1 = q := ⟨_, rfl⟩
        have e28 : (j : Int) + 1 = (j2 : Int) := by omega
        have e29 : IntKind.i64.wrap (j2 : Int) = (j2 : Int) := wrap_fit j2 (by unfold maxLen; omega)
        have HA4 : Hid (argB s.toList L p j = .ok n2) := by
          show _ = _
          rw [← hj, argB_next HA.out (by rw [hij]; exact has_yes s L q h1) (show at0S s.toList (p + i + 1) = d by rw [hij]; exact hd)]
          congr 1
          omega
        have HJ : Hid (j + 1 = j2 ∧ j ≤ 4) := ⟨hj2, by omega⟩
        have HQJ : Hid (q + 1 = p + j2) := by show q + 1 = p + j2; omega
        clear hn hn6 hn7 hm1 hn2 hd hd2 h1 hq hij hi hil hj hj2
        go_wp2_with (first | (go_at_call 52; refine WY1.out.mono ?_; rintro e w2 ⟨rfl, HQ2, hb2⟩; have HB2 : Hid (Below g w w2) := HB.out.trans hb2.out; have g2 := HQ2.out.txt; clear hb2))
        go_roundw
        case rel => exact ⟨j, j2, n2, HJ.out.1, rfl, rfl, HJ.out.2, HA4, by rw [← HQJ.out]; exact HQ2, HB2⟩
        case measure => have := HJ.out; simp [intOf]; omega
      · have WN1 := Lib.hid (WN.out _ q h1 (by rw [← hq]; exact HQ.out))
        have hA := argR_no (S := s.toList) L p (by rw [HW0.out]; exact argB_no ((argB_lack HA.out (by rw [hij]; exact has_no s L q h1)).trans (glack_eq s L)) (show i + 1 ≤ 4 by omega))
        have HKL : Hid (K = lackK s.toList L) := HK2.out _ _ _ (by rw [HW0.out]; exact argB_no ((argB_lack HA.out (by rw [hij]; exact has_no s L q h1)).trans (glack_eq s L)) (show i + 1 ≤ 4 by omega))
        have HA3 := Lib.hid hA
        clear hn h1 hq hij hi hil hj hA
        go_wp2_with (first | (go_at_call 52; refine WN1.out.mono ?_; rintro e w2 ⟨rfl, HQ2, hb2⟩; have HB2 : Hid (Below g w w2) := HB.out.trans hb2.out; clear hb2))
        (try simp only [Exit.inBlock, Exit.then])
        refine bodyPost_ret (results_four rfl _ _ _) rfl ?_
        exact DHead.nay HA3.out rfl (by rw [HKL.out]; exact HQ2) HB2
set_option maxRecDepth 100000 in
set_option maxHeartbeats 1600000 in
theorem ghead_w8 (hR : Gok w g s L ro O fr p) (hz : s.size ≤ 140737488351232) (h0 : p < s.size ∧ p < L.bytes) (h2 : ¬ L.items ≤ O.length) (h4 : infT (s.toList.getD p 0) = 27) (h5 : kindT (s.toList.getD p 0) ≠ 7) (K : Nat) (hK1 : ∀ n, argB s.toList L p (widT (s.toList.getD p 0)) = .ok n → K = p + 1 + widT (s.toList.getD p 0)) (hK2 : ∀ c q b, argB s.toList L p (widT (s.toList.getD p 0)) = .no c q b → K = lackK s.toList L) :
    Calls Tryd.prog 75 #[.pointer (some ⟨g, 0, none⟩), .int .i64 (p : Int)] w (DHead (argR s.toList L p) K p s L ro g O fr w) := by
  have HK1 := Lib.hid hK1
  have HK2 := Lib.hid hK2
  clear hK1 hK2
  have W := Lib.hid (gwant_yes hR (p : Int) p rfl h0.1 h0.2 hz (Nat.le_succ p))
  obtain ⟨m, hm⟩ : ∃ m, O.length = m := ⟨_, rfl⟩
  have HM := Lib.hid hm
  have e1 : ¬ (L.items : Int) ≤ (m : Int) := by omega
  have e1b : decide ((L.items : Int) ≤ (m : Int)) = false := decide_eq_false e1
  obtain ⟨t, ht⟩ : ∃ t, (s.toList.getD p 0).toNat = t := ⟨_, rfl⟩
  have ht2 : t < 256 := by rw [← ht]; exact (s.toList.getD p 0).toNat_lt
  have hlt : p < s.size := h0.1
  have hsp : (s[p]'hlt).toNat = t := by rw [← gtl_getD s p hlt]; exact ht
  have e10 : (p : Int) ≤ 140737488351232 := by omega
  have e2 : IntKind.i64.wrap (t : Int) = (t : Int) := wrap_fit t (by unfold maxLen; omega)
  obtain ⟨x, hx⟩ : ∃ x, t / 32 = x := ⟨_, rfl⟩
  have e3 : (t : Int) / 32 = (x : Int) := by omega
  have e4 : IntKind.i64.wrap (x : Int) = (x : Int) := wrap_fit x (by unfold maxLen; omega)
  obtain ⟨y, hy⟩ : ∃ y, t % 32 = y := ⟨_, rfl⟩
  have e5 : (t : Int) % 32 = (y : Int) := by omega
  have e6 : IntKind.i64.wrap (y : Int) = (y : Int) := wrap_fit y (by unfold maxLen; omega)
  have hkx : kindT (s.toList.getD p 0) = x := by rw [kindT, ht, hx]
  have hiy : infT (s.toList.getD p 0) = y := by rw [infT, ht, hy]
  have hw : widT (s.toList.getD p 0) = 8 := by rw [widT, h4]; rfl
  have HW0 := Lib.hid hw
  have HK := Lib.hid hkx
  rw [hiy] at h4
  have e5n : (t : Int) % 32 = 27 := by omega
  rw [hkx] at h5
  have e8 : ¬ (x : Int) = 7 := by omega
  clear e5 e6
  have hx8 : x < 8 := by omega
  have RH := Lib.hid (fun n (hn : n < 18446744073709551616) w => rhead_any x n hx8 hn w)
  have WY := Lib.hid (fun w' (q : Nat) (h1 : q < s.size) (h2 : q < L.bytes) (h : Gok w' g s L ro O fr q) => gwant_yes h (q : Int) q rfl h1 h2 hz (Nat.le_succ q))
  have WN := Lib.hid (fun w' (q : Nat) (h1 : ¬ (q < s.size ∧ q < L.bytes)) (h : Gok w' g s L ro O fr q) => gwant_no h (q : Int) q rfl h1)
  have HZ := Lib.hid (And.intro hz hlt)
  have hix : ∀ w : World, (Instr.index 128 (.agg #[.int .i64 1, .int .i64 2, .int .i64 4, .int .i64 8]) (.int .i64 3)).run Tryd.prog w = .ok (.int .i64 8) w := fun _ => rfl
  clear hR hz h0 h2 hm ht hx hy ht2 hkx hiy h4 h5 hx8 hw
  go_enter Tryd.func75, Tryd.ntmps75
  go_wp2_with (first | (go_at_call 52; refine W.out.mono ?_; rintro e w1 ⟨rfl, HQ1, HB1⟩; obtain ⟨a1, c1, HR1⟩ := HQ1.out.opn; have g0 := HQ1.out.txt))
  have k11 := HR1.out.at0.cell 11 _ rfl
  have k2 := HR1.out.at0.cell 2 _ rfl
  rw [HM.out] at k11
  have g0N : ∀ k, (w1.drewN k).cell? ⟨g, 0, none⟩ = some (.string s) := fun _ => g0
  go_quiet (fail)
  have HQ0 := Lib.hid (HQ1.out.drewN nq)
  have HB0 : Hid (Below g w (w1.drewN nq)) := HB1.out.trans (Co.below_drewN _ _ _)
  obtain ⟨wq, hwq⟩ : ∃ v, w1.drewN nq = v := ⟨_, rfl⟩
  rw [hwq] at HQ0 HB0
  try rw [hwq]
  clear hwq k11 k2 g0N g0
  have g0 := HQ0.out.txt
  go_wp2_with fail
  clear g0
  go_loopw [11, 12] (fun vn vi wr => ∃ i j n : Nat, i + 1 = j ∧ vi = .int .i64 (j : Int) ∧ vn = .int .u64 (n : Int) ∧ i ≤ 8 ∧ Hid (argB s.toList L p i = .ok n) ∧ Hid (Gok wr g s L ro O fr (p + j)) ∧ Hid (Below g w wr)) (fun _ vi _ => 9 - (intOf vi).toNat)
  case atStart => exact ⟨0, 1, 0, rfl, rfl, rfl, Nat.zero_le _, rfl, HQ0, HB0⟩
  case round =>
    obtain ⟨i, j, n, hj, rfl, rfl, hil, HA, HQ, HB⟩ := hrel
    clear HQ0 HB0
    have hn := argB_lt p i n HA.out
    by_cases hi : i = 8
    · subst hi
      obtain rfl : j = 9 := hj.symm
      have hn9 : n < 18446744073709551616 := Nat.lt_of_lt_of_le hn (by decide)
      have RH1 := Lib.hid (RH.out n hn9)
      have hA := argR_wide HW0.out (by decide) HA.out
      have HKA : Hid (K = p + 9) := by
        have h9 := HK1.out n (by rw [HW0.out]; exact HA.out)
        rw [HW0.out] at h9
        show K = p + 9
        omega
      have hz2 := hdN_length x n
      obtain ⟨wd, hwd⟩ : ∃ z, widN n = z := ⟨_, rfl⟩
      rw [hwd] at hA hz2
      by_cases hs : wd = 8
      · subst hs
        rw [if_pos rfl] at hA
        have HA3 := Lib.hid hA
        have HZZ := Lib.hid hz2
        obtain ⟨q1, hq1⟩ : ∃ q, p + 1 = q := ⟨_, rfl⟩
        obtain ⟨q, hq⟩ : ∃ q, q1 + 8 = q := ⟨_, rfl⟩
        have e20 : (p : Int) + 1 = (q1 : Int) := by omega
        have e21 : IntKind.i64.wrap (q1 : Int) = (q1 : Int) := wrap_fit q1 (by have := HZ.out; unfold maxLen; omega)
        have e22 : (q1 : Int) + 8 = (q : Int) := by omega
        have e23 : IntKind.i64.wrap (q : Int) = (q : Int) := wrap_fit q (by have := HZ.out; unfold maxLen; omega)
        have HQq : Hid (p + 1 + widT (s.toList.getD p 0) = q) := by show _ = _; rw [HW0.out, hq1, hq]
        have HQP : Hid (p + 9 = q) := by show p + 9 = q; omega
        clear hn hn9 hz2 hA hil hq hq1 hj hwd
        go_wp2_with (first | (go_at_call 61; refine (RH1.out _).mono ?_; rintro e w2 ⟨u, rfl, hu, hb2⟩; have hus : u.size = 9 := (by rw [← tl_size, hu]; exact HZZ.out); have HQ2 := Lib.hid (HQ.out.below hb2); have HB2 : Hid (Below g w w2) := HB.out.trans (hb2.mono (Nat.le_of_lt HQ.out.lt)); clear hb2 hu))
        (try simp only [Exit.inBlock, Exit.then])
        refine bodyPost_ret (results_four rfl _ _ _) rfl ?_
        exact DHead.yes HA3.out HK.out HQq.out rfl (by rw [← HQP.out]; exact HQ2) HB2
      · rw [if_neg hs] at hA
        have HA3 := Lib.hid hA
        obtain ⟨z, hz⟩ : ∃ z, wd + 1 = z := ⟨_, rfl⟩
        rw [hz] at hz2
        have HZZ := Lib.hid hz2
        have e20 : ¬ (z : Int) = 9 := by omega
        clear hn hn9 hz2 hA hil hj hwd hs hz
        go_wp2_with (first
          | (go_at_call 61; refine (RH1.out _).mono ?_; rintro e w2 ⟨u, rfl, hu, hb2⟩; have hus : u.size = z := (by rw [← tl_size, hu]; exact HZZ.out); have HQ2 := Lib.hid (HQ.out.below hb2); have HB2 : Hid (Below g w w2) := HB.out.trans (hb2.mono (Nat.le_of_lt HQ.out.lt)); clear hb2 hu)
          | (go_at_call 53; refine (gfault17_ok HQ2.out _ _ p rfl).mono ?_; rintro e wf ⟨rfl, HRF, HBF⟩))
        (try simp only [Exit.inBlock, Exit.then])
        refine bodyPost_ret (results_four rfl _ _ _) rfl ?_
        exact DHead.nay HA3.out rfl (by rw [HKA.out]; exact HRF) (HB2.out.trans HBF.out)
    · obtain ⟨q, hq⟩ : ∃ q, p + j = q := ⟨_, rfl⟩
      have hij : p + i + 1 = q := by omega
      have e20 : (p : Int) + (j : Int) = (q : Int) := by omega
      have e21 : IntKind.i64.wrap (q : Int) = (q : Int) := wrap_fit q (by have := HZ.out; unfold maxLen; omega)
      have e22 : (j : Int) ≤ 8 := by omega
      by_cases h1 : q < s.size ∧ q < L.bytes
      · have WY1 := Lib.hid (WY.out _ q h1.1 h1.2 (by rw [← hq]; exact HQ.out))
        have hqs := h1.1
        obtain ⟨d, hd⟩ : ∃ d, (s.toList.getD q 0).toNat = d := ⟨_, rfl⟩
        have hd2 : d < 256 := by rw [← hd]; exact (s.toList.getD q 0).toNat_lt
        have hsq : (s[q]'hqs).toNat = d := by rw [← gtl_getD s q hqs]; exact hd
        have hn6 : n < 256 ^ 7 := Nat.lt_of_lt_of_le hn (Nat.pow_le_pow_right (by decide) (by omega))
        have hn7 : n < 72057594037927936 := hn6
        obtain ⟨m1, hm1⟩ : ∃ q, n * 256 = q := ⟨_, rfl⟩
        have e23 : (n : Int) * 256 = (m1 : Int) := by omega
        have e24 : IntKind.u64.wrap (m1 : Int) = (m1 : Int) := u64c m1 (by omega)
        have e25 : IntKind.u64.wrap (d : Int) = (d : Int) := u64c d (by omega)
        obtain ⟨n2, hn2⟩ : ∃ q, m1 + d = q := ⟨_, rfl⟩
        have e26 : (m1 : Int) + (d : Int) = (n2 : Int) := by omega
        have e27 : IntKind.u64.wrap (n2 : Int) = (n2 : Int) := u64c n2 (by omega)
        obtain ⟨j2, hj2⟩ : ∃ q, j + 1 = q := ⟨_, rfl⟩
        have e28 : (j : Int) + 1 = (j2 : Int) := by omega
        have e29 : IntKind.i64.wrap (j2 : Int) = (j2 : Int) := wrap_fit j2 (by unfold maxLen; omega)
        have HA4 : Hid (argB s.toList L p j = .ok n2) := by
          show _ = _
          rw [← hj, argB_next HA.out (by rw [hij]; exact has_yes s L q h1) (show at0S s.toList (p + i + 1) = d by rw [hij]; exact hd)]
          congr 1
          omega
        have HJ : Hid (j + 1 = j2 ∧ j ≤ 8) := ⟨hj2, by omega⟩
        have HQJ : Hid (q + 1 = p + j2) := by show q + 1 = p + j2; omega
        clear hn hn6 hn7 hm1 hn2 hd hd2 h1 hq hij hi hil hj hj2
        go_wp2_with (first | (go_at_call 52; refine WY1.out.mono ?_; rintro e w2 ⟨rfl, HQ2, hb2⟩; have HB2 : Hid (Below g w w2) := HB.out.trans hb2.out; have g2 := HQ2.out.txt; clear hb2))
        go_roundw
        case rel => exact ⟨j, j2, n2, HJ.out.1, rfl, rfl, HJ.out.2, HA4, by rw [← HQJ.out]; exact HQ2, HB2⟩
        case measure => have := HJ.out; simp [intOf]; omega
      · have WN1 := Lib.hid (WN.out _ q h1 (by rw [← hq]; exact HQ.out))
        have hA := argR_no (S := s.toList) L p (by rw [HW0.out]; exact argB_no ((argB_lack HA.out (by rw [hij]; exact has_no s L q h1)).trans (glack_eq s L)) (show i + 1 ≤ 8 by omega))
        have HKL : Hid (K = lackK s.toList L) := HK2.out _ _ _ (by rw [HW0.out]; exact argB_no ((argB_lack HA.out (by rw [hij]; exact has_no s L q h1)).trans (glack_eq s L)) (show i + 1 ≤ 8 by omega))
        have HA3 := Lib.hid hA
        clear hn h1 hq hij hi hil hj hA
        go_wp2_with (first | (go_at_call 52; refine WN1.out.mono ?_; rintro e w2 ⟨rfl, HQ2, hb2⟩; have HB2 : Hid (Below g w w2) := HB.out.trans hb2.out; clear hb2))
        (try simp only [Exit.inBlock, Exit.then])
        refine bodyPost_ret (results_four rfl _ _ _) rfl ?_
        exact DHead.nay HA3.out rfl (by rw [HKL.out]; exact HQ2) HB2
/-- what was taken when a head is refused -/
def hdK (S : List UInt8) (L : Lm) (m p : Nat) : Nat :=
  if has S L p = false then lackK S L
  else if L.items ≤ m then p + 1
  else if headE (S.getD p 0) ≠ 0 then p + 1
  else match argB S L p (widT (S.getD p 0)) with
    | .no _ _ _ => lackK S L
    | .ok _ => p + 1 + widT (S.getD p 0)
theorem ghead_any (hR : Gok w g s L ro O fr p) (hz : s.size ≤ 140737488351232) : Calls Tryd.prog 75 #[.pointer (some ⟨g, 0, none⟩), .int .i64 (p : Int)] w (DHead (hdR s.toList L O.length p) (hdK s.toList L O.length p) p s L ro g O fr w) := by
  by_cases h0 : p < s.size ∧ p < L.bytes
  · have hn1 : ¬ has s.toList L p = false := by rw [has_yes s L p h0]; decide
    rw [hdR, hdK, if_neg hn1, if_neg hn1]
    by_cases h2 : L.items ≤ O.length
    · rw [if_pos h2, if_pos h2]
      exact ghead_items w g s L ro O fr p hR hz h0 h2
    · rw [if_neg h2, if_neg h2]
      by_cases h3 : 27 < infT (s.toList.getD p 0)
      · have hE : headE (s.toList.getD p 0) = 9 := by rw [headE, if_pos h3]
        rw [hE, if_pos (by decide), if_pos (by decide)]
        exact ghead_big w g s L ro O fr p hR hz h0 h2 h3
      · by_cases h5 : kindT (s.toList.getD p 0) = 7
        · by_cases h6 : infT (s.toList.getD p 0) < 20
          · have hE : headE (s.toList.getD p 0) = 11 := by rw [headE, if_neg h3, if_pos ⟨h5, .inl h6⟩]
            rw [hE, if_pos (by decide), if_pos (by decide)]
            exact ghead_klow w g s L ro O fr p hR hz h0 h2 h3 h5 h6
          · by_cases h7 : 23 < infT (s.toList.getD p 0)
            · have hE : headE (s.toList.getD p 0) = 11 := by rw [headE, if_neg h3, if_pos ⟨h5, .inr h7⟩]
              rw [hE, if_pos (by decide), if_pos (by decide)]
              exact ghead_khigh w g s L ro O fr p hR hz h0 h2 h3 h5 h7
            · have hE : headE (s.toList.getD p 0) = 0 := by rw [headE, if_neg h3, if_neg (fun h => by rcases h.2 with h | h; exact h6 h; exact h7 h)]
              rw [hE, if_neg (by decide), if_neg (by decide)]
              rw [show widT (s.toList.getD p 0) = 0 from by rw [widT, if_pos (by omega)]]
              exact ghead_short7 w g s L ro O fr p hR hz h0 h2 (by omega) h5 h6
        · have hE : headE (s.toList.getD p 0) = 0 := by rw [headE, if_neg h3, if_neg (fun h => h5 h.1)]
          rw [hE, if_neg (by decide), if_neg (by decide)]
          by_cases h7 : infT (s.toList.getD p 0) < 24
          · rw [show widT (s.toList.getD p 0) = 0 from by rw [widT, if_pos h7]]
            exact ghead_short w g s L ro O fr p hR hz h0 h2 h7 h5 trivial
          · rcases (by omega : infT (s.toList.getD p 0) = 24 ∨ infT (s.toList.getD p 0) = 25 ∨ infT (s.toList.getD p 0) = 26 ∨ infT (s.toList.getD p 0) = 27) with h | h | h | h
            · exact ghead_w1 w g s L ro O fr p hR hz h0 h2 h h5 _ (fun n hn => by rw [hn]) (fun c q b hn => by rw [hn])
            · exact ghead_w2 w g s L ro O fr p hR hz h0 h2 h h5 _ (fun n hn => by rw [hn]) (fun c q b hn => by rw [hn])
            · exact ghead_w4 w g s L ro O fr p hR hz h0 h2 h h5 _ (fun n hn => by rw [hn]) (fun c q b hn => by rw [hn])
            · exact ghead_w8 w g s L ro O fr p hR hz h0 h2 h h5 _ (fun n hn => by rw [hn]) (fun c q b hn => by rw [hn])
  · rw [hdR, hdK, if_pos (has_no s L p h0), if_pos (has_no s L p h0)]
    exact ghead_lack w g s L ro O fr p hR h0
end
end Cz
end Go.Proofs.YteanipjgpekncaaDoor
