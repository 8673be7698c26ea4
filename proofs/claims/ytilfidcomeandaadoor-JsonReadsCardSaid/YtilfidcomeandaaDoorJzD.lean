/- Joined by merge.py: JrR JrV. -/
import Derived.Test.YtilfidcomeandaaDoorJzC
import Derived.Test.YtilfidcomeandaaDoorJrM
import Derived.BigQuiet
namespace Go.Proofs.YtilfidcomeandaaDoor
open Go.RowKit
set_option linter.unusedVariables false
set_option linter.unusedSimpArgs false
namespace Jr
open Js
open Dr (Rs Lm has lack lackE lackP)
theorem num_digit {b : UInt8} (h : isDigit b = true) : ∃ y, nextN 0 b = some y := by
  rw [isDigit, decide_eq_true_iff] at h
  have hd : isDigit b = true := decide_eq_true h
  by_cases h1 : b = 45
  · exact ⟨1, by rw [nextN, if_pos h1]⟩
  by_cases h2 : b = 48
  · exact ⟨2, by rw [nextN, if_neg h1, if_pos h2]⟩
  · exact ⟨3, by rw [nextN, if_neg h1, if_neg h2, if_pos hd]⟩
theorem restN_tl (s : ByteArray) (L : Lm) (p E : Nat) (hE : endP s.toList L = E) : (s.extract p E).toList = restN s.toList L p := by rw [tl_extract, restN, hE]
theorem restN_take (s : ByteArray) (L : Lm) (p n : Nat) (h : p + n ≤ endP s.toList L) : (s.extract p (p + n)).toList = (restN s.toList L p).take n := by
  rw [tl_extract, restN, List.take_take, Nat.add_sub_cancel_left, Nat.min_eq_left (by omega)]
set_option maxRecDepth 100000 in
set_option maxHeartbeats 6400000 in
theorem value_n0a {w : World} {g : Nat} {s : ByteArray} {L : Lm} {ro : Int} {O : List Vl} {tk : Nat} (st : St) (hG : Gok w g s L ro O st.G.length tk) (p : Nat) (hs : s.size ≤ 140737488351232) (htk : tk ≤ p + 1) (hq1 : p < s.size) (hq2 : p < L.bytes) (dp : Int)
    (b0 : UInt8) (hc : s.toList.getD p 0 = b0) (hdig : b0 = 45) (y0 : Nat) (hy0 : nextN 0 b0 = some y0) (hi : O.length < L.items) (hiL : L.items ≤ 4096) (hLb : L.bytes ≤ 262144) (hcs : L.bytes < s.size) (ha : st.act L b0 p = .go (st.begin 3 (.num y0 [b0]))) :
    Calls Tryd.prog 42 #[.pointer (some ⟨g, 0, none⟩), .int .i64 (p : Int), .int .i64 dp] w (RetVal st p g s L ro O w) := by
  have W := Lib.hid (gwant_yes hG (p : Int) p rfl hq1 hq2 hs htk)
  have hEP : endP s.toList L = L.bytes := by rw [endP, tl_size]; exact if_pos hcs
  have NR := num_runs (S := s.toList) (L := L) (st := st) (st1 := st.begin 3 (.num y0 [b0])) (p := p) (has_of hq1 hq2) hc hy0 ha (.inr (bump_length _))
  rw [← restN_tl s L p _ hEP, hEP] at NR
  have hRT := fun n (h : p + n ≤ L.bytes) => restN_take s L p n (by rw [hEP]; exact h)
  rw [← restN_tl s L p _ hEP] at hRT
  obtain ⟨R, hR⟩ : ∃ R, s.extract p L.bytes = R := ⟨_, rfl⟩
  rw [hR] at NR hRT
  obtain ⟨n, hn⟩ : ∃ n, (nsteps 0 R.toList).1 = n := ⟨_, rfl⟩
  obtain ⟨kk, hkk⟩ : ∃ k, (nsteps 0 R.toList).2 = k := ⟨_, rfl⟩
  have hRz : R.size ≤ 140737488351232 := by rw [← hR, ByteArray.size_extract]; omega
  have NB := Lib.hid (fun w => rnumber_any R hRz w)
  have hNB : RetNum R.toList = fun w e w' => e = .returned (.tuple #[.int .i64 (n : Int), .bool (wholeN kk)]) ∧ w = w' := by funext w e w'; rw [RetNum, hn, hkk]
  rw [hNB] at NB
  rw [hn, hkk] at NR
  obtain ⟨n1, n2, NR1, NR2, NR3⟩ := NR
  have hfrG : (st.begin 3 (.num y0 [b0])).G.length = st.G.length := bump_length _
  rw [hfrG] at NR2 NR3
  have hAF : ∀ t k2, (nxs (st.begin 3 (.num y0 [b0])) k2 t).endNum t = after st [⟨3, 0, t⟩] := fun t k2 => by
    show ({ nxs (st.begin 3 (.num y0 [b0])) k2 t with cur := withText t (st.cur ++ [⟨3, 0, []⟩]) } : St).ended = _
    rw [withText_snoc]
    rfl
  rw [hAF] at NR1
  rw [← hRT n n2] at NR1
  obtain ⟨X, hX⟩ : ∃ X, s.extract p (p + n) = X := ⟨_, rfl⟩
  obtain ⟨q, hq⟩ : ∃ q, p + n = q := ⟨_, rfl⟩
  have hqi : (p : Int) + (n : Int) = (q : Int) := by omega
  rw [hX] at NR1
  rw [hq] at NR1 NR2 NR3 n2 hX
  have HN1 := Lib.hid NR1
  have HN2 := Lib.hid NR2
  have HN3 := Lib.hid NR3
  have hbt := byte_at s p hq1
  rw [hc] at hbt
  have e2 : (p : Int) < (s.size : Int) := by omega
  have e3 : (0 : Int) ≤ (p : Int) := by omega
  have e4 : (q : Int) ≤ (s.size : Int) := by omega
  have e9 : (q : Int) ≤ 140737488351232 := by omega
  have e5 : (p : Int) ≤ (q : Int) := by omega
  have e6 : (L.bytes : Int) < (s.size : Int) := by omega
  have e7 : (p : Int) ≤ (L.bytes : Int) := by omega
  have HPQ : Hid (p < q ∧ q ≤ s.size ∧ q ≤ L.bytes) := ⟨by omega, by omega, by omega⟩
  have HSZ := Lib.hid hs
  obtain ⟨m, hm⟩ : ∃ m, O.length = m := ⟨_, rfl⟩
  have e0 : ¬ (L.items : Int) ≤ (m : Int) := by omega
  have e0b : decide ((L.items : Int) ≤ (m : Int)) = false := decide_eq_false e0
  have e0c : decide (L.items ≤ m) = false := decide_eq_false (by omega)
  have e0d : ¬ L.items ≤ m := by omega
  have HM : Hid (O.length = m ∧ m ≤ 4096) := ⟨hm, by omega⟩
  obtain ⟨y, hy⟩ : ∃ y, (s[p]).toNat = y := ⟨_, rfl⟩
  rw [hy, hdig] at hbt
  have hbt2 : y = 45 := hbt
  subst hbt2
  obtain ⟨fr, hfr⟩ : ∃ n, st.G.length = n := ⟨_, rfl⟩
  have HFR := Lib.hid hfr
  rw [hfr] at W
  clear hG hs htk hq2 hc ha hbt hm hi hiL hfr hdig hy0 hLb hcs hEP NR1 NR2 NR3 hRT hn hkk hRz hNB n1 n2 hfrG hAF hq
  go_enter Tryd.func42, Tryd.ntmps42
  go_wp2_with fail
  refine W.out.mono ?_
  rintro e w1 ⟨rfl, HG1, HF1⟩
  have t0 := Gok.txt HG1.out
  obtain ⟨⟨vo, hRg⟩, htl⟩ := HG1.out
  have HTL := Lib.hid htl
  obtain ⟨aV, cV, rfl, -⟩ := own_form hRg.out
  rw [HM.out.1] at hRg
  have c2 := hRg.at0.cell 2 _ rfl
  have c11 := hRg.at0.cell 11 _ rfl
  have HR := Lib.hid hRg
  clear hRg htl
  go_wp2_with fail
  go_quiet (fail)
  have HR2 := Lib.hid (HR.out.drewN nq)
  have HF2 := Lib.hid (HF1.out.trans (Fg.drewN g w1 nq))
  have t2 : (w1.drewN nq).cell? ⟨g, 0, none⟩ = some (.string s) := t0
  have c112 := HR2.out.at0.cell 11 _ rfl
  generalize w1.drewN nq = w2 at *
  clear c2 c11 t0 HR HF1 HG1
  go_upto_region 30 with (at_builtin; refine wpList_append_vl rfl (.tmp 105) (.tmp 107) rfl (g + 1) (.slice aV m cV) m O rfl (by have h9 := HR2.out.out; rw [HM.out.1] at h9; exact h9.alloc _) w2.heap.size 1 (⟨0, 0, []⟩ : Vl) rfl (at_cellsW (vv_new 0) (At.ofAlloc w2 #[Value.int .i64 0, Value.int .i64 0, Value.string ByteArray.empty] 61)) (by have := HM.out.2; omega) (by have := HR2.out.lt; simp; omega) ?_; intro v3 w3 hown3 hgrow3; obtain ⟨a3, c3, hv3, hg3⟩ := own_form hown3; obtain ⟨r, hr⟩ := hg3 (Nat.succ_pos _); subst hr; subst hv3; have hAt3 := At.grown ((HR2.out.alloc zv).at0) hgrow3 (HR2.out.alloc zv).lt (fun e => by have := (HR2.out.out.lt g e).1; omega); have f113 := hAt3.froz 11 (by show 11 < 12; decide); have c113 := hAt3.cell 11 _ rfl; have HO3 := Lib.hid hown3; have HGR := Lib.hid hgrow3; clear hAt3 hown3 hgrow3)
  have HR4 : Hid (Rg (w3.setCell ⟨g, 11, none⟩ (.slice (some ⟨r, 0, none⟩) (m + 1) c3)) g s L ro (O ++ [⟨0, 0, []⟩]) (.slice (some ⟨r, 0, none⟩) (m + 1) c3) 0 0 (p + 1) fr false) := by
    have h9 := (HR2.out.alloc zv).push (O' := O ++ [⟨0, 0, []⟩]) HGR.out (by rw [List.length_append, HM.out.1]; exact HO3.out)
    exact h9
  have HF4 : Hid (Fg g w (w3.setCell ⟨g, 11, none⟩ (.slice (some ⟨r, 0, none⟩) (m + 1) c3))) := by
    have h8 := (HF2.out.alloc (Nat.le_of_lt HR2.out.lt) zv).vals (HR2.out.alloc zv).out (Nat.le_of_lt (HR2.out.alloc zv).lt) HGR.out
    exact h8.push (by have h9 := c113; rw [Nat.zero_add] at h9; exact h9) (Nat.le_succ m)
  generalize w3.setCell ⟨g, 11, none⟩ (.slice (some ⟨r, 0, none⟩) (m + 1) c3) = w4 at HR4 HF4 ⊢
  obtain ⟨q2, cap, hvq, hgq, hAq⟩ := HR4.out.value m (by rw [List.length_append, HM.out.1]; exact Nat.lt_succ_self m)
  obtain rfl : r = q2 := by injection hvq with h1 h2 h3; injection h1 with h1; injection h1
  have d0 := hAq.cell 0 _ rfl
  have fd0 := hAq.froz 0 (by show 0 < 3; decide)
  have c114 := HR4.out.at0.cell 11 _ rfl
  have e8 : (m : Int) < (m : Int) + 1 := by omega
  have HR5 := Lib.hid (HR4.out.setOut (q := r) (cap := c3) (n := m + 1) rfl (by rw [List.length_append, HM.out.1]; rfl) m 0 (Nat.lt_succ_self m) (by decide) (.int .i64 3) (fun v => { v with kind := 3 }) rfl)
  have HF5 := Lib.hid (HF4.out.setOut HR4.out.out rfl (Nat.le_of_lt HR4.out.lt) (m * 3 + 0) (.int .i64 3))
  rw [last_kind O m 3 HM.out.1] at HR5
  rw [Nat.add_zero] at HR5 HF5 d0 fd0
  clear c112 hAq hvq f113 c113 t2
  have t5 := HR5.out.at0.cell 0 _ rfl
  have t53 := HR5.out.at0.cell 3 _ rfl
  have TK := Lib.hid (gtake_any HR5.out (q : Int) q (by have := HPQ.out; omega) rfl)
  go_wp2_with fail
  refine (NB.out _).mono ?_
  rintro e w5 ⟨rfl, rfl⟩
  have HM3 : Hid ((O ++ [(⟨3, 0, []⟩ : Vl)]).length = m + 1) := by show _ = _; rw [List.length_append, HM.out.1]; rfl
  cases hw : wholeN kk with
  | true =>
    have HCL := Lib.hid (HN1.out hw)
    clear hw NB HN1 HN2 HN3 d0 fd0 c114
    go_wp2_with fail
    refine TK.out.mono ?_
    rintro e w6 ⟨rfl, HR6, HF6⟩
    have HF6w := Lib.hid (HF5.out.trans HF6.out)
    obtain ⟨r2, cap2, hv2, hg2, hA2⟩ := HR6.out.value m (by rw [HM3.out]; exact Nat.lt_succ_self m)
    obtain rfl : r = r2 := by injection hv2 with h1 h2 h3; injection h1 with h1; injection h1
    have t6 := HR6.out.at0.cell 0 _ rfl
    have c116 := HR6.out.at0.cell 11 _ rfl
    have d2 := hA2.cell 2 _ rfl
    have fd2 := hA2.froz 2 (by show 2 < 3; decide)
    have HR7 := Lib.hid (HR6.out.setOut (q := r) (cap := c3) (n := m + 1) rfl HM3.out m 2 (Nat.lt_succ_self m) (by decide) (.string X) (fun v => { v with text := X.toList }) (by rw [last_get O m 3 HM.out.1]; show [_, _, _] = [_, _, _]; rw [show (⟨X.toList.toArray⟩ : ByteArray) = X from tl_inj (tl_mk _)]))
    rw [last_text O m 3 X.toList HM.out.1] at HR7
    have HF7 := Lib.hid (HF6w.out.setOut HR6.out.out rfl (Nat.le_of_lt HR6.out.lt) (m * 3 + 2) (.string X))
    clear hA2 hv2 t5 t53 TK HF6
    go_wp2_with fail
    go_region
    all_goals
      go_wp2_with fail
      refine bodyPost_ret (v := .tuple #[.int .i64 (q : Int), .bool true]) (by simp [results, Tryd.results42, go_sem]) rfl (.inl ⟨[⟨3, 0, X.toList⟩], q, HPQ.out.1, HCL.out, rfl, ?_, HF7.out.trans (Fg.drewN g _ 1)⟩)
      rw [HFR.out]
      exact ⟨⟨_, HR7.out.drewN 1⟩, HPQ.out.2.2, HPQ.out.2.1⟩
  | false =>
    have HN2b := Lib.hid (HN2.out hw)
    have HN3b := Lib.hid (HN3.out hw)
    clear hw NB HN1 HN2 HN3 d0 fd0 c114
    go_wp2_with fail
    refine TK.out.mono ?_
    rintro e w6 ⟨rfl, HR6, HF6⟩
    have HF6w := Lib.hid (HF5.out.trans HF6.out)
    have HG6 : Hid (Gok w6 g s L ro (O ++ [⟨3, 0, []⟩]) fr q) := ⟨⟨_, HR6.out⟩, HPQ.out.2.2, HPQ.out.2.1⟩
    clear t5 t53 TK HF6
    by_cases h1 : q < s.size ∧ q < L.bytes
    · have W6 := Lib.hid (gwant_yes HG6.out (q : Int) q rfl h1.1 h1.2 HSZ.out (Nat.le_succ q))
      have HRN := Lib.hid (HN2b.out (has_of h1.1 h1.2))
      rw [HFR.out] at HRN
      clear h1
      go_wp2_with (first
        | (go_at_call 43; refine W6.out.mono ?_; rintro e w7 ⟨rfl, HG7, HF7⟩)
        | (go_at_call 45; refine (gfault16_ok HG7.out _ _ q rfl).mono ?_; rintro e w8 ⟨rfl, HG8, HF8⟩))
      exact bodyPost_ret (v := .tuple #[.int .i64 0, .bool false]) (by simp [results, Tryd.results42, go_sem]) rfl (.inr ⟨_, _, _, _, _, HRN.out, rfl, HG8, (HF6w.out.trans HF7.out).trans HF8.out⟩)
    · have W6 := Lib.hid (gwant_no HG6.out (q : Int) q rfl h1)
      have HRN := Lib.hid (HN3b.out (has_not h1))
      rw [HFR.out] at HRN
      clear h1
      go_wp2_with (go_at_call 43; refine W6.out.mono ?_; rintro e w7 ⟨rfl, HG7, HF7⟩)
      exact bodyPost_ret (v := .tuple #[.int .i64 0, .bool false]) (by simp [results, Tryd.results42, go_sem]) rfl (.inr ⟨_, _, _, _, _, HRN.out, rfl, HG7, HF6w.out.trans HF7.out⟩)
set_option maxRecDepth 100000 in
set_option maxHeartbeats 6400000 in
theorem value_n0b {w : World} {g : Nat} {s : ByteArray} {L : Lm} {ro : Int} {O : List Vl} {tk : Nat} (st : St) (hG : Gok w g s L ro O st.G.length tk) (p : Nat) (hs : s.size ≤ 140737488351232) (htk : tk ≤ p + 1) (hq1 : p < s.size) (hq2 : p < L.bytes) (dp : Int)
    (b0 : UInt8) (hc : s.toList.getD p 0 = b0) (hdig : b0 = 45) (y0 : Nat) (hy0 : nextN 0 b0 = some y0) (hi : O.length < L.items) (hiL : L.items ≤ 4096) (hLb : L.bytes ≤ 262144) (hcs : ¬ L.bytes < s.size) (ha : st.act L b0 p = .go (st.begin 3 (.num y0 [b0]))) :
    Calls Tryd.prog 42 #[.pointer (some ⟨g, 0, none⟩), .int .i64 (p : Int), .int .i64 dp] w (RetVal st p g s L ro O w) := by
  have W := Lib.hid (gwant_yes hG (p : Int) p rfl hq1 hq2 hs htk)
  have hEP : endP s.toList L = s.size := by rw [endP, tl_size]; exact if_neg hcs
  have NR := num_runs (S := s.toList) (L := L) (st := st) (st1 := st.begin 3 (.num y0 [b0])) (p := p) (has_of hq1 hq2) hc hy0 ha (.inr (bump_length _))
  rw [← restN_tl s L p _ hEP, hEP] at NR
  have hRT := fun n (h : p + n ≤ s.size) => restN_take s L p n (by rw [hEP]; exact h)
  rw [← restN_tl s L p _ hEP] at hRT
  obtain ⟨R, hR⟩ : ∃ R, s.extract p s.size = R := ⟨_, rfl⟩
  rw [hR] at NR hRT
  obtain ⟨n, hn⟩ : ∃ n, (nsteps 0 R.toList).1 = n := ⟨_, rfl⟩
  obtain ⟨kk, hkk⟩ : ∃ k, (nsteps 0 R.toList).2 = k := ⟨_, rfl⟩
  have hRz : R.size ≤ 140737488351232 := by rw [← hR, ByteArray.size_extract]; omega
  have NB := Lib.hid (fun w => rnumber_any R hRz w)
  have hNB : RetNum R.toList = fun w e w' => e = .returned (.tuple #[.int .i64 (n : Int), .bool (wholeN kk)]) ∧ w = w' := by funext w e w'; rw [RetNum, hn, hkk]
  rw [hNB] at NB
  rw [hn, hkk] at NR
  obtain ⟨n1, n2, NR1, NR2, NR3⟩ := NR
  have hfrG : (st.begin 3 (.num y0 [b0])).G.length = st.G.length := bump_length _
  rw [hfrG] at NR2 NR3
  have hAF : ∀ t k2, (nxs (st.begin 3 (.num y0 [b0])) k2 t).endNum t = after st [⟨3, 0, t⟩] := fun t k2 => by
    show ({ nxs (st.begin 3 (.num y0 [b0])) k2 t with cur := withText t (st.cur ++ [⟨3, 0, []⟩]) } : St).ended = _
    rw [withText_snoc]
    rfl
  rw [hAF] at NR1
  rw [← hRT n n2] at NR1
  obtain ⟨X, hX⟩ : ∃ X, s.extract p (p + n) = X := ⟨_, rfl⟩
  obtain ⟨q, hq⟩ : ∃ q, p + n = q := ⟨_, rfl⟩
  have hqi : (p : Int) + (n : Int) = (q : Int) := by omega
  rw [hX] at NR1
  rw [hq] at NR1 NR2 NR3 n2 hX
  have HN1 := Lib.hid NR1
  have HN2 := Lib.hid NR2
  have HN3 := Lib.hid NR3
  have hbt := byte_at s p hq1
  rw [hc] at hbt
  have e2 : (p : Int) < (s.size : Int) := by omega
  have e3 : (0 : Int) ≤ (p : Int) := by omega
  have e4 : (q : Int) ≤ (s.size : Int) := by omega
  have e9 : (q : Int) ≤ 140737488351232 := by omega
  have e5 : (p : Int) ≤ (q : Int) := by omega
  have e6 : ¬ (L.bytes : Int) < (s.size : Int) := by omega
  have e7 : (p : Int) ≤ (s.size : Int) := by omega
  have HPQ : Hid (p < q ∧ q ≤ s.size ∧ q ≤ L.bytes) := ⟨by omega, by omega, by omega⟩
  have HSZ := Lib.hid hs
  obtain ⟨m, hm⟩ : ∃ m, O.length = m := ⟨_, rfl⟩
  have e0 : ¬ (L.items : Int) ≤ (m : Int) := by omega
  have e0b : decide ((L.items : Int) ≤ (m : Int)) = false := decide_eq_false e0
  have e0c : decide (L.items ≤ m) = false := decide_eq_false (by omega)
  have e0d : ¬ L.items ≤ m := by omega
  have HM : Hid (O.length = m ∧ m ≤ 4096) := ⟨hm, by omega⟩
  obtain ⟨y, hy⟩ : ∃ y, (s[p]).toNat = y := ⟨_, rfl⟩
  rw [hy, hdig] at hbt
  have hbt2 : y = 45 := hbt
  subst hbt2
  obtain ⟨fr, hfr⟩ : ∃ n, st.G.length = n := ⟨_, rfl⟩
  have HFR := Lib.hid hfr
  rw [hfr] at W
  clear hG hs htk hq2 hc ha hbt hm hi hiL hfr hdig hy0 hLb hcs hEP NR1 NR2 NR3 hRT hn hkk hRz hNB n1 n2 hfrG hAF hq
  go_enter Tryd.func42, Tryd.ntmps42
  go_wp2_with fail
  refine W.out.mono ?_
  rintro e w1 ⟨rfl, HG1, HF1⟩
  have t0 := Gok.txt HG1.out
  obtain ⟨⟨vo, hRg⟩, htl⟩ := HG1.out
  have HTL := Lib.hid htl
  obtain ⟨aV, cV, rfl, -⟩ := own_form hRg.out
  rw [HM.out.1] at hRg
  have c2 := hRg.at0.cell 2 _ rfl
  have c11 := hRg.at0.cell 11 _ rfl
  have HR := Lib.hid hRg
  clear hRg htl
  go_wp2_with fail
  go_quiet (fail)
  have HR2 := Lib.hid (HR.out.drewN nq)
  have HF2 := Lib.hid (HF1.out.trans (Fg.drewN g w1 nq))
  have t2 : (w1.drewN nq).cell? ⟨g, 0, none⟩ = some (.string s) := t0
  have c112 := HR2.out.at0.cell 11 _ rfl
  generalize w1.drewN nq = w2 at *
  clear c2 c11 t0 HR HF1 HG1
  go_upto_region 30 with (at_builtin; refine wpList_append_vl rfl (.tmp 105) (.tmp 107) rfl (g + 1) (.slice aV m cV) m O rfl (by have h9 := HR2.out.out; rw [HM.out.1] at h9; exact h9.alloc _) w2.heap.size 1 (⟨0, 0, []⟩ : Vl) rfl (at_cellsW (vv_new 0) (At.ofAlloc w2 #[Value.int .i64 0, Value.int .i64 0, Value.string ByteArray.empty] 61)) (by have := HM.out.2; omega) (by have := HR2.out.lt; simp; omega) ?_; intro v3 w3 hown3 hgrow3; obtain ⟨a3, c3, hv3, hg3⟩ := own_form hown3; obtain ⟨r, hr⟩ := hg3 (Nat.succ_pos _); subst hr; subst hv3; have hAt3 := At.grown ((HR2.out.alloc zv).at0) hgrow3 (HR2.out.alloc zv).lt (fun e => by have := (HR2.out.out.lt g e).1; omega); have f113 := hAt3.froz 11 (by show 11 < 12; decide); have c113 := hAt3.cell 11 _ rfl; have HO3 := Lib.hid hown3; have HGR := Lib.hid hgrow3; clear hAt3 hown3 hgrow3)
  have HR4 : Hid (Rg (w3.setCell ⟨g, 11, none⟩ (.slice (some ⟨r, 0, none⟩) (m + 1) c3)) g s L ro (O ++ [⟨0, 0, []⟩]) (.slice (some ⟨r, 0, none⟩) (m + 1) c3) 0 0 (p + 1) fr false) := by
    have h9 := (HR2.out.alloc zv).push (O' := O ++ [⟨0, 0, []⟩]) HGR.out (by rw [List.length_append, HM.out.1]; exact HO3.out)
    exact h9
  have HF4 : Hid (Fg g w (w3.setCell ⟨g, 11, none⟩ (.slice (some ⟨r, 0, none⟩) (m + 1) c3))) := by
    have h8 := (HF2.out.alloc (Nat.le_of_lt HR2.out.lt) zv).vals (HR2.out.alloc zv).out (Nat.le_of_lt (HR2.out.alloc zv).lt) HGR.out
    exact h8.push (by have h9 := c113; rw [Nat.zero_add] at h9; exact h9) (Nat.le_succ m)
  generalize w3.setCell ⟨g, 11, none⟩ (.slice (some ⟨r, 0, none⟩) (m + 1) c3) = w4 at HR4 HF4 ⊢
  obtain ⟨q2, cap, hvq, hgq, hAq⟩ := HR4.out.value m (by rw [List.length_append, HM.out.1]; exact Nat.lt_succ_self m)
  obtain rfl : r = q2 := by injection hvq with h1 h2 h3; injection h1 with h1; injection h1
  have d0 := hAq.cell 0 _ rfl
  have fd0 := hAq.froz 0 (by show 0 < 3; decide)
  have c114 := HR4.out.at0.cell 11 _ rfl
  have e8 : (m : Int) < (m : Int) + 1 := by omega
  have HR5 := Lib.hid (HR4.out.setOut (q := r) (cap := c3) (n := m + 1) rfl (by rw [List.length_append, HM.out.1]; rfl) m 0 (Nat.lt_succ_self m) (by decide) (.int .i64 3) (fun v => { v with kind := 3 }) rfl)
  have HF5 := Lib.hid (HF4.out.setOut HR4.out.out rfl (Nat.le_of_lt HR4.out.lt) (m * 3 + 0) (.int .i64 3))
  rw [last_kind O m 3 HM.out.1] at HR5
  rw [Nat.add_zero] at HR5 HF5 d0 fd0
  clear c112 hAq hvq f113 c113 t2
  have t5 := HR5.out.at0.cell 0 _ rfl
  have t53 := HR5.out.at0.cell 3 _ rfl
  have TK := Lib.hid (gtake_any HR5.out (q : Int) q (by have := HPQ.out; omega) rfl)
  go_wp2_with fail
  refine (NB.out _).mono ?_
  rintro e w5 ⟨rfl, rfl⟩
  have HM3 : Hid ((O ++ [(⟨3, 0, []⟩ : Vl)]).length = m + 1) := by show _ = _; rw [List.length_append, HM.out.1]; rfl
  cases hw : wholeN kk with
  | true =>
    have HCL := Lib.hid (HN1.out hw)
    clear hw NB HN1 HN2 HN3 d0 fd0 c114
    go_wp2_with fail
    refine TK.out.mono ?_
    rintro e w6 ⟨rfl, HR6, HF6⟩
    have HF6w := Lib.hid (HF5.out.trans HF6.out)
    obtain ⟨r2, cap2, hv2, hg2, hA2⟩ := HR6.out.value m (by rw [HM3.out]; exact Nat.lt_succ_self m)
    obtain rfl : r = r2 := by injection hv2 with h1 h2 h3; injection h1 with h1; injection h1
    have t6 := HR6.out.at0.cell 0 _ rfl
    have c116 := HR6.out.at0.cell 11 _ rfl
    have d2 := hA2.cell 2 _ rfl
    have fd2 := hA2.froz 2 (by show 2 < 3; decide)
    have HR7 := Lib.hid (HR6.out.setOut (q := r) (cap := c3) (n := m + 1) rfl HM3.out m 2 (Nat.lt_succ_self m) (by decide) (.string X) (fun v => { v with text := X.toList }) (by rw [last_get O m 3 HM.out.1]; show [_, _, _] = [_, _, _]; rw [show (⟨X.toList.toArray⟩ : ByteArray) = X from tl_inj (tl_mk _)]))
    rw [last_text O m 3 X.toList HM.out.1] at HR7
    have HF7 := Lib.hid (HF6w.out.setOut HR6.out.out rfl (Nat.le_of_lt HR6.out.lt) (m * 3 + 2) (.string X))
    clear hA2 hv2 t5 t53 TK HF6
    go_wp2_with fail
    go_region
    all_goals
      go_wp2_with fail
      refine bodyPost_ret (v := .tuple #[.int .i64 (q : Int), .bool true]) (by simp [results, Tryd.results42, go_sem]) rfl (.inl ⟨[⟨3, 0, X.toList⟩], q, HPQ.out.1, HCL.out, rfl, ?_, HF7.out.trans (Fg.drewN g _ 1)⟩)
      rw [HFR.out]
      exact ⟨⟨_, HR7.out.drewN 1⟩, HPQ.out.2.2, HPQ.out.2.1⟩
  | false =>
    have HN2b := Lib.hid (HN2.out hw)
    have HN3b := Lib.hid (HN3.out hw)
    clear hw NB HN1 HN2 HN3 d0 fd0 c114
    go_wp2_with fail
    refine TK.out.mono ?_
    rintro e w6 ⟨rfl, HR6, HF6⟩
    have HF6w := Lib.hid (HF5.out.trans HF6.out)
    have HG6 : Hid (Gok w6 g s L ro (O ++ [⟨3, 0, []⟩]) fr q) := ⟨⟨_, HR6.out⟩, HPQ.out.2.2, HPQ.out.2.1⟩
    clear t5 t53 TK HF6
    by_cases h1 : q < s.size ∧ q < L.bytes
    · have W6 := Lib.hid (gwant_yes HG6.out (q : Int) q rfl h1.1 h1.2 HSZ.out (Nat.le_succ q))
      have HRN := Lib.hid (HN2b.out (has_of h1.1 h1.2))
      rw [HFR.out] at HRN
      clear h1
      go_wp2_with (first
        | (go_at_call 43; refine W6.out.mono ?_; rintro e w7 ⟨rfl, HG7, HF7⟩)
        | (go_at_call 45; refine (gfault16_ok HG7.out _ _ q rfl).mono ?_; rintro e w8 ⟨rfl, HG8, HF8⟩))
      exact bodyPost_ret (v := .tuple #[.int .i64 0, .bool false]) (by simp [results, Tryd.results42, go_sem]) rfl (.inr ⟨_, _, _, _, _, HRN.out, rfl, HG8, (HF6w.out.trans HF7.out).trans HF8.out⟩)
    · have W6 := Lib.hid (gwant_no HG6.out (q : Int) q rfl h1)
      have HRN := Lib.hid (HN3b.out (has_not h1))
      rw [HFR.out] at HRN
      clear h1
      go_wp2_with (go_at_call 43; refine W6.out.mono ?_; rintro e w7 ⟨rfl, HG7, HF7⟩)
      exact bodyPost_ret (v := .tuple #[.int .i64 0, .bool false]) (by simp [results, Tryd.results42, go_sem]) rfl (.inr ⟨_, _, _, _, _, HRN.out, rfl, HG7, HF6w.out.trans HF7.out⟩)
end Jr
end Go.Proofs.YtilfidcomeandaaDoor
namespace Go.Proofs.YtilfidcomeandaaDoor
open Go.RowKit
set_option linter.unusedVariables false
set_option linter.unusedSimpArgs false
namespace Jr
open Js
open Dr (Rs Lm has lack lackE lackP)
set_option maxRecDepth 100000 in
set_option maxHeartbeats 6400000 in
theorem value_n1a {w : World} {g : Nat} {s : ByteArray} {L : Lm} {ro : Int} {O : List Vl} {tk : Nat} (st : St) (hG : Gok w g s L ro O st.G.length tk) (p : Nat) (hs : s.size ≤ 140737488351232) (htk : tk ≤ p + 1) (hq1 : p < s.size) (hq2 : p < L.bytes) (dp : Int)
    (b0 : UInt8) (hc : s.toList.getD p 0 = b0) (hdig : isDigit b0 = true) (y0 : Nat) (hy0 : nextN 0 b0 = some y0) (hi : O.length < L.items) (hiL : L.items ≤ 4096) (hLb : L.bytes ≤ 262144) (hcs : L.bytes < s.size) (ha : st.act L b0 p = .go (st.begin 3 (.num y0 [b0]))) :
    Calls Tryd.prog 42 #[.pointer (some ⟨g, 0, none⟩), .int .i64 (p : Int), .int .i64 dp] w (RetVal st p g s L ro O w) := by
  have W := Lib.hid (gwant_yes hG (p : Int) p rfl hq1 hq2 hs htk)
  have hEP : endP s.toList L = L.bytes := by rw [endP, tl_size]; exact if_pos hcs
  have NR := num_runs (S := s.toList) (L := L) (st := st) (st1 := st.begin 3 (.num y0 [b0])) (p := p) (has_of hq1 hq2) hc hy0 ha (.inr (bump_length _))
  rw [← restN_tl s L p _ hEP, hEP] at NR
  have hRT := fun n (h : p + n ≤ L.bytes) => restN_take s L p n (by rw [hEP]; exact h)
  rw [← restN_tl s L p _ hEP] at hRT
  obtain ⟨R, hR⟩ : ∃ R, s.extract p L.bytes = R := ⟨_, rfl⟩
  rw [hR] at NR hRT
  obtain ⟨n, hn⟩ : ∃ n, (nsteps 0 R.toList).1 = n := ⟨_, rfl⟩
  obtain ⟨kk, hkk⟩ : ∃ k, (nsteps 0 R.toList).2 = k := ⟨_, rfl⟩
  have hRz : R.size ≤ 140737488351232 := by rw [← hR, ByteArray.size_extract]; omega
  have NB := Lib.hid (fun w => rnumber_any R hRz w)
  have hNB : RetNum R.toList = fun w e w' => e = .returned (.tuple #[.int .i64 (n : Int), .bool (wholeN kk)]) ∧ w = w' := by funext w e w'; rw [RetNum, hn, hkk]
  rw [hNB] at NB
  rw [hn, hkk] at NR
  obtain ⟨n1, n2, NR1, NR2, NR3⟩ := NR
  have hfrG : (st.begin 3 (.num y0 [b0])).G.length = st.G.length := bump_length _
  rw [hfrG] at NR2 NR3
  have hAF : ∀ t k2, (nxs (st.begin 3 (.num y0 [b0])) k2 t).endNum t = after st [⟨3, 0, t⟩] := fun t k2 => by
    show ({ nxs (st.begin 3 (.num y0 [b0])) k2 t with cur := withText t (st.cur ++ [⟨3, 0, []⟩]) } : St).ended = _
    rw [withText_snoc]
    rfl
  rw [hAF] at NR1
  rw [← hRT n n2] at NR1
  obtain ⟨X, hX⟩ : ∃ X, s.extract p (p + n) = X := ⟨_, rfl⟩
  obtain ⟨q, hq⟩ : ∃ q, p + n = q := ⟨_, rfl⟩
  have hqi : (p : Int) + (n : Int) = (q : Int) := by omega
  rw [hX] at NR1
  rw [hq] at NR1 NR2 NR3 n2 hX
  have HN1 := Lib.hid NR1
  have HN2 := Lib.hid NR2
  have HN3 := Lib.hid NR3
  have hbt := byte_at s p hq1
  rw [hc] at hbt
  have e2 : (p : Int) < (s.size : Int) := by omega
  have e3 : (0 : Int) ≤ (p : Int) := by omega
  have e4 : (q : Int) ≤ (s.size : Int) := by omega
  have e9 : (q : Int) ≤ 140737488351232 := by omega
  have e5 : (p : Int) ≤ (q : Int) := by omega
  have e6 : (L.bytes : Int) < (s.size : Int) := by omega
  have e7 : (p : Int) ≤ (L.bytes : Int) := by omega
  have HPQ : Hid (p < q ∧ q ≤ s.size ∧ q ≤ L.bytes) := ⟨by omega, by omega, by omega⟩
  have HSZ := Lib.hid hs
  obtain ⟨m, hm⟩ : ∃ m, O.length = m := ⟨_, rfl⟩
  have e0 : ¬ (L.items : Int) ≤ (m : Int) := by omega
  have e0b : decide ((L.items : Int) ≤ (m : Int)) = false := decide_eq_false e0
  have e0c : decide (L.items ≤ m) = false := decide_eq_false (by omega)
  have e0d : ¬ L.items ≤ m := by omega
  have HM : Hid (O.length = m ∧ m ≤ 4096) := ⟨hm, by omega⟩
  have DB := Lib.hid (fun w => rdigit_any b0 w)
  rw [hdig, ← hbt] at DB
  obtain ⟨y, hy⟩ : ∃ y, (s[p]).toNat = y := ⟨_, rfl⟩
  rw [hy] at hbt DB
  have hyd : 48 ≤ y ∧ y ≤ 57 := by rw [isDigit, decide_eq_true_iff] at hdig; omega
  have n11 : ((y : Int) != 34) = true := neT (n := y) (c := 34) (by omega)
  have m11 : ((y : Int) == 34) = false := eqF (by omega)
  have n12 : ((y : Int) != 123) = true := neT (n := y) (c := 123) (by omega)
  have m12 : ((y : Int) == 123) = false := eqF (by omega)
  have n13 : ((y : Int) != 91) = true := neT (n := y) (c := 91) (by omega)
  have m13 : ((y : Int) == 91) = false := eqF (by omega)
  have n14 : ((y : Int) != 116) = true := neT (n := y) (c := 116) (by omega)
  have m14 : ((y : Int) == 116) = false := eqF (by omega)
  have n15 : ((y : Int) != 102) = true := neT (n := y) (c := 102) (by omega)
  have m15 : ((y : Int) == 102) = false := eqF (by omega)
  have n16 : ((y : Int) != 110) = true := neT (n := y) (c := 110) (by omega)
  have m16 : ((y : Int) == 110) = false := eqF (by omega)
  have n17 : ((y : Int) != 45) = true := neT (n := y) (c := 45) (by omega)
  have m17 : ((y : Int) == 45) = false := eqF (by omega)
  clear hyd
  obtain ⟨fr, hfr⟩ : ∃ n, st.G.length = n := ⟨_, rfl⟩
  have HFR := Lib.hid hfr
  rw [hfr] at W
  clear hG hs htk hq2 hc ha hbt hm hi hiL hfr hdig hy0 hLb hcs hEP NR1 NR2 NR3 hRT hn hkk hRz hNB n1 n2 hfrG hAF hq
  go_enter Tryd.func42, Tryd.ntmps42
  go_wp2_with fail
  refine W.out.mono ?_
  rintro e w1 ⟨rfl, HG1, HF1⟩
  have t0 := Gok.txt HG1.out
  obtain ⟨⟨vo, hRg⟩, htl⟩ := HG1.out
  have HTL := Lib.hid htl
  obtain ⟨aV, cV, rfl, -⟩ := own_form hRg.out
  rw [HM.out.1] at hRg
  have c2 := hRg.at0.cell 2 _ rfl
  have c11 := hRg.at0.cell 11 _ rfl
  have HR := Lib.hid hRg
  clear hRg htl
  go_wp2_with (go_at_call 62; refine (DB.out _).mono ?_; rintro e w2 ⟨rfl, rfl⟩)
  go_quiet (fail)
  have HR2 := Lib.hid (HR.out.drewN nq)
  have HF2 := Lib.hid (HF1.out.trans (Fg.drewN g w1 nq))
  have t2 : (w1.drewN nq).cell? ⟨g, 0, none⟩ = some (.string s) := t0
  have c112 := HR2.out.at0.cell 11 _ rfl
  generalize w1.drewN nq = w2 at *
  clear c2 c11 t0 HR HF1 HG1
  go_upto_region 30 with (at_builtin; refine wpList_append_vl rfl (.tmp 105) (.tmp 107) rfl (g + 1) (.slice aV m cV) m O rfl (by have h9 := HR2.out.out; rw [HM.out.1] at h9; exact h9.alloc _) w2.heap.size 1 (⟨0, 0, []⟩ : Vl) rfl (at_cellsW (vv_new 0) (At.ofAlloc w2 #[Value.int .i64 0, Value.int .i64 0, Value.string ByteArray.empty] 61)) (by have := HM.out.2; omega) (by have := HR2.out.lt; simp; omega) ?_; intro v3 w3 hown3 hgrow3; obtain ⟨a3, c3, hv3, hg3⟩ := own_form hown3; obtain ⟨r, hr⟩ := hg3 (Nat.succ_pos _); subst hr; subst hv3; have hAt3 := At.grown ((HR2.out.alloc zv).at0) hgrow3 (HR2.out.alloc zv).lt (fun e => by have := (HR2.out.out.lt g e).1; omega); have f113 := hAt3.froz 11 (by show 11 < 12; decide); have c113 := hAt3.cell 11 _ rfl; have HO3 := Lib.hid hown3; have HGR := Lib.hid hgrow3; clear hAt3 hown3 hgrow3)
  have HR4 : Hid (Rg (w3.setCell ⟨g, 11, none⟩ (.slice (some ⟨r, 0, none⟩) (m + 1) c3)) g s L ro (O ++ [⟨0, 0, []⟩]) (.slice (some ⟨r, 0, none⟩) (m + 1) c3) 0 0 (p + 1) fr false) := by
    have h9 := (HR2.out.alloc zv).push (O' := O ++ [⟨0, 0, []⟩]) HGR.out (by rw [List.length_append, HM.out.1]; exact HO3.out)
    exact h9
  have HF4 : Hid (Fg g w (w3.setCell ⟨g, 11, none⟩ (.slice (some ⟨r, 0, none⟩) (m + 1) c3))) := by
    have h8 := (HF2.out.alloc (Nat.le_of_lt HR2.out.lt) zv).vals (HR2.out.alloc zv).out (Nat.le_of_lt (HR2.out.alloc zv).lt) HGR.out
    exact h8.push (by have h9 := c113; rw [Nat.zero_add] at h9; exact h9) (Nat.le_succ m)
  generalize w3.setCell ⟨g, 11, none⟩ (.slice (some ⟨r, 0, none⟩) (m + 1) c3) = w4 at HR4 HF4 ⊢
  obtain ⟨q2, cap, hvq, hgq, hAq⟩ := HR4.out.value m (by rw [List.length_append, HM.out.1]; exact Nat.lt_succ_self m)
  obtain rfl : r = q2 := by injection hvq with h1 h2 h3; injection h1 with h1; injection h1
  have d0 := hAq.cell 0 _ rfl
  have fd0 := hAq.froz 0 (by show 0 < 3; decide)
  have c114 := HR4.out.at0.cell 11 _ rfl
  have e8 : (m : Int) < (m : Int) + 1 := by omega
  have HR5 := Lib.hid (HR4.out.setOut (q := r) (cap := c3) (n := m + 1) rfl (by rw [List.length_append, HM.out.1]; rfl) m 0 (Nat.lt_succ_self m) (by decide) (.int .i64 3) (fun v => { v with kind := 3 }) rfl)
  have HF5 := Lib.hid (HF4.out.setOut HR4.out.out rfl (Nat.le_of_lt HR4.out.lt) (m * 3 + 0) (.int .i64 3))
  rw [last_kind O m 3 HM.out.1] at HR5
  rw [Nat.add_zero] at HR5 HF5 d0 fd0
  clear c112 hAq hvq f113 c113 t2
  have t5 := HR5.out.at0.cell 0 _ rfl
  have t53 := HR5.out.at0.cell 3 _ rfl
  have TK := Lib.hid (gtake_any HR5.out (q : Int) q (by have := HPQ.out; omega) rfl)
  go_wp2_with fail
  refine (NB.out _).mono ?_
  rintro e w5 ⟨rfl, rfl⟩
  have HM3 : Hid ((O ++ [(⟨3, 0, []⟩ : Vl)]).length = m + 1) := by show _ = _; rw [List.length_append, HM.out.1]; rfl
  cases hw : wholeN kk with
  | true =>
    have HCL := Lib.hid (HN1.out hw)
    clear hw NB HN1 HN2 HN3 d0 fd0 c114
    go_wp2_with fail
    refine TK.out.mono ?_
    rintro e w6 ⟨rfl, HR6, HF6⟩
    have HF6w := Lib.hid (HF5.out.trans HF6.out)
    obtain ⟨r2, cap2, hv2, hg2, hA2⟩ := HR6.out.value m (by rw [HM3.out]; exact Nat.lt_succ_self m)
    obtain rfl : r = r2 := by injection hv2 with h1 h2 h3; injection h1 with h1; injection h1
    have t6 := HR6.out.at0.cell 0 _ rfl
    have c116 := HR6.out.at0.cell 11 _ rfl
    have d2 := hA2.cell 2 _ rfl
    have fd2 := hA2.froz 2 (by show 2 < 3; decide)
    have HR7 := Lib.hid (HR6.out.setOut (q := r) (cap := c3) (n := m + 1) rfl HM3.out m 2 (Nat.lt_succ_self m) (by decide) (.string X) (fun v => { v with text := X.toList }) (by rw [last_get O m 3 HM.out.1]; show [_, _, _] = [_, _, _]; rw [show (⟨X.toList.toArray⟩ : ByteArray) = X from tl_inj (tl_mk _)]))
    rw [last_text O m 3 X.toList HM.out.1] at HR7
    have HF7 := Lib.hid (HF6w.out.setOut HR6.out.out rfl (Nat.le_of_lt HR6.out.lt) (m * 3 + 2) (.string X))
    clear hA2 hv2 t5 t53 TK HF6
    go_wp2_with fail
    go_region
    all_goals
      go_wp2_with fail
      refine bodyPost_ret (v := .tuple #[.int .i64 (q : Int), .bool true]) (by simp [results, Tryd.results42, go_sem]) rfl (.inl ⟨[⟨3, 0, X.toList⟩], q, HPQ.out.1, HCL.out, rfl, ?_, HF7.out.trans (Fg.drewN g _ 1)⟩)
      rw [HFR.out]
      exact ⟨⟨_, HR7.out.drewN 1⟩, HPQ.out.2.2, HPQ.out.2.1⟩
  | false =>
    have HN2b := Lib.hid (HN2.out hw)
    have HN3b := Lib.hid (HN3.out hw)
    clear hw NB HN1 HN2 HN3 d0 fd0 c114
    go_wp2_with fail
    refine TK.out.mono ?_
    rintro e w6 ⟨rfl, HR6, HF6⟩
    have HF6w := Lib.hid (HF5.out.trans HF6.out)
    have HG6 : Hid (Gok w6 g s L ro (O ++ [⟨3, 0, []⟩]) fr q) := ⟨⟨_, HR6.out⟩, HPQ.out.2.2, HPQ.out.2.1⟩
    clear t5 t53 TK HF6
    by_cases h1 : q < s.size ∧ q < L.bytes
    · have W6 := Lib.hid (gwant_yes HG6.out (q : Int) q rfl h1.1 h1.2 HSZ.out (Nat.le_succ q))
      have HRN := Lib.hid (HN2b.out (has_of h1.1 h1.2))
      rw [HFR.out] at HRN
      clear h1
      go_wp2_with (first
        | (go_at_call 43; refine W6.out.mono ?_; rintro e w7 ⟨rfl, HG7, HF7⟩)
        | (go_at_call 45; refine (gfault16_ok HG7.out _ _ q rfl).mono ?_; rintro e w8 ⟨rfl, HG8, HF8⟩))
      exact bodyPost_ret (v := .tuple #[.int .i64 0, .bool false]) (by simp [results, Tryd.results42, go_sem]) rfl (.inr ⟨_, _, _, _, _, HRN.out, rfl, HG8, (HF6w.out.trans HF7.out).trans HF8.out⟩)
    · have W6 := Lib.hid (gwant_no HG6.out (q : Int) q rfl h1)
      have HRN := Lib.hid (HN3b.out (has_not h1))
      rw [HFR.out] at HRN
      clear h1
      go_wp2_with (go_at_call 43; refine W6.out.mono ?_; rintro e w7 ⟨rfl, HG7, HF7⟩)
      exact bodyPost_ret (v := .tuple #[.int .i64 0, .bool false]) (by simp [results, Tryd.results42, go_sem]) rfl (.inr ⟨_, _, _, _, _, HRN.out, rfl, HG7, HF6w.out.trans HF7.out⟩)
set_option maxRecDepth 100000 in
set_option maxHeartbeats 6400000 in
theorem value_n1b {w : World} {g : Nat} {s : ByteArray} {L : Lm} {ro : Int} {O : List Vl} {tk : Nat} (st : St) (hG : Gok w g s L ro O st.G.length tk) (p : Nat) (hs : s.size ≤ 140737488351232) (htk : tk ≤ p + 1) (hq1 : p < s.size) (hq2 : p < L.bytes) (dp : Int)
    (b0 : UInt8) (hc : s.toList.getD p 0 = b0) (hdig : isDigit b0 = true) (y0 : Nat) (hy0 : nextN 0 b0 = some y0) (hi : O.length < L.items) (hiL : L.items ≤ 4096) (hLb : L.bytes ≤ 262144) (hcs : ¬ L.bytes < s.size) (ha : st.act L b0 p = .go (st.begin 3 (.num y0 [b0]))) :
    Calls Tryd.prog 42 #[.pointer (some ⟨g, 0, none⟩), .int .i64 (p : Int), .int .i64 dp] w (RetVal st p g s L ro O w) := by
  have W := Lib.hid (gwant_yes hG (p : Int) p rfl hq1 hq2 hs htk)
  have hEP : endP s.toList L = s.size := by rw [endP, tl_size]; exact if_neg hcs
  have NR := num_runs (S := s.toList) (L := L) (st := st) (st1 := st.begin 3 (.num y0 [b0])) (p := p) (has_of hq1 hq2) hc hy0 ha (.inr (bump_length _))
  rw [← restN_tl s L p _ hEP, hEP] at NR
  have hRT := fun n (h : p + n ≤ s.size) => restN_take s L p n (by rw [hEP]; exact h)
  rw [← restN_tl s L p _ hEP] at hRT
  obtain ⟨R, hR⟩ : ∃ R, s.extract p s.size = R := ⟨_, rfl⟩
  rw [hR] at NR hRT
  obtain ⟨n, hn⟩ : ∃ n, (nsteps 0 R.toList).1 = n := ⟨_, rfl⟩
  obtain ⟨kk, hkk⟩ : ∃ k, (nsteps 0 R.toList).2 = k := ⟨_, rfl⟩
  have hRz : R.size ≤ 140737488351232 := by rw [← hR, ByteArray.size_extract]; omega
  have NB := Lib.hid (fun w => rnumber_any R hRz w)
  have hNB : RetNum R.toList = fun w e w' => e = .returned (.tuple #[.int .i64 (n : Int), .bool (wholeN kk)]) ∧ w = w' := by funext w e w'; rw [RetNum, hn, hkk]
  rw [hNB] at NB
  rw [hn, hkk] at NR
  obtain ⟨n1, n2, NR1, NR2, NR3⟩ := NR
  have hfrG : (st.begin 3 (.num y0 [b0])).G.length = st.G.length := bump_length _
  rw [hfrG] at NR2 NR3
  have hAF : ∀ t k2, (nxs (st.begin 3 (.num y0 [b0])) k2 t).endNum t = after st [⟨3, 0, t⟩] := fun t k2 => by
    show ({ nxs (st.begin 3 (.num y0 [b0])) k2 t with cur := withText t (st.cur ++ [⟨3, 0, []⟩]) } : St).ended = _
    rw [withText_snoc]
    rfl
  rw [hAF] at NR1
  rw [← hRT n n2] at NR1
  obtain ⟨X, hX⟩ : ∃ X, s.extract p (p + n) = X := ⟨_, rfl⟩
  obtain ⟨q, hq⟩ : ∃ q, p + n = q := ⟨_, rfl⟩
  have hqi : (p : Int) + (n : Int) = (q : Int) := by omega
  rw [hX] at NR1
  rw [hq] at NR1 NR2 NR3 n2 hX
  have HN1 := Lib.hid NR1
  have HN2 := Lib.hid NR2
  have HN3 := Lib.hid NR3
  have hbt := byte_at s p hq1
  rw [hc] at hbt
  have e2 : (p : Int) < (s.size : Int) := by omega
  have e3 : (0 : Int) ≤ (p : Int) := by omega
  have e4 : (q : Int) ≤ (s.size : Int) := by omega
  have e9 : (q : Int) ≤ 140737488351232 := by omega
  have e5 : (p : Int) ≤ (q : Int) := by omega
  have e6 : ¬ (L.bytes : Int) < (s.size : Int) := by omega
  have e7 : (p : Int) ≤ (s.size : Int) := by omega
  have HPQ : Hid (p < q ∧ q ≤ s.size ∧ q ≤ L.bytes) := ⟨by omega, by omega, by omega⟩
  have HSZ := Lib.hid hs
  obtain ⟨m, hm⟩ : ∃ m, O.length = m := ⟨_, rfl⟩
  have e0 : ¬ (L.items : Int) ≤ (m : Int) := by omega
  have e0b : decide ((L.items : Int) ≤ (m : Int)) = false := decide_eq_false e0
  have e0c : decide (L.items ≤ m) = false := decide_eq_false (by omega)
  have e0d : ¬ L.items ≤ m := by omega
  have HM : Hid (O.length = m ∧ m ≤ 4096) := ⟨hm, by omega⟩
  have DB := Lib.hid (fun w => rdigit_any b0 w)
  rw [hdig, ← hbt] at DB
  obtain ⟨y, hy⟩ : ∃ y, (s[p]).toNat = y := ⟨_, rfl⟩
  rw [hy] at hbt DB
  have hyd : 48 ≤ y ∧ y ≤ 57 := by rw [isDigit, decide_eq_true_iff] at hdig; omega
  have n11 : ((y : Int) != 34) = true := neT (n := y) (c := 34) (by omega)
  have m11 : ((y : Int) == 34) = false := eqF (by omega)
  have n12 : ((y : Int) != 123) = true := neT (n := y) (c := 123) (by omega)
  have m12 : ((y : Int) == 123) = false := eqF (by omega)
  have n13 : ((y : Int) != 91) = true := neT (n := y) (c := 91) (by omega)
  have m13 : ((y : Int) == 91) = false := eqF (by omega)
  have n14 : ((y : Int) != 116) = true := neT (n := y) (c := 116) (by omega)
  have m14 : ((y : Int) == 116) = false := eqF (by omega)
  have n15 : ((y : Int) != 102) = true := neT (n := y) (c := 102) (by omega)
  have m15 : ((y : Int) == 102) = false := eqF (by omega)
  have n16 : ((y : Int) != 110) = true := neT (n := y) (c := 110) (by omega)
  have m16 : ((y : Int) == 110) = false := eqF (by omega)
  have n17 : ((y : Int) != 45) = true := neT (n := y) (c := 45) (by omega)
  have m17 : ((y : Int) == 45) = false := eqF (by omega)
  clear hyd
  obtain ⟨fr, hfr⟩ : ∃ n, st.G.length = n := ⟨_, rfl⟩
  have HFR := Lib.hid hfr
  rw [hfr] at W
  clear hG hs htk hq2 hc ha hbt hm hi hiL hfr hdig hy0 hLb hcs hEP NR1 NR2 NR3 hRT hn hkk hRz hNB n1 n2 hfrG hAF hq
  go_enter Tryd.func42, Tryd.ntmps42
  go_wp2_with fail
  refine W.out.mono ?_
  rintro e w1 ⟨rfl, HG1, HF1⟩
  have t0 := Gok.txt HG1.out
  obtain ⟨⟨vo, hRg⟩, htl⟩ := HG1.out
  have HTL := Lib.hid htl
  obtain ⟨aV, cV, rfl, -⟩ := own_form hRg.out
  rw [HM.out.1] at hRg
  have c2 := hRg.at0.cell 2 _ rfl
  have c11 := hRg.at0.cell 11 _ rfl
  have HR := Lib.hid hRg
  clear hRg htl
  go_wp2_with (go_at_call 62; refine (DB.out _).mono ?_; rintro e w2 ⟨rfl, rfl⟩)
  go_quiet (fail)
  have HR2 := Lib.hid (HR.out.drewN nq)
  have HF2 := Lib.hid (HF1.out.trans (Fg.drewN g w1 nq))
  have t2 : (w1.drewN nq).cell? ⟨g, 0, none⟩ = some (.string s) := t0
  have c112 := HR2.out.at0.cell 11 _ rfl
  generalize w1.drewN nq = w2 at *
  clear c2 c11 t0 HR HF1 HG1
  go_upto_region 30 with (at_builtin; refine wpList_append_vl rfl (.tmp 105) (.tmp 107) rfl (g + 1) (.slice aV m cV) m O rfl (by have h9 := HR2.out.out; rw [HM.out.1] at h9; exact h9.alloc _) w2.heap.size 1 (⟨0, 0, []⟩ : Vl) rfl (at_cellsW (vv_new 0) (At.ofAlloc w2 #[Value.int .i64 0, Value.int .i64 0, Value.string ByteArray.empty] 61)) (by have := HM.out.2; omega) (by have := HR2.out.lt; simp; omega) ?_; intro v3 w3 hown3 hgrow3; obtain ⟨a3, c3, hv3, hg3⟩ := own_form hown3; obtain ⟨r, hr⟩ := hg3 (Nat.succ_pos _); subst hr; subst hv3; have hAt3 := At.grown ((HR2.out.alloc zv).at0) hgrow3 (HR2.out.alloc zv).lt (fun e => by have := (HR2.out.out.lt g e).1; omega); have f113 := hAt3.froz 11 (by show 11 < 12; decide); have c113 := hAt3.cell 11 _ rfl; have HO3 := Lib.hid hown3; have HGR := Lib.hid hgrow3; clear hAt3 hown3 hgrow3)
  have HR4 : Hid (Rg (w3.setCell ⟨g, 11, none⟩ (.slice (some ⟨r, 0, none⟩) (m + 1) c3)) g s L ro (O ++ [⟨0, 0, []⟩]) (.slice (some ⟨r, 0, none⟩) (m + 1) c3) 0 0 (p + 1) fr false) := by
    have h9 := (HR2.out.alloc zv).push (O' := O ++ [⟨0, 0, []⟩]) HGR.out (by rw [List.length_append, HM.out.1]; exact HO3.out)
    exact h9
  have HF4 : Hid (Fg g w (w3.setCell ⟨g, 11, none⟩ (.slice (some ⟨r, 0, none⟩) (m + 1) c3))) := by
    have h8 := (HF2.out.alloc (Nat.le_of_lt HR2.out.lt) zv).vals (HR2.out.alloc zv).out (Nat.le_of_lt (HR2.out.alloc zv).lt) HGR.out
    exact h8.push (by have h9 := c113; rw [Nat.zero_add] at h9; exact h9) (Nat.le_succ m)
  generalize w3.setCell ⟨g, 11, none⟩ (.slice (some ⟨r, 0, none⟩) (m + 1) c3) = w4 at HR4 HF4 ⊢
  obtain ⟨q2, cap, hvq, hgq, hAq⟩ := HR4.out.value m (by rw [List.length_append, HM.out.1]; exact Nat.lt_succ_self m)
  obtain rfl : r = q2 := by injection hvq with h1 h2 h3; injection h1 with h1; injection h1
  have d0 := hAq.cell 0 _ rfl
  have fd0 := hAq.froz 0 (by show 0 < 3; decide)
  have c114 := HR4.out.at0.cell 11 _ rfl
  have e8 : (m : Int) < (m : Int) + 1 := by omega
  have HR5 := Lib.hid (HR4.out.setOut (q := r) (cap := c3) (n := m + 1) rfl (by rw [List.length_append, HM.out.1]; rfl) m 0 (Nat.lt_succ_self m) (by decide) (.int .i64 3) (fun v => { v with kind := 3 }) rfl)
  have HF5 := Lib.hid (HF4.out.setOut HR4.out.out rfl (Nat.le_of_lt HR4.out.lt) (m * 3 + 0) (.int .i64 3))
  rw [last_kind O m 3 HM.out.1] at HR5
  rw [Nat.add_zero] at HR5 HF5 d0 fd0
  clear c112 hAq hvq f113 c113 t2
  have t5 := HR5.out.at0.cell 0 _ rfl
  have t53 := HR5.out.at0.cell 3 _ rfl
  have TK := Lib.hid (gtake_any HR5.out (q : Int) q (by have := HPQ.out; omega) rfl)
  go_wp2_with fail
  refine (NB.out _).mono ?_
  rintro e w5 ⟨rfl, rfl⟩
  have HM3 : Hid ((O ++ [(⟨3, 0, []⟩ : Vl)]).length = m + 1) := by show _ = _; rw [List.length_append, HM.out.1]; rfl
  cases hw : wholeN kk with
  | true =>
    have HCL := Lib.hid (HN1.out hw)
    clear hw NB HN1 HN2 HN3 d0 fd0 c114
    go_wp2_with fail
    refine TK.out.mono ?_
    rintro e w6 ⟨rfl, HR6, HF6⟩
    have HF6w := Lib.hid (HF5.out.trans HF6.out)
    obtain ⟨r2, cap2, hv2, hg2, hA2⟩ := HR6.out.value m (by rw [HM3.out]; exact Nat.lt_succ_self m)
    obtain rfl : r = r2 := by injection hv2 with h1 h2 h3; injection h1 with h1; injection h1
    have t6 := HR6.out.at0.cell 0 _ rfl
    have c116 := HR6.out.at0.cell 11 _ rfl
    have d2 := hA2.cell 2 _ rfl
    have fd2 := hA2.froz 2 (by show 2 < 3; decide)
    have HR7 := Lib.hid (HR6.out.setOut (q := r) (cap := c3) (n := m + 1) rfl HM3.out m 2 (Nat.lt_succ_self m) (by decide) (.string X) (fun v => { v with text := X.toList }) (by rw [last_get O m 3 HM.out.1]; show [_, _, _] = [_, _, _]; rw [show (⟨X.toList.toArray⟩ : ByteArray) = X from tl_inj (tl_mk _)]))
    rw [last_text O m 3 X.toList HM.out.1] at HR7
    have HF7 := Lib.hid (HF6w.out.setOut HR6.out.out rfl (Nat.le_of_lt HR6.out.lt) (m * 3 + 2) (.string X))
    clear hA2 hv2 t5 t53 TK HF6
    go_wp2_with fail
    go_region
    all_goals
      go_wp2_with fail
      refine bodyPost_ret (v := .tuple #[.int .i64 (q : Int), .bool true]) (by simp [results, Tryd.results42, go_sem]) rfl (.inl ⟨[⟨3, 0, X.toList⟩], q, HPQ.out.1, HCL.out, rfl, ?_, HF7.out.trans (Fg.drewN g _ 1)⟩)
      rw [HFR.out]
      exact ⟨⟨_, HR7.out.drewN 1⟩, HPQ.out.2.2, HPQ.out.2.1⟩
  | false =>
    have HN2b := Lib.hid (HN2.out hw)
    have HN3b := Lib.hid (HN3.out hw)
    clear hw NB HN1 HN2 HN3 d0 fd0 c114
    go_wp2_with fail
    refine TK.out.mono ?_
    rintro e w6 ⟨rfl, HR6, HF6⟩
    have HF6w := Lib.hid (HF5.out.trans HF6.out)
    have HG6 : Hid (Gok w6 g s L ro (O ++ [⟨3, 0, []⟩]) fr q) := ⟨⟨_, HR6.out⟩, HPQ.out.2.2, HPQ.out.2.1⟩
    clear t5 t53 TK HF6
    by_cases h1 : q < s.size ∧ q < L.bytes
    · have W6 := Lib.hid (gwant_yes HG6.out (q : Int) q rfl h1.1 h1.2 HSZ.out (Nat.le_succ q))
      have HRN := Lib.hid (HN2b.out (has_of h1.1 h1.2))
      rw [HFR.out] at HRN
      clear h1
      go_wp2_with (first
        | (go_at_call 43; refine W6.out.mono ?_; rintro e w7 ⟨rfl, HG7, HF7⟩)
        | (go_at_call 45; refine (gfault16_ok HG7.out _ _ q rfl).mono ?_; rintro e w8 ⟨rfl, HG8, HF8⟩))
      exact bodyPost_ret (v := .tuple #[.int .i64 0, .bool false]) (by simp [results, Tryd.results42, go_sem]) rfl (.inr ⟨_, _, _, _, _, HRN.out, rfl, HG8, (HF6w.out.trans HF7.out).trans HF8.out⟩)
    · have W6 := Lib.hid (gwant_no HG6.out (q : Int) q rfl h1)
      have HRN := Lib.hid (HN3b.out (has_not h1))
      rw [HFR.out] at HRN
      clear h1
      go_wp2_with (go_at_call 43; refine W6.out.mono ?_; rintro e w7 ⟨rfl, HG7, HF7⟩)
      exact bodyPost_ret (v := .tuple #[.int .i64 0, .bool false]) (by simp [results, Tryd.results42, go_sem]) rfl (.inr ⟨_, _, _, _, _, HRN.out, rfl, HG7, HF6w.out.trans HF7.out⟩)
end Jr
end Go.Proofs.YtilfidcomeandaaDoor
