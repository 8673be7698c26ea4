/- The document's item that holds others; any item. -/
import Derived.Test.YteanipjgpekncaaDoorCqE
namespace Go.Proofs.YteanipjgpekncaaDoor
open Go.RowKit
set_option linter.unusedVariables false
set_option linter.unusedSimpArgs false
namespace Co
open Dr (Rs Lm has lack at0S lackE lackP)
theorem one_any (m : Nat) (s : ByteArray) (L : Lm) (ro : Int) (g : Nat) (IT : ItAll m s L ro g) (w : World) (O : List Am) (G : List Fr) (l : List Am) (p0 q d1 : Nat)
    (hR : Gok w g s L ro O (G.length + 1)) (hl : l.length = O.length) (hq : q ≤ s.size) (hm : s.size - q < m) (hG : G.length ≤ 999) (hd : G.length + 1 = d1) :
    Calls Tryd.prog 51 #[.pointer (some ⟨g, 0, none⟩), .int .i64 (q : Int), .int .i64 (d1 : Int)] w (GIns s L ro g O G l ⟨p0, 1, false, false, false, []⟩ q w) := by
  refine (IT w O (⟨p0, 1, false, false, false, []⟩ :: G) l q d1 hm hR hl hq (by rw [List.length_cons]; omega) hd).mono ?_
  rintro e w2 (⟨N2, a2, h0, h1, h2, h3⟩ | ⟨c, x, b, h0, h3⟩)
  · exact .inl ⟨N2, a2, h0, by omega, h2, fun r h => loop_open (show (1 : Nat) ≠ 0 by decide) (h3 r (step_item (loop_shut rfl h)))⟩
  · exact .inr ⟨c, x, b, h0, loop_open (show (1 : Nat) ≠ 0 by decide) h3⟩
section
variable (w : World) (g : Nat) (s : ByteArray) (L : Lm) (ro : Int) (O : List Am) (fr : Nat) (G : List Fr) (l : List Am) (p d : Nat)
set_option maxRecDepth 100000 in
set_option maxHeartbeats 1600000 in
theorem gitem_hold4 (hR : Gok w g s L ro O fr) (hl : l.length = O.length) (hz : s.size ≤ 140737488351232) (hLi : L.items ≤ 4096) {n : Nat} (hh : hdR s.toList L l.length p = .ok n) {k : Nat} (hk : kindT (s.toList.getD p 0) = k) {q : Nat} (hq : p + 1 + widT (s.toList.getD p 0) = q) (h5 : k = 4) (hd : d = G.length) (hfr : fr = d) (h6 : ¬ L.depth ≤ G.length) (hLd : L.depth ≤ 32) (mm : Nat) (IT : ItAll mm s L ro g) (hmm : s.size - p < mm + 1) :
    Calls Tryd.prog 51 #[.pointer (some ⟨g, 0, none⟩), .int .i64 (p : Int), .int .i64 (d : Int)] w (GItem s L ro g O fr G l p w) := by
  have H := Lib.hid (ghead_any w g s L ro O fr p hR hz)
  rw [← hl, hh] at H
  have H : Hid (Calls Tryd.prog 75 #[.pointer (some ⟨g, 0, none⟩), .int .i64 (p : Int)] w (GYes (.tuple #[.int .i64 (k : Int), .int .u64 (n : Int), .int .i64 (q : Int), .bool true]) g s L ro O fr w)) := by
    have h9 : Calls Tryd.prog 75 #[.pointer (some ⟨g, 0, none⟩), .int .i64 (p : Int)] w (GYes (.tuple #[.int .i64 (kindT (s.toList.getD p 0) : Int), .int .u64 (n : Int), .int .i64 ((p + 1 + widT (s.toList.getD p 0) : Nat) : Int), .bool true]) g s L ro O fr w) := H.out
    rw [hk, hq] at h9
    exact h9
  obtain ⟨h0, hi2, h3, hA⟩ := hdR_ok hh
  obtain ⟨-, -, hn, hqs⟩ := argR_inv h0 h3 hA
  rw [hq, tl_size] at hqs
  have hqb := argR_pb h0 hA
  rw [hq] at hqb
  have hpq : p + 1 ≤ q := by omega
  obtain ⟨m, hm⟩ : ∃ m, O.length = m := ⟨_, rfl⟩
  have HM : Hid (O.length = m ∧ m ≤ 4096) := ⟨hm, by omega⟩
  subst h5 hfr
  have HE : Hid (elS s.toList L Lib.validD G l p = .ok (.loop (⟨p, n, false, false, false, []⟩ :: G) (l ++ [(⟨4, n, []⟩ : Am)]) q)) := elS_ghold (G := G) hh hk hq (by decide) h6
  have e5 : ¬ (L.depth : Int) ≤ (fr : Int) := by omega
  have e5b : decide ((L.depth : Int) ≤ (fr : Int)) = false := decide_eq_false e5
  obtain ⟨d1, hd1⟩ : ∃ d1, fr + 1 = d1 := ⟨_, rfl⟩
  have e6 : (fr : Int) + 1 = (d1 : Int) := by omega
  have e7 : IntKind.i64.wrap (d1 : Int) = (d1 : Int) := wrap_fit d1 (by unfold maxLen; omega)
  have e8 : (d1 : Int) - 1 = (fr : Int) := by omega
  have e9 : IntKind.i64.wrap (fr : Int) = (fr : Int) := wrap_fit fr (by unfold maxLen; omega)
  have IN := Lib.hid (fun w' (h : Gok w' g s L ro (O ++ [(⟨4, n, []⟩ : Am)]) (G.length + 1)) => items_any mm s L ro g IT hz w' (O ++ [(⟨4, n, []⟩ : Am)]) G (l ++ [(⟨4, n, []⟩ : Am)]) p q n d1 h (by simp only [List.length_append]; omega) hqs (by omega) hn (by omega) (by omega))
  have hd2 : G.length + 1 = d1 := by omega
  rw [hd2] at IN
  have HF := Lib.hid (And.intro hpq (And.intro hqs hd2))
  have HAV : Hid (rv (up (⟨4, n, []⟩ : Am)) = (#[Value.int .i64 4, Value.int .u64 (n : Int), Value.string ⟨#[]⟩]).toList) := rfl
  clear hR hl hz hLi hh hk hq h0 hi2 h3 hA hn hqs hqb hpq hm hd h6 hLd hmm hd1 hd2 IT
  go_enter Tryd.func51, Tryd.ntmps51
  go_wp2_with (first
    | (go_at_call 75; refine H.out.mono ?_; rintro e w1 ⟨rfl, HQ1, HB1⟩; obtain ⟨a1, c1, tk1, HR1, HO1⟩ := HQ1.out.opnM HM.out.1; have k11 := HR1.out.at0.cell 11 _ rfl; have k1 := HR1.out.at0.cell 1 _ rfl)
    | (at_builtin; refine wpList_append_am rfl (.tmp 100) (.tmp 104) rfl (g + 1) _ m (O.map up) rfl (HO1.out.alloc _) _ 1 (up (⟨4, n, []⟩ : Am)) rfl (at_cells HAV.out (At.ofAlloc _ #[Value.int .i64 4, Value.int .u64 (n : Int), Value.string ⟨#[]⟩] 75)) (by have := HM.out.2; omega) (by have := HR1.out.lt; simp; omega) ?_; intro v' w3 hown3 hgrow3; obtain ⟨hf3, ⟨u3, hc3⟩, HQ3, HB3⟩ := gadd_all (y := (⟨4, n, []⟩ : Am)) HR1.out hgrow3 HM.out.1 hown3; obtain ⟨a3, c3, rfl, -⟩ := own_form hown3; clear hown3 hgrow3; obtain ⟨a5, c5, tk5, HR5⟩ := HQ3.out.opn; have k9 := HR5.out.at0.cell 9 _ rfl; have f9 := HR5.out.at0.froz 9 (Nat.le_of_ble_eq_true rfl)))
  have HQ6 : Hid (Gok ((w3.setCell ⟨g, 11, none⟩ (.slice a3 (m + 1) c3)).setCell ⟨g, 9, none⟩ (.int .i64 (d1 : Int))) g s L ro (O ++ [(⟨4, n, []⟩ : Am)]) d1) := ⟨_, _, HR5.out.setC 9 (.int .i64 (d1 : Int)) (fr' := d1) rfl⟩
  have HB6 : Hid (Below g w ((w3.setCell ⟨g, 11, none⟩ (.slice a3 (m + 1) c3)).setCell ⟨g, 9, none⟩ (.int .i64 (d1 : Int)))) := (HB1.out.trans HB3.out).setCell (p := ⟨g, 9, none⟩) (Nat.le_refl _) _
  refine (IN.out _ HQ6.out).mono ?_
  rintro e w7 (⟨N, a, ⟨rfl, HQ7, HB7⟩, h71, h72, h73⟩ | ⟨c7, x7, b7, ⟨rfl, HQ7, HB7⟩, h73⟩)
  · have HQ7 : Hid (Gok w7 g s L ro (O ++ [(⟨4, n, []⟩ : Am)] ++ N) d1) := (by show Gok _ _ _ _ _ _ _; rw [← HF.out.2.2]; exact HQ7.out)
    obtain ⟨a8, c8, tk8, HR8⟩ := HQ7.out.opn
    have k9b := HR8.out.at0.cell 9 _ rfl
    have f9b := HR8.out.at0.froz 9 (Nat.le_of_ble_eq_true rfl)
    have H71 : Hid (p + 1 ≤ a) := by have := HF.out.1; show p + 1 ≤ a; omega
    go_wp2_with fail
    go_ret2
    have HQ9 : Hid (Gok (w7.setCell ⟨g, 9, none⟩ (.int .i64 (fr : Int))) g s L ro (O ++ ([(⟨4, n, []⟩ : Am)] ++ N)) fr) := by
      show Gok _ _ _ _ _ _ _
      rw [← List.append_assoc]
      exact ⟨_, _, HR8.out.setC 9 (.int .i64 (fr : Int)) (fr' := fr) rfl⟩
    exact .inl ⟨[(⟨4, n, []⟩ : Am)] ++ N, a, ⟨rfl, HQ9, ((HB6.out.trans HB7.out).setCell (p := ⟨g, 9, none⟩) (Nat.le_refl _) _)⟩, H71.out, h72, fun r h => Runs.el HE.out (h73 r (by rw [List.append_assoc]; exact h))⟩
  · go_wp2_with fail
    go_ret2
    exact .inr ⟨c7, x7, b7, ⟨rfl, HQ7, HB6.out.trans HB7.out⟩, Runs.el HE.out h73⟩
set_option maxRecDepth 100000 in
set_option maxHeartbeats 1600000 in
theorem gitem_hold5 (hR : Gok w g s L ro O fr) (hl : l.length = O.length) (hz : s.size ≤ 140737488351232) (hLi : L.items ≤ 4096) {n : Nat} (hh : hdR s.toList L l.length p = .ok n) {k : Nat} (hk : kindT (s.toList.getD p 0) = k) {q : Nat} (hq : p + 1 + widT (s.toList.getD p 0) = q) (h5 : k = 5) (hd : d = G.length) (hfr : fr = d) (h6 : ¬ L.depth ≤ G.length) (hLd : L.depth ≤ 32) (mm : Nat) (IT : ItAll mm s L ro g) (hmm : s.size - p < mm + 1) :
    Calls Tryd.prog 51 #[.pointer (some ⟨g, 0, none⟩), .int .i64 (p : Int), .int .i64 (d : Int)] w (GItem s L ro g O fr G l p w) := by
  have H := Lib.hid (ghead_any w g s L ro O fr p hR hz)
  rw [← hl, hh] at H
  have H : Hid (Calls Tryd.prog 75 #[.pointer (some ⟨g, 0, none⟩), .int .i64 (p : Int)] w (GYes (.tuple #[.int .i64 (k : Int), .int .u64 (n : Int), .int .i64 (q : Int), .bool true]) g s L ro O fr w)) := by
    have h9 : Calls Tryd.prog 75 #[.pointer (some ⟨g, 0, none⟩), .int .i64 (p : Int)] w (GYes (.tuple #[.int .i64 (kindT (s.toList.getD p 0) : Int), .int .u64 (n : Int), .int .i64 ((p + 1 + widT (s.toList.getD p 0) : Nat) : Int), .bool true]) g s L ro O fr w) := H.out
    rw [hk, hq] at h9
    exact h9
  obtain ⟨h0, hi2, h3, hA⟩ := hdR_ok hh
  obtain ⟨-, -, hn, hqs⟩ := argR_inv h0 h3 hA
  rw [hq, tl_size] at hqs
  have hqb := argR_pb h0 hA
  rw [hq] at hqb
  have hpq : p + 1 ≤ q := by omega
  obtain ⟨m, hm⟩ : ∃ m, O.length = m := ⟨_, rfl⟩
  have HM : Hid (O.length = m ∧ m ≤ 4096) := ⟨hm, by omega⟩
  subst h5 hfr
  have HE : Hid (elS s.toList L Lib.validD G l p = .ok (.loop (⟨p, n, true, false, false, []⟩ :: G) (l ++ [(⟨5, n, []⟩ : Am)]) q)) := elS_ghold (G := G) hh hk hq (by decide) h6
  have e5 : ¬ (L.depth : Int) ≤ (fr : Int) := by omega
  have e5b : decide ((L.depth : Int) ≤ (fr : Int)) = false := decide_eq_false e5
  obtain ⟨d1, hd1⟩ : ∃ d1, fr + 1 = d1 := ⟨_, rfl⟩
  have e6 : (fr : Int) + 1 = (d1 : Int) := by omega
  have e7 : IntKind.i64.wrap (d1 : Int) = (d1 : Int) := wrap_fit d1 (by unfold maxLen; omega)
  have e8 : (d1 : Int) - 1 = (fr : Int) := by omega
  have e9 : IntKind.i64.wrap (fr : Int) = (fr : Int) := wrap_fit fr (by unfold maxLen; omega)
  have IN := Lib.hid (fun w' (h : Gok w' g s L ro (O ++ [(⟨5, n, []⟩ : Am)]) (G.length + 1)) => pairs_any mm s L ro g IT hz w' (O ++ [(⟨5, n, []⟩ : Am)]) G (l ++ [(⟨5, n, []⟩ : Am)]) p q n d1 h (by simp only [List.length_append]; omega) hqs (by omega) hn (by omega) (by omega))
  have hd2 : G.length + 1 = d1 := by omega
  rw [hd2] at IN
  have HF := Lib.hid (And.intro hpq (And.intro hqs hd2))
  have HAV : Hid (rv (up (⟨5, n, []⟩ : Am)) = (#[Value.int .i64 5, Value.int .u64 (n : Int), Value.string ⟨#[]⟩]).toList) := rfl
  clear hR hl hz hLi hh hk hq h0 hi2 h3 hA hn hqs hqb hpq hm hd h6 hLd hmm hd1 hd2 IT
  go_enter Tryd.func51, Tryd.ntmps51
  go_wp2_with (first
    | (go_at_call 75; refine H.out.mono ?_; rintro e w1 ⟨rfl, HQ1, HB1⟩; obtain ⟨a1, c1, tk1, HR1, HO1⟩ := HQ1.out.opnM HM.out.1; have k11 := HR1.out.at0.cell 11 _ rfl; have k1 := HR1.out.at0.cell 1 _ rfl)
    | (at_builtin; refine wpList_append_am rfl (.tmp 100) (.tmp 104) rfl (g + 1) _ m (O.map up) rfl (HO1.out.alloc _) _ 1 (up (⟨5, n, []⟩ : Am)) rfl (at_cells HAV.out (At.ofAlloc _ #[Value.int .i64 5, Value.int .u64 (n : Int), Value.string ⟨#[]⟩] 75)) (by have := HM.out.2; omega) (by have := HR1.out.lt; simp; omega) ?_; intro v' w3 hown3 hgrow3; obtain ⟨hf3, ⟨u3, hc3⟩, HQ3, HB3⟩ := gadd_all (y := (⟨5, n, []⟩ : Am)) HR1.out hgrow3 HM.out.1 hown3; obtain ⟨a3, c3, rfl, -⟩ := own_form hown3; clear hown3 hgrow3; obtain ⟨a5, c5, tk5, HR5⟩ := HQ3.out.opn; have k9 := HR5.out.at0.cell 9 _ rfl; have f9 := HR5.out.at0.froz 9 (Nat.le_of_ble_eq_true rfl)))
  have HQ6 : Hid (Gok ((w3.setCell ⟨g, 11, none⟩ (.slice a3 (m + 1) c3)).setCell ⟨g, 9, none⟩ (.int .i64 (d1 : Int))) g s L ro (O ++ [(⟨5, n, []⟩ : Am)]) d1) := ⟨_, _, HR5.out.setC 9 (.int .i64 (d1 : Int)) (fr' := d1) rfl⟩
  have HB6 : Hid (Below g w ((w3.setCell ⟨g, 11, none⟩ (.slice a3 (m + 1) c3)).setCell ⟨g, 9, none⟩ (.int .i64 (d1 : Int)))) := (HB1.out.trans HB3.out).setCell (p := ⟨g, 9, none⟩) (Nat.le_refl _) _
  refine (IN.out _ HQ6.out).mono ?_
  rintro e w7 (⟨N, a, ⟨rfl, HQ7, HB7⟩, h71, h72, h73⟩ | ⟨c7, x7, b7, ⟨rfl, HQ7, HB7⟩, h73⟩)
  · have HQ7 : Hid (Gok w7 g s L ro (O ++ [(⟨5, n, []⟩ : Am)] ++ N) d1) := (by show Gok _ _ _ _ _ _ _; rw [← HF.out.2.2]; exact HQ7.out)
    obtain ⟨a8, c8, tk8, HR8⟩ := HQ7.out.opn
    have k9b := HR8.out.at0.cell 9 _ rfl
    have f9b := HR8.out.at0.froz 9 (Nat.le_of_ble_eq_true rfl)
    have H71 : Hid (p + 1 ≤ a) := by have := HF.out.1; show p + 1 ≤ a; omega
    go_wp2_with fail
    go_ret2
    have HQ9 : Hid (Gok (w7.setCell ⟨g, 9, none⟩ (.int .i64 (fr : Int))) g s L ro (O ++ ([(⟨5, n, []⟩ : Am)] ++ N)) fr) := by
      show Gok _ _ _ _ _ _ _
      rw [← List.append_assoc]
      exact ⟨_, _, HR8.out.setC 9 (.int .i64 (fr : Int)) (fr' := fr) rfl⟩
    exact .inl ⟨[(⟨5, n, []⟩ : Am)] ++ N, a, ⟨rfl, HQ9, ((HB6.out.trans HB7.out).setCell (p := ⟨g, 9, none⟩) (Nat.le_refl _) _)⟩, H71.out, h72, fun r h => Runs.el HE.out (h73 r (by rw [List.append_assoc]; exact h))⟩
  · go_wp2_with fail
    go_ret2
    exact .inr ⟨c7, x7, b7, ⟨rfl, HQ7, HB6.out.trans HB7.out⟩, Runs.el HE.out h73⟩
set_option maxRecDepth 100000 in
set_option maxHeartbeats 1600000 in
theorem gitem_hold6 (hR : Gok w g s L ro O fr) (hl : l.length = O.length) (hz : s.size ≤ 140737488351232) (hLi : L.items ≤ 4096) {n : Nat} (hh : hdR s.toList L l.length p = .ok n) {k : Nat} (hk : kindT (s.toList.getD p 0) = k) {q : Nat} (hq : p + 1 + widT (s.toList.getD p 0) = q) (h5 : k = 6) (hd : d = G.length) (hfr : fr = d) (h6 : ¬ L.depth ≤ G.length) (hLd : L.depth ≤ 32) (mm : Nat) (IT : ItAll mm s L ro g) (hmm : s.size - p < mm + 1) :
    Calls Tryd.prog 51 #[.pointer (some ⟨g, 0, none⟩), .int .i64 (p : Int), .int .i64 (d : Int)] w (GItem s L ro g O fr G l p w) := by
  have H := Lib.hid (ghead_any w g s L ro O fr p hR hz)
  rw [← hl, hh] at H
  have H : Hid (Calls Tryd.prog 75 #[.pointer (some ⟨g, 0, none⟩), .int .i64 (p : Int)] w (GYes (.tuple #[.int .i64 (k : Int), .int .u64 (n : Int), .int .i64 (q : Int), .bool true]) g s L ro O fr w)) := by
    have h9 : Calls Tryd.prog 75 #[.pointer (some ⟨g, 0, none⟩), .int .i64 (p : Int)] w (GYes (.tuple #[.int .i64 (kindT (s.toList.getD p 0) : Int), .int .u64 (n : Int), .int .i64 ((p + 1 + widT (s.toList.getD p 0) : Nat) : Int), .bool true]) g s L ro O fr w) := H.out
    rw [hk, hq] at h9
    exact h9
  obtain ⟨h0, hi2, h3, hA⟩ := hdR_ok hh
  obtain ⟨-, -, hn, hqs⟩ := argR_inv h0 h3 hA
  rw [hq, tl_size] at hqs
  have hqb := argR_pb h0 hA
  rw [hq] at hqb
  have hpq : p + 1 ≤ q := by omega
  obtain ⟨m, hm⟩ : ∃ m, O.length = m := ⟨_, rfl⟩
  have HM : Hid (O.length = m ∧ m ≤ 4096) := ⟨hm, by omega⟩
  subst h5 hfr
  have HE : Hid (elS s.toList L Lib.validD G l p = .ok (.loop (⟨p, 1, false, false, false, []⟩ :: G) (l ++ [(⟨6, n, []⟩ : Am)]) q)) := elS_ghold (G := G) hh hk hq (by decide) h6
  have e5 : ¬ (L.depth : Int) ≤ (fr : Int) := by omega
  have e5b : decide ((L.depth : Int) ≤ (fr : Int)) = false := decide_eq_false e5
  obtain ⟨d1, hd1⟩ : ∃ d1, fr + 1 = d1 := ⟨_, rfl⟩
  have e6 : (fr : Int) + 1 = (d1 : Int) := by omega
  have e7 : IntKind.i64.wrap (d1 : Int) = (d1 : Int) := wrap_fit d1 (by unfold maxLen; omega)
  have e8 : (d1 : Int) - 1 = (fr : Int) := by omega
  have e9 : IntKind.i64.wrap (fr : Int) = (fr : Int) := wrap_fit fr (by unfold maxLen; omega)
  have IN := Lib.hid (fun w' (h : Gok w' g s L ro (O ++ [(⟨6, n, []⟩ : Am)]) (G.length + 1)) => one_any mm s L ro g IT w' (O ++ [(⟨6, n, []⟩ : Am)]) G (l ++ [(⟨6, n, []⟩ : Am)]) p q d1 h (by simp only [List.length_append]; omega) hqs (by omega) (by omega) (by omega))
  have hd2 : G.length + 1 = d1 := by omega
  rw [hd2] at IN
  have HF := Lib.hid (And.intro hpq (And.intro hqs hd2))
  have HAV : Hid (rv (up (⟨6, n, []⟩ : Am)) = (#[Value.int .i64 6, Value.int .u64 (n : Int), Value.string ⟨#[]⟩]).toList) := rfl
  clear hR hl hz hLi hh hk hq h0 hi2 h3 hA hn hqs hqb hpq hm hd h6 hLd hmm hd1 hd2 IT
  go_enter Tryd.func51, Tryd.ntmps51
  go_wp2_with (first
    | (go_at_call 75; refine H.out.mono ?_; rintro e w1 ⟨rfl, HQ1, HB1⟩; obtain ⟨a1, c1, tk1, HR1, HO1⟩ := HQ1.out.opnM HM.out.1; have k11 := HR1.out.at0.cell 11 _ rfl; have k1 := HR1.out.at0.cell 1 _ rfl)
    | (at_builtin; refine wpList_append_am rfl (.tmp 100) (.tmp 104) rfl (g + 1) _ m (O.map up) rfl (HO1.out.alloc _) _ 1 (up (⟨6, n, []⟩ : Am)) rfl (at_cells HAV.out (At.ofAlloc _ #[Value.int .i64 6, Value.int .u64 (n : Int), Value.string ⟨#[]⟩] 75)) (by have := HM.out.2; omega) (by have := HR1.out.lt; simp; omega) ?_; intro v' w3 hown3 hgrow3; obtain ⟨hf3, ⟨u3, hc3⟩, HQ3, HB3⟩ := gadd_all (y := (⟨6, n, []⟩ : Am)) HR1.out hgrow3 HM.out.1 hown3; obtain ⟨a3, c3, rfl, -⟩ := own_form hown3; clear hown3 hgrow3; obtain ⟨a5, c5, tk5, HR5⟩ := HQ3.out.opn; have k9 := HR5.out.at0.cell 9 _ rfl; have f9 := HR5.out.at0.froz 9 (Nat.le_of_ble_eq_true rfl)))
  have HQ6 : Hid (Gok ((w3.setCell ⟨g, 11, none⟩ (.slice a3 (m + 1) c3)).setCell ⟨g, 9, none⟩ (.int .i64 (d1 : Int))) g s L ro (O ++ [(⟨6, n, []⟩ : Am)]) d1) := ⟨_, _, HR5.out.setC 9 (.int .i64 (d1 : Int)) (fr' := d1) rfl⟩
  have HB6 : Hid (Below g w ((w3.setCell ⟨g, 11, none⟩ (.slice a3 (m + 1) c3)).setCell ⟨g, 9, none⟩ (.int .i64 (d1 : Int)))) := (HB1.out.trans HB3.out).setCell (p := ⟨g, 9, none⟩) (Nat.le_refl _) _
  refine (IN.out _ HQ6.out).mono ?_
  rintro e w7 (⟨N, a, ⟨rfl, HQ7, HB7⟩, h71, h72, h73⟩ | ⟨c7, x7, b7, ⟨rfl, HQ7, HB7⟩, h73⟩)
  · have HQ7 : Hid (Gok w7 g s L ro (O ++ [(⟨6, n, []⟩ : Am)] ++ N) d1) := (by show Gok _ _ _ _ _ _ _; rw [← HF.out.2.2]; exact HQ7.out)
    obtain ⟨a8, c8, tk8, HR8⟩ := HQ7.out.opn
    have k9b := HR8.out.at0.cell 9 _ rfl
    have f9b := HR8.out.at0.froz 9 (Nat.le_of_ble_eq_true rfl)
    have H71 : Hid (p + 1 ≤ a) := by have := HF.out.1; show p + 1 ≤ a; omega
    go_wp2_with fail
    go_ret2
    have HQ9 : Hid (Gok (w7.setCell ⟨g, 9, none⟩ (.int .i64 (fr : Int))) g s L ro (O ++ ([(⟨6, n, []⟩ : Am)] ++ N)) fr) := by
      show Gok _ _ _ _ _ _ _
      rw [← List.append_assoc]
      exact ⟨_, _, HR8.out.setC 9 (.int .i64 (fr : Int)) (fr' := fr) rfl⟩
    exact .inl ⟨[(⟨6, n, []⟩ : Am)] ++ N, a, ⟨rfl, HQ9, ((HB6.out.trans HB7.out).setCell (p := ⟨g, 9, none⟩) (Nat.le_refl _) _)⟩, H71.out, h72, fun r h => Runs.el HE.out (h73 r (by rw [List.append_assoc]; exact h))⟩
  · go_wp2_with fail
    go_ret2
    exact .inr ⟨c7, x7, b7, ⟨rfl, HQ7, HB6.out.trans HB7.out⟩, Runs.el HE.out h73⟩
end
theorem item_all (s : ByteArray) (L : Lm) (ro : Int) (g : Nat) (hz : s.size ≤ 140737488351232) (hLi : L.items ≤ 4096) (hLd : L.depth ≤ 32) : ∀ m, ItAll m s L ro g
  | 0 => fun w O G l p d hm => absurd hm (by omega)
  | m + 1 => fun w O G l p d hm hR hl hp hG hd => by
    cases hh : hdR s.toList L l.length p with
    | no c q b => exact gitem_no w g s L ro O G.length G l p d hR hl hz hh
    | ok n =>
      have hk8 : kindT (s.toList.getD p 0) < 8 := by
        have := (s.toList.getD p 0).toNat_lt
        rw [kindT]
        omega
      obtain ⟨k, hk⟩ : ∃ k, kindT (s.toList.getD p 0) = k := ⟨_, rfl⟩
      rw [hk] at hk8
      by_cases h6 : L.depth ≤ G.length
      · rcases (by omega : k < 2 ∨ k = 2 ∨ k = 3 ∨ (4 ≤ k ∧ k ≤ 6) ∨ k = 7) with h | h | h | h | h
        · exact gitem_low w g s L ro O G.length G l p d hR hl hz hLi hh hk rfl h
        · exact gitem_text2 w g s L ro O G.length G l p d hR hl hz hLi hh hk rfl h
        · exact gitem_text3 w g s L ro O G.length G l p d hR hl hz hLi hh hk rfl h
        · exact gitem_deep w g s L ro O G.length G l p d hR hl hz hLi hh hk rfl h hd.symm h6
        · exact gitem_high w g s L ro O G.length G l p d hR hl hz hLi hh hk rfl h
      · rcases (by omega : k < 2 ∨ k = 2 ∨ k = 3 ∨ k = 4 ∨ k = 5 ∨ k = 6 ∨ k = 7) with h | h | h | h | h | h | h
        · exact gitem_low w g s L ro O G.length G l p d hR hl hz hLi hh hk rfl h
        · exact gitem_text2 w g s L ro O G.length G l p d hR hl hz hLi hh hk rfl h
        · exact gitem_text3 w g s L ro O G.length G l p d hR hl hz hLi hh hk rfl h
        · exact gitem_hold4 w g s L ro O G.length G l p d hR hl hz hLi hh hk rfl h hd.symm hd h6 hLd m (item_all s L ro g hz hLi hLd m) hm
        · exact gitem_hold5 w g s L ro O G.length G l p d hR hl hz hLi hh hk rfl h hd.symm hd h6 hLd m (item_all s L ro g hz hLi hLd m) hm
        · exact gitem_hold6 w g s L ro O G.length G l p d hR hl hz hLi hh hk rfl h hd.symm hd h6 hLd m (item_all s L ro g hz hLi hLd m) hm
        · exact gitem_high w g s L ro O G.length G l p d hR hl hz hLi hh hk rfl h
end Co
end Go.Proofs.YteanipjgpekncaaDoor
