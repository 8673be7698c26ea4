/- A feed of items in memory: a text is whole. -/
import Derived.Test.YteanipjgpekncaaDoorCfB
namespace Go.Proofs.YteanipjgpekncaaDoor
open Go.RowKit
set_option linter.unusedVariables false
set_option linter.unusedSimpArgs false
namespace Cf
open Co
open Dr (Rs Lm has lack at0S)
theorem i64c (n : Nat) (h : n ≤ 9223372036854775807) : IntKind.i64.wrap (n : Int) = (n : Int) := wrap_fit n (by unfold maxLen; omega)
theorem getD_modl (l : List Am) (i : Nat) (y : Am → Am) (hi : i < l.length) : (l.modify i y).getD i ⟨0, 0, []⟩ = y (l.getD i ⟨0, 0, []⟩) := by
  rw [List.getD, List.getD, List.getElem?_modify, List.getElem?_eq_getElem hi]; simp
theorem ut_bxf {g β : Nat} {w w' : World} (h : UT g w) (hb : Bx g β w w') (hg : g < β) : UT g w' := h.below (hb.low (Nat.le_refl _) hg)
set_option maxRecDepth 100000 in
set_option maxHeartbeats 3200000 in
theorem fwhole_any (w : World) (g β : Nat) (L : Lm) (ro : Int) (f : Fs) (vT vN vS : Value) (h : FmS w g β L ro f vT vN vS) (hU : UT g w) (hl : 0 < f.l.length) (ha : f.a < f.T.length) (har : f.arg ≤ f.T.length) (hT : f.T.length ≤ 262144) (hgf : Gf f.G (f.T.length - 1)) :
    Calls Tryd.prog 64 #[.pointer (some ⟨g, 0, none⟩)] w (RF (f.whole Lib.validD) g β L ro w) := by
  have hgb : g < β := h.gb
  obtain ⟨R, hR⟩ : ∃ R, f.whole Lib.validD = R := ⟨_, rfl⟩
  rw [hR]
  rw [Fs.whole] at hR
  have HF := Lib.hid h
  have HU := Lib.hid hU
  obtain ⟨i, hi⟩ : ∃ i, f.l.length - 1 = i := ⟨_, rfl⟩
  obtain ⟨kn, capn, rfl, hgn, hAn⟩ := h.node i (by omega)
  obtain ⟨aT, cT, rfl, hcT, hbT⟩ := h.bytes
  obtain ⟨kT, rfl, hgT, hAT⟩ := hbT (by omega)
  have c4 := h.at0.cell 4 _ rfl
  have c5 := h.at0.cell 5 _ rfl
  have c10 := h.at0.cell 10 _ rfl
  have c13 := h.at0.cell 13 _ rfl
  obtain ⟨m, hm0⟩ : ∃ m, f.l.length = m := ⟨_, rfl⟩
  obtain ⟨tl, htl⟩ : ∃ m, f.T.length = m := ⟨_, rfl⟩
  obtain ⟨ar, har0⟩ : ∃ m, f.arg = m := ⟨_, rfl⟩
  obtain ⟨st, hst0⟩ : ∃ m, tl - ar = m := ⟨_, rfl⟩
  obtain ⟨pa, hpa⟩ : ∃ m, f.a = m := ⟨_, rfl⟩
  obtain ⟨N, hN⟩ : ∃ N, f.l.getD i ⟨0, 0, []⟩ = N := ⟨_, rfl⟩
  obtain ⟨kk, hkk⟩ : ∃ t, N.kind = t := ⟨_, rfl⟩
  have hK : f.lastK = kk := by rw [Fs.lastK, hi, hN, hkk]
  rw [hN] at hAn
  rw [htl] at c4 ha hcT har hT
  rw [hm0] at c5 hl
  rw [har0] at c13 har
  rw [hpa] at c10 ha
  have n0 := hAn.cell 0 _ rfl
  have n2 := hAn.cell 2 _ rfl
  have fn2 := hAn.froz 2 (by show 2 < 3; decide)
  have n0 : w.cell? ⟨kn, i * 3, none⟩ = some (.int .i64 (kk : Int)) := by rw [← hkk]; rw [Nat.add_zero] at n0; exact n0
  have hmf : m ≤ maxLen := by have := own_fit h.nodes; rw [hm0] at this; exact this
  have e1 : (i : Int) < (m : Int) := by omega
  have e4 : (m : Int) - 1 = (i : Int) := by omega
  have e5 : IntKind.i64.wrap (i : Int) = (i : Int) := wrap_fit i (by omega)
  have g1 : IntKind.i64.wrap (ar : Int) = (ar : Int) := i64c ar (by omega)
  have g2 : (tl : Int) - (ar : Int) = (st : Int) := by omega
  have g3 : IntKind.i64.wrap (st : Int) = (st : Int) := i64c st (by omega)
  have e6 : (st : Int) ≤ (tl : Int) := by omega
  have e7 : (tl : Int) ≤ (cT : Int) := by omega
  obtain ⟨bl, hbl⟩ : ∃ b, f.T.drop st = b := ⟨_, rfl⟩
  obtain ⟨bd, hbd⟩ : ∃ b : ByteArray, (⟨bl.toArray⟩ : ByteArray) = b := ⟨_, rfl⟩
  have hbdl : bd.toList = bl := by rw [← hbd, tl_mk]
  have hbs : bd.size ≤ 140737488351232 := by rw [← tl_size, hbdl, ← hbl, List.length_drop]; omega
  have hAB : At w kT st (bcells bl) := by
    refine At.midOf (A := f.T.take st) (Z := bl) (R := []) ?_ (by rw [List.length_take]; omega)
    rw [List.append_nil, ← hbl, List.take_append_drop]
    exact hAT
  have hlen : bl.length = tl - st := by rw [← hbl, List.length_drop, htl]
  have CV : ∀ q, (convert 42 9 (.slice (if cT = st then some ⟨kT, 0, none⟩ else some ⟨kT, st, none⟩) (tl - st) (cT - st))).run Tryd.prog (w.drewN q) = .ok (.string bd) (w.drewN q) := fun q => by
    by_cases h0 : cT = st
    · have h1 : bl = [] := List.eq_nil_of_length_eq_zero (by omega)
      rw [if_pos h0, ← hbd, h1, show tl - st = 0 by omega]
      exact conv_at (A := []) (fun j v hv => by simp [bcells] at hv) 0 _ rfl
    · rw [if_neg h0, ← hbd]
      exact conv_at (hAB.drewN q) _ _ hlen
  have hdr : f.T.drop (f.T.length - f.arg) = bl := by rw [htl, har0, hst0, hbl]
  have HW : Hid (∀ q, Hid (FmS ((w.drewN q).setCell ⟨kn, i * 3 + 2, none⟩ (.string bd)) g β L ro f.texted (.slice (some ⟨kT, 0, none⟩) f.T.length cT) (.slice (some ⟨kn, 0, none⟩) f.l.length capn) vS) ∧ Hid (Bx g β w ((w.drewN q).setCell ⟨kn, i * 3 + 2, none⟩ (.string bd)))) := fun q => by
    refine ⟨?_, (bx_drewN g β w q).setCell hgn _⟩
    have h5 := (h.drewN q).setNode (n := m) (by rw [hm0]) hm0 i 2 (by omega) (by decide) (.string bd) (fun x => { x with text := bl }) (by rw [← hbd]; rfl)
    show Fm _ g β L ro f.T (f.l.modify (f.l.length - 1) (fun x => { x with text := f.T.drop (f.T.length - f.arg) })) _ _ _ _ _
    rw [hi, hdr]
    exact h5
  have VA := Lib.hid (fun w hU => cvalid_any bd w hbs hU)
  rw [hbdl] at VA
  rw [hK, hdr, hpa] at hR
  obtain ⟨ok, hok⟩ : ∃ b, Lib.validD bl = b := ⟨_, rfl⟩
  rw [hok] at VA hR
  have HAS : Hid (∀ q, At ((w.drewN q).setCell ⟨kn, i * 3 + 2, none⟩ (.string bd)) kn (i * 3) ((rv (up N)).set 2 (.string bd))) := fun q => (hAn.drewN q).set 2 (.string bd)
  have HKK := Lib.hid hkk
  have HGF : Hid (Gf f.texted.G (f.texted.T.length - 1)) := hgf
  have HA : Hid (pa < f.texted.T.length ∧ f.texted.T.length ≤ 262144 ∧ f.texted.a = pa) := ⟨by show pa < f.T.length; omega, by show f.T.length ≤ _; omega, hpa⟩
  have HG : Hid (f.texted.G.length = f.G.length) := rfl
  have HR := Lib.hid hR
  have c10s : ∀ q, ((w.drewN q).setCell ⟨kn, i * 3 + 2, none⟩ (.string bd)).cell? ⟨g, 10, none⟩ = some (.int .i64 (pa : Int)) := fun q => by
    have h1 := (HW.out q).1.out.at0.cell 10 _ rfl
    rw [Nat.zero_add] at h1
    rw [← HA.out.2.2]
    exact h1
  clear h hU hgf hl ha har hT hR hAn hbT hAT hi hm0 htl hst0 hpa hN hK hcT hbl hbd hbdl hbs hAB hlen hdr hok hkk har0 hmf
  by_cases hcs : cT = st
  all_goals
    first
      | (have CW : ∀ q, (convert 42 9 (.slice (some ⟨kT, st, none⟩) (tl - st) (cT - st))).run Tryd.prog (w.drewN q) = .ok (.string bd) (w.drewN q) := fun q => by have h1 := CV q; rw [if_neg hcs] at h1; exact h1)
      | (have CW : ∀ q, (convert 42 9 (.slice (some ⟨kT, 0, none⟩) (tl - st) 0)).run Tryd.prog (w.drewN q) = .ok (.string bd) (w.drewN q) := fun q => by have h1 := CV q; rw [if_pos hcs, hcs, Nat.sub_self] at h1; exact h1)
    try subst hcs
    go_enter Tryd.func64, Tryd.ntmps64
    go_wp2_with fail
    go_quiet (fail)
    go_wp2_with fail
    go_region
    all_goals
      have hA2 := HAS.out (nq + 1)
      have H2 := HW.out (nq + 1)
      have c10 := c10s (nq + 1)
      generalize (w.drewN (nq + 1)).setCell ⟨kn, i * 3 + 2, none⟩ (.string bd) = w2 at hA2 H2 c10 ⊢
      obtain ⟨HF2, HB2⟩ := H2
      have n0 : w2.cell? ⟨kn, i * 3, none⟩ = some (.int .i64 (kk : Int)) := by have h1 := hA2.cell 0 _ rfl; rw [Nat.add_zero] at h1; rw [← HKK.out]; exact h1
      have n2 := hA2.cell 2 _ rfl
      clear hA2 c10s CV CW
      by_cases hk3 : kk = 3
      · have q3 : ((kk : Int) == 3) = true := by rw [beq_iff_eq]; omega
        cases ok with
        | false =>
          have HR2 : Hid (R = f.texted.fault 9 pa) := by
            have h9 := HR.out
            rw [if_pos ⟨hk3, rfl⟩] at h9
            exact h9.symm
          clear hk3
          go_wp2_with (first | (go_at_call 54; refine (VA.out _ (ut_bxf HU.out HB2.out hgb).1).mono ?_; rintro e w3 ⟨rfl, hb3⟩; have HF3 : Hid (FmS w3 g β L ro f.texted _ _ _) := HF2.out.below hb3; have HB3 : Hid (Bx g β w w3) := HB2.out.trans (Bx.of hb3 HF2.out.bs); have c10 := HF3.out.at0.cell 10 _ rfl; rw [HA.out.2.2] at c10; clear hb3))
          refine (ffault_any _ g β L ro f.texted _ _ _ HF3.out 9 pa (pa : Int) rfl).mono ?_
          rintro e w4 ⟨rfl, hF4, hB4⟩
          go_wp2_with fail
          first | go_end0 | refine bodyPost_ret (results_none rfl _ _ _) rfl ?_
          exact RF.of HR2 hF4 (HB3.out.trans hB4.out)
        | true =>
          have HR2 : Hid (R = Fs.close f.G.length (f.texted.ended pa)) := by
            have h9 := HR.out
            rw [if_neg (fun h => by cases h.2)] at h9
            exact h9.symm
          clear hk3
          go_wp2_with (first | (go_at_call 54; refine (VA.out _ (ut_bxf HU.out HB2.out hgb).1).mono ?_; rintro e w3 ⟨rfl, hb3⟩; have HF3 : Hid (FmS w3 g β L ro f.texted _ _ _) := HF2.out.below hb3; have HB3 : Hid (Bx g β w w3) := HB2.out.trans (Bx.of hb3 HF2.out.bs); have c10 := HF3.out.at0.cell 10 _ rfl; rw [HA.out.2.2] at c10; clear hb3))
          refine (fended_any _ g β L ro f.texted _ _ _ HF3.out pa HA.out.1 HA.out.2.1 (fun s hs => by have h8 := HGF.out s (List.mem_of_mem_head? hs); exact ⟨h8.1, h8.2.1⟩) (pa : Int) rfl).mono ?_
          rintro e w4 ⟨rfl, vT4, vN4, vS4, hF4, hB4⟩
          go_wp2_with fail
          refine (close_any _ g β L ro (f.texted.ended pa) _ _ _ hF4.out f.G.length (by rw [ended_len]; exact Nat.le_refl _) (by rw [ended_T]; exact ended_tf HGF.out) (by rw [ended_T]; have := HA.out.1; omega) (by rw [ended_T]; exact HA.out.2.1)).mono ?_
          rintro e w5 ⟨rfl, vT5, vN5, vS5, hF5, hB5⟩
          go_wp2_with fail
          first | go_end0 | refine bodyPost_ret (results_none rfl _ _ _) rfl ?_
          exact RF.of HR2 hF5 (HB3.out.trans (hB4.out.trans hB5.out))
      · have q3 : ((kk : Int) == 3) = false := by rw [beq_eq_false_iff_ne]; omega
        have HR2 : Hid (R = Fs.close f.G.length (f.texted.ended pa)) := by
          have h9 := HR.out
          rw [if_neg (fun h => hk3 h.1)] at h9
          exact h9.symm
        clear hk3
        go_wp2_with fail
        refine (fended_any _ g β L ro f.texted _ _ _ HF2.out pa HA.out.1 HA.out.2.1 (fun s hs => by have h8 := HGF.out s (List.mem_of_mem_head? hs); exact ⟨h8.1, h8.2.1⟩) (pa : Int) rfl).mono ?_
        rintro e w4 ⟨rfl, vT4, vN4, vS4, hF4, hB4⟩
        go_wp2_with fail
        refine (close_any _ g β L ro (f.texted.ended pa) _ _ _ hF4.out f.G.length (by rw [ended_len]; exact Nat.le_refl _) (by rw [ended_T]; exact ended_tf HGF.out) (by rw [ended_T]; have := HA.out.1; omega) (by rw [ended_T]; exact HA.out.2.1)).mono ?_
        rintro e w5 ⟨rfl, vT5, vN5, vS5, hF5, hB5⟩
        go_wp2_with fail
        first | go_end0 | refine bodyPost_ret (results_none rfl _ _ _) rfl ?_
        exact RF.of HR2 hF5 (HB2.out.trans (hB4.out.trans hB5.out))
end Cf
end Go.Proofs.YteanipjgpekncaaDoor
