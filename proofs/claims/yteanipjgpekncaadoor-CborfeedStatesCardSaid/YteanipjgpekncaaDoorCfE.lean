/- A feed of items in memory: a head is whole, of one that holds others, or of a plain one. -/
import Derived.Test.YteanipjgpekncaaDoorCfD
namespace Go.Proofs.YteanipjgpekncaaDoor
open Go.RowKit
set_option linter.unusedVariables false
set_option linter.unusedSimpArgs false
namespace Cf
open Co
open Dr (Rs Lm has lack at0S)
theorem kind_cases (kk : Nat) (h : ¬ (kk = 2 ∨ kk = 3)) : ((kk : Int) == 2) = false ∧ ((kk : Int) == 3) = false := by
  constructor <;> (rw [beq_eq_false_iff_ne]; omega)
theorem Fm.hideS {w : World} {g β : Nat} {L : Lm} {ro : Int} {T : List UInt8} {l : List Am} {G : List Fr} {vT vN vS : Value} {c : List Value} (h : Fm w g β L ro T l G vT vN vS c) : ∃ vS', w.cell? ⟨g, 6, none⟩ = some vS' ∧ w.frozen? ⟨g, 6, none⟩ = false ∧ Hid (Fm w g β L ro T l G vT vN vS' c) :=
  ⟨vS, by have := h.at0.cell 6 _ rfl; rw [Nat.zero_add] at this; exact this, by have := h.at0.froz 6 (by show 6 < _; simp); rw [Nat.zero_add] at this; exact this, h⟩
set_option maxRecDepth 100000 in
set_option maxHeartbeats 6400000 in
theorem headed_rest (w : World) (g β : Nat) (L : Lm) (ro : Int) (f : Fs) (vT vN vS : Value) (h : FmS w g β L ro f vT vN vS) (hy : HdHyp w g f) (hs : short f.wd f.arg = true) (hk : ¬ (f.lastK = 2 ∨ f.lastK = 3)) :
    Calls Tryd.prog 63 #[.pointer (some ⟨g, 0, none⟩)] w (RF (f.headed Lib.validD L) g β L ro w) := by
  have hgb : g < β := h.gb
  obtain ⟨R, hR⟩ : ∃ R, f.headed Lib.validD L = R := ⟨_, rfl⟩
  rw [hR]
  rw [Fs.headed, if_neg (by rw [hs]; decide), if_neg hk] at hR
  have HF := Lib.hid h
  have HY := Lib.hid hy
  have hl0 := hy.l0
  obtain ⟨i, hi⟩ : ∃ i, f.l.length - 1 = i := ⟨_, rfl⟩
  obtain ⟨kn, capn, rfl, hgn, hAn⟩ := h.node i (by omega)
  obtain ⟨m, hm0⟩ : ∃ m, f.l.length = m := ⟨_, rfl⟩
  obtain ⟨N, hN⟩ : ∃ N, f.l.getD i ⟨0, 0, []⟩ = N := ⟨_, rfl⟩
  obtain ⟨kk, hkk⟩ : ∃ t, N.kind = t := ⟨_, rfl⟩
  have hK : f.lastK = kk := by rw [Fs.lastK, hi, hN, hkk]
  obtain ⟨ar, har⟩ : ∃ m, f.arg = m := ⟨_, rfl⟩
  obtain ⟨wn, hwn⟩ : ∃ m, f.wd = m := ⟨_, rfl⟩
  obtain ⟨pa, hpa⟩ : ∃ m, f.a = m := ⟨_, rfl⟩
  obtain ⟨n, hn⟩ : ∃ n, f.G.length = n := ⟨_, rfl⟩
  obtain ⟨as_, cs_, hvS, -⟩ := own_form h.stack
  subst hvS
  have c0 := h.at0.cell 0 _ rfl
  have c5 := h.at0.cell 5 _ rfl
  have c6 := h.at0.cell 6 _ rfl
  have c10 := h.at0.cell 10 _ rfl
  have c11 := h.at0.cell 11 _ rfl
  have c13 := h.at0.cell 13 _ rfl
  have SH := Lib.hid (fun w => short_any f.wd f.arg hy.wd hy.ag w)
  rw [hs, har, hwn] at SH
  rw [har] at c13
  rw [hwn] at c11
  rw [hpa] at c10
  rw [hn] at c6
  rw [hm0] at c5
  rw [hN] at hAn
  rw [Nat.zero_add] at c0
  have n0 := hAn.cell 0 _ rfl
  have n1 := hAn.cell 1 _ rfl
  have fn1 := hAn.froz 1 (by show 1 < 3; decide)
  have n0 : w.cell? ⟨kn, i * 3, none⟩ = some (.int .i64 (kk : Int)) := by rw [← hkk]; rw [Nat.add_zero] at n0; exact n0
  have hmf : m ≤ maxLen := by have := own_fit h.nodes; rw [hm0] at this; exact this
  have e1 : (i : Int) < (m : Int) := by omega
  have e4 : (m : Int) - 1 = (i : Int) := by omega
  have e5 : IntKind.i64.wrap (i : Int) = (i : Int) := wrap_fit i (by omega)
  rw [hK] at hk hR
  obtain ⟨q2, q3⟩ := kind_cases kk hk
  have H2 : Hid (∀ q, FmS ((w.drewN q).setCell ⟨kn, i * 3 + 1, none⟩ (.int .u64 (ar : Int))) g β L ro f.numbered vT (.slice (some ⟨kn, 0, none⟩) f.l.length capn) (.slice as_ f.G.length cs_)) := fun q => by
    have h5 := (h.drewN q).setNode (n := m) (by rw [hm0]) hm0 i 1 (by omega) (by decide) (.int .u64 (ar : Int)) (fun x => { x with num := f.arg }) (by rw [har]; rfl)
    show Fm _ g β L ro f.T (f.l.modify (f.l.length - 1) (fun x => { x with num := f.arg })) _ _ _ _ _
    rw [hi]
    exact h5
  have HB2 : Hid (∀ q, Bx g β w ((w.drewN q).setCell ⟨kn, i * 3 + 1, none⟩ (.int .u64 (ar : Int)))) := fun q => (bx_drewN g β w q).setCell hgn _
  have HAS : Hid (∀ q, At ((w.drewN q).setCell ⟨kn, i * 3 + 1, none⟩ (.int .u64 (ar : Int))) kn (i * 3) ((rv (up N)).set 1 (.int .u64 (ar : Int)))) := fun q => (hAn.drewN q).set 1 _
  have HKK := Lib.hid (And.intro hkk (And.intro hK (And.intro hn (And.intro har hpa))))
  have HO := Lib.hid (fun w => holds_any kk w)
  obtain ⟨ho, hho⟩ : ∃ b, holds kk = b := ⟨_, rfl⟩
  rw [hho] at HO hR
  have HHO := Lib.hid hho
  have HNX : Hid (¬ kn = g) := by show ¬ kn = g; omega
  have x1 : ¬ g = kn := by omega
  have x2 : ¬ kn = g := by omega
  cases ho with
  | false =>
    rw [if_neg (by decide)] at hR
    have HR : Hid (R = Fs.close f.G.length (f.numbered.ended pa)) := by rw [hpa] at hR; exact hR.symm
    clear h hy hs hl0 hi hm0 hN hkk hK hwn hAn hmf hk hR har hpa hn hho c6 c0
    go_enter Tryd.func63, Tryd.ntmps63
    go_wp2_with fail
    go_quiet (first | (go_at_call 83; exact (SH.out _).mono fun _ _ h => ⟨h.1, _, h.2.symm⟩))
    go_wp2_with fail
    go_quiet (fail)
    go_wp2_with fail
    go_quiet (first | (go_at_call 57; exact (HO.out _).mono fun _ _ h => ⟨h.1, _, h.2.symm⟩))
    go_wp2_with (first | (go_at_call 57; refine (HO.out _).mono ?_; rintro e wh ⟨rfl, rfl⟩))
    refine (fended_any _ g β L ro f.numbered _ _ _ (H2.out _) pa (by have := HY.out.aT; have := HKK.out.2.2.2.2; show pa < f.T.length; omega) HY.out.tT (fun s hs => by have h8 := HY.out.gf s (List.mem_of_mem_head? hs); exact ⟨h8.1, h8.2.1⟩) (pa : Int) rfl).mono ?_
    rintro e w4 ⟨rfl, vT4, vN4, vS4, hF4, hB4⟩
    go_wp2_with fail
    refine (close_any _ g β L ro (f.numbered.ended pa) _ _ _ hF4.out f.G.length (by rw [ended_len]; exact Nat.le_refl _) (by rw [ended_T]; exact ended_tf HY.out.gf) (by rw [ended_T]; exact Nat.lt_of_le_of_lt (Nat.zero_le _) HY.out.aT) (by rw [ended_T]; exact HY.out.tT)).mono ?_
    rintro e w5 ⟨rfl, vT5, vN5, vS5, hF5, hB5⟩
    go_wp2_with fail
    first | go_end0 | refine bodyPost_ret (results_none rfl _ _ _) rfl ?_
    exact RF.of HR hF5 ((HB2.out _).trans (hB4.out.trans hB5.out))
  | true =>
    rw [if_pos rfl] at hR
    by_cases hd : L.depth ≤ n
    · have e7 : (L.depth : Int) ≤ (n : Int) := by omega
      rw [if_pos (by rw [hn]; exact hd), hpa] at hR
      have HR : Hid (R = f.fault 10 pa) := hR.symm
      clear h hy hs hl0 hi hm0 hN hkk hK hwn hAn hmf hk hR har hpa hn hd hho
      go_enter Tryd.func63, Tryd.ntmps63
      go_wp2_with fail
      go_quiet (first | (go_at_call 83; exact (SH.out _).mono fun _ _ h => ⟨h.1, _, h.2.symm⟩))
      go_wp2_with fail
      go_quiet (fail)
      go_wp2_with fail
      go_quiet (first | (go_at_call 57; exact (HO.out _).mono fun _ _ h => ⟨h.1, _, h.2.symm⟩))
      go_wp2_with fail
      refine (ffault_any _ g β L ro f _ _ _ (HF.out.drewN _) 10 pa (pa : Int) rfl).mono ?_
      rintro e w4 ⟨rfl, hF4, hB4⟩
      go_wp2_with fail
      first | go_end0 | refine bodyPost_ret (results_none rfl _ _ _) rfl ?_
      exact RF.of HR hF4 ((bx_drewN g β w _).trans hB4.out)
    · have e7 : ¬ (L.depth : Int) ≤ (n : Int) := by omega
      rw [if_neg (by rw [hn]; exact hd), hpa, har, hn] at hR
      obtain ⟨lf, hlf⟩ : ∃ x, (if kk = 6 then 1 else ar : Nat) = x := ⟨_, rfl⟩
      obtain ⟨pb, hpb⟩ : ∃ x, decide (kk = 5) = x := ⟨_, rfl⟩
      have hfr : frN pa kk ar = ⟨pa, lf, pb, false, false, []⟩ := by rw [frN, hlf, hpb]
      have HR : Hid (R = Fs.close (n + 1) { f.numbered with G := frN pa kk ar :: f.G, m := 0 }) := hR.symm
      have HL := Lib.hid (fun w => hold_any pa kk ar w)
      rw [hlf, hpb] at HL
      have HFV : Hid (hv (frN pa kk ar) = [Value.int .i64 (pa : Int), Value.int .u64 (lf : Int), Value.bool pb, Value.bool false, Value.bool false, Value.string ByteArray.empty]) := by
        show hv _ = _
        rw [hfr]
        rfl
      have HAR : Hid (lf < 18446744073709551616) := by
        have := hy.ag
        show lf < _
        rw [← hlf]
        split <;> omega
      clear h hy hs hl0 hi hm0 hN hkk hK hwn hAn hmf hk hR har hpa hn hd hlf hpb hfr hho
      go_enter Tryd.func63, Tryd.ntmps63
      go_wp2_with fail
      go_quiet (first | (go_at_call 83; exact (SH.out _).mono fun _ _ h => ⟨h.1, _, h.2.symm⟩))
      go_wp2_with fail
      go_quiet (fail)
      go_wp2_with fail
      go_quiet (first | (go_at_call 57; exact (HO.out _).mono fun _ _ h => ⟨h.1, _, h.2.symm⟩))
      go_wp2_with (first | (go_at_call 57; refine (HO.out _).mono ?_; rintro e wh ⟨rfl, rfl⟩))
      rename_i qa qb hqd k1 k2
      have hF2 := H2.out (qa + qb + nq)
      have hB2 := HB2.out (qa + qb + nq)
      have hA2 := HAS.out (qa + qb + nq)
      generalize (w.drewN (qa + qb + nq)).setCell ⟨kn, i * 3 + 1, none⟩ (.int .u64 (ar : Int)) = w2 at hF2 hB2 hA2 ⊢
      rw [HKK.out.2.2.1] at hF2
      have HBB := Lib.hid hB2
      obtain ⟨vS2, hvS2, hfS2, HF2⟩ := Fm.hideS hF2
      have HA2 := Lib.hid hA2
      have m0 : w2.cell? ⟨kn, i * 3, none⟩ = some (.int .i64 (kk : Int)) := by have h1 := hA2.cell 0 _ rfl; rw [Nat.add_zero] at h1; rw [← HKK.out.1]; exact h1
      have d10 := HF2.out.at0.cell 10 _ rfl
      have d13 := HF2.out.at0.cell 13 _ rfl
      rw [show f.numbered.a = pa from HKK.out.2.2.2.2] at d10
      rw [show f.numbered.arg = ar from HKK.out.2.2.2.1] at d13
      have HKL : Hid (kn < w2.heap.size) := hA2.lt (by simp [rv])
      clear hF2 hB2 hA2 c0 c5 c6 c10 c11 c13 n0 n1 fn1
      go_cut [] from 113 to 139 (fun wx => ∃ vS3, Hid (FmS wx g β L ro f.pushed vT (.slice (some ⟨kn, 0, none⟩) f.l.length capn) vS3) ∧ Hid (Bx g β w wx))
      case first =>
        go_region_law (first
          | (go_simp; go_at_call 58; refine (HL.out _).mono ?_; rintro e w5 ⟨rfl, hb5⟩; have HR5 := Lib.hid ((Fm.drewN HF2.out _).below hb5); have HB5 := Lib.hid ((HBB.out.trans (bx_drewN g β w2 _)).trans (Bx.of hb5 HF2.out.bs)); have HA5 := Lib.hid ((HA2.out.drewN _).below hb5 HKL.out); have hq6 := HR5.out.at0.cell 6 _ rfl; have hqA6 : ∀ ob : Obj, (w5.alloc ob).cell? ⟨g, 6, none⟩ = some vS2 := (fun ob => (HR5.out.alloc ob).at0.cell 6 _ rfl); have hq10 := HR5.out.at0.cell 10 _ rfl; have hq13 := HR5.out.at0.cell 13 _ rfl; clear hb5)
          | (refine step_append_hd rfl (.tmp 117) (.tmp 131) rfl β _ n f.G rfl (by rw [← HKK.out.2.2.1]; exact HR5.out.stack.alloc _) _ 1 (frN pa kk ar) rfl (at_cells HFV.out (At.ofAlloc _ #[Value.int .i64 (pa : Int), Value.int .u64 (lf : Int), Value.bool pb, Value.bool false, Value.bool false, Value.string ByteArray.empty] 89)) (by have := HY.out.gl; have := HKK.out.2.2.1; omega) (by have := HR5.out.bs; simp; omega) ?_; intro v' w6 hown6 hgrow6; obtain ⟨a6, c6, hv6, -⟩ := own_form hown6; subst hv6; have hAt6 := At.grown ((HR5.out.alloc _).at0) hgrow6 (HR5.out.alloc _).lt (fun e => by have := (HR5.out.stack.lt g e).1; omega); have hf86 := hAt6.froz 6 (by show 6 < _; simp); have hc86 := hAt6.cell 6 _ rfl; have HR6 := Lib.hid (Fm.growS (G' := frN pa kk ar :: f.G) (HR5.out.alloc _) hgrow6 (by rw [List.length_cons, HKK.out.2.2.1]; exact hown6)); have HB6 := Lib.hid ((((HB5.out.alloc HR5.out.bs _).grown hgrow6 (by have := HR5.out.bs; simp; omega) (fun k hk => (HR5.out.stack.lt k hk).1)).setG (o := 6) (.slice a6 (n + 1) c6))); clear hAt6 hgrow6 hown6))
        all_goals
          go_wp2_with fail
          go_meet
          case rel => exact ⟨_, by show Fm _ g β L ro f.T f.numbered.l (frN f.a f.lastK f.arg :: f.G) _ _ _ _; rw [HKK.out.2.1, HKK.out.2.2.2.1, HKK.out.2.2.2.2]; exact HR6.out, HB6.out⟩
      case rest =>
        obtain ⟨vS3, HF3, HB3⟩ := hcut
        have d7 := HF3.out.at0.cell 7 _ rfl
        have f7 := HF3.out.at0.froz 7 (by show 7 < _; simp [cs])
        clear hvS2 hfS2 m0 d10 d13
        go_wp2_with fail
        have HF4 : Hid (FmS (wc.setCell ⟨g, 7, none⟩ (.int .i64 0)) g β L ro { f.pushed with m := 0 } vT (.slice (some ⟨kn, 0, none⟩) f.l.length capn) vS3) := HF3.out.set 0 (.int .i64 0)
        refine (close_any _ g β L ro { f.pushed with m := 0 } _ _ _ HF4.out (n + 1) (by show (_ :: f.G).length ≤ _; rw [List.length_cons, HKK.out.2.2.1]; exact Nat.le_refl _) ⟨fun s hs => ?_, fun s hs => (HY.out.gf s hs).1⟩ (Nat.lt_of_le_of_lt (Nat.zero_le _) HY.out.aT) HY.out.tT).mono ?_
        · rcases List.mem_cons.1 hs with rfl | hs
          · refine ⟨?_, by show f.a ≤ f.T.length - 1; have := HY.out.aT; omega⟩
            have h9 := HY.out.ag
            show (if f.lastK = 6 then 1 else f.arg) < _
            split <;> omega
          · exact (HY.out.gf s hs).2
        · rintro e w5 ⟨rfl, vT5, vN5, vS5, hF5, hB5⟩
          go_wp2_with fail
          first | go_end0 | refine bodyPost_ret (results_none rfl _ _ _) rfl ?_
          exact RF.of (by show R = _; rw [HR.out, ← HKK.out.2.1, ← HKK.out.2.2.2.1, ← HKK.out.2.2.2.2]; rfl) hF5 ((HB3.out.setG _).trans hB5.out)
end Cf
end Go.Proofs.YteanipjgpekncaaDoor
