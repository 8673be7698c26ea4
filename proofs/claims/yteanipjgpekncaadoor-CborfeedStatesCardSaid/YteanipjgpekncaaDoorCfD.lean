/- A feed of items in memory: a head is whole. -/
import Derived.Test.YteanipjgpekncaaDoorCfC
namespace Go.Proofs.YteanipjgpekncaaDoor
open Go.RowKit
set_option linter.unusedVariables false
set_option linter.unusedSimpArgs false
namespace Cf
open Co
open Dr (Rs Lm has lack at0S)
/-- what headed wants -/
structure HdHyp (w : World) (g : Nat) (f : Fs) : Prop where
  ut : UT g w
  l0 : 0 < f.l.length
  ln : f.l.length ≤ 4096
  aT : f.a < f.T.length
  ag : f.arg < 18446744073709551616
  wd : f.wd = 0 ∨ f.wd = 1 ∨ f.wd = 2 ∨ f.wd = 4 ∨ f.wd = 8
  tT : f.T.length ≤ 262144
  gf : Gf f.G (f.T.length - 1)
  gl : f.G.length ≤ 4096
set_option maxRecDepth 100000 in
set_option maxHeartbeats 3200000 in
theorem headed_bad (w : World) (g β : Nat) (L : Lm) (ro : Int) (f : Fs) (vT vN vS : Value) (h : FmS w g β L ro f vT vN vS) (hy : HdHyp w g f) (hs : short f.wd f.arg = false) :
    Calls Tryd.prog 63 #[.pointer (some ⟨g, 0, none⟩)] w (RF (f.headed Lib.validD L) g β L ro w) := by
  have hgb : g < β := h.gb
  obtain ⟨R, hR⟩ : ∃ R, f.headed Lib.validD L = R := ⟨_, rfl⟩
  rw [hR]
  rw [Fs.headed, if_pos hs] at hR
  have HR : Hid (R = f.fault 9 f.a) := hR.symm
  have HF := Lib.hid h
  have c10 := h.at0.cell 10 _ rfl
  have c11 := h.at0.cell 11 _ rfl
  have c13 := h.at0.cell 13 _ rfl
  obtain ⟨ar, har⟩ : ∃ m, f.arg = m := ⟨_, rfl⟩
  obtain ⟨wn, hwn⟩ : ∃ m, f.wd = m := ⟨_, rfl⟩
  obtain ⟨pa, hpa⟩ : ∃ m, f.a = m := ⟨_, rfl⟩
  have SH := Lib.hid (fun w => short_any f.wd f.arg hy.wd hy.ag w)
  rw [hs, har, hwn] at SH
  rw [har] at c13
  rw [hwn] at c11
  rw [hpa] at c10 HR
  clear h hy hs hR har hwn hpa
  go_enter Tryd.func63, Tryd.ntmps63
  go_wp2_with fail
  go_quiet (first | (go_at_call 83; exact (SH.out _).mono fun _ _ h => ⟨h.1, _, h.2.symm⟩))
  go_wp2_with fail
  refine (ffault_any _ g β L ro f _ _ _ (HF.out.drewN _) 9 pa (pa : Int) rfl).mono ?_
  rintro e w4 ⟨rfl, hF4, hB4⟩
  go_wp2_with fail
  first | go_end0 | refine bodyPost_ret (results_none rfl _ _ _) rfl ?_
  exact RF.of HR hF4 ((bx_drewN g β w _).trans hB4.out)
/-- a feed with a text's length -/
def Fs.lefts (f : Fs) : Fs := { f with left := f.arg, m := 2 }
def Fs.pushed (f : Fs) : Fs := { f.numbered with G := frN f.a f.lastK f.arg :: f.G }
theorem numbered_len (f : Fs) : f.numbered.l.length = f.l.length := List.length_modify ..
set_option maxRecDepth 100000 in
set_option maxHeartbeats 3200000 in
theorem headed_text (w : World) (g β : Nat) (L : Lm) (ro : Int) (f : Fs) (vT vN vS : Value) (h : FmS w g β L ro f vT vN vS) (hy : HdHyp w g f) (hs : short f.wd f.arg = true) (hk : f.lastK = 2 ∨ f.lastK = 3) :
    Calls Tryd.prog 63 #[.pointer (some ⟨g, 0, none⟩)] w (RF (f.headed Lib.validD L) g β L ro w) := by
  have hgb : g < β := h.gb
  obtain ⟨R, hR⟩ : ∃ R, f.headed Lib.validD L = R := ⟨_, rfl⟩
  rw [hR]
  rw [Fs.headed, if_neg (by rw [hs]; decide), if_pos hk] at hR
  have HF := Lib.hid h
  have HY := Lib.hid hy
  have hl0 := hy.l0
  obtain ⟨i, hi⟩ : ∃ i, f.l.length - 1 = i := ⟨_, rfl⟩
  obtain ⟨kn, capn, rfl, hgn, hAn⟩ := h.node i (by omega)
  obtain ⟨m, hm0⟩ : ∃ m, f.l.length = m := ⟨_, rfl⟩
  obtain ⟨N, hN⟩ : ∃ N, f.l.getD i ⟨0, 0, []⟩ = N := ⟨_, rfl⟩
  obtain ⟨kk, hkk⟩ : ∃ t, N.kind = t := ⟨_, rfl⟩
  have hK : f.lastK = kk := by rw [Fs.lastK, hi, hN, hkk]
  obtain ⟨ar, har⟩ : ∃ m, f.arg = m := ⟨_, rfl⟩
  obtain ⟨wn, hwn⟩ : ∃ m, f.wd = m := ⟨_, rfl⟩
  have c5 := h.at0.cell 5 _ rfl
  have c11 := h.at0.cell 11 _ rfl
  have c13 := h.at0.cell 13 _ rfl
  have f7 := h.at0.froz 7 (by show 7 < 14; decide)
  have f12 := h.at0.froz 12 (by show 12 < 14; decide)
  have c7 := h.at0.cell 7 _ rfl
  have c12 := h.at0.cell 12 _ rfl
  have SH := Lib.hid (fun w => short_any f.wd f.arg hy.wd hy.ag w)
  rw [hs, har, hwn] at SH
  rw [har] at c13
  rw [hwn] at c11
  rw [hm0] at c5
  rw [hN] at hAn
  have n0 := hAn.cell 0 _ rfl
  have n0 : w.cell? ⟨kn, i * 3, none⟩ = some (.int .i64 (kk : Int)) := by rw [← hkk]; rw [Nat.add_zero] at n0; exact n0
  have hmf : m ≤ maxLen := by have := own_fit h.nodes; rw [hm0] at this; exact this
  have e1 : (i : Int) < (m : Int) := by omega
  have e4 : (m : Int) - 1 = (i : Int) := by omega
  have e5 : IntKind.i64.wrap (i : Int) = (i : Int) := wrap_fit i (by omega)
  rw [hK] at hk
  have H2 : Hid (∀ q, FmS (((w.drewN q).setCell ⟨g, 12, none⟩ (.int .u64 (ar : Int))).setCell ⟨g, 7, none⟩ (.int .i64 2)) g β L ro f.lefts vT (.slice (some ⟨kn, 0, none⟩) f.l.length capn) vS) := fun q => by
    have h5 := ((h.drewN q).set 5 (.int .u64 (ar : Int))).set 0 (.int .i64 2)
    rw [← har] at h5
    rw [← har]
    exact h5
  have hx : g ≠ kn := by omega
  clear h hy hs hl0 hi hm0 hN hkk hK hwn hAn hmf
  by_cases h0 : ar = 0
  · have q0 : ((ar : Int) == 0) = true := by rw [beq_iff_eq]; omega
    have HR : Hid (R = f.lefts.whole Lib.validD) := by
      rw [if_pos (by rw [har]; exact h0)] at hR
      exact hR.symm
    have HAR : Hid (f.lefts.arg ≤ f.lefts.T.length) := by show f.arg ≤ _; rw [har, h0]; exact Nat.zero_le _
    clear hR har h0
    rcases hk with rfl | rfl
    all_goals
      go_enter Tryd.func63, Tryd.ntmps63
      go_wp2_with fail
      go_quiet (first | (go_at_call 83; exact (SH.out _).mono fun _ _ h => ⟨h.1, _, h.2.symm⟩))
      go_wp2_with fail
      go_quiet (fail)
      go_wp2_with fail
      refine (fwhole_any _ g β L ro f.lefts _ _ _ (H2.out _) (ut_bxf HY.out.ut (((bx_drewN g β w _).setG _).setG _) hgb) HY.out.l0 HY.out.aT HAR.out HY.out.tT HY.out.gf).mono ?_
      rintro e w4 ⟨rfl, vT4, vN4, vS4, hF4, hB4⟩
      go_wp2_with fail
      first | go_end0 | refine bodyPost_ret (results_none rfl _ _ _) rfl ?_
      exact RF.of HR hF4 ((((bx_drewN g β w _).setG _).setG _).trans hB4.out)
  · have q0 : ((ar : Int) == 0) = false := by rw [beq_eq_false_iff_ne]; omega
    have HR : Hid (R = f.lefts) := by
      rw [if_neg (by rw [har]; exact h0)] at hR
      exact hR.symm
    clear hR har h0
    rcases hk with rfl | rfl
    all_goals
      go_enter Tryd.func63, Tryd.ntmps63
      go_wp2_with fail
      go_quiet (first | (go_at_call 83; exact (SH.out _).mono fun _ _ h => ⟨h.1, _, h.2.symm⟩))
      go_wp2_with fail
      go_quiet (fail)
      go_wp2_with fail
      first | go_end0 | refine bodyPost_ret (results_none rfl _ _ _) rfl ?_
      exact RF.of HR (H2.out _) (((bx_drewN g β w _).setG _).setG _)
end Cf
end Go.Proofs.YteanipjgpekncaaDoor
