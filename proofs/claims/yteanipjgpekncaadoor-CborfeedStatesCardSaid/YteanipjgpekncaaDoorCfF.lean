/- A feed of items in memory: a head's first byte. -/
import Derived.Test.YteanipjgpekncaaDoorCfE
namespace Go.Proofs.YteanipjgpekncaaDoor
open Go.RowKit
set_option linter.unusedVariables false
set_option linter.unusedSimpArgs false
namespace Cf
open Co
open Dr (Rs Lm has lack at0S)
theorem headed_any (w : World) (g β : Nat) (L : Lm) (ro : Int) (f : Fs) (vT vN vS : Value) (h : FmS w g β L ro f vT vN vS) (hy : HdHyp w g f) :
    Calls Tryd.prog 63 #[.pointer (some ⟨g, 0, none⟩)] w (RF (f.headed Lib.validD L) g β L ro w) := by
  cases hs : short f.wd f.arg with
  | false => exact headed_bad w g β L ro f vT vN vS h hy hs
  | true =>
    by_cases hk : f.lastK = 2 ∨ f.lastK = 3
    · exact headed_text w g β L ro f vT vN vS h hy hs hk
    · exact headed_rest w g β L ro f vT vN vS h hy hs hk
/-- what a feed that waits for a head's first byte wants -/
structure HeHyp (w : World) (g : Nat) (L : Lm) (f : Fs) : Prop where
  ut : UT g w
  it : L.items ≤ 4096
  t0 : 0 < f.T.length
  tT : f.T.length ≤ 262144
  gf : Gf f.G (f.T.length - 1)
  gl : f.G.length ≤ 4096
def Fs.at1 (f : Fs) : Fs := { f with a := f.T.length - 1 }
def Fs.more1 (f : Fs) (b : UInt8) : Fs := { f.at1 with l := f.l ++ [⟨kindT b, 0, []⟩] }
theorem wid_in {t : UInt8} (hc : headE t = 0) : widT t = 0 ∨ widT t = 1 ∨ widT t = 2 ∨ widT t = 4 ∨ widT t = 8 := by
  by_cases h : widT t = 0
  · exact .inl h
  · exact .inr (wid_cases hc h)
set_option maxRecDepth 100000 in
set_option maxHeartbeats 6400000 in
theorem head_any (w : World) (g β : Nat) (L : Lm) (ro : Int) (f : Fs) (vT vN vS : Value) (h : FmS w g β L ro f vT vN vS) (hy : HeHyp w g L f) (b : UInt8) (t : Nat) (ht : b.toNat = t) :
    Calls Tryd.prog 62 #[.pointer (some ⟨g, 0, none⟩), .int .u8 (t : Int)] w (RF (f.head Lib.validD L b) g β L ro w) := by
  have hgb : g < β := h.gb
  have ht2 : t < 256 := by rw [← ht]; exact b.toNat_lt
  obtain ⟨R, hR⟩ : ∃ R, f.head Lib.validD L b = R := ⟨_, rfl⟩
  rw [hR]
  rw [Fs.head] at hR
  have HF := Lib.hid h
  have HY := Lib.hid hy
  obtain ⟨aT, cT, rfl, hcT, -⟩ := h.bytes
  obtain ⟨an, cn, hvN, -⟩ := own_form h.nodes
  subst hvN
  obtain ⟨tl, htl⟩ : ∃ m, f.T.length = m := ⟨_, rfl⟩
  obtain ⟨p, hp⟩ : ∃ p, tl - 1 = p := ⟨_, rfl⟩
  obtain ⟨m, hm⟩ : ∃ m, f.l.length = m := ⟨_, rfl⟩
  have c4 := h.at0.cell 4 _ rfl
  have c10 := h.at0.cell 10 _ rfl
  have f10 := h.at0.froz 10 (by show 10 < 14; decide)
  rw [htl] at c4
  have ht0 := hy.t0
  have htT := hy.tT
  rw [htl] at ht0 htT
  have e1 : (tl : Int) - 1 = (p : Int) := by omega
  have e2 : IntKind.i64.wrap (p : Int) = (p : Int) := wrap_fit p (by unfold maxLen; omega)
  have HF1 : Hid (FmS (w.setCell ⟨g, 10, none⟩ (.int .i64 (p : Int))) g β L ro f.at1 (.slice aT f.T.length cT) (.slice an f.l.length cn) vS) := by
    have h5 := h.set 3 (.int .i64 (p : Int))
    rw [← hp, ← htl] at h5
    rw [← hp, ← htl]
    exact h5
  have HB1 : Hid (Bx g β w (w.setCell ⟨g, 10, none⟩ (.int .i64 (p : Int)))) := (Bx.refl' g β w).setG _
  have AS := Lib.hid (fun w => cask_any t _ _ ht2 rfl rfl w)
  have he1 : headE b = hdE (t / 32) (t % 32) := by rw [headE_eq, ht]
  have hw1 : widT b = hdW (t % 32) := by rw [widT_eq, ht]
  rw [← he1, ← hw1] at AS
  have KI := Lib.hid (fun w => kind_any t _ ht2 rfl w)
  have hk1 : t / 32 = kindT b := by rw [kindT, ht]
  rw [hk1] at KI
  have hif : t % 32 = infT b := by rw [infT, ht]
  have e31 := u8_and31 t ht2
  rw [hif] at e31
  obtain ⟨E, hE⟩ : ∃ E, headE b = E := ⟨_, rfl⟩
  obtain ⟨W, hW⟩ : ∃ W, widT b = W := ⟨_, rfl⟩
  obtain ⟨n, hn⟩ : ∃ n, infT b = n := ⟨_, rfl⟩
  obtain ⟨k, hk⟩ : ∃ k, kindT b = k := ⟨_, rfl⟩
  rw [hE, hW] at AS
  rw [hn] at e31
  rw [hk] at KI
  have hn32 : n < 32 := by rw [← hn, infT]; omega
  have g4 : IntKind.u64.wrap (n : Int) = (n : Int) := u64c n (by omega)
  have hp1 : f.T.length - 1 = p := by rw [htl]; exact hp
  rw [hp1, hm, hE] at hR
  have HN := Lib.hid (And.intro htl (And.intro hp (And.intro hm (And.intro hW (And.intro hn (And.intro hk hE))))))
  clear h hy ht htl hp hm hcT ht0 htT he1 hw1 hk1 hif hn hk hp1 hn32 ht2
  by_cases hi : L.items ≤ m
  · have e7 : (L.items : Int) ≤ (m : Int) := by omega
    have HR : Hid (R = f.at1.fault 10 p) := by
      rw [if_pos hi] at hR
      show R = _
      rw [← hR, Fs.at1, HN.out.1, HN.out.2.1]
    clear hR hi hE hW
    go_enter Tryd.func62, Tryd.ntmps62
    go_wp2_with fail
    generalize w.setCell ⟨g, 10, none⟩ (.int .i64 (p : Int)) = w1 at HF1 HB1 ⊢
    have d1 := HF1.out.at0.cell 1 _ rfl
    have d5 := HF1.out.at0.cell 5 _ rfl
    have d10 := HF1.out.at0.cell 10 _ rfl
    rw [show f.at1.a = p by rw [Fs.at1, HN.out.1, HN.out.2.1]] at d10
    rw [HN.out.2.2.1] at d5
    clear c4 c10 f10
    go_quiet (fail)
    go_wp2_with fail
    refine (ffault_any _ g β L ro f.at1 _ _ _ (Fm.drewN HF1.out _) 10 p (p : Int) rfl).mono ?_
    rintro e w4 ⟨rfl, hF4, hB4⟩
    go_wp2_with fail
    first | go_end0 | refine bodyPost_ret (results_none rfl _ _ _) rfl ?_
    exact RF.of HR hF4 ((HB1.out.trans (bx_drewN g β w1 _)).trans hB4.out)
  have e7 : ¬ (L.items : Int) ≤ (m : Int) := by omega
  rw [if_neg hi] at hR
  by_cases hE0 : E = 0
  case neg =>
    rw [if_pos hE0] at hR
    rw [if_neg hE0] at AS
    have q0 : (E != 0) = true := by rw [bne_iff_ne]; exact hE0
    have HR : Hid (R = f.at1.fault E p) := by
      show R = _
      rw [← hR, Fs.at1, HN.out.1, HN.out.2.1]
    clear hR hi hE hW hE0
    go_enter Tryd.func62, Tryd.ntmps62
    go_wp2_with fail
    generalize w.setCell ⟨g, 10, none⟩ (.int .i64 (p : Int)) = w1 at HF1 HB1 ⊢
    have d1 := HF1.out.at0.cell 1 _ rfl
    have d1 := HF1.out.at0.cell 1 _ rfl
    have d5 := HF1.out.at0.cell 5 _ rfl
    have d10 := HF1.out.at0.cell 10 _ rfl
    rw [show f.at1.a = p by rw [Fs.at1, HN.out.1, HN.out.2.1]] at d10
    rw [HN.out.2.2.1] at d5
    clear c4 c10 f10
    go_quiet (fail)
    go_wp2_with (first | (go_at_call 82; refine (AS.out _).mono ?_; rintro e wa ⟨rfl, rfl⟩))
    refine (ffault_any _ g β L ro f.at1 _ _ _ (Fm.drewN HF1.out _) E p (p : Int) rfl).mono ?_
    rintro e w4 ⟨rfl, hF4, hB4⟩
    go_wp2_with fail
    first | go_end0 | refine bodyPost_ret (results_none rfl _ _ _) rfl ?_
    exact RF.of HR hF4 ((HB1.out.trans (bx_drewN g β w1 _)).trans hB4.out)
  case pos =>
    subst hE0
    rw [if_neg (by decide)] at hR
    rw [if_pos rfl] at AS
    have hWc := wid_in hE
    rw [hW] at hWc hR
    have g5 : IntKind.u64.wrap (W : Int) = (W : Int) := u64c W (by omega)
    have HAV : Hid (rv (up ⟨k, 0, []⟩) = (#[Value.int .i64 (k : Int), Value.int .u64 0, Value.string ByteArray.empty]).toList) := rfl
    have HMI : Hid (m < 4096) := by have := HY.out.it; show m < _; omega
    have HR := Lib.hid hR
    clear hR hi hE hW
    go_enter Tryd.func62, Tryd.ntmps62
    go_wp2_with fail
    generalize w.setCell ⟨g, 10, none⟩ (.int .i64 (p : Int)) = w1 at HF1 HB1 ⊢
    have d1 := HF1.out.at0.cell 1 _ rfl
    have d5 := HF1.out.at0.cell 5 _ rfl
    rw [HN.out.2.2.1] at d5
    clear c4 c10 f10
    go_quiet (fail)
    go_wp2_with (first | (go_at_call 82; refine (AS.out _).mono ?_; rintro e wa ⟨rfl, rfl⟩))
    have HF2 : Hid (FmS (w1.drewN nq) g β L ro f.at1 (.slice aT f.T.length cT) (.slice an f.l.length cn) vS) := Fm.drewN HF1.out nq
    have HB2 : Hid (Bx g β w (w1.drewN nq)) := HB1.out.trans (bx_drewN g β w1 nq)
    generalize w1.drewN nq = w2 at HF2 HB2 ⊢
    obtain ⟨vN2, hvN2⟩ : ∃ v, Value.slice an f.l.length cn = v := ⟨_, rfl⟩
    rw [hvN2] at HF2
    clear d1 d5 hvN2 HF1 HB1
    have b5 := HF2.out.at0.cell 5 _ rfl
    have bA5 : ∀ (z : Nat) (ob : Obj), ((w2.drewN z).alloc ob).cell? ⟨g, 5, none⟩ = some vN2 := fun z ob => ((Fm.drewN HF2.out z).alloc ob).at0.cell 5 _ rfl
    have bB5 : ∀ (ob : Obj), (w2.alloc ob).cell? ⟨g, 5, none⟩ = some vN2 := fun ob => (Fm.alloc HF2.out ob).at0.cell 5 _ rfl
    go_cut [] from 46 to 82 (fun wx => ∃ vN3, Hid (FmS wx g β L ro (f.more1 b) (.slice aT f.T.length cT) vN3 vS) ∧ Hid (Bx g β w wx))
    case first =>
      go_region_law (first
        | (go_simp; go_at_call 66; refine (KI.out _).mono ?_; rintro e w5 ⟨rfl, rfl⟩)
        | (refine step_append_at rfl (.tmp 50) (.tmp 54) rfl β _ m (f.l.map up) rfl (by rw [← HN.out.2.2.1]; exact (own_drewN HF2.out.nodes _).alloc _) _ 1 (up ⟨k, 0, []⟩) rfl (at_cells HAV.out (At.ofAlloc _ #[Value.int .i64 (k : Int), Value.int .u64 0, Value.string ByteArray.empty] 75)) (by have := HMI.out; omega) (by have := HF2.out.bs; simp; omega) ?_; intro v' w3 hown3 hgrow3; obtain ⟨a3, c3, hv3, -⟩ := own_form hown3; subst hv3; have hAt3 := At.grown (((Fm.drewN HF2.out _).alloc _).at0) hgrow3 ((Fm.drewN HF2.out _).alloc _).lt (fun e => by have := (HF2.out.nodes.lt g e).1; omega); have hf53 := hAt3.froz 5 (by show 5 < _; simp); have hc53 := hAt3.cell 5 _ rfl; have HR3 := Lib.hid (Fm.growN (l' := f.l ++ [⟨k, 0, []⟩]) ((Fm.drewN HF2.out _).alloc _) hgrow3 (by rw [List.length_append, List.length_singleton, HN.out.2.2.1, List.map_append]; exact hown3)); have HB3 := Lib.hid ((((HB2.out.trans (bx_drewN g β w2 _)).alloc HF2.out.bs _).grown hgrow3 (by have := HF2.out.bs; simp; omega) (fun k hk => (HF2.out.nodes.lt k hk).1)).setG (o := 5) (.slice a3 (m + 1) c3)); clear hAt3 hgrow3 hown3))
      all_goals
        go_wp2_with fail
        go_meet
        case rel => exact ⟨_, by show Fm _ g β L ro f.T (f.l ++ [⟨kindT b, 0, []⟩]) f.G _ _ _ (cs f.at1); rw [HN.out.2.2.2.2.2.1]; exact HR3.out, HB3.out⟩
    case rest =>
      obtain ⟨vN3, HF3, HB3⟩ := hcut
      clear b5 bA5 bB5 HF2 HB2
      have d7 := HF3.out.at0.cell 7 _ rfl
      have d11 := HF3.out.at0.cell 11 _ rfl
      have d12 := HF3.out.at0.cell 12 _ rfl
      have d13 := HF3.out.at0.cell 13 _ rfl
      have f7 := HF3.out.at0.froz 7 (by show 7 < _; simp [cs])
      have f11 := HF3.out.at0.froz 11 (by show 11 < _; simp [cs])
      have f12 := HF3.out.at0.froz 12 (by show 12 < _; simp [cs])
      have f13 := HF3.out.at0.froz 13 (by show 13 < _; simp [cs])
      have HF4 : Hid (FmS ((((wc.setCell ⟨g, 11, none⟩ (.int .i64 (W : Int))).setCell ⟨g, 12, none⟩ (.int .u64 (W : Int))).setCell ⟨g, 13, none⟩ (.int .u64 0)).setCell ⟨g, 7, none⟩ (.int .i64 1)) g β L ro (f.begun b) (.slice aT f.T.length cT) vN3 vS) := by
        have h5 := (((HF3.out.set 4 (.int .i64 (W : Int))).set 5 (.int .u64 (W : Int))).set 6 (.int .u64 0)).set 0 (.int .i64 1)
        rw [← HN.out.2.2.2.1] at h5
        rw [← HN.out.2.2.2.1]
        exact h5
      have HB4 : Hid (Bx g β w ((((wc.setCell ⟨g, 11, none⟩ (.int .i64 (W : Int))).setCell ⟨g, 12, none⟩ (.int .u64 (W : Int))).setCell ⟨g, 13, none⟩ (.int .u64 0)).setCell ⟨g, 7, none⟩ (.int .i64 1))) := (((HB3.out.setG _).setG _).setG _).setG _
      by_cases hW0 : W = 0
      · have q1 : ((W : Int) == 0) = true := by rw [beq_iff_eq]; omega
        have HR2 : Hid (R = Fs.headed Lib.validD L { f.begun b with arg := n }) := by
          have h9 := HR.out
          rw [if_pos hW0, HN.out.2.2.2.2.1] at h9
          exact h9.symm
        have HF5 : Hid (FmS (((((wc.setCell ⟨g, 11, none⟩ (.int .i64 (W : Int))).setCell ⟨g, 12, none⟩ (.int .u64 (W : Int))).setCell ⟨g, 13, none⟩ (.int .u64 0)).setCell ⟨g, 7, none⟩ (.int .i64 1)).setCell ⟨g, 13, none⟩ (.int .u64 (n : Int))) g β L ro { f.begun b with arg := n } (.slice aT f.T.length cT) vN3 vS) := HF4.out.set 6 (.int .u64 (n : Int))
        have HB5 := Lib.hid (HB4.out.setG (o := 13) (.int .u64 (n : Int)))
        clear hW0 HF4 HB4
        go_wp2_with fail
        refine (headed_any _ g β L ro { f.begun b with arg := n } _ _ _ HF5.out ⟨ut_bxf HY.out.ut HB5.out hgb, ?_, ?_, ?_, ?_, ?_, HY.out.tT, HY.out.gf, HY.out.gl⟩).mono ?_
        · show 0 < (f.l ++ [_]).length; simp
        · show (f.l ++ [_]).length ≤ 4096; rw [List.length_append, List.length_singleton, HN.out.2.2.1]; exact HMI.out
        · show f.T.length - 1 < f.T.length; have := HY.out.t0; omega
        · show n < _; have h9 := HN.out.2.2.2.2.1; rw [infT] at h9; omega
        · show widT b = 0 ∨ widT b = 1 ∨ widT b = 2 ∨ widT b = 4 ∨ widT b = 8; rw [HN.out.2.2.2.1]; exact hWc
        · rintro e w4 ⟨rfl, vT4, vN4, vS4, hF4, hB4⟩
          go_wp2_with fail
          first | go_end0 | refine bodyPost_ret (results_none rfl _ _ _) rfl ?_
          exact RF.of HR2 hF4 (HB5.out.trans hB4.out)
      · have q1 : ((W : Int) == 0) = false := by rw [beq_eq_false_iff_ne]; omega
        have HR2 : Hid (R = f.begun b) := by
          have h9 := HR.out
          rw [if_neg hW0] at h9
          exact h9.symm
        clear hW0
        go_wp2_with fail
        first | go_end0 | refine bodyPost_ret (results_none rfl _ _ _) rfl ?_
        exact RF.of HR2 HF4.out HB4.out
end Cf
end Go.Proofs.YteanipjgpekncaaDoor
