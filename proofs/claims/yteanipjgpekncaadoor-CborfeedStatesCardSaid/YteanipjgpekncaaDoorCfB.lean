/- A feed of items in memory: an item has ended; what is full is closed. -/
import Derived.Test.YteanipjgpekncaaDoorCfA
import Derived.Deep.LoopGhost
namespace Go.Proofs.YteanipjgpekncaaDoor
open Go.RowKit
set_option linter.unusedVariables false
set_option linter.unusedSimpArgs false
namespace Cf
open Co
open Dr (Rs Lm has lack at0S)
section
variable {w : World} {g β : Nat} {L : Lm} {ro : Int} {T : List UInt8} {l : List Am} {G : List Fr} {vT vN : Value} {c : List Value} {t : Fr}
theorem Fm.topKey {k cap n : Nat} (h : Fm w g β L ro T l (t :: G) vT vN (.slice (some ⟨k, 0, none⟩) (n + 1) cap) c) (hn : G.length = n) (u : ByteArray) (x : List UInt8) (hx : u.toList = x) :
    Fm (((w.setCell ⟨k, n * 6 + 4, none⟩ (.bool true)).setCell ⟨k, n * 6 + 3, none⟩ (.bool true)).setCell ⟨k, n * 6 + 5, none⟩ (.string u)) g β L ro T l (keyF t x :: G) vT vN (.slice (some ⟨k, 0, none⟩) (n + 1) cap) c := by
  subst hx
  have h8 := h.setTop rfl hn 4 (by decide) (.bool true) { t with keys := true } rfl
  have h9 := h8.setTop rfl hn 3 (by decide) (.bool true) { t with keys := true, value := true } rfl
  exact h9.setTop rfl hn 5 (by decide) (.string u) (keyF t u.toList) (by simp [hv, tl_arr, keyF])
theorem Fm.topOther {k cap n : Nat} (h : Fm w g β L ro T l (t :: G) vT vN (.slice (some ⟨k, 0, none⟩) (n + 1) cap) c) (hn : G.length = n) (m : Nat) (hm : t.left - 1 = m) :
    Fm ((w.setCell ⟨k, n * 6 + 3, none⟩ (.bool false)).setCell ⟨k, n * 6 + 1, none⟩ (.int .u64 (m : Int))) g β L ro T l (otherF t :: G) vT vN (.slice (some ⟨k, 0, none⟩) (n + 1) cap) c := by
  subst hm
  have h8 := h.setTop rfl hn 3 (by decide) (.bool false) { t with value := false } rfl
  exact h8.setTop rfl hn 1 (by decide) (.int .u64 ((t.left - 1 : Nat) : Int)) (otherF t) rfl
end
set_option maxRecDepth 100000 in
set_option maxHeartbeats 3200000 in
theorem fended_any (w : World) (g β : Nat) (L : Lm) (ro : Int) (f : Fs) (vT vN vS : Value) (h : FmS w g β L ro f vT vN vS) (a : Nat) (ha : a < f.T.length) (hT : f.T.length ≤ 262144) (hop : ∀ t, f.G.head? = some t → 0 < t.left ∧ t.left < 18446744073709551616) (z : Int) (hza : (a : Int) = z) :
    Calls Tryd.prog 85 #[.pointer (some ⟨g, 0, none⟩), .int .i64 z] w (RF (f.ended a) g β L ro w) := by
  have hgb : g < β := h.gb
  subst hza
  have HF := Lib.hid h
  obtain ⟨R, hR⟩ : ∃ R, f.ended a = R := ⟨_, rfl⟩
  rw [hR]
  cases hG : f.G with
  | nil =>
    have hs := h.at0.cell 6 _ rfl
    have f7 := h.at0.froz 7 (by show 7 < 14; decide)
    have c7 := h.at0.cell 7 _ rfl
    obtain ⟨ad, c, hv, -⟩ := own_form h.stack
    rw [hv, hG] at hs
    have hs2 : w.cell? ⟨g, 6, none⟩ = some (.slice ad 0 c) := hs
    have HR : Hid (R = { f with m := 3 }) := by show R = _; rw [← hR, Fs.ended, hG]
    clear h ha hT hR hv hG hs hop
    go_enter Tryd.func85, Tryd.ntmps85
    go_wp2_with fail
    first | go_end0 | refine bodyPost_ret (results_none rfl _ _ _) rfl ?_
    refine ⟨rfl, vT, vN, vS, ?_, (Bx.refl' g β w).setG _⟩
    rw [HR.out]
    exact HF.out.set 0 (.int .i64 3)
  | cons t G =>
    have hf := hop t (by rw [hG]; rfl)
    have h2 : Fm w g β L ro f.T f.l (t :: G) vT vN vS (cs f) := by have h1 := h; rw [FmS, hG] at h1; exact h1
    have H2 := Lib.hid h2
    obtain ⟨k, cap, rfl, hcap, hgk, hAt⟩ := h2.top
    obtain ⟨aT, cT, rfl, hcT, hbT⟩ := h2.bytes
    obtain ⟨kT, rfl, hgT, hAT⟩ := hbT (by omega)
    have x3 : ¬ k = g := by omega
    have x4 : ¬ g = k := by omega
    have x5 : ¬ g = kT := by omega
    have c6 := h2.at0.cell 6 _ rfl
    have c7 := h2.at0.cell 7 _ rfl
    have f7 := h2.at0.froz 7 (by show 7 < 14; decide)
    obtain ⟨n, hn⟩ : ∃ n, G.length = n := ⟨_, rfl⟩
    obtain ⟨tl, htl⟩ : ∃ nd, f.T.length = nd := ⟨_, rfl⟩
    have hnf : n + 1 ≤ maxLen := by have := own_fit h2.stack; rw [List.length_cons, hn] at this; exact this
    rw [hn] at hAt c6 hcap H2
    rw [htl] at hT ha hcT H2
    have e0 : ((n : Int) + 1 == 0) = false := by rw [beq_eq_false_iff_ne]; omega
    have e4 : IntKind.i64.wrap (n : Int) = (n : Int) := wrap_fit n (by omega)
    have e5 : (n : Int) < (n : Int) + 1 := by omega
    -- what comes next is a head
    have H3 : Hid (Fm (w.setCell ⟨g, 7, none⟩ (.int .i64 0)) g β L ro f.T f.l (t :: G) (.slice (some ⟨kT, 0, none⟩) tl cT) vN (.slice (some ⟨k, 0, none⟩) (n + 1) cap) (cs { f with m := 0 })) := H2.out.set 0 (.int .i64 0)
    have HB3 : Hid (Bx g β w (w.setCell ⟨g, 7, none⟩ (.int .i64 0))) := (Bx.refl' g β w).setG _
    have HA3 : Hid (At (w.setCell ⟨g, 7, none⟩ (.int .i64 0)) k (n * 6) (hv t)) := hAt.other g 7 _ (Or.inl x4)
    have HT3 : Hid (At (w.setCell ⟨g, 7, none⟩ (.int .i64 0)) kT 0 (bcells f.T)) := hAT.other g 7 _ (Or.inl x5)
    have HN := Lib.hid (And.intro hn (And.intro htl (And.intro hgk hgT)))
    clear h h2 hAt hAT hbT hn htl hgT HF hop
    go_enter Tryd.func85, Tryd.ntmps85
    go_upto_region 3 with fail
    obtain ⟨w1, hw1⟩ : ∃ x, w.setCell ⟨g, 7, none⟩ (.int .i64 0) = x := ⟨_, rfl⟩
    rw [hw1] at H3 HB3 HA3 HT3
    rw [hw1]
    clear hw1 c6 c7 f7
    have c6 := H3.out.at0.cell 6 _ rfl
    have c4 := H3.out.at0.cell 4 _ rfl
    have ht1 := HA3.out.cell 1 _ rfl
    have ht2 := HA3.out.cell 2 _ rfl
    have ht3 := HA3.out.cell 3 _ rfl
    have ht4 := HA3.out.cell 4 _ rfl
    have ht5 := HA3.out.cell 5 _ rfl
    have hf1 := HA3.out.froz 1 (by rw [hv_length]; decide)
    have hf3 := HA3.out.froz 3 (by rw [hv_length]; decide)
    have hf4 := HA3.out.froz 4 (by rw [hv_length]; decide)
    have hf5 := HA3.out.froz 5 (by rw [hv_length]; decide)
    have WA := Lib.hid (fun (z : Nat) => wants_any (w1.drewN z) _ _ _ _ ht2 ht3)
    by_cases hkey : t.pairs = true ∧ t.value = false
    · obtain ⟨u, hu⟩ : ∃ u : ByteArray, u = ⟨(f.T.drop a).toArray⟩ := ⟨_, rfl⟩
      have hul : u.toList = f.T.drop a := by rw [hu, tl_mk]
      have e7 : ¬ (cT : Int) - (a : Int) = 0 := by omega
      have e7n : ¬ cT - a = 0 := by omega
      have e8 : (a : Int) ≤ (tl : Int) := by omega
      have e8n : a ≤ tl := by omega
      have e9 : (tl : Int) ≤ (cT : Int) := by omega
      have CV : ∀ z c2, (convert 42 9 (.slice (some ⟨kT, a, none⟩) (tl - a) c2)).run Tryd.prog (w1.drewN z) = .ok (.string u) (w1.drewN z) := fun z c2 => by
        rw [hu]
        refine conv_at ((At.midOf (A := f.T.take a) (Z := f.T.drop a) (R := []) ?_ ?_).drewN z) _ _ ?_
        · rw [List.append_nil, List.take_append_drop]
          exact HT3.out
        · rw [List.length_take, HN.out.2.1]; omega
        · rw [List.length_drop, HN.out.2.1]
      have KE := Lib.hid (fun (z : Nat) => key_any (w1.drewN z) _ _ _ _ _ u ht4 ht3 ht5 hf4 hf3 hf5)
      have hcond : (t.pairs && !t.value) = true := by rw [hkey.1, hkey.2]; rfl
      rw [hcond] at WA
      rw [Fs.ended, hG] at hR
      dsimp only at hR
      rw [if_pos hkey, ← hul] at hR
      rw [tl_mk] at KE
      obtain ⟨b, hb⟩ : ∃ b, (t.keys && !Op.bytesLess t.last u.toList) = b := ⟨_, rfl⟩
      rw [hb] at KE
      have HRK := Lib.hid (fun (z : Nat) => (H3.out.drewN z).topKey HN.out.1 u _ hul)
      have HBK : Hid (∀ z, Bx g β w ((((w1.drewN z).setCell ⟨k, n * 6 + 4, none⟩ (.bool true)).setCell ⟨k, n * 6 + 3, none⟩ (.bool true)).setCell ⟨k, n * 6 + 5, none⟩ (.string u))) := fun z => (((HB3.out.trans (bx_drewN g β w1 z)).setCell HN.out.2.2.1 _).setCell HN.out.2.2.1 _).setCell HN.out.2.2.1 _
      cases b with
      | true =>
        have HR : Hid (R = ({ f with m := 0, G := keyF t (f.T.drop a) :: G } : Fs).fault 9 a) := by
          show R = _
          rw [← hR, if_pos, hul]
          rw [Bool.and_eq_true] at hb
          exact ⟨hb.1, by simpa using hb.2⟩
        clear hf ht1 ht2 ht3 ht4 ht5 hf1 hf3 hf4 hf5 hkey hcond hR hb hG hu hul hgk
        go_quiet (fail)
        go_wp2_with (first
          | (go_at_call 70; refine (WA.out _).mono ?_; rintro e w1 ⟨rfl, rfl⟩)
          | (go_at_call 72; refine (KE.out _).mono ?_; rintro e w3 ⟨rfl, rfl⟩))
        refine (ffault_any _ g β L ro { f with m := 0, G := keyF t (f.T.drop a) :: G } (.slice (some ⟨kT, 0, none⟩) tl cT) vN (.slice (some ⟨k, 0, none⟩) (n + 1) cap) (HRK.out _) 9 a _ rfl).mono ?_
        rintro e w4 ⟨rfl, hF4, hB4⟩
        go_wp2_with fail
        first | go_end0 | refine bodyPost_ret (results_none rfl _ _ _) rfl ?_
        exact RF.of HR hF4 ((HBK.out _).trans hB4.out)
      | false =>
        have HR : Hid (R = { f with m := 0, G := keyF t (f.T.drop a) :: G }) := by
          show R = _
          rw [← hR, if_neg, hul]
          rintro ⟨h1, h2⟩
          rw [h1, h2] at hb
          cases hb
        clear hf ht1 ht2 ht3 ht4 ht5 hf1 hf3 hf4 hf5 hkey hcond hR hb hG hu hul hgk
        go_quiet (fail)
        go_wp2_with (first
          | (go_at_call 70; refine (WA.out _).mono ?_; rintro e w1 ⟨rfl, rfl⟩)
          | (go_at_call 72; refine (KE.out _).mono ?_; rintro e w3 ⟨rfl, rfl⟩))
        first | go_end0 | refine bodyPost_ret (results_none rfl _ _ _) rfl ?_
        exact RF.of (vT := .slice (some ⟨kT, 0, none⟩) tl cT) (vN := vN) (vS := .slice (some ⟨k, 0, none⟩) (n + 1) cap) HR (HRK.out _) (HBK.out _)
    · have hcond : (t.pairs && !t.value) = false := by
        cases h1 : t.pairs <;> cases h2 : t.value <;> simp_all
      rw [hcond] at WA
      obtain ⟨m, hm⟩ : ∃ m, t.left - 1 = m := ⟨_, rfl⟩
      have OT := Lib.hid (fun (z : Nat) => other_any (w1.drewN z) _ _ _ (m : Int) _ ht1 ht3 hf1 hf3 (by omega) (u64c m (by omega)))
      have HRO := Lib.hid (fun (z : Nat) => (H3.out.drewN z).topOther HN.out.1 m hm)
      have HBO : Hid (∀ z, Bx g β w (((w1.drewN z).setCell ⟨k, n * 6 + 3, none⟩ (.bool false)).setCell ⟨k, n * 6 + 1, none⟩ (.int .u64 (m : Int)))) := fun z => ((HB3.out.trans (bx_drewN g β w1 z)).setCell HN.out.2.2.1 _).setCell HN.out.2.2.1 _
      have HR : Hid (R = { f with m := 0, G := otherF t :: G }) := by
        show R = _
        rw [← hR, Fs.ended, hG]
        dsimp only
        rw [if_neg hkey]
      clear hf ht1 ht2 ht3 ht4 ht5 hf1 hf3 hf4 hf5 hkey hcond hR hG hm hgk
      go_quiet (fail)
      go_wp2_with (first
        | (go_at_call 70; refine (WA.out _).mono ?_; rintro e w1 ⟨rfl, rfl⟩)
        | (go_at_call 71; refine (OT.out _).mono ?_; rintro e w3 ⟨rfl, rfl⟩))
      first | go_end0 | refine bodyPost_ret (results_none rfl _ _ _) rfl ?_
      exact RF.of (vT := .slice (some ⟨kT, 0, none⟩) tl cT) (vN := vN) (vS := .slice (some ⟨k, 0, none⟩) (n + 1) cap) HR (HRO.out _) (HBO.out _)
theorem close_nil (k : Nat) (f : Fs) (h : f.G = []) : Fs.close k f = f := by
  cases k with
  | zero => rfl
  | succ k => rw [Fs.close, h]
theorem close_else (k : Nat) (f : Fs) {t : Fr} {G : List Fr} (h : f.G = t :: G) (h2 : ¬ t.left = 0) : Fs.close k f = f := by
  cases k with
  | zero => rfl
  | succ k => rw [Fs.close, h]; dsimp only; rw [if_neg (fun h3 => h2 h3.2)]
theorem close_more (k : Nat) (f : Fs) {t : Fr} {G : List Fr} (h : f.G = t :: G) (he : f.e = 0) (h2 : t.left = 0) : Fs.close (k + 1) f = Fs.close k (({ f with G := G } : Fs).ended t.p0) := by
  rw [Fs.close, h]; dsimp only; rw [if_pos ⟨he, h2⟩]
theorem ended_T (f : Fs) (a : Nat) : (f.ended a).T = f.T := by
  rw [Fs.ended]
  split
  · rfl
  · split
    · split <;> rfl
    · rfl
theorem ended_len (f : Fs) (a : Nat) : (f.ended a).G.length = f.G.length := by
  rw [Fs.ended]
  cases hG : f.G with
  | nil => simp only [hG]
  | cons t G =>
    dsimp only
    split
    · split <;> rfl
    · rfl
theorem ended_tf {f : Fs} {a p : Nat} (h : Gf f.G p) : Tf (f.ended a).G p := by
  rw [Fs.ended]
  cases hG : f.G with
  | nil => simp only [hG]; exact ⟨(fun t ht => absurd ht List.not_mem_nil), (fun t ht => absurd ht List.not_mem_nil)⟩
  | cons t G =>
    rw [hG] at h
    dsimp only
    split
    · split
      · exact (h.key _).top
      · exact (h.key _).top
    · exact h.other
/-- the loop of close: with the fuel left -/
def InC (R : Fs) (g β : Nat) (L : Lm) (ro : Int) (w : World) (gk : Nat) (wr : World) : Prop :=
  ∃ f vT vN vS, Hid (FmS wr g β L ro f vT vN vS) ∧ Hid (Fs.close gk f = R ∧ f.G.length ≤ gk ∧ Tf f.G (f.T.length - 1) ∧ 0 < f.T.length ∧ f.T.length ≤ 262144) ∧ Hid (Bx g β w wr)
set_option maxRecDepth 100000 in
set_option maxHeartbeats 3200000 in
theorem close_any (w : World) (g β : Nat) (L : Lm) (ro : Int) (f0 : Fs) (vT vN vS : Value) (h : FmS w g β L ro f0 vT vN vS) (N0 : Nat) (hN0 : f0.G.length ≤ N0) (hk : Tf f0.G (f0.T.length - 1)) (h0 : 0 < f0.T.length) (hT : f0.T.length ≤ 262144) :
    Calls Tryd.prog 84 #[.pointer (some ⟨g, 0, none⟩)] w (RF (Fs.close N0 f0) g β L ro w) := by
  have hgb : g < β := h.gb
  obtain ⟨R, hR⟩ : ∃ R, Fs.close N0 f0 = R := ⟨_, rfl⟩
  rw [hR]
  have HIN : Hid (InC R g β L ro w N0 w) := ⟨f0, vT, vN, vS, h, ⟨hR, hN0, hk, h0, hT⟩, Bx.refl' _ _ _⟩
  clear h hk h0 hT hR hN0
  go_enter Tryd.func84, Tryd.ntmps84
  go_wp2_with fail
  go_loopg [] N0 (fun gk wr => InC R g β L ro w gk wr)
  case atStart => exact HIN.out
  case round =>
    obtain ⟨f, vT, vN, vS, HF, HC, HB⟩ := hrel
    clear HIN
    have c9 := HF.out.at0.cell 8 _ rfl
    obtain ⟨ee, hee⟩ : ∃ e, f.e = e := ⟨_, rfl⟩
    rw [hee] at c9
    by_cases he : ee = 0
    · have e1 : (ee == 0) = true := by rw [beq_iff_eq]; exact he
      have HE := Lib.hid (hee.trans he)
      have c6 := HF.out.at0.cell 6 _ rfl
      cases hG : f.G with
      | nil =>
        obtain ⟨ad, c, hv, -⟩ := own_form HF.out.stack
        rw [hv, hG] at c6
        have c6b : wr.cell? ⟨g, 6, none⟩ = some (.slice ad 0 c) := c6
        have HR : Hid (R = f) := by show R = _; rw [← HC.out.1]; exact close_nil _ _ hG
        clear hee he hG c6 hv
        go_wp2_with fail
        go_quiet (fail)
        go_wp2_with fail
        first | go_end0 | refine bodyPost_ret (results_none rfl _ _ _) rfl ?_
        exact RF.of HR (HF.out.drewN _) (HB.out.trans (bx_drewN _ _ _ _))
      | cons t G =>
        have h2 : Fm wr g β L ro f.T f.l (t :: G) vT vN vS (cs f) := by have h1 := HF.out; rw [FmS, hG] at h1; exact h1
        have H2 := Lib.hid h2
        obtain ⟨k, cap, rfl, hcap, hgk, hAt⟩ := h2.top
        obtain ⟨n, hn⟩ : ∃ n, G.length = n := ⟨_, rfl⟩
        have hnf : n + 1 ≤ maxLen := by have := own_fit h2.stack; rw [List.length_cons, hn] at this; exact this
        obtain ⟨te, hte⟩ : ∃ n, t.left = n := ⟨_, rfl⟩
        obtain ⟨tp, htp⟩ : ∃ n, t.p0 = n := ⟨_, rfl⟩
        rw [hn] at hAt hcap c6
        have s0 := hAt.cell 0 _ rfl
        have s1 := hAt.cell 1 _ rfl
        rw [hte] at s1
        rw [htp, Nat.add_zero] at s0
        have e3 : (0 : Int) < (n : Int) + 1 := by omega
        have e4 : IntKind.i64.wrap (n : Int) = (n : Int) := wrap_fit n (by omega)
        have e5 : (n : Int) < (n : Int) + 1 := by omega
        have f6 := h2.at0.froz 6 (by show 6 < 14; decide)
        have e6 : (n : Int) ≤ (cap : Int) := by omega
        have HN := Lib.hid (And.intro hn (And.intro hte (And.intro htp hgk)))
        have FU := Lib.hid (fun (z : Nat) => full_any (wr.drewN z) k (n * 6) te s1)
        have AU := Lib.hid (fun (z : Nat) => at_any (wr.drewN z) k (n * 6) tp s0)
        by_cases hq : te = 0
        · rw [decide_eq_true hq] at FU
          obtain ⟨k1, rfl⟩ : ∃ k1, gk = k1 + 1 := by
            have h9 := HC.out.2.1
            rw [hG, List.length_cons] at h9
            exact ⟨gk - 1, by omega⟩
          have HCL : Hid (Fs.close k1 (({ f with G := G } : Fs).ended tp) = R) := by
            show _ = R
            rw [← HC.out.1, close_more k1 f hG HE.out (by rw [hte]; exact hq), htp]
          have HTF : Hid (Gf G (f.T.length - 1) ∧ tp < f.T.length) := by
            have h9 := HC.out.2.2.1
            rw [hG] at h9
            refine ⟨h9.rest, ?_⟩
            have h8 := (h9.1 t (List.mem_cons_self ..)).2
            have := HC.out.2.2.2.1
            omega
          have HLE : Hid (G.length ≤ k1) := by
            have h9 := HC.out.2.1
            rw [hG, List.length_cons] at h9
            show _ ≤ _
            omega
          have HP := Lib.hid (fun q => (H2.out.drewN q).pop (k := k) (cap := cap) (n := n) (by rw [hn]) hn)
          clear hee he hG h2 hAt hcap hgk hn hte htp hq
          go_wp2_with fail
          go_quiet (first | (go_at_call 44; exact (FU.out _).mono fun _ _ h => ⟨h.1, _, h.2.symm⟩))
          go_wp2_with fail
          go_quiet (first | (go_at_call 46; exact (AU.out _).mono fun _ _ h => ⟨h.1, _, h.2.symm⟩))
          go_wp2_with fail
          go_region
          go_wp2_with fail
          refine (fended_any _ g β L ro { f with G := G } _ _ _ (HP.out _) tp HTF.out.2 HC.out.2.2.2.2 (fun s hs => by
            have h8 := HTF.out.1 s (List.mem_of_mem_head? hs)
            exact ⟨h8.1, h8.2.1⟩) (tp : Int) rfl).mono ?_
          rintro e w1 ⟨rfl, vT1, vN1, vS1, hF1, hB1⟩
          have HIN : Hid (InC R g β L ro w k1 w1) := ⟨_, vT1, vN1, vS1, hF1, ⟨HCL.out, by rw [ended_len _ _]; exact HLE.out, by
            rw [ended_T]
            exact ended_tf HTF.out.1, by rw [ended_T]; exact HC.out.2.2.2⟩, HB.out.trans (((bx_drewN g β _ _).setG _).trans hB1)⟩
          clear hF1 hB1
          go_wp2_with fail
          go_roundg k1
          case measure => exact Nat.lt_succ_self _
          case rel => exact HIN.out
        · rw [decide_eq_false hq] at FU
          have HR : Hid (R = f) := by show R = _; rw [← HC.out.1]; exact close_else _ _ hG (by rw [hte]; exact hq)
          clear hee he hG h2 hAt hcap hgk hn hte htp hq
          go_wp2_with fail
          go_quiet (first | (go_at_call 44; exact (FU.out _).mono fun _ _ h => ⟨h.1, _, h.2.symm⟩))
          go_wp2_with fail
          first | go_end0 | refine bodyPost_ret (results_none rfl _ _ _) rfl ?_
          exact RF.of HR (HF.out.drewN _) (HB.out.trans (bx_drewN _ _ _ _))
    · have e1 : (ee == 0) = false := by rw [beq_eq_false_iff_ne]; exact he
      have HR : Hid (R = f) := by show R = _; rw [← HC.out.1]; exact close_bad _ _ (by rw [hee]; exact he)
      clear hee he
      go_wp2_with fail
      go_quiet (fail)
      go_wp2_with fail
      first | go_end0 | refine bodyPost_ret (results_none rfl _ _ _) rfl ?_
      exact RF.of HR (HF.out.drewN _) (HB.out.trans (bx_drewN _ _ _ _))
end Cf
end Go.Proofs.YteanipjgpekncaaDoor
