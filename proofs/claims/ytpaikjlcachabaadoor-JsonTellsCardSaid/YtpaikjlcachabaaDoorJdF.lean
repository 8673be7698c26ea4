/- json's reader in memory: a number is read. -/
import Derived.Test.YtpaikjlcachabaaDoorJzH
namespace Go.Proofs.YtpaikjlcachabaaDoor
open Go.RowKit
set_option linter.unusedVariables false
set_option linter.unusedSimpArgs false
namespace Jd
open Js
open Dr (Rs Lm has lack)
open Jr (Cl sx wx)
/-- a number at hand -/
def nxs (st : St) (wv : Nat) (x : List UInt8) : St := { st with hand := .num wv x }
def freshN : Obj := Obj.cells #[.int .i64 0, .slice none 0 0] 110
theorem nxs_act (L : Lm) (st : St) (wv y : Nat) (x : List UInt8) (b : UInt8) (p : Nat) (h : nextN wv b = some y) : (nxs st wv x).act L b p = .go (nxs st y (x ++ [b])) := by
  show (match nextN wv b with | some w' => Out.go { nxs st wv x with hand := .num w' (x ++ [b]) } | none => if wholeN wv = true then ((nxs st wv x).endNum x).between L b p else .fl 9 p) = _
  rw [h]; rfl
theorem nxs_bad (L : Lm) (st : St) (wv : Nat) (x : List UInt8) (b : UInt8) (p : Nat) (h : nextN wv b = none) (hw : wholeN wv = false) : (nxs st wv x).act L b p = .fl 9 p := by
  show (match nextN wv b with | some w' => Out.go { nxs st wv x with hand := .num w' (x ++ [b]) } | none => if wholeN wv = true then ((nxs st wv x).endNum x).between L b p else .fl 9 p) = _
  rw [h]
  show (if wholeN wv = true then _ else _) = _
  rw [hw]; rfl
theorem nxs_last (st : St) (wv : Nat) (x : List UInt8) (hw : wholeN wv = false) : (nxs st wv x).last = none := by
  rw [St.last]
  split
  · show (if wholeN wv = true then _ else _) = _
    rw [hw]; rfl
  · rfl
section
variable (w : World) (g : Nat) (s : ByteArray) (L : Lm) (ro : Int) (st : St) (p : Nat) (B : List (Option Nat))
set_option maxRecDepth 100000 in
set_option maxHeartbeats 1600000 in
theorem open_any (h : Tx w g 0 s L.bytes p) (b : Bool) (hb : has s.toList L p = b) : Calls Tryd.prog 78 #[.pointer (some ⟨g, 0, none⟩)] w (fun e w' => e = .returned (.bool b) ∧ ∃ k, w' = w.drewN k) := by
  obtain ⟨hc0, hc1, hc2⟩ := h
  have hh : has s.toList L p = decide (p < s.size ∧ p < L.bytes) := by rw [has, tl_size]
  rw [hh] at hb
  by_cases h1 : p < s.size
  · have e1 : (p : Int) < (s.size : Int) := by omega
    by_cases h2 : p < L.bytes
    · have e2 : (p : Int) < (L.bytes : Int) := by omega
      have HB : Hid (b = true) := by show b = true; rw [← hb]; exact decide_eq_true ⟨h1, h2⟩
      clear hb h1 h2 hh
      go_enter Tryd.func78, Tryd.ntmps78
      go_wp2_with fail
      first | go_quiet (fail) | skip
      go_wp2_with fail
      go_ret
      rw [HB.out]
      exact ⟨rfl, _, rfl⟩
    · have e2 : ¬ (p : Int) < (L.bytes : Int) := by omega
      have e2b : decide ((p : Int) < (L.bytes : Int)) = false := decide_eq_false e2
      have e2c : decide (p < L.bytes) = false := decide_eq_false h2
      have HB : Hid (b = false) := by show b = false; rw [← hb]; exact decide_eq_false (fun h => h2 h.2)
      clear hb h1 h2 hh
      go_enter Tryd.func78, Tryd.ntmps78
      go_wp2_with fail
      first | go_quiet (fail) | skip
      go_wp2_with fail
      go_ret
      rw [HB.out]
      exact ⟨rfl, _, rfl⟩
  · have e1 : ¬ (p : Int) < (s.size : Int) := by omega
    have e1b : decide ((p : Int) < (s.size : Int)) = false := decide_eq_false e1
    have e1c : decide (p < s.size) = false := decide_eq_false h1
    have HB : Hid (b = false) := by show b = false; rw [← hb]; exact decide_eq_false (fun h => h1 h.1)
    clear hb h1 hh
    go_enter Tryd.func78, Tryd.ntmps78
    go_wp2_with fail
    first | go_quiet (fail) | skip
    go_wp2_with fail
    go_ret
    rw [HB.out]
    exact ⟨rfl, _, rfl⟩
end
def InNum (g : Nat) (s : ByteArray) (L : Lm) (ro : Int) (st st1 : St) (p : Nat) (B : List (Option Nat)) (h : Nat) (w : World) (gk : Nat) (wr : World) : Prop :=
  ∃ wv x vT q, Hid (JdB wr g s L ro st1.nx st1.cur st1.G q B) ∧ Hid (Nm wr h wv x vT) ∧ Hid (wv ≤ 8 ∧ x.length ≤ 4 * q ∧ p ≤ q ∧ q ≤ s.size ∧ q ≤ L.bytes ∧ s.size - q < gk ∧ (q = p → wv = 0 ∧ x = []) ∧ (p < q → Cl s.toList L (nxs st1 wv x) q st p)) ∧ Hid (NotT wr h ∧ g < h) ∧ Hid (Below g w wr)
section
variable (w : World) (g : Nat) (s : ByteArray) (L : Lm) (ro : Int) (st : St) (p : Nat) (B : List (Option Nat))
theorem Nm.kept {w w' : World} {h g wv : Nat} {x : List UInt8} {vT : Value} (m : Nm w h wv x vT) (hg : w.grownBy w' (some g)) (hl : g < h) : Nm w' h wv x vT := by
  refine ⟨m.at0.grown hg m.lt (by intro e; cases e; omega), m.text.kept hg ?_⟩
  cases hv : vT.ownBlock with
  | none => exact .inl rfl
  | some q => exact .inr (fun e => by cases e; have := (m.text.lt g hv).1; omega)
set_option maxRecDepth 100000 in
set_option maxHeartbeats 6400000 in
theorem dnumber_any (h : JdB w g s L ro st.nx st.cur st.G p B) (hE : Env s L) (hI : Inv L st p) (hsh : st.hand = .none) (b0 : UInt8) (y0 : Nat) (hy0 : nextN 0 b0 = some y0) (hh : has s.toList L p = true) (hx : s.toList.getD p 0 = b0)
    (ha : st.act L b0 p = st.add L p (.go (st.begin 3 (.num y0 [b0])))) :
    Calls Tryd.prog 61 #[.pointer (some ⟨g, 0, none⟩)] w (RStep st p g s L ro w) := by
  have hkd : ∀ f ∈ st.G, f.n ≤ 1000000 := fun f hf => by have := hI.kids f hf; have := (has_lt hh).2; have := hE.b; omega
  have hl : st.G.length ≤ 1000 := by have := hI.deep; have := hE.d; omega
  rw [St.add] at ha
  by_cases hi : L.items ≤ st.size
  · have AD := Lib.hid (dadd_no w g s L ro st.nx st.cur st.G p B h 3 hi)
    rw [if_pos hi] at ha
    have HR : Hid (RunsT s.toList L st p (.no 10 p false) (p + 1) st.G.length) := fl_at hh hx ha
    clear h hE hI hsh hh hx ha hkd hl hi hy0
    go_enter Tryd.func61, Tryd.ntmps61
    go_wp2_with fail
    refine AD.out.mono ?_
    rintro e w1 ⟨rfl, hb⟩
    go_wp2_with fail
    exact ⟨rfl, .inr ⟨_, _, _, _, _, HR.out, rfl, hb⟩⟩
  rw [if_neg hi] at ha
  have AD := Lib.hid (dadd_yes w g s L ro st.nx st.cur st.G p B h 3 (by rw [St.size] at hi; omega) hE.i hl hkd)
  obtain ⟨st1, hst1⟩ : ∃ x, st.begin 3 (.num y0 [b0]) = x := ⟨_, rfl⟩
  have hI1 : Inv L st1 (p + 1) := hI.act (by rw [ha, hst1])
  have hC1 : Cl s.toList L st1 (p + 1) st p := cl_go hh hx (by rw [ha, hst1])
  have hc1 : st1.cur ≠ [] := by rw [← hst1]; simp [St.begin]
  have hw1 : nxs st1 y0 [b0] = st1 := by rw [← hst1]; rfl
  have hAD : ∀ {e : Ending} {w' : World}, RAdd 3 st.nx st.cur st.G p g s L ro B w e w' → e = .returned (.tuple #[]) ∧ Hid (JdB w' g s L ro st1.nx st1.cur st1.G p B) ∧ Hid (Below g w w') := by
    rintro e w' ⟨h1, h2, h3, -⟩
    rw [← hst1]
    exact ⟨h1, h2, h3⟩
  have HAD := Lib.hid (fun (e : Ending) (w' : World) => @hAD e w')
  have hlt := has_lt hh
  rw [tl_size] at hlt
  have hsz1 : (flat st1.G st1.cur).length ≤ 1000000 := by have h1 : (flat st1.G st1.cur).length ≤ L.items := hI1.size; have := hE.i; omega
  have HX0 := Lib.hid (And.intro hh (And.intro hx (And.intro hI1 (And.intro hC1 (And.intro hc1 (And.intro hsz1 (And.intro hlt (And.intro hw1 hy0))))))))
  have HE := Lib.hid hE
  have HH1 : Hid (st1.hand = .num y0 [b0]) := by show _ = _; rw [← hst1]; rfl
  clear h hE hI hsh hh hx ha hkd hl hi hst1 hI1 hC1 hw1 hAD hlt hc1 hsz1 hy0
  go_enter Tryd.func61, Tryd.ntmps61
  go_wp2_with fail
  refine AD.out.mono ?_
  intro e w1 hAD1
  obtain ⟨rfl, hF1, hB1⟩ := HAD.out e w1 hAD1
  have HIN : Hid (InNum g s L ro st st1 p B w1.heap.size w (s.size + 1) (w1.alloc freshN)) := ⟨0, [], .slice none 0 0, p, hF1.out.alloc _, ⟨At.ofAlloc w1 #[.int .i64 0, .slice none 0 0] 110, World.ownsRow_nil _ _ _ _⟩, ⟨by omega, by simp, Nat.le_refl _, by have := HX0.out.2.2.2.2.2.2.1; omega, by have := HX0.out.2.2.2.2.2.2.1; omega, by omega, fun _ => ⟨rfl, rfl⟩, fun h => absurd h (Nat.lt_irrefl _)⟩, ⟨notT_new _ _ _ (by decide) (by decide), hF1.out.lt⟩, hB1.out.alloc (Nat.le_of_lt hF1.out.lt) _⟩
  clear hF1 hB1 AD hAD1
  go_wp2_with fail
  rw [show w1.alloc (Obj.cells #[.int .i64 0, .slice none 0 0] 110) = w1.alloc freshN from rfl]
  obtain ⟨h, hh⟩ : ∃ h, w1.heap.size = h := ⟨_, rfl⟩
  rw [hh] at HIN ⊢
  clear hh
  generalize w1.alloc freshN = w3 at HIN ⊢
  go_loopg [] (s.size + 1) (fun gk wr => InNum g s L ro st st1 p B h w gk wr)
  case atStart => exact HIN.out
  case round =>
    obtain ⟨wv, x, vT, q, HJ, HS, HX, HT, HB⟩ := hrel
    clear HIN
    have HQ2 : Hid (q ≤ 262144) := by have := HX.out.2.2.2.2.1; have := HE.out.b; show q ≤ _; omega
    cases hq : has s.toList L q with
    | false =>
      have HPQ : Hid (p < q) := by
        have h1 := HX.out.2.2.1
        show p < q
        rcases Nat.lt_or_ge p q with h2 | h2
        · exact h2
        · obtain rfl : q = p := by omega
          rw [HX0.out.1] at hq
          cases hq
      have HCL : Hid (Cl s.toList L (nxs st1 wv x) q st p) := HX.out.2.2.2.2.2.2.2 HPQ.out
      have HIN2 : Hid (Inv L (nxs st1 wv x) q) := by
        have h1 : Inv L { st1 with hand := .num wv x } q := Inv.hands HX0.out.2.2.1 (by have := HPQ.out; omega) (by rw [HH1.out]; simp) (by simp) (fun x hx => by rw [HH1.out] at hx; cases hx) ⟨HX.out.1, HX.out.2.1⟩
        exact h1
      have OP := Lib.hid (open_any wr g s L q HJ.out.tx.1 false hq)
      have HQF := Lib.hid hq
      clear hq
      go_wp2_with fail
      refine OP.out.mono ?_
      rintro e w2 ⟨rfl, k0, rfl⟩
      have HJ := Lib.hid (HJ.out.drewN k0)
      have HS : Hid (Nm (wr.drewN k0) h wv x vT) := ⟨HS.out.at0.drewN k0, own_drewN HS.out.text k0⟩
      have HB : Hid (Below g w (wr.drewN k0)) := HB.out.trans (below_drewN g wr k0)
      clear OP
      generalize wr.drewN k0 = wz at HJ HS HB ⊢
      cases hw : wholeN wv with
      | true =>
        have hm0 := last_pos (G := st1.G) HX0.out.2.2.2.2.1
        obtain ⟨vV, vS, hJ3⟩ := HJ.out
        obtain ⟨m, hm⟩ : ∃ m, (flat st1.G st1.cur).length = m + 1 := ⟨(flat st1.G st1.cur).length - 1, by omega⟩
        obtain ⟨qV, capV, rfl, hqV, hAtV⟩ := hJ3.value m (by omega)
        have c8 := hJ3.at0.cell 8 _ rfl
        rw [hm] at c8 hJ3
        have d2 := hAtV.cell 2 _ rfl
        have fd2 := hAtV.froz 2 (by show 2 < 3; decide)
        have e1 : (m : Int) + 1 - 1 = (m : Int) := by omega
        have e2 : IntKind.i64.wrap (m : Int) = (m : Int) := wrap_fit m (by have := HX0.out.2.2.2.2.2.1; unfold maxLen; omega)
        have e3 : (m : Int) < (m : Int) + 1 := by omega
        have HJ3 := Lib.hid hJ3
        have HM := Lib.hid (And.intro hm hqV)
        have TX := Lib.hid (fun n => ntext_any h wv x vT (wz.drewN n) ⟨HS.out.at0.drewN n, own_drewN HS.out.text n⟩)
        have WH := Lib.hid (nwhole_any h wv wz (by have := HS.out.at0.cell 0 _ rfl; rw [Nat.zero_add] at this; exact this))
        rw [hw] at WH
        have HSX : Hid (∀ n, JdS ((wz.drewN n).setCell ⟨qV, m * 3 + 2, none⟩ (.string ⟨x.toArray⟩)) g s L ro { st1 with cur := withText x st1.cur } q) := fun n => ⟨B, _, _, ((HJ3.out.drewN n).setLast HX0.out.2.2.2.2.1 x rfl HM.out.1)⟩
        have EN := Lib.hid (fun n => dended_any _ g s L ro { st1 with cur := withText x st1.cur } q (HSX.out n) (by have := HX0.out.2.2.1.deep; have := HE.out.d; show st1.G.length ≤ _; omega))
        have HCE : Hid (Cl s.toList L ((nxs st1 wv x).endNum x) q st p) := Cl.trans (fun r t k hr => num_over (s := nxs st1 wv x) rfl hw (fun hc => by rw [HQF.out] at hc; cases hc) hr) HCL.out
        have HIE : Hid (Inv L ((nxs st1 wv x).endNum x) q) := Inv.endNum HIN2.out rfl
        clear hAtV hm hqV hm0 hJ3 hw
        go_wp2_with fail
        refine WH.out.mono ?_
        rintro e w3 ⟨rfl, rfl⟩
        go_wp2_with fail
        go_region_with ((go_at_call 79; refine (TX.out _).mono ?_; rintro e w3 ⟨rfl, rfl⟩))
        all_goals
          go_wp2_with fail
          refine (EN.out _).mono ?_
          rintro e w4 ⟨rfl, hF4, hB4⟩
          go_wp2_with fail
          first | go_end0 | refine bodyPost_ret (results_none rfl _ _ _) rfl ?_
          exact .inl ⟨(nxs st1 wv x).endNum x, q, HPQ.out, HX.out.2.2.2.1, HX.out.2.2.2.2.1, rfl, HIE.out, HCE.out, rfl, hF4, (HB.out.trans ((below_drewN g wz _).setCell (p := ⟨qV, _, none⟩) (Nat.le_of_lt HM.out.2) _)).trans hB4.out⟩
      | false =>
        have WH := Lib.hid (nwhole_any h wv wz (by have := HS.out.at0.cell 0 _ rfl; rw [Nat.zero_add] at this; exact this))
        rw [hw] at WH
        have NQ := Lib.hid (nextB_no wz g s L ro q HJ.out (by have := HQ2.out; omega) HQF.out)
        obtain ⟨bb, hl⟩ := lack_eq s L
        have hr : RunsT s.toList L (nxs st1 wv x) q (lack s.toList L) (lackK s.toList L) st1.G.length := stop_lack HQF.out (fun _ => nxs_last st1 wv x hw)
        rw [hl] at hr
        have HRN := Lib.hid (HCL.out _ _ _ hr)
        clear hw hl hr
        go_wp2_with fail
        refine WH.out.mono ?_
        rintro e w3 ⟨rfl, rfl⟩
        go_wp2_with fail
        refine NQ.out.mono ?_
        rintro e w3 ⟨rfl, hb⟩
        go_wp2_with fail
        exact ⟨rfl, .inr ⟨_, _, _, _, _, HRN.out, rfl, HB.out.trans hb⟩⟩
    | true =>
      obtain ⟨b, hb⟩ : ∃ b, s.toList.getD q 0 = b := ⟨_, rfl⟩
      have OP := Lib.hid (open_any wr g s L q HJ.out.tx.1 true hq)
      have HQF := Lib.hid (And.intro hq hb)
      have hqs := has_lt hq
      rw [tl_size] at hqs
      have HQS := Lib.hid hqs
      clear hq hb hqs
      go_wp2_with fail
      refine OP.out.mono ?_
      rintro e w2 ⟨rfl, k0, rfl⟩
      have PK := Lib.hid (peek_yes (wr.drewN k0) g s L q (HJ.out.tx.1.drewN k0) HE.out HQF.out.1 b HQF.out.2)
      go_wp2_with fail
      refine PK.out.mono ?_
      rintro e w2 ⟨rfl, k1, rfl⟩
      have HJ := Lib.hid ((HJ.out.drewN k0).drewN k1)
      have HS : Hid (Nm ((wr.drewN k0).drewN k1) h wv x vT) := ⟨(HS.out.at0.drewN k0).drewN k1, own_drewN (own_drewN HS.out.text k0) k1⟩
      have HB : Hid (Below g w ((wr.drewN k0).drewN k1)) := (HB.out.trans (below_drewN g wr k0)).trans (below_drewN g _ k1)
      have HN : Hid (NotT ((wr.drewN k0).drewN k1) h) := HT.out.1
      clear OP PK
      generalize (wr.drewN k0).drewN k1 = wz at HJ HS HB HN ⊢
      have TK := Lib.hid (ntake_any h wv x vT b wz HX.out.1 (by have := HX.out.2.1; have := HQ2.out; omega) HS.out)
      cases hnx : nextN wv b with
      | some y =>
        have HNX := Lib.hid hnx
        clear hnx
        go_wp2_with fail
        refine TK.out.mono ?_
        intro e w3 hNN
        obtain ⟨vT3, he, hN3, hT3⟩ : ∃ vT3, e = .returned (.int .i64 0) ∧ Hid (Nm w3 h y (x ++ [b]) vT3) ∧ Hid (Tk h wz w3) := by
          rcases hNN with ⟨y2, vT, hy2, h1, h2, h3⟩ | ⟨hn, _⟩
          · obtain rfl := Option.some.inj (hy2.symm.trans HNX.out)
            exact ⟨vT, h1, h2, h3⟩
          · exact absurd (hn.symm.trans HNX.out) (by simp)
        subst he
        clear hNN
        have HF3 : Hid (JdB w3 g s L ro st1.nx st1.cur st1.G q B) := HJ.out.take hT3.out HT.out.2 HS.out.lt HN.out ⟨_, _, HS.out.at0⟩
        have HB3 : Hid (Below g w w3) := HB.out.trans (hT3.out.below.mono (Nat.le_of_lt HT.out.2))
        have HN3 : Hid (NotT w3 h) := notT_tk hT3.out HS.out.lt HN.out
        have NQ := Lib.hid (nextB_yes w3 g s L ro q HF3.out HE.out HQF.out.1 b HQF.out.2)
        have HX3 : Hid (y ≤ 8 ∧ (x ++ [b]).length ≤ 4 * (q + 1) ∧ p ≤ q + 1 ∧ q + 1 ≤ s.size ∧ q + 1 ≤ L.bytes ∧ s.size - (q + 1) < s.size - q ∧ (q + 1 = p → y = 0 ∧ x ++ [b] = []) ∧ (p < q + 1 → Cl s.toList L (nxs st1 y (x ++ [b])) (q + 1) st p)) := by
          have h1 := HQS.out
          have h2 := HX.out.2.1
          have h3 := HX.out.2.2.1
          refine ⟨nextN_le8 HNX.out, by rw [List.length_append]; simp; omega, by omega, by omega, by omega, by omega, fun h => absurd h (by omega), fun _ => ?_⟩
          rcases Nat.lt_or_ge p q with h4 | h4
          · exact Cl.trans (cl_go HQF.out.1 HQF.out.2 (nxs_act L st1 wv y x b q HNX.out)) (HX.out.2.2.2.2.2.2.2 h4)
          · obtain rfl : q = p := by omega
            obtain ⟨rfl, rfl⟩ := HX.out.2.2.2.2.2.2.1 rfl
            have hbb : b = b0 := HQF.out.2.symm.trans HX0.out.2.1
            subst hbb
            have hyy : y = y0 := Option.some.inj (HNX.out.symm.trans HX0.out.2.2.2.2.2.2.2.2)
            subst hyy
            rw [List.nil_append, HX0.out.2.2.2.2.2.2.2.1]
            exact HX0.out.2.2.2.1
        have HGK : Hid (s.size - q < gk) := HX.out.2.2.2.2.2.1
        clear TK
        go_wp2_with fail
        refine NQ.out.mono ?_
        rintro e w4 ⟨rfl, hF4, hB4, hG4⟩
        have hN4 := Nm.kept hN3.out hG4.out HT.out.2
        have HN4 : Hid (NotT w4 h ∧ g < h) := ⟨NotT.kept HN3.out hG4.out hN3.out.lt HT.out.2, HT.out.2⟩
        have HNM4 := Lib.hid hN4
        clear hN4
        go_wp2_with fail
        go_roundg (s.size - q)
        case measure => exact HGK.out
        case rel => exact ⟨y, x ++ [b], vT3, q + 1, hF4, HNM4, HX3, HN4, HB3.out.trans hB4.out⟩
      | none =>
        have HPQ : Hid (p < q) := by
          have h1 := HX.out.2.2.1
          show p < q
          rcases Nat.lt_or_ge p q with h2 | h2
          · exact h2
          · obtain rfl : q = p := by omega
            obtain ⟨rfl, rfl⟩ := HX.out.2.2.2.2.2.2.1 rfl
            have hbb : b = b0 := HQF.out.2.symm.trans HX0.out.2.1
            rw [hbb, HX0.out.2.2.2.2.2.2.2.2] at hnx
            cases hnx
        have HCL : Hid (Cl s.toList L (nxs st1 wv x) q st p) := HX.out.2.2.2.2.2.2.2 HPQ.out
        have HIN2 : Hid (Inv L (nxs st1 wv x) q) := by
          have h1 : Inv L { st1 with hand := .num wv x } q := Inv.hands HX0.out.2.2.1 (by have := HPQ.out; omega) (by rw [HH1.out]; simp) (by simp) (fun x hx => by rw [HH1.out] at hx; cases hx) ⟨HX.out.1, HX.out.2.1⟩
          exact h1
        have HNX := Lib.hid hnx
        clear hnx
        cases hw : wholeN wv with
        | true =>
          have HTK : Hid (∀ e w', NumTake wv x b h wz e w' → e = .returned (.int .i64 2) ∧ wz = w') := by
            rintro e w' (⟨y2, vT, hy2, _⟩ | ⟨hn, h1, h2⟩)
            · exact absurd (hy2.symm.trans HNX.out) (by simp)
            · rw [hw] at h1; exact ⟨h1, h2⟩
          have hm0 := last_pos (G := st1.G) HX0.out.2.2.2.2.1
          obtain ⟨vV, vS, hJ3⟩ := HJ.out
          obtain ⟨m, hm⟩ : ∃ m, (flat st1.G st1.cur).length = m + 1 := ⟨(flat st1.G st1.cur).length - 1, by omega⟩
          obtain ⟨qV, capV, rfl, hqV, hAtV⟩ := hJ3.value m (by omega)
          have c8 := hJ3.at0.cell 8 _ rfl
          rw [hm] at c8 hJ3
          have d2 := hAtV.cell 2 _ rfl
          have fd2 := hAtV.froz 2 (by show 2 < 3; decide)
          have e1 : (m : Int) + 1 - 1 = (m : Int) := by omega
          have e2 : IntKind.i64.wrap (m : Int) = (m : Int) := wrap_fit m (by have := HX0.out.2.2.2.2.2.1; unfold maxLen; omega)
          have e3 : (m : Int) < (m : Int) + 1 := by omega
          have HJ3 := Lib.hid hJ3
          have HM := Lib.hid (And.intro hm hqV)
          have TX := Lib.hid (fun n => ntext_any h wv x vT (wz.drewN n) ⟨HS.out.at0.drewN n, own_drewN HS.out.text n⟩)
          have WH := Lib.hid (nwhole_any h wv wz (by have := HS.out.at0.cell 0 _ rfl; rw [Nat.zero_add] at this; exact this))
          rw [hw] at WH
          have HSX : Hid (∀ n, JdS ((wz.drewN n).setCell ⟨qV, m * 3 + 2, none⟩ (.string ⟨x.toArray⟩)) g s L ro { st1 with cur := withText x st1.cur } q) := fun n => ⟨B, _, _, ((HJ3.out.drewN n).setLast HX0.out.2.2.2.2.1 x rfl HM.out.1)⟩
          have EN := Lib.hid (fun n => dended_any _ g s L ro { st1 with cur := withText x st1.cur } q (HSX.out n) (by have := HX0.out.2.2.1.deep; have := HE.out.d; show st1.G.length ≤ _; omega))
          have HCE : Hid (Cl s.toList L ((nxs st1 wv x).endNum x) q st p) := Cl.trans (fun r t k hr => num_over (s := nxs st1 wv x) rfl hw (fun _ => by rw [HQF.out.2]; exact HNX.out) hr) HCL.out
          have HIE : Hid (Inv L ((nxs st1 wv x).endNum x) q) := Inv.endNum HIN2.out rfl
          clear hAtV hm hqV hm0 hJ3 hw
          go_wp2_with fail
          refine TK.out.mono ?_
          intro e w3 hNN
          obtain ⟨he, hw3⟩ := HTK.out e w3 hNN
          subst he hw3
          clear hNN
          go_wp2_with fail
          refine WH.out.mono ?_
          rintro e w3 ⟨rfl, rfl⟩
          go_wp2_with fail
          go_region_with ((go_at_call 79; refine (TX.out _).mono ?_; rintro e w3 ⟨rfl, rfl⟩))
          all_goals
            go_wp2_with fail
            refine (EN.out _).mono ?_
            rintro e w4 ⟨rfl, hF4, hB4⟩
            go_wp2_with fail
            first | go_end0 | refine bodyPost_ret (results_none rfl _ _ _) rfl ?_
            exact .inl ⟨(nxs st1 wv x).endNum x, q, HPQ.out, HX.out.2.2.2.1, HX.out.2.2.2.2.1, rfl, HIE.out, HCE.out, rfl, hF4, (HB.out.trans ((below_drewN g wz _).setCell (p := ⟨qV, _, none⟩) (Nat.le_of_lt HM.out.2) _)).trans hB4.out⟩
        | false =>
          have HTK : Hid (∀ e w', NumTake wv x b h wz e w' → e = .returned (.int .i64 3) ∧ wz = w') := by
            rintro e w' (⟨y2, vT, hy2, _⟩ | ⟨hn, h1, h2⟩)
            · exact absurd (hy2.symm.trans HNX.out) (by simp)
            · rw [hw] at h1; exact ⟨h1, h2⟩
          have WH := Lib.hid (nwhole_any h wv wz (by have := HS.out.at0.cell 0 _ rfl; rw [Nat.zero_add] at this; exact this))
          rw [hw] at WH
          have NQ := Lib.hid (nextB_yes wz g s L ro q HJ.out HE.out HQF.out.1 b HQF.out.2)
          have FA := Lib.hid (fun w => fail_at 9 q g w)
          have HRN : Hid (RunsT s.toList L st p (.no 9 q false) (q + 1) st1.G.length) := HCL.out _ _ _ (fl_at (s := nxs st1 wv x) HQF.out.1 HQF.out.2 (nxs_bad L st1 wv x b q HNX.out hw))
          obtain ⟨z, hz⟩ : ∃ z, q + 1 = z := ⟨_, rfl⟩
          have e1 : (z : Int) - 1 = (q : Int) := by omega
          have e2 : IntKind.i64.wrap (q : Int) = (q : Int) := wrap_fit q (by have := HQ2.out; unfold maxLen; omega)
          rw [hz] at NQ
          clear hw hz
          go_wp2_with fail
          refine TK.out.mono ?_
          intro e w3 hNN
          obtain ⟨he, hw3⟩ := HTK.out e w3 hNN
          subst he hw3
          clear hNN
          go_wp2_with fail
          refine WH.out.mono ?_
          rintro e w3 ⟨rfl, rfl⟩
          go_wp2_with fail
          refine NQ.out.mono ?_
          rintro e w4 ⟨rfl, hF4, hB4, -⟩
          have PL := Lib.hid (place_ok w4 g s L.bytes z hF4.out.tx.1)
          go_wp2_with fail
          refine PL.out.mono ?_
          rintro e w5 ⟨rfl, rfl⟩
          go_wp2_with fail
          refine (FA.out _).mono ?_
          rintro e w5 ⟨rfl, hb5⟩
          go_wp2_with fail
          exact ⟨rfl, .inr ⟨_, _, _, _, _, HRN.out, rfl, (HB.out.trans hB4.out).trans hb5⟩⟩
end
end Jd
end Go.Proofs.YtpaikjlcachabaaDoor
