/- Joined by merge.py: JrS JrT JrU JrW JrX. -/
import Derived.Test.YtilfidcomeandaaDoorJzC
import Derived.BigQuiet
import Derived.Test.YtilfidcomeandaaDoorRowS
import Derived.Test.YtilfidcomeandaaDoorJzD
namespace Go.Proofs.YtilfidcomeandaaDoor
open Go.RowKit
set_option linter.unusedVariables false
set_option linter.unusedSimpArgs false
namespace Jr
open Js
open Dr (Rs Lm has lack lackE lackP)
/-- what reading a value comes to, wherever no more than m bytes are left -/
def ValAll (g : Nat) (s : ByteArray) (L : Lm) (ro : Int) (m : Nat) : Prop :=
  ∀ (w : World) (O : List Vl) (tk p : Nat) (st : St), s.size - p ≤ m → st.hand = .none → st.named = none → (st.nx = 0 ∨ (st.nx = 1 ∧ s.toList.getD p 0 ≠ 93)) → O.length = st.size → has s.toList L p = true → Js.blank (s.toList.getD p 0) = false → Gok w g s L ro O st.G.length tk → tk ≤ p + 1 →
    Calls Tryd.prog 42 #[.pointer (some ⟨g, 0, none⟩), .int .i64 (p : Int), .int .i64 (st.G.length : Int)] w (RetVal st p g s L ro O w)
def RetHold (st st1 : St) (p : Nat) (kd : Int) (g : Nat) (s : ByteArray) (L : Lm) (ro : Int) (O : List Vl) (w : World) (e : Ending) (w' : World) : Prop :=
  (∃ (k : Nat) (M : List Vl) (q : Nat), p ≤ q ∧ Cl s.toList L (after st (⟨kd, k, []⟩ :: M)) q st1 p ∧ GYes (.tuple #[.int .i64 (q : Int), .bool true]) g s L ro (O ++ ⟨kd, k, []⟩ :: M) st.G.length q w e w') ∨
  (∃ c q b tk k, RunsT s.toList L st1 p (.no c q b) tk k ∧ GNay (.tuple #[.int .i64 0, .bool false]) g s L ro c q b tk k w e w')
/-- in an array with k values so far, which stand in M -/
def am (st : St) (nx k : Nat) (M : List Vl) : St := { nx := nx, hand := .none, named := none, cur := M, G := ⟨st.cur, k, none⟩ :: bump st.G }
theorem am_hold (st : St) (hh : st.hand = .none) (hn : st.named = none) : st.hold none = am st 1 0 [] := by
  obtain ⟨nx, hd, nm, cur, G⟩ := st
  cases hh; cases hn
  rfl
theorem am_G (st : St) (nx k : Nat) (M : List Vl) : (am st nx k M).G.length = st.G.length + 1 := by
  show (bump st.G).length + 1 = _
  rw [bump_length]
theorem am_size (st : St) (nx k : Nat) (M : List Vl) : (am st nx k M).size = st.size + (M.length + 1) := by
  show (flat (bump st.G) st.cur ++ hold ⟨st.cur, k, none⟩ :: M).length = _
  rw [List.length_append, flat_bump_length]; rfl
theorem am_after (st : St) (nx k : Nat) (M N : List Vl) : after (am st nx k M) N = am st 5 (k + 1) (M ++ N) := rfl
theorem am_close (st : St) (nx k : Nat) (M : List Vl) (hn : st.named = none) : (am st nx k M).close = after st (⟨5, k, []⟩ :: M) := by
  obtain ⟨nx, hd, nm, cur, G⟩ := st
  cases hn
  rfl
theorem am_first (L : Lm) (st : St) (k : Nat) (M : List Vl) (hn : st.named = none) (p : Nat) : (am st 1 k M).act L 93 p = .go (after st (⟨5, k, []⟩ :: M)) := by
  rw [act_step rfl (by decide), ← am_close st 1 k M hn]
  rfl
theorem am_more (L : Lm) (st : St) (k : Nat) (M : List Vl) (hn : st.named = none) (p : Nat) (b : UInt8) (hb : Js.blank b = false) :
    (am st 5 k M).act L b p = if b = 93 then .go (after st (⟨5, k, []⟩ :: M)) else if b = 44 then .go (am st 0 k M) else .fl 9 p := by
  rw [act_step rfl hb]
  show (am st 5 k M).goOn b p = _
  rw [St.goOn, if_neg (by show ¬ (false = true); decide)]
  by_cases h1 : b = 93
  · rw [if_pos h1, if_pos h1, am_close st 5 k M hn]
  · rw [if_neg h1, if_neg h1, St.pass]
    by_cases h2 : b = 44
    · rw [if_pos (decide_eq_true h2), if_pos h2]; rfl
    · rw [if_neg (by rw [decide_eq_false h2]; decide), if_neg h2]
theorem hold_get (O M : List Vl) (kd : Int) (k me : Nat) (h : O.length = me) : (O ++ (⟨kd, k, []⟩ : Vl) :: M).getD me v0 = ⟨kd, k, []⟩ := by
  subst h
  rw [List.getD, List.getElem?_append_right (Nat.le_refl _), Nat.sub_self]; rfl
theorem hold_set (O M : List Vl) (kd : Int) (k j me : Nat) (h : O.length = me) : (O ++ (⟨kd, k, []⟩ : Vl) :: M).modify me (fun v => { v with kids := (j : Int) }) = O ++ ⟨kd, j, []⟩ :: M := by
  subst h
  induction O with
  | nil => rfl
  | cons y O ih => rw [List.cons_append, List.length_cons, List.modify_succ_cons, ih]; rfl
theorem u8neF {b c : UInt8} {y n : Nat} (h : b ≠ c) (hb : y = b.toNat) (hc : c.toNat = n) : ((y : Int) == (n : Int)) = false := eqF (by intro e; exact h (UInt8.toNat_inj.1 (by omega)))
/-- at a byte that begins the next value or name of what is begun -/
structure HoldI (S : List UInt8) (L : Lm) (p a k nx lo : Nat) (c : UInt8) : Prop where
  pa : p ≤ a
  ka : k ≤ 2 * a
  nx : nx = lo ∨ (nx = lo + 1 ∧ S.getD a 0 ≠ c)
  hs : has S L a = true
  bl : Js.blank (S.getD a 0) = false
set_option maxRecDepth 100000 in
set_option maxHeartbeats 6400000 in
theorem arr_any {m0 : Nat} {g : Nat} {s : ByteArray} {L : Lm} {ro : Int} (IH : ValAll g s L ro m0) {w : World} {O : List Vl} {tk : Nat} (st : St) (hnm : st.named = none) (me : Nat) (hme : O.length = me) (hsz : O.length = st.size) (hm4 : me ≤ 4096) (hG : Gok w g s L ro (O ++ [⟨5, 0, []⟩]) st.G.length tk) (p : Nat) (hs : s.size ≤ 140737488351232) (htk : tk ≤ p + 1) (hp : p ≤ s.size) (hpm : s.size - p ≤ m0) (hf : st.G.length ≤ 100) (dp : Nat) (hdp : st.G.length + 1 = dp) :
    Calls Tryd.prog 64 #[.pointer (some ⟨g, 0, none⟩), .int .i64 (p : Int), .int .i64 (me : Int), .int .i64 (dp : Int)] w (RetHold st (am st 1 0 []) p 5 g s L ro O w) := by
  have HIH := Lib.hid IH
  have HAG : Hid (∀ nx k M, (am st nx k M).G.length = dp) := fun nx k M => by rw [am_G, hdp]
  have PS := Lib.hid (fun (w' : World) (O' : List Vl) (tk nx k : Nat) (M : List Vl) (q : Nat) (hnx : nx ≠ 6) (h : Gok w' g s L ro O' dp tk) (h1 : tk ≤ q + 1) (h2 : q ≤ s.size) => pass_any (am st nx k M) rfl hnx (by rw [HAG.out]; exact h) q hs h1 h2)
  have HK : Hid (O.length = me ∧ O.length = st.size ∧ st.named = none ∧ s.size - p ≤ m0 ∧ s.size ≤ 140737488351232 ∧ me ≤ 4096) := ⟨hme, hsz, hnm, hpm, hs, hm4⟩
  obtain ⟨fr, hfr⟩ : ∃ n, st.G.length = n := ⟨_, rfl⟩
  rw [hfr] at hG hf hdp
  have HFR := Lib.hid hfr
  have hfd : (fr : Int) + 1 = (dp : Int) := by omega
  have hfd2 : (dp : Int) - 1 = (fr : Int) := by omega
  have hfd3 : (fr : Int) ≤ 100 := by omega
  obtain ⟨⟨vo, hR⟩, htl⟩ := hG
  have c9 := hR.at0.cell 9 _ rfl
  have f9 := hR.at0.froz 9 (Nat.le_of_ble_eq_true rfl)
  rw [Nat.zero_add] at c9 f9
  have HR1 := Lib.hid (hR.setC 9 (.int .i64 (dp : Int)) (fr' := dp) rfl)
  have HF1 : Hid (Fg g w (w.setCell ⟨g, 9, none⟩ (.int .i64 (dp : Int)))) := (Fg.refl g w).setG 9 _
  have HP1 := Lib.hid (PS.out _ _ tk 1 0 [] p (by decide) ⟨⟨vo, HR1.out⟩, htl⟩ htk hp)
  clear hR htl hs htk hp hpm hm4 hsz hme hnm IH hfr hf hdp
  go_enter Tryd.func64, Tryd.ntmps64
  go_wp2_with fail
  refine HP1.out.mono ?_
  rintro e w1 (⟨q, hpq, hhq, hblq, hcl, rfl, HG1, HF2⟩ | ⟨c, q, b, tk', hrun, rfl, HG1, HF2⟩)
  · rw [HAG.out] at HG1
    have HFw := Lib.hid (HF1.out.trans HF2.out)
    have t0 := Gok.txt HG1.out
    have hqs : q < s.size := by have := (has_lt hhq).1; rw [tl_size] at this; exact this
    have hbq := byte_at s q hqs
    have e1 : (q : Int) < (s.size : Int) := by omega
    have e2 : (0 : Int) ≤ (q : Int) := by omega
    obtain ⟨b, hb⟩ : ∃ b, s.toList.getD q 0 = b := ⟨_, rfl⟩
    rw [hb] at hbq hblq
    obtain ⟨y, hy⟩ : ∃ y, (s[q]).toNat = y := ⟨_, rfl⟩
    rw [hy] at hbq
    have HQ : Hid (p ≤ q ∧ has s.toList L q = true ∧ Js.blank (s.toList.getD q 0) = false ∧ s.toList.getD q 0 = b) := ⟨hpq, hhq, by rw [hb]; exact hblq, hb⟩
    have HCL := Lib.hid hcl
    by_cases h93 : b = 93
    · subst h93
      have hy2 : y = 93 := by rw [hbq]; rfl
      subst hy2
      obtain ⟨⟨vo1, hR1⟩, htl1⟩ := HG1.out
      have c91 := hR1.at0.cell 9 _ rfl
      have f91 := hR1.at0.froz 9 (Nat.le_of_ble_eq_true rfl)
      rw [Nat.zero_add] at c91 f91
      obtain ⟨q8, hq8⟩ : ∃ x, q + 1 = x := ⟨_, rfl⟩
      have hq8i : (q : Int) + 1 = (q8 : Int) := by omega
      have hq8w : (q8 : Int) ≤ 140737488351300 := by have := HK.out.2.2.2.2.1; omega
      have HR9 := Lib.hid (hR1.setC 9 (.int .i64 (fr : Int)) (fr' := fr) rfl)
      have HF9 := Lib.hid (HFw.out.setG 9 (.int .i64 (fr : Int)))
      have HC9 : Hid (Cl s.toList L (after st [⟨5, 0, []⟩]) (q + 1) (am st 1 0 []) p) := Cl.trans (fun r t k h => RunsT.go hhq (by rw [hb]; exact am_first L st 0 [] HK.out.2.2.1 q) h) hcl
      rw [hq8] at HR9 HC9
      have HQ8 : Hid (p ≤ q8 ∧ q8 ≤ L.bytes ∧ q8 ≤ s.size) := by have := (has_lt hhq).2; exact ⟨by omega, by omega, by omega⟩
      clear hpq hhq hblq hcl HG1 hb hbq hR1 htl1 hq8
      go_wp2_with fail
      exact bodyPost_ret (v := .tuple #[.int .i64 (q8 : Int), .bool true]) (by simp [results, Tryd.results64, go_sem]) rfl (.inl ⟨0, [], q8, HQ8.out.1, HC9.out, rfl, ⟨⟨_, by rw [HFR.out]; exact HR9.out⟩, HQ8.out.2⟩, HF9⟩)
    · have hn93 : ((y : Int) == 93) = false := u8neF h93 hbq (n := 93) rfl
      have HI0 : Hid (HoldI s.toList L p q 0 1 0 93) := ⟨hpq, Nat.zero_le _, .inr ⟨rfl, by rw [hb]; exact h93⟩, hhq, HQ.out.2.2.1⟩
      clear hpq hhq hblq hcl hb hbq h93 HF1 HF2
      go_wp2_with fail
      go_loopw [1, 10] (fun va vo wr => ∃ (a k nx : Nat) (M : List Vl), va = .int .i64 (a : Int) ∧ vo = .bool true ∧ Hid (HoldI s.toList L p a k nx 0 93) ∧ Hid (Gok wr g s L ro (O ++ ⟨5, k, []⟩ :: M) dp (a + 1)) ∧ Hid (Cl s.toList L (am st nx k M) a (am st 1 0 []) p) ∧ Hid (Fg g w wr)) (fun va _ _ => s.size - (intOf va).toNat)
      case atStart => exact ⟨q, 0, 1, [], rfl, rfl, HI0, HG1, HCL, HFw⟩
      case round =>
        obtain ⟨a, k, nx, M, rfl, rfl, HI, HG, HC, HF⟩ := hrel
        clear HG1 HFw t0 e1 e2 hn93 HI0 HCL HQ
        have hak := (has_lt HI.out.hs).1
        rw [tl_size] at hak
        have VI := Lib.hid (HIH.out wr (O ++ ⟨5, k, []⟩ :: M) (a + 1) a (am st nx k M) (by have := HI.out.pa; have := HK.out.2.2.2.1; omega) rfl rfl HI.out.nx (by rw [am_size, List.length_append, List.length_cons, HK.out.2.1]) HI.out.hs HI.out.bl (by rw [HAG.out]; exact HG.out) (Nat.le_refl _))
        rw [HAG.out] at VI
        have HAK := Lib.hid hak
        clear hak
        go_wp2_with fail
        refine VI.out.mono ?_
        rintro e w2 (⟨N, q2, haq, hcl, rfl, HG2, HF2⟩ | ⟨c, q2, b2, tk', kk, hrun, rfl, HG2, HF2⟩)
        · rw [HAG.out] at HG2
          rw [am_after] at hcl
          rw [show (O ++ (⟨5, (k : Int), []⟩ : Vl) :: M) ++ N = O ++ ⟨5, (k : Int), []⟩ :: (M ++ N) by simp] at HG2
          obtain ⟨M2, hM2⟩ : ∃ x, M ++ N = x := ⟨_, rfl⟩
          rw [hM2] at HG2 hcl
          have HC2 := Lib.hid (Cl.trans hcl HC.out)
          obtain ⟨⟨vo2, hR2⟩, htl2⟩ := HG2.out
          have hlt : me < (O ++ (⟨5, (k : Int), []⟩ : Vl) :: M2).length := by rw [List.length_append, HK.out.1]; simp
          obtain ⟨r, cap, hvo, hgr, hA⟩ := hR2.value me hlt
          have hget := hold_get O M2 5 k me HK.out.1
          rw [hget] at hA
          have hR3 := hR2.setOut hvo rfl me 1 hlt (by decide) (.int .i64 ((k + 1 : Nat) : Int)) (fun v => { v with kids := ((k + 1 : Nat) : Int) }) (by rw [hget]; rfl)
          rw [hold_set O M2 5 k (k + 1) me HK.out.1] at hR3
          have hF3 := (HF.out.trans HF2.out).setOut hR2.out (by rw [hvo]; rfl) (Nat.le_of_lt hR2.lt) (me * 3 + 1) (.int .i64 ((k + 1 : Nat) : Int))
          obtain ⟨n2, hn2⟩ : ∃ n, (O ++ (⟨5, (k : Int), []⟩ : Vl) :: M2).length = n := ⟨_, rfl⟩
          have c11 := hR2.at0.cell 11 _ rfl
          rw [hvo, hn2] at c11
          rw [hn2] at hlt
          have d1 := hA.cell 1 _ rfl
          have fd1 := hA.froz 1 (by show 1 < 3; decide)
          obtain ⟨k1, hk1⟩ : ∃ x, k + 1 = x := ⟨_, rfl⟩
          have hk1i : (k : Int) + 1 = (k1 : Int) := by omega
          rw [hk1] at hR3 hF3 HC2
          have e11 : (me : Int) < (n2 : Int) := by omega
          have e12 : (k : Int) ≤ 300000000000000 := by have := HI.out.ka; have := HAK.out; have := HK.out.2.2.2.2.1; omega
          have HR3 := Lib.hid hR3
          have HF3 := Lib.hid hF3
          have HTL := Lib.hid htl2
          have HQ2 : Hid (a < q2 ∧ k1 ≤ 2 * q2) := ⟨haq, by have := HI.out.ka; omega⟩
          clear HG2 HF2 hcl hM2 hR2 htl2 hA hget hR3 hF3 hn2 haq hk1 hlt hvo
          go_wp2_with fail
          go_region
          have HF3b : Hid (Fg g w (w2.setCell ⟨r, me * 3 + 1, none⟩ (.int .i64 (k1 : Int))).drew) := HF3.out.trans (Fg.drewN g _ 1)
          have P2 := Lib.hid (PS.out (w2.setCell ⟨r, me * 3 + 1, none⟩ (.int .i64 (k1 : Int))).drew _ q2 5 k1 M2 q2 (by decide) ⟨⟨_, HR3.out.drewN 1⟩, HTL.out⟩ (Nat.le_succ _) HTL.out.2)
          go_wp2_with fail
          refine P2.out.mono ?_
          rintro e w4 (⟨q3, hpq3, hhq3, hbl3, hcl3, rfl, HG4, HF4⟩ | ⟨c, q3, b3, tk', hrun, rfl, HG4, HF4⟩)
          · rw [HAG.out] at HG4
            have HF4w := Lib.hid (HF3b.out.trans HF4.out)
            have t4 := Gok.txt HG4.out
            have hqs : q3 < s.size := by have := (has_lt hhq3).1; rw [tl_size] at this; exact this
            have hbq := byte_at s q3 hqs
            have e1 : (q3 : Int) < (s.size : Int) := by omega
            have e2 : (0 : Int) ≤ (q3 : Int) := by omega
            obtain ⟨b, hb⟩ : ∃ b, s.toList.getD q3 0 = b := ⟨_, rfl⟩
            rw [hb] at hbq hbl3
            obtain ⟨y3, hy⟩ : ∃ y, (s[q3]).toNat = y := ⟨_, rfl⟩
            rw [hy] at hbq
            have hact := am_more L st k1 M2 HK.out.2.2.1 q3 b hbl3
            obtain ⟨q8, hq8⟩ : ∃ x, q3 + 1 = x := ⟨_, rfl⟩
            have hq8i : (q3 : Int) + 1 = (q8 : Int) := by omega
            have hq8w : (q8 : Int) ≤ 140737488351300 := by have := HK.out.2.2.2.2.1; omega
            have HQ8 : Hid (p ≤ q8 ∧ a < q3 ∧ q3 + 1 = q8 ∧ q8 ≤ L.bytes ∧ q8 ≤ s.size) := by have := (has_lt hhq3).2; have := HI.out.pa; have := HQ2.out.1; exact ⟨by omega, by omega, hq8, by omega, by omega⟩
            have HC3 := Lib.hid (Cl.trans hcl3 HC2.out)
            have HQ3 : Hid (q2 ≤ q3) := hpq3
            have HB3 : Hid (s.toList.getD q3 0 = b ∧ has s.toList L q3 = true) := ⟨hb, hhq3⟩
            by_cases h93 : b = 93
            · subst h93
              have hy2 : y3 = 93 := by rw [hbq]; rfl
              subst hy2
              rw [if_pos rfl] at hact
              obtain ⟨⟨vo1, hR1⟩, htl1⟩ := HG4.out
              have c91 := hR1.at0.cell 9 _ rfl
              have f91 := hR1.at0.froz 9 (Nat.le_of_ble_eq_true rfl)
              rw [Nat.zero_add] at c91 f91
              have HR9 := Lib.hid (hR1.setC 9 (.int .i64 (fr : Int)) (fr' := fr) rfl)
              have HF9 := Lib.hid (HF4w.out.setG 9 (.int .i64 (fr : Int)))
              have HC9 : Hid (Cl s.toList L (after st (⟨5, k1, []⟩ :: M2)) (q3 + 1) (am st 1 0 []) p) := Cl.trans (fun r t k h => RunsT.go hhq3 (by rw [hb]; exact hact) h) HC3.out
              rw [hq8] at HR9 HC9
              clear hpq3 hhq3 hbl3 hcl3 HG4 hb hbq hR1 htl1 hq8 hact
              go_wp2_with fail
              exact bodyPost_ret (v := .tuple #[.int .i64 (q8 : Int), .bool true]) (by simp [results, Tryd.results64, go_sem]) rfl (.inl ⟨k1, M2, q8, HQ8.out.1, HC9.out, rfl, ⟨⟨_, by rw [HFR.out]; exact HR9.out⟩, HQ8.out.2.2.2⟩, HF9⟩)
            · have hn93 : ((y3 : Int) == 93) = false := u8neF h93 hbq (n := 93) rfl
              rw [if_neg h93] at hact
              by_cases h44 : b = 44
              · subst h44
                have hy2 : y3 = 44 := by rw [hbq]; rfl
                subst hy2
                rw [if_pos rfl] at hact
                have HC4 : Hid (Cl s.toList L (am st 0 k1 M2) (q3 + 1) (am st 1 0 []) p) := Cl.trans (fun r t k h => RunsT.go hhq3 (by rw [hb]; exact hact) h) HC3.out
                have P3 := Lib.hid (PS.out w4 _ (q3 + 1) 0 k1 M2 (q3 + 1) (by decide) HG4.out (Nat.le_succ _) (by have := HQ8.out; omega))
                rw [hq8] at P3 HC4
                clear hpq3 hhq3 hbl3 hcl3 hb hbq hq8 hact
                go_wp2_with fail
                refine P3.out.mono ?_
                rintro e w5 (⟨q5, hpq5, hhq5, hbl5, hcl5, rfl, HG5, HF5⟩ | ⟨c, q5, b5, tk', hrun, rfl, HG5, HF5⟩)
                · rw [HAG.out] at HG5
                  have HC5 := Lib.hid (Cl.trans hcl5 HC4.out)
                  have HI5 : Hid (HoldI s.toList L p q5 k1 0 0 93) := ⟨by have := HQ8.out; omega, by have := HQ8.out; have := HQ2.out; have := HQ3.out; omega, .inl rfl, hhq5, hbl5⟩
                  have hq5s : q5 < s.size := by have := (has_lt hhq5).1; rw [tl_size] at this; exact this
                  have HM : Hid (a < q5 ∧ q5 < s.size) := ⟨by have := HQ8.out; omega, hq5s⟩
                  have HF5w := Lib.hid (HF4w.out.trans HF5.out)
                  clear hpq5 hhq5 hbl5 hcl5 hq5s
                  go_wp2_with fail
                  go_roundw
                  case rel => exact ⟨q5, k1, 0, M2, rfl, rfl, HI5, HG5, HC5, HF5w⟩
                  case measure => have h9 := HM.out; simp [intOf]; omega
                · rw [HAG.out] at hrun HG5
                  have HRN := Lib.hid (HC4.out _ _ _ hrun)
                  clear hrun
                  go_wp2_with fail
                  exact bodyPost_ret (v := .tuple #[.int .i64 0, .bool false]) (by simp [results, Tryd.results64, go_sem]) rfl (.inr ⟨_, _, _, _, _, HRN.out, rfl, HG5, HF4w.out.trans HF5.out⟩)
              · have hn44 : ((y3 : Int) != 44) = true := neT (by intro e; exact h44 (UInt8.toNat_inj.1 (by rw [← hbq, e]; rfl)))
                rw [if_neg h44] at hact
                have HRN : Hid (RunsT s.toList L (am st 1 0 []) p (.no 9 q3 false) (q3 + 1) (am st 5 k1 M2).G.length) := HC3.out _ _ _ (RunsT.fl hhq3 (by rw [hb]; exact hact))
                rw [HAG.out] at HRN
                clear hpq3 hhq3 hbl3 hcl3 hb hbq hq8 hact
                go_wp2_with (go_at_call 45; refine (gfault16_ok HG4.out _ _ q3 rfl).mono ?_; rintro e w5 ⟨rfl, HG5, HF5⟩)
                exact bodyPost_ret (v := .tuple #[.int .i64 0, .bool false]) (by simp [results, Tryd.results64, go_sem]) rfl (.inr ⟨_, _, _, _, _, HRN.out, rfl, HG5, HF4w.out.trans HF5.out⟩)
          · rw [HAG.out] at hrun HG4
            have HRN := Lib.hid (HC2.out _ _ _ hrun)
            clear hrun
            go_wp2_with fail
            exact bodyPost_ret (v := .tuple #[.int .i64 0, .bool false]) (by simp [results, Tryd.results64, go_sem]) rfl (.inr ⟨_, _, _, _, _, HRN.out, rfl, HG4, HF3b.out.trans HF4.out⟩)
        · have HRN := Lib.hid (HC.out _ _ _ hrun)
          clear hrun
          go_wp2_with fail
          exact bodyPost_ret (v := .tuple #[.int .i64 0, .bool false]) (by simp [results, Tryd.results64, go_sem]) rfl (.inr ⟨_, _, _, _, _, HRN.out, rfl, HG2, HF.out.trans HF2.out⟩)
  · rw [HAG.out] at hrun HG1
    go_wp2_with fail
    exact bodyPost_ret (v := .tuple #[.int .i64 0, .bool false]) (by simp [results, Tryd.results64, go_sem]) rfl (.inr ⟨_, _, _, _, _, hrun, rfl, HG1, HF1.out.trans HF2.out⟩)
end Jr
end Go.Proofs.YtilfidcomeandaaDoor
namespace Go.Proofs.YtilfidcomeandaaDoor
open Go.RowKit
set_option linter.unusedVariables false
set_option linter.unusedSimpArgs false
namespace Jr
open Js
open Dr (Rs Lm has lack lackE lackP)
/-- in an object with k values so far, which stand in M, with these names -/
def om (st : St) (nx k : Nat) (xs : List (List UInt8)) (M : List Vl) : St := { nx := nx, hand := .none, named := none, cur := M, G := ⟨st.cur, k, some xs⟩ :: bump st.G }
/-- within a name that begins at p -/
def nm (st : St) (k : Nat) (xs : List (List UInt8)) (M : List Vl) (p : Nat) : St := { nx := 2, hand := .str s0, named := some p, cur := M ++ [⟨4, 0, []⟩], G := ⟨st.cur, k + 1, some xs⟩ :: bump st.G }
theorem om_hold (st : St) (hh : st.hand = .none) (hn : st.named = none) : st.hold (some []) = om st 3 0 [] [] := by
  obtain ⟨nx, hd, nm, cur, G⟩ := st
  cases hh; cases hn
  rfl
theorem om_G (st : St) (nx k : Nat) (xs : List (List UInt8)) (M : List Vl) : (om st nx k xs M).G.length = st.G.length + 1 := by
  show (bump st.G).length + 1 = _
  rw [bump_length]
theorem nm_G (st : St) (k : Nat) (xs : List (List UInt8)) (M : List Vl) (p : Nat) : (nm st k xs M p).G.length = st.G.length + 1 := by
  show (bump st.G).length + 1 = _
  rw [bump_length]
theorem om_size (st : St) (nx k : Nat) (xs : List (List UInt8)) (M : List Vl) : (om st nx k xs M).size = st.size + (M.length + 1) := by
  show (flat (bump st.G) st.cur ++ hold ⟨st.cur, k, some xs⟩ :: M).length = _
  rw [List.length_append, flat_bump_length]; rfl
theorem om_after (st : St) (nx k : Nat) (xs : List (List UInt8)) (M N : List Vl) : after (om st nx k xs M) N = om st 5 (k + 1) xs (M ++ N) := rfl
theorem om_close (st : St) (nx k : Nat) (xs : List (List UInt8)) (M : List Vl) (hn : st.named = none) : (om st nx k xs M).close = after st (⟨6, k, []⟩ :: M) := by
  obtain ⟨nx, hd, nm, cur, G⟩ := st
  cases hn
  rfl
theorem om_first (L : Lm) (st : St) (k : Nat) (xs : List (List UInt8)) (M : List Vl) (hn : st.named = none) (p : Nat) : (om st 3 k xs M).act L 125 p = .go (after st (⟨6, k, []⟩ :: M)) := by
  rw [act_step rfl (by decide), ← om_close st 3 k xs M hn]
  rfl
theorem om_more (L : Lm) (st : St) (k : Nat) (xs : List (List UInt8)) (M : List Vl) (hn : st.named = none) (p : Nat) (b : UInt8) (hb : Js.blank b = false) :
    (om st 5 k xs M).act L b p = if b = 125 then .go (after st (⟨6, k, []⟩ :: M)) else if b = 44 then .go (om st 2 k xs M) else .fl 9 p := by
  rw [act_step rfl hb]
  show (om st 5 k xs M).goOn b p = _
  rw [St.goOn, if_pos (by show true = true; rfl)]
  by_cases h1 : b = 125
  · rw [if_pos h1, if_pos h1, om_close st 5 k xs M hn]
  · rw [if_neg h1, if_neg h1, St.pass]
    by_cases h2 : b = 44
    · rw [if_pos (decide_eq_true h2), if_pos h2]; rfl
    · rw [if_neg (by rw [decide_eq_false h2]; decide), if_neg h2]
theorem om_colon (L : Lm) (st : St) (k : Nat) (xs : List (List UInt8)) (M : List Vl) (p : Nat) (b : UInt8) (hb : Js.blank b = false) :
    (om st 4 k xs M).act L b p = if b = 58 then .go (om st 0 k xs M) else .fl 9 p := by
  rw [act_step rfl hb]
  show (om st 4 k xs M).pass (decide (b = 58)) 0 p = _
  rw [St.pass]
  by_cases h2 : b = 58
  · rw [if_pos (decide_eq_true h2), if_pos h2]; rfl
  · rw [if_neg (by rw [decide_eq_false h2]; decide), if_neg h2]
/-- a name begins, or there is none -/
theorem om_name (L : Lm) (st : St) (nx k : Nat) (xs : List (List UInt8)) (M : List Vl) (p : Nat) (b : UInt8) (hb : Js.blank b = false) (hnx : nx = 2 ∨ (nx = 3 ∧ b ≠ 125)) :
    ∃ nx', (om st nx k xs M).act L b p = if b = 34 then (if L.items ≤ (om st nx k xs M).size then .fl 10 p else .go { nm st k xs M p with nx := nx' }) else .fl 9 p := by
  refine ⟨nx, ?_⟩
  rw [act_step rfl hb]
  have h1 : (om st nx k xs M).step L b p = (om st nx k xs M).name L b p := by
    rcases hnx with rfl | ⟨rfl, h⟩
    · rfl
    · show (if b = 125 then _ else _) = _
      rw [if_neg h]
  rw [h1, St.name]
  by_cases h2 : b = 34
  · rw [if_pos h2, if_pos h2, St.add]
    rfl
  · rw [if_neg h2, if_neg h2]
theorem nm_end (st : St) (nx k : Nat) (xs : List (List UInt8)) (M : List Vl) (p : Nat) (Y : List UInt8) (L : Lm) (q : Nat) :
    (sx { nm st k xs M p with nx := nx } .plain Y).act L 34 q = if Y ∈ xs then .fl 9 p else .go (om st 4 (k + 1) (xs ++ [Y]) (M ++ [⟨4, 0, Y⟩])) := by
  show (sx { nm st k xs M p with nx := nx } .plain Y).endStr Y = _
  rw [St.endStr]
  show (if Y ∈ xs then Out.fl 9 p else .go { sx { nm st k xs M p with nx := nx } .plain Y with cur := withText Y (M ++ [⟨4, 0, []⟩]), hand := .none, named := none, nx := 4, G := addName Y (nm st k xs M p).G }) = _
  rw [withText_snoc]
  rfl
def RetMem (st : St) (nx k : Nat) (ys : List ByteArray) (M : List Vl) (p dp : Nat) (g : Nat) (s : ByteArray) (L : Lm) (ro : Int) (Q : List Vl) (w : World) (e : Ending) (w' : World) : Prop :=
  (∃ (Y : ByteArray) (N : List Vl) (q : Nat), p < q ∧ Cl s.toList L (om st 5 (k + 1 + 1) (ys.map ByteArray.toList ++ [Y.toList]) (M ++ [⟨4, 0, Y.toList⟩] ++ N)) q (om st nx k (ys.map ByteArray.toList) M) p ∧ GYes (.tuple #[.string Y, .int .i64 (q : Int), .bool true]) g s L ro (Q ++ [⟨4, 0, Y.toList⟩] ++ N) dp q w e w') ∨
  (∃ (Y : ByteArray) (c : Int) (q : Nat) (b : Bool) (tk kk : Nat), RunsT s.toList L (om st nx k (ys.map ByteArray.toList) M) p (.no c q b) tk kk ∧ GNay (.tuple #[.string Y, .int .i64 0, .bool false]) g s L ro c q b tk kk w e w')
theorem str_ne : (9 : Nat) ≠ 61 := by decide
theorem mem_map_tl (ys : List ByteArray) (Y : ByteArray) : Y.toList ∈ ys.map ByteArray.toList ↔ Y ∈ ys := by
  constructor
  · intro h
    obtain ⟨z, hz, he⟩ := List.mem_map.1 h
    rw [← tl_inj he]; exact hz
  · exact fun h => List.mem_map_of_mem h
set_option maxRecDepth 100000 in
set_option maxHeartbeats 6400000 in
theorem member_any {m0 : Nat} {g : Nat} {s : ByteArray} {L : Lm} {ro : Int} (IH : ValAll g s L ro m0) {w : World} {Q : List Vl} {tk : Nat} (st : St) (nx k : Nat) (ys : List ByteArray) (M : List Vl) (hsz : Q.length = (om st nx k (ys.map ByteArray.toList) M).size) (dp : Nat) (hdp : st.G.length + 1 = dp) (hG : Gok w g s L ro Q dp tk) (p : Nat) (hs : s.size ≤ 140737488351232) (htk : tk ≤ p + 1) (hh : has s.toList L p = true) (hbl : Js.blank (s.toList.getD p 0) = false) (hnx : nx = 2 ∨ (nx = 3 ∧ s.toList.getD p 0 ≠ 125)) (hpm : s.size - p ≤ m0 + 1) (hL : L.bytes ≤ 262144) (hiL : L.items ≤ 4096)
    (vn : Value) (B : Nat) (hgB : g < B) (hyl : ys.length ≤ 140737488351232) (hN : w.ownsRow B 9 1 vn ys.length (scells ys)) :
    Calls Tryd.prog 80 #[.pointer (some ⟨g, 0, none⟩), .int .i64 (p : Int), .int .i64 (dp : Int), vn] w (RetMem st nx k ys M p dp g s L ro Q w) := by
  obtain ⟨nx', hact⟩ := om_name L st nx k (ys.map ByteArray.toList) M p (s.toList.getD p 0) hbl hnx
  have HIH := Lib.hid IH
  have HAG : Hid (∀ nx k xs M, (om st nx k xs M).G.length = dp) := fun nx k xs M => by rw [om_G, hdp]
  have PS := Lib.hid (fun (w' : World) (O' : List Vl) (tk nx k : Nat) (xs : List (List UInt8)) (M : List Vl) (q : Nat) (hnx : nx ≠ 6) (h : Gok w' g s L ro O' dp tk) (h1 : tk ≤ q + 1) (h2 : q ≤ s.size) => pass_any (om st nx k xs M) rfl hnx (by rw [HAG.out]; exact h) q hs h1 h2)
  have I34 := Lib.hid (is_any hG p 34 hs htk)
  rw [show (((34 : UInt8).toNat : Nat) : Int) = 34 from rfl] at I34
  have IS := Lib.hid (fun (w' : World) (O' : List Vl) (q : Nat) (h : Gok w' g s L ro O' dp (q + 1)) => is_any h q 58 hs (Nat.le_refl _))
  rw [show (((58 : UInt8).toNat : Nat) : Int) = 58 from rfl] at IS
  obtain ⟨st1, hst1⟩ : ∃ x, ({ nm st k (ys.map ByteArray.toList) M p with nx := nx' } : St) = x := ⟨_, rfl⟩
  have hst1G : st1.G.length = dp := by rw [← hst1, ← hdp]; exact nm_G st k _ M p
  have hpB : p < L.bytes := (has_lt hh).2
  have WD := Lib.hid (fun (w' : World) (O' : List Vl) (tk : Nat) (h : Gok w' g s L ro O' dp tk) (h1 : tk ≤ p + 1) => rtext_any st1 (by rw [hst1G]; exact h) p hs (by omega) hL (by omega))
  have HE := Lib.hid (fun (Y : List UInt8) (q : Nat) => nm_end st nx' k (ys.map ByteArray.toList) M p Y L q)
  rw [hst1] at HE hact
  obtain ⟨n, hn⟩ : ∃ n, Q.length = n := ⟨_, rfl⟩
  rw [← hsz, hn] at hact
  have HACT := Lib.hid hact
  have HK : Hid (Q.length = n ∧ n = st.size + (M.length + 1) ∧ has s.toList L p = true ∧ s.size - p ≤ m0 + 1 ∧ s.size ≤ 140737488351232 ∧ L.items ≤ 4096 ∧ g < B ∧ st1.G.length = dp ∧ sx st1 .plain [] = st1) := ⟨hn, by rw [← hn, hsz, om_size], hh, hpm, hs, hiL, hgB, hst1G, by rw [← hst1]; rfl⟩
  obtain ⟨ly, hly⟩ : ∃ n, ys.length = n := ⟨_, rfl⟩
  rw [hly] at hN
  have HLY := Lib.hid hly
  obtain ⟨aN, cN, rfl, hgN⟩ := own_form hN
  have HN := Lib.hid hN
  have HGN := Lib.hid hgN
  rw [hly] at hyl
  have HYL := Lib.hid hyl
  clear IH hG htk hh hbl hnx hpm hL hiL hgB hN hsz hdp hact hst1 hst1G hn hs hpB hly hgN hyl
  go_enter Tryd.func80, Tryd.ntmps80
  go_wp2_with fail
  refine I34.out.mono ?_
  rintro e w1 (⟨hh1, hb34, rfl, HG1, HF1⟩ | ⟨hh1, hb34, rfl, HG1, HF1⟩ | ⟨hh1, rfl, HG1, HF1⟩)
  · have hact := HACT.out
    rw [if_pos hb34] at hact
    obtain ⟨⟨vo, hR⟩, htl⟩ := HG1.out
    obtain ⟨aV, cV, rfl, -⟩ := own_form hR.out
    rw [HK.out.1] at hR
    have HR := Lib.hid hR
    have HTL := Lib.hid htl
    have c2 := hR.at0.cell 2 _ rfl
    have c11 := hR.at0.cell 11 _ rfl
    have HB : Hid (s.toList.getD p 0 = 34) := hb34
    clear hR htl hb34 I34
    by_cases hi : L.items ≤ n
    · have e0 : (L.items : Int) ≤ (n : Int) := by omega
      rw [if_pos hi] at hact
      have HRN : Hid (RunsT s.toList L (om st nx k (ys.map ByteArray.toList) M) p (.no 10 p false) (p + 1) (om st nx k (ys.map ByteArray.toList) M).G.length) := RunsT.fl hh1 hact
      rw [HAG.out] at HRN
      clear hact hi hh1
      go_wp2_with fail
      go_quiet (fail)
      have HG2 := Lib.hid (HG1.out.drewN nq)
      go_wp2_with (go_at_call 45; refine (gfault16_ok HG2.out _ _ p rfl).mono ?_; rintro e w3 ⟨rfl, HG3, HF3⟩)
      exact bodyPost_ret (v := .tuple #[.string ⟨#[]⟩, .int .i64 0, .bool false]) (by simp [results, Tryd.results80, go_sem]) rfl (.inr ⟨_, _, _, _, _, _, HRN.out, rfl, HG3, (HF1.out.trans (Fg.drewN g w1 _)).trans HF3.out⟩)
    · have e0 : ¬ (L.items : Int) ≤ (n : Int) := by omega
      rw [if_neg hi] at hact
      have HC1 : Hid (Cl s.toList L (sx st1 .plain []) (p + 1) (om st nx k (ys.map ByteArray.toList) M) p) := by
        rw [show sx st1 .plain [] = st1 from HK.out.2.2.2.2.2.2.2.2]
        exact fun r t k h => RunsT.go hh1 hact h
      have HNI : Hid (n < L.items) := Nat.lt_of_not_le hi
      clear hact hi hh1
      go_wp2_with fail
      go_quiet (fail)
      have HG2 := Lib.hid (HG1.out.drewN nq)
      have HR2 := Lib.hid (HR.out.drewN nq)
      have HF2 := Lib.hid (HF1.out.trans (Fg.drewN g w1 nq))
      have HN2 := Lib.hid (HF2.out.row HN.out str_ne HK.out.2.2.2.2.2.2.1)
      generalize w1.drewN nq = w2 at *
      clear c2 c11 HR HG1 HF1
      have WD2 := Lib.hid (WD.out w2 Q (p + 1) HG2.out (Nat.le_refl _))
      go_wp2_with fail
      refine WD2.out.mono ?_
      rintro e w3 (⟨Y, q, hpq, hhq, hbq, hYs, hcl, rfl, HG3, HF3⟩ | ⟨c, q, b, tk', hrun, rfl, HG3, HF3⟩)
      · rw [HK.out.2.2.2.2.2.2.2.1] at HG3
        have HF3w := Lib.hid (HF2.out.trans HF3.out)
        have HN3 := Lib.hid (HF3.out.row HN2.out str_ne HK.out.2.2.2.2.2.2.1)
        have HCQ := Lib.hid (Cl.trans hcl HC1.out)
        have HQ : Hid (p + 1 ≤ q ∧ has s.toList L q = true ∧ s.toList.getD q 0 = 34 ∧ q < s.size) := ⟨hpq, hhq, hbq, by have := (has_lt hhq).1; rw [tl_size] at this; exact this⟩
        obtain ⟨q1, hq1⟩ : ∃ x, q + 1 = x := ⟨_, rfl⟩
        rw [hq1] at HG3 ⊢
        have HQ1 := Lib.hid hq1
        have HYS := Lib.hid hYs
        clear hcl hpq hhq hbq hq1 hYs WD2 HF3 HN2 HG2 HR2
        go_wp2_with fail
        go_loopw [14] (fun vi wr => ∃ i : Nat, vi = .int .i64 (i : Int) ∧ i ≤ ly ∧ Hid (∀ j, j < i → ∀ z, ys[j]? = some z → z ≠ Y) ∧ w3 = wr) (fun vi _ => ly - (intOf vi).toNat)
        case atStart => exact ⟨0, rfl, Nat.zero_le _, fun j hj => absurd hj (Nat.not_lt_zero _), rfl⟩
        case round =>
          obtain ⟨i, rfl, hil, HNE, rfl⟩ := hrel
          by_cases hlt : i < ly
          · have e1 : (i : Int) < (ly : Int) := by omega
            have e2 : (0 : Int) ≤ (i : Int) := by omega
            have e3 : (i : Int) ≤ 140737488351232 := by have := HYL.out; omega
            obtain ⟨hb, rfl⟩ := HGN.out (by omega)
            obtain ⟨z, hz⟩ : ∃ z, ys[i]? = some z := ⟨ys[i]'(by rw [HLY.out]; exact hlt), List.getElem?_eq_getElem _⟩
            have ci := scell HN3.out i z hz
            by_cases hzy : z = Y
            · obtain rfl : Y = z := hzy.symm
              have hact : (sx st1 .plain Y.toList).act L 34 q = .fl 9 p := by rw [HE.out, if_pos ((mem_map_tl ys Y).2 (List.mem_of_getElem? hz))]
              have HRN : Hid (RunsT s.toList L (om st nx k (ys.map ByteArray.toList) M) p (.no 9 p false) (q + 1) (sx st1 .plain Y.toList).G.length) := HCQ.out _ _ _ (RunsT.fl HQ.out.2.1 (by rw [HQ.out.2.2.1]; exact hact))
              rw [show (sx st1 .plain Y.toList).G.length = dp from HK.out.2.2.2.2.2.2.2.1, HQ1.out] at HRN
              clear hact hz hlt hil hzy
              go_wp2_with (go_at_call 45; refine (gfault16_ok HG3.out _ _ p rfl).mono ?_; rintro e w4 ⟨rfl, HG4, HF4⟩)
              exact bodyPost_ret (v := .tuple #[.string ⟨#[]⟩, .int .i64 0, .bool false]) (by simp [results, Tryd.results80, go_sem]) rfl (.inr ⟨_, _, _, _, _, _, HRN.out, rfl, HG4, HF3w.out.trans HF4.out⟩)
            · have hne : (z.toList == Y.toList) = false := by rw [beq_eq_false_iff_ne]; exact fun h => hzy (tl_inj h)
              have HNE2 : Hid (∀ j, j < i + 1 → ∀ z, ys[j]? = some z → z ≠ Y) := fun j hj z2 hz2 => by
                by_cases hji : j = i
                · subst hji; rw [hz] at hz2; injection hz2 with hz2; rw [← hz2]; exact hzy
                · exact HNE.out j (by omega) z2 hz2
              have HLT := Lib.hid hlt
              clear hz hzy hlt hil
              go_wp2_with fail
              go_roundw
              case rel => exact ⟨i + 1, by go_num, HLT.out, HNE2, (by first | rfl | trivial)⟩
              case measure => have h9 := HLT.out; simp [intOf]; omega
          · obtain rfl : i = ly := by omega
            have e1 : ¬ (i : Int) < (i : Int) := by omega
            have hnm : ¬ Y.toList ∈ ys.map ByteArray.toList := fun h => by
              obtain ⟨j, hj, hjy⟩ := List.getElem_of_mem ((mem_map_tl ys Y).1 h)
              exact HNE.out j (by rw [← HLY.out]; exact hj) _ (List.getElem?_eq_getElem hj) hjy
            obtain ⟨xs, hxs⟩ : ∃ x, ys.map ByteArray.toList ++ [Y.toList] = x := ⟨_, rfl⟩
            obtain ⟨M1, hM1⟩ : ∃ x, M ++ [(⟨4, 0, Y.toList⟩ : Vl)] = x := ⟨_, rfl⟩
            have hact : (sx st1 .plain Y.toList).act L 34 q = .go (om st 4 (k + 1) xs M1) := by rw [HE.out, if_neg hnm, hxs, hM1]
            have HC4 : Hid (Cl s.toList L (om st 4 (k + 1) xs M1) (q + 1) (om st nx k (ys.map ByteArray.toList) M) p) := Cl.trans (fun r t k h => RunsT.go HQ.out.2.1 (by rw [HQ.out.2.2.1]; exact hact) h) HCQ.out
            rw [HQ1.out] at HC4
            have HM1 : Hid (M ++ [(⟨4, 0, Y.toList⟩ : Vl)] = M1 ∧ M1.length = M.length + 1 ∧ ys.map ByteArray.toList ++ [Y.toList] = xs) := ⟨hM1, by rw [← hM1, List.length_append]; rfl, hxs⟩
            obtain ⟨⟨vo3, hR3⟩, htl3⟩ := HG3.out
            obtain ⟨aV3, cV3, rfl, -⟩ := own_form hR3.out
            rw [HK.out.1] at hR3
            have c113 := hR3.at0.cell 11 _ rfl
            have HR3 := Lib.hid hR3
            have HTL3 := Lib.hid htl3
            clear hnm hxs hM1 hact hR3 htl3 hil hlt
            go_upto_region 14 with (at_builtin; refine wpList_append_vl rfl (.tmp 62) (.tmp 65) rfl (g + 1) (.slice aV3 n cV3) n Q rfl (by have h9 := HR3.out.out; rw [HK.out.1] at h9; exact h9.alloc _) w3.heap.size 1 (⟨4, 0, Y.toList⟩ : Vl) rfl (at_cellsW (cs := [Value.int .i64 4, Value.int .i64 0, Value.string Y]) (by show [Value.int .i64 4, Value.int .i64 0, Value.string ⟨Y.toList.toArray⟩] = _; rw [show (⟨Y.toList.toArray⟩ : ByteArray) = Y from tl_inj (tl_mk _)]) (At.ofAlloc w3 #[Value.int .i64 4, Value.int .i64 0, Value.string Y] 61)) (by have := HNI.out; have := HK.out.2.2.2.2.2.1; omega) (by have := HR3.out.lt; simp; omega) ?_; intro v5 w5 hown5 hgrow5; obtain ⟨a5, c5, hv5, -⟩ := own_form hown5; subst hv5; have hAt5 := At.grown ((HR3.out.alloc (Obj.cells #[Value.int .i64 4, Value.int .i64 0, Value.string Y] 61)).at0) hgrow5 (HR3.out.alloc (Obj.cells #[Value.int .i64 4, Value.int .i64 0, Value.string Y] 61)).lt (fun e => by have := (HR3.out.out.lt g e).1; omega); have f115 := hAt5.froz 11 (by show 11 < 12; decide); have c115 := hAt5.cell 11 _ rfl; have HO5 := Lib.hid hown5; have HGR := Lib.hid hgrow5; clear hAt5 hown5 hgrow5)
            obtain ⟨zY, hzY⟩ : ∃ x, Obj.cells #[Value.int .i64 4, Value.int .i64 0, Value.string Y] 61 = x := ⟨_, rfl⟩
            rw [hzY] at HGR
            obtain ⟨Q1, hQ1⟩ : ∃ x, Q ++ [(⟨4, 0, Y.toList⟩ : Vl)] = x := ⟨_, rfl⟩
            have HQ1E : Hid (Q ++ [(⟨4, 0, Y.toList⟩ : Vl)] = Q1 ∧ Q1.length = n + 1) := ⟨hQ1, by rw [← hQ1, List.length_append, HK.out.1]; rfl⟩
            have HR6 : Hid (Rg (w5.setCell ⟨g, 11, none⟩ (.slice a5 (n + 1) c5)) g s L ro Q1 (.slice a5 (n + 1) c5) 0 0 q1 dp false) := by
              rw [← HQ1E.out.1]
              exact (HR3.out.alloc zY).push (O' := Q ++ [⟨4, 0, Y.toList⟩]) HGR.out (by rw [List.length_append, HK.out.1]; exact HO5.out)
            have HF6 : Hid (Fg g w (w5.setCell ⟨g, 11, none⟩ (.slice a5 (n + 1) c5))) := by
              have h8 := (HF3w.out.alloc (Nat.le_of_lt HR3.out.lt) zY).vals (HR3.out.alloc zY).out (Nat.le_of_lt (HR3.out.alloc zY).lt) HGR.out
              exact h8.push (by have h9 := c115; rw [Nat.zero_add] at h9; exact h9) (Nat.le_succ n)
            generalize w5.setCell ⟨g, 11, none⟩ (.slice a5 (n + 1) c5) = w6 at HR6 HF6 ⊢
            have P4 := Lib.hid (PS.out w6 Q1 q1 4 (k + 1) xs M1 q1 (by decide) ⟨⟨_, HR6.out⟩, HTL3.out⟩ (Nat.le_succ _) HTL3.out.2)
            clear hzY hQ1 f115 c115 c113 HGR HO5 HR3 HTL3 HN3 HF3w
            go_wp2_with fail
            refine P4.out.mono ?_
            rintro e w7 (⟨q7, hpq7, hhq7, hbl7, hcl7, rfl, HG7, HF7⟩ | ⟨c, q7, b7, tk', hrun, rfl, HG7, HF7⟩)
            · rw [HAG.out] at HG7
              have HF7w := Lib.hid (HF6.out.trans HF7.out)
              have hact := om_colon L st (k + 1) xs M1 q7 _ hbl7
              have HC7 := Lib.hid (Cl.trans hcl7 HC4.out)
              have I58 := Lib.hid (IS.out w7 Q1 q7 HG7.out)
              have HQ7 : Hid (q1 ≤ q7 ∧ has s.toList L q7 = true) := ⟨hpq7, hhq7⟩
              have HACT7 := Lib.hid hact
              clear hact hpq7 hhq7 hbl7 hcl7 P4 HF6 HF7 HR6
              go_wp2_with fail
              refine I58.out.mono ?_
              rintro e w8 (⟨hh8, hb8, rfl, HG8, HF8⟩ | ⟨hh8, hb8, rfl, HG8, HF8⟩ | ⟨hh8, rfl, HG8, HF8⟩)
              · have hact := HACT7.out
                rw [if_pos hb8] at hact
                have HC8 : Hid (Cl s.toList L (om st 0 (k + 1) xs M1) (q7 + 1) (om st nx k (ys.map ByteArray.toList) M) p) := Cl.trans (fun r t k h => RunsT.go hh8 hact h) HC7.out
                have HF8w := Lib.hid (HF7w.out.trans HF8.out)
                have hq7s : q7 < s.size := by have := (has_lt hh8).1; rw [tl_size] at this; exact this
                obtain ⟨q8, hq8⟩ : ∃ x, q7 + 1 = x := ⟨_, rfl⟩
                have hq8i : (q7 : Int) + 1 = (q8 : Int) := by omega
                have hq8w : (q8 : Int) ≤ 140737488351300 := by have := HK.out.2.2.2.2.1; omega
                have HQ8 : Hid (q7 + 1 = q8 ∧ q7 < s.size) := ⟨hq8, hq7s⟩
                have P8 := Lib.hid (PS.out w8 Q1 (q7 + 1) 0 (k + 1) xs M1 (q7 + 1) (by decide) HG8.out (Nat.le_succ _) hq7s)
                rw [hq8] at P8 HC8
                clear hact hh8 hb8 hq7s hq8 I58 HACT7 HC7
                go_wp2_with fail
                refine P8.out.mono ?_
                rintro e w9 (⟨q9, hpq9, hhq9, hbl9, hcl9, rfl, HG9, HF9⟩ | ⟨c, q9, b9, tk', hrun, rfl, HG9, HF9⟩)
                · rw [HAG.out] at HG9
                  have HF9w := Lib.hid (HF8w.out.trans HF9.out)
                  have HC9 := Lib.hid (Cl.trans hcl9 HC8.out)
                  have hpq : p + 1 ≤ q9 := by have := HQ.out.1; have := HQ1.out; have := HQ7.out.1; have := HQ8.out.1; omega
                  have VI := Lib.hid (HIH.out w9 Q1 (q9 + 1) q9 (om st 0 (k + 1) xs M1) (by have := HK.out.2.2.2.1; omega) rfl rfl (.inl rfl) (by rw [HQ1E.out.2, om_size, HM1.out.2.1, HK.out.2.1]; omega) hhq9 hbl9 (by rw [HAG.out]; exact HG9.out) (Nat.le_refl _))
                  rw [HAG.out] at VI
                  have HPQ := Lib.hid hpq
                  clear hpq hhq9 hbl9 hcl9 hpq9 P8
                  go_wp2_with fail
                  refine VI.out.mono ?_
                  rintro e w10 (⟨N, q10, haq, hcl, rfl, HG10, HF10⟩ | ⟨c, q10, b10, tk', kk, hrun, rfl, HG10, HF10⟩)
                  · rw [HAG.out] at HG10
                    rw [om_after] at hcl
                    have HCX := Lib.hid (Cl.trans hcl HC9.out)
                    have HPX : Hid (p < q10) := by have := HPQ.out; show p < q10; omega
                    clear hcl haq
                    go_wp2_with fail
                    refine bodyPost_ret (v := .tuple #[.string Y, .int .i64 (q10 : Int), .bool true]) (by simp [results, Tryd.results80, go_sem]) rfl (.inl ⟨Y, N, q10, HPX.out, ?_, rfl, ?_, HF9w.out.trans HF10.out⟩)
                    · rw [HM1.out.1, HM1.out.2.2]; exact HCX.out
                    · rw [HQ1E.out.1]; exact HG10
                  · have HRN := Lib.hid (HC9.out _ _ _ hrun)
                    clear hrun
                    go_wp2_with fail
                    exact bodyPost_ret (v := .tuple #[.string Y, .int .i64 0, .bool false]) (by simp [results, Tryd.results80, go_sem]) rfl (.inr ⟨_, _, _, _, _, _, HRN.out, rfl, HG10, HF9w.out.trans HF10.out⟩)
                · rw [HAG.out] at hrun HG9
                  have HRN := Lib.hid (HC8.out _ _ _ hrun)
                  clear hrun
                  go_wp2_with fail
                  exact bodyPost_ret (v := .tuple #[.string ⟨#[]⟩, .int .i64 0, .bool false]) (by simp [results, Tryd.results80, go_sem]) rfl (.inr ⟨_, _, _, _, _, _, HRN.out, rfl, HG9, HF8w.out.trans HF9.out⟩)
              · have hact := HACT7.out
                rw [if_neg hb8] at hact
                have HRN : Hid (RunsT s.toList L (om st nx k (ys.map ByteArray.toList) M) p (.no 9 q7 false) (q7 + 1) (om st 4 (k + 1) xs M1).G.length) := HC7.out _ _ _ (RunsT.fl hh8 hact)
                rw [HAG.out] at HRN
                clear hact hh8 hb8
                go_wp2_with fail
                exact bodyPost_ret (v := .tuple #[.string ⟨#[]⟩, .int .i64 0, .bool false]) (by simp [results, Tryd.results80, go_sem]) rfl (.inr ⟨_, _, _, _, _, _, HRN.out, rfl, HG8, HF7w.out.trans HF8.out⟩)
              · exact absurd hh8 (by rw [HQ7.out.2]; decide)
            · rw [HAG.out] at hrun HG7
              have HRN := Lib.hid (HC4.out _ _ _ hrun)
              clear hrun
              go_wp2_with fail
              exact bodyPost_ret (v := .tuple #[.string ⟨#[]⟩, .int .i64 0, .bool false]) (by simp [results, Tryd.results80, go_sem]) rfl (.inr ⟨_, _, _, _, _, _, HRN.out, rfl, HG7, HF6.out.trans HF7.out⟩)
      · rw [HK.out.2.2.2.2.2.2.2.1] at hrun HG3
        have HRN := Lib.hid (HC1.out _ _ _ hrun)
        clear hrun
        go_wp2_with fail
        exact bodyPost_ret (v := .tuple #[.string ⟨#[]⟩, .int .i64 0, .bool false]) (by simp [results, Tryd.results80, go_sem]) rfl (.inr ⟨_, _, _, _, _, _, HRN.out, rfl, HG3, HF2.out.trans HF3.out⟩)
  · have hact := HACT.out
    rw [if_neg hb34] at hact
    have HRN : Hid (RunsT s.toList L (om st nx k (ys.map ByteArray.toList) M) p (.no 9 p false) (p + 1) (om st nx k (ys.map ByteArray.toList) M).G.length) := RunsT.fl hh1 hact
    rw [HAG.out] at HRN
    clear hact hh1 hb34
    go_wp2_with fail
    exact bodyPost_ret (v := .tuple #[.string ⟨#[]⟩, .int .i64 0, .bool false]) (by simp [results, Tryd.results80, go_sem]) rfl (.inr ⟨_, _, _, _, _, _, HRN.out, rfl, HG1, HF1⟩)
  · exact absurd hh1 (by rw [HK.out.2.2.1]; decide)
end Jr
end Go.Proofs.YtilfidcomeandaaDoor
namespace Go.Proofs.YtilfidcomeandaaDoor
open Go.RowKit
set_option linter.unusedVariables false
set_option linter.unusedSimpArgs false
namespace Jr
open Js
open Dr (Rs Lm has lack lackE lackP)
set_option maxRecDepth 100000 in
set_option maxHeartbeats 6400000 in
theorem obj_any {m0 : Nat} {g : Nat} {s : ByteArray} {L : Lm} {ro : Int} (IH : ValAll g s L ro m0) {w : World} {O : List Vl} {tk : Nat} (st : St) (hnm : st.named = none) (me : Nat) (hme : O.length = me) (hsz : O.length = st.size) (hm4 : me ≤ 4096) (hG : Gok w g s L ro (O ++ [⟨6, 0, []⟩]) st.G.length tk) (p : Nat) (hs : s.size ≤ 140737488351232) (htk : tk ≤ p + 1) (hp : p ≤ s.size) (hpm : s.size - p ≤ m0) (hf : st.G.length ≤ 100) (hL : L.bytes ≤ 262144) (hiL : L.items ≤ 4096) (dp : Nat) (hdp : st.G.length + 1 = dp) :
    Calls Tryd.prog 63 #[.pointer (some ⟨g, 0, none⟩), .int .i64 (p : Int), .int .i64 (me : Int), .int .i64 (dp : Int)] w (RetHold st (om st 3 0 [] []) p 6 g s L ro O w) := by
  have HIH := Lib.hid IH
  have HAG : Hid (∀ nx k xs M, (om st nx k xs M).G.length = dp) := fun nx k xs M => by rw [om_G, hdp]
  have HLL : Hid (L.bytes ≤ 262144 ∧ L.items ≤ 4096) := ⟨hL, hiL⟩
  have HDP := Lib.hid hdp
  have PS := Lib.hid (fun (w' : World) (O' : List Vl) (tk nx k : Nat) (xs : List (List UInt8)) (M : List Vl) (q : Nat) (hnx : nx ≠ 6) (h : Gok w' g s L ro O' dp tk) (h1 : tk ≤ q + 1) (h2 : q ≤ s.size) => pass_any (om st nx k xs M) rfl hnx (by rw [HAG.out]; exact h) q hs h1 h2)
  have HK : Hid (O.length = me ∧ O.length = st.size ∧ st.named = none ∧ s.size - p ≤ m0 ∧ s.size ≤ 140737488351232 ∧ me ≤ 4096) := ⟨hme, hsz, hnm, hpm, hs, hm4⟩
  obtain ⟨fr, hfr⟩ : ∃ n, st.G.length = n := ⟨_, rfl⟩
  rw [hfr] at hG hf hdp
  have HFR := Lib.hid hfr
  have hfd : (fr : Int) + 1 = (dp : Int) := by omega
  have hfd2 : (dp : Int) - 1 = (fr : Int) := by omega
  have hfd3 : (fr : Int) ≤ 100 := by omega
  obtain ⟨B, hB⟩ : ∃ B, w.heap.size = B := ⟨_, rfl⟩
  have HBB : Hid (w.heap.size = B ∧ g < B) := ⟨hB, by rw [← hB]; exact hG.lt⟩
  obtain ⟨i0, hi0, hqS⟩ := Option.map_eq_some_iff.1 infoS
  simp only [Prod.mk.injEq] at hqS
  have HI0 := Lib.hid (And.intro hi0 hqS)
  obtain ⟨⟨vo, hR⟩, htl⟩ := hG
  have c9 := hR.at0.cell 9 _ rfl
  have f9 := hR.at0.froz 9 (Nat.le_of_ble_eq_true rfl)
  rw [Nat.zero_add] at c9 f9
  have HR1 := Lib.hid (hR.setC 9 (.int .i64 (dp : Int)) (fr' := dp) rfl)
  have HF1 : Hid (Fg g w (w.setCell ⟨g, 9, none⟩ (.int .i64 (dp : Int)))) := (Fg.refl g w).setG 9 _
  have HP1 := Lib.hid (PS.out _ _ tk 3 0 [] [] p (by decide) ⟨⟨vo, HR1.out⟩, htl⟩ htk hp)
  clear hR htl hs htk hp hpm hm4 hsz hme hnm IH hfr hf hdp hL hiL hB hi0 hqS
  go_enter Tryd.func63, Tryd.ntmps63
  go_wp2_with fail
  refine HP1.out.mono ?_
  rintro e w1 (⟨q, hpq, hhq, hblq, hcl, rfl, HG1, HF2⟩ | ⟨c, q, b, tk', hrun, rfl, HG1, HF2⟩)
  · rw [HAG.out] at HG1
    have HFw := Lib.hid (HF1.out.trans HF2.out)
    have t0 := Gok.txt HG1.out
    have hqs : q < s.size := by have := (has_lt hhq).1; rw [tl_size] at this; exact this
    have hbq := byte_at s q hqs
    have e1 : (q : Int) < (s.size : Int) := by omega
    have e2 : (0 : Int) ≤ (q : Int) := by omega
    obtain ⟨b, hb⟩ : ∃ b, s.toList.getD q 0 = b := ⟨_, rfl⟩
    rw [hb] at hbq hblq
    obtain ⟨y, hy⟩ : ∃ y, (s[q]).toNat = y := ⟨_, rfl⟩
    rw [hy] at hbq
    have HQ : Hid (p ≤ q ∧ has s.toList L q = true ∧ Js.blank (s.toList.getD q 0) = false ∧ s.toList.getD q 0 = b) := ⟨hpq, hhq, by rw [hb]; exact hblq, hb⟩
    have HCL := Lib.hid hcl
    by_cases h125 : b = 125
    · subst h125
      have hy2 : y = 125 := by rw [hbq]; rfl
      subst hy2
      obtain ⟨⟨vo1, hR1⟩, htl1⟩ := HG1.out
      have c91 := hR1.at0.cell 9 _ rfl
      have f91 := hR1.at0.froz 9 (Nat.le_of_ble_eq_true rfl)
      rw [Nat.zero_add] at c91 f91
      obtain ⟨q8, hq8⟩ : ∃ x, q + 1 = x := ⟨_, rfl⟩
      have hq8i : (q : Int) + 1 = (q8 : Int) := by omega
      have hq8w : (q8 : Int) ≤ 140737488351300 := by have := HK.out.2.2.2.2.1; omega
      have HR9 := Lib.hid (hR1.setC 9 (.int .i64 (fr : Int)) (fr' := fr) rfl)
      have HF9 := Lib.hid (HFw.out.setG 9 (.int .i64 (fr : Int)))
      have HC9 : Hid (Cl s.toList L (after st [⟨6, 0, []⟩]) (q + 1) (om st 3 0 [] []) p) := Cl.trans (fun r t k h => RunsT.go hhq (by rw [hb]; exact om_first L st 0 [] [] HK.out.2.2.1 q) h) hcl
      rw [hq8] at HR9 HC9
      have HQ8 : Hid (p ≤ q8 ∧ q8 ≤ L.bytes ∧ q8 ≤ s.size) := by have := (has_lt hhq).2; exact ⟨by omega, by omega, by omega⟩
      clear hpq hhq hblq hcl HG1 hb hbq hR1 htl1 hq8
      go_wp2_with fail
      exact bodyPost_ret (v := .tuple #[.int .i64 (q8 : Int), .bool true]) (by simp [results, Tryd.results63, go_sem]) rfl (.inl ⟨0, [], q8, HQ8.out.1, HC9.out, rfl, ⟨⟨_, by rw [HFR.out]; exact HR9.out⟩, HQ8.out.2⟩, HF9⟩)
    · have hn125 : ((y : Int) == 125) = false := u8neF h125 hbq (n := 125) rfl
      have HI1 : Hid (HoldI s.toList L p q 0 3 2 125 ∧ ([] : List ByteArray).length ≤ q) := ⟨⟨hpq, Nat.zero_le _, .inr ⟨rfl, by rw [hb]; exact h125⟩, hhq, HQ.out.2.2.1⟩, Nat.zero_le _⟩
      have HNN : Hid (w1.ownsRow B 9 1 (.slice none 0 0) ([] : List ByteArray).length (scells [])) := World.ownsRow_nil _ _ _ _
      clear hpq hhq hblq hcl hb hbq h125 HF1 HF2
      go_wp2_with fail
      go_loopw [1, 10, 11] (fun va vo vn wr => ∃ (a k nx : Nat) (ys : List ByteArray) (M : List Vl), va = .int .i64 (a : Int) ∧ vo = .bool true ∧ Hid (HoldI s.toList L p a k nx 2 125 ∧ ys.length ≤ a) ∧ Hid (Gok wr g s L ro (O ++ ⟨6, k, []⟩ :: M) dp (a + 1)) ∧ Hid (wr.ownsRow B 9 1 vn ys.length (scells ys)) ∧ Hid (Cl s.toList L (om st nx k (ys.map ByteArray.toList) M) a (om st 3 0 [] []) p) ∧ Hid (Fg g w wr)) (fun va _ _ _ => s.size - (intOf va).toNat)
      case atStart => exact ⟨q, 0, 3, [], [], rfl, rfl, HI1, HG1, HNN, HCL, HFw⟩
      case round =>
        obtain ⟨a, k, nx, ys, M, rfl, rfl, HI, HG, HN, HC, HF⟩ := hrel
        clear HG1 HFw t0 e1 e2 hn125 HI1 HCL HQ HNN
        have hak := (has_lt HI.out.1.hs).1
        rw [tl_size] at hak
        have VI := Lib.hid (member_any HIH.out (w := wr) (Q := O ++ ⟨6, k, []⟩ :: M) (tk := a + 1) st nx k ys M (by rw [om_size, List.length_append, List.length_cons, HK.out.2.1]) dp HDP.out HG.out a HK.out.2.2.2.2.1 (Nat.le_refl _) HI.out.1.hs HI.out.1.bl HI.out.1.nx (by have := HI.out.1.pa; have := HK.out.2.2.2.1; omega) HLL.out.1 HLL.out.2 _ B HBB.out.2 (by have := HI.out.2; have := HK.out.2.2.2.2.1; omega) HN.out)
        have HAK := Lib.hid hak
        clear hak
        go_wp2_with fail
        refine VI.out.mono ?_
        rintro e w2 (⟨Y, N, q2, haq, hcl, rfl, HG2, HF2⟩ | ⟨Y, c, q2, b2, tk', kk, hrun, rfl, HG2, HF2⟩)
        · have HN2 := Lib.hid (HF2.out.row HN.out str_ne HBB.out.2)
          obtain ⟨ly, hly⟩ : ∃ n, ys.length = n := ⟨_, rfl⟩
          rw [hly] at HN2
          have HLY := Lib.hid hly
          obtain ⟨aN, cN, rfl, hgN⟩ := own_form HN2.out
          clear hly hgN
          go_upto_region 13 with (at_builtin; refine wpList_append_str rfl (.tmp 62) (.tmp 64) 95 rfl B 9 i0 Tryd.underlying95 HI0.out.1 HI0.out.2.1 HI0.out.2.2.1 HI0.out.2.2.2 _ ly ys rfl (HN2.out.alloc _) w2.heap.size 1 Y rfl (cell_new rfl _ _) (by have := HI.out.2; have := HLY.out; have := (has_lt HI.out.1.hs).2; have := HLL.out.1; omega) (by have := HF2.out.size; have := HF.out.size; have := HBB.out.1; simp; omega) ?_; intro v3 w3 hown3 hgrow3; have HN3 := Lib.hid hown3; have HGR := Lib.hid hgrow3; clear hown3 hgrow3)
          obtain ⟨oY, hoY⟩ : ∃ x, Obj.cells #[Value.string Y] 9 = x := ⟨_, rfl⟩
          try rw [hoY] at HGR
          have HOA := Lib.hid (HN2.out.alloc oY)
          have HG3 := Lib.hid ((HG2.out.alloc oY).grown HOA.out str_ne HBB.out.2 HGR.out)
          have HF3 : Hid (Fg g w w3) := ((HF.out.trans HF2.out).alloc (Nat.le_of_lt HG2.out.lt) oY).grown (by have := HG2.out.lt; simp; omega) HGR.out (fun q9 hq9 => by have := (HOA.out.lt q9 hq9).1; have := HBB.out; omega)
          obtain ⟨M2, hM2⟩ : ∃ x, M ++ [(⟨4, 0, Y.toList⟩ : Vl)] ++ N = x := ⟨_, rfl⟩
          obtain ⟨ys2, hys2⟩ : ∃ x, ys ++ [Y] = x := ⟨_, rfl⟩
          obtain ⟨k1, hk1⟩ : ∃ x, k + 1 + 1 = x := ⟨_, rfl⟩
          have hk1i : (k : Int) + 2 = (k1 : Int) := by omega
          rw [show ys.map ByteArray.toList ++ [Y.toList] = ys2.map ByteArray.toList by rw [← hys2, List.map_append]; rfl, hM2, hk1] at hcl
          rw [show (O ++ (⟨6, (k : Int), []⟩ : Vl) :: M) ++ [(⟨4, 0, Y.toList⟩ : Vl)] ++ N = O ++ ⟨6, (k : Int), []⟩ :: M2 by rw [← hM2]; simp] at HG3
          have HC2 := Lib.hid (Cl.trans hcl HC.out)
          have HN4 : Hid (w3.ownsRow B 9 1 v3 ys2.length (scells ys2)) := by
            show w3.ownsRow B 9 1 v3 ys2.length (scells ys2)
            have h9 := HN3.out
            rw [hys2, show ly + 1 = ys2.length by rw [← hys2, List.length_append, HLY.out]; rfl] at h9
            exact h9
          have HYL2 : Hid (ys2.length ≤ a + 1) := by show ys2.length ≤ a + 1; rw [← hys2, List.length_append]; have := HI.out.2; simp; omega
          obtain ⟨⟨vo2, hR2⟩, htl2⟩ := HG3.out
          have hlt : me < (O ++ (⟨6, (k : Int), []⟩ : Vl) :: M2).length := by rw [List.length_append, HK.out.1]; simp
          obtain ⟨r, cap, hvo, hgr, hA⟩ := hR2.value me hlt
          have hget := hold_get O M2 6 k me HK.out.1
          rw [hget] at hA
          have hR3 := hR2.setOut hvo rfl me 1 hlt (by decide) (.int .i64 (k1 : Int)) (fun v => { v with kids := (k1 : Int) }) (by rw [hget]; rfl)
          rw [hold_set O M2 6 k k1 me HK.out.1] at hR3
          have hF3 := HF3.out.setOut hR2.out (by rw [hvo]; rfl) (Nat.le_of_lt hR2.lt) (me * 3 + 1) (.int .i64 (k1 : Int))
          obtain ⟨n2, hn2⟩ : ∃ n, (O ++ (⟨6, (k : Int), []⟩ : Vl) :: M2).length = n := ⟨_, rfl⟩
          have c11 := hR2.at0.cell 11 _ rfl
          rw [hvo, hn2] at c11
          rw [hn2] at hlt
          have d1 := hA.cell 1 _ rfl
          have fd1 := hA.froz 1 (by show 1 < 3; decide)
          have e11 : (me : Int) < (n2 : Int) := by omega
          have e12 : (k : Int) ≤ 300000000000000 := by have := HI.out.1.ka; have := HAK.out; have := HK.out.2.2.2.2.1; omega
          have HR3 := Lib.hid hR3
          have HF3' := Lib.hid hF3
          have HN5 : Hid ((w3.setCell ⟨r, me * 3 + 1, none⟩ (.int .i64 (k1 : Int))).drew.ownsRow B 9 1 v3 ys2.length (scells ys2)) := by
            have h9 := HN4.out.kept (grown_set w3 ⟨r, me * 3 + 1, none⟩ (.int .i64 (k1 : Int))) (by rcases own_ne HN4.out hR2.out str_ne with h | h; exact .inl h; right; rw [hvo] at h; exact h)
            exact own_drewN h9 1
          have HTL := Lib.hid htl2
          have HQ2 : Hid (a < q2 ∧ k1 ≤ 2 * q2) := ⟨haq, by have := HI.out.1.ka; omega⟩
          clear HG3 HF2 hcl hM2 hR2 htl2 hA hget hR3 hF3 hn2 haq hk1 hlt hvo hys2 HF3 HN2 HOA HGR HN3
          go_wp2_with fail
          go_region
          have HF3b : Hid (Fg g w (w3.setCell ⟨r, me * 3 + 1, none⟩ (.int .i64 (k1 : Int))).drew) := HF3'.out.trans (Fg.drewN g _ 1)
          have P2 := Lib.hid (PS.out (w3.setCell ⟨r, me * 3 + 1, none⟩ (.int .i64 (k1 : Int))).drew _ q2 5 k1 (ys2.map ByteArray.toList) M2 q2 (by decide) ⟨⟨_, HR3.out.drewN 1⟩, HTL.out⟩ (Nat.le_succ _) HTL.out.2)
          go_wp2_with fail
          refine P2.out.mono ?_
          rintro e w4 (⟨q3, hpq3, hhq3, hbl3, hcl3, rfl, HG4, HF4⟩ | ⟨c, q3, b3, tk', hrun, rfl, HG4, HF4⟩)
          · rw [HAG.out] at HG4
            have HF4w := Lib.hid (HF3b.out.trans HF4.out)
            have t4 := Gok.txt HG4.out
            have hqs : q3 < s.size := by have := (has_lt hhq3).1; rw [tl_size] at this; exact this
            have hbq := byte_at s q3 hqs
            have e1 : (q3 : Int) < (s.size : Int) := by omega
            have e2 : (0 : Int) ≤ (q3 : Int) := by omega
            obtain ⟨b, hb⟩ : ∃ b, s.toList.getD q3 0 = b := ⟨_, rfl⟩
            rw [hb] at hbq hbl3
            obtain ⟨y3, hy⟩ : ∃ y, (s[q3]).toNat = y := ⟨_, rfl⟩
            rw [hy] at hbq
            have hact := om_more L st k1 (ys2.map ByteArray.toList) M2 HK.out.2.2.1 q3 b hbl3
            obtain ⟨q8, hq8⟩ : ∃ x, q3 + 1 = x := ⟨_, rfl⟩
            have hq8i : (q3 : Int) + 1 = (q8 : Int) := by omega
            have hq8w : (q8 : Int) ≤ 140737488351300 := by have := HK.out.2.2.2.2.1; omega
            have HQ8 : Hid (p ≤ q8 ∧ a < q3 ∧ q3 + 1 = q8 ∧ q8 ≤ L.bytes ∧ q8 ≤ s.size) := by have := (has_lt hhq3).2; have := HI.out.1.pa; have := HQ2.out.1; exact ⟨by omega, by omega, hq8, by omega, by omega⟩
            have HC3 := Lib.hid (Cl.trans hcl3 HC2.out)
            have HQ3 : Hid (q2 ≤ q3) := hpq3
            have HB3 : Hid (s.toList.getD q3 0 = b ∧ has s.toList L q3 = true) := ⟨hb, hhq3⟩
            by_cases h125 : b = 125
            · subst h125
              have hy2 : y3 = 125 := by rw [hbq]; rfl
              subst hy2
              rw [if_pos rfl] at hact
              obtain ⟨⟨vo1, hR1⟩, htl1⟩ := HG4.out
              have c91 := hR1.at0.cell 9 _ rfl
              have f91 := hR1.at0.froz 9 (Nat.le_of_ble_eq_true rfl)
              rw [Nat.zero_add] at c91 f91
              have HR9 := Lib.hid (hR1.setC 9 (.int .i64 (fr : Int)) (fr' := fr) rfl)
              have HF9 := Lib.hid (HF4w.out.setG 9 (.int .i64 (fr : Int)))
              have HC9 : Hid (Cl s.toList L (after st (⟨6, k1, []⟩ :: M2)) (q3 + 1) (om st 3 0 [] []) p) := Cl.trans (fun r t k h => RunsT.go hhq3 (by rw [hb]; exact hact) h) HC3.out
              rw [hq8] at HR9 HC9
              clear hpq3 hhq3 hbl3 hcl3 HG4 hb hbq hR1 htl1 hq8 hact
              go_wp2_with fail
              exact bodyPost_ret (v := .tuple #[.int .i64 (q8 : Int), .bool true]) (by simp [results, Tryd.results63, go_sem]) rfl (.inl ⟨k1, M2, q8, HQ8.out.1, HC9.out, rfl, ⟨⟨_, by rw [HFR.out]; exact HR9.out⟩, HQ8.out.2.2.2⟩, HF9⟩)
            · have hn125 : ((y3 : Int) == 125) = false := u8neF h125 hbq (n := 125) rfl
              rw [if_neg h125] at hact
              by_cases h44 : b = 44
              · subst h44
                have hy2 : y3 = 44 := by rw [hbq]; rfl
                subst hy2
                rw [if_pos rfl] at hact
                have HC4 : Hid (Cl s.toList L (om st 2 k1 (ys2.map ByteArray.toList) M2) (q3 + 1) (om st 3 0 [] []) p) := Cl.trans (fun r t k h => RunsT.go hhq3 (by rw [hb]; exact hact) h) HC3.out
                have P3 := Lib.hid (PS.out w4 _ (q3 + 1) 2 k1 (ys2.map ByteArray.toList) M2 (q3 + 1) (by decide) HG4.out (Nat.le_succ _) (by have := HQ8.out; omega))
                rw [hq8] at P3 HC4
                clear hpq3 hhq3 hbl3 hcl3 hb hbq hq8 hact
                go_wp2_with fail
                refine P3.out.mono ?_
                rintro e w5 (⟨q5, hpq5, hhq5, hbl5, hcl5, rfl, HG5, HF5⟩ | ⟨c, q5, b5, tk', hrun, rfl, HG5, HF5⟩)
                · rw [HAG.out] at HG5
                  have HC5 := Lib.hid (Cl.trans hcl5 HC4.out)
                  have HI5 : Hid (HoldI s.toList L p q5 k1 2 2 125 ∧ ys2.length ≤ q5) := ⟨⟨by have := HQ8.out; omega, by have := HQ8.out; have := HQ2.out; have := HQ3.out; omega, .inl rfl, hhq5, hbl5⟩, by have := HYL2.out; have := HQ8.out; omega⟩
                  have hq5s : q5 < s.size := by have := (has_lt hhq5).1; rw [tl_size] at this; exact this
                  have HM : Hid (a < q5 ∧ q5 < s.size) := ⟨by have := HQ8.out; omega, hq5s⟩
                  have HF5w := Lib.hid (HF4w.out.trans HF5.out)
                  have HN6 := Lib.hid (HF5.out.row (HF4.out.row HN5.out str_ne HBB.out.2) str_ne HBB.out.2)
                  clear hpq5 hhq5 hbl5 hcl5 hq5s
                  go_wp2_with fail
                  go_roundw
                  case rel => exact ⟨q5, k1, 2, ys2, M2, rfl, rfl, HI5, HG5, HN6, HC5, HF5w⟩
                  case measure => have h9 := HM.out; simp [intOf]; omega
                · rw [HAG.out] at hrun HG5
                  have HRN := Lib.hid (HC4.out _ _ _ hrun)
                  clear hrun
                  go_wp2_with fail
                  exact bodyPost_ret (v := .tuple #[.int .i64 0, .bool false]) (by simp [results, Tryd.results63, go_sem]) rfl (.inr ⟨_, _, _, _, _, HRN.out, rfl, HG5, HF4w.out.trans HF5.out⟩)
              · have hn44 : ((y3 : Int) != 44) = true := neT (by intro e; exact h44 (UInt8.toNat_inj.1 (by rw [← hbq, e]; rfl)))
                rw [if_neg h44] at hact
                have HRN : Hid (RunsT s.toList L (om st 3 0 [] []) p (.no 9 q3 false) (q3 + 1) (om st 5 k1 (ys2.map ByteArray.toList) M2).G.length) := HC3.out _ _ _ (RunsT.fl hhq3 (by rw [hb]; exact hact))
                rw [HAG.out] at HRN
                clear hpq3 hhq3 hbl3 hcl3 hb hbq hq8 hact
                go_wp2_with (go_at_call 45; refine (gfault16_ok HG4.out _ _ q3 rfl).mono ?_; rintro e w5 ⟨rfl, HG5, HF5⟩)
                exact bodyPost_ret (v := .tuple #[.int .i64 0, .bool false]) (by simp [results, Tryd.results63, go_sem]) rfl (.inr ⟨_, _, _, _, _, HRN.out, rfl, HG5, HF4w.out.trans HF5.out⟩)
          · rw [HAG.out] at hrun HG4
            have HRN := Lib.hid (HC2.out _ _ _ hrun)
            clear hrun
            go_wp2_with fail
            exact bodyPost_ret (v := .tuple #[.int .i64 0, .bool false]) (by simp [results, Tryd.results63, go_sem]) rfl (.inr ⟨_, _, _, _, _, HRN.out, rfl, HG4, HF3b.out.trans HF4.out⟩)
        · have HRN := Lib.hid (HC.out _ _ _ hrun)
          clear hrun
          go_wp2_with fail
          exact bodyPost_ret (v := .tuple #[.int .i64 0, .bool false]) (by simp [results, Tryd.results63, go_sem]) rfl (.inr ⟨_, _, _, _, _, HRN.out, rfl, HG2, HF.out.trans HF2.out⟩)
  · rw [HAG.out] at hrun HG1
    go_wp2_with fail
    exact bodyPost_ret (v := .tuple #[.int .i64 0, .bool false]) (by simp [results, Tryd.results63, go_sem]) rfl (.inr ⟨_, _, _, _, _, hrun, rfl, HG1, HF1.out.trans HF2.out⟩)
end Jr
end Go.Proofs.YtilfidcomeandaaDoor
namespace Go.Proofs.YtilfidcomeandaaDoor
open Go.RowKit
set_option linter.unusedVariables false
set_option linter.unusedSimpArgs false
namespace Jr
open Js
open Dr (Rs Lm has lack lackE lackP)
set_option maxRecDepth 100000 in
set_option maxHeartbeats 6400000 in
theorem value_full {w : World} {g : Nat} {s : ByteArray} {L : Lm} {ro : Int} {O : List Vl} {tk : Nat} (st : St) (hG : Gok w g s L ro O st.G.length tk) (p : Nat) (hs : s.size ≤ 140737488351232) (htk : tk ≤ p + 1) (hq1 : p < s.size) (hq2 : p < L.bytes) (dp : Int)
    (b0 : UInt8) (hc : s.toList.getD p 0 = b0) (hb : b0 = 34 ∨ b0 = 123 ∨ b0 = 91 ∨ b0 = 116 ∨ b0 = 102 ∨ b0 = 110 ∨ b0 = 45) (hi : L.items ≤ O.length) (ha : st.act L b0 p = .fl 10 p) :
    Calls Tryd.prog 42 #[.pointer (some ⟨g, 0, none⟩), .int .i64 (p : Int), .int .i64 dp] w (RetVal st p g s L ro O w) := by
  have W := Lib.hid (gwant_yes hG (p : Int) p rfl hq1 hq2 hs htk)
  have HRN : Hid (RunsT s.toList L st p (.no 10 p false) (p + 1) st.G.length) := RunsT.fl (has_of hq1 hq2) (by rw [hc]; exact ha)
  have hbt := byte_at s p hq1
  rw [hc] at hbt
  have e2 : (p : Int) < (s.size : Int) := by omega
  have e3 : (0 : Int) ≤ (p : Int) := by omega
  obtain ⟨m, hm⟩ : ∃ m, O.length = m := ⟨_, rfl⟩
  have HM : Hid (O.length = m) := hm
  rw [hm] at hi
  have e0 : (L.items : Int) ≤ (m : Int) := by omega
  have e0b : decide ((L.items : Int) ≤ (m : Int)) = true := decide_eq_true e0
  have e0c : decide (L.items ≤ m) = true := decide_eq_true hi
  obtain ⟨fr, hfr⟩ : ∃ n, st.G.length = n := ⟨_, rfl⟩
  rw [hfr] at W HRN
  obtain ⟨y, hy⟩ : ∃ y, (s[p]).toNat = y := ⟨_, rfl⟩
  rw [hy] at hbt
  rcases hb with rfl | rfl | rfl | rfl | rfl | rfl | rfl
  · obtain rfl : y = 34 := by rw [hbt]; rfl
    clear hG hs htk hq2 hc ha hbt hm hi hfr
    go_enter Tryd.func42, Tryd.ntmps42
    go_wp2_with fail
    refine W.out.mono ?_
    rintro e w1 ⟨rfl, HG1, HF1⟩
    have t0 := Gok.txt HG1.out
    obtain ⟨⟨vo, hRg⟩, htl⟩ := HG1.out
    have HTL := Lib.hid htl
    obtain ⟨aV, cV, rfl, -⟩ := own_form hRg.out
    rw [HM.out] at hRg
    have c1 := hRg.at0.cell 1 _ rfl
    have c2 := hRg.at0.cell 2 _ rfl
    have c11 := hRg.at0.cell 11 _ rfl
    have HR := Lib.hid hRg
    clear hRg htl
    go_wp2_with fail
    go_quiet (fail)
    have HG2 := Lib.hid (HG1.out.drewN nq)
    go_wp2_with (go_at_call 45; refine (gfault16_ok HG2.out _ _ p rfl).mono ?_; rintro e w3 ⟨rfl, HG3, HF3⟩)
    exact bodyPost_ret (v := .tuple #[.int .i64 0, .bool false]) (by simp [results, Tryd.results42, go_sem]) rfl (.inr ⟨_, _, _, _, _, HRN.out, rfl, HG3, (HF1.out.trans (Fg.drewN g w1 _)).trans HF3.out⟩)
  · obtain rfl : y = 123 := by rw [hbt]; rfl
    clear hG hs htk hq2 hc ha hbt hm hi hfr
    go_enter Tryd.func42, Tryd.ntmps42
    go_wp2_with fail
    refine W.out.mono ?_
    rintro e w1 ⟨rfl, HG1, HF1⟩
    have t0 := Gok.txt HG1.out
    obtain ⟨⟨vo, hRg⟩, htl⟩ := HG1.out
    have HTL := Lib.hid htl
    obtain ⟨aV, cV, rfl, -⟩ := own_form hRg.out
    rw [HM.out] at hRg
    have c1 := hRg.at0.cell 1 _ rfl
    have c2 := hRg.at0.cell 2 _ rfl
    have c11 := hRg.at0.cell 11 _ rfl
    have HR := Lib.hid hRg
    clear hRg htl
    go_wp2_with fail
    go_quiet (fail)
    have HG2 := Lib.hid (HG1.out.drewN nq)
    go_wp2_with (go_at_call 45; refine (gfault16_ok HG2.out _ _ p rfl).mono ?_; rintro e w3 ⟨rfl, HG3, HF3⟩)
    exact bodyPost_ret (v := .tuple #[.int .i64 0, .bool false]) (by simp [results, Tryd.results42, go_sem]) rfl (.inr ⟨_, _, _, _, _, HRN.out, rfl, HG3, (HF1.out.trans (Fg.drewN g w1 _)).trans HF3.out⟩)
  · obtain rfl : y = 91 := by rw [hbt]; rfl
    clear hG hs htk hq2 hc ha hbt hm hi hfr
    go_enter Tryd.func42, Tryd.ntmps42
    go_wp2_with fail
    refine W.out.mono ?_
    rintro e w1 ⟨rfl, HG1, HF1⟩
    have t0 := Gok.txt HG1.out
    obtain ⟨⟨vo, hRg⟩, htl⟩ := HG1.out
    have HTL := Lib.hid htl
    obtain ⟨aV, cV, rfl, -⟩ := own_form hRg.out
    rw [HM.out] at hRg
    have c1 := hRg.at0.cell 1 _ rfl
    have c2 := hRg.at0.cell 2 _ rfl
    have c11 := hRg.at0.cell 11 _ rfl
    have HR := Lib.hid hRg
    clear hRg htl
    go_wp2_with fail
    go_quiet (fail)
    have HG2 := Lib.hid (HG1.out.drewN nq)
    go_wp2_with (go_at_call 45; refine (gfault16_ok HG2.out _ _ p rfl).mono ?_; rintro e w3 ⟨rfl, HG3, HF3⟩)
    exact bodyPost_ret (v := .tuple #[.int .i64 0, .bool false]) (by simp [results, Tryd.results42, go_sem]) rfl (.inr ⟨_, _, _, _, _, HRN.out, rfl, HG3, (HF1.out.trans (Fg.drewN g w1 _)).trans HF3.out⟩)
  · obtain rfl : y = 116 := by rw [hbt]; rfl
    clear hG hs htk hq2 hc ha hbt hm hi hfr
    go_enter Tryd.func42, Tryd.ntmps42
    go_wp2_with fail
    refine W.out.mono ?_
    rintro e w1 ⟨rfl, HG1, HF1⟩
    have t0 := Gok.txt HG1.out
    obtain ⟨⟨vo, hRg⟩, htl⟩ := HG1.out
    have HTL := Lib.hid htl
    obtain ⟨aV, cV, rfl, -⟩ := own_form hRg.out
    rw [HM.out] at hRg
    have c1 := hRg.at0.cell 1 _ rfl
    have c2 := hRg.at0.cell 2 _ rfl
    have c11 := hRg.at0.cell 11 _ rfl
    have HR := Lib.hid hRg
    clear hRg htl
    go_wp2_with fail
    go_quiet (fail)
    have HG2 := Lib.hid (HG1.out.drewN nq)
    go_wp2_with (go_at_call 45; refine (gfault16_ok HG2.out _ _ p rfl).mono ?_; rintro e w3 ⟨rfl, HG3, HF3⟩)
    exact bodyPost_ret (v := .tuple #[.int .i64 0, .bool false]) (by simp [results, Tryd.results42, go_sem]) rfl (.inr ⟨_, _, _, _, _, HRN.out, rfl, HG3, (HF1.out.trans (Fg.drewN g w1 _)).trans HF3.out⟩)
  · obtain rfl : y = 102 := by rw [hbt]; rfl
    clear hG hs htk hq2 hc ha hbt hm hi hfr
    go_enter Tryd.func42, Tryd.ntmps42
    go_wp2_with fail
    refine W.out.mono ?_
    rintro e w1 ⟨rfl, HG1, HF1⟩
    have t0 := Gok.txt HG1.out
    obtain ⟨⟨vo, hRg⟩, htl⟩ := HG1.out
    have HTL := Lib.hid htl
    obtain ⟨aV, cV, rfl, -⟩ := own_form hRg.out
    rw [HM.out] at hRg
    have c1 := hRg.at0.cell 1 _ rfl
    have c2 := hRg.at0.cell 2 _ rfl
    have c11 := hRg.at0.cell 11 _ rfl
    have HR := Lib.hid hRg
    clear hRg htl
    go_wp2_with fail
    go_quiet (fail)
    have HG2 := Lib.hid (HG1.out.drewN nq)
    go_wp2_with (go_at_call 45; refine (gfault16_ok HG2.out _ _ p rfl).mono ?_; rintro e w3 ⟨rfl, HG3, HF3⟩)
    exact bodyPost_ret (v := .tuple #[.int .i64 0, .bool false]) (by simp [results, Tryd.results42, go_sem]) rfl (.inr ⟨_, _, _, _, _, HRN.out, rfl, HG3, (HF1.out.trans (Fg.drewN g w1 _)).trans HF3.out⟩)
  · obtain rfl : y = 110 := by rw [hbt]; rfl
    clear hG hs htk hq2 hc ha hbt hm hi hfr
    go_enter Tryd.func42, Tryd.ntmps42
    go_wp2_with fail
    refine W.out.mono ?_
    rintro e w1 ⟨rfl, HG1, HF1⟩
    have t0 := Gok.txt HG1.out
    obtain ⟨⟨vo, hRg⟩, htl⟩ := HG1.out
    have HTL := Lib.hid htl
    obtain ⟨aV, cV, rfl, -⟩ := own_form hRg.out
    rw [HM.out] at hRg
    have c1 := hRg.at0.cell 1 _ rfl
    have c2 := hRg.at0.cell 2 _ rfl
    have c11 := hRg.at0.cell 11 _ rfl
    have HR := Lib.hid hRg
    clear hRg htl
    go_wp2_with fail
    go_quiet (fail)
    have HG2 := Lib.hid (HG1.out.drewN nq)
    go_wp2_with (go_at_call 45; refine (gfault16_ok HG2.out _ _ p rfl).mono ?_; rintro e w3 ⟨rfl, HG3, HF3⟩)
    exact bodyPost_ret (v := .tuple #[.int .i64 0, .bool false]) (by simp [results, Tryd.results42, go_sem]) rfl (.inr ⟨_, _, _, _, _, HRN.out, rfl, HG3, (HF1.out.trans (Fg.drewN g w1 _)).trans HF3.out⟩)
  · obtain rfl : y = 45 := by rw [hbt]; rfl
    clear hG hs htk hq2 hc ha hbt hm hi hfr
    go_enter Tryd.func42, Tryd.ntmps42
    go_wp2_with fail
    refine W.out.mono ?_
    rintro e w1 ⟨rfl, HG1, HF1⟩
    have t0 := Gok.txt HG1.out
    obtain ⟨⟨vo, hRg⟩, htl⟩ := HG1.out
    have HTL := Lib.hid htl
    obtain ⟨aV, cV, rfl, -⟩ := own_form hRg.out
    rw [HM.out] at hRg
    have c1 := hRg.at0.cell 1 _ rfl
    have c2 := hRg.at0.cell 2 _ rfl
    have c11 := hRg.at0.cell 11 _ rfl
    have HR := Lib.hid hRg
    clear hRg htl
    go_wp2_with fail
    go_quiet (fail)
    have HG2 := Lib.hid (HG1.out.drewN nq)
    go_wp2_with (go_at_call 45; refine (gfault16_ok HG2.out _ _ p rfl).mono ?_; rintro e w3 ⟨rfl, HG3, HF3⟩)
    exact bodyPost_ret (v := .tuple #[.int .i64 0, .bool false]) (by simp [results, Tryd.results42, go_sem]) rfl (.inr ⟨_, _, _, _, _, HRN.out, rfl, HG3, (HF1.out.trans (Fg.drewN g w1 _)).trans HF3.out⟩)
set_option maxRecDepth 100000 in
set_option maxHeartbeats 6400000 in
theorem value_fulld {w : World} {g : Nat} {s : ByteArray} {L : Lm} {ro : Int} {O : List Vl} {tk : Nat} (st : St) (hG : Gok w g s L ro O st.G.length tk) (p : Nat) (hs : s.size ≤ 140737488351232) (htk : tk ≤ p + 1) (hq1 : p < s.size) (hq2 : p < L.bytes) (dp : Int)
    (b0 : UInt8) (hc : s.toList.getD p 0 = b0) (hb : isDigit b0 = true) (hi : L.items ≤ O.length) (ha : st.act L b0 p = .fl 10 p) :
    Calls Tryd.prog 42 #[.pointer (some ⟨g, 0, none⟩), .int .i64 (p : Int), .int .i64 dp] w (RetVal st p g s L ro O w) := by
  have W := Lib.hid (gwant_yes hG (p : Int) p rfl hq1 hq2 hs htk)
  have HRN : Hid (RunsT s.toList L st p (.no 10 p false) (p + 1) st.G.length) := RunsT.fl (has_of hq1 hq2) (by rw [hc]; exact ha)
  have hbt := byte_at s p hq1
  rw [hc] at hbt
  have e2 : (p : Int) < (s.size : Int) := by omega
  have e3 : (0 : Int) ≤ (p : Int) := by omega
  obtain ⟨m, hm⟩ : ∃ m, O.length = m := ⟨_, rfl⟩
  have HM : Hid (O.length = m) := hm
  rw [hm] at hi
  have e0 : (L.items : Int) ≤ (m : Int) := by omega
  have e0b : decide ((L.items : Int) ≤ (m : Int)) = true := decide_eq_true e0
  have e0c : decide (L.items ≤ m) = true := decide_eq_true hi
  obtain ⟨fr, hfr⟩ : ∃ n, st.G.length = n := ⟨_, rfl⟩
  rw [hfr] at W HRN
  obtain ⟨y, hy⟩ : ∃ y, (s[p]).toNat = y := ⟨_, rfl⟩
  rw [hy] at hbt
  have DB := Lib.hid (fun w => rdigit_any b0 w)
  rw [hb, ← hbt] at DB
  have hyd : 48 ≤ y ∧ y ≤ 57 := by rw [isDigit, decide_eq_true_iff] at hb; omega
  have n11 : ((y : Int) != 34) = true := neT (n := y) (c := 34) (by omega)
  have m11 : ((y : Int) == 34) = false := eqF (by omega)
  have n12 : ((y : Int) != 123) = true := neT (n := y) (c := 123) (by omega)
  have m12 : ((y : Int) == 123) = false := eqF (by omega)
  have n13 : ((y : Int) != 91) = true := neT (n := y) (c := 91) (by omega)
  have m13 : ((y : Int) == 91) = false := eqF (by omega)
  have n14 : ((y : Int) != 116) = true := neT (n := y) (c := 116) (by omega)
  have m14 : ((y : Int) == 116) = false := eqF (by omega)
  have n15 : ((y : Int) != 102) = true := neT (n := y) (c := 102) (by omega)
  have m15 : ((y : Int) == 102) = false := eqF (by omega)
  have n16 : ((y : Int) != 110) = true := neT (n := y) (c := 110) (by omega)
  have m16 : ((y : Int) == 110) = false := eqF (by omega)
  have n17 : ((y : Int) != 45) = true := neT (n := y) (c := 45) (by omega)
  have m17 : ((y : Int) == 45) = false := eqF (by omega)
  clear hG hs htk hq2 hc ha hbt hm hi hfr hb hyd
  go_enter Tryd.func42, Tryd.ntmps42
  go_wp2_with fail
  refine W.out.mono ?_
  rintro e w1 ⟨rfl, HG1, HF1⟩
  have t0 := Gok.txt HG1.out
  obtain ⟨⟨vo, hRg⟩, htl⟩ := HG1.out
  have HTL := Lib.hid htl
  obtain ⟨aV, cV, rfl, -⟩ := own_form hRg.out
  rw [HM.out] at hRg
  have c1 := hRg.at0.cell 1 _ rfl
  have c2 := hRg.at0.cell 2 _ rfl
  have c11 := hRg.at0.cell 11 _ rfl
  have HR := Lib.hid hRg
  clear hRg htl
  go_wp2_with (go_at_call 62; refine (DB.out _).mono ?_; rintro e w2 ⟨rfl, rfl⟩)
  go_quiet (fail)
  have HG2 := Lib.hid (HG1.out.drewN nq)
  go_wp2_with (go_at_call 45; refine (gfault16_ok HG2.out _ _ p rfl).mono ?_; rintro e w3 ⟨rfl, HG3, HF3⟩)
  exact bodyPost_ret (v := .tuple #[.int .i64 0, .bool false]) (by simp [results, Tryd.results42, go_sem]) rfl (.inr ⟨_, _, _, _, _, HRN.out, rfl, HG3, (HF1.out.trans (Fg.drewN g w1 _)).trans HF3.out⟩)
set_option maxRecDepth 100000 in
set_option maxHeartbeats 6400000 in
theorem value_deep {w : World} {g : Nat} {s : ByteArray} {L : Lm} {ro : Int} {O : List Vl} {tk : Nat} (st : St) (hG : Gok w g s L ro O st.G.length tk) (p : Nat) (hs : s.size ≤ 140737488351232) (htk : tk ≤ p + 1) (hq1 : p < s.size) (hq2 : p < L.bytes)
    (b0 : UInt8) (hc : s.toList.getD p 0 = b0) (hb : b0 = 91 ∨ b0 = 123) (hi : O.length < L.items ∧ L.depth ≤ st.G.length) (ha : st.act L b0 p = .fl 10 p) :
    Calls Tryd.prog 42 #[.pointer (some ⟨g, 0, none⟩), .int .i64 (p : Int), .int .i64 (st.G.length : Int)] w (RetVal st p g s L ro O w) := by
  have W := Lib.hid (gwant_yes hG (p : Int) p rfl hq1 hq2 hs htk)
  have HRN : Hid (RunsT s.toList L st p (.no 10 p false) (p + 1) st.G.length) := RunsT.fl (has_of hq1 hq2) (by rw [hc]; exact ha)
  have hbt := byte_at s p hq1
  rw [hc] at hbt
  have e2 : (p : Int) < (s.size : Int) := by omega
  have e3 : (0 : Int) ≤ (p : Int) := by omega
  obtain ⟨m, hm⟩ : ∃ m, O.length = m := ⟨_, rfl⟩
  have HM : Hid (O.length = m) := hm
  rw [hm] at hi
  obtain ⟨hi1, hi2⟩ := hi
  have e0 : ¬ (L.items : Int) ≤ (m : Int) := by omega
  have e0b : decide ((L.items : Int) ≤ (m : Int)) = false := decide_eq_false e0
  have e0c : decide (L.items ≤ m) = false := decide_eq_false (by omega)
  have e0d : ¬ L.items ≤ m := by omega
  obtain ⟨fr, hfr⟩ : ∃ n, st.G.length = n := ⟨_, rfl⟩
  rw [hfr] at hi2
  have e1 : (L.depth : Int) ≤ (fr : Int) := by omega
  have e1b : decide ((L.depth : Int) ≤ (fr : Int)) = true := decide_eq_true e1
  have e1c : decide (L.depth ≤ fr) = true := decide_eq_true hi2
  rw [hfr] at W HRN ⊢
  obtain ⟨y, hy⟩ : ∃ y, (s[p]).toNat = y := ⟨_, rfl⟩
  rw [hy] at hbt
  rcases hb with rfl | rfl
  · obtain rfl : y = 91 := by rw [hbt]; rfl
    clear hG hs htk hq2 hc ha hbt hm hi1 hi2 hfr
    go_enter Tryd.func42, Tryd.ntmps42
    go_wp2_with fail
    refine W.out.mono ?_
    rintro e w1 ⟨rfl, HG1, HF1⟩
    have t0 := Gok.txt HG1.out
    obtain ⟨⟨vo, hRg⟩, htl⟩ := HG1.out
    have HTL := Lib.hid htl
    obtain ⟨aV, cV, rfl, -⟩ := own_form hRg.out
    rw [HM.out] at hRg
    have c1 := hRg.at0.cell 1 _ rfl
    have c2 := hRg.at0.cell 2 _ rfl
    have c11 := hRg.at0.cell 11 _ rfl
    have HR := Lib.hid hRg
    clear hRg htl
    go_wp2_with fail
    go_quiet (fail)
    have HG2 := Lib.hid (HG1.out.drewN nq)
    go_wp2_with (go_at_call 45; refine (gfault16_ok HG2.out _ _ p rfl).mono ?_; rintro e w3 ⟨rfl, HG3, HF3⟩)
    exact bodyPost_ret (v := .tuple #[.int .i64 0, .bool false]) (by simp [results, Tryd.results42, go_sem]) rfl (.inr ⟨_, _, _, _, _, HRN.out, rfl, HG3, (HF1.out.trans (Fg.drewN g w1 _)).trans HF3.out⟩)
  · obtain rfl : y = 123 := by rw [hbt]; rfl
    clear hG hs htk hq2 hc ha hbt hm hi1 hi2 hfr
    go_enter Tryd.func42, Tryd.ntmps42
    go_wp2_with fail
    refine W.out.mono ?_
    rintro e w1 ⟨rfl, HG1, HF1⟩
    have t0 := Gok.txt HG1.out
    obtain ⟨⟨vo, hRg⟩, htl⟩ := HG1.out
    have HTL := Lib.hid htl
    obtain ⟨aV, cV, rfl, -⟩ := own_form hRg.out
    rw [HM.out] at hRg
    have c1 := hRg.at0.cell 1 _ rfl
    have c2 := hRg.at0.cell 2 _ rfl
    have c11 := hRg.at0.cell 11 _ rfl
    have HR := Lib.hid hRg
    clear hRg htl
    go_wp2_with fail
    go_quiet (fail)
    have HG2 := Lib.hid (HG1.out.drewN nq)
    go_wp2_with (go_at_call 45; refine (gfault16_ok HG2.out _ _ p rfl).mono ?_; rintro e w3 ⟨rfl, HG3, HF3⟩)
    exact bodyPost_ret (v := .tuple #[.int .i64 0, .bool false]) (by simp [results, Tryd.results42, go_sem]) rfl (.inr ⟨_, _, _, _, _, HRN.out, rfl, HG3, (HF1.out.trans (Fg.drewN g w1 _)).trans HF3.out⟩)
set_option maxRecDepth 100000 in
set_option maxHeartbeats 6400000 in
theorem value_array {m0 : Nat} {w : World} {g : Nat} {s : ByteArray} {L : Lm} {ro : Int} {O : List Vl} {tk : Nat} (st : St) (hG : Gok w g s L ro O st.G.length tk) (p : Nat) (hs : s.size ≤ 140737488351232) (htk : tk ≤ p + 1) (hq1 : p < s.size) (hq2 : p < L.bytes) (IH : ValAll g s L ro m0) (hpm : s.size - p ≤ m0 + 1) (hnm : st.named = none) (hsz : O.length = st.size)
    (hc : s.toList.getD p 0 = 91) (hi : O.length < L.items) (hiL : L.items ≤ 4096) (hLb : L.bytes ≤ 262144) (hdL : L.depth ≤ 32) (hd : st.G.length < L.depth) (ha : st.act L 91 p = .go (am st 1 0 [])) :
    Calls Tryd.prog 42 #[.pointer (some ⟨g, 0, none⟩), .int .i64 (p : Int), .int .i64 (st.G.length : Int)] w (RetVal st p g s L ro O w) := by
  have W := Lib.hid (gwant_yes hG (p : Int) p rfl hq1 hq2 hs htk)
  have HC1 : Hid (Cl s.toList L (am st 1 0 []) (p + 1) st p) := fun r t k h => RunsT.go (has_of hq1 hq2) (by rw [hc, ha]) h
  have hbt := byte_at s p hq1
  rw [hc] at hbt
  have e2 : (p : Int) < (s.size : Int) := by omega
  have e3 : (0 : Int) ≤ (p : Int) := by omega
  obtain ⟨m, hm⟩ : ∃ m, O.length = m := ⟨_, rfl⟩
  have e0 : ¬ (L.items : Int) ≤ (m : Int) := by omega
  have e0b : decide ((L.items : Int) ≤ (m : Int)) = false := decide_eq_false e0
  have e0c : decide (L.items ≤ m) = false := decide_eq_false (by omega)
  have e0d : ¬ L.items ≤ m := by omega
  have HM : Hid (O.length = m ∧ m ≤ 4096) := ⟨hm, by omega⟩
  obtain ⟨p1, hp1⟩ : ∃ x, p + 1 = x := ⟨_, rfl⟩
  have hp1i : (p : Int) + 1 = (p1 : Int) := by omega
  have hp1w : (p1 : Int) ≤ 140737488351300 := by omega
  obtain ⟨dq, hdq⟩ : ∃ x, st.G.length + 1 = x := ⟨_, rfl⟩
  have AR := Lib.hid (fun (w' : World) (h : Gok w' g s L ro (O ++ [⟨5, 0, []⟩]) st.G.length (p + 1)) => arr_any IH st hnm m hm hsz (by omega) h p1 hs (by omega) (by omega) (by omega) (by omega) dq hdq)
  obtain ⟨y, hy⟩ : ∃ y, (s[p]).toNat = y := ⟨_, rfl⟩
  rw [hy] at hbt
  obtain rfl : y = 91 := by rw [hbt]; rfl
  obtain ⟨fr, hfr⟩ : ∃ n, st.G.length = n := ⟨_, rfl⟩
  have HFR := Lib.hid hfr
  rw [hfr] at W AR hd hdq ⊢
  have e1 : ¬ (L.depth : Int) ≤ (fr : Int) := by omega
  have e1b : decide ((L.depth : Int) ≤ (fr : Int)) = false := decide_eq_false e1
  have e1c : decide (L.depth ≤ fr) = false := decide_eq_false (by omega)
  have e1d : ¬ L.depth ≤ fr := by omega
  have hdqi : (fr : Int) + 1 = (dq : Int) := by omega
  have hfrw : (fr : Int) ≤ 100 := by omega
  rw [hp1] at HC1
  have HP1 : Hid (p + 1 = p1) := hp1
  clear hG hs htk hq2 hc ha hbt hm hi hiL hfr hLb hdL hd hdq hp1 hpm hnm hsz IH
  go_enter Tryd.func42, Tryd.ntmps42
  go_wp2_with fail
  refine W.out.mono ?_
  rintro e w1 ⟨rfl, HG1, HF1⟩
  have t0 := Gok.txt HG1.out
  obtain ⟨⟨vo, hRg⟩, htl⟩ := HG1.out
  have HTL := Lib.hid htl
  obtain ⟨aV, cV, rfl, -⟩ := own_form hRg.out
  rw [HM.out.1] at hRg
  have c1 := hRg.at0.cell 1 _ rfl
  have c2 := hRg.at0.cell 2 _ rfl
  have c11 := hRg.at0.cell 11 _ rfl
  have HR := Lib.hid hRg
  clear hRg htl
  go_wp2_with fail
  go_quiet (fail)
  have HR2 := Lib.hid (HR.out.drewN nq)
  have HF2 := Lib.hid (HF1.out.trans (Fg.drewN g w1 nq))
  have t2 : (w1.drewN nq).cell? ⟨g, 0, none⟩ = some (.string s) := t0
  have c112 := HR2.out.at0.cell 11 _ rfl
  generalize w1.drewN nq = w2 at *
  clear c1 c2 c11 t0 HR HF1 HG1
  go_upto_region 15 with (at_builtin; refine wpList_append_vl rfl (.tmp 105) (.tmp 107) rfl (g + 1) (.slice aV m cV) m O rfl (by have h9 := HR2.out.out; rw [HM.out.1] at h9; exact h9.alloc _) w2.heap.size 1 (⟨0, 0, []⟩ : Vl) rfl (at_cellsW (vv_new 0) (At.ofAlloc w2 #[Value.int .i64 0, Value.int .i64 0, Value.string ByteArray.empty] 61)) (by have := HM.out.2; omega) (by have := HR2.out.lt; simp; omega) ?_; intro v3 w3 hown3 hgrow3; obtain ⟨a3, c3, hv3, hg3⟩ := own_form hown3; obtain ⟨r, hr⟩ := hg3 (Nat.succ_pos _); subst hr; subst hv3; have hAt3 := At.grown ((HR2.out.alloc zv).at0) hgrow3 (HR2.out.alloc zv).lt (fun e => by have := (HR2.out.out.lt g e).1; omega); have f113 := hAt3.froz 11 (by show 11 < 12; decide); have c113 := hAt3.cell 11 _ rfl; have HO3 := Lib.hid hown3; have HGR := Lib.hid hgrow3; clear hAt3 hown3 hgrow3)
  have HR4 : Hid (Rg (w3.setCell ⟨g, 11, none⟩ (.slice (some ⟨r, 0, none⟩) (m + 1) c3)) g s L ro (O ++ [⟨0, 0, []⟩]) (.slice (some ⟨r, 0, none⟩) (m + 1) c3) 0 0 (p + 1) fr false) := by
    have h9 := (HR2.out.alloc zv).push (O' := O ++ [⟨0, 0, []⟩]) HGR.out (by rw [List.length_append, HM.out.1]; exact HO3.out)
    exact h9
  have HF4 : Hid (Fg g w (w3.setCell ⟨g, 11, none⟩ (.slice (some ⟨r, 0, none⟩) (m + 1) c3))) := by
    have h8 := (HF2.out.alloc (Nat.le_of_lt HR2.out.lt) zv).vals (HR2.out.alloc zv).out (Nat.le_of_lt (HR2.out.alloc zv).lt) HGR.out
    exact h8.push (by have h9 := c113; rw [Nat.zero_add] at h9; exact h9) (Nat.le_succ m)
  generalize w3.setCell ⟨g, 11, none⟩ (.slice (some ⟨r, 0, none⟩) (m + 1) c3) = w4 at HR4 HF4 ⊢
  obtain ⟨q2, cap, hvq, hgq, hAq⟩ := HR4.out.value m (by rw [List.length_append, HM.out.1]; exact Nat.lt_succ_self m)
  obtain rfl : r = q2 := by injection hvq with h1 h2 h3; injection h1 with h1; injection h1
  have d0 := hAq.cell 0 _ rfl
  have fd0 := hAq.froz 0 (by show 0 < 3; decide)
  have c114 := HR4.out.at0.cell 11 _ rfl
  have e8 : (m : Int) < (m : Int) + 1 := by omega
  have HR5 := Lib.hid (HR4.out.setOut (q := r) (cap := c3) (n := m + 1) rfl (by rw [List.length_append, HM.out.1]; rfl) m 0 (Nat.lt_succ_self m) (by decide) (.int .i64 5) (fun v => { v with kind := 5 }) rfl)
  have HF5 := Lib.hid (HF4.out.setOut HR4.out.out rfl (Nat.le_of_lt HR4.out.lt) (m * 3 + 0) (.int .i64 5))
  rw [last_kind O m 5 HM.out.1] at HR5
  rw [Nat.add_zero] at HR5 HF5 d0 fd0
  clear c112 hAq hvq f113 c113 t2
  have A5 := Lib.hid (AR.out _ ⟨⟨_, HR5.out⟩, HTL.out⟩)
  clear AR
  go_wp2_with fail
  refine A5.out.mono ?_
  rintro e w6 (⟨k, M, q6, hpq, hcl, rfl, HG6, HF6⟩ | ⟨c, q6, b, tk6, kk, hrun, rfl, HG6, HF6⟩)
  · have HCL := Lib.hid (Cl.trans hcl HC1.out)
    have HPQ : Hid (p < q6) := by have := HP1.out; show p < q6; omega
    clear hcl hpq
    go_wp2_with fail
    exact bodyPost_ret (v := .tuple #[.int .i64 (q6 : Int), .bool true]) (by simp [results, Tryd.results42, go_sem]) rfl (.inl ⟨⟨5, k, []⟩ :: M, q6, HPQ.out, HCL.out, rfl, HG6, HF5.out.trans HF6.out⟩)
  · have HRN := Lib.hid (HC1.out _ _ _ hrun)
    clear hrun
    go_wp2_with fail
    exact bodyPost_ret (v := .tuple #[.int .i64 0, .bool false]) (by simp [results, Tryd.results42, go_sem]) rfl (.inr ⟨_, _, _, _, _, HRN.out, rfl, HG6, HF5.out.trans HF6.out⟩)
set_option maxRecDepth 100000 in
set_option maxHeartbeats 6400000 in
theorem value_object {m0 : Nat} {w : World} {g : Nat} {s : ByteArray} {L : Lm} {ro : Int} {O : List Vl} {tk : Nat} (st : St) (hG : Gok w g s L ro O st.G.length tk) (p : Nat) (hs : s.size ≤ 140737488351232) (htk : tk ≤ p + 1) (hq1 : p < s.size) (hq2 : p < L.bytes) (IH : ValAll g s L ro m0) (hpm : s.size - p ≤ m0 + 1) (hnm : st.named = none) (hsz : O.length = st.size)
    (hc : s.toList.getD p 0 = 123) (hi : O.length < L.items) (hiL : L.items ≤ 4096) (hLb : L.bytes ≤ 262144) (hdL : L.depth ≤ 32) (hd : st.G.length < L.depth) (ha : st.act L 123 p = .go (om st 3 0 [] [])) :
    Calls Tryd.prog 42 #[.pointer (some ⟨g, 0, none⟩), .int .i64 (p : Int), .int .i64 (st.G.length : Int)] w (RetVal st p g s L ro O w) := by
  have W := Lib.hid (gwant_yes hG (p : Int) p rfl hq1 hq2 hs htk)
  have HC1 : Hid (Cl s.toList L (om st 3 0 [] []) (p + 1) st p) := fun r t k h => RunsT.go (has_of hq1 hq2) (by rw [hc, ha]) h
  have hbt := byte_at s p hq1
  rw [hc] at hbt
  have e2 : (p : Int) < (s.size : Int) := by omega
  have e3 : (0 : Int) ≤ (p : Int) := by omega
  obtain ⟨m, hm⟩ : ∃ m, O.length = m := ⟨_, rfl⟩
  have e0 : ¬ (L.items : Int) ≤ (m : Int) := by omega
  have e0b : decide ((L.items : Int) ≤ (m : Int)) = false := decide_eq_false e0
  have e0c : decide (L.items ≤ m) = false := decide_eq_false (by omega)
  have e0d : ¬ L.items ≤ m := by omega
  have HM : Hid (O.length = m ∧ m ≤ 4096) := ⟨hm, by omega⟩
  obtain ⟨p1, hp1⟩ : ∃ x, p + 1 = x := ⟨_, rfl⟩
  have hp1i : (p : Int) + 1 = (p1 : Int) := by omega
  have hp1w : (p1 : Int) ≤ 140737488351300 := by omega
  obtain ⟨dq, hdq⟩ : ∃ x, st.G.length + 1 = x := ⟨_, rfl⟩
  have AR := Lib.hid (fun (w' : World) (h : Gok w' g s L ro (O ++ [⟨6, 0, []⟩]) st.G.length (p + 1)) => obj_any IH st hnm m hm hsz (by omega) h p1 hs (by omega) (by omega) (by omega) (by omega) hLb hiL dq hdq)
  obtain ⟨y, hy⟩ : ∃ y, (s[p]).toNat = y := ⟨_, rfl⟩
  rw [hy] at hbt
  obtain rfl : y = 123 := by rw [hbt]; rfl
  obtain ⟨fr, hfr⟩ : ∃ n, st.G.length = n := ⟨_, rfl⟩
  have HFR := Lib.hid hfr
  rw [hfr] at W AR hd hdq ⊢
  have e1 : ¬ (L.depth : Int) ≤ (fr : Int) := by omega
  have e1b : decide ((L.depth : Int) ≤ (fr : Int)) = false := decide_eq_false e1
  have e1c : decide (L.depth ≤ fr) = false := decide_eq_false (by omega)
  have e1d : ¬ L.depth ≤ fr := by omega
  have hdqi : (fr : Int) + 1 = (dq : Int) := by omega
  have hfrw : (fr : Int) ≤ 100 := by omega
  rw [hp1] at HC1
  have HP1 : Hid (p + 1 = p1) := hp1
  clear hG hs htk hq2 hc ha hbt hm hi hiL hfr hLb hdL hd hdq hp1 hpm hnm hsz IH
  go_enter Tryd.func42, Tryd.ntmps42
  go_wp2_with fail
  refine W.out.mono ?_
  rintro e w1 ⟨rfl, HG1, HF1⟩
  have t0 := Gok.txt HG1.out
  obtain ⟨⟨vo, hRg⟩, htl⟩ := HG1.out
  have HTL := Lib.hid htl
  obtain ⟨aV, cV, rfl, -⟩ := own_form hRg.out
  rw [HM.out.1] at hRg
  have c1 := hRg.at0.cell 1 _ rfl
  have c2 := hRg.at0.cell 2 _ rfl
  have c11 := hRg.at0.cell 11 _ rfl
  have HR := Lib.hid hRg
  clear hRg htl
  go_wp2_with fail
  go_quiet (fail)
  have HR2 := Lib.hid (HR.out.drewN nq)
  have HF2 := Lib.hid (HF1.out.trans (Fg.drewN g w1 nq))
  have t2 : (w1.drewN nq).cell? ⟨g, 0, none⟩ = some (.string s) := t0
  have c112 := HR2.out.at0.cell 11 _ rfl
  generalize w1.drewN nq = w2 at *
  clear c1 c2 c11 t0 HR HF1 HG1
  go_upto_region 12 with (at_builtin; refine wpList_append_vl rfl (.tmp 105) (.tmp 107) rfl (g + 1) (.slice aV m cV) m O rfl (by have h9 := HR2.out.out; rw [HM.out.1] at h9; exact h9.alloc _) w2.heap.size 1 (⟨0, 0, []⟩ : Vl) rfl (at_cellsW (vv_new 0) (At.ofAlloc w2 #[Value.int .i64 0, Value.int .i64 0, Value.string ByteArray.empty] 61)) (by have := HM.out.2; omega) (by have := HR2.out.lt; simp; omega) ?_; intro v3 w3 hown3 hgrow3; obtain ⟨a3, c3, hv3, hg3⟩ := own_form hown3; obtain ⟨r, hr⟩ := hg3 (Nat.succ_pos _); subst hr; subst hv3; have hAt3 := At.grown ((HR2.out.alloc zv).at0) hgrow3 (HR2.out.alloc zv).lt (fun e => by have := (HR2.out.out.lt g e).1; omega); have f113 := hAt3.froz 11 (by show 11 < 12; decide); have c113 := hAt3.cell 11 _ rfl; have HO3 := Lib.hid hown3; have HGR := Lib.hid hgrow3; clear hAt3 hown3 hgrow3)
  have HR4 : Hid (Rg (w3.setCell ⟨g, 11, none⟩ (.slice (some ⟨r, 0, none⟩) (m + 1) c3)) g s L ro (O ++ [⟨0, 0, []⟩]) (.slice (some ⟨r, 0, none⟩) (m + 1) c3) 0 0 (p + 1) fr false) := by
    have h9 := (HR2.out.alloc zv).push (O' := O ++ [⟨0, 0, []⟩]) HGR.out (by rw [List.length_append, HM.out.1]; exact HO3.out)
    exact h9
  have HF4 : Hid (Fg g w (w3.setCell ⟨g, 11, none⟩ (.slice (some ⟨r, 0, none⟩) (m + 1) c3))) := by
    have h8 := (HF2.out.alloc (Nat.le_of_lt HR2.out.lt) zv).vals (HR2.out.alloc zv).out (Nat.le_of_lt (HR2.out.alloc zv).lt) HGR.out
    exact h8.push (by have h9 := c113; rw [Nat.zero_add] at h9; exact h9) (Nat.le_succ m)
  generalize w3.setCell ⟨g, 11, none⟩ (.slice (some ⟨r, 0, none⟩) (m + 1) c3) = w4 at HR4 HF4 ⊢
  obtain ⟨q2, cap, hvq, hgq, hAq⟩ := HR4.out.value m (by rw [List.length_append, HM.out.1]; exact Nat.lt_succ_self m)
  obtain rfl : r = q2 := by injection hvq with h1 h2 h3; injection h1 with h1; injection h1
  have d0 := hAq.cell 0 _ rfl
  have fd0 := hAq.froz 0 (by show 0 < 3; decide)
  have c114 := HR4.out.at0.cell 11 _ rfl
  have e8 : (m : Int) < (m : Int) + 1 := by omega
  have HR5 := Lib.hid (HR4.out.setOut (q := r) (cap := c3) (n := m + 1) rfl (by rw [List.length_append, HM.out.1]; rfl) m 0 (Nat.lt_succ_self m) (by decide) (.int .i64 6) (fun v => { v with kind := 6 }) rfl)
  have HF5 := Lib.hid (HF4.out.setOut HR4.out.out rfl (Nat.le_of_lt HR4.out.lt) (m * 3 + 0) (.int .i64 6))
  rw [last_kind O m 6 HM.out.1] at HR5
  rw [Nat.add_zero] at HR5 HF5 d0 fd0
  clear c112 hAq hvq f113 c113 t2
  have A5 := Lib.hid (AR.out _ ⟨⟨_, HR5.out⟩, HTL.out⟩)
  clear AR
  go_wp2_with fail
  refine A5.out.mono ?_
  rintro e w6 (⟨k, M, q6, hpq, hcl, rfl, HG6, HF6⟩ | ⟨c, q6, b, tk6, kk, hrun, rfl, HG6, HF6⟩)
  · have HCL := Lib.hid (Cl.trans hcl HC1.out)
    have HPQ : Hid (p < q6) := by have := HP1.out; show p < q6; omega
    clear hcl hpq
    go_wp2_with fail
    exact bodyPost_ret (v := .tuple #[.int .i64 (q6 : Int), .bool true]) (by simp [results, Tryd.results42, go_sem]) rfl (.inl ⟨⟨6, k, []⟩ :: M, q6, HPQ.out, HCL.out, rfl, HG6, HF5.out.trans HF6.out⟩)
  · have HRN := Lib.hid (HC1.out _ _ _ hrun)
    clear hrun
    go_wp2_with fail
    exact bodyPost_ret (v := .tuple #[.int .i64 0, .bool false]) (by simp [results, Tryd.results42, go_sem]) rfl (.inr ⟨_, _, _, _, _, HRN.out, rfl, HG6, HF5.out.trans HF6.out⟩)
end Jr
end Go.Proofs.YtilfidcomeandaaDoor
namespace Go.Proofs.YtilfidcomeandaaDoor
open Go.RowKit
set_option linter.unusedVariables false
set_option linter.unusedSimpArgs false
namespace Jr
open Js
open Dr (Rs Lm has lack lackE lackP)
theorem val_act {L : Lm} {st : St} {b : UInt8} {p : Nat} (hh : st.hand = .none) (hbl : Js.blank b = false) (hnx : st.nx = 0 ∨ (st.nx = 1 ∧ b ≠ 93)) : st.act L b p = st.value L b p := by
  rw [act_step hh hbl, St.step]
  rcases hnx with h | ⟨h, hb⟩
  · rw [h]; rfl
  · rw [h]
    show (if b = 93 then _ else _) = _
    rw [if_neg hb]
theorem begins_cls (b : UInt8) : (begins b = false ∧ ¬ (b = 34 ∨ b = 123 ∨ b = 91 ∨ b = 116 ∨ b = 102 ∨ b = 110 ∨ b = 45) ∧ isDigit b = false) ∨ (b = 34 ∨ b = 123 ∨ b = 91 ∨ b = 116 ∨ b = 102 ∨ b = 110 ∨ b = 45) ∨ isDigit b = true := by
  by_cases h1 : b = 34 ∨ b = 123 ∨ b = 91 ∨ b = 116 ∨ b = 102 ∨ b = 110 ∨ b = 45
  · exact .inr (.inl h1)
  · cases h2 : isDigit b with
    | true => exact .inr (.inr rfl)
    | false => exact .inl ⟨by rw [begins, decide_eq_false h1, h2]; rfl, h1, rfl⟩
theorem val_num {L : Lm} {st : St} {b : UInt8} {p y : Nat} (h : ¬ (b = 34 ∨ b = 123 ∨ b = 91 ∨ b = 116 ∨ b = 102 ∨ b = 110)) (hy : nextN 0 b = some y) : st.value L b p = st.add L p (.go (st.begin 3 (.num y [b]))) := by
  rw [St.value, if_neg (fun e => h (.inl e)), if_neg (fun e => h (.inr (.inl e))), if_neg (fun e => h (.inr (.inr (.inl e)))), if_neg (fun e => h (.inr (.inr (.inr (.inl e))))), if_neg (fun e => h (.inr (.inr (.inr (.inr (.inl e)))))), if_neg (fun e => h (.inr (.inr (.inr (.inr (.inr e)))))), hy]
theorem digit_ne {b : UInt8} (h : isDigit b = true) : ¬ (b = 34 ∨ b = 123 ∨ b = 91 ∨ b = 116 ∨ b = 102 ∨ b = 110) := by
  rintro (rfl | rfl | rfl | rfl | rfl | rfl) <;> exact absurd h (by decide)
theorem val_none {L : Lm} {st : St} {b : UInt8} {p : Nat} (h : ¬ (b = 34 ∨ b = 123 ∨ b = 91 ∨ b = 116 ∨ b = 102 ∨ b = 110 ∨ b = 45)) (hd : isDigit b = false) : st.value L b p = .fl 9 p := by
  have hn : nextN 0 b = none := by
    rw [nextN, if_neg (fun e => h (.inr (.inr (.inr (.inr (.inr (.inr e))))))), if_neg (fun e => by subst e; exact absurd hd (by decide)), if_neg (by rw [hd]; decide)]
  rw [St.value, if_neg (fun e => h (.inl e)), if_neg (fun e => h (.inr (.inl e))), if_neg (fun e => h (.inr (.inr (.inl e)))), if_neg (fun e => h (.inr (.inr (.inr (.inl e))))), if_neg (fun e => h (.inr (.inr (.inr (.inr (.inl e)))))), if_neg (fun e => h (.inr (.inr (.inr (.inr (.inr (.inl e))))))), hn]
theorem add_full {L : Lm} {st : St} {p : Nat} {k : Out} (h : L.items ≤ st.size) : st.add L p k = .fl 10 p := by rw [St.add, if_pos h]
theorem add_room {L : Lm} {st : St} {p : Nat} {k : Out} (h : ¬ L.items ≤ st.size) : st.add L p k = k := by rw [St.add, if_neg h]
theorem val_34 (L : Lm) (st : St) (p : Nat) : st.value L 34 p = st.add L p (.go (st.begin 4 (.str s0))) := rfl
theorem val_123 (L : Lm) (st : St) (p : Nat) : st.value L 123 p = st.add L p (if L.depth ≤ st.G.length then .fl 10 p else .go (st.hold (some []))) := rfl
theorem val_91 (L : Lm) (st : St) (p : Nat) : st.value L 91 p = st.add L p (if L.depth ≤ st.G.length then .fl 10 p else .go (st.hold none)) := rfl
theorem val_116 (L : Lm) (st : St) (p : Nat) : st.value L 116 p = st.add L p (.go (st.begin 2 (.word [114, 117, 101]))) := rfl
theorem val_102 (L : Lm) (st : St) (p : Nat) : st.value L 102 p = st.add L p (.go (st.begin 1 (.word [97, 108, 115, 101]))) := rfl
theorem val_110 (L : Lm) (st : St) (p : Nat) : st.value L 110 p = st.add L p (.go (st.begin 0 (.word [117, 108, 108]))) := rfl
theorem value_all (g : Nat) (s : ByteArray) (L : Lm) (ro : Int) (hs : s.size ≤ 140737488351232) (hLb : L.bytes ≤ 262144) (hiL : L.items ≤ 4096) (hdL : L.depth ≤ 32) : ∀ m, ValAll g s L ro m := by
  intro m
  induction m with
  | zero =>
    intro w O tk p st hm hh hnm hnx hsz hhp hbl hG htk
    have := (has_lt hhp).1
    rw [tl_size] at this
    omega
  | succ m ih =>
    intro w O tk p st hm hh hnm hnx hsz hhp hbl hG htk
    have hq := has_lt hhp
    rw [tl_size] at hq
    obtain ⟨hq1, hq2⟩ := hq
    obtain ⟨b, hc⟩ : ∃ b, s.toList.getD p 0 = b := ⟨_, rfl⟩
    rw [hc] at hnx hbl
    have hva := fun p => val_act (L := L) (p := p) hh hbl hnx
    rcases begins_cls b with ⟨h1, h2, h3⟩ | h1 | h1
    · exact value_bad st hG p hs htk hq1 hq2 _ (by rw [hc, hva, val_none h2 h3]) (by rw [hc]; exact h1)
    · by_cases hi : L.items ≤ O.length
      · have hi2 : L.items ≤ st.size := by rw [← hsz]; exact hi
        refine value_full st hG p hs htk hq1 hq2 _ b hc h1 hi ?_
        rw [hva]
        rcases h1 with rfl | rfl | rfl | rfl | rfl | rfl | rfl
        · rw [val_34, add_full hi2]
        · rw [val_123, add_full hi2]
        · rw [val_91, add_full hi2]
        · rw [val_116, add_full hi2]
        · rw [val_102, add_full hi2]
        · rw [val_110, add_full hi2]
        · rw [val_num (y := 1) (by decide) (by decide), add_full hi2]
      · have hi2 : ¬ L.items ≤ st.size := by rw [← hsz]; exact hi
        have hi3 : O.length < L.items := Nat.lt_of_not_le hi
        rcases h1 with rfl | rfl | rfl | rfl | rfl | rfl | rfl
        · exact value_str st hG p hs htk hq1 hq2 _ hc hnm hLb hi3 hiL (by rw [hva, val_34, add_room hi2])
        · by_cases hd : L.depth ≤ st.G.length
          · exact value_deep st hG p hs htk hq1 hq2 123 hc (.inr rfl) ⟨hi3, hd⟩ (by rw [hva, val_123, add_room hi2, if_pos hd])
          · exact value_object st hG p hs htk hq1 hq2 ih hm hnm hsz hc hi3 hiL hLb hdL (Nat.lt_of_not_le hd) (by rw [hva, val_123, add_room hi2, if_neg hd, om_hold st hh hnm])
        · by_cases hd : L.depth ≤ st.G.length
          · exact value_deep st hG p hs htk hq1 hq2 91 hc (.inl rfl) ⟨hi3, hd⟩ (by rw [hva, val_91, add_room hi2, if_pos hd])
          · exact value_array st hG p hs htk hq1 hq2 ih hm hnm hsz hc hi3 hiL hLb hdL (Nat.lt_of_not_le hd) (by rw [hva, val_91, add_room hi2, if_neg hd, am_hold st hh hnm])
        · exact value_w116 st hG p hs htk hq1 hq2 _ hc hi3 hiL (by rw [hva, val_116, add_room hi2])
        · exact value_w102 st hG p hs htk hq1 hq2 _ hc hi3 hiL (by rw [hva, val_102, add_room hi2])
        · exact value_w110 st hG p hs htk hq1 hq2 _ hc hi3 hiL (by rw [hva, val_110, add_room hi2])
        · have ha : st.act L 45 p = .go (st.begin 3 (.num 1 [45])) := by rw [hva, val_num (y := 1) (by decide) (by decide), add_room hi2]
          by_cases hcs : L.bytes < s.size
          · exact value_n0a st hG p hs htk hq1 hq2 _ 45 hc rfl 1 (by decide) hi3 hiL hLb hcs ha
          · exact value_n0b st hG p hs htk hq1 hq2 _ 45 hc rfl 1 (by decide) hi3 hiL hLb hcs ha
    · obtain ⟨y, hy⟩ := num_digit h1
      have hvn := val_num (L := L) (st := st) (p := p) (digit_ne h1) hy
      by_cases hi : L.items ≤ O.length
      · have hi2 : L.items ≤ st.size := by rw [← hsz]; exact hi
        exact value_fulld st hG p hs htk hq1 hq2 _ b hc h1 hi (by rw [hva, hvn, add_full hi2])
      · have hi2 : ¬ L.items ≤ st.size := by rw [← hsz]; exact hi
        have hi3 : O.length < L.items := Nat.lt_of_not_le hi
        have ha : st.act L b p = .go (st.begin 3 (.num y [b])) := by rw [hva, hvn, add_room hi2]
        by_cases hcs : L.bytes < s.size
        · exact value_n1a st hG p hs htk hq1 hq2 _ b hc h1 y hy hi3 hiL hLb hcs ha
        · exact value_n1b st hG p hs htk hq1 hq2 _ b hc h1 y hy hi3 hiL hLb hcs ha
end Jr
end Go.Proofs.YtilfidcomeandaaDoor
