/- json's reader in memory: a name is read; a string is read. -/
import Derived.Test.YtilfidcomeandaaJdF
import Derived.Test.YtilfidcomeandaaJdG
namespace Go.Proofs.Ytilfidcomeandaa
open Go.RowKit
set_option linter.unusedVariables false
set_option linter.unusedSimpArgs false
namespace Jd
open Js
open Dr (Rs Lm has lack)
open Jr (Cl sx wx)
/-- a byte that is taken at once -/
theorem RA.step {o : Out} {st : St} {p g : Nat} {s : ByteArray} {L : Lm} {ro : Int} {w w' : World} {e : Ending} {b : UInt8} (hI : Inv L st p) (hh : has s.toList L p = true) (hx : s.toList.getD p 0 = b) (ha : st.act L b p = o) (hn : ∀ st', o = .go st' → st'.hand = .none) (h : RA o p g s L ro w e w') : RStep st p g s L ro w e w' := by
  have hlt := has_lt hh
  rw [tl_size] at hlt
  cases o with
  | go st' =>
    obtain ⟨rfl, h2, h3⟩ := h
    exact .inl ⟨st', p + 1, by omega, by omega, by omega, hn st' rfl, hI.act ha, cl_go hh hx ha, rfl, h2, h3⟩
  | fl c q =>
    obtain ⟨rfl, h2⟩ := h
    exact .inr ⟨c, q, false, _, _, fl_at hh hx ha, rfl, h2⟩
theorem endStr_none {st : St} (x : List UInt8) (h : st.named = none) : st.endStr x = .go ({ st with cur := withText x st.cur } : St).ended := by
  obtain ⟨nx, hd, nm, cur, G⟩ := st
  cases h
  rfl
theorem str_end {st : St} {L : Lm} {x : Ss} {b : UInt8} {q : Nat} (hx : x.take b = .done) : (sx st x.m x.t).act L b q = (sx st x.m x.t).endStr x.t := by
  show (match (⟨x.m, x.t⟩ : Ss).take b with | .more y => Out.go { sx st x.m x.t with hand := .str y } | .bad => .fl 9 q | .done => (sx st x.m x.t).endStr x.t) = _
  rw [show (⟨x.m, x.t⟩ : Ss) = x from rfl, hx]
section
variable (w : World) (g : Nat) (s : ByteArray) (L : Lm) (ro : Int) (st : St) (p : Nat) (B : List (Option Nat))
set_option maxRecDepth 100000 in
set_option maxHeartbeats 3200000 in
theorem dvalue_str (h : JdB w g s L ro st.nx st.cur st.G p B) (hE : Env s L) (hI : Inv L st p) (hsh : st.hand = .none) (hnm : st.named = none) (hh : has s.toList L p = true) (b : UInt8) (hx : s.toList.getD p 0 = b)
    (ha : st.act L b p = st.add L p (.go (st.begin 4 (.str s0)))) :
    Calls Try.prog 48 #[.pointer (some ⟨g, 0, none⟩), .int .u8 34] w (RStep st p g s L ro w) := by
  have hkd : ∀ f ∈ st.G, f.n ≤ 1000000 := fun f hf => by have := hI.kids f hf; have := (has_lt hh).2; have := hE.b; omega
  have hl : st.G.length ≤ 1000 := by have := hI.deep; have := hE.d; omega
  have hlt := has_lt hh
  rw [tl_size] at hlt
  rw [St.add] at ha
  by_cases hi : L.items ≤ st.size
  · have AD := Lib.hid (dadd_no w g s L ro st.nx st.cur st.G p B h 4 hi)
    rw [if_pos hi] at ha
    have HR : Hid (RunsT s.toList L st p (.no 10 p false) (p + 1) st.G.length) := fl_at hh hx ha
    clear h hE hI hsh hh hx ha hkd hl hi hnm hlt
    go_enter Try.func48, Try.ntmps48
    go_wp2_with fail
    refine AD.out.mono ?_
    rintro e w1 ⟨rfl, hb⟩
    go_wp2_with fail
    exact ⟨rfl, .inr ⟨_, _, _, _, _, HR.out, rfl, hb⟩⟩
  rw [if_neg hi] at ha
  have AD := Lib.hid (dadd_yes w g s L ro st.nx st.cur st.G p B h 4 (by rw [St.size] at hi; omega) hE.i hl hkd)
  obtain ⟨st1, hst1⟩ : ∃ x, st.begin 4 (.str s0) = x := ⟨_, rfl⟩
  have hI1 : Inv L st1 (p + 1) := hI.act (by rw [ha, hst1])
  have hC1 : Cl s.toList L st1 (p + 1) st p := cl_go hh hx (by rw [ha, hst1])
  have hc1 : st1.cur ≠ [] := by rw [← hst1]; simp [St.begin]
  have hw1 : sx st1 .plain [] = st1 := by rw [← hst1]; rfl
  have hnm1 : st1.named = none := by rw [← hst1]; exact hnm
  have hH1 : st1.hand = .str s0 := by rw [← hst1]; rfl
  have hAD : ∀ {e : Ending} {w' : World}, RAdd 4 st.nx st.cur st.G p g s L ro B w e w' → e = .returned (.tuple #[]) ∧ Hid (JdB w' g s L ro st1.nx st1.cur st1.G p B) ∧ Hid (Below g w w') := by
    rintro e w' ⟨h1, h2, h3, -⟩
    rw [← hst1]
    exact ⟨h1, h2, h3⟩
  have HAD := Lib.hid (fun (e : Ending) (w' : World) => @hAD e w')
  have hsz1 : (flat st1.G st1.cur).length ≤ 1000000 := by have h1 : (flat st1.G st1.cur).length ≤ L.items := hI1.size; have := hE.i; omega
  have DT := Lib.hid (fun (w : World) (h : JdB w g s L ro st1.nx st1.cur st1.G p B) => dtext_any w g s L ro st1 p B h hE hh hc1 hsz1)
  have EN := Lib.hid (fun (w : World) (q : Nat) (x : Ss) (h : JdB w g s L ro st1.nx (withText x.t st1.cur) st1.G (q + 1) B) => dended_any w g s L ro { sx st1 x.m x.t with cur := withText x.t st1.cur } (q + 1) ⟨B, h⟩ (by have h1 : st1.G.length ≤ L.depth := hI1.deep; have := hE.d; show st1.G.length ≤ 1000; omega))
  have HRE : Hid (∀ (x : Ss) (q : Nat), p < q → has s.toList L q = true → x.take (s.toList.getD q 0) = .done → (okM x.m ∧ x.t.length ≤ 4 * q) → Cl s.toList L (sx st1 x.m x.t) q (sx st1 .plain []) (p + 1) →
      Inv L ({ sx st1 x.m x.t with cur := withText x.t st1.cur } : St).ended (q + 1) ∧ Cl s.toList L ({ sx st1 x.m x.t with cur := withText x.t st1.cur } : St).ended (q + 1) st p ∧ q + 1 ≤ s.size ∧ q + 1 ≤ L.bytes) := by
    intro x q hpq hq hxt hok hcl
    have hact : (sx st1 x.m x.t).act L (s.toList.getD q 0) q = .go ({ sx st1 x.m x.t with cur := withText x.t st1.cur } : St).ended := by
      rw [str_end hxt, endStr_none _ (show (sx st1 x.m x.t).named = none from hnm1)]
      rfl
    have hI2 : Inv L (sx st1 x.m x.t) q := Inv.hands (hd := .str ⟨x.m, x.t⟩) hI1 (by omega) (by rw [hH1]; simp) (by simp) (fun y hy => ⟨_, rfl⟩) hok
    have hq2 := has_lt hq
    rw [tl_size] at hq2
    refine ⟨hI2.act hact, ?_, by omega, by omega⟩
    rw [hw1] at hcl
    exact Cl.trans (Cl.trans (cl_go hq rfl hact) hcl) hC1
  have HFL : Hid (∀ c q b t k, RunsT s.toList L (sx st1 .plain []) (p + 1) (.no c q b) t k → RunsT s.toList L st p (.no c q b) t k) := by
    intro c q b t k h
    rw [hw1] at h
    exact hC1 _ _ _ h
  clear h hE hI hsh hh hx ha hkd hl hi hst1 hI1 hC1 hw1 hAD hlt hc1 hsz1 hnm hnm1 hH1
  go_enter Try.func48, Try.ntmps48
  go_wp2_with fail
  refine AD.out.mono ?_
  intro e w1 hAD1
  obtain ⟨rfl, hF1, hB1⟩ := HAD.out e w1 hAD1
  clear hAD1
  go_wp2_with fail
  refine (DT.out w1 hF1.out).mono ?_
  rintro e w2 (⟨x, q, hpq, hq, hxt, hok, hcl, rfl, hF2, hB2⟩ | ⟨c, q, b2, t2, k2, hrun, rfl, hB2⟩)
  · obtain ⟨hI3, hC3, hs3, hb3⟩ := HRE.out x q hpq hq hxt hok hcl
    have HI3 := Lib.hid hI3
    have HC3 := Lib.hid hC3
    have HS3 := Lib.hid (And.intro hpq (And.intro hs3 hb3))
    have EN2 := Lib.hid (EN.out w2 q x hF2.out)
    clear hpq hq hxt hok hcl hI3 hC3 hs3 hb3
    go_wp2_with fail
    refine EN2.out.mono ?_
    rintro e w4 ⟨rfl, hF4, hB4⟩
    go_wp2_with fail
    first | go_end0 | refine bodyPost_ret (results_none rfl _ _ _) rfl ?_
    exact .inl ⟨_, q + 1, by have := HS3.out.1; omega, HS3.out.2.1, HS3.out.2.2, rfl, HI3.out, HC3.out, rfl, hF4, (hB1.out.trans hB2.out).trans hB4.out⟩
  · have HR := Lib.hid (HFL.out _ _ _ _ _ hrun)
    clear hrun
    go_wp2_with fail
    exact ⟨rfl, .inr ⟨_, _, _, _, _, HR.out, rfl, hB1.out.trans hB2⟩⟩
set_option maxRecDepth 100000 in
set_option maxHeartbeats 1600000 in
theorem dname_bad (h : JdB w g s L ro st.nx st.cur st.G p B) (hh : has s.toList L p = true) (b : UInt8) (hx : s.toList.getD p 0 = b) (t : Nat) (hc : t ≠ 34) (ha : st.act L b p = .fl 9 p) :
    Calls Try.prog 47 #[.pointer (some ⟨g, 0, none⟩), .int .u8 (t : Int)] w (RStep st p g s L ro w) := by
  have HR : Hid (RunsT s.toList L st p (.no 9 p false) (p + 1) st.G.length) := fl_at hh hx ha
  have PL := Lib.hid (place_ok w g s L.bytes p h.tx.1)
  have FA := Lib.hid (fun w => fail_at 9 p g w)
  have e5 := eqF (n := t) (c := 34) (by omega)
  have e6 : ((t : Int) != 34) = true := by rw [bne, e5]; rfl
  clear h hh hx ha hc
  go_enter Try.func47, Try.ntmps47
  go_wp2_with fail
  refine PL.out.mono ?_
  rintro e w1 ⟨rfl, rfl⟩
  go_wp2_with fail
  refine (FA.out _).mono ?_
  rintro e w1 ⟨rfl, hb⟩
  go_wp2_with fail
  exact ⟨rfl, .inr ⟨_, _, _, _, _, HR.out, rfl, hb⟩⟩
set_option maxRecDepth 100000 in
set_option maxHeartbeats 6400000 in
theorem dname_yes (h : JdB w g s L ro st.nx st.cur st.G p B) (hE : Env s L) (hI : Inv L st p) (hsh : st.hand = .none) (hO : isObj st.G) (hh : has s.toList L p = true) (b : UInt8) (hx : s.toList.getD p 0 = b)
    (ha : st.act L b p = st.add L p (.go { st.begin 4 (.str s0) with named := some p })) :
    Calls Try.prog 47 #[.pointer (some ⟨g, 0, none⟩), .int .u8 34] w (RStep st p g s L ro w) := by
  have hkd : ∀ f ∈ st.G, f.n ≤ 1000000 := fun f hf => by have := hI.kids f hf; have := (has_lt hh).2; have := hE.b; omega
  have hl : st.G.length ≤ 1000 := by have := hI.deep; have := hE.d; omega
  have hlt := has_lt hh
  rw [tl_size] at hlt
  have PL := Lib.hid (place_ok w g s L.bytes p h.tx.1)
  obtain ⟨f, G, xs, hG, hfo⟩ := hO
  have hxs : xs.length ≤ p := hI.names f (by rw [hG]; simp) xs hfo
  obtain ⟨n, hn0⟩ : ∃ n, G.length = n := ⟨_, rfl⟩
  have hn1 : n ≤ 1000 := by rw [hG] at hl; simp at hl; omega
  obtain ⟨bM, B', q0, cap0, hB, c9, d1, hgq⟩ : ∃ bM B' q0 cap0, B = some bM :: B' ∧ w.cell? ⟨g, 0 + 9, none⟩ = some (.slice (some ⟨q0, 0, none⟩) (n + 1) cap0) ∧ w.cell? ⟨q0, n * 2 + 1, none⟩ = some (.map (some bM)) ∧ n + 1 ≤ cap0 := by
    obtain ⟨vV, vS, h4⟩ := h
    rw [hG] at h4
    have hm := h4.maps
    obtain ⟨bM, B', rfl⟩ : ∃ bM B', B = some bM :: B' := by
      cases hm with
      | arr _ ho => rw [hfo] at ho; cases ho
      | obj _ _ _ _ _ => exact ⟨_, _, rfl⟩
    obtain ⟨q, cap, rfl, hcap, hq, hAt⟩ := h4.top
    have c9 := h4.at0.cell 9 _ rfl
    rw [hn0] at c9 hcap hAt
    exact ⟨bM, B', q, cap, rfl, c9, hAt.cell 1 _ rfl, hcap⟩
  have e1 : (n : Int) + 1 - 1 = (n : Int) := by omega
  have e2 : IntKind.i64.wrap (n : Int) = (n : Int) := wrap_fit n (by unfold maxLen; omega)
  have e3 : (n : Int) < (n : Int) + 1 := by omega
  rw [St.add] at ha
  by_cases hi : L.items ≤ st.size
  · have AD := Lib.hid (fun k => dadd_no (w.drewN k) g s L ro st.nx st.cur st.G p B (h.drewN k) 4 hi)
    rw [if_pos hi] at ha
    have HR : Hid (RunsT s.toList L st p (.no 10 p false) (p + 1) st.G.length) := fl_at hh hx ha
    clear h hE hI hsh hh hx ha hkd hl hi hlt hG hfo hxs hn0 hn1 hB
    go_enter Try.func47, Try.ntmps47
    go_wp2_with fail
    refine PL.out.mono ?_
    rintro e w1 ⟨rfl, rfl⟩
    go_wp2_with fail
    go_quiet (fail)
    go_wp2_with fail
    refine (AD.out _).mono ?_
    rintro e w1 ⟨rfl, hb⟩
    go_wp2_with fail
    exact ⟨rfl, .inr ⟨_, _, _, _, _, HR.out, rfl, (below_drewN g w _).trans hb⟩⟩
  rw [if_neg hi] at ha
  have AD := Lib.hid (fun k => dadd_yes (w.drewN k) g s L ro st.nx st.cur st.G p B (h.drewN k) 4 (by rw [St.size] at hi; omega) hE.i hl hkd)
  obtain ⟨st1, hst1⟩ : ∃ x : St, { st.begin 4 (.str s0) with named := some p } = x := ⟨_, rfl⟩
  have hI1 : Inv L st1 (p + 1) := hI.act (by rw [ha, hst1])
  have hC1 : Cl s.toList L st1 (p + 1) st p := cl_go hh hx (by rw [ha, hst1])
  have hc1 : st1.cur ≠ [] := by rw [← hst1]; simp [St.begin]
  have hw1 : sx st1 .plain [] = st1 := by rw [← hst1]; rfl
  have hnm1 : st1.named = some p := by rw [← hst1]
  have hH1 : st1.hand = .str s0 := by rw [← hst1]; rfl
  have hG1 : st1.G = ({ f with n := f.n + 1 } : Fr) :: G := by rw [← hst1]; show bump st.G = _; rw [hG]; rfl
  have hAD : ∀ {e : Ending} {w w' : World}, RAdd 4 st.nx st.cur st.G p g s L ro B w e w' → e = .returned (.tuple #[]) ∧ Hid (JdB w' g s L ro st1.nx st1.cur st1.G p B) ∧ Hid (Below g w w') := by
    rintro e w w' ⟨h1, h2, h3, -⟩
    rw [← hst1]
    exact ⟨h1, h2, h3⟩
  have HAD := Lib.hid (fun (e : Ending) (w w' : World) => @hAD e w w')
  have hsz1 : (flat st1.G st1.cur).length ≤ L.items := hI1.size
  have hit := hE.i
  have DT := Lib.hid (fun (w : World) (h : JdB w g s L ro st1.nx st1.cur st1.G p B) => dtext_any w g s L ro st1 p B h hE hh hc1 (by omega))
  have FA := Lib.hid (fun w => fail_at 9 p g w)
  have HRT : Hid (∀ (x : Ss) (q : Nat), p < q → has s.toList L q = true → x.take (s.toList.getD q 0) = .done → (okM x.m ∧ x.t.length ≤ 4 * q) → Cl s.toList L (sx st1 x.m x.t) q (sx st1 .plain []) (p + 1) → x.t ∈ xs → ∃ t k, RunsT s.toList L st p (.no 9 p false) t k) := by
    intro x q hpq hq hxt hok hcl hin
    have hact : (sx st1 x.m x.t).act L (s.toList.getD q 0) q = .fl 9 p := by
      rw [str_end hxt, St.endStr, show (sx st1 x.m x.t).named = some p from hnm1]
      show (if x.t ∈ (sx st1 x.m x.t).names then Out.fl 9 p else _) = _
      rw [if_pos]
      show x.t ∈ (match st1.G with | [] => [] | f :: _ => f.o.getD [])
      rw [hG1]
      show x.t ∈ f.o.getD []
      rw [hfo]
      exact hin
    rw [hw1] at hcl
    exact ⟨_, _, hC1 _ _ _ (hcl _ _ _ (fl_at hq rfl hact))⟩
  have HRE : Hid (∀ (x : Ss) (q : Nat), p < q → has s.toList L q = true → x.take (s.toList.getD q 0) = .done → (okM x.m ∧ x.t.length ≤ 4 * q) → Cl s.toList L (sx st1 x.m x.t) q (sx st1 .plain []) (p + 1) → x.t ∉ xs →
      Inv L ({ sx st1 x.m x.t with cur := withText x.t st1.cur, hand := .none, named := none, nx := 4, G := addName x.t st1.G } : St) (q + 1) ∧ Cl s.toList L ({ sx st1 x.m x.t with cur := withText x.t st1.cur, hand := .none, named := none, nx := 4, G := addName x.t st1.G } : St) (q + 1) st p ∧ q + 1 ≤ s.size ∧ q + 1 ≤ L.bytes) := by
    intro x q hpq hq hxt hok hcl hin
    have hact : (sx st1 x.m x.t).act L (s.toList.getD q 0) q = .go ({ sx st1 x.m x.t with cur := withText x.t st1.cur, hand := .none, named := none, nx := 4, G := addName x.t st1.G } : St) := by
      rw [str_end hxt, St.endStr, show (sx st1 x.m x.t).named = some p from hnm1]
      show (if x.t ∈ (sx st1 x.m x.t).names then Out.fl 9 p else _) = _
      rw [if_neg]
      · rfl
      show ¬ x.t ∈ (match st1.G with | [] => [] | f :: _ => f.o.getD [])
      rw [hG1]
      show ¬ x.t ∈ f.o.getD []
      rw [hfo]
      exact hin
    have hI2 : Inv L (sx st1 x.m x.t) q := Inv.hands (hd := .str ⟨x.m, x.t⟩) hI1 (by omega) (by rw [hH1]; simp) (by simp) (fun y hy => ⟨_, rfl⟩) hok
    have hq2 := has_lt hq
    rw [tl_size] at hq2
    refine ⟨hI2.act hact, ?_, by omega, by omega⟩
    rw [hw1] at hcl
    exact Cl.trans (Cl.trans (cl_go hq rfl hact) hcl) hC1
  have HFL : Hid (∀ c q b t k, RunsT s.toList L (sx st1 .plain []) (p + 1) (.no c q b) t k → RunsT s.toList L st p (.no c q b) t k) := by
    intro c q b t k h
    rw [hw1] at h
    exact hC1 _ _ _ h
  -- the names, and the list's length, behind the text
  have HNM : Hid (∀ (w : World) (q : Nat) (x : Ss), JdB w g s L ro st1.nx (withText x.t st1.cur) st1.G (q + 1) B → ∃ aV cV m, NamesM w bM xs ∧ g + 1 ≤ bM ∧ w.cell? ⟨g, 0 + 8, none⟩ = some (.slice aV (m + 1) cV) ∧ m ≤ 1000000 ∧ g < w.heap.size ∧
      (∀ w', NamesM w' bM (xs ++ [x.t]) → w.grownBy w' (some bM) → JdB w' g s L ro st1.nx (withText x.t st1.cur) (addName x.t st1.G) (q + 1) B)) := by
    rintro w q x ⟨vV, vS, h5⟩
    have hlen : (flat st1.G (withText x.t st1.cur)).length = (flat st1.G st1.cur).length := flat_length _ _ _ (withText_length _ _)
    have hpos := last_pos (G := st1.G) hc1
    obtain ⟨m, hm⟩ : ∃ m, (flat st1.G st1.cur).length = m + 1 := ⟨(flat st1.G st1.cur).length - 1, by omega⟩
    obtain ⟨aV, cV, rfl, -⟩ := own_form h5.vals
    have c8 := h5.at0.cell 8 _ rfl
    rw [hlen, hm] at c8
    have hlt5 := h5.lt
    have hmp := h5.maps
    rw [hG1, hB] at hmp
    cases hmp with
    | obj _ ho hmm hbb _ =>
      have ho2 : f.o = some _ := ho
      rw [hfo] at ho2
      obtain rfl := Option.some.inj ho2
      refine ⟨aV, cV, m, hmm, hbb, c8, by omega, hlt5, fun w' hw' hg' => ?_⟩
      have h6 := h5
      rw [hG1, hB] at h6
      have h7 := h6.name hg' hw' hfo
      have hfl : flat (addName x.t (({ f with n := f.n + 1 } : Fr) :: G)) (withText x.t st1.cur) = flat (({ f with n := f.n + 1 } : Fr) :: G) (withText x.t st1.cur) := addName_flat _ _ (.inl ⟨({ f with n := f.n + 1 } : Fr), G, xs, rfl, hfo⟩) _
      rw [← hfl, ← hG1, ← hB] at h7
      exact ⟨_, _, h7⟩
  have HLB : Hid (L.bytes ≤ 262144) := hE.b
  have HXL : Hid (xs.length ≤ 1000000) := by show _ ≤ _; have := hE.b; omega
  have HBM : Hid (B = some bM :: B') := hB
  clear h hE hI hsh hh hx ha hkd hl hi hst1 hI1 hC1 hw1 hAD hlt hc1 hsz1 hnm1 hH1 hit hG hfo hxs hn0 hn1 hB hG1
  go_enter Try.func47, Try.ntmps47
  go_wp2_with fail
  refine PL.out.mono ?_
  rintro e w1 ⟨rfl, rfl⟩
  go_wp2_with fail
  go_quiet (fail)
  go_wp2_with fail
  refine (AD.out _).mono ?_
  intro e w1 hAD1
  obtain ⟨rfl, hF1, hB1⟩ := HAD.out e _ w1 hAD1
  have HB1 : Hid (Below g w w1) := (below_drewN g w _).trans hB1.out
  clear hAD1 hB1 c9 d1
  go_wp2_with fail
  refine (DT.out w1 hF1.out).mono ?_
  rintro e w2 (⟨x, q, hpq, hq, hxt, hok, hcl, rfl, hF2, hB2⟩ | ⟨c, q, b2, t2, k2, hrun, rfl, hB2⟩)
  · obtain ⟨X, hX⟩ : ∃ X : ByteArray, X = ⟨x.t.toArray⟩ := ⟨_, rfl⟩
    obtain ⟨aV, cV, m, hNM, hbM, c8, hm, hgl, hput⟩ := HNM.out w2 q x hF2.out
    have hXs : X.size ≤ 140737488351232 := by
      rw [hX]
      show x.t.toArray.size ≤ _
      have h1 := hok.2
      have h2 := (has_lt hq).2
      have h3 := HLB.out
      simp
      omega
    have hXt : X.data.toList = x.t := by rw [hX]
    have HXX : Hid (X.size ≤ 140737488351232 ∧ X.data.toList = x.t) := ⟨hXs, hXt⟩
    have HN2 := Lib.hid hNM
    have HBM2 : Hid (g + 1 ≤ bM ∧ m ≤ 1000000 ∧ g < w2.heap.size) := ⟨hbM, hm, hgl⟩
    have HPU := Lib.hid hput
    have e4 : (m : Int) + 1 - 1 = (m : Int) := by omega
    have e5 : IntKind.i64.wrap (m : Int) = (m : Int) := wrap_fit m (by unfold maxLen; omega)
    rw [← hX]
    by_cases hin : x.t ∈ xs
    · obtain ⟨t3, k3, hr3⟩ := HRT.out x q hpq hq hxt hok hcl hin
      have HR := Lib.hid hr3
      have htd : decide (X.data.toList ∈ xs) = true := by rw [hXt]; exact decide_eq_true hin
      clear hpq hq hxt hok hcl hin hr3 hNM hbM hm hgl hput hX hXs hXt
      go_wp2_with (first | (at_lookup; refine wpList_name_there rfl _ _ rfl bM xs rfl HN2.out X rfl HXX.out.1 ?_; intro c; rw [htd]))
      refine (FA.out _).mono ?_
      rintro e w3 ⟨rfl, hb⟩
      go_wp2_with fail
      exact ⟨rfl, .inr ⟨_, _, _, _, _, HR.out, rfl, (HB1.out.trans hB2.out).trans hb⟩⟩
    · obtain ⟨hI3, hC3, hs3, hb3⟩ := HRE.out x q hpq hq hxt hok hcl hin
      have HI3 := Lib.hid hI3
      have HC3 := Lib.hid hC3
      have HS3 := Lib.hid (And.intro hpq (And.intro hs3 hb3))
      have htd : decide (X.data.toList ∈ xs) = false := by rw [hXt]; exact decide_eq_false hin
      clear hpq hq hxt hok hcl hin hI3 hC3 hs3 hb3 hNM hbM hm hgl hput hX hXs hXt
      go_wp2_with (first | (at_lookup; refine wpList_name_there rfl _ _ rfl bM xs rfl HN2.out X rfl HXX.out.1 ?_; intro c; rw [htd]) | (refine wpList_name_put rfl (.tmp 44) (.tmp 45) (.tmp 51) rfl bM xs rfl HN2.out HXL.out X rfl HXX.out.1 m rfl HBM2.out.2.1 ?_; intro w3 hNM3 hgr3; rw [HXX.out.2] at hNM3; obtain ⟨vV3, vS3, h3⟩ := HPU.out w3 hNM3 hgr3; have c7 := h3.at0.cell 7 _ rfl; have f7 := h3.at0.froz 7 (by show 7 < 10; decide); have HJ3 := Lib.hid (h3.set 7 (.int .i64 4) (nx' := 4) rfl); have HG3 := Lib.hid hgr3; clear hNM3 hgr3 h3))
      first | go_end0 | refine bodyPost_ret (results_none rfl _ _ _) rfl ?_
      refine .inl ⟨_, q + 1, by have := HS3.out.1; omega, HS3.out.2.1, HS3.out.2.2, rfl, HI3.out, HC3.out, rfl, ⟨B, vV3, vS3, HJ3.out⟩, ?_⟩
      exact ((HB1.out.trans hB2.out).grown (row := some bM) HG3.out (Nat.le_of_lt HBM2.out.2.2) (fun q hq => by cases hq; have := HBM2.out.1; omega)).setCell (p := ⟨g, 7, none⟩) (Nat.le_refl g) _
  · have HR := Lib.hid (HFL.out _ _ _ _ _ hrun)
    clear hrun
    go_wp2_with fail
    exact ⟨rfl, .inr ⟨_, _, _, _, _, HR.out, rfl, HB1.out.trans hB2⟩⟩
end
end Jd
end Go.Proofs.Ytilfidcomeandaa
