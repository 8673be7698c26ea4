/- A feed of values in memory: add, begin, hold. -/
import Derived.Test.YtilfidcomeandaaJfB
import Derived.BigRegion
namespace Go.Proofs.Ytilfidcomeandaa
open Go.RowKit
set_option linter.unusedVariables false
set_option linter.unusedSimpArgs false
namespace Jf
open Js
open Dr (Rs Lm has lack)
/-- what is at hand and maps are kept, whatever they are -/
structure Kp (w w' : World) (β : Nat) : Prop where
  hand : ∀ hd v, HandM w β hd v → HandM w' β hd v
  names : ∀ b xs, NamesM w b xs → NamesM w' b xs
theorem Kp.refl (w : World) (β : Nat) : Kp w w β := ⟨fun _ _ h => h, fun _ _ h => h⟩
theorem Kp.trans {a b c : World} {β : Nat} (h : Kp a b β) (k : Kp b c β) : Kp a c β := ⟨fun hd v x => k.hand hd v (h.hand hd v x), fun m xs x => k.names m xs (h.names m xs x)⟩
theorem Kp.drewN (w : World) (β n : Nat) : Kp w (w.drewN n) β := ⟨fun _ _ h => h.drewN n, fun _ _ h => h.same rfl⟩
theorem Kp.grown {a w w' : World} {β : Nat} {row : Option Nat} (h : Kp a w β) (hg : w.grownBy w' row) (hr : ∀ q, row = some q → Oth w β q) (hn : ∀ b xs, NamesM w b xs → some b ≠ row) : Kp a w' β :=
  h.trans ⟨fun _ _ x => x.kept hg hr, fun b xs x => x.kept hg (hn b xs x)⟩
theorem Kp.alloc (w : World) (β : Nat) (o : Obj) : Kp w (w.alloc o) β := (Kp.refl w β).grown (World.grownBy_alloc w o none) (fun q hq => by cases hq) (fun _ _ _ => by simp)
theorem Kp.setC {a w : World} {β : Nat} (h : Kp a w β) (p : Addr) (u : Value) {v : Value} (hp : p.block < β) (hc : w.cell? p = some v) : Kp a (w.setCell p u) β :=
  h.grown (grown_set w p u) (fun q hq => by cases hq; exact .inl hp) (fun b xs hm e => by
    injection e with e
    obtain ⟨es, ck, hb⟩ := hm.obj
    rw [e] at hb
    unfold World.cell? at hc
    rw [hb] at hc
    cases hc)
theorem flat_kids (t : Fr) (G : List Fr) (cur : List Vl) : (flat (t :: G) cur).modify (flat G t.b).length (fun v => { v with kids := v.kids + 1 }) = flat (bump (t :: G)) cur := by
  rw [flat_cons, bump, flat_cons]
  have h : ∀ (a : List Vl) (x : Vl) (b : List Vl) (y : Vl → Vl), (a ++ x :: b).modify a.length y = a ++ y x :: b := by
    intro a x b y
    induction a with
    | nil => rfl
    | cons z a ih => rw [List.cons_append, List.length_cons, List.modify_succ_cons, ih]; rfl
  rw [h]
  rfl
theorem flat_at (t : Fr) (G : List Fr) (cur : List Vl) : (flat (t :: G) cur).getD (flat G t.b).length v0 = Js.hold t := by
  rw [flat_cons, List.getD, List.getElem?_append_right (Nat.le_refl _), Nat.sub_self]; rfl
def added (s : St) (kind : Int) : St := { s with cur := s.cur ++ [⟨kind, 0, []⟩], G := bump s.G }
def RAdd (s : St) (kind : Int) (g β : Nat) (L : Lm) (ro : Int) (k : Nat) (B : List (Option Nat)) (w : World) (e : Ending) (w' : World) : Prop :=
  e = .returned (.bool true) ∧ Hid (FmB w' g β L ro (added s kind) k B) ∧ Hid (Bx g β w w') ∧ Hid (Kp w w' β)
section
variable (w : World) (g β : Nat) (L : Lm) (ro : Int) (s : St) (k : Nat) (B : List (Option Nat))
set_option maxRecDepth 100000 in
set_option maxHeartbeats 1600000 in
theorem fadd_no (h : FmS w g β L ro s k) (kind : Int) (p : Nat) (hp : k = p + 1) (hk : k ≤ 262144) (hi : L.items ≤ s.size) :
    Calls Try.prog 83 #[.pointer (some ⟨g, 0, none⟩), .int .i64 kind] w (fun e w' => e = .returned (.bool false) ∧ Hid (DeadM w' g β L ro 10 p s.G.length k) ∧ Hid (Bx g β w w')) := by
  have FA := Lib.hid (fun n => ffault_any (w.drewN n) g β L ro s k (h.drewN n) 10 p (p : Int) rfl)
  obtain ⟨B, vV, vS, vH, a, h, hn⟩ := h
  have hgb := h.gb
  obtain ⟨aV, cV, rfl, -⟩ := own_form h.vals
  have h1 := h.at0.cell 1 _ rfl
  have h4 := h.at0.cell 4 _ rfl
  have h5 := h.at0.cell 5 _ rfl
  obtain ⟨m, hm⟩ : ∃ m, (flat s.G s.cur).length = m := ⟨_, rfl⟩
  rw [St.size, hm] at hi
  rw [hm] at h5
  have e0 : (L.items : Int) ≤ (m : Int) := by omega
  have e1 : (k : Int) - 1 = (p : Int) := by omega
  have e2 : IntKind.i64.wrap (p : Int) = (p : Int) := wrap_fit p (by unfold maxLen; omega)
  clear h hp hk hn hm hi
  go_enter Try.func83, Try.ntmps83
  go_wp2_with fail
  go_quiet (fail)
  go_wp2_with fail
  refine (FA.out _).mono ?_
  rintro e w4 ⟨rfl, hF4, hB4⟩
  go_wp2_with fail
  go_ret
  exact ⟨rfl, hF4, (bx_drewN g β w _).trans hB4.out⟩
set_option maxRecDepth 100000 in
set_option maxHeartbeats 3200000 in
theorem fadd_nil (h : FmB w g β L ro s k B) (kind : Int) (hi : s.size < L.items) (hL : L.items ≤ 4096) (hG : s.G = []) :
    Calls Try.prog 83 #[.pointer (some ⟨g, 0, none⟩), .int .i64 kind] w (RAdd s kind g β L ro k B w) := by
  obtain ⟨vV, vS, vH, a, h, hn⟩ := h
  have HN := Lib.hid hn
  have hgb := h.gb
  obtain ⟨aV, cV, rfl, -⟩ := own_form h.vals
  obtain ⟨aS, cS, rfl, -⟩ := own_form h.stack
  have h1 := h.at0.cell 1 _ rfl
  have h5 := h.at0.cell 5 _ rfl
  have h6 := h.at0.cell 6 _ rfl
  rw [hG] at h6
  obtain ⟨m, hm⟩ : ∃ m, (flat s.G s.cur).length = m := ⟨_, rfl⟩
  rw [St.size, hm] at hi
  rw [hm] at h5
  have e0 : ¬ (L.items : Int) ≤ (m : Int) := by omega
  have HF := Lib.hid h
  have HL := Lib.hid (And.intro hi hL)
  have hfl : flat (added s kind).G (added s kind).cur = flat s.G s.cur ++ [⟨kind, 0, []⟩] := by rw [added, hG]; rfl
  have hGG : (added s kind).G = s.G := by rw [added, hG]; rfl
  have HFL := Lib.hid (And.intro hfl (And.intro hGG hm))
  clear h hn hm hi hL hfl hGG
  go_enter Try.func83, Try.ntmps83
  go_wp2_with fail
  go_quiet (fail)
  go_upto_region 6 with fail
  have HF2 : Hid (Jm (w.drewN nq) g β L ro k (flat s.G s.cur) s.G B s.hand (.slice aV (flat s.G s.cur).length cV) (.slice aS s.G.length cS) vH s.nx s.named.isSome a 0 0) := HF.out.drewN nq
  rw [HFL.out.2.2] at HF2
  have HB2 : Hid (Bx g β w (w.drewN nq)) := bx_drewN g β w nq
  have HK2 : Hid (Kp w (w.drewN nq) β) := Kp.drewN w β nq
  obtain ⟨l2, hl2⟩ : ∃ l, flat s.G s.cur = l := ⟨_, rfl⟩
  rw [hl2] at HF2 HFL
  have HX : Hid (l2.length = m ∧ m ≤ 4096) := ⟨HFL.out.2.2, by have := HL.out; omega⟩
  clear hl2
  generalize w.drewN nq = w2 at HF2 HB2 HK2 ⊢
  clear h5 h6 h1
  have c5 := HF2.out.at0.cell 5 _ rfl
  have HV2 : Hid (w2.ownsRow β 62 3 (.slice aV m cV) m (vcells l2)) := by have h8 := HF2.out.vals; rw [HX.out.1] at h8; exact h8
  go_wp2_with (at_builtin; refine wpList_append_vl rfl (.tmp 56) (.tmp 59) rfl β _ m l2 rfl (HV2.out.alloc _) _ 1 (⟨kind, 0, []⟩ : Vl) rfl (at_cellsW (vv_new kind) (At.ofAlloc _ #[Value.int .i64 kind, Value.int .i64 0, Value.string ByteArray.empty] 62)) (by have := HX.out.2; omega) (by have := HF2.out.bs; simp; omega) ?_; intro v5 w5 hown5 hgrow5; obtain ⟨a5, c5', hv5, -⟩ := own_form hown5; subst hv5; have hAt5 := At.grown ((HF2.out.alloc _).at0) hgrow5 (HF2.out.alloc _).lt (fun e => by have := (HF2.out.vals.lt g e).1; have := HF2.out.gb; omega); have hf55 := hAt5.froz 5 (by show 5 < 13; decide); have hc55 := hAt5.cell 5 _ rfl; have HR5 := Lib.hid (Jm.growV (l' := l2 ++ [(⟨kind, 0, []⟩ : Vl)]) (HF2.out.alloc _) hgrow5 (by rw [List.length_append, HX.out.1]; exact hown5)); have HB5 := Lib.hid ((((HB2.out).alloc HF2.out.bs _).grown hgrow5 (by have := HF2.out.bs; simp; omega) (fun k hk => (HF2.out.vals.lt k hk).1)).setG (o := 5) (.slice a5 (m + 1) c5')); have HK5 := Lib.hid (HK2.out.trans (((Kp.alloc w2 β _).grown hgrow5 (fun q hq => (HF2.out.alloc _).othV q hq) (fun b xs hm => hm.ne_row (HF2.out.vals.alloc _))).setC ⟨g, 5, none⟩ (.slice a5 (m + 1) c5') HF2.out.gb hc55)); clear hAt5 hgrow5 hown5)
  go_ret
  have h9 := HR5.out
  rw [← HFL.out.1, ← HFL.out.2.1] at h9
  exact ⟨rfl, ⟨_, _, _, a, h9, HN.out⟩, HB5, HK5⟩
set_option maxRecDepth 100000 in
set_option maxHeartbeats 6400000 in
theorem fadd_cons (h : FmB w g β L ro s k B) (kind : Int) (hi : s.size < L.items) (hL : L.items ≤ 4096) (hl : s.G.length ≤ 1000) (hk : ∀ f ∈ s.G, f.n ≤ 1000000) (t : Fr) (G : List Fr) (hG : s.G = t :: G) :
    Calls Try.prog 83 #[.pointer (some ⟨g, 0, none⟩), .int .i64 kind] w (RAdd s kind g β L ro k B w) := by
  obtain ⟨vV, vS, vH, a, h, hn⟩ := h
  have HN := Lib.hid hn
  have hgb := h.gb
  have hkt := hk t (by rw [hG]; simp)
  rw [hG] at h hl
  have hB0 := h.maps.length
  obtain ⟨bm, B, rfl⟩ : ∃ b B', B = b :: B' := by cases B with | nil => cases hB0 | cons b B => exact ⟨b, B, rfl⟩
  obtain ⟨i, hii⟩ : ∃ i, (flat G t.b).length = i := ⟨_, rfl⟩
  obtain ⟨m, hm⟩ : ∃ m, (flat (t :: G) s.cur).length = m := ⟨_, rfl⟩
  have him : i < m := by rw [← hii, ← hm, flat_cons, List.length_append]; simp
  obtain ⟨qS, capS, rfl, hcapS, hqS, hAtS⟩ := h.top
  obtain ⟨qV, capV, rfl, hqV, hAtV⟩ := h.value i (by omega)
  rw [← hii, flat_at] at hAtV
  rw [hii] at hAtV hAtS
  have hfz : (Js.hold t).kids = (t.n : Int) := rfl
  obtain ⟨n, hn0⟩ : ∃ n, G.length = n := ⟨_, rfl⟩
  have h1 := h.at0.cell 1 _ rfl
  have h5 := h.at0.cell 5 _ rfl
  have h6 := h.at0.cell 6 _ rfl
  rw [hn0] at h6 hAtS
  rw [hm] at h5
  have d0 := hAtS.cell 0 _ rfl
  rw [Nat.add_zero] at d0
  have d1 := hAtV.cell 1 _ rfl
  rw [hfz] at d1
  have fd1 := hAtV.froz 1 (by show 1 < 3; decide)
  rw [St.size, hG, hm] at hi
  have e0 : ¬ (L.items : Int) ≤ (m : Int) := by omega
  have e1 : (n : Int) + 1 - 1 = (n : Int) := by omega
  have e2 : IntKind.i64.wrap (n : Int) = (n : Int) := wrap_fit n (by unfold maxLen; simp at hl; omega)
  have e3 : (n : Int) < (n : Int) + 1 := by omega
  have e3b : (0 : Int) < (n : Int) + 1 := by omega
  have e4 : (i : Int) < (m : Int) := by omega
  obtain ⟨z, hz⟩ : ∃ z, t.n + 1 = z := ⟨_, rfl⟩
  obtain ⟨tn, htn⟩ : ∃ z, t.n = z := ⟨_, rfl⟩
  rw [htn] at d1 hz hkt
  have e5 : (tn : Int) + 1 = (z : Int) := by omega
  have e6 : IntKind.i64.wrap (z : Int) = (z : Int) := wrap_fit z (by unfold maxLen; omega)
  have HFL : Hid (flat (added s kind).G (added s kind).cur = flat (bump (t :: G)) s.cur ++ [⟨kind, 0, []⟩] ∧ (added s kind).G = bump (t :: G) ∧ (flat (bump (t :: G)) s.cur).length = m ∧ (flat (t :: G) s.cur).length = m) := by
    refine ⟨?_, ?_, ?_, hm⟩
    · rw [added, hG]; exact flat_app _ _ _
    · rw [added, hG]
    · rw [flat_bump_length, hm]
  have HS : Hid (∀ w : World, Jm w g β L ro k (flat (t :: G) s.cur) (t :: G) (bm :: B) s.hand (.slice (some ⟨qV, 0, none⟩) m capV) (.slice (some ⟨qS, 0, none⟩) (n + 1) capS) vH s.nx s.named.isSome a 0 0 → Jm (w.setCell ⟨qV, i * 3 + 1, none⟩ (.int .i64 (z : Int))) g β L ro k (flat (bump (t :: G)) s.cur) (bump (t :: G)) (bm :: B) s.hand (.slice (some ⟨qV, 0, none⟩) m capV) (.slice (some ⟨qS, 0, none⟩) (n + 1) capS) vH s.nx s.named.isSome a 0 0) := by
    intro w h
    have h8 := h.setVal rfl hm i 1 (by omega) (by decide) (.int .i64 (z : Int)) (fun v => { v with kids := v.kids + 1 }) (by rw [← hii, flat_at]; show [_, _, _] = [_, _, _]; rw [show ((z : Nat) : Int) = (Js.hold t).kids + 1 by rw [hfz, htn]; omega])
    rw [← hii, flat_kids] at h8
    rw [hii] at h8
    exact ⟨h8.at0, h8.vals, by rw [gcells_bump, bump_length]; exact h8.stack, h8.maps.bump, h8.hand, h8.gb, h8.bs⟩
  have HF := Lib.hid h
  rw [hm, hn0] at HF
  have HL := Lib.hid (And.intro hi hL)
  have HQ := Lib.hid (And.intro hqV (And.intro hfz htn))
  clear h hn hm hi hL hAtS hAtV hB0 hG hl hkt hn0 hii him hfz htn hz hk
  go_enter Try.func83, Try.ntmps83
  go_wp2_with fail
  go_quiet (fail)
  go_upto_region 5 with fail
  go_region
  go_upto_region 6 with fail
  have HF1 := HF.out.drewN (nq + 1)
  have HF2 := Lib.hid (HS.out _ HF1)
  have HB2 : Hid (Bx g β w ((w.drewN (nq + 1)).setCell ⟨qV, i * 3 + 1, none⟩ (.int .i64 (z : Int)))) := (bx_drewN g β w (nq + 1)).setCell HQ.out.1 _
  have HK2 : Hid (Kp w ((w.drewN (nq + 1)).setCell ⟨qV, i * 3 + 1, none⟩ (.int .i64 (z : Int))) β) := (Kp.drewN w β (nq + 1)).grown (grown_set _ ⟨qV, i * 3 + 1, none⟩ _) (fun q hq => by cases hq; exact HF1.othV qV rfl) (fun b xs hm => hm.ne_row HF1.vals)
  clear HF1
  obtain ⟨l2, hl2⟩ : ∃ l, flat (bump (t :: G)) s.cur = l := ⟨_, rfl⟩
  rw [hl2] at HF2 HFL
  have HX : Hid (l2.length = m ∧ m ≤ 4096) := ⟨HFL.out.2.2.1, by have := HL.out; omega⟩
  clear hl2
  generalize (w.drewN (nq + 1)).setCell ⟨qV, i * 3 + 1, none⟩ (.int .i64 (z : Int)) = w2 at HF2 HB2 HK2 ⊢
  clear h5 h6 h1 d0 d1 fd1
  have c5 := HF2.out.at0.cell 5 _ rfl
  have HV2 : Hid (w2.ownsRow β 62 3 (.slice (some ⟨qV, 0, none⟩) m capV) m (vcells l2)) := by have h8 := HF2.out.vals; rw [HX.out.1] at h8; exact h8
  go_wp2_with (at_builtin; refine wpList_append_vl rfl (.tmp 56) (.tmp 59) rfl β _ m l2 rfl (HV2.out.alloc _) _ 1 (⟨kind, 0, []⟩ : Vl) rfl (at_cellsW (vv_new kind) (At.ofAlloc _ #[Value.int .i64 kind, Value.int .i64 0, Value.string ByteArray.empty] 62)) (by have := HX.out.2; omega) (by have := HF2.out.bs; simp; omega) ?_; intro v5 w5 hown5 hgrow5; obtain ⟨a5, c5', hv5, -⟩ := own_form hown5; subst hv5; have hAt5 := At.grown ((HF2.out.alloc _).at0) hgrow5 (HF2.out.alloc _).lt (fun e => by have := (HF2.out.vals.lt g e).1; have := HF2.out.gb; omega); have hf55 := hAt5.froz 5 (by show 5 < 13; decide); have hc55 := hAt5.cell 5 _ rfl; have HR5 := Lib.hid (Jm.growV (l' := l2 ++ [(⟨kind, 0, []⟩ : Vl)]) (HF2.out.alloc _) hgrow5 (by rw [List.length_append, HX.out.1]; exact hown5)); have HB5 := Lib.hid ((((HB2.out).alloc HF2.out.bs _).grown hgrow5 (by have := HF2.out.bs; simp; omega) (fun k hk => (HF2.out.vals.lt k hk).1)).setG (o := 5) (.slice a5 (m + 1) c5')); have HK5 := Lib.hid (HK2.out.trans (((Kp.alloc w2 β _).grown hgrow5 (fun q hq => (HF2.out.alloc _).othV q hq) (fun b xs hm => hm.ne_row (HF2.out.vals.alloc _))).setC ⟨g, 5, none⟩ (.slice a5 (m + 1) c5') HF2.out.gb hc55)); clear hAt5 hgrow5 hown5)
  go_ret
  have h9 := HR5.out
  rw [← HFL.out.1, ← HFL.out.2.1] at h9
  exact ⟨rfl, ⟨_, _, _, a, h9, HN.out⟩, HB5, HK5⟩
theorem fadd_yes (h : FmB w g β L ro s k B) (kind : Int) (hi : s.size < L.items) (hL : L.items ≤ 4096) (hl : s.G.length ≤ 1000) (hk : ∀ f ∈ s.G, f.n ≤ 1000000) :
    Calls Try.prog 83 #[.pointer (some ⟨g, 0, none⟩), .int .i64 kind] w (RAdd s kind g β L ro k B w) := by
  cases hG : s.G with
  | nil => exact fadd_nil w g β L ro s k B h kind hi hL hG
  | cons t G => exact fadd_cons w g β L ro s k B h kind hi hL hl hk t G hG
end
end Jf
end Go.Proofs.Ytilfidcomeandaa
