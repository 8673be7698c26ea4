/- json's reader in memory: a string is read. -/
import Derived.Test.YtilfidcomeandaaJdC
import Derived.Deep.LoopGhost
namespace Go.Proofs.Ytilfidcomeandaa
open Go.RowKit
set_option linter.unusedVariables false
set_option linter.unusedSimpArgs false
namespace Jd
open Js
open Dr (Rs Lm has lack)
open Jr (Cl sx wx)
theorem StrM.kept {w w' : World} {h g : Nat} {x : Ss} (m : StrM w h x) (hg : w.grownBy w' (some g)) (hl : g < h) : StrM w' h x := by
  obtain ⟨wh, vT, left, num, half, low, high, hx, hw⟩ := m
  refine ⟨wh, vT, left, num, half, low, high, ⟨hx.at0.grown hg hx.lt (by intro e; cases e; omega), hx.text.kept hg ?_⟩, hw⟩
  cases hv : vT.ownBlock with
  | none => exact .inl rfl
  | some q => exact .inr (fun e => by cases e; have := (hx.text.lt g hv).1; omega)
theorem NotT.kept {w w' : World} {h g : Nat} (m : NotT w h) (hg : w.grownBy w' (some g)) (hh : h < w.heap.size) (hl : g < h) : NotT w' h := m.same (hg.block h hh (fun e => by cases e; omega))
theorem StrM.at1 {w : World} {h : Nat} {x : Ss} (m : StrM w h x) : (∃ c cs, At w h 0 (c :: cs)) ∧ h < w.heap.size := by
  obtain ⟨wh, vT, left, num, half, low, high, hx, hw⟩ := m
  exact ⟨⟨_, _, hx.at0⟩, hx.lt⟩
def freshS : Obj := Obj.cells #[.int .i64 0, .slice none 0 0, .int .i64 0, .int .i32 0, .int .i32 0, .int .u8 0, .int .u8 0] 111
def InText (g : Nat) (s : ByteArray) (L : Lm) (ro : Int) (st : St) (p : Nat) (B : List (Option Nat)) (h : Nat) (w : World) (gk : Nat) (wr : World) : Prop :=
  ∃ x q, Hid (JdB wr g s L ro st.nx st.cur st.G q B) ∧ Hid (StrM wr h x) ∧ Hid (okM x.m ∧ x.t.length ≤ 4 * q ∧ p < q ∧ q ≤ s.size ∧ q ≤ L.bytes ∧ s.size - q < gk ∧ Cl s.toList L (sx st x.m x.t) q (sx st .plain []) (p + 1)) ∧ Hid (NotT wr h ∧ g < h) ∧ Hid (Below g w wr)
def RText (st : St) (p g : Nat) (s : ByteArray) (L : Lm) (ro : Int) (B : List (Option Nat)) (w : World) (e : Ending) (w' : World) : Prop :=
  (∃ x : Ss, ∃ q : Nat, p < q ∧ has s.toList L q = true ∧ x.take (s.toList.getD q 0) = .done ∧ (okM x.m ∧ x.t.length ≤ 4 * q) ∧ Cl s.toList L (sx st x.m x.t) q (sx st .plain []) (p + 1) ∧ e = .returned (.string ⟨x.t.toArray⟩) ∧ Hid (JdB w' g s L ro st.nx (withText x.t st.cur) st.G (q + 1) B) ∧ Hid (Below g w w')) ∨
  (∃ c q b t k, RunsT s.toList L (sx st .plain []) (p + 1) (.no c q b) t k ∧ e = .panicked (flt c (q : Int)) ∧ Below g w w')
section
variable (w : World) (g : Nat) (s : ByteArray) (L : Lm) (ro : Int) (st : St) (p : Nat) (B : List (Option Nat))
theorem lack_runs {b : Bool} {c : Int} {q : Nat} (hl : (lack s.toList L : Rs (List Vl)) = .no c q b) (x : Ss) (r : Nat) (hh : has s.toList L r = false) (hc : Cl s.toList L (sx st x.m x.t) r (sx st .plain []) (p + 1)) : ∃ t k, RunsT s.toList L (sx st .plain []) (p + 1) (.no c q b) t k := by
  have h := Jr.sx_lack (S := s.toList) (L := L) (st := st) (m := x.m) (t := x.t) hh
  rw [hl] at h
  exact ⟨_, _, hc _ _ _ h⟩
theorem last_pos {G : List Fr} {cur : List Vl} (h : cur ≠ []) : 0 < (flat G cur).length := by
  cases G with
  | nil => exact List.length_pos_iff.2 h
  | cons f G => rw [flat_cons, List.length_append, List.length_cons]; omega
theorem flat_withText (G : List Fr) (cur : List Vl) (t : List UInt8) (h : cur ≠ []) : flat G (withText t cur) = (flat G cur).modify ((flat G cur).length - 1) (fun v => { v with text := t }) := by
  have hm : ∀ (a b : List Vl), b ≠ [] → (a ++ b).modify ((a ++ b).length - 1) (fun v => { v with text := t }) = a ++ b.modify (b.length - 1) (fun v => { v with text := t }) := by
    intro a b hb
    have hl : 0 < b.length := List.length_pos_iff.2 hb
    induction a with
    | nil => rfl
    | cons x a ih =>
      rw [List.cons_append, List.length_cons, show (a ++ b).length + 1 - 1 = ((a ++ b).length - 1) + 1 by rw [List.length_append]; omega, List.modify_succ_cons, ih, List.cons_append]
  cases G with
  | nil => rfl
  | cons f G =>
    rw [flat_cons, flat_cons, show flat G f.b ++ Js.hold f :: cur = (flat G f.b ++ [Js.hold f]) ++ cur by simp, hm _ _ h, withText]
    simp
/-- the last value's text is stored -/
theorem Jd.setLast {w : World} {g : Nat} {s : ByteArray} {L : Lm} {ro : Int} {p nx : Nat} {cur : List Vl} {G : List Fr} {B : List (Option Nat)} {vV vS : Value} (h : Jd w g s L ro p nx (flat G cur) G B vV vS) (hc : cur ≠ []) (x : List UInt8) {q cap m : Nat} (hk : vV = .slice (some ⟨q, 0, none⟩) (m + 1) cap) (hm : (flat G cur).length = m + 1) :
    Jd (w.setCell ⟨q, m * 3 + 2, none⟩ (.string ⟨x.toArray⟩)) g s L ro p nx (flat G (withText x cur)) G B vV vS := by
  have h8 := h.setVal hk hm m 2 (by omega) (by decide) (.string ⟨x.toArray⟩) (fun v => { v with text := x }) rfl
  rw [flat_withText G cur x hc, hm]
  exact h8
set_option maxRecDepth 100000 in
set_option maxHeartbeats 6400000 in
theorem dtext_any (h : JdB w g s L ro st.nx st.cur st.G p B) (hE : Env s L) (hh : has s.toList L p = true) (hc : st.cur ≠ []) (hsz : (flat st.G st.cur).length ≤ 1000000) :
    Calls Try.prog 67 #[.pointer (some ⟨g, 0, none⟩)] w (RText st p g s L ro B w) := by
  have NX := Lib.hid (nextB_yes w g s L ro p h hE hh _ rfl)
  have HE := Lib.hid hE
  have HC := Lib.hid (And.intro hc hsz)
  have hlt := has_lt hh
  rw [tl_size] at hlt
  have HLT := Lib.hid hlt
  clear h hE hh hc hsz hlt
  go_enter Try.func67, Try.ntmps67
  go_wp2_with fail
  refine NX.out.mono ?_
  rintro e w1 ⟨rfl, hF1, hB1, -⟩
  have hN0 : NotT (w1.alloc freshS) w1.heap.size := notT_new _ _ _ (by decide) (by decide)
  have hS0 : StrM (w1.alloc freshS) w1.heap.size s0 := ⟨0, .slice none 0 0, 0, 0, 0, 0, 0, ⟨At.ofAlloc w1 #[.int .i64 0, .slice none 0 0, .int .i64 0, .int .i32 0, .int .i32 0, .int .u8 0, .int .u8 0] 111, World.ownsRow_nil _ _ _ _⟩, rfl, rfl⟩
  have HIN : Hid (InText g s L ro st p B w1.heap.size w (s.size + 1) (w1.alloc freshS)) := ⟨s0, p + 1, hF1.out.alloc _, hS0, ⟨trivial, by simp [s0], by omega, by have := HLT.out; omega, by have := HLT.out; omega, by omega, Cl.refl _ _ _ _⟩, ⟨hN0, hF1.out.lt⟩, hB1.out.alloc (Nat.le_of_lt hF1.out.lt) _⟩
  clear hN0 hS0 hF1 hB1 NX
  go_wp2_with fail
  obtain ⟨h, hh⟩ : ∃ h, w1.heap.size = h := ⟨_, rfl⟩
  rw [hh] at HIN ⊢
  clear hh
  go_loopg [] (s.size + 1) (fun gk wr => InText g s L ro st p B h w gk wr)
  case atStart => exact HIN.out
  case round =>
    obtain ⟨x, q, HJ, HS, HX, HT, HB⟩ := hrel
    clear HIN
    have hq2 : q ≤ 262144 := by have := HX.out.2.2.2.2.1; have := HE.out.b; omega
    cases hq : has s.toList L q with
    | false =>
      have NQ := Lib.hid (nextB_no wr g s L ro q HJ.out (by omega) hq)
      obtain ⟨bb, hl⟩ := lack_eq s L
      have HRN := Lib.hid (lack_runs s L st p hl x q hq HX.out.2.2.2.2.2.2)
      clear hq hl hq2
      go_wp2_with fail
      refine NQ.out.mono ?_
      rintro e w2 ⟨rfl, hb⟩
      go_wp2_with fail
      obtain ⟨tk, kk, hr⟩ := HRN.out
      exact ⟨rfl, .inr ⟨_, _, _, tk, kk, hr, rfl, HB.out.trans hb⟩⟩
    | true =>
      obtain ⟨b, hb⟩ : ∃ b, s.toList.getD q 0 = b := ⟨_, rfl⟩
      have NQ := Lib.hid (nextB_yes wr g s L ro q HJ.out HE.out hq b hb)
      have HQ := Lib.hid (And.intro hq hb)
      have hqs := has_lt hq
      rw [tl_size] at hqs
      have HQS := Lib.hid (And.intro hqs hq2)
      clear hq hb hqs hq2
      go_wp2_with fail
      refine NQ.out.mono ?_
      rintro e w2 ⟨rfl, hF2, hB2, hG2⟩
      obtain ⟨hob0, hhl0⟩ := StrM.at1 HS.out
      have hS2 := StrM.kept HS.out hG2.out HT.out.2
      have hN2 := NotT.kept HT.out.1 hG2.out hhl0 HT.out.2
      obtain ⟨hob2, hhl2⟩ := StrM.at1 hS2
      have TK := Lib.hid (take_any h x b w2 (by have := HX.out.2.1; have := HQS.out.2; omega) hS2 HX.out.1)
      have HO2 := Lib.hid (And.intro hob2 (And.intro hhl2 hN2))
      clear hob0 hhl0 hS2 hN2 hob2 hhl2 NQ
      obtain ⟨r, hr⟩ : ∃ r, x.take b = r := ⟨_, rfl⟩
      rw [hr] at TK
      have HR := Lib.hid hr
      clear hr
      go_wp2_with fail
      refine TK.out.mono ?_
      cases r with
      | more y =>
        rintro e w3 ⟨rfl, hS3, hT3⟩
        have TA := Lib.hid (taken_ok w3 g 0 true (.inl ⟨rfl, rfl⟩))
        have HF3 : Hid (JdB w3 g s L ro st.nx st.cur st.G (q + 1) B) := hF2.out.take hT3.out HT.out.2 HO2.out.2.1 HO2.out.2.2 HO2.out.1
        have HB3 : Hid (Below g w w3) := (HB.out.trans hB2.out).trans (hT3.out.below.mono (Nat.le_of_lt HT.out.2))
        have HN3 : Hid (NotT w3 h ∧ g < h) := ⟨notT_tk hT3.out HO2.out.2.1 HO2.out.2.2, HT.out.2⟩
        have HX3 : Hid (okM y.m ∧ y.t.length ≤ 4 * (q + 1) ∧ p < q + 1 ∧ q + 1 ≤ s.size ∧ q + 1 ≤ L.bytes ∧ s.size - (q + 1) < s.size - q ∧ Cl s.toList L (sx st y.m y.t) (q + 1) (sx st .plain []) (p + 1)) := by
          have h1 := HQS.out.1
          have h2 := Js.take_len HR.out
          have h3 := HX.out.2.1
          refine ⟨take_ok _ _ _ HX.out.1 HR.out, by omega, by have := HX.out.2.2.1; omega, by omega, by omega, by omega, ?_⟩
          refine Cl.trans (Jr.sx_more HQ.out.1 ?_) HX.out.2.2.2.2.2.2
          rw [HQ.out.2]
          exact HR.out
        have HGK : Hid (s.size - q < gk) := HX.out.2.2.2.2.2.1
        clear TK
        go_wp2_with fail
        refine TA.out.mono ?_
        rintro e w4 ⟨rfl, rfl⟩
        go_wp2_with fail
        go_roundg (s.size - q)
        case measure => exact HGK.out
        case rel => exact ⟨y, q + 1, HF3, hS3, HX3, HN3, HB3⟩
      | bad =>
        rintro e w3 ⟨rfl, hT3⟩
        have HF3 : Hid (JdB w3 g s L ro st.nx st.cur st.G (q + 1) B) := hF2.out.take hT3.out HT.out.2 HO2.out.2.1 HO2.out.2.2 HO2.out.1
        have HB3 : Hid (Below g w w3) := (HB.out.trans hB2.out).trans (hT3.out.below.mono (Nat.le_of_lt HT.out.2))
        have TA := Lib.hid (taken_bad w3 g s L q HF3.out.tx.1 HQS.out.2)
        have HRB : Hid (RunsT s.toList L (sx st .plain []) (p + 1) (.no 9 q false) (q + 1) st.G.length) := HX.out.2.2.2.2.2.2 _ _ _ (Jr.sx_bad HQ.out.1 (by rw [HQ.out.2]; exact HR.out))
        clear TK
        go_wp2_with fail
        refine TA.out.mono ?_
        rintro e w4 ⟨rfl, hb4⟩
        go_wp2_with fail
        exact ⟨rfl, .inr ⟨_, _, _, _, _, HRB.out, rfl, HB3.out.trans hb4⟩⟩
      | done =>
        rintro e w3 ⟨rfl, hS3, hT3⟩
        have TA := Lib.hid (taken_ok w3 g 1 false (.inr ⟨rfl, rfl⟩))
        have hF3 : JdB w3 g s L ro st.nx st.cur st.G (q + 1) B := hF2.out.take hT3.out HT.out.2 HO2.out.2.1 HO2.out.2.2 HO2.out.1
        have HB3 : Hid (Below g w w3) := (HB.out.trans hB2.out).trans (hT3.out.below.mono (Nat.le_of_lt HT.out.2))
        obtain ⟨wh, vT, left, num, half, low, high, hx, -⟩ := hS3.out
        have TX := Lib.hid (stext_any h wh vT left num half low high x.t w3 hx)
        obtain ⟨vV, vS, hJ3⟩ := hF3
        have hm0 := last_pos (G := st.G) HC.out.1
        obtain ⟨m, hm⟩ : ∃ m, (flat st.G st.cur).length = m + 1 := ⟨(flat st.G st.cur).length - 1, by omega⟩
        obtain ⟨qV, capV, rfl, hqV, hAtV⟩ := hJ3.value m (by omega)
        have c8 := hJ3.at0.cell 8 _ rfl
        rw [hm] at c8 hJ3
        have d2 := hAtV.cell 2 _ rfl
        have fd2 := hAtV.froz 2 (by show 2 < 3; decide)
        have e1 : (m : Int) + 1 - 1 = (m : Int) := by omega
        have e2 : IntKind.i64.wrap (m : Int) = (m : Int) := wrap_fit m (by have := HC.out.2; unfold maxLen; omega)
        have e3 : (m : Int) < (m : Int) + 1 := by omega
        have HJ3 := Lib.hid hJ3
        have HM := Lib.hid (And.intro hm hqV)
        clear TK hx hAtV hm hqV hm0 hJ3
        go_wp2_with fail
        refine TA.out.mono ?_
        rintro e w4 ⟨rfl, rfl⟩
        go_wp2_with fail
        refine TX.out.mono ?_
        rintro e w4 ⟨rfl, rfl⟩
        go_wp2_with fail
        go_region
        go_wp2_with fail
        go_ret
        refine .inl ⟨x, q, HX.out.2.2.1, HQ.out.1, by rw [HQ.out.2]; exact HR.out, ⟨HX.out.1, HX.out.2.1⟩, HX.out.2.2.2.2.2.2, rfl, ⟨_, _, ((HJ3.out.drewN 1).setLast HC.out.1 x.t rfl HM.out.1)⟩, ?_⟩
        exact (HB3.out.trans (below_drewN g w3 1)).setCell (p := ⟨qV, _, none⟩) (Nat.le_of_lt HM.out.2) _
end
end Jd
end Go.Proofs.Ytilfidcomeandaa
