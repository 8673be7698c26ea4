/- json's reader in memory: a word is read. -/
import Derived.Test.YtilfidcomeandaaJdD
namespace Go.Proofs.Ytilfidcomeandaa
open Go.RowKit
set_option linter.unusedVariables false
set_option linter.unusedSimpArgs false
namespace Jd
open Js
open Dr (Rs Lm has lack)
open Jr (Cl sx wx)
/-- what reading comes to: a state between what is read, further on; or a fault -/
def RStep (st : St) (p g : Nat) (s : ByteArray) (L : Lm) (ro : Int) (w : World) (e : Ending) (w' : World) : Prop :=
  (∃ st' p', p < p' ∧ p' ≤ s.size ∧ p' ≤ L.bytes ∧ st'.hand = .none ∧ Inv L st' p' ∧ Cl s.toList L st' p' st p ∧ e = .returned (.tuple #[]) ∧ Hid (JdS w' g s L ro st' p') ∧ Hid (Below g w w')) ∨
  (∃ c q b t k, RunsT s.toList L st p (.no c q b) t k ∧ e = .panicked (flt c (q : Int)) ∧ Below g w w')
/-- one step of the machine -/
theorem cl_go {S : List UInt8} {L : Lm} {st st' : St} {p : Nat} {b : UInt8} (hh : has S L p = true) (hb : S.getD p 0 = b) (ha : st.act L b p = .go st') : Cl S L st' (p + 1) st p := fun r t k h => go_at hh hb ha h
theorem Inv.hands {L : Lm} {st : St} {k k' : Nat} {hd : Hd} (h : Inv L st k) (hk : k ≤ k') (hne : st.hand ≠ .none) (hne' : hd ≠ .none) (hstr : ∀ x, st.hand = .str x → ∃ y, hd = .str y) (ho : handOk k' hd) : Inv L { st with hand := hd } k' :=
  ⟨ho, fun _ => h.cur hne, fun e => absurd e hne', fun _ => (h.nx1 hne).imp id (fun ⟨a, h1, h2, ⟨x, h3⟩, h4⟩ => ⟨a, h1, by omega, hstr x h3, h4⟩), h.size, h.deep, fun f hf => Nat.le_trans (h.kids f hf) hk, fun f hf x hx => Nat.le_trans (h.names f hf x hx) hk⟩
def WM (w : World) (h : Nat) (r : List UInt8) : Prop := At w h 0 [.string (str r)]
def InWord (g : Nat) (s : ByteArray) (L : Lm) (ro : Int) (st : St) (r0 : List UInt8) (p : Nat) (B : List (Option Nat)) (h : Nat) (w : World) (gk : Nat) (wr : World) : Prop :=
  ∃ r q, Hid (JdB wr g s L ro st.nx st.cur st.G q B) ∧ Hid (WM wr h r) ∧ Hid ((r ≠ [] ∧ r.length ≤ 10) ∧ p < q ∧ q ≤ s.size ∧ q ≤ L.bytes ∧ s.size - q < gk ∧ Cl s.toList L (wx st r) q (wx st r0) (p + 1)) ∧ Hid (NotT wr h ∧ g < h) ∧ Hid (Below g w wr)
def freshW (r : List UInt8) : Obj := Obj.cells #[.string (str r)] 120
section
variable (w : World) (g : Nat) (s : ByteArray) (L : Lm) (ro : Int) (st : St) (p : Nat) (B : List (Option Nat))
theorem lack_runsW {b : Bool} {c : Int} {q : Nat} (hl : (lack s.toList L : Rs (List Vl)) = .no c q b) (x0 x : List UInt8) (r : Nat) (hh : has s.toList L r = false) (hc : Cl s.toList L (wx st x) r (wx st x0) (p + 1)) : ∃ t k, RunsT s.toList L (wx st x0) (p + 1) (.no c q b) t k := by
  have h : RunsT s.toList L (wx st x) r (lack s.toList L) (lackK s.toList L) st.G.length := stop_lack hh (fun _ => Jr.wx_last st x)
  rw [hl] at h
  exact ⟨_, _, hc _ _ _ h⟩
set_option maxRecDepth 100000 in
set_option maxHeartbeats 6400000 in
theorem dword_any (h : JdB w g s L ro st.nx st.cur st.G p B) (hE : Env s L) (hI : Inv L st p) (hsh : st.hand = .none) (x : UInt8) (r0 : List UInt8) (hr0 : r0 ≠ [] ∧ r0.length ≤ 10) (hh : has s.toList L p = true) (hx : s.toList.getD p 0 = x) (kind : Int)
    (ha : st.act L x p = st.add L p (.go (st.begin kind (.word r0)))) :
    Calls Try.prog 69 #[.pointer (some ⟨g, 0, none⟩), .int .i64 kind, .string (str (x :: r0))] w (RStep st p g s L ro w) := by
  have hkd : ∀ f ∈ st.G, f.n ≤ 1000000 := fun f hf => by have := hI.kids f hf; have := (has_lt hh).2; have := hE.b; omega
  have hl : st.G.length ≤ 1000 := by have := hI.deep; have := hE.d; omega
  rw [St.add] at ha
  by_cases hi : L.items ≤ st.size
  · have AD := Lib.hid (dadd_no w g s L ro st.nx st.cur st.G p B h kind hi)
    rw [if_pos hi] at ha
    have HR : Hid (RunsT s.toList L st p (.no 10 p false) (p + 1) st.G.length) := fl_at hh hx ha
    clear h hE hI hsh hh hx ha hkd hl hi
    go_enter Try.func69, Try.ntmps69
    go_wp2_with fail
    refine AD.out.mono ?_
    rintro e w1 ⟨rfl, hb⟩
    go_wp2_with fail
    exact ⟨rfl, .inr ⟨_, _, _, _, _, HR.out, rfl, hb⟩⟩
  rw [if_neg hi] at ha
  have AD := Lib.hid (dadd_yes w g s L ro st.nx st.cur st.G p B h kind (by rw [St.size] at hi; omega) hE.i hl hkd)
  obtain ⟨st1, hst1⟩ : ∃ x, st.begin kind (.word r0) = x := ⟨_, rfl⟩
  have hI1 : Inv L st1 (p + 1) := hI.act (by rw [ha, hst1])
  have hC1 : Cl s.toList L st1 (p + 1) st p := cl_go hh hx (by rw [ha, hst1])
  have hw1 : wx st1 r0 = st1 := by rw [← hst1]; rfl
  have hAD : ∀ {e : Ending} {w' : World}, RAdd kind st.nx st.cur st.G p g s L ro B w e w' → e = .returned (.tuple #[]) ∧ Hid (JdB w' g s L ro st1.nx st1.cur st1.G p B) ∧ Hid (Below g w w') := by
    rintro e w' ⟨h1, h2, h3, -⟩
    rw [← hst1]
    exact ⟨h1, h2, h3⟩
  have HAD := Lib.hid (fun (e : Ending) (w' : World) => @hAD e w')
  have hlt := has_lt hh
  rw [tl_size] at hlt
  have HX0 := Lib.hid (And.intro hh (And.intro hx (And.intro hI1 (And.intro hC1 (And.intro hw1 (And.intro hr0 hlt))))))
  have HE := Lib.hid hE
  have NW := Lib.hid (fun w => newWord_any x r0 hr0.2 w)
  have HH1 : Hid (st1.hand = .word r0) := by show _ = _; rw [← hst1]; rfl
  obtain ⟨ws, hws⟩ : ∃ u, str (x :: r0) = u := ⟨_, rfl⟩
  rw [hws] at NW ⊢
  clear h hE hI hsh hh hx ha hkd hl hi hst1 hI1 hC1 hw1 hAD hlt hws hr0
  go_enter Try.func69, Try.ntmps69
  go_wp2_with fail
  refine AD.out.mono ?_
  intro e w1 hAD1
  obtain ⟨rfl, hF1, hB1⟩ := HAD.out e w1 hAD1
  have NX := Lib.hid (nextB_yes w1 g s L ro p hF1.out HE.out HX0.out.1 x HX0.out.2.1)
  clear hAD1
  go_wp2_with fail
  refine NX.out.mono ?_
  rintro e w2 ⟨rfl, hF2, hB2, -⟩
  go_wp2_with fail
  refine (NW.out _).mono ?_
  rintro e w3 ⟨rfl, rfl⟩
  have HIN : Hid (InWord g s L ro st1 r0 p B w2.heap.size w (s.size + 1) (w2.alloc (freshW r0))) := ⟨r0, p + 1, hF2.out.alloc _, At.ofAlloc w2 #[.string (str r0)] 120, ⟨HX0.out.2.2.2.2.2.1, by omega, by have := HX0.out.2.2.2.2.2.2; omega, by have := HX0.out.2.2.2.2.2.2; omega, by omega, Cl.refl _ _ _ _⟩, ⟨notT_new _ _ _ (by decide) (by decide), hF2.out.lt⟩, (hB1.out.trans hB2.out).alloc (Nat.le_of_lt hF2.out.lt) _⟩
  clear hF1 hB1 hF2 hB2 NX AD NW
  go_wp2_with fail
  rw [show w2.alloc (Obj.cells #[.string (str r0)] 120) = w2.alloc (freshW r0) from rfl]
  obtain ⟨h, hh⟩ : ∃ h, w2.heap.size = h := ⟨_, rfl⟩
  rw [hh] at HIN ⊢
  clear hh
  generalize w2.alloc (freshW r0) = w3 at HIN ⊢
  go_loopg [] (s.size + 1) (fun gk wr => InWord g s L ro st1 r0 p B h w gk wr)
  case atStart => exact HIN.out
  case round =>
    obtain ⟨r, q, HJ, HS, HX, HT, HB⟩ := hrel
    clear HIN
    have hq2 : q ≤ 262144 := by have := HX.out.2.2.2.1; have := HE.out.b; omega
    cases hq : has s.toList L q with
    | false =>
      have NQ := Lib.hid (nextB_no wr g s L ro q HJ.out (by omega) hq)
      obtain ⟨bb, hl⟩ := lack_eq s L
      obtain ⟨tk, kk, hr⟩ := lack_runsW s L st1 p hl r0 r q hq HX.out.2.2.2.2.2
      rw [HX0.out.2.2.2.2.1] at hr
      have HRN := Lib.hid (HX0.out.2.2.2.1 _ _ _ hr)
      clear hq hl hq2 hr
      go_wp2_with fail
      refine NQ.out.mono ?_
      rintro e w2 ⟨rfl, hb⟩
      go_wp2_with fail
      exact ⟨rfl, .inr ⟨_, _, _, tk, kk, HRN.out, rfl, HB.out.trans hb⟩⟩
    | true =>
      obtain ⟨b, hb⟩ : ∃ b, s.toList.getD q 0 = b := ⟨_, rfl⟩
      have NQ := Lib.hid (nextB_yes wr g s L ro q HJ.out HE.out hq b hb)
      have HQ := Lib.hid (And.intro hq hb)
      have hqs := has_lt hq
      rw [tl_size] at hqs
      have HQS := Lib.hid (And.intro hqs hq2)
      obtain ⟨y, r1, rfl⟩ : ∃ y r1, r = y :: r1 := by
        cases r with
        | nil => exact absurd rfl HX.out.1.1
        | cons y r1 => exact ⟨y, r1, rfl⟩
      clear hq hb hqs hq2
      go_wp2_with fail
      refine NQ.out.mono ?_
      rintro e w2 ⟨rfl, hF2, hB2, hG2⟩
      have hhl0 : h < wr.heap.size := HS.out.lt (by simp)
      have hS2 : WM w2 h (y :: r1) := At.grown HS.out hG2.out hhl0 (by have := HT.out.2; intro e; cases e; omega)
      have hN2 := NotT.kept HT.out.1 hG2.out hhl0 HT.out.2
      have hhl2 : h < w2.heap.size := hS2.lt (by simp)
      have TK := Lib.hid (wordTake_any h y r1 b (by have := HX.out.1.2; simp at this; omega) w2 hS2)
      have HO2 : Hid ((∃ c cs, At w2 h 0 (c :: cs)) ∧ h < w2.heap.size ∧ NotT w2 h) := ⟨⟨_, _, hS2⟩, hhl2, hN2⟩
      have HI2 : Hid (Inv L (wx st1 (y :: r1)) q) := by
        have h1 : Inv L { st1 with hand := .word (y :: r1) } q := Inv.hands HX0.out.2.2.1 (by have := HX.out.2.1; omega) (by rw [HH1.out]; simp) (by simp) (fun x hx => by rw [HH1.out] at hx; cases hx) HX.out.1
        exact h1
      clear hhl0 hS2 hN2 hhl2 NQ
      go_wp2_with fail
      refine TK.out.mono ?_
      rintro e w3 (⟨hne, rfl, rfl⟩ | ⟨hby, he, hA3, hT3⟩)
      · have TA := Lib.hid (taken_bad w2 g s L q hF2.out.tx.1 HQS.out.2)
        have HB3 : Hid (Below g w w2) := HB.out.trans hB2.out
        have HRB : Hid (RunsT s.toList L st p (.no 9 q false) (q + 1) st1.G.length) := by
          have h1 : RunsT s.toList L (wx st1 (y :: r1)) q (.no 9 q false) (q + 1) st1.G.length := fl_at (s := wx st1 (y :: r1)) HQ.out.1 HQ.out.2 (by rw [Jr.wx_act, if_neg hne])
          have h2 := HX.out.2.2.2.2.2 _ _ _ h1
          rw [HX0.out.2.2.2.2.1] at h2
          exact HX0.out.2.2.2.1 _ _ _ h2
        clear TK hne
        go_wp2_with fail
        refine TA.out.mono ?_
        rintro e w4 ⟨rfl, hb4⟩
        go_wp2_with fail
        exact ⟨rfl, .inr ⟨_, _, _, _, _, HRB.out, rfl, HB3.out.trans hb4⟩⟩
      · have HF3 : Hid (JdB w3 g s L ro st1.nx st1.cur st1.G (q + 1) B) := hF2.out.take hT3.out HT.out.2 HO2.out.2.1 HO2.out.2.2 HO2.out.1
        have HB3 : Hid (Below g w w3) := (HB.out.trans hB2.out).trans (hT3.out.below.mono (Nat.le_of_lt HT.out.2))
        by_cases hr1 : r1 = []
        · rw [if_pos hr1] at he
          subst he
          have TA := Lib.hid (taken_ok w3 g 1 false (.inr ⟨rfl, rfl⟩))
          have hact : (wx st1 (y :: r1)).act L b q = .go st1.ended := by rw [Jr.wx_act, if_pos hby, if_pos hr1]
          have HC3 : Hid (Cl s.toList L st1.ended (q + 1) st p) := by
            have h1 := Cl.trans (cl_go HQ.out.1 HQ.out.2 hact) HX.out.2.2.2.2.2
            rw [HX0.out.2.2.2.2.1] at h1
            exact Cl.trans h1 HX0.out.2.2.2.1
          have HI3 : Hid (Inv L st1.ended (q + 1)) := HI2.out.act hact
          have EN := Lib.hid (dended_any w3 g s L ro st1 (q + 1) ⟨B, HF3.out⟩ (by have := HX0.out.2.2.1.deep; have := HE.out.d; omega))
          clear TK hr1 hact hby
          go_wp2_with fail
          refine TA.out.mono ?_
          rintro e w4 ⟨rfl, rfl⟩
          go_wp2_with fail
          refine EN.out.mono ?_
          rintro e w4 ⟨rfl, hF4, hB4⟩
          go_wp2_with fail
          first | go_end0 | refine bodyPost_ret (results_none rfl _ _ _) rfl ?_
          exact .inl ⟨st1.ended, q + 1, by have := HX.out.2.1; omega, by have := HQS.out.1; omega, by have := HQS.out.1; omega, rfl, HI3.out, HC3.out, rfl, hF4, HB3.out.trans hB4.out⟩
        · rw [if_neg hr1] at he
          subst he
          have TA := Lib.hid (taken_ok w3 g 0 true (.inl ⟨rfl, rfl⟩))
          have hact : (wx st1 (y :: r1)).act L b q = .go (wx st1 r1) := by rw [Jr.wx_act, if_pos hby, if_neg hr1]
          have HN3 : Hid (NotT w3 h ∧ g < h) := ⟨notT_tk hT3.out HO2.out.2.1 HO2.out.2.2, HT.out.2⟩
          have HX3 : Hid ((r1 ≠ [] ∧ r1.length ≤ 10) ∧ p < q + 1 ∧ q + 1 ≤ s.size ∧ q + 1 ≤ L.bytes ∧ s.size - (q + 1) < s.size - q ∧ Cl s.toList L (wx st1 r1) (q + 1) (wx st1 r0) (p + 1)) := by
            have h1 := HQS.out.1
            exact ⟨⟨hr1, by have := HX.out.1.2; simp at this; omega⟩, by have := HX.out.2.1; omega, by omega, by omega, by omega, Cl.trans (cl_go HQ.out.1 HQ.out.2 hact) HX.out.2.2.2.2.2⟩
          have HGK : Hid (s.size - q < gk) := HX.out.2.2.2.2.1
          clear TK hr1 hact hby
          go_wp2_with fail
          refine TA.out.mono ?_
          rintro e w4 ⟨rfl, rfl⟩
          go_wp2_with fail
          go_roundg (s.size - q)
          case measure => exact HGK.out
          case rel => exact ⟨r1, q + 1, HF3, hA3, HX3, HN3, HB3⟩
end
end Jd
end Go.Proofs.Ytilfidcomeandaa
