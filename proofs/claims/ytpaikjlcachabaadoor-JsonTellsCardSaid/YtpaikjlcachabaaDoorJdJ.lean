/- json's reader in memory: a step. -/
import Derived.Test.YtpaikjlcachabaaDoorJzI
namespace Go.Proofs.YtpaikjlcachabaaDoor
open Go.RowKit
set_option linter.unusedVariables false
set_option linter.unusedSimpArgs false
namespace Jd
open Js
open Dr (Rs Lm has lack)
open Jr (Cl sx wx)
theorem peek_lack {w : World} {g : Nat} {s : ByteArray} {L : Lm} {p : Nat} (h : Tx w g 0 s L.bytes p) (hp : p ≤ 140737488351232) (hh : has s.toList L p = false) :
    Calls Tryd.prog 35 #[.pointer (some ⟨g, 0, none⟩)] w (No (lkE L.bytes s) (lkP L.bytes s) g w) := by
  refine peek_no w g s L.bytes p h ?_ hp
  rintro ⟨h1, h2⟩
  rw [has_yes (by rw [tl_size]; exact h1) h2] at hh
  cases hh
theorem last_none {st : St} (hs : st.hand = .none) (h6 : st.nx ≠ 6) : st.last = none := by
  cases hG : st.G.isEmpty with
  | false => rw [St.last, hG]; rfl
  | true => rw [St.last, hG, hs]; exact if_neg h6
def stepV (L : Lm) (st : St) (b : UInt8) (q n : Nat) : Out := match n with | 0 => st.value L b q | 1 => if b = 93 then Out.go st.close else st.value L b q | 2 => st.name L b q | 3 => if b = 125 then Out.go st.close else st.name L b q | 4 => st.pass (decide (b = 58)) 0 q | 5 => st.goOn b q | _ => .fl 9 q
theorem stepL {L : Lm} {st : St} {b : UInt8} {q n : Nat} {o : Out} (hs : st.hand = .none) (hbl : Js.blank b = false) (hn : st.nx = n) (ho : stepV L st b q n = o) : st.act L b q = o := by
  rw [act_step hs hbl, ← ho, ← hn]
  rfl
theorem pass_hand {st st' : St} {r : Bool} {nx p : Nat} (hs : st.hand = .none) (h : st.pass r nx p = .go st') : st'.hand = .none := by
  rw [St.pass] at h
  split at h
  · cases h; exact hs
  · cases h
theorem close_hand {st : St} (hs : st.hand = .none) : st.close.hand = .none := by
  rw [St.close]
  split
  · exact hs
  · rfl
theorem goOn_hand {st st' : St} {b : UInt8} {p : Nat} (hs : st.hand = .none) (h : st.goOn b p = .go st') : st'.hand = .none := by
  rw [St.goOn] at h
  split at h
  · split at h
    · cases h; exact close_hand hs
    · exact pass_hand hs h
  · split at h
    · cases h; exact close_hand hs
    · exact pass_hand hs h
/-- behind some blanks -/
def InBl (g : Nat) (s : ByteArray) (L : Lm) (ro : Int) (st : St) (p : Nat) (w : World) (gk : Nat) (wr : World) : Prop :=
  ∃ q, Hid (JdS wr g s L ro st q) ∧ Hid (p ≤ q ∧ q ≤ 262144 ∧ s.size - q < gk ∧ Inv L st q ∧ Cl s.toList L st q st p) ∧ Hid (Below g w wr)
section
variable (w : World) (g : Nat) (s : ByteArray) (L : Lm) (ro : Int) (st : St) (p : Nat)
set_option maxRecDepth 100000 in
set_option maxHeartbeats 6400000 in
theorem dstep_0 (h : JdS w g s L ro st p) (hE : Env s L) (hI : Inv L st p) (hsh : st.hand = .none) (hp : p ≤ 262144) (hnx : st.nx = 0) :
    Calls Tryd.prog 21 #[.pointer (some ⟨g, 0, none⟩)] w (RStep st p g s L ro w) := by
  have hl : st.G.length ≤ 1000 := by have := hI.deep; have := hE.d; omega
  have HL : Hid (∀ c q b, (lack s.toList L : Rs (List Vl)) = .no c q b → ∀ q2, has s.toList L q2 = false → Cl s.toList L st q2 st p → ∃ t k, RunsT s.toList L st p (.no c q b) t k) := by
    intro c q b hl q2 hh hc
    have h1 : RunsT s.toList L st q2 (lack s.toList L) (lackK s.toList L) st.G.length := stop_lack hh (fun _ => last_none hsh (by rw [hnx]; decide))
    rw [hl] at h1
    exact ⟨_, _, hc _ _ _ h1⟩
  have HI0 : Hid (InBl g s L ro st p w (s.size + 1) w) := ⟨p, h, ⟨Nat.le_refl _, hp, by omega, hI, Cl.refl _ _ _ _⟩, Below.refl g w⟩
  have HE := Lib.hid hE
  have HSH := Lib.hid (And.intro hsh (And.intro hnx hl))
  have BL := Lib.hid (fun (b : UInt8) w => dblank_any b w)
  clear h hI hl hp hE hsh hnx
  go_enter Tryd.func21, Tryd.ntmps21
  go_wp2_with fail
  go_loopg [] (s.size + 1) (fun gk wr => InBl g s L ro st p w gk wr)
  case atStart => exact HI0.out
  case round =>
    obtain ⟨q, HJ, HX, HB⟩ := hrel
    clear HI0
    cases hq : has s.toList L q with
    | false =>
      have PN := Lib.hid (peek_lack (w := wr) (g := g) (by obtain ⟨B, h⟩ := HJ.out; exact h.tx.1) (by have := HX.out.2.1; omega) hq)
      obtain ⟨bb, hl⟩ := lack_eq s L
      obtain ⟨tk, kk, hr⟩ := HL.out _ _ _ hl q hq HX.out.2.2.2.2
      have HRN := Lib.hid hr
      clear hq hl hr HL
      go_wp2_with fail
      refine PN.out.mono ?_
      rintro e w2 ⟨rfl, hb⟩
      go_wp2_with fail
      exact ⟨rfl, .inr ⟨_, _, _, tk, kk, HRN.out, rfl, HB.out.trans hb⟩⟩
    | true =>
      obtain ⟨b, hb⟩ : ∃ b, s.toList.getD q 0 = b := ⟨_, rfl⟩
      have HQ := Lib.hid (And.intro hq hb)
      have PK := Lib.hid (fun n => peek_yes (wr.drewN n) g s L q (by obtain ⟨B, h⟩ := HJ.out; exact (h.drewN n).tx.1) HE.out hq b hb)
      cases hbl : Js.blank b with
      | true =>
        have BB := Lib.hid (fun w => BL.out b w)
        rw [hbl] at BB
        have HBL := Lib.hid hbl
        have hqs := has_lt hq
        rw [tl_size] at hqs
        have HQS := Lib.hid hqs
        have NX := Lib.hid (fun n => (show Calls Tryd.prog 24 #[.pointer (some ⟨g, 0, none⟩)] (wr.drewN n) (fun e w' => e = .returned (.int .u8 (b.toNat : Int)) ∧ Hid (JdS w' g s L ro st (q + 1)) ∧ Hid (Below g (wr.drewN n) w')) by
          obtain ⟨B, h⟩ := HJ.out
          refine (nextB_yes (wr.drewN n) g s L ro q (h.drewN n) HE.out hq b hb).mono ?_
          rintro e w' ⟨h1, h2, h3, -⟩
          exact ⟨h1, ⟨B, h2.out⟩, h3⟩))
        clear hq hb hbl hqs
        have PK0 := Lib.hid (PK.out 0)
        rw [show wr.drewN 0 = wr from rfl] at PK0
        go_wp2_with fail
        refine PK0.out.mono ?_
        rintro e w2 ⟨rfl, n2, rfl⟩
        go_wp2_with fail
        refine (BB.out _).mono ?_
        rintro e w2 ⟨rfl, rfl⟩
        go_wp2_with fail
        refine (NX.out _).mono ?_
        rintro e w3 ⟨rfl, hF3, hB3⟩
        go_wp2_with fail
        go_roundg (s.size - q)
        case measure => exact HX.out.2.2.1
        case rel =>
          have hact : st.act L b q = .go st := by
            rw [St.act, HSH.out.1]
            show st.between L b q = _
            rw [St.between, if_pos HBL.out]
          refine ⟨q + 1, hF3, ⟨by have := HX.out.1; omega, by have := HQS.out.2; have := HE.out.b; omega, by have := HQS.out.1; omega, HX.out.2.2.2.1.act hact, Cl.trans (cl_go HQ.out.1 HQ.out.2 hact) HX.out.2.2.2.2⟩, (HB.out.trans (below_drewN g wr n2)).trans hB3.out⟩
      | false =>
        have BB := Lib.hid (fun w => BL.out b w)
        rw [hbl] at BB
        obtain ⟨t, ht⟩ : ∃ t, b.toNat = t := ⟨_, rfl⟩
        have hlu := u8lit b t ht
        have HRS : Hid (∀ n e w', RStep st q g s L ro (wr.drewN n) e w' → RStep st p g s L ro w e w') := fun n e w' h => RStep.back HX.out.2.2.2.2 HX.out.1 (HB.out.trans (below_drewN g wr n)) h
        have c7 : ∀ n, (wr.drewN n).cell? ⟨g, 0 + 7, none⟩ = some (.int .i64 0) := fun n => by
          obtain ⟨B, vV, vS, h⟩ := HJ.out
          have h9 := (h.drewN n).at0.cell 7 _ rfl
          rw [HSH.out.2.1] at h9
          exact h9
        have HBL := Lib.hid hbl
        clear hbl
        have GO : True := trivial
        rcases GO with ⟨⟩
        · skip
          have CT := Lib.hid (fun n => dvalue_any (wr.drewN n) g s L ro st q (by obtain ⟨B, h⟩ := HJ.out; exact ⟨B, h.drewN n⟩) HE.out HX.out.2.2.2.1 HSH.out.1 hq b hb t ht (stepL (q := q) HSH.out.1 HBL.out HSH.out.2.1 rfl))
          have PK0 := Lib.hid (PK.out 0)
          rw [show wr.drewN 0 = wr from rfl, ht] at PK0
          rw [ht] at BB
          have PK2 := Lib.hid (fun n => PK.out n)
          rw [ht] at PK2
          clear hq hb ht hlu PK
          go_wp2_with fail
          refine PK0.out.mono ?_
          rintro e w2 ⟨rfl, n2, rfl⟩
          go_wp2_with fail
          refine (BB.out _).mono ?_
          rintro e w2 ⟨rfl, rfl⟩
          go_wp2_with fail
          refine (PK2.out _).mono ?_
          rintro e w2 ⟨rfl, n3, rfl⟩
          obtain ⟨n4, hn4⟩ : ∃ n, (wr.drewN n2).drewN n3 = wr.drewN n := ⟨_, World.drewN_drewN _ _ _⟩
          rw [hn4]
          have c7n := c7 n4
          clear c7 hn4
          go_wp2_with fail
          refine (CT.out _).mono ?_
          intro e w4 hS
          have HS := Lib.hid (HRS.out _ _ _ hS)
          rcases hS with ⟨st', p', h1, h2, h3, h4, h5, h6, rfl, h8, h9⟩ | ⟨c, q2, b2, t2, k2, h1, rfl, h3⟩
          · clear h1 h2 h3 h4 h5 h6 h8 h9
            go_wp2_with fail
            first | go_end0 | refine bodyPost_ret (results_none rfl _ _ _) rfl ?_
            exact HS.out
          · clear h1 h3
            go_wp2_with fail
            exact ⟨rfl, HS.out⟩
set_option maxRecDepth 100000 in
set_option maxHeartbeats 6400000 in
theorem dstep_2 (h : JdS w g s L ro st p) (hE : Env s L) (hI : Inv L st p) (hsh : st.hand = .none) (hp : p ≤ 262144) (hnx : st.nx = 2) (hob : isObj st.G) :
    Calls Tryd.prog 21 #[.pointer (some ⟨g, 0, none⟩)] w (RStep st p g s L ro w) := by
  have hl : st.G.length ≤ 1000 := by have := hI.deep; have := hE.d; omega
  have HL : Hid (∀ c q b, (lack s.toList L : Rs (List Vl)) = .no c q b → ∀ q2, has s.toList L q2 = false → Cl s.toList L st q2 st p → ∃ t k, RunsT s.toList L st p (.no c q b) t k) := by
    intro c q b hl q2 hh hc
    have h1 : RunsT s.toList L st q2 (lack s.toList L) (lackK s.toList L) st.G.length := stop_lack hh (fun _ => last_none hsh (by rw [hnx]; decide))
    rw [hl] at h1
    exact ⟨_, _, hc _ _ _ h1⟩
  have HI0 : Hid (InBl g s L ro st p w (s.size + 1) w) := ⟨p, h, ⟨Nat.le_refl _, hp, by omega, hI, Cl.refl _ _ _ _⟩, Below.refl g w⟩
  have HE := Lib.hid hE
  have HOB := Lib.hid hob
  have HSH := Lib.hid (And.intro hsh (And.intro hnx hl))
  have BL := Lib.hid (fun (b : UInt8) w => dblank_any b w)
  clear h hI hl hp hE hsh hnx hob
  go_enter Tryd.func21, Tryd.ntmps21
  go_wp2_with fail
  go_loopg [] (s.size + 1) (fun gk wr => InBl g s L ro st p w gk wr)
  case atStart => exact HI0.out
  case round =>
    obtain ⟨q, HJ, HX, HB⟩ := hrel
    clear HI0
    cases hq : has s.toList L q with
    | false =>
      have PN := Lib.hid (peek_lack (w := wr) (g := g) (by obtain ⟨B, h⟩ := HJ.out; exact h.tx.1) (by have := HX.out.2.1; omega) hq)
      obtain ⟨bb, hl⟩ := lack_eq s L
      obtain ⟨tk, kk, hr⟩ := HL.out _ _ _ hl q hq HX.out.2.2.2.2
      have HRN := Lib.hid hr
      clear hq hl hr HL
      go_wp2_with fail
      refine PN.out.mono ?_
      rintro e w2 ⟨rfl, hb⟩
      go_wp2_with fail
      exact ⟨rfl, .inr ⟨_, _, _, tk, kk, HRN.out, rfl, HB.out.trans hb⟩⟩
    | true =>
      obtain ⟨b, hb⟩ : ∃ b, s.toList.getD q 0 = b := ⟨_, rfl⟩
      have HQ := Lib.hid (And.intro hq hb)
      have PK := Lib.hid (fun n => peek_yes (wr.drewN n) g s L q (by obtain ⟨B, h⟩ := HJ.out; exact (h.drewN n).tx.1) HE.out hq b hb)
      cases hbl : Js.blank b with
      | true =>
        have BB := Lib.hid (fun w => BL.out b w)
        rw [hbl] at BB
        have HBL := Lib.hid hbl
        have hqs := has_lt hq
        rw [tl_size] at hqs
        have HQS := Lib.hid hqs
        have NX := Lib.hid (fun n => (show Calls Tryd.prog 24 #[.pointer (some ⟨g, 0, none⟩)] (wr.drewN n) (fun e w' => e = .returned (.int .u8 (b.toNat : Int)) ∧ Hid (JdS w' g s L ro st (q + 1)) ∧ Hid (Below g (wr.drewN n) w')) by
          obtain ⟨B, h⟩ := HJ.out
          refine (nextB_yes (wr.drewN n) g s L ro q (h.drewN n) HE.out hq b hb).mono ?_
          rintro e w' ⟨h1, h2, h3, -⟩
          exact ⟨h1, ⟨B, h2.out⟩, h3⟩))
        clear hq hb hbl hqs
        have PK0 := Lib.hid (PK.out 0)
        rw [show wr.drewN 0 = wr from rfl] at PK0
        go_wp2_with fail
        refine PK0.out.mono ?_
        rintro e w2 ⟨rfl, n2, rfl⟩
        go_wp2_with fail
        refine (BB.out _).mono ?_
        rintro e w2 ⟨rfl, rfl⟩
        go_wp2_with fail
        refine (NX.out _).mono ?_
        rintro e w3 ⟨rfl, hF3, hB3⟩
        go_wp2_with fail
        go_roundg (s.size - q)
        case measure => exact HX.out.2.2.1
        case rel =>
          have hact : st.act L b q = .go st := by
            rw [St.act, HSH.out.1]
            show st.between L b q = _
            rw [St.between, if_pos HBL.out]
          refine ⟨q + 1, hF3, ⟨by have := HX.out.1; omega, by have := HQS.out.2; have := HE.out.b; omega, by have := HQS.out.1; omega, HX.out.2.2.2.1.act hact, Cl.trans (cl_go HQ.out.1 HQ.out.2 hact) HX.out.2.2.2.2⟩, (HB.out.trans (below_drewN g wr n2)).trans hB3.out⟩
      | false =>
        have BB := Lib.hid (fun w => BL.out b w)
        rw [hbl] at BB
        obtain ⟨t, ht⟩ : ∃ t, b.toNat = t := ⟨_, rfl⟩
        have hlu := u8lit b t ht
        have HRS : Hid (∀ n e w', RStep st q g s L ro (wr.drewN n) e w' → RStep st p g s L ro w e w') := fun n e w' h => RStep.back HX.out.2.2.2.2 HX.out.1 (HB.out.trans (below_drewN g wr n)) h
        have c7 : ∀ n, (wr.drewN n).cell? ⟨g, 0 + 7, none⟩ = some (.int .i64 2) := fun n => by
          obtain ⟨B, vV, vS, h⟩ := HJ.out
          have h9 := (h.drewN n).at0.cell 7 _ rfl
          rw [HSH.out.2.1] at h9
          exact h9
        have HBL := Lib.hid hbl
        clear hbl
        have GO : True := trivial
        rcases GO with ⟨⟩
        · skip
          have CT := Lib.hid (fun n => dname_any (wr.drewN n) g s L ro st q (by obtain ⟨B, h⟩ := HJ.out; exact ⟨B, h.drewN n⟩) HE.out HX.out.2.2.2.1 HSH.out.1 HOB.out hq b hb t ht (stepL (q := q) HSH.out.1 HBL.out HSH.out.2.1 rfl))
          have PK0 := Lib.hid (PK.out 0)
          rw [show wr.drewN 0 = wr from rfl, ht] at PK0
          rw [ht] at BB
          have PK2 := Lib.hid (fun n => PK.out n)
          rw [ht] at PK2
          clear hq hb ht hlu PK
          go_wp2_with fail
          refine PK0.out.mono ?_
          rintro e w2 ⟨rfl, n2, rfl⟩
          go_wp2_with fail
          refine (BB.out _).mono ?_
          rintro e w2 ⟨rfl, rfl⟩
          go_wp2_with fail
          refine (PK2.out _).mono ?_
          rintro e w2 ⟨rfl, n3, rfl⟩
          obtain ⟨n4, hn4⟩ : ∃ n, (wr.drewN n2).drewN n3 = wr.drewN n := ⟨_, World.drewN_drewN _ _ _⟩
          rw [hn4]
          have c7n := c7 n4
          clear c7 hn4
          go_wp2_with fail
          refine (CT.out _).mono ?_
          intro e w4 hS
          have HS := Lib.hid (HRS.out _ _ _ hS)
          rcases hS with ⟨st', p', h1, h2, h3, h4, h5, h6, rfl, h8, h9⟩ | ⟨c, q2, b2, t2, k2, h1, rfl, h3⟩
          · clear h1 h2 h3 h4 h5 h6 h8 h9
            go_wp2_with fail
            first | go_end0 | refine bodyPost_ret (results_none rfl _ _ _) rfl ?_
            exact HS.out
          · clear h1 h3
            go_wp2_with fail
            exact ⟨rfl, HS.out⟩
set_option maxRecDepth 100000 in
set_option maxHeartbeats 6400000 in
theorem dstep_4 (h : JdS w g s L ro st p) (hE : Env s L) (hI : Inv L st p) (hsh : st.hand = .none) (hp : p ≤ 262144) (hnx : st.nx = 4) :
    Calls Tryd.prog 21 #[.pointer (some ⟨g, 0, none⟩)] w (RStep st p g s L ro w) := by
  have hl : st.G.length ≤ 1000 := by have := hI.deep; have := hE.d; omega
  have HL : Hid (∀ c q b, (lack s.toList L : Rs (List Vl)) = .no c q b → ∀ q2, has s.toList L q2 = false → Cl s.toList L st q2 st p → ∃ t k, RunsT s.toList L st p (.no c q b) t k) := by
    intro c q b hl q2 hh hc
    have h1 : RunsT s.toList L st q2 (lack s.toList L) (lackK s.toList L) st.G.length := stop_lack hh (fun _ => last_none hsh (by rw [hnx]; decide))
    rw [hl] at h1
    exact ⟨_, _, hc _ _ _ h1⟩
  have HI0 : Hid (InBl g s L ro st p w (s.size + 1) w) := ⟨p, h, ⟨Nat.le_refl _, hp, by omega, hI, Cl.refl _ _ _ _⟩, Below.refl g w⟩
  have HE := Lib.hid hE
  have HSH := Lib.hid (And.intro hsh (And.intro hnx hl))
  have BL := Lib.hid (fun (b : UInt8) w => dblank_any b w)
  clear h hI hl hp hE hsh hnx
  go_enter Tryd.func21, Tryd.ntmps21
  go_wp2_with fail
  go_loopg [] (s.size + 1) (fun gk wr => InBl g s L ro st p w gk wr)
  case atStart => exact HI0.out
  case round =>
    obtain ⟨q, HJ, HX, HB⟩ := hrel
    clear HI0
    cases hq : has s.toList L q with
    | false =>
      have PN := Lib.hid (peek_lack (w := wr) (g := g) (by obtain ⟨B, h⟩ := HJ.out; exact h.tx.1) (by have := HX.out.2.1; omega) hq)
      obtain ⟨bb, hl⟩ := lack_eq s L
      obtain ⟨tk, kk, hr⟩ := HL.out _ _ _ hl q hq HX.out.2.2.2.2
      have HRN := Lib.hid hr
      clear hq hl hr HL
      go_wp2_with fail
      refine PN.out.mono ?_
      rintro e w2 ⟨rfl, hb⟩
      go_wp2_with fail
      exact ⟨rfl, .inr ⟨_, _, _, tk, kk, HRN.out, rfl, HB.out.trans hb⟩⟩
    | true =>
      obtain ⟨b, hb⟩ : ∃ b, s.toList.getD q 0 = b := ⟨_, rfl⟩
      have HQ := Lib.hid (And.intro hq hb)
      have PK := Lib.hid (fun n => peek_yes (wr.drewN n) g s L q (by obtain ⟨B, h⟩ := HJ.out; exact (h.drewN n).tx.1) HE.out hq b hb)
      cases hbl : Js.blank b with
      | true =>
        have BB := Lib.hid (fun w => BL.out b w)
        rw [hbl] at BB
        have HBL := Lib.hid hbl
        have hqs := has_lt hq
        rw [tl_size] at hqs
        have HQS := Lib.hid hqs
        have NX := Lib.hid (fun n => (show Calls Tryd.prog 24 #[.pointer (some ⟨g, 0, none⟩)] (wr.drewN n) (fun e w' => e = .returned (.int .u8 (b.toNat : Int)) ∧ Hid (JdS w' g s L ro st (q + 1)) ∧ Hid (Below g (wr.drewN n) w')) by
          obtain ⟨B, h⟩ := HJ.out
          refine (nextB_yes (wr.drewN n) g s L ro q (h.drewN n) HE.out hq b hb).mono ?_
          rintro e w' ⟨h1, h2, h3, -⟩
          exact ⟨h1, ⟨B, h2.out⟩, h3⟩))
        clear hq hb hbl hqs
        have PK0 := Lib.hid (PK.out 0)
        rw [show wr.drewN 0 = wr from rfl] at PK0
        go_wp2_with fail
        refine PK0.out.mono ?_
        rintro e w2 ⟨rfl, n2, rfl⟩
        go_wp2_with fail
        refine (BB.out _).mono ?_
        rintro e w2 ⟨rfl, rfl⟩
        go_wp2_with fail
        refine (NX.out _).mono ?_
        rintro e w3 ⟨rfl, hF3, hB3⟩
        go_wp2_with fail
        go_roundg (s.size - q)
        case measure => exact HX.out.2.2.1
        case rel =>
          have hact : st.act L b q = .go st := by
            rw [St.act, HSH.out.1]
            show st.between L b q = _
            rw [St.between, if_pos HBL.out]
          refine ⟨q + 1, hF3, ⟨by have := HX.out.1; omega, by have := HQS.out.2; have := HE.out.b; omega, by have := HQS.out.1; omega, HX.out.2.2.2.1.act hact, Cl.trans (cl_go HQ.out.1 HQ.out.2 hact) HX.out.2.2.2.2⟩, (HB.out.trans (below_drewN g wr n2)).trans hB3.out⟩
      | false =>
        have BB := Lib.hid (fun w => BL.out b w)
        rw [hbl] at BB
        obtain ⟨t, ht⟩ : ∃ t, b.toNat = t := ⟨_, rfl⟩
        have hlu := u8lit b t ht
        have HRS : Hid (∀ n e w', RStep st q g s L ro (wr.drewN n) e w' → RStep st p g s L ro w e w') := fun n e w' h => RStep.back HX.out.2.2.2.2 HX.out.1 (HB.out.trans (below_drewN g wr n)) h
        have c7 : ∀ n, (wr.drewN n).cell? ⟨g, 0 + 7, none⟩ = some (.int .i64 4) := fun n => by
          obtain ⟨B, vV, vS, h⟩ := HJ.out
          have h9 := (h.drewN n).at0.cell 7 _ rfl
          rw [HSH.out.2.1] at h9
          exact h9
        have HBL := Lib.hid hbl
        clear hbl
        have GO : True := trivial
        rcases GO with ⟨⟩
        · skip
          obtain ⟨R, hR⟩ : ∃ R, st.pass (decide (b = 58)) 0 q = R := ⟨_, rfl⟩
          have HA : Hid (∀ (n : Nat) e w', RA R q g s L ro (wr.drewN n) e w' → RStep st q g s L ro (wr.drewN n) e w') := fun n e w' h => RA.step HX.out.2.2.2.1 hq hb (stepL (q := q) HSH.out.1 HBL.out HSH.out.2.1 hR) (fun st' h => pass_hand HSH.out.1 (hR.trans h)) h
          have h58 : decide (b = 58) = decide (t = 58) := decide_eq_decide.2 (show b = 58 ↔ t = 58 from hlu 58 (by decide))
          have h59 : ((t : Int) == 58) = decide (t = 58) := by rw [Bool.eq_iff_iff, beq_iff_eq, decide_eq_true_iff]; omega
          rw [h58] at hR
          generalize decide (t = 58) = r at *
          have CT := Lib.hid (fun n => dpass_any (wr.drewN n) g s L ro st q (by obtain ⟨B, h⟩ := HJ.out; exact ⟨B, h.drewN n⟩) HE.out hq r 0 0 rfl)
          rw [hR] at CT
          have PK0 := Lib.hid (PK.out 0)
          rw [show wr.drewN 0 = wr from rfl, ht] at PK0
          rw [ht] at BB
          have PK2 := Lib.hid (fun n => PK.out n)
          rw [ht] at PK2
          clear hq hb ht hlu PK h58 hR
          go_wp2_with fail
          refine PK0.out.mono ?_
          rintro e w2 ⟨rfl, n2, rfl⟩
          go_wp2_with fail
          refine (BB.out _).mono ?_
          rintro e w2 ⟨rfl, rfl⟩
          go_wp2_with fail
          refine (PK2.out _).mono ?_
          rintro e w2 ⟨rfl, n3, rfl⟩
          obtain ⟨n4, hn4⟩ : ∃ n, (wr.drewN n2).drewN n3 = wr.drewN n := ⟨_, World.drewN_drewN _ _ _⟩
          rw [hn4]
          have c7n := c7 n4
          clear c7 hn4
          go_wp2_with fail
          refine (CT.out _).mono ?_
          intro e w4 hA
          have HS := Lib.hid (HRS.out _ _ _ (HA.out _ _ _ hA))
          revert hA
          cases R with
          | fl c q2 =>
            rintro ⟨rfl, hb4⟩
            go_wp2_with fail
            exact ⟨rfl, HS.out⟩
          | go st2 =>
            rintro ⟨rfl, hF4, hB4⟩
            go_wp2_with fail
            first | go_end0 | refine bodyPost_ret (results_none rfl _ _ _) rfl ?_
            exact HS.out
set_option maxRecDepth 100000 in
set_option maxHeartbeats 6400000 in
theorem dstep_5 (h : JdS w g s L ro st p) (hE : Env s L) (hI : Inv L st p) (hsh : st.hand = .none) (hp : p ≤ 262144) (hnx : st.nx = 5) (hG : st.G ≠ []) :
    Calls Tryd.prog 21 #[.pointer (some ⟨g, 0, none⟩)] w (RStep st p g s L ro w) := by
  have hl : st.G.length ≤ 1000 := by have := hI.deep; have := hE.d; omega
  have HL : Hid (∀ c q b, (lack s.toList L : Rs (List Vl)) = .no c q b → ∀ q2, has s.toList L q2 = false → Cl s.toList L st q2 st p → ∃ t k, RunsT s.toList L st p (.no c q b) t k) := by
    intro c q b hl q2 hh hc
    have h1 : RunsT s.toList L st q2 (lack s.toList L) (lackK s.toList L) st.G.length := stop_lack hh (fun _ => last_none hsh (by rw [hnx]; decide))
    rw [hl] at h1
    exact ⟨_, _, hc _ _ _ h1⟩
  have HI0 : Hid (InBl g s L ro st p w (s.size + 1) w) := ⟨p, h, ⟨Nat.le_refl _, hp, by omega, hI, Cl.refl _ _ _ _⟩, Below.refl g w⟩
  have HE := Lib.hid hE
  have HG := Lib.hid hG
  have HSH := Lib.hid (And.intro hsh (And.intro hnx hl))
  have BL := Lib.hid (fun (b : UInt8) w => dblank_any b w)
  clear h hI hl hp hE hsh hnx hG
  go_enter Tryd.func21, Tryd.ntmps21
  go_wp2_with fail
  go_loopg [] (s.size + 1) (fun gk wr => InBl g s L ro st p w gk wr)
  case atStart => exact HI0.out
  case round =>
    obtain ⟨q, HJ, HX, HB⟩ := hrel
    clear HI0
    cases hq : has s.toList L q with
    | false =>
      have PN := Lib.hid (peek_lack (w := wr) (g := g) (by obtain ⟨B, h⟩ := HJ.out; exact h.tx.1) (by have := HX.out.2.1; omega) hq)
      obtain ⟨bb, hl⟩ := lack_eq s L
      obtain ⟨tk, kk, hr⟩ := HL.out _ _ _ hl q hq HX.out.2.2.2.2
      have HRN := Lib.hid hr
      clear hq hl hr HL
      go_wp2_with fail
      refine PN.out.mono ?_
      rintro e w2 ⟨rfl, hb⟩
      go_wp2_with fail
      exact ⟨rfl, .inr ⟨_, _, _, tk, kk, HRN.out, rfl, HB.out.trans hb⟩⟩
    | true =>
      obtain ⟨b, hb⟩ : ∃ b, s.toList.getD q 0 = b := ⟨_, rfl⟩
      have HQ := Lib.hid (And.intro hq hb)
      have PK := Lib.hid (fun n => peek_yes (wr.drewN n) g s L q (by obtain ⟨B, h⟩ := HJ.out; exact (h.drewN n).tx.1) HE.out hq b hb)
      cases hbl : Js.blank b with
      | true =>
        have BB := Lib.hid (fun w => BL.out b w)
        rw [hbl] at BB
        have HBL := Lib.hid hbl
        have hqs := has_lt hq
        rw [tl_size] at hqs
        have HQS := Lib.hid hqs
        have NX := Lib.hid (fun n => (show Calls Tryd.prog 24 #[.pointer (some ⟨g, 0, none⟩)] (wr.drewN n) (fun e w' => e = .returned (.int .u8 (b.toNat : Int)) ∧ Hid (JdS w' g s L ro st (q + 1)) ∧ Hid (Below g (wr.drewN n) w')) by
          obtain ⟨B, h⟩ := HJ.out
          refine (nextB_yes (wr.drewN n) g s L ro q (h.drewN n) HE.out hq b hb).mono ?_
          rintro e w' ⟨h1, h2, h3, -⟩
          exact ⟨h1, ⟨B, h2.out⟩, h3⟩))
        clear hq hb hbl hqs
        have PK0 := Lib.hid (PK.out 0)
        rw [show wr.drewN 0 = wr from rfl] at PK0
        go_wp2_with fail
        refine PK0.out.mono ?_
        rintro e w2 ⟨rfl, n2, rfl⟩
        go_wp2_with fail
        refine (BB.out _).mono ?_
        rintro e w2 ⟨rfl, rfl⟩
        go_wp2_with fail
        refine (NX.out _).mono ?_
        rintro e w3 ⟨rfl, hF3, hB3⟩
        go_wp2_with fail
        go_roundg (s.size - q)
        case measure => exact HX.out.2.2.1
        case rel =>
          have hact : st.act L b q = .go st := by
            rw [St.act, HSH.out.1]
            show st.between L b q = _
            rw [St.between, if_pos HBL.out]
          refine ⟨q + 1, hF3, ⟨by have := HX.out.1; omega, by have := HQS.out.2; have := HE.out.b; omega, by have := HQS.out.1; omega, HX.out.2.2.2.1.act hact, Cl.trans (cl_go HQ.out.1 HQ.out.2 hact) HX.out.2.2.2.2⟩, (HB.out.trans (below_drewN g wr n2)).trans hB3.out⟩
      | false =>
        have BB := Lib.hid (fun w => BL.out b w)
        rw [hbl] at BB
        obtain ⟨t, ht⟩ : ∃ t, b.toNat = t := ⟨_, rfl⟩
        have hlu := u8lit b t ht
        have HRS : Hid (∀ n e w', RStep st q g s L ro (wr.drewN n) e w' → RStep st p g s L ro w e w') := fun n e w' h => RStep.back HX.out.2.2.2.2 HX.out.1 (HB.out.trans (below_drewN g wr n)) h
        have c7 : ∀ n, (wr.drewN n).cell? ⟨g, 0 + 7, none⟩ = some (.int .i64 5) := fun n => by
          obtain ⟨B, vV, vS, h⟩ := HJ.out
          have h9 := (h.drewN n).at0.cell 7 _ rfl
          rw [HSH.out.2.1] at h9
          exact h9
        have HBL := Lib.hid hbl
        clear hbl
        have GO : True := trivial
        rcases GO with ⟨⟩
        · skip
          obtain ⟨R, hR⟩ : ∃ R, st.goOn b q = R := ⟨_, rfl⟩
          have HA : Hid (∀ (n : Nat) e w', RA R q g s L ro (wr.drewN n) e w' → RStep st q g s L ro (wr.drewN n) e w') := fun n e w' h => RA.step HX.out.2.2.2.1 hq hb (stepL (q := q) HSH.out.1 HBL.out HSH.out.2.1 hR) (fun st' h => goOn_hand HSH.out.1 (hR.trans h)) h
          have CT := Lib.hid (fun n => dgoOn_any (wr.drewN n) g s L ro st q (by obtain ⟨B, h⟩ := HJ.out; exact ⟨B, h.drewN n⟩) HE.out hq HG.out HSH.out.2.2 b t ht)
          rw [hR] at CT
          have PK0 := Lib.hid (PK.out 0)
          rw [show wr.drewN 0 = wr from rfl, ht] at PK0
          rw [ht] at BB
          have PK2 := Lib.hid (fun n => PK.out n)
          rw [ht] at PK2
          clear hq hb ht hlu PK hR
          go_wp2_with fail
          refine PK0.out.mono ?_
          rintro e w2 ⟨rfl, n2, rfl⟩
          go_wp2_with fail
          refine (BB.out _).mono ?_
          rintro e w2 ⟨rfl, rfl⟩
          go_wp2_with fail
          refine (PK2.out _).mono ?_
          rintro e w2 ⟨rfl, n3, rfl⟩
          obtain ⟨n4, hn4⟩ : ∃ n, (wr.drewN n2).drewN n3 = wr.drewN n := ⟨_, World.drewN_drewN _ _ _⟩
          rw [hn4]
          have c7n := c7 n4
          clear c7 hn4
          go_wp2_with fail
          refine (CT.out _).mono ?_
          intro e w4 hA
          have HS := Lib.hid (HRS.out _ _ _ (HA.out _ _ _ hA))
          revert hA
          cases R with
          | fl c q2 =>
            rintro ⟨rfl, hb4⟩
            go_wp2_with fail
            exact ⟨rfl, HS.out⟩
          | go st2 =>
            rintro ⟨rfl, hF4, hB4⟩
            go_wp2_with fail
            first | go_end0 | refine bodyPost_ret (results_none rfl _ _ _) rfl ?_
            exact HS.out
set_option maxRecDepth 100000 in
set_option maxHeartbeats 6400000 in
theorem dstep_1 (h : JdS w g s L ro st p) (hE : Env s L) (hI : Inv L st p) (hsh : st.hand = .none) (hp : p ≤ 262144) (hnx : st.nx = 1) (hG : st.G ≠ []) :
    Calls Tryd.prog 21 #[.pointer (some ⟨g, 0, none⟩)] w (RStep st p g s L ro w) := by
  have hl : st.G.length ≤ 1000 := by have := hI.deep; have := hE.d; omega
  have HL : Hid (∀ c q b, (lack s.toList L : Rs (List Vl)) = .no c q b → ∀ q2, has s.toList L q2 = false → Cl s.toList L st q2 st p → ∃ t k, RunsT s.toList L st p (.no c q b) t k) := by
    intro c q b hl q2 hh hc
    have h1 : RunsT s.toList L st q2 (lack s.toList L) (lackK s.toList L) st.G.length := stop_lack hh (fun _ => last_none hsh (by rw [hnx]; decide))
    rw [hl] at h1
    exact ⟨_, _, hc _ _ _ h1⟩
  have HI0 : Hid (InBl g s L ro st p w (s.size + 1) w) := ⟨p, h, ⟨Nat.le_refl _, hp, by omega, hI, Cl.refl _ _ _ _⟩, Below.refl g w⟩
  have HE := Lib.hid hE
  have HG := Lib.hid hG
  have HSH := Lib.hid (And.intro hsh (And.intro hnx hl))
  have BL := Lib.hid (fun (b : UInt8) w => dblank_any b w)
  clear h hI hl hp hE hsh hnx hG
  go_enter Tryd.func21, Tryd.ntmps21
  go_wp2_with fail
  go_loopg [] (s.size + 1) (fun gk wr => InBl g s L ro st p w gk wr)
  case atStart => exact HI0.out
  case round =>
    obtain ⟨q, HJ, HX, HB⟩ := hrel
    clear HI0
    cases hq : has s.toList L q with
    | false =>
      have PN := Lib.hid (peek_lack (w := wr) (g := g) (by obtain ⟨B, h⟩ := HJ.out; exact h.tx.1) (by have := HX.out.2.1; omega) hq)
      obtain ⟨bb, hl⟩ := lack_eq s L
      obtain ⟨tk, kk, hr⟩ := HL.out _ _ _ hl q hq HX.out.2.2.2.2
      have HRN := Lib.hid hr
      clear hq hl hr HL
      go_wp2_with fail
      refine PN.out.mono ?_
      rintro e w2 ⟨rfl, hb⟩
      go_wp2_with fail
      exact ⟨rfl, .inr ⟨_, _, _, tk, kk, HRN.out, rfl, HB.out.trans hb⟩⟩
    | true =>
      obtain ⟨b, hb⟩ : ∃ b, s.toList.getD q 0 = b := ⟨_, rfl⟩
      have HQ := Lib.hid (And.intro hq hb)
      have PK := Lib.hid (fun n => peek_yes (wr.drewN n) g s L q (by obtain ⟨B, h⟩ := HJ.out; exact (h.drewN n).tx.1) HE.out hq b hb)
      cases hbl : Js.blank b with
      | true =>
        have BB := Lib.hid (fun w => BL.out b w)
        rw [hbl] at BB
        have HBL := Lib.hid hbl
        have hqs := has_lt hq
        rw [tl_size] at hqs
        have HQS := Lib.hid hqs
        have NX := Lib.hid (fun n => (show Calls Tryd.prog 24 #[.pointer (some ⟨g, 0, none⟩)] (wr.drewN n) (fun e w' => e = .returned (.int .u8 (b.toNat : Int)) ∧ Hid (JdS w' g s L ro st (q + 1)) ∧ Hid (Below g (wr.drewN n) w')) by
          obtain ⟨B, h⟩ := HJ.out
          refine (nextB_yes (wr.drewN n) g s L ro q (h.drewN n) HE.out hq b hb).mono ?_
          rintro e w' ⟨h1, h2, h3, -⟩
          exact ⟨h1, ⟨B, h2.out⟩, h3⟩))
        clear hq hb hbl hqs
        have PK0 := Lib.hid (PK.out 0)
        rw [show wr.drewN 0 = wr from rfl] at PK0
        go_wp2_with fail
        refine PK0.out.mono ?_
        rintro e w2 ⟨rfl, n2, rfl⟩
        go_wp2_with fail
        refine (BB.out _).mono ?_
        rintro e w2 ⟨rfl, rfl⟩
        go_wp2_with fail
        refine (NX.out _).mono ?_
        rintro e w3 ⟨rfl, hF3, hB3⟩
        go_wp2_with fail
        go_roundg (s.size - q)
        case measure => exact HX.out.2.2.1
        case rel =>
          have hact : st.act L b q = .go st := by
            rw [St.act, HSH.out.1]
            show st.between L b q = _
            rw [St.between, if_pos HBL.out]
          refine ⟨q + 1, hF3, ⟨by have := HX.out.1; omega, by have := HQS.out.2; have := HE.out.b; omega, by have := HQS.out.1; omega, HX.out.2.2.2.1.act hact, Cl.trans (cl_go HQ.out.1 HQ.out.2 hact) HX.out.2.2.2.2⟩, (HB.out.trans (below_drewN g wr n2)).trans hB3.out⟩
      | false =>
        have BB := Lib.hid (fun w => BL.out b w)
        rw [hbl] at BB
        obtain ⟨t, ht⟩ : ∃ t, b.toNat = t := ⟨_, rfl⟩
        have hlu := u8lit b t ht
        have HRS : Hid (∀ n e w', RStep st q g s L ro (wr.drewN n) e w' → RStep st p g s L ro w e w') := fun n e w' h => RStep.back HX.out.2.2.2.2 HX.out.1 (HB.out.trans (below_drewN g wr n)) h
        have c7 : ∀ n, (wr.drewN n).cell? ⟨g, 0 + 7, none⟩ = some (.int .i64 1) := fun n => by
          obtain ⟨B, vV, vS, h⟩ := HJ.out
          have h9 := (h.drewN n).at0.cell 7 _ rfl
          rw [HSH.out.2.1] at h9
          exact h9
        have HBL := Lib.hid hbl
        clear hbl
        by_cases hc : t = 93
        · skip
          obtain ⟨R, hR⟩ : ∃ R, Out.go st.close = R := ⟨_, rfl⟩
          have HA : Hid (∀ (n : Nat) e w', RA R q g s L ro (wr.drewN n) e w' → RStep st q g s L ro (wr.drewN n) e w') := fun n e w' h => RA.step HX.out.2.2.2.1 hq hb (stepL (q := q) HSH.out.1 HBL.out HSH.out.2.1 (by rw [← hR]; exact if_pos ((hlu 93 (by decide)).2 hc))) (fun st' h => (by rw [← hR] at h; cases h; exact close_hand HSH.out.1)) h
          have CT := Lib.hid (fun n => dend_any (wr.drewN n) g s L ro st q (by obtain ⟨B, h⟩ := HJ.out; exact ⟨B, h.drewN n⟩) HE.out hq HG.out HSH.out.2.2)
          rw [hR] at CT
          have hct : t = 93 := hc
          subst hct
          have PK0 := Lib.hid (PK.out 0)
          rw [show wr.drewN 0 = wr from rfl, ht] at PK0
          rw [ht] at BB
          have PK2 := Lib.hid (fun n => PK.out n)
          rw [ht] at PK2
          clear hq hb ht hlu PK hR
          go_wp2_with fail
          refine PK0.out.mono ?_
          rintro e w2 ⟨rfl, n2, rfl⟩
          go_wp2_with fail
          refine (BB.out _).mono ?_
          rintro e w2 ⟨rfl, rfl⟩
          go_wp2_with fail
          refine (PK2.out _).mono ?_
          rintro e w2 ⟨rfl, n3, rfl⟩
          obtain ⟨n4, hn4⟩ : ∃ n, (wr.drewN n2).drewN n3 = wr.drewN n := ⟨_, World.drewN_drewN _ _ _⟩
          rw [hn4]
          have c7n := c7 n4
          clear c7 hn4
          go_wp2_with fail
          refine (CT.out _).mono ?_
          intro e w4 hA
          have HS := Lib.hid (HRS.out _ _ _ (HA.out _ _ _ hA))
          revert hA
          cases R with
          | fl c q2 =>
            rintro ⟨rfl, hb4⟩
            go_wp2_with fail
            exact ⟨rfl, HS.out⟩
          | go st2 =>
            rintro ⟨rfl, hF4, hB4⟩
            go_wp2_with fail
            first | go_end0 | refine bodyPost_ret (results_none rfl _ _ _) rfl ?_
            exact HS.out
        · skip
          have e5 := eqF (n := t) (c := 93) (by omega)
          have CT := Lib.hid (fun n => dvalue_any (wr.drewN n) g s L ro st q (by obtain ⟨B, h⟩ := HJ.out; exact ⟨B, h.drewN n⟩) HE.out HX.out.2.2.2.1 HSH.out.1 hq b hb t ht (stepL (q := q) HSH.out.1 HBL.out HSH.out.2.1 (if_neg (fun e => hc ((hlu 93 (by decide)).1 e)))))
          have PK0 := Lib.hid (PK.out 0)
          rw [show wr.drewN 0 = wr from rfl, ht] at PK0
          rw [ht] at BB
          have PK2 := Lib.hid (fun n => PK.out n)
          rw [ht] at PK2
          clear hq hb ht hlu PK hc
          go_wp2_with fail
          refine PK0.out.mono ?_
          rintro e w2 ⟨rfl, n2, rfl⟩
          go_wp2_with fail
          refine (BB.out _).mono ?_
          rintro e w2 ⟨rfl, rfl⟩
          go_wp2_with fail
          refine (PK2.out _).mono ?_
          rintro e w2 ⟨rfl, n3, rfl⟩
          obtain ⟨n4, hn4⟩ : ∃ n, (wr.drewN n2).drewN n3 = wr.drewN n := ⟨_, World.drewN_drewN _ _ _⟩
          rw [hn4]
          have c7n := c7 n4
          clear c7 hn4
          go_wp2_with fail
          refine (CT.out _).mono ?_
          intro e w4 hS
          have HS := Lib.hid (HRS.out _ _ _ hS)
          rcases hS with ⟨st', p', h1, h2, h3, h4, h5, h6, rfl, h8, h9⟩ | ⟨c, q2, b2, t2, k2, h1, rfl, h3⟩
          · clear h1 h2 h3 h4 h5 h6 h8 h9
            go_wp2_with fail
            first | go_end0 | refine bodyPost_ret (results_none rfl _ _ _) rfl ?_
            exact HS.out
          · clear h1 h3
            go_wp2_with fail
            exact ⟨rfl, HS.out⟩
set_option maxRecDepth 100000 in
set_option maxHeartbeats 6400000 in
theorem dstep_3 (h : JdS w g s L ro st p) (hE : Env s L) (hI : Inv L st p) (hsh : st.hand = .none) (hp : p ≤ 262144) (hnx : st.nx = 3) (hob : isObj st.G) :
    Calls Tryd.prog 21 #[.pointer (some ⟨g, 0, none⟩)] w (RStep st p g s L ro w) := by
  have hl : st.G.length ≤ 1000 := by have := hI.deep; have := hE.d; omega
  have HL : Hid (∀ c q b, (lack s.toList L : Rs (List Vl)) = .no c q b → ∀ q2, has s.toList L q2 = false → Cl s.toList L st q2 st p → ∃ t k, RunsT s.toList L st p (.no c q b) t k) := by
    intro c q b hl q2 hh hc
    have h1 : RunsT s.toList L st q2 (lack s.toList L) (lackK s.toList L) st.G.length := stop_lack hh (fun _ => last_none hsh (by rw [hnx]; decide))
    rw [hl] at h1
    exact ⟨_, _, hc _ _ _ h1⟩
  have HI0 : Hid (InBl g s L ro st p w (s.size + 1) w) := ⟨p, h, ⟨Nat.le_refl _, hp, by omega, hI, Cl.refl _ _ _ _⟩, Below.refl g w⟩
  have HE := Lib.hid hE
  have HOB := Lib.hid hob
  have HG := Lib.hid (obj_ne hob)
  have HSH := Lib.hid (And.intro hsh (And.intro hnx hl))
  have BL := Lib.hid (fun (b : UInt8) w => dblank_any b w)
  clear h hI hl hp hE hsh hnx hob
  go_enter Tryd.func21, Tryd.ntmps21
  go_wp2_with fail
  go_loopg [] (s.size + 1) (fun gk wr => InBl g s L ro st p w gk wr)
  case atStart => exact HI0.out
  case round =>
    obtain ⟨q, HJ, HX, HB⟩ := hrel
    clear HI0
    cases hq : has s.toList L q with
    | false =>
      have PN := Lib.hid (peek_lack (w := wr) (g := g) (by obtain ⟨B, h⟩ := HJ.out; exact h.tx.1) (by have := HX.out.2.1; omega) hq)
      obtain ⟨bb, hl⟩ := lack_eq s L
      obtain ⟨tk, kk, hr⟩ := HL.out _ _ _ hl q hq HX.out.2.2.2.2
      have HRN := Lib.hid hr
      clear hq hl hr HL
      go_wp2_with fail
      refine PN.out.mono ?_
      rintro e w2 ⟨rfl, hb⟩
      go_wp2_with fail
      exact ⟨rfl, .inr ⟨_, _, _, tk, kk, HRN.out, rfl, HB.out.trans hb⟩⟩
    | true =>
      obtain ⟨b, hb⟩ : ∃ b, s.toList.getD q 0 = b := ⟨_, rfl⟩
      have HQ := Lib.hid (And.intro hq hb)
      have PK := Lib.hid (fun n => peek_yes (wr.drewN n) g s L q (by obtain ⟨B, h⟩ := HJ.out; exact (h.drewN n).tx.1) HE.out hq b hb)
      cases hbl : Js.blank b with
      | true =>
        have BB := Lib.hid (fun w => BL.out b w)
        rw [hbl] at BB
        have HBL := Lib.hid hbl
        have hqs := has_lt hq
        rw [tl_size] at hqs
        have HQS := Lib.hid hqs
        have NX := Lib.hid (fun n => (show Calls Tryd.prog 24 #[.pointer (some ⟨g, 0, none⟩)] (wr.drewN n) (fun e w' => e = .returned (.int .u8 (b.toNat : Int)) ∧ Hid (JdS w' g s L ro st (q + 1)) ∧ Hid (Below g (wr.drewN n) w')) by
          obtain ⟨B, h⟩ := HJ.out
          refine (nextB_yes (wr.drewN n) g s L ro q (h.drewN n) HE.out hq b hb).mono ?_
          rintro e w' ⟨h1, h2, h3, -⟩
          exact ⟨h1, ⟨B, h2.out⟩, h3⟩))
        clear hq hb hbl hqs
        have PK0 := Lib.hid (PK.out 0)
        rw [show wr.drewN 0 = wr from rfl] at PK0
        go_wp2_with fail
        refine PK0.out.mono ?_
        rintro e w2 ⟨rfl, n2, rfl⟩
        go_wp2_with fail
        refine (BB.out _).mono ?_
        rintro e w2 ⟨rfl, rfl⟩
        go_wp2_with fail
        refine (NX.out _).mono ?_
        rintro e w3 ⟨rfl, hF3, hB3⟩
        go_wp2_with fail
        go_roundg (s.size - q)
        case measure => exact HX.out.2.2.1
        case rel =>
          have hact : st.act L b q = .go st := by
            rw [St.act, HSH.out.1]
            show st.between L b q = _
            rw [St.between, if_pos HBL.out]
          refine ⟨q + 1, hF3, ⟨by have := HX.out.1; omega, by have := HQS.out.2; have := HE.out.b; omega, by have := HQS.out.1; omega, HX.out.2.2.2.1.act hact, Cl.trans (cl_go HQ.out.1 HQ.out.2 hact) HX.out.2.2.2.2⟩, (HB.out.trans (below_drewN g wr n2)).trans hB3.out⟩
      | false =>
        have BB := Lib.hid (fun w => BL.out b w)
        rw [hbl] at BB
        obtain ⟨t, ht⟩ : ∃ t, b.toNat = t := ⟨_, rfl⟩
        have hlu := u8lit b t ht
        have HRS : Hid (∀ n e w', RStep st q g s L ro (wr.drewN n) e w' → RStep st p g s L ro w e w') := fun n e w' h => RStep.back HX.out.2.2.2.2 HX.out.1 (HB.out.trans (below_drewN g wr n)) h
        have c7 : ∀ n, (wr.drewN n).cell? ⟨g, 0 + 7, none⟩ = some (.int .i64 3) := fun n => by
          obtain ⟨B, vV, vS, h⟩ := HJ.out
          have h9 := (h.drewN n).at0.cell 7 _ rfl
          rw [HSH.out.2.1] at h9
          exact h9
        have HBL := Lib.hid hbl
        clear hbl
        by_cases hc : t = 125
        · skip
          obtain ⟨R, hR⟩ : ∃ R, Out.go st.close = R := ⟨_, rfl⟩
          have HA : Hid (∀ (n : Nat) e w', RA R q g s L ro (wr.drewN n) e w' → RStep st q g s L ro (wr.drewN n) e w') := fun n e w' h => RA.step HX.out.2.2.2.1 hq hb (stepL (q := q) HSH.out.1 HBL.out HSH.out.2.1 (by rw [← hR]; exact if_pos ((hlu 125 (by decide)).2 hc))) (fun st' h => (by rw [← hR] at h; cases h; exact close_hand HSH.out.1)) h
          have CT := Lib.hid (fun n => dend_any (wr.drewN n) g s L ro st q (by obtain ⟨B, h⟩ := HJ.out; exact ⟨B, h.drewN n⟩) HE.out hq HG.out HSH.out.2.2)
          rw [hR] at CT
          have hct : t = 125 := hc
          subst hct
          have PK0 := Lib.hid (PK.out 0)
          rw [show wr.drewN 0 = wr from rfl, ht] at PK0
          rw [ht] at BB
          have PK2 := Lib.hid (fun n => PK.out n)
          rw [ht] at PK2
          clear hq hb ht hlu PK hR
          go_wp2_with fail
          refine PK0.out.mono ?_
          rintro e w2 ⟨rfl, n2, rfl⟩
          go_wp2_with fail
          refine (BB.out _).mono ?_
          rintro e w2 ⟨rfl, rfl⟩
          go_wp2_with fail
          refine (PK2.out _).mono ?_
          rintro e w2 ⟨rfl, n3, rfl⟩
          obtain ⟨n4, hn4⟩ : ∃ n, (wr.drewN n2).drewN n3 = wr.drewN n := ⟨_, World.drewN_drewN _ _ _⟩
          rw [hn4]
          have c7n := c7 n4
          clear c7 hn4
          go_wp2_with fail
          refine (CT.out _).mono ?_
          intro e w4 hA
          have HS := Lib.hid (HRS.out _ _ _ (HA.out _ _ _ hA))
          revert hA
          cases R with
          | fl c q2 =>
            rintro ⟨rfl, hb4⟩
            go_wp2_with fail
            exact ⟨rfl, HS.out⟩
          | go st2 =>
            rintro ⟨rfl, hF4, hB4⟩
            go_wp2_with fail
            first | go_end0 | refine bodyPost_ret (results_none rfl _ _ _) rfl ?_
            exact HS.out
        · skip
          have e5 := eqF (n := t) (c := 125) (by omega)
          have CT := Lib.hid (fun n => dname_any (wr.drewN n) g s L ro st q (by obtain ⟨B, h⟩ := HJ.out; exact ⟨B, h.drewN n⟩) HE.out HX.out.2.2.2.1 HSH.out.1 HOB.out hq b hb t ht (stepL (q := q) HSH.out.1 HBL.out HSH.out.2.1 (if_neg (fun e => hc ((hlu 125 (by decide)).1 e)))))
          have PK0 := Lib.hid (PK.out 0)
          rw [show wr.drewN 0 = wr from rfl, ht] at PK0
          rw [ht] at BB
          have PK2 := Lib.hid (fun n => PK.out n)
          rw [ht] at PK2
          clear hq hb ht hlu PK hc
          go_wp2_with fail
          refine PK0.out.mono ?_
          rintro e w2 ⟨rfl, n2, rfl⟩
          go_wp2_with fail
          refine (BB.out _).mono ?_
          rintro e w2 ⟨rfl, rfl⟩
          go_wp2_with fail
          refine (PK2.out _).mono ?_
          rintro e w2 ⟨rfl, n3, rfl⟩
          obtain ⟨n4, hn4⟩ : ∃ n, (wr.drewN n2).drewN n3 = wr.drewN n := ⟨_, World.drewN_drewN _ _ _⟩
          rw [hn4]
          have c7n := c7 n4
          clear c7 hn4
          go_wp2_with fail
          refine (CT.out _).mono ?_
          intro e w4 hS
          have HS := Lib.hid (HRS.out _ _ _ hS)
          rcases hS with ⟨st', p', h1, h2, h3, h4, h5, h6, rfl, h8, h9⟩ | ⟨c, q2, b2, t2, k2, h1, rfl, h3⟩
          · clear h1 h2 h3 h4 h5 h6 h8 h9
            go_wp2_with fail
            first | go_end0 | refine bodyPost_ret (results_none rfl _ _ _) rfl ?_
            exact HS.out
          · clear h1 h3
            go_wp2_with fail
            exact ⟨rfl, HS.out⟩
theorem dstep_any (h : JdS w g s L ro st p) (hE : Env s L) (hI : Inv L st p) (hsh : st.hand = .none) (hp : p ≤ 262144) (h6 : st.nx ≠ 6) :
    Calls Tryd.prog 21 #[.pointer (some ⟨g, 0, none⟩)] w (RStep st p g s L ro w) := by
  rcases (hI.nx0 hsh).1 with h0 | ⟨h0, hA⟩ | ⟨h0, hO⟩ | ⟨h0, hG⟩ | ⟨h0, hG⟩
  · exact dstep_0 w g s L ro st p h hE hI hsh hp h0
  · exact dstep_1 w g s L ro st p h hE hI hsh hp h0 (arr_ne hA)
  · rcases h0 with h0 | h0 | h0
    · exact dstep_2 w g s L ro st p h hE hI hsh hp h0 hO
    · exact dstep_3 w g s L ro st p h hE hI hsh hp h0 hO
    · exact dstep_4 w g s L ro st p h hE hI hsh hp h0
  · exact dstep_5 w g s L ro st p h hE hI hsh hp h0 hG
  · exact absurd h0 h6
end
end Jd
end Go.Proofs.YtpaikjlcachabaaDoor
