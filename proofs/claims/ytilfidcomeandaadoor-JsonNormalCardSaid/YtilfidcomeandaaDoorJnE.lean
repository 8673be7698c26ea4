/- What is read can be told: the whole. -/
import Derived.Test.YtilfidcomeandaaDoorJnD
import Derived.Test.YtilfidcomeandaaDoorJbD
namespace Go.Proofs.YtilfidcomeandaaDoor
set_option linter.unusedVariables false
set_option linter.unusedSimpArgs false
namespace Jn2
open Js Je Jb Jh
open Dr (Rs Lm has lack)
theorem fw_close {s : St} {f : Fr} {G : List Fr} (hG : s.G = f :: G) (hF : Fw s) : Fw s.close := by
  obtain ⟨nx, hand, named, cur, G0⟩ := s
  obtain rfl : G0 = f :: G := hG
  obtain ⟨f1, f2, lw, -⟩ := hF
  refine ⟨rfl, f2, ?_⟩
  match G, lw with
  | [], _ => exact .inr rfl
  | f' :: G, lw => exact ⟨lw.2.2, .inr (.inr (.inr (.inl ⟨rfl, lw.1, lw.2.1⟩)))⟩
theorem nx_close {s : St} {f : Fr} {G : List Fr} (hG : s.G = f :: G) : s.close.nx = if G.isEmpty = true then 6 else 5 := by
  obtain ⟨nx, hand, named, cur, G0⟩ := s
  obtain rfl : G0 = f :: G := hG
  rfl
/-- a name that was read -/
theorem pv_named {S : List UInt8} {L : Lm} {s s' : St} {p : Nat} {l : List Vl} {b : UInt8} {f : Fr} {G : List Fr} {ns : List (List UInt8)} (hp : p < S.length) (hG : s.G = f :: G) (hs : f.o = some ns) (he : f.n % 2 = 0) (hF : Fw s) (ha : s.name L b p = .go s') (hR : Rd S L s' (p + 1) l)
    (ih : ∀ s2 q, p < q → q ≤ S.length → Fw s2 → (s2.nx ≠ 0 ∨ s2.G = []) → s2.nx ≠ 2 → Rd S L s2 q l → PN S s2 q l) : PV S s p l true := by
  rw [St.name] at ha
  split at ha
  · rw [St.add] at ha
    split at ha
    · cases ha
    · cases ha
      obtain ⟨u, q, sE, e1, e2, e3, e4, e5, e6⟩ := str_run { s.begin 4 .none with named := some p } (p + 1) s0 iv0 hR
      have e4 : Lib.validD u = true := e4
      have e5 : (if u ∈ (match bump s.G with | [] => [] | f :: _ => f.o.getD [] : List (List UInt8)) then Out.fl 9 p else Out.go ({ s with cur := withText u (s.cur ++ [(⟨4, 0, []⟩ : Vl)]), hand := .none, named := none, nx := 4, G := addName u (bump s.G) } : St)) = .go sE := e5
      have hbn : (match bump s.G with | [] => [] | f :: _ => f.o.getD [] : List (List UInt8)) = s.names := bump_names s
      rw [hbn, with_text] at e5
      split at e5
      · cases e5
      · rename_i hn
        have e7 : sE = resN s u := by cases e5; rfl
        subst e7
        have hn2 : s.names = ns := by rw [St.names, hG]; show f.o.getD [] = ns; rw [hs]; rfl
        rw [hn2] at hn
        have hf : Fw (resN s u) := by
          obtain ⟨nx, hand, named, cur, G0⟩ := s
          obtain rfl : G0 = f :: G := hG
          obtain ⟨f1, f2, lw, -⟩ := hF
          refine ⟨rfl, rfl, lw, .inr (.inr (.inl ⟨rfl, ?_, ?_⟩))⟩
          · show (f.o.map (· ++ [u])).isSome = true
            rw [hs]; rfl
          · show (f.n + 1) % 2 = 1
            omega
        exact pv_name hG hs he (ih _ _ (by omega) e2 hf (.inl (by show (4 : Nat) ≠ 0; decide)) (by show (4 : Nat) ≠ 2; decide) e6) e4 hn (by omega) e2 (by omega)
  · cases ha
theorem main_step {S : List UInt8} {L : Lm} (hL : L.depth ≤ 32) {l : List Vl} (s : St) (p : Nat) (hp : p ≤ S.length) (hF : Fw s) (hR : Rd S L s p l)
    (ih : ∀ s2 q, p < q → q ≤ S.length → Fw s2 → Rd S L s2 q l → ((s2.nx ≠ 0 ∨ s2.G = []) → s2.nx ≠ 2 → PN S s2 q l) ∧ (s2.nx = 0 → PV S s2 q l false) ∧ (s2.nx = 2 → PV S s2 q l true)) :
    ((s.nx ≠ 0 ∨ s.G = []) → s.nx ≠ 2 → PN S s p l) ∧ (s.nx = 0 → PV S s p l false) ∧ (s.nx = 2 → PV S s p l true) := by
  have ih1 : ∀ s2 q, p < q → q ≤ S.length → Fw s2 → (s2.nx ≠ 0 ∨ s2.G = []) → s2.nx ≠ 2 → Rd S L s2 q l → PN S s2 q l := fun s2 q a1 a2 a3 a4 a5 a6 => (ih s2 q a1 a2 a3 a6).1 a4 a5
  rcases hR.inv with ⟨hh, h1, hb⟩ | ⟨s', hp2, ha, h1, hh⟩
  · have h2 := h1
    rw [St.last, hF.1] at h2
    split at h2
    · rename_i hG
      have hG' : s.G = [] := List.isEmpty_iff.1 hG
      simp only at h2
      split at h2
      · rename_i hx
        cases h2
        refine ⟨fun _ _ => ?_, fun h => (by omega), fun h => (by omega)⟩
        refine ⟨⟨1, 0, none, 0⟩, [], s.cur, [], ⟨hF.1, hF.2.1, ?_, ?_⟩, by simp, fun o dp => ?_, rfl, fun x hx => (by cases hx)⟩
        · rw [hG', hx]; rfl
        · rw [hG']; exact ⟨rfl, rfl, rfl, rfl, Nat.zero_le _⟩
        · have e : endS o [(⟨1, 0, none, 0⟩ : Hf)] = (o, []) := by rw [endS, if_pos rfl, if_pos rfl]; rfl
          refine ⟨⟨o, [⟨1, 0, none, 0⟩], dp⟩, rfl, ?_, ?_, fun h => h⟩
          · show (endS o [⟨1, 0, none, 0⟩]).2 = []; rw [e]
          · show (endS o [⟨1, 0, none, 0⟩]).1.length ≤ _; rw [e]; show o.length ≤ _; omega
      · cases h2
    · cases h2
  · generalize S.getD p 0 = b at ha
    by_cases hbl : Js.blank b = true
    · have ha : s.act L b p = .go s' := ha
      rw [St.act, hF.1] at ha
      have ha : s.between L b p = .go s' := ha
      rw [St.between, if_pos hbl] at ha
      cases ha
      obtain ⟨i1, i2, i3⟩ := ih s (p + 1) (by omega) hp2 hF h1
      exact ⟨fun a c => (i1 a c).back (by omega), fun a => (i2 a).back (by omega), fun a => (i3 a).back (by omega)⟩
    · rw [act_none hF.1 b p (by simpa using hbl)] at ha
      have value : ∀ (hV : Vw s), s.value L b p = .go s' → PV S s p l false := fun hV hv => pv_value hL hp2 hV hv h1 ih1
      have pn_same : ∀ nm, PV S s p l nm → (s.nx ≠ 0 ∨ s.G = []) → s.nx ≠ 2 → s.nx ≠ 6 → ¬ (s.nx = 5 ∨ s.nx = 4) → PN S s p l := fun nm hv a1 a2 a3 a4 => pn_of hv rfl rfl hF a1 a2 a3 (fun h => absurd h a4) (Nat.le_refl _) hp
      cases hG : s.G with
      | nil =>
        have f3 := hF.2.2
        rw [hG] at f3
        rcases f3 with ⟨f3, f4⟩ | f3
        · rw [St.step, f3] at ha
          have hv := value ⟨hF.1, hF.2.1, by rw [hG]; trivial⟩ ha
          exact ⟨fun a c => pn_same false hv (.inr hG) c (by omega) (by omega), fun _ => hv, fun h => (by omega)⟩
        · rw [St.step, f3] at ha
          cases ha
      | cons f G =>
        have f3 := hF.2.2
        rw [hG] at f3
        obtain ⟨lw, f3⟩ := f3
        have close : (s.nx = 1 ∨ s.nx = 3 ∨ s.nx = 5) → s' = s.close → PN S s p l := fun a1 a2 => by
          subst a2
          have e1 := nx_close (s := s) hG
          refine pn_close hF (by rw [hG]; simp) a1 hp2 (ih1 _ _ (by omega) hp2 (fw_close hG hF) ?_ ?_ h1)
          · left; rw [e1]; split <;> decide
          · rw [e1]; split <;> decide
        have named : ∀ ns, f.o = some ns → f.n % 2 = 0 → s.name L b p = .go s' → PV S s p l true := fun ns a1 a2 a3 => pv_named hp2 hG a1 a2 hF a3 h1 ih1
        rcases f3 with ⟨e1, e2, e3⟩ | ⟨e1, e2, e3⟩ | ⟨e1, e2, e3⟩ | ⟨e1, e2, e3⟩ | ⟨e1, e2, e3⟩ | ⟨e1, e2, e3, e4⟩
        · refine ⟨fun a c => ?_, fun h => (by omega), fun h => (by omega)⟩
          rw [St.step, e1] at ha
          have ha : (if b = 93 then Out.go s.close else s.value L b p) = .go s' := ha
          split at ha
          · cases ha; exact close (.inl e1) rfl
          · exact pn_same false (value ⟨hF.1, hF.2.1, by rw [hG]; exact ⟨lw, fun h => (by rw [e2] at h; cases h)⟩⟩ ha) (.inl (by omega)) c (by omega) (by omega)
        · refine ⟨fun a c => ?_, fun h => (by omega), fun h => (by omega)⟩
          rw [St.step, e1] at ha
          have ha : (if b = 125 then Out.go s.close else s.name L b p) = .go s' := ha
          split at ha
          · cases ha; exact close (.inr (.inl e1)) rfl
          · obtain ⟨ns, hns⟩ := Option.isSome_iff_exists.1 e2
            exact pn_same true (named ns hns (by omega) ha) (.inl (by omega)) c (by omega) (by omega)
        · refine ⟨fun a c => ?_, fun h => (by omega), fun h => (by omega)⟩
          rw [St.step, e1] at ha
          have ha : s.pass (decide (b = 58)) 0 p = .go s' := ha
          rw [St.pass] at ha
          split at ha
          · cases ha
            have hf : Fw { s with nx := 0 } := ⟨hF.1, hF.2.1, by show (match s.G with | [] => _ | f :: G => _); rw [hG]; exact ⟨lw, .inr (.inr (.inr (.inr (.inl ⟨rfl, fun _ => e3, fun h => (by rw [e2] at h; cases h)⟩))))⟩⟩
            exact pn_of ((ih _ _ (by omega) hp2 hf h1).2.1 rfl) rfl rfl hF (.inl (by omega)) c (by omega) (fun _ => by omega) (by omega) hp2
          · cases ha
        · refine ⟨fun a c => ?_, fun h => (by omega), fun h => (by omega)⟩
          rw [St.step, e1] at ha
          have ha : s.goOn b p = .go s' := ha
          rw [St.goOn] at ha
          have hob : s.object = f.o.isSome := obj_of hG
          split at ha
          · rename_i ho
            rw [hob] at ho
            split at ha
            · cases ha; exact close (.inr (.inr e1)) rfl
            · rw [St.pass] at ha
              split at ha
              · cases ha
                have hf : Fw { s with nx := 2 } := ⟨hF.1, hF.2.1, by show (match s.G with | [] => _ | f :: G => _); rw [hG]; exact ⟨lw, .inr (.inr (.inr (.inr (.inr ⟨rfl, ho, e3 ho, e2⟩))))⟩⟩
                exact pn_of ((ih _ _ (by omega) hp2 hf h1).2.2 rfl) rfl rfl hF (.inl (by omega)) c (by omega) (fun _ => by omega) (by omega) hp2
              · cases ha
          · rename_i ho
            rw [hob] at ho
            split at ha
            · cases ha; exact close (.inr (.inr e1)) rfl
            · rw [St.pass] at ha
              split at ha
              · cases ha
                have hf : Fw { s with nx := 0 } := ⟨hF.1, hF.2.1, by show (match s.G with | [] => _ | f :: G => _); rw [hG]; exact ⟨lw, .inr (.inr (.inr (.inr (.inl ⟨rfl, fun h => absurd h ho, fun _ => e2⟩))))⟩⟩
                exact pn_of ((ih _ _ (by omega) hp2 hf h1).2.1 rfl) rfl rfl hF (.inl (by omega)) c (by omega) (fun _ => by omega) (by omega) hp2
              · cases ha
        · rw [St.step, e1] at ha
          have hv := value ⟨hF.1, hF.2.1, by rw [hG]; exact ⟨lw, e2⟩⟩ ha
          refine ⟨fun a c => ?_, fun _ => hv, fun h => (by omega)⟩
          rcases a with a | a
          · exact absurd e1 a
          · cases a
        · rw [St.step, e1] at ha
          obtain ⟨ns, hns⟩ := Option.isSome_iff_exists.1 e2
          have hv := named ns hns e3 ha
          exact ⟨fun a c => absurd e1 c, fun h => (by omega), fun _ => hv⟩
theorem main {S : List UInt8} {L : Lm} (hL : L.depth ≤ 32) {l : List Vl} : ∀ n s p, S.length - p ≤ n → p ≤ S.length → Fw s → Rd S L s p l →
    ((s.nx ≠ 0 ∨ s.G = []) → s.nx ≠ 2 → PN S s p l) ∧ (s.nx = 0 → PV S s p l false) ∧ (s.nx = 2 → PV S s p l true) := by
  intro n
  induction n with
  | zero =>
    intro s p hn hp hF hR
    exact main_step hL s p hp hF hR (fun s2 q h1 h2 => by omega)
  | succ n ih =>
    intro s p hn hp hF hR
    exact main_step hL s p hp hF hR (fun s2 q h1 h2 h3 h4 => ih s2 q (by omega) h2 h3 h4)
/-- what was read is told -/
theorem normal {S : List UInt8} {L : Lm} (hL : L.depth ≤ 32) {l : List Vl} (h : Rd S L st0 0 l) : ∃ tf, run Lib.validD te0 l = some tf ∧ (endS tf.out tf.st).2 = [] ∧ (endS tf.out tf.st).1.length ≤ 6 * S.length ∧ tf.deep ≤ 32 ∧ ∀ x ∈ l, x.text.length ≤ 6 * S.length := by
  obtain ⟨hh, st, D, rest, q1, q2, q3, q4⟩ := (main hL S.length st0 0 (Nat.le_refl _) (Nat.zero_le _) ⟨rfl, rfl, .inl ⟨rfl, rfl⟩⟩ h).1 (.inr rfl) (by show (0 : Nat) ≠ 2; decide)
  obtain ⟨k1, k2, k3, k4⟩ := q1
  obtain ⟨r1, r2, r3, r4, r5⟩ : st = [] ∧ D = [] ∧ hh.names = none ∧ hh.kids = 1 ∧ hh.left ≤ 1 := k4
  subst r1 r2
  have hl : hh.left = 1 := by
    have k3 : 0 = (if hh.left = 0 then 6 else 0) := k3
    split at k3
    · cases k3
    · omega
  have he : hh.e = 0 := q4.1
  obtain ⟨n, left, names, e⟩ := hh
  simp only at r3 r4 hl he
  subst r3 r4 hl he
  rw [List.nil_append] at q2
  subst q2
  obtain ⟨tf, t1, t2, t3, t4⟩ := q3 [] 0
  exact ⟨tf, t1, t2, by have t3 : (endS tf.out tf.st).1.length ≤ 0 + 6 * (S.length - 0) := t3; omega, t4 (by omega), q4.2⟩
def lefts : List Hf → Nat
  | [] => 0
  | h :: st => h.left + lefts st
theorem lefts_ends : ∀ (st : List Hf) (o : List UInt8), lefts (endS o st).2 = lefts st
  | [], o => rfl
  | h :: st, o => by
    rw [endS]
    split
    · rename_i h1
      rw [lefts_ends st, lefts, h1, Nat.zero_add]
    · rfl
theorem placed_left {h h' : Hf} {v : Vl} {pre : List UInt8} (hp : placed h v = some (h', pre)) : h'.left = h.left - 1 := by
  rw [placed] at hp
  split at hp
  · split at hp
    · cases hp
    · cases hp; rfl
  · split at hp <;> cases hp <;> rfl
theorem tell_lefts (o : List UInt8) (st : List Hf) (dp : Nat) (v : Vl) (hr : rightV Lib.validD v = true) : lefts (tellV o st dp v).st = v.kids.toNat + lefts st := by
  rcases right_kinds hr with ⟨k, rfl, rfl | rfl | rfl⟩ | ⟨t, rfl, -⟩ | ⟨t, rfl, -⟩ | ⟨n, rfl⟩ | ⟨n, rfl, -⟩
  · exact (Nat.zero_add _).symm
  · exact (Nat.zero_add _).symm
  · exact (Nat.zero_add _).symm
  · exact (Nat.zero_add _).symm
  · exact (Nat.zero_add _).symm
  · rfl
  · rfl
/-- what holds values has no more of them than there are -/
theorem kids_le : ∀ (l : List Vl) (t tf : Te), run Lib.validD t l = some tf → (endS tf.out tf.st).2 = [] → lefts t.st ≤ l.length ∧ ∀ v ∈ l, v.kids ≤ (l.length : Int)
  | [], t, tf, h, he => by
    cases h
    have h1 := lefts_ends t.st t.out
    rw [he] at h1
    exact ⟨by rw [← h1]; exact Nat.zero_le _, fun v hv => by cases hv⟩
  | v :: l, t, tf, h, he => by
    rw [run] at h
    split at h
    · rename_i hr
      cases hv : valueS t v with
      | none => rw [hv] at h; cases h
      | some t' =>
        rw [hv] at h
        obtain ⟨h1, h2⟩ := kids_le l t' tf h he
        rw [valueS] at hv
        have h3 := lefts_ends t.st t.out
        generalize endS t.out t.st = e at hv h3
        obtain ⟨o, st⟩ := e
        match st, hv, h3 with
        | x :: G, hv, h3 =>
          simp only at hv
          cases hp : placed x v with
          | none => rw [hp] at hv; cases hv
          | some q =>
            obtain ⟨h', pre⟩ := q
            rw [hp] at hv
            cases hv
            have h4 := placed_left hp
            rw [tell_lefts _ _ _ _ hr, lefts, h4] at h1
            have h3 : x.left + lefts G = lefts t.st := h3
            refine ⟨by rw [List.length_cons]; omega, fun u hu => ?_⟩
            rw [List.length_cons]
            rcases List.mem_cons.1 hu with rfl | hu
            · omega
            · have := h2 u hu; omega
    · cases h
/-- what telling of what was read comes to -/
theorem enc_normal {S : List UInt8} {L : Lm} (hL : L.depth ≤ 32) {l : List Vl} (hl : l.length ≤ 4096) (h : Rd S L st0 0 l) : (∃ t, enc Lib.validD l = (t, 0)) ∨ (enc Lib.validD l = ([], 10) ∧ 43690 < S.length) := by
  obtain ⟨tf, t1, t2, t3, t4, -⟩ := normal hL h
  rw [enc, if_neg (by omega), t1]
  simp only
  rw [if_pos t2]
  by_cases hx : 32 < tf.deep ∨ 262144 < (endS tf.out tf.st).1.length
  · rw [if_pos hx]
    exact .inr ⟨rfl, by omega⟩
  · rw [if_neg hx]
    exact .inl ⟨_, rfl⟩
theorem fit_normal {S : List UInt8} {L : Lm} (hL : L.depth ≤ 32) {l : List Vl} (hl : l.length ≤ 4096) (hS : S.length ≤ 262144) (h : Rd S L st0 0 l) : ∀ x ∈ l, x.text.length ≤ 140737488351232 ∧ x.kids ≤ 9223372036854775807 := fun x hx => by
  obtain ⟨tf, t1, t2, t3, t4, t5⟩ := normal hL h
  have h1 := t5 x hx
  have h2 := (kids_le l te0 tf t1 t2).2 x hx
  omega
end Jn2
end Go.Proofs.YtilfidcomeandaaDoor
