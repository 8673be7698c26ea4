/- What is told is read to the list that it was. -/
import Derived.Test.YtpaikjlcachabaaDoorJbC
namespace Go.Proofs.YtpaikjlcachabaaDoor
set_option linter.unusedVariables false
set_option linter.unusedSimpArgs false
namespace Jb
open Js Je
open Dr (Rs Lm has lack)
theorem right_kinds {v : Vl} (h : rightV Lib.validD v = true) : (∃ k, v = ⟨k, 0, []⟩ ∧ (k = 0 ∨ k = 1 ∨ k = 2)) ∨ (∃ t, v = ⟨3, 0, t⟩ ∧ numOk t = true) ∨ (∃ t, v = ⟨4, 0, t⟩ ∧ Lib.validD t = true) ∨ (∃ n : Nat, v = ⟨5, (n : Int), []⟩) ∨ (∃ n : Nat, v = ⟨6, (n : Int), []⟩ ∧ n % 2 = 0) := by
  obtain ⟨kind, kids, text⟩ := v
  rw [rightV] at h
  simp only at h
  split at h
  · rename_i h1
    obtain ⟨rfl, rfl⟩ := of_decide_eq_true h
    exact .inl ⟨kind, rfl, h1⟩
  · split at h
    · rename_i h1 h2
      rw [Bool.and_eq_true] at h
      obtain rfl := of_decide_eq_true h.2
      subst h2
      exact .inr (.inl ⟨text, rfl, h.1⟩)
    · split at h
      · rename_i h1 h2 h3
        rw [Bool.and_eq_true] at h
        obtain rfl := of_decide_eq_true h.2
        subst h3
        exact .inr (.inr (.inl ⟨text, rfl, h.1⟩))
      · split at h
        · rename_i h1 h2 h3 h4
          obtain ⟨rfl, h5⟩ := of_decide_eq_true h
          subst h4
          obtain ⟨n, rfl⟩ := Int.eq_ofNat_of_zero_le h5
          exact .inr (.inr (.inr (.inl ⟨n, rfl⟩)))
        · split at h
          · rename_i h1 h2 h3 h4 h5
            obtain ⟨rfl, h6, h7⟩ := of_decide_eq_true h
            subst h5
            obtain ⟨n, rfl⟩ := Int.eq_ofNat_of_zero_le h6
            exact .inr (.inr (.inr (.inr ⟨n, rfl, by omega⟩)))
          · cases h
theorem placed_name {h h' : Hf} {v : Vl} {pre : List UInt8} (hn : isName h = true) (hp : placed h v = some (h', pre)) : v.text ∉ h.names.getD [] ∧ v.kind = 4 ∧ h' = { h with left := h.left - 1, names := some (h.names.getD [] ++ [v.text]) } := by
  rw [placed, if_pos hn] at hp
  split at hp
  · cases hp
  · rename_i h1
    cases hp
    exact ⟨fun h2 => h1 (.inl h2), Decidable.byContradiction fun h2 => h1 (.inr h2), rfl⟩
theorem placed_value {h h' : Hf} {v : Vl} {pre : List UInt8} (hn : isName h = false) (hp : placed h v = some (h', pre)) : h' = { h with left := h.left - 1 } := by
  rw [placed, hn, if_neg (by decide)] at hp
  split at hp <;> cases hp <;> rfl
/-- one value, told and read -/
theorem to_value {S : List UInt8} {L : Lm} (hb : S.length ≤ L.bytes) (hs : S.length ≤ 262144) {h h' : Hf} {st : List Hf} {D : List Vl} {s : St} {v : Vl} {pre : List UInt8} (k : Sq h st D s) (hl : h.left ≠ 0) (hr : rightV Lib.validD v = true) (hp : placed h v = some (h', pre)) (o : List UInt8) (dp : Nat)
    (hi : D.length < L.items) (hd : (tellV (if pre = [] then o else put o pre) (h' :: st) dp v).deep ≤ L.depth) (hS : (tellV (if pre = [] then o else put o pre) (h' :: st) dp v).out <+: S) :
    ∃ s1 s2 h2 st2, (tellV (if pre = [] then o else put o pre) (h' :: st) dp v).st = h2 :: st2 ∧ To S L s o.length s1 (tellV (if pre = [] then o else put o pre) (h' :: st) dp v).out.length ∧ Sq h2 st2 (D ++ [v]) s2 ∧ (s1 = s2 ∨ (h2 = h' ∧ st2 = st ∧ ∃ w x, s1.hand = .num w x ∧ wholeN w = true ∧ s1.endNum x = s2)) := by
  have hS1 := (tell_pre _ _ _ _).1.trans hS
  have hpi := pre_in hS1 hs
  rw [hpi] at hS1 hd hS ⊢
  clear hpi
  obtain ⟨s1, a1, e1, e2, e3, e4, e5⟩ := to_place (L := L) k hl hp o.length
  have t1 := to_pre hb hS1 a1
  have hrl : Rl (h :: st) s1.G s1.cur D := by rw [e3, e4]; exact k.rl
  have hsz : s1.size = D.length := hrl.size.1
  have hln : st.length + 1 = s1.G.length + 1 := hrl.size.2
  generalize o ++ pre = o1 at *
  rcases e5 with ⟨hn, hx⟩ | ⟨hn, hx⟩
  · obtain ⟨n1, n2, n3⟩ := placed_name hn hp
    rcases right_kinds hr with ⟨kd, rfl, h9⟩ | ⟨t, rfl, h9⟩ | ⟨t, rfl, h9⟩ | ⟨n, rfl⟩ | ⟨n, rfl, h9⟩
    · exact absurd n2 (by show kd ≠ 4; omega)
    · exact absurd n2 (by show (3 : Int) ≠ 4; decide)
    · have ev : tellV o1 (h' :: st) dp ⟨4, 0, t⟩ = ⟨quote o1 t, h' :: st, dp⟩ := rfl
      rw [ev] at hS hd ⊢
      rw [show (Te.mk (quote o1 t) (h' :: st) dp).out = quote o1 t from rfl] at hS ⊢
      have hpi := quote_in hS hs
      rw [hpi] at hS ⊢
      clear hpi
      cases hnm : h.names with
      | none => rw [isName, hnm] at hn; cases hn
      | some ns =>
        rw [hnm] at n1 n3
        have hnames : s1.names = ns := by
          have h8 := hrl
          rw [St.names]
          match hG : s1.G with
          | [] => rw [hG] at h8; have := h8.2.2.1; rw [hnm] at this; cases this
          | f :: G =>
            rw [hG] at h8
            have := h8.2.1
            rw [hnm] at this
            show f.o.getD [] = ns
            rw [this]; rfl
        have a2 := acts_name (L := L) (s := s1) ⟨hx, e1, by rw [hsz]; exact hi⟩ o1.length t h9 (by rw [hnames]; exact n1)
        refine ⟨_, _, h', st, rfl, t1.trans (to_pre hb hS a2), ?_, .inl rfl⟩
        have hlf : h.left % 2 = 0 := by
          rw [isName, hnm] at hn
          simpa using hn
        subst n3
        refine ⟨rfl, rfl, ?_, ?_⟩
        · show 4 = nxOf _ (addName t (bump s1.G))
          match hG : s1.G with
          | [] => rw [hG] at hrl; have := hrl.2.2.1; rw [hnm] at this; cases this
          | f :: G =>
            rw [hG] at hrl
            have h7 := hrl.1
            show 4 = (if h.left - 1 = h.kids then _ else if (some (ns ++ [t])).isSome = true ∧ (h.left - 1) % 2 = 1 then 4 else 5)
            rw [if_neg (by omega), if_pos ⟨rfl, by omega⟩]
        · have x1 := Rl.name (ns := ns) t (show ({ h with left := h.left - 1 } : Hf).names = some ns from hnm) (hrl.place hl)
          exact x1.app _
    · exact absurd n2 (by show (5 : Int) ≠ 4; decide)
    · exact absurd n2 (by show (6 : Int) ≠ 4; decide)
  · have n3 := placed_value hn hp
    have hq : Vq L s1 := ⟨hx, e1, e2, by rw [hsz]; exact hi⟩
    rcases right_kinds hr with ⟨kd, rfl, h9⟩ | ⟨t, rfl, h9⟩ | ⟨t, rfl, h9⟩ | ⟨n, rfl⟩ | ⟨n, rfl, h9⟩
    · obtain ⟨x, r, ev, a2⟩ : ∃ x r, tellV o1 (h' :: st) dp ⟨kd, 0, []⟩ = ⟨put o1 (x :: r), h' :: st, dp⟩ ∧ acts L s1 o1.length (x :: r) = some (res s1 kd []) := by
        rcases h9 with rfl | rfl | rfl
        · exact ⟨_, _, rfl, acts_word hq _ _ _ _ (.inr (.inr ⟨rfl, rfl, rfl⟩))⟩
        · exact ⟨_, _, rfl, acts_word hq _ _ _ _ (.inr (.inl ⟨rfl, rfl, rfl⟩))⟩
        · exact ⟨_, _, rfl, acts_word hq _ _ _ _ (.inl ⟨rfl, rfl, rfl⟩)⟩
      rw [ev] at hS hd ⊢
      rw [show (Te.mk (put o1 (x :: r)) (h' :: st) dp).out = put o1 (x :: r) from rfl] at hS ⊢
      have hpi := jput_in hS hs
      rw [hpi] at hS ⊢
      clear hpi
      subst n3
      exact ⟨_, _, _, st, rfl, t1.trans (to_pre hb hS a2), Sq.res hrl e2 hl hn kd [], .inl rfl⟩
    · have ev : tellV o1 (h' :: st) dp ⟨3, 0, t⟩ = ⟨put o1 t, h' :: st, dp⟩ := rfl
      rw [ev] at hS hd ⊢
      rw [show (Te.mk (put o1 t) (h' :: st) dp).out = put o1 t from rfl] at hS ⊢
      have hpi := jput_in hS hs
      rw [hpi] at hS ⊢
      clear hpi
      obtain ⟨s2, w, a2, q1, q2, q3⟩ := acts_num hq o1.length t h9
      subst n3
      exact ⟨s2, _, _, st, rfl, t1.trans (to_pre hb hS a2), Sq.res hrl e2 hl hn 3 t, .inr ⟨rfl, rfl, w, t, q1, q2, q3⟩⟩
    · have ev : tellV o1 (h' :: st) dp ⟨4, 0, t⟩ = ⟨quote o1 t, h' :: st, dp⟩ := rfl
      rw [ev] at hS hd ⊢
      rw [show (Te.mk (quote o1 t) (h' :: st) dp).out = quote o1 t from rfl] at hS ⊢
      have hpi := quote_in hS hs
      rw [hpi] at hS ⊢
      clear hpi
      have a2 := acts_string hq o1.length t h9
      subst n3
      exact ⟨_, _, _, st, rfl, t1.trans (to_pre hb hS a2), Sq.res hrl e2 hl hn 4 t, .inl rfl⟩
    · have ev : tellV o1 (h' :: st) dp ⟨5, (n : Int), []⟩ = ⟨put o1 [91], ⟨n, n, none, 93⟩ :: h' :: st, max dp (h' :: st).length⟩ := rfl
      rw [ev] at hS hd ⊢
      rw [show (Te.mk (put o1 [91]) (⟨n, n, none, 93⟩ :: h' :: st) (max dp (h' :: st).length)).out = put o1 [91] from rfl] at hS ⊢
      have hpi := jput_in hS hs
      rw [hpi] at hS ⊢
      clear hpi
      have hd' : s1.G.length < L.depth := by
        have h7 : max dp (st.length + 1) ≤ L.depth := hd
        omega
      have a2 := acts_open hq o1.length 91 none hd' (.inl ⟨rfl, rfl⟩)
      subst n3
      exact ⟨_, _, _, _, rfl, t1.trans (to_pre hb hS a2), Sq.hold hrl e2 e1 hl hn n 93 none (.inl ⟨rfl, rfl⟩), .inl rfl⟩
    · have ev : tellV o1 (h' :: st) dp ⟨6, (n : Int), []⟩ = ⟨put o1 [123], ⟨n, n, some [], 125⟩ :: h' :: st, max dp (h' :: st).length⟩ := rfl
      rw [ev] at hS hd ⊢
      rw [show (Te.mk (put o1 [123]) (⟨n, n, some [], 125⟩ :: h' :: st) (max dp (h' :: st).length)).out = put o1 [123] from rfl] at hS ⊢
      have hpi := jput_in hS hs
      rw [hpi] at hS ⊢
      clear hpi
      have hd' : s1.G.length < L.depth := by
        have h7 : max dp (st.length + 1) ≤ L.depth := hd
        omega
      have a2 := acts_open hq o1.length 123 (some []) hd' (.inr ⟨rfl, rfl⟩)
      subst n3
      exact ⟨_, _, _, _, rfl, t1.trans (to_pre hb hS a2), Sq.hold hrl e2 e1 hl hn n 125 (some []) (.inr ⟨rfl, rfl, h9⟩), .inl rfl⟩
/-- what comes behind a value -/
theorem next_sign {valid : List UInt8 → Bool} {S : List UInt8} (hs : S.length ≤ 262144) {h : Hf} {st : List Hf} {G : List Fr} {b D : List Vl} (k : Rl (h :: st) G b D) (hlt : h.left < h.kids) {o : List UInt8} {dp : Nat} {l : List Vl} {tf : Te} (hr : run valid ⟨o, h :: st, dp⟩ l = some tf) (he : endS tf.out tf.st = (S, [])) :
    S = o ∨ ∃ c X, S = o ++ c :: X ∧ (c = 44 ∨ c = 58 ∨ c = 93 ∨ c = 125) := by
  have one : ∀ (c : UInt8), put o [c] <+: S → (c = 44 ∨ c = 58 ∨ c = 93 ∨ c = 125) → S = o ∨ ∃ c X, S = o ++ c :: X ∧ (c = 44 ∨ c = 58 ∨ c = 93 ∨ c = 125) := fun c h1 hc => by
    rw [jput_in h1 hs] at h1
    obtain ⟨X, rfl⟩ := h1
    exact .inr ⟨c, X, by simp, hc⟩
  by_cases hl : h.left = 0
  · match st, k with
    | [], k =>
      have e : endS o [h] = (o, []) := by rw [endS, if_pos hl, if_pos rfl]; rfl
      match l, hr with
      | [], hr => cases hr; rw [e] at he; cases he; exact .inl rfl
      | v :: l, hr =>
        rw [run] at hr
        split at hr
        · rw [valueS, e] at hr; cases hr
        · cases hr
    | h2 :: st, k =>
      have e : endS o (h :: h2 :: st) = endS (put o [UInt8.ofNat h.e]) (h2 :: st) := by rw [endS, if_pos hl, if_neg (by simp)]
      have hc : UInt8.ofNat h.e = 44 ∨ UInt8.ofNat h.e = 58 ∨ UInt8.ofNat h.e = 93 ∨ UInt8.ofNat h.e = 125 := by
        match G, k with
        | [], k => exact absurd k.1 (by simp)
        | f :: G, k =>
          rw [k.2.2.1]
          split
          · exact .inr (.inr (.inr rfl))
          · exact .inr (.inr (.inl rfl))
      refine one _ ?_ hc
      match l, hr with
      | [], hr =>
        cases hr
        have h1 : (endS o (h :: h2 :: st)).1 = S := by rw [he]
        rw [e] at h1
        rw [← h1]
        exact ends_pre _ _
      | v :: l, hr =>
        rw [run] at hr
        split at hr
        · cases hv : valueS ⟨o, h :: h2 :: st, dp⟩ v with
          | none => rw [hv] at hr; cases hr
          | some t' =>
            rw [hv] at hr
            have h1 := (value_pre hv).1
            rw [show (Te.mk o (h :: h2 :: st) dp).out = o from rfl, show (Te.mk o (h :: h2 :: st) dp).st = h :: h2 :: st from rfl, e] at h1
            have h3 : (endS tf.out tf.st).1 = S := by rw [he]
            rw [← h3]
            exact (((ends_pre _ _).trans h1).trans (run_pre l t' tf hr).1).trans (ends_pre _ _)
        · cases hr
  · have e : endS o (h :: st) = (o, h :: st) := by rw [endS, if_neg hl]
    match l, hr with
    | [], hr => cases hr; rw [e] at he; cases he
    | v :: l, hr =>
      rw [run] at hr
      split at hr
      · cases hv : valueS ⟨o, h :: st, dp⟩ v with
        | none => rw [hv] at hr; cases hr
        | some t' =>
          rw [hv] at hr
          rw [valueS, show (Te.mk o (h :: st) dp).out = o from rfl, show (Te.mk o (h :: st) dp).st = h :: st from rfl, e] at hv
          simp only at hv
          cases hp : placed h v with
          | none => rw [hp] at hv; cases hv
          | some q =>
            obtain ⟨h', pre⟩ := q
            rw [hp] at hv
            cases hv
            have h3 : (endS tf.out tf.st).1 = S := by rw [he]
            have h1 := ((tell_pre _ _ _ _).1.trans (run_pre l _ tf hr).1).trans (ends_pre tf.st tf.out)
            rw [h3] at h1
            have h4 : pre = [44] ∨ pre = [58] := by
              rw [placed, if_pos hlt] at hp
              split at hp
              · split at hp
                · cases hp
                · cases hp; exact .inl rfl
              · split at hp
                · cases hp; exact .inr rfl
                · cases hp; exact .inl rfl
            rcases h4 with rfl | rfl
            · exact one 44 h1 (.inl rfl)
            · exact one 58 h1 (.inr (.inl rfl))
      · cases hr
theorem no_next {w : Nat} (hw : wholeN w = true) {c : UInt8} (hc : c = 44 ∨ c = 58 ∨ c = 93 ∨ c = 125) : nextN w c = none := by
  rw [wholeN, decide_eq_true_iff] at hw
  rcases hw with rfl | rfl | rfl | rfl <;> rcases hc with rfl | rfl | rfl | rfl <;> decide
theorem left_lt {h h' : Hf} {st : List Hf} {G : List Fr} {b D : List Vl} {v : Vl} {pre : List UInt8} (k : Rl (h :: st) G b D) (hl : h.left ≠ 0) (hp : placed h v = some (h', pre)) : h'.left < h'.kids := by
  have h1 : h.left ≤ h.kids := by
    match G, k with
    | [], k => have := k.2.2.2; omega
    | f :: G, k => have := k.1; omega
  rw [placed] at hp
  split at hp
  · split at hp
    · cases hp
    · cases hp; show h.left - 1 < h.kids; omega
  · split at hp <;> cases hp <;> (show h.left - 1 < h.kids; omega)
theorem back_go {S : List UInt8} {L : Lm} (hb : S.length ≤ L.bytes) (hs : S.length ≤ 262144) {tf : Te} (hd : tf.deep ≤ L.depth) (he : endS tf.out tf.st = (S, [])) : ∀ (l : List Vl) (o : List UInt8) (h : Hf) (st : List Hf) (dp : Nat) (D : List Vl) (s : St), Sq h st D s → run Lib.validD ⟨o, h :: st, dp⟩ l = some tf → (D ++ l).length ≤ L.items → ∃ t k, RunsT S L s o.length (.ok (D ++ l)) t k
  | [], o, h, st, dp, D, s, k, hr, hi => by
    cases hr
    have he' : endS o (h :: st) = (S, []) := he
    obtain ⟨s', t1, t2⟩ := to_ends hb hs st h o D s k (by rw [he']; exact List.prefix_refl _)
    rw [he'] at t1 t2
    rcases t2 with ⟨-, g1, g2, g3, g4⟩ | ⟨_, _, g, -⟩
    · rw [List.append_nil]
      refine t1 _ ?_
      have h1 : has S L S.length = false := by
        cases hh : has S L S.length with
        | false => rfl
        | true => have := (has_lt hh).1; omega
      have h2 := RunsT.stop (s := s') h1
      have h3 : fin S L s' = .ok D := by
        rw [fin, if_pos hb, St.last, g1, g2, g3, g4]; rfl
      rw [h3] at h2
      exact ⟨_, _, h2⟩
    · cases g
  | v :: l, o, h, st, dp, D, s, k, hr, hi => by
    have hS : (endS tf.out tf.st).1 = S := by rw [he]
    rw [run] at hr
    split at hr
    · rename_i hv
      cases hvs : valueS ⟨o, h :: st, dp⟩ v with
      | none => rw [hvs] at hr; cases hr
      | some t' =>
        rw [hvs] at hr
        have hr' : run Lib.validD t' l = some tf := hr
        have p1 := (value_pre hvs).1
        obtain ⟨p2, p3⟩ := run_pre l t' tf hr'
        have p4 : t'.out <+: S := by rw [← hS]; exact p2.trans (ends_pre _ _)
        obtain ⟨s1, t1, t2⟩ := to_ends hb hs st h o D s k (p1.trans p4)
        rcases t2 with ⟨g, -⟩ | ⟨h1, st1, g1, g2, k1⟩
        · rw [valueS, show (Te.mk o (h :: st) dp).out = o from rfl, show (Te.mk o (h :: st) dp).st = h :: st from rfl] at hvs
          generalize endS o (h :: st) = e at g hvs
          obtain ⟨oo, ss⟩ := e
          cases g
          cases hvs
        · rw [valueS, show (Te.mk o (h :: st) dp).out = o from rfl, show (Te.mk o (h :: st) dp).st = h :: st from rfl] at hvs
          generalize endS o (h :: st) = e at g1 hvs t1
          obtain ⟨o1, ss⟩ := e
          cases g1
          simp only at hvs
          cases hp : placed h1 v with
          | none => rw [hp] at hvs; cases hvs
          | some q =>
            obtain ⟨h', pre⟩ := q
            rw [hp] at hvs
            have hvs' : tellV (if pre = [] then o1 else put o1 pre) (h' :: st1) dp v = t' := Option.some.inj hvs
            have hi2 : D.length < L.items := by rw [List.length_append, List.length_cons] at hi; omega
            obtain ⟨s2, s3, h2, st2, q1, q2, q3, q4⟩ := to_value hb hs k1 g2 hv hp o1 dp hi2 (by rw [hvs']; omega) (by rw [hvs']; exact p4)
            rw [hvs'] at q1 q2
            obtain ⟨ot, sst, dpt⟩ := t'
            simp only at q1 q2
            subst q1
            obtain ⟨t, kk, r1⟩ := back_go hb hs hd he l ot h2 st2 dpt (D ++ [v]) s3 q3 hr' (by rw [List.append_assoc]; exact hi)
            rw [List.append_assoc] at r1
            refine t1 _ (q2 _ ?_)
            rcases q4 with rfl | ⟨rfl, rfl, w, x, y1, y2, rfl⟩
            · exact ⟨t, kk, r1⟩
            · refine ⟨t, kk, num_over y1 y2 ?_ r1⟩
              intro hh
              have hlt := (has_lt hh).1
              rcases next_sign hs q3.rl (left_lt k1.rl g2 hp) hr' he with e | ⟨c, X, e, hc⟩
              · rw [e] at hlt; omega
              · rw [show S.getD ot.length 0 = c by rw [e, List.getD, List.getElem?_append_right (Nat.le_refl _), Nat.sub_self]; rfl]
                exact no_next y2 hc
    · cases hr
/-- what is told is read to the list that it was -/
theorem back {l : List Vl} {o : List UInt8} (h : enc Lib.validD l = (o, 0)) : l.length ≤ 4096 ∧ o.length ≤ 262144 ∧ ∃ t k, RunsT o ⟨32, 4096, 262144⟩ st0 0 (.ok l) t k := by
  rw [enc] at h
  split at h
  · cases h
  · rename_i hl
    cases hr : run Lib.validD te0 l with
    | none => rw [hr] at h; cases h
    | some tf =>
      rw [hr] at h
      simp only at h
      split at h
      · rename_i h1
        split at h
        · cases h
        · rename_i h2
          cases h
          have he : endS tf.out tf.st = ((endS tf.out tf.st).1, []) := by rw [← h1]
          refine ⟨by omega, by omega, ?_⟩
          exact back_go (L := ⟨32, 4096, 262144⟩) (by show _ ≤ 262144; omega) (by omega) (by show _ ≤ 32; omega) he l [] base [] 0 [] st0 ⟨rfl, rfl, rfl, rfl, rfl, rfl, rfl, Nat.le_refl _⟩ hr (by show l.length ≤ 4096; omega)
      · cases h
end Jb
end Go.Proofs.YtpaikjlcachabaaDoor
