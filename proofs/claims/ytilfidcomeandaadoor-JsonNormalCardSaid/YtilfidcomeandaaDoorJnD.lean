/- What is read can be told: by induction from the text's end. -/
import Derived.Test.YtilfidcomeandaaDoorJnC
namespace Go.Proofs.YtilfidcomeandaaDoor
set_option linter.unusedVariables false
set_option linter.unusedSimpArgs false
namespace Jn2
open Js Je Jb Jh
open Dr (Rs Lm has lack)
/-- what holds a value that is to come -/
def Vw (s : St) : Prop := s.hand = .none ∧ s.named = none ∧ match s.G with
  | [] => True
  | f :: G => Lw G ∧ (f.o.isSome = true → f.n % 2 = 1)
theorem fw_res {s : St} (h : Vw s) (kd : Int) (t : List UInt8) : Fw (res s kd t) := by
  obtain ⟨nx, hand, named, cur, G⟩ := s
  obtain ⟨h1, h2, h3⟩ := h
  refine ⟨rfl, h2, ?_⟩
  match G, h3 with
  | [], _ => exact .inr rfl
  | f :: G, h3 => exact ⟨h3.1, .inr (.inr (.inr (.inl ⟨rfl, Nat.succ_pos _, fun e => by have := h3.2 e; show (f.n + 1) % 2 = 0; omega⟩)))⟩
theorem fw_hold {s : St} (h : Vw s) (o : Option (List (List UInt8))) : Fw (s.hold o) := by
  obtain ⟨nx, hand, named, cur, G⟩ := s
  obtain ⟨h1, h2, h3⟩ := h
  refine ⟨h1, h2, ?_⟩
  show Lw (bump G) ∧ _
  refine ⟨?_, ?_⟩
  · match G, h3 with
    | [], _ => exact trivial
    | f :: G, h3 => exact ⟨Nat.succ_pos _, fun e => by have := h3.2 e; show (f.n + 1) % 2 = 0; omega, h3.1⟩
  · cases o with
    | none => exact .inl ⟨rfl, rfl, rfl⟩
    | some ns => exact .inr (.inl ⟨rfl, rfl, rfl⟩)
theorem len_qb : ∀ t : List UInt8, t.length ≤ (t.flatMap qb).length
  | [] => Nat.le_refl _
  | b :: t => by
    have h := len_qb t
    have h1 : 1 ≤ (qb b).length := by
      rw [qb]
      repeat' split
      all_goals simp
    rw [List.flatMap_cons, List.length_append, List.length_cons]
    omega
/-- a value without others in it -/
theorem pv_res {S : List UInt8} {s : St} {p q : Nat} {l : List Vl} {kd : Int} {t : List UInt8} (hV : Vw s) (h : PN S (res s kd t) q l) (hr : rightV Lib.validD ⟨kd, 0, t⟩ = true) (hlt : t.length ≤ 6 * S.length) (hq : p ≤ q) (hqS : q ≤ S.length)
    (ht : ∀ o st dp, ∃ o', tellV o st dp ⟨kd, 0, t⟩ = ⟨o', st, dp⟩ ∧ o'.length ≤ o.length + 6 * (q - p)) : PV S s p l false := by
  obtain ⟨h2, st, D2, rest, q1, q2, q3, q4⟩ := h
  obtain ⟨k1, k2, k3, k4⟩ := q1
  obtain ⟨nx, hand, named, cur, G⟩ := s
  obtain ⟨v1, v2, v3⟩ := hV
  have k3 : (if (bump G).isEmpty = true then 6 else 5) = nxOf h2 (bump G) := k3
  have k4 : Rl (h2 :: st) (bump G) (cur ++ [⟨kd, 0, t⟩]) D2 := k4
  obtain ⟨D, e1, e2⟩ := un_app k4
  have e3 := un_place e2 (fun hG => by
    subst hG
    have : (6 : Nat) = if h2.left = 0 then 6 else 0 := k3
    by_cases hl : h2.left = 0
    · exact hl
    · rw [if_neg hl] at this; cases this)
  have hnh : nextH { h2 with left := h2.left + 1 } ⟨kd, 0, t⟩ false = h2 := rfl
  refine ⟨{ h2 with left := h2.left + 1 }, st, D, ⟨kd, 0, t⟩, rest, e3, Nat.succ_ne_zero _, by rw [q2, e1]; simp, hr, ?_, fun h => (by cases h), fun o dp => ?_, ⟨be_of (h := h2) rfl q4.1, fun x hx => by rcases List.mem_cons.1 hx with rfl | hx; exact hlt; exact q4.2 x hx⟩⟩
  · match G, v3, e3 with
    | [], _, e3 => rw [isName, show ({ h2 with left := h2.left + 1 } : Hf).names = none from e3.2.2.1]; rfl
    | f :: G, v3, e3 =>
      obtain ⟨r1, r2, r3, r4, -⟩ := e3
      cases hs : ({ h2 with left := h2.left + 1 } : Hf).names.isSome with
      | false => rw [isName, hs]; rfl
      | true =>
        have g1 := v3.2 (by rw [r2]; exact hs)
        have g2 := r4 hs
        rw [isName, hs, decide_eq_false]
        · rfl
        · omega
  · rw [hnh]
    obtain ⟨o', t1, t2⟩ := ht o (h2 :: st) dp
    rw [t1]
    exact (q3 o' dp).mono (by omega)
theorem pv_hold {S : List UInt8} {L : Lm} (hL : L.depth ≤ 32) {s : St} {p : Nat} {l : List Vl} {o : Option (List (List UInt8))} (ho : o = none ∨ o = some []) (hV : Vw s) (hd : s.G.length < L.depth) (h : PN S (s.hold o) (p + 1) l) (hp : p < S.length) : PV S s p l false := by
  obtain ⟨hN, stN, D2, rest, q1, q2, q3, q4⟩ := h
  obtain ⟨k1, k2, k3, k4⟩ := q1
  obtain ⟨nx, hand, named, cur, G⟩ := s
  obtain ⟨v1, v2, v3⟩ := hV
  have k4 : Rl (hN :: stN) (⟨cur, 0, o⟩ :: bump G) [] D2 := k4
  obtain ⟨r1, r2, r3, r4, ⟨h2, st, r5, r6⟩, D, r7, r8⟩ := k4
  subst r5
  obtain ⟨n, left, names, e⟩ := hN
  have r1 : 0 + left = n := r1
  obtain rfl : left = n := by omega
  have r2 : o = names := r2
  subst r2
  have r3 : e = if o.isSome = true then 125 else 93 := r3
  have r4 : o.isSome = true → left % 2 = 0 := r4
  have e3 := un_place r8 (fun hG => by
    subst hG
    have : (if h2.left = 0 then 6 else 0) = (6 : Nat) := r6
    by_cases hl : h2.left = 0
    · exact hl
    · rw [if_neg hl] at this; cases this)
  have hln : (h2 :: st).length = (bump G).length + 1 := r8.size.2
  have hbl : (bump G).length = G.length := by cases G <;> rfl
  have hd : G.length < L.depth := hd
  refine ⟨{ h2 with left := h2.left + 1 }, st, D, ⟨if o.isSome = true then 6 else 5, (left : Int), []⟩, rest, e3, Nat.succ_ne_zero _, by rw [q2, r7]; simp [holdK], ?_, ?_, fun h => (by cases h), fun oo dp => ?_, ⟨be_of (h := h2) rfl q4.1, fun x hx => by rcases List.mem_cons.1 hx with rfl | hx; exact Nat.zero_le _; exact q4.2 x hx⟩⟩
  · rcases ho with rfl | rfl
    · show decide (([] : List UInt8) = [] ∧ (0 : Int) ≤ (left : Int)) = true
      exact decide_eq_true ⟨rfl, Int.natCast_nonneg _⟩
    · have := r4 rfl
      show decide (([] : List UInt8) = [] ∧ (0 : Int) ≤ (left : Int) ∧ (left : Int) % 2 = 0) = true
      exact decide_eq_true ⟨rfl, Int.natCast_nonneg _, by omega⟩
  · match G, v3, e3 with
    | [], _, e3 => rw [isName, show ({ h2 with left := h2.left + 1 } : Hf).names = none from e3.2.2.1]; rfl
    | f :: G, v3, e3 =>
      obtain ⟨r1, r2, r3, r4, -⟩ := e3
      cases hs : ({ h2 with left := h2.left + 1 } : Hf).names.isSome with
      | false => rw [isName, hs]; rfl
      | true =>
        have g1 := v3.2 (by rw [r2]; exact hs)
        have g2 := r4 hs
        rw [isName, hs, decide_eq_false]
        · rfl
        · omega
  · have hnh : nextH { h2 with left := h2.left + 1 } ⟨if o.isSome = true then 6 else 5, (left : Int), []⟩ false = h2 := rfl
    rw [hnh]
    obtain ⟨b, hb⟩ : ∃ b : UInt8, tellV oo (h2 :: st) dp ⟨if o.isSome = true then 6 else 5, (left : Int), []⟩ = ⟨put oo [b], ⟨left, left, o, e⟩ :: h2 :: st, max dp (h2 :: st).length⟩ := by
      rcases ho with rfl | rfl
      · rw [r3]; exact ⟨91, rfl⟩
      · rw [r3]; exact ⟨123, rfl⟩
    rw [hb]
    obtain ⟨tf, t1, t2, t3, t4⟩ := q3 (put oo [b]) (max dp (h2 :: st).length)
    have h8 := put_len oo [b]
    simp only [List.length_cons, List.length_nil] at h8
    refine ⟨tf, t1, t2, by omega, fun h9 => t4 ?_⟩
    rw [hln, hbl]
    exact Nat.max_le.2 ⟨h9, by omega⟩
theorem pv_name {S : List UInt8} {s : St} {p q : Nat} {l : List Vl} {t : List UInt8} {f : Fr} {G : List Fr} {ns : List (List UInt8)} (hG : s.G = f :: G) (hs : f.o = some ns) (he : f.n % 2 = 0) (h : PN S (resN s t) q l) (hv : Lib.validD t = true) (hn : t ∉ ns) (hq : p ≤ q) (hqS : q ≤ S.length)
    (ht : (t.flatMap qb).length + 2 ≤ 6 * (q - p)) : PV S s p l true := by
  obtain ⟨h2, st, D2, rest, q1, q2, q3, q4⟩ := h
  obtain ⟨k1, k2, k3, k4⟩ := q1
  obtain ⟨nx, hand, named, cur, G0⟩ := s
  obtain rfl : G0 = f :: G := hG
  have k4 : Rl (h2 :: st) (addName t (bump (f :: G))) (cur ++ [⟨4, 0, t⟩]) D2 := k4
  obtain ⟨D, e1, e2⟩ := un_app k4
  obtain ⟨e3, e4⟩ := un_name (f := { f with n := f.n + 1 }) hs e2
  have e5 := un_place (G := f :: G) e4 (fun h => by cases h)
  have hr : rightV Lib.validD ⟨4, 0, t⟩ = true := by
    show (Lib.validD t && decide ((0 : Int) = 0)) = true
    rw [hv]; rfl
  refine ⟨_, st, D, ⟨4, 0, t⟩, rest, e5, Nat.succ_ne_zero _, by rw [q2, e1]; simp, hr, ?_, fun _ => ⟨rfl, hn⟩, fun o dp => ?_, ⟨be_of (h := h2) rfl q4.1, fun x hx => by rcases List.mem_cons.1 hx with rfl | hx; exact (show t.length ≤ _ by have := len_qb t; omega); exact q4.2 x hx⟩⟩
  · obtain ⟨r1, r2, r3, r4, -⟩ := e5
    have g2 := r4 rfl
    rw [isName]
    simp only at r1 g2 ⊢
    rw [decide_eq_true (by omega)]; rfl
  · have hnh : nextH { ({ h2 with names := some ns } : Hf) with left := h2.left + 1 } ⟨4, 0, t⟩ true = h2 := by
      obtain ⟨n, left, names, e⟩ := h2
      have e3 : names = some (ns ++ [t]) := e3
      subst e3
      rfl
    rw [show nextH { kids := h2.kids, left := h2.left + 1, names := some ns, e := h2.e } ⟨4, 0, t⟩ true = h2 from hnh]
    show Tl ⟨quote o t, h2 :: st, dp⟩ rest _ dp
    have h8 := quote_len o t
    exact (q3 (quote o t) dp).mono (by omega)
/-- a value that was read -/
theorem pv_value {S : List UInt8} {L : Lm} (hL : L.depth ≤ 32) {s s' : St} {p : Nat} {l : List Vl} {b : UInt8} (hp : p < S.length) (hV : Vw s) (ha : s.value L b p = .go s') (hR : Rd S L s' (p + 1) l)
    (ih : ∀ s2 q, p < q → q ≤ S.length → Fw s2 → (s2.nx ≠ 0 ∨ s2.G = []) → s2.nx ≠ 2 → Rd S L s2 q l → PN S s2 q l) : PV S s p l false := by
  have hadd : ∀ k, s.add L p k = .go s' → k = .go s' := fun k h => by
    rw [St.add] at h
    split at h
    · cases h
    · exact h
  have hnr : ∀ kd t, ((res s kd t).nx ≠ 0 ∨ (res s kd t).G = []) ∧ (res s kd t).nx ≠ 2 := fun kd t => by
    have : (res s kd t).nx = if (bump s.G).isEmpty = true then 6 else 5 := rfl
    rw [this]
    split <;> exact ⟨.inl (by decide), by decide⟩
  have word : ∀ (k : Int) (r : List UInt8) (x : List UInt8), r ≠ [] → s' = s.begin k (.word r) → (∀ o st dp, tellV o st dp ⟨k, 0, []⟩ = ⟨put o x, st, dp⟩) → x.length = r.length + 1 → rightV Lib.validD ⟨k, 0, []⟩ = true → PV S s p l false := by
    intro k r x hr hs ht hx hri
    subst hs
    obtain ⟨h1, h2⟩ := word_run r (s.begin k .none) (p + 1) hr hR
    refine pv_res (q := p + 1 + r.length) hV (ih (res s k []) _ (by omega) h2 (fw_res hV k []) (hnr k []).1 (hnr k []).2 h1) hri (Nat.zero_le _) (by omega) h2 ?_
    intro o st dp
    refine ⟨_, ht o st dp, ?_⟩
    have := put_len o x
    omega
  rw [St.value] at ha
  split at ha
  · have ha := hadd _ ha
    cases ha
    obtain ⟨u, q, sE, e1, e2, e3, e4, e5, e6⟩ := str_run (s.begin 4 .none) (p + 1) s0 iv0 hR
    have e4 : Lib.validD u = true := e4
    have e5 : (match s.named with | none => Out.go (({ (s.begin 4 .none) with cur := withText u (s.cur ++ [(⟨4, 0, []⟩ : Vl)]) } : St).ended) | some a => if u ∈ (s.begin 4 .none).names then .fl 9 a else .go { (s.begin 4 .none) with cur := withText u (s.cur ++ [(⟨4, 0, []⟩ : Vl)]), hand := .none, named := none, nx := 4, G := addName u (bump s.G) }) = .go sE := e5
    rw [hV.2.1] at e5
    have e7 : sE = res s 4 u := by
      rw [with_text] at e5
      cases e5
      rfl
    subst e7
    refine pv_res (q := q) hV (ih _ _ (by omega) e2 (fw_res hV 4 u) (hnr 4 u).1 (hnr 4 u).2 e6) ?_ (by have := len_qb u; omega) (by omega) e2 ?_
    · show (Lib.validD u && decide ((0 : Int) = 0)) = true
      rw [e4]; rfl
    · intro o st dp
      refine ⟨quote o u, rfl, ?_⟩
      have := quote_len o u
      omega
  · split at ha
    · have ha := hadd _ ha
      split at ha
      · cases ha
      · cases ha
        have hf := fw_hold hV (some [])
        exact pv_hold hL (.inr rfl) hV (by omega) (ih _ _ (by omega) hp hf (.inl (by show (3 : Nat) ≠ 0; decide)) (by show (3 : Nat) ≠ 2; decide) hR) hp
    · split at ha
      · have ha := hadd _ ha
        split at ha
        · cases ha
        · cases ha
          have hf := fw_hold hV none
          exact pv_hold hL (.inl rfl) hV (by omega) (ih _ _ (by omega) hp hf (.inl (by show (1 : Nat) ≠ 0; decide)) (by show (1 : Nat) ≠ 2; decide) hR) hp
      · split at ha
        · have ha := hadd _ ha
          cases ha
          exact word 2 [114, 117, 101] [116, 114, 117, 101] (by simp) rfl (fun _ _ _ => rfl) rfl (by decide)
        · split at ha
          · have ha := hadd _ ha
            cases ha
            exact word 1 [97, 108, 115, 101] [102, 97, 108, 115, 101] (by simp) rfl (fun _ _ _ => rfl) rfl (by decide)
          · split at ha
            · have ha := hadd _ ha
              cases ha
              exact word 0 [117, 108, 108] [110, 117, 108, 108] (by simp) rfl (fun _ _ _ => rfl) rfl (by decide)
            · cases hn : nextN 0 b with
              | none => rw [hn] at ha; cases ha
              | some w =>
                rw [hn] at ha
                have ha := hadd _ ha
                cases ha
                obtain ⟨y, w', e1, e2, e3, e4⟩ := num_run (s.begin 3 .none) (p + 1) w [b] hp hR
                have e5 : (s.begin 3 .none).endNum ([b] ++ y) = res s 3 (b :: y) := by
                  show ({ (s.begin 3 .none) with cur := withText (b :: y) (s.cur ++ [(⟨3, 0, []⟩ : Vl)]) } : St).ended = _
                  rw [with_text]; rfl
                rw [e5] at e4
                refine pv_res (q := p + 1 + y.length) hV (ih _ _ (by omega) e3 (fw_res hV 3 _) (hnr 3 _).1 (hnr 3 _).2 e4) ?_ (by rw [List.length_cons]; omega) (by omega) e3 ?_
                · show (numOk (b :: y) && decide ((0 : Int) = 0)) = true
                  have : numOk (b :: y) = true := by
                    show (match foldN y (nextN 0 b) with | some w => wholeN w | none => false) = true
                    rw [hn, e1]; exact e2
                  rw [this]; rfl
                · intro o st dp
                  refine ⟨put o (b :: y), rfl, ?_⟩
                  have := put_len o (b :: y)
                  rw [List.length_cons] at this
                  omega
end Jn2
end Go.Proofs.YtilfidcomeandaaDoor
