/- A number at hand, in plain words: what Number tells is how far the machine goes. -/
import Derived.Test.YtilfidcomeandaaDoorJrL
namespace Go.Proofs.YtilfidcomeandaaDoor
set_option linter.unusedVariables false
set_option linter.unusedSimpArgs false
namespace Jr
open Js
open Dr (Rs Lm has lack lackE lackP)
/-- a number at hand -/
def nxs (st : St) (wv : Nat) (x : List UInt8) : St := { st with hand := .num wv x }
theorem nxs_go (L : Lm) (st : St) (wv y : Nat) (x : List UInt8) (b : UInt8) (p : Nat) (h : nextN wv b = some y) : (nxs st wv x).act L b p = .go (nxs st y (x ++ [b])) := by
  show (match nextN wv b with | some w' => Out.go { nxs st wv x with hand := .num w' (x ++ [b]) } | none => if wholeN wv = true then ((nxs st wv x).endNum x).between L b p else .fl 9 p) = _
  rw [h]; rfl
theorem nxs_fl (L : Lm) (st : St) (wv : Nat) (x : List UInt8) (b : UInt8) (p : Nat) (h : nextN wv b = none) (hw : wholeN wv = false) : (nxs st wv x).act L b p = .fl 9 p := by
  show (match nextN wv b with | some w' => Out.go { nxs st wv x with hand := .num w' (x ++ [b]) } | none => if wholeN wv = true then ((nxs st wv x).endNum x).between L b p else .fl 9 p) = _
  rw [h]
  show (if wholeN wv = true then _ else _) = _
  rw [hw]; rfl
theorem nxs_none (st : St) (wv : Nat) (x : List UInt8) (hw : wholeN wv = false) : (nxs st wv x).last = none := by
  rw [St.last]
  split
  · show (if wholeN wv = true then _ else _) = _
    rw [hw]; rfl
  · rfl
theorem nsteps_le : ∀ (l : List UInt8) (w : Nat), (nsteps w l).1 ≤ l.length
  | [], w => Nat.le_refl 0
  | b :: l, w => by
    cases h : nextN w b with
    | none => rw [nsteps_none h]; exact Nat.zero_le _
    | some x => rw [nsteps_some h]; exact Nat.succ_le_succ (nsteps_le l x)
/-- where a number's bytes end, no byte goes on with it -/
theorem nsteps_end : ∀ (l : List UInt8) (w : Nat), (nsteps w l).1 < l.length → nextN (nsteps w l).2 (l.getD (nsteps w l).1 0) = none
  | [], w, h => absurd h (Nat.not_lt_zero _)
  | b :: l, w, h => by
    cases hb : nextN w b with
    | none => rw [nsteps_none hb]; exact hb
    | some x =>
      rw [nsteps_some hb] at h ⊢
      exact nsteps_end l x (Nat.lt_of_succ_lt_succ h)
/-- the machine takes them -/
theorem nsteps_run (S : List UInt8) (L : Lm) (st : St) : ∀ (l : List UInt8) (w : Nat) (t : List UInt8) (p e : Nat), l = (S.drop p).take (e - p) → e ≤ S.length → e ≤ L.bytes → p ≤ e → Cl S L (nxs st (nsteps w l).2 (t ++ l.take (nsteps w l).1)) (p + (nsteps w l).1) (nxs st w t) p
  | [], w, t, p, e, _, _, _, _ => by
    show Cl S L (nxs st w (t ++ [])) (p + 0) (nxs st w t) p
    rw [List.append_nil]
    exact Cl.refl _ _ _ _
  | b :: l, w, t, p, e, hl, h1, h2, h3 => by
    cases hb : nextN w b with
    | none =>
      rw [nsteps_none hb]
      show Cl S L (nxs st w (t ++ [])) (p + 0) (nxs st w t) p
      rw [List.append_nil]
      exact Cl.refl _ _ _ _
    | some x =>
      rw [nsteps_some hb]
      have hpe : p < e := by
        have h9 := congrArg List.length hl
        rw [List.length_cons, List.length_take] at h9
        omega
      have hd : S.drop p = S[p] :: S.drop (p + 1) := List.drop_eq_getElem_cons (by omega)
      rw [hd, show e - p = (e - (p + 1)) + 1 by omega, List.take_succ_cons] at hl
      injection hl with hl1 hl2
      have hg : S.getD p 0 = b := by rw [List.getD, List.getElem?_eq_getElem (by omega), hl1]; rfl
      have ih := nsteps_run S L st l x (t ++ [b]) (p + 1) e hl2 h1 h2 hpe
      show Cl S L (nxs st (nsteps x l).2 (t ++ (b :: l).take ((nsteps x l).1 + 1))) (p + ((nsteps x l).1 + 1)) (nxs st w t) p
      rw [List.take_succ_cons, show t ++ b :: l.take (nsteps x l).1 = (t ++ [b]) ++ l.take (nsteps x l).1 by simp, show p + ((nsteps x l).1 + 1) = p + 1 + (nsteps x l).1 by omega]
      exact Cl.trans ih (fun r tk k h => RunsT.go (has_yes (by omega) (by omega)) (by rw [hg]; exact nxs_go L st w x t b p hb) h)
/-- the bytes that a number may take -/
def endP (S : List UInt8) (L : Lm) : Nat := if L.bytes < S.length then L.bytes else S.length
theorem endP_le (S : List UInt8) (L : Lm) : endP S L ≤ S.length ∧ endP S L ≤ L.bytes := by rw [endP]; split <;> omega
theorem endP_has {S : List UInt8} {L : Lm} {p : Nat} : has S L p = true ↔ p < endP S L := by
  rw [has, decide_eq_true_iff, endP]
  split <;> omega
def restN (S : List UInt8) (L : Lm) (p : Nat) : List UInt8 := (S.drop p).take (endP S L - p)
theorem restN_length (S : List UInt8) (L : Lm) (p : Nat) : (restN S L p).length = endP S L - p := by
  have := (endP_le S L).1
  rw [restN, List.length_take, List.length_drop]
  omega
theorem restN_get {S : List UInt8} {L : Lm} {p k : Nat} (h : p + k < endP S L) : (restN S L p).getD k 0 = S.getD (p + k) 0 := by
  rw [restN, List.getD, List.getD, List.getElem?_take_of_lt (by omega), List.getElem?_drop]
/-- a number that begins at p: where Number ends, and how -/
theorem num_runs {S : List UInt8} {L : Lm} {st st1 : St} {p y : Nat} {b0 : UInt8} (hh : has S L p = true) (hb : S.getD p 0 = b0) (hy : nextN 0 b0 = some y) (ha : st.act L b0 p = .go (nxs st1 y [b0])) (hG : st1.G = st.G ∨ st1.G.length = st.G.length) :
    1 ≤ (nsteps 0 (restN S L p)).1 ∧ p + (nsteps 0 (restN S L p)).1 ≤ endP S L ∧
    (wholeN (nsteps 0 (restN S L p)).2 = true → Cl S L ((nxs st1 (nsteps 0 (restN S L p)).2 ((restN S L p).take (nsteps 0 (restN S L p)).1)).endNum ((restN S L p).take (nsteps 0 (restN S L p)).1)) (p + (nsteps 0 (restN S L p)).1) st p) ∧
    (wholeN (nsteps 0 (restN S L p)).2 = false → has S L (p + (nsteps 0 (restN S L p)).1) = true → RunsT S L st p (.no 9 (p + (nsteps 0 (restN S L p)).1) false) (p + (nsteps 0 (restN S L p)).1 + 1) st1.G.length) ∧
    (wholeN (nsteps 0 (restN S L p)).2 = false → has S L (p + (nsteps 0 (restN S L p)).1) = false → RunsT S L st p (lack S L) (lackK S L) st1.G.length) := by
  have hpe := endP_has.1 hh
  have hle := endP_le S L
  have hr : restN S L p = b0 :: restN S L (p + 1) := by
    have hd : S.drop p = S[p] :: S.drop (p + 1) := List.drop_eq_getElem_cons (by omega)
    rw [restN, hd, show endP S L - p = (endP S L - (p + 1)) + 1 by omega, List.take_succ_cons, restN]
    congr 1
    rw [← hb, List.getD, List.getElem?_eq_getElem (by omega)]
    rfl
  have hk : nsteps 0 (restN S L p) = ((nsteps y (restN S L (p + 1))).1 + 1, (nsteps y (restN S L (p + 1))).2) := by rw [hr, nsteps_some hy]
  have hC := nsteps_run S L st1 (restN S L (p + 1)) y [b0] (p + 1) (endP S L) rfl hle.1 hle.2 hpe
  have hC2 : Cl S L (nxs st1 (nsteps 0 (restN S L p)).2 ((restN S L p).take (nsteps 0 (restN S L p)).1)) (p + (nsteps 0 (restN S L p)).1) st p := by
    have h1 := Cl.trans hC (fun r tk k h => RunsT.go hh (by rw [hb]; exact ha) h)
    rw [hk]
    show Cl S L (nxs st1 _ ((restN S L p).take ((nsteps y (restN S L (p + 1))).1 + 1))) (p + ((nsteps y (restN S L (p + 1))).1 + 1)) st p
    rw [hr, List.take_succ_cons, show p + ((nsteps y (restN S L (p + 1))).1 + 1) = p + 1 + (nsteps y (restN S L (p + 1))).1 by omega]
    exact h1
  have hll := nsteps_le (restN S L p) 0
  rw [restN_length] at hll
  have hend : has S L (p + (nsteps 0 (restN S L p)).1) = true → nextN (nsteps 0 (restN S L p)).2 (S.getD (p + (nsteps 0 (restN S L p)).1) 0) = none := by
    intro h
    have h1 := endP_has.1 h
    have h2 := nsteps_end (restN S L p) 0 (by rw [restN_length]; omega)
    rw [restN_get h1] at h2
    exact h2
  refine ⟨by rw [hk]; exact Nat.succ_le_succ (Nat.zero_le _), by omega, fun hw => ?_, fun hw h => ?_, fun hw h => ?_⟩
  · exact Cl.trans (fun r tk k hq => num_over (s := nxs st1 _ _) rfl hw hend hq) hC2
  · exact hC2 _ _ _ (RunsT.fl (s := nxs st1 _ _) h (nxs_fl L st1 _ _ _ _ (hend h) hw))
  · exact hC2 _ _ _ (stop_lack (s := nxs st1 _ _) h (fun _ => nxs_none st1 _ _ hw))
end Jr
end Go.Proofs.YtilfidcomeandaaDoor
