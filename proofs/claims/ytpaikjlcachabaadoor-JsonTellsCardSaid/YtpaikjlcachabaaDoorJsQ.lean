/- JSON in plain words: lists and the machine's steps, as the two texts take them. -/
import Derived.Test.YtpaikjlcachabaaDoorJsP
namespace Go.Proofs.YtpaikjlcachabaaDoor
set_option linter.unusedVariables false
set_option linter.unusedSimpArgs false
namespace Js
open Dr (Rs Lm has lack)
theorem flat_cons (f : Fr) (G : List Fr) (cur : List Vl) : flat (f :: G) cur = flat G f.b ++ hold f :: cur := rfl
theorem flat_app : ∀ (G : List Fr) (a b : List Vl), flat G (a ++ b) = flat G a ++ b
  | [], _, _ => rfl
  | f :: G, a, b => by rw [flat_cons, flat_cons, List.append_assoc, List.cons_append]
theorem bump_length : ∀ (G : List Fr), (bump G).length = G.length
  | [] => rfl
  | _ :: _ => rfl
theorem flat_bump_length : ∀ (G : List Fr) (cur : List Vl), (flat (bump G) cur).length = (flat G cur).length
  | [], _ => rfl
  | f :: G, cur => by rw [bump, flat_cons, flat_cons, List.length_append, List.length_append]; rfl
theorem flat_close (G : List Fr) (f : Fr) (cur : List Vl) : flat G (f.b ++ hold f :: cur) = flat (f :: G) cur := by rw [flat_app, flat_cons]
theorem withText_snoc (l : List Vl) (k n : Int) (t u : List UInt8) : withText t (l ++ [⟨k, n, u⟩]) = l ++ [⟨k, n, t⟩] := by
  rw [withText, show (l ++ [(⟨k, n, u⟩ : Vl)]).length - 1 = l.length by rw [List.length_append]; simp]
  induction l with
  | nil => rfl
  | cons x l ih => rw [List.cons_append, List.length_cons, List.modify_succ_cons, ih]; rfl
theorem begin_size (s : St) (k : Int) (h : Hd) : (s.begin k h).size = s.size + 1 := by
  rw [St.size, St.size, St.begin, flat_app, List.length_append, flat_bump_length]; rfl
theorem hold_size (s : St) (o : Option (List (List UInt8))) : (s.hold o).size = s.size + 1 := by
  rw [St.size, St.size, St.hold, flat_cons, List.length_append, flat_bump_length]; rfl
theorem ended_G (s : St) : s.ended.G = s.G := rfl
theorem ended_cur (s : St) : s.ended.cur = s.cur := rfl
theorem ended_size (s : St) : s.ended.size = s.size := rfl
theorem close_ended (s : St) (f : Fr) (G : List Fr) (h : s.G = f :: G) : s.close = ({ s with cur := f.b ++ hold f :: s.cur, G := G } : St).ended := by rw [St.close, h]
theorem close_size (s : St) (f : Fr) (G : List Fr) (h : s.G = f :: G) : s.close.size = s.size := by
  rw [close_ended s f G h, ended_size, St.size, St.size, h]
  show (flat G (f.b ++ hold f :: s.cur)).length = _
  rw [flat_close]
section
variable {S : List UInt8} {L : Lm} {s s' : St} {p : Nat} {r : Rs (List Vl)} {t k : Nat} {b : UInt8}
theorem has_lt (h : has S L p = true) : p < S.length ∧ p < L.bytes := by rw [has, decide_eq_true_iff] at h; exact h
theorem has_yes (h1 : p < S.length) (h2 : p < L.bytes) : has S L p = true := decide_eq_true ⟨h1, h2⟩
theorem has_no1 (h1 : S.length ≤ p) : has S L p = false := decide_eq_false (fun h => by omega)
theorem has_no2 (h1 : L.bytes ≤ p) : has S L p = false := decide_eq_false (fun h => by omega)
theorem go_at (hh : has S L p = true) (hb : S.getD p 0 = b) (ha : s.act L b p = .go s') (h : RunsT S L s' (p + 1) r t k) : RunsT S L s p r t k := RunsT.go hh (by rw [hb]; exact ha) h
theorem fl_at {e : Int} {q : Nat} (hh : has S L p = true) (hb : S.getD p 0 = b) (ha : s.act L b p = .fl e q) : RunsT S L s p (.no e q false) (p + 1) s.G.length := RunsT.fl hh (by rw [hb]; exact ha)
/-- no byte there, and more is wanted -/
theorem stop_lack (hh : has S L p = false) (hl : S.length ≤ L.bytes → s.last = none) : RunsT S L s p (lack S L) (lackK S L) s.G.length := by
  have h := RunsT.stop (s := s) hh
  rw [fin] at h
  split at h
  · rename_i h1; rw [hl h1] at h; exact h
  · exact h
/-- a number that ends ahead of a byte, or where there is none -/
theorem num_over {w : Nat} {x : List UInt8} (hs : s.hand = .num w x) (hw : wholeN w = true) (hn : has S L p = true → nextN w (S.getD p 0) = none) (h : RunsT S L (s.endNum x) p r t k) : RunsT S L s p r t k := by
  cases h with
  | stop h1 =>
    have h2 := RunsT.stop (s := s) h1
    have h3 : fin S L (s.endNum x) = fin S L s := by
      have h4 : (s.endNum x).last = s.last := by
        obtain ⟨nx, hand, named, cur, G⟩ := s
        obtain rfl : hand = _ := hs
        cases G with
        | nil => simp [St.last, St.endNum, St.ended, hw]
        | cons f G => rfl
      rw [fin, fin, h4]
    rw [h3]
    exact h2
  | fl h1 ha =>
    refine RunsT.fl h1 ?_
    rw [St.act, hs]
    dsimp only
    rw [hn h1, if_pos hw]
    exact ha
  | go h1 ha h2 =>
    refine RunsT.go h1 ?_ h2
    rw [St.act, hs]
    dsimp only
    rw [hn h1, if_pos hw]
    exact ha
theorem pass_blank (hs : s.hand = .none) (hh : has S L p = true) (hb : S.getD p 0 = b) (hbl : blank b = true) (h : RunsT S L s (p + 1) r t k) : RunsT S L s p r t k :=
  go_at hh hb (by rw [St.act, hs]; show s.between L b p = _; rw [St.between, if_pos hbl]) h
theorem act_step (hs : s.hand = .none) (hbl : blank b = false) : s.act L b p = s.step L b p := by
  rw [St.act, hs]; show s.between L b p = _; rw [St.between, if_neg (by rw [hbl]; decide)]
end
theorem sg_cases (a : UInt8) (h : 128 ≤ a.toNat) :
    ((a.toNat < 194 ∨ 244 < a.toNat) ∧ sgLeft a = 0) ∨
    (194 ≤ a.toNat ∧ a.toNat ≤ 223 ∧ sgLeft a = 1 ∧ sgLow a = 128 ∧ sgHigh a = 191) ∨
    (a.toNat = 224 ∧ sgLeft a = 2 ∧ sgLow a = 160 ∧ sgHigh a = 191) ∨
    (a.toNat = 237 ∧ sgLeft a = 2 ∧ sgLow a = 128 ∧ sgHigh a = 159) ∨
    (224 < a.toNat ∧ a.toNat ≤ 239 ∧ a.toNat ≠ 237 ∧ sgLeft a = 2 ∧ sgLow a = 128 ∧ sgHigh a = 191) ∨
    (a.toNat = 240 ∧ sgLeft a = 3 ∧ sgLow a = 144 ∧ sgHigh a = 191) ∨
    (a.toNat = 244 ∧ sgLeft a = 3 ∧ sgLow a = 128 ∧ sgHigh a = 143) ∨
    (240 < a.toNat ∧ a.toNat < 244 ∧ sgLeft a = 3 ∧ sgLow a = 128 ∧ sgHigh a = 191) := by
  have h1 : ∀ i : Fin 256, 128 ≤ i.val → (((i.val < 194 ∨ 244 < i.val) ∧ sgLeft (UInt8.ofNat i.val) = 0) ∨
    (194 ≤ i.val ∧ i.val ≤ 223 ∧ sgLeft (UInt8.ofNat i.val) = 1 ∧ sgLow (UInt8.ofNat i.val) = 128 ∧ sgHigh (UInt8.ofNat i.val) = 191) ∨
    (i.val = 224 ∧ sgLeft (UInt8.ofNat i.val) = 2 ∧ sgLow (UInt8.ofNat i.val) = 160 ∧ sgHigh (UInt8.ofNat i.val) = 191) ∨
    (i.val = 237 ∧ sgLeft (UInt8.ofNat i.val) = 2 ∧ sgLow (UInt8.ofNat i.val) = 128 ∧ sgHigh (UInt8.ofNat i.val) = 159) ∨
    (224 < i.val ∧ i.val ≤ 239 ∧ i.val ≠ 237 ∧ sgLeft (UInt8.ofNat i.val) = 2 ∧ sgLow (UInt8.ofNat i.val) = 128 ∧ sgHigh (UInt8.ofNat i.val) = 191) ∨
    (i.val = 240 ∧ sgLeft (UInt8.ofNat i.val) = 3 ∧ sgLow (UInt8.ofNat i.val) = 144 ∧ sgHigh (UInt8.ofNat i.val) = 191) ∨
    (i.val = 244 ∧ sgLeft (UInt8.ofNat i.val) = 3 ∧ sgLow (UInt8.ofNat i.val) = 128 ∧ sgHigh (UInt8.ofNat i.val) = 143) ∨
    (240 < i.val ∧ i.val < 244 ∧ sgLeft (UInt8.ofNat i.val) = 3 ∧ sgLow (UInt8.ofNat i.val) = 128 ∧ sgHigh (UInt8.ofNat i.val) = 191)) := by decide +kernel
  have h2 := h1 ⟨a.toNat, a.toNat_lt⟩ h
  rw [UInt8.ofNat_toNat] at h2
  exact h2
end Js
end Go.Proofs.YtpaikjlcachabaaDoor
