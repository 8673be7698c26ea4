/- Items piece by piece: how much was taken, and how much is begun. -/
import Derived.Test.YteanipjgpekncaaDoorCfG
import Derived.Test.YteanipjgpekncaaDoorCzP
namespace Go.Proofs.YteanipjgpekncaaDoor
set_option linter.unusedVariables false
set_option linter.unusedSimpArgs false
namespace Cs
open Co
open Cf hiding Reach El Inv Good
open Dr (Rs Lm has lack at0S)
section
variable (A : List UInt8) (L : Lm) (txt : List UInt8 → Bool)
def Reach (s : St) : Prop := ∀ r t k, RunsT A L txt s r t k → RunsT A L txt (.el [] [] 0) r t k
/-- what holds while an item's argument or text is read -/
structure El (f : Fs) (l : List Am) (t : UInt8) : Prop where
  rc : Reach A L txt (.el f.G l f.a)
  fl : f.l = l ++ [⟨kindT t, 0, []⟩]
  tg : A.getD f.a 0 = t
  lt : f.a < f.T.length
  it : ¬ L.items ≤ l.length
  ok : headE t = 0
  wd : f.wd = widT t
structure Inv (f : Fs) : Prop where
  gd : Gf f.G (f.T.length - 1)
  li : f.l.length ≤ L.items
  gl : f.G.length ≤ L.depth
  ag : f.arg < 18446744073709551616
  tx : f.T = A.take f.T.length
  le : f.T.length ≤ A.length
  lb : f.T.length ≤ L.bytes
  m0 : f.m = 0 → Reach A L txt (.el f.G f.l f.T.length)
  m1 : f.m = 1 → ∃ l t, El A L txt f l t ∧ ∃ i, f.T.length = f.a + 1 + i ∧ i + f.left = widT t ∧ 0 < f.left ∧ argB A L f.a i = .ok f.arg
  m2 : f.m = 2 → ∃ l t, El A L txt f l t ∧ (kindT t = 2 ∨ kindT t = 3) ∧ argR A L f.a = .ok f.arg ∧ f.T.length + f.left = f.a + 1 + widT t + f.arg ∧ 0 < f.left ∧ f.a + 1 + widT t ≤ f.T.length
  m3 : f.m = 3 → f.G = [] ∧ Reach A L txt (.loop [] f.l f.T.length)
  mm : f.m ≤ 3
def Good (f : Fs) : Prop := (f.e ≠ 0 → RunsT A L txt (.el [] [] 0) (.no f.e f.pl false) f.T.length f.G.length ∧ f.T.length ≤ L.bytes ∧ f.G.length ≤ L.depth) ∧ (f.e = 0 → Inv A L txt f)
variable {A L txt}
theorem Good.bad {f : Fs} {e : Int} {p t k : Nat} (h : RunsT A L txt (.el [] [] 0) (.no e p false) t k) (he : e ≠ 0) (ht : t = f.T.length) (hk : k = f.G.length) (h1 : f.T.length ≤ L.bytes) (h2 : f.G.length ≤ L.depth) : Good A L txt (f.fault e p) := ⟨fun _ => ⟨by rw [ht, hk] at h; exact h, h1, h2⟩, fun h0 => absurd h0 he⟩
theorem close_good : ∀ (k : Nat) (f : Fs) (t : Fr) (G : List Fr), Tf (t :: G) (f.T.length - 1) → f.l.length ≤ L.items → G.length + 1 ≤ L.depth → f.arg < 18446744073709551616 → f.G = t :: G → f.G.length ≤ k → f.e = 0 → f.m = 0 → f.T = A.take f.T.length → f.T.length ≤ A.length → f.T.length ≤ L.bytes → Reach A L txt (.loop (t :: G) f.l f.T.length) → Good A L txt (Fs.close k f)
  | 0, f, t, G, _, _, _, _, hG, hk, _, _, _, _, _, _ => by rw [hG] at hk; simp at hk
  | k + 1, f, t, G, hTf, hli, hgl, hag, hG, hk, he, hm, hT, hA, hB, hR => by
    rw [hG, List.length_cons] at hk
    rw [Fs.close, hG]
    show Good A L txt (if f.e = 0 ∧ t.left = 0 then Fs.close k (({ f with G := G } : Fs).ended t.p0) else f)
    by_cases h0 : t.left = 0
    · rw [if_pos ⟨he, h0⟩]
      have hp : Reach A L txt (.pend G f.l t.p0 f.T.length) := fun r t2 k2 hr => hR r t2 k2 (RunsT.loop (by rw [loopS, if_pos h0]; exact hr))
      cases G with
      | nil =>
        have h1 : ({ f with G := [] } : Fs).ended t.p0 = { f with G := [], m := 3 } := rfl
        have h2 : ∀ j, Fs.close j ({ f with G := [], m := 3 } : Fs) = { f with G := [], m := 3 } := fun j => by cases j <;> rfl
        rw [h1, h2]
        refine ⟨fun h => absurd he h, fun _ => ⟨(fun t ht => absurd ht List.not_mem_nil), hli, Nat.zero_le _, hag, hT, hA, hB, fun h => (by cases h), fun h => (by cases h), fun h => (by cases h), fun _ => ⟨rfl, fun r t2 k2 hr => hp r t2 k2 (RunsT.pend rfl hr)⟩, Nat.le_refl _⟩⟩
      | cons s G =>
        have hd := drop_part (a := t.p0) hT
        by_cases hp1 : s.pairs = true ∧ s.value = false
        · by_cases hp2 : s.keys = true ∧ Op.bytesLess s.last (Dr.part A t.p0 f.T.length) = false
          · have h1 : ({ f with G := s :: G } : Fs).ended t.p0 = ({ f with m := 0, G := keyF s (f.T.drop t.p0) :: G } : Fs).fault 9 t.p0 := by
              rw [Fs.ended]
              show (if s.pairs = true ∧ s.value = false then (if s.keys = true ∧ Op.bytesLess s.last (f.T.drop t.p0) = false then _ else _) else _) = _
              rw [if_pos hp1, if_pos (by rw [hd]; exact hp2)]
            rw [h1, close_bad _ _ (by show (9 : Int) ≠ 0; decide)]
            refine Good.bad (hp _ _ _ (RunsT.pendNo ?_)) (by decide) rfl rfl hB (by show (_ :: G).length ≤ _; simp only [List.length_cons] at hgl ⊢; omega)
            show (if s.pairs = true ∧ s.value = false then (if s.keys = true ∧ Op.bytesLess s.last (Dr.part A t.p0 f.T.length) = false then _ else _) else _) = _
            rw [if_pos hp1, if_pos hp2]
          · have h1 : ({ f with G := s :: G } : Fs).ended t.p0 = { f with m := 0, G := keyF s (f.T.drop t.p0) :: G } := by
              rw [Fs.ended]
              show (if s.pairs = true ∧ s.value = false then (if s.keys = true ∧ Op.bytesLess s.last (f.T.drop t.p0) = false then _ else _) else _) = _
              rw [if_pos hp1, if_neg (by rw [hd]; exact hp2)]
            rw [h1]
            refine close_good k _ (keyF s (f.T.drop t.p0)) G (hTf.rest.key _).top hli (by simp only [List.length_cons] at hgl; omega) hag rfl (by simp only [List.length_cons] at hk ⊢; omega) he rfl hT hA hB (fun r t2 k2 hr => hp r t2 k2 (RunsT.pend (s := .loop (keyF s (f.T.drop t.p0) :: G) f.l f.T.length) ?_ hr))
            show (if s.pairs = true ∧ s.value = false then (if s.keys = true ∧ Op.bytesLess s.last (Dr.part A t.p0 f.T.length) = false then _ else _) else _) = _
            rw [if_pos hp1, if_neg hp2, hd]
            rfl
        · have h1 : ({ f with G := s :: G } : Fs).ended t.p0 = { f with m := 0, G := otherF s :: G } := by
            rw [Fs.ended]
            show (if s.pairs = true ∧ s.value = false then (if s.keys = true ∧ Op.bytesLess s.last (f.T.drop t.p0) = false then _ else _) else _) = _
            rw [if_neg hp1]
          rw [h1]
          refine close_good k _ (otherF s) G hTf.rest.other hli (by simp only [List.length_cons] at hgl; omega) hag rfl (by simp only [List.length_cons] at hk ⊢; omega) he rfl hT hA hB (fun r t2 k2 hr => hp r t2 k2 (RunsT.pend (s := .loop (otherF s :: G) f.l f.T.length) ?_ hr))
          show (if s.pairs = true ∧ s.value = false then (if s.keys = true ∧ Op.bytesLess s.last (Dr.part A t.p0 f.T.length) = false then _ else _) else _) = _
          rw [if_neg hp1]
          rfl
    · rw [if_neg (fun h => h0 h.2)]
      exact ⟨fun h => absurd he h, fun _ => ⟨(by rw [hG]; exact hTf.gf h0), hli, (by rw [hG, List.length_cons]; exact hgl), hag, hT, hA, hB, fun _ r t2 k2 hr => by
        rw [hG] at hr
        exact hR r t2 k2 (RunsT.loop (by rw [loopS, if_neg h0]; exact hr)), fun h => absurd (hm.symm.trans h) (by decide), fun h => absurd (hm.symm.trans h) (by decide), fun h => absurd (hm.symm.trans h) (by decide), by rw [hm]; decide⟩⟩
/-- an item has ended: the feed goes on as the machine does -/
theorem ended_good (f : Fs) (a : Nat) (hgf : Gf f.G (f.T.length - 1)) (hli : f.l.length ≤ L.items) (hgl : f.G.length ≤ L.depth) (hag : f.arg < 18446744073709551616) (he : f.e = 0) (hT : f.T = A.take f.T.length) (hA : f.T.length ≤ A.length) (hB : f.T.length ≤ L.bytes) (hp : Reach A L txt (.pend f.G f.l a f.T.length)) : Good A L txt (Fs.close f.G.length (f.ended a)) := by
  cases hG : f.G with
  | nil =>
    have h1 : f.ended a = { f with m := 3 } := by rw [Fs.ended, hG]
    rw [h1, List.length_nil]
    refine ⟨fun h => absurd he h, fun _ => ⟨hgf, hli, hgl, hag, hT, hA, hB, fun h => (by cases h), fun h => (by cases h), fun h => (by cases h), fun _ => ⟨hG, fun r t2 k2 hr => ?_⟩, Nat.le_refl _⟩⟩
    refine hp r t2 k2 ?_
    rw [hG]
    exact RunsT.pend rfl hr
  | cons s G =>
    rw [hG] at hp hgf hgl
    rw [List.length_cons] at hgl
    have hd := drop_part (a := a) hT
    by_cases hp1 : s.pairs = true ∧ s.value = false
    · by_cases hp2 : s.keys = true ∧ Op.bytesLess s.last (Dr.part A a f.T.length) = false
      · have h1 : f.ended a = ({ f with m := 0, G := keyF s (f.T.drop a) :: G } : Fs).fault 9 a := by
          rw [Fs.ended, hG]
          show (if s.pairs = true ∧ s.value = false then (if s.keys = true ∧ Op.bytesLess s.last (f.T.drop a) = false then _ else _) else _) = _
          rw [if_pos hp1, if_pos (by rw [hd]; exact hp2)]
        rw [h1, close_bad _ _ (by show (9 : Int) ≠ 0; decide)]
        refine Good.bad (hp _ _ _ (RunsT.pendNo ?_)) (by decide) rfl rfl hB (by show (_ :: G).length ≤ _; simp only [List.length_cons] at hgl ⊢; omega)
        show (if s.pairs = true ∧ s.value = false then (if s.keys = true ∧ Op.bytesLess s.last (Dr.part A a f.T.length) = false then _ else _) else _) = _
        rw [if_pos hp1, if_pos hp2]
      · have h1 : f.ended a = { f with m := 0, G := keyF s (f.T.drop a) :: G } := by
          rw [Fs.ended, hG]
          show (if s.pairs = true ∧ s.value = false then (if s.keys = true ∧ Op.bytesLess s.last (f.T.drop a) = false then _ else _) else _) = _
          rw [if_pos hp1, if_neg (by rw [hd]; exact hp2)]
        rw [h1]
        refine close_good _ _ (keyF s (f.T.drop a)) G (hgf.key _).top hli hgl hag rfl (by simp) he rfl hT hA hB (fun r t2 k2 hr => hp r t2 k2 (RunsT.pend (s := .loop (keyF s (f.T.drop a) :: G) f.l f.T.length) ?_ hr))
        show (if s.pairs = true ∧ s.value = false then (if s.keys = true ∧ Op.bytesLess s.last (Dr.part A a f.T.length) = false then _ else _) else _) = _
        rw [if_pos hp1, if_neg hp2, hd]
        rfl
    · have h1 : f.ended a = { f with m := 0, G := otherF s :: G } := by
        rw [Fs.ended, hG]
        show (if s.pairs = true ∧ s.value = false then (if s.keys = true ∧ Op.bytesLess s.last (f.T.drop a) = false then _ else _) else _) = _
        rw [if_neg hp1]
      rw [h1]
      refine close_good _ _ (otherF s) G hgf.other hli hgl hag rfl (by simp) he rfl hT hA hB (fun r t2 k2 hr => hp r t2 k2 (RunsT.pend (s := .loop (otherF s :: G) f.l f.T.length) ?_ hr))
      show (if s.pairs = true ∧ s.value = false then (if s.keys = true ∧ Op.bytesLess s.last (Dr.part A a f.T.length) = false then _ else _) else _) = _
      rw [if_neg hp1]
      rfl
/-- what the machine says of an item whose first byte is right -/
theorem El.els {f : Fs} {l : List Am} {t : UInt8} (h : El A L txt f l t) (hA : f.T.length ≤ A.length) (hB : f.T.length ≤ L.bytes) : has A L f.a = true ∧ elS A L txt f.G l f.a = match argR A L f.a with
    | .no e q b => .no e q b
    | .ok n =>
      if kindT t = 2 ∨ kindT t = 3 then
        (if n ≠ 0 ∧ has A L (f.a + 1 + widT t + n - 1) = false then lack A L
        else if kindT t = 3 ∧ txt (Dr.part A (f.a + 1 + widT t) (f.a + 1 + widT t + n)) = false then .no 9 f.a false
        else .ok (.pend f.G (l ++ [⟨kindT t, 0, Dr.part A (f.a + 1 + widT t) (f.a + 1 + widT t + n)⟩]) f.a (f.a + 1 + widT t + n)))
      else if holds (kindT t) = true then
        (if L.depth ≤ f.G.length then .no 10 f.a false
        else .ok (.loop (frN f.a (kindT t) n :: f.G) (l ++ [⟨kindT t, n, []⟩]) (f.a + 1 + widT t)))
      else .ok (.pend f.G (l ++ [⟨kindT t, n, []⟩]) f.a (f.a + 1 + widT t)) := by
  have hlt := h.lt
  have hh : has A L f.a = true := decide_eq_true ⟨by omega, by omega⟩
  refine ⟨hh, ?_⟩
  rw [elS, if_neg (by rw [hh]; decide), if_neg h.it, h.tg, if_neg (by rw [h.ok]; decide)]
  rfl
theorem El.elk {f : Fs} {l : List Am} {t : UInt8} (h : El A L txt f l t) (hA : f.T.length ≤ A.length) (hB : f.T.length ≤ L.bytes) : elK A L l f.a = match argB A L f.a (widT t) with
    | .no _ _ _ => lackK A L
    | .ok _ => match argR A L f.a with
      | .no _ _ _ => f.a + 1 + widT t
      | .ok n =>
        if kindT t = 2 ∨ kindT t = 3 then (if n ≠ 0 ∧ has A L (f.a + 1 + widT t + n - 1) = false then lackK A L else f.a + 1 + widT t + n)
        else f.a + 1 + widT t := by
  obtain ⟨hh, -⟩ := h.els hA hB
  rw [elK, if_neg (by rw [hh]; decide), if_neg h.it, h.tg, if_neg (by rw [h.ok]; decide)]
  rfl
theorem El.lastK {f : Fs} {l : List Am} {t : UInt8} (h : El A L txt f l t) : f.lastK = kindT t := by
  rw [Fs.lastK, h.fl, getD_last _ _ _ _ (by simp)]
/-- a text's last byte was taken -/
theorem whole_good {f : Fs} {l : List Am} {t : UInt8} (hgf : Gf f.G (f.T.length - 1)) (hgl : f.G.length ≤ L.depth) (hag : f.arg < 18446744073709551616) (h : El A L txt f l t) (he : f.e = 0) (hT : f.T = A.take f.T.length) (hA : f.T.length ≤ A.length) (hB : f.T.length ≤ L.bytes) (hk : kindT t = 2 ∨ kindT t = 3) (hR : argR A L f.a = .ok f.arg) (hl : f.T.length = f.a + 1 + widT t + f.arg) : Good A L txt (f.whole txt) := by
  obtain ⟨hh, hE⟩ := h.els hA hB
  have hK := h.elk hA hB
  obtain ⟨am, hab⟩ := argB_ok hR
  rw [h.tg] at hab
  rw [hab, hR] at hK
  rw [hR] at hE
  dsimp only at hE hK
  have hlt := h.lt
  have hnl : ¬ (f.arg ≠ 0 ∧ has A L (f.a + 1 + widT t + f.arg - 1) = false) := by
    rintro ⟨h1, h2⟩
    have h3 : ¬ (f.a + 1 + widT t + f.arg - 1 < A.length ∧ f.a + 1 + widT t + f.arg - 1 < L.bytes) := of_decide_eq_false h2
    omega
  rw [if_pos hk, if_neg hnl] at hK
  rw [if_pos hk, if_neg (by
    rintro ⟨h1, h2⟩
    have h3 : ¬ (f.a + 1 + widT t + f.arg - 1 < A.length ∧ f.a + 1 + widT t + f.arg - 1 < L.bytes) := of_decide_eq_false h2
    omega)] at hE
  have hd : f.T.drop (f.T.length - f.arg) = Dr.part A (f.a + 1 + widT t) (f.a + 1 + widT t + f.arg) := by
    rw [drop_part hT, ← hl]
    congr 1
    omega
  rw [Fs.whole, h.lastK, hd]
  by_cases hv : kindT t = 3 ∧ txt (Dr.part A (f.a + 1 + widT t) (f.a + 1 + widT t + f.arg)) = false
  · rw [if_pos hv]
    rw [if_pos hv] at hE
    exact Good.bad (h.rc _ _ _ (RunsT.elNo hE)) (by decide) (by rw [hK]; exact hl.symm) rfl hB hgl
  · rw [if_neg hv]
    rw [if_neg hv] at hE
    have hx : f.texted.l = l ++ [⟨kindT t, 0, Dr.part A (f.a + 1 + widT t) (f.a + 1 + widT t + f.arg)⟩] := by
      rw [Fs.texted, hd]
      show List.modify f.l _ _ = _
      rw [h.fl, mod_last _ _ _ _ (by simp)]
    refine ended_good f.texted f.a hgf (by rw [hx, List.length_append, List.length_singleton]; have := h.it; omega) hgl hag he hT hA hB (fun r t2 k2 hr => h.rc r t2 k2 (RunsT.el hE ?_))
    rw [hx, show f.texted.T.length = f.a + 1 + widT t + f.arg from hl] at hr
    exact hr
theorem headed_good {f : Fs} {l : List Am} {t : UInt8} (hgf : Gf f.G (f.T.length - 1)) (hgl : f.G.length ≤ L.depth) (hag : f.arg < 18446744073709551616) (h : El A L txt f l t) (he : f.e = 0) (hT : f.T = A.take f.T.length) (hA : f.T.length ≤ A.length) (hB : f.T.length ≤ L.bytes) (hl : f.T.length = f.a + 1 + widT t) (hR : argR A L f.a = if short f.wd f.arg = true then .ok f.arg else .no 9 f.a false) (hab : ∃ m, argB A L f.a (widT t) = .ok m) : Good A L txt (f.headed txt L) := by
  obtain ⟨hh, hE⟩ := h.els hA hB
  have hK := h.elk hA hB
  obtain ⟨am, hab⟩ := hab
  rw [hab, hR] at hK
  rw [hR] at hE
  rw [Fs.headed, h.lastK]
  by_cases hs : short f.wd f.arg = false
  · rw [if_pos hs]
    rw [if_neg (by rw [hs]; decide)] at hE hK
    exact Good.bad (h.rc _ _ _ (RunsT.elNo hE)) (by decide) (by rw [hK]; exact hl.symm) rfl hB hgl
  rw [if_neg hs]
  have hs : short f.wd f.arg = true := by simpa using hs
  rw [if_pos hs] at hE hR hK
  dsimp only at hE hK
  by_cases h1 : kindT t = 2 ∨ kindT t = 3
  · rw [if_pos h1]
    by_cases h2 : f.arg = 0
    · rw [if_pos h2]
      exact whole_good (f := { f with left := f.arg, m := 2 }) (l := l) (t := t) hgf hgl hag ⟨h.rc, h.fl, h.tg, h.lt, h.it, h.ok, h.wd⟩ he hT hA hB h1 hR (by show f.T.length = f.a + 1 + widT t + f.arg; omega)
    · rw [if_neg h2]
      exact ⟨fun h9 => absurd he h9, fun _ => ⟨hgf, (by show f.l.length ≤ _; rw [h.fl, List.length_append, List.length_singleton]; have := h.it; omega), hgl, hag, hT, hA, hB, fun h => (by cases h), fun h => (by cases h), fun _ => ⟨l, t, ⟨h.rc, h.fl, h.tg, h.lt, h.it, h.ok, h.wd⟩, h1, hR, by show f.T.length + f.arg = f.a + 1 + widT t + f.arg; omega, by show 0 < f.arg; omega, by show f.a + 1 + widT t ≤ f.T.length; omega⟩, fun h => (by cases h), Nat.succ_le_succ (Nat.succ_le_succ (Nat.zero_le _))⟩⟩
  rw [if_neg h1]
  rw [if_neg h1] at hE
  have hx : f.numbered.l = l ++ [⟨kindT t, f.arg, []⟩] := by
    rw [Fs.numbered]
    show List.modify f.l _ _ = _
    rw [h.fl, mod_last _ _ _ _ (by simp)]
  by_cases h2 : holds (kindT t) = true
  · rw [if_pos h2]
    rw [if_pos h2] at hE
    by_cases h3 : L.depth ≤ f.G.length
    · rw [if_pos h3]
      rw [if_pos h3] at hE
      rw [if_neg h1] at hK
      exact Good.bad (h.rc _ _ _ (RunsT.elNo hE)) (by decide) (by rw [hK]; exact hl.symm) rfl hB hgl
    · rw [if_neg h3]
      rw [if_neg h3] at hE
      refine close_good _ { f.numbered with G := frN f.a (kindT t) f.arg :: f.G, m := 0 } (frN f.a (kindT t) f.arg) f.G ⟨fun s hs => ?_, fun s hs => (hgf s hs).1⟩ (by show f.numbered.l.length ≤ _; rw [hx, List.length_append, List.length_singleton]; have := h.it; omega) (by omega) hag rfl (by simp) he rfl hT hA hB (fun r t2 k2 hr => h.rc r t2 k2 (RunsT.el hE ?_))
      · rcases List.mem_cons.1 hs with rfl | hs
        · refine ⟨?_, by show f.a ≤ f.T.length - 1; have := h.lt; omega⟩
          show (if kindT t = 6 then 1 else f.arg) < _
          split <;> omega
        · exact (hgf s hs).2
      · have hr : RunsT A L txt (.loop (frN f.a (kindT t) f.arg :: f.G) f.numbered.l f.T.length) r t2 k2 := hr
        rw [hx, hl] at hr
        exact hr
  · rw [if_neg h2]
    rw [if_neg h2] at hE
    refine ended_good f.numbered f.a hgf (by rw [hx, List.length_append, List.length_singleton]; have := h.it; omega) hgl hag he hT hA hB (fun r t2 k2 hr => h.rc r t2 k2 (RunsT.el hE ?_))
    have hr : RunsT A L txt (.pend f.G f.numbered.l f.a f.T.length) r t2 k2 := hr
    rw [hx, hl] at hr
    exact hr
theorem El.more {f : Fs} {l : List Am} {t : UInt8} (h : El A L txt f l t) : El A L txt (Cf.more f A) l t := ⟨h.rc, h.fl, h.tg, by rw [more_len]; exact Nat.lt_succ_of_lt h.lt, h.it, h.ok, h.wd⟩
theorem step_good (f : Fs) (he : f.e = 0) (h : Inv A L txt f) (h1 : f.T.length < A.length) (h2 : f.T.length < L.bytes) : Good A L txt (f.step txt L (A.getD f.T.length 0)) := by
  obtain ⟨p, hp⟩ : ∃ p, f.T.length = p := ⟨_, rfl⟩
  obtain ⟨b, hb⟩ : ∃ b, A.getD f.T.length 0 = b := ⟨_, rfl⟩
  have hT := more_tx h.tx h1
  have hlen := more_len f A
  have hA : (more f A).T.length ≤ A.length := by rw [hlen]; omega
  have hB : (more f A).T.length ≤ L.bytes := by rw [hlen]; omega
  have hst : f.step txt L (A.getD f.T.length 0) = Fs.go txt L (more f A) b := by rw [Fs.step, hb, more, hb]
  have hhas : has A L p = true := decide_eq_true ⟨by omega, by omega⟩
  rw [hst, Fs.go]
  have hm := h.mm
  have hgf : Gf (more f A).G ((more f A).T.length - 1) := h.gd.mono (by rw [hlen]; omega)
  have hgl : (more f A).G.length ≤ L.depth := h.gl
  by_cases m0 : f.m = 0
  · rw [if_pos (show (more f A).m = 0 from m0)]
    have hR := h.m0 m0
    have hel : elS A L txt f.G f.l p = elS A L txt f.G f.l p := rfl
    conv at hel => rhs; rw [elS]
    have hK : elK A L f.l p = elK A L f.l p := rfl
    conv at hK => rhs; rw [elK]
    rw [hp] at hR
    rw [hhas, if_neg (by decide), ← hp, hb, hp] at hel
    rw [hhas, if_neg (by decide), ← hp, hb, hp] at hK
    rw [Fs.head, hlen, hp, Nat.add_sub_cancel]
    by_cases q1 : L.items ≤ (more f A).l.length
    · rw [if_pos q1]
      rw [if_pos (show L.items ≤ f.l.length from q1)] at hel hK
      exact Good.bad (hR _ _ _ (RunsT.elNo hel)) (by decide) (by rw [hK]; show p + 1 = (more f A).T.length; rw [hlen, hp]) rfl hB hgl
    rw [if_neg q1]
    rw [if_neg (show ¬ L.items ≤ f.l.length from q1)] at hel hK
    by_cases q2 : headE b ≠ 0
    · rw [if_pos q2]
      rw [if_pos q2] at hel hK
      exact Good.bad (hR _ _ _ (RunsT.elNo hel)) q2 (by rw [hK]; show p + 1 = (more f A).T.length; rw [hlen, hp]) rfl hB hgl
    rw [if_neg q2]
    have hq2 : headE b = 0 := Decidable.byContradiction q2
    have ha : ((more f A).begun b).a = p := by show (more f A).T.length - 1 = p; rw [hlen]; omega
    have hE : ∀ n, El A L txt ({ (more f A).begun b with arg := n }) f.l b := fun n => ⟨by show Reach A L txt (.el f.G f.l ((more f A).begun b).a); rw [ha]; exact hR, rfl, by show A.getD ((more f A).begun b).a 0 = b; rw [ha, ← hp]; exact hb, by show ((more f A).begun b).a < (more f A).T.length; rw [ha, hlen]; omega, q1, hq2, rfl⟩
    by_cases q3 : widT b = 0
    · rw [if_pos q3]
      refine headed_good hgf hgl (by show infT b < _; rw [infT]; omega) (hE (infT b)) he hT hA hB ?_ ?_ ⟨0, by rw [q3]; rfl⟩
      · show (more f A).T.length = ((more f A).begun b).a + 1 + widT b
        rw [hlen, ha, q3, hp]
      · show argR A L ((more f A).begun b).a = if short (widT b) (infT b) = true then .ok (infT b) else .no 9 _ false
        rw [ha, q3, if_pos (by rfl), argR, ← hp, hb, q3]
        rfl
    · rw [if_neg q3]
      refine ⟨fun h9 => absurd he h9, fun _ => ⟨hgf, (by show (f.l ++ [_]).length ≤ _; rw [List.length_append, List.length_singleton]; have : ¬ L.items ≤ f.l.length := q1; omega), hgl, (by show 0 < _; decide), hT, hA, hB, fun h => (by cases h), fun _ => ⟨f.l, b, hE 0, 0, ?_, ?_, ?_, rfl⟩, fun h => (by cases h), fun h => (by cases h), Nat.succ_le_succ (Nat.zero_le _)⟩⟩
      · show (more f A).T.length = ((more f A).begun b).a + 1 + 0
        rw [hlen, ha, hp]
      · show 0 + widT b = widT b; omega
      · show 0 < widT b; omega
  rw [if_neg (show ¬ (more f A).m = 0 from m0)]
  by_cases m1 : f.m = 1
  · rw [if_pos (show (more f A).m = 1 from m1)]
    obtain ⟨l, t, hE, i, x1, x2, x3, x4⟩ := h.m1 m1
    have hEm := hE.more
    have hpi : f.a + i + 1 = p := by omega
    have hbi : at0S A (f.a + i + 1) = b.toNat := by rw [at0S, hpi, ← hp, hb]
    have hab : argB A L f.a (i + 1) = .ok (256 * f.arg + b.toNat) := by
      rw [argB, x4]
      dsimp only
      rw [hpi, hhas, if_pos rfl, ← hpi, hbi]
    have hag : 256 * f.arg + b.toNat < 18446744073709551616 := by
      have h5 := Cf.argB_lt f.a (i + 1) _ hab
      have h6 := wid_le hE.ok
      have h7 : 256 ^ (i + 1) ≤ 256 ^ 8 := Nat.pow_le_pow_right (by decide) (by omega)
      exact Nat.lt_of_lt_of_le h5 h7
    rw [Fs.argd, show (more f A).arg = f.arg from rfl, show (more f A).left = f.left from rfl]
    by_cases q1 : f.left - 1 = 0
    · rw [if_pos q1]
      have hw : widT t = i + 1 := by omega
      refine headed_good (f := { more f A with arg := 256 * f.arg + b.toNat, left := f.left - 1 }) (l := l) (t := t) hgf hgl hag ⟨hEm.rc, hEm.fl, hEm.tg, hEm.lt, hEm.it, hEm.ok, hEm.wd⟩ he hT hA hB ?_ ?_ ⟨_, by rw [hw]; exact hab⟩
      · show (more f A).T.length = f.a + 1 + widT t
        rw [hlen, x1]; omega
      · show argR A L f.a = if short f.wd (256 * f.arg + b.toNat) = true then .ok (256 * f.arg + b.toNat) else .no 9 f.a false
        rw [argR, hE.tg, hw, hab]
        dsimp only
        rw [if_neg (Nat.succ_ne_zero i), hE.wd, hw]
    · rw [if_neg q1]
      refine ⟨fun h9 => absurd he h9, fun _ => ⟨hgf, h.li, hgl, hag, hT, hA, hB, fun h => absurd h m0, fun _ => ⟨l, t, ⟨hEm.rc, hEm.fl, hEm.tg, hEm.lt, hEm.it, hEm.ok, hEm.wd⟩, i + 1, ?_, ?_, ?_, hab⟩, fun h => absurd (m1.symm.trans h) (by decide), fun h => absurd (m1.symm.trans h) (by decide), hm⟩⟩
      · show (more f A).T.length = f.a + 1 + (i + 1); rw [hlen, x1]; omega
      · show i + 1 + (f.left - 1) = widT t; omega
      · show 0 < f.left - 1; omega
  rw [if_neg (show ¬ (more f A).m = 1 from m1)]
  by_cases m2 : f.m = 2
  · rw [if_pos (show (more f A).m = 2 from m2)]
    obtain ⟨l, t, hE, x0, x1, x2, x3, x4⟩ := h.m2 m2
    have hEm := hE.more
    rw [Fs.body, show (more f A).left = f.left from rfl]
    by_cases q1 : f.left - 1 = 0
    · rw [if_pos q1]
      exact whole_good (f := { more f A with left := f.left - 1 }) (l := l) (t := t) hgf hgl h.ag ⟨hEm.rc, hEm.fl, hEm.tg, hEm.lt, hEm.it, hEm.ok, hEm.wd⟩ he hT hA hB x0 x1 (by show (more f A).T.length = f.a + 1 + widT t + f.arg; rw [hlen]; omega)
    · rw [if_neg q1]
      exact ⟨fun h9 => absurd he h9, fun _ => ⟨hgf, h.li, hgl, h.ag, hT, hA, hB, fun h => absurd h m0, fun h => absurd h m1, fun _ => ⟨l, t, ⟨hEm.rc, hEm.fl, hEm.tg, hEm.lt, hEm.it, hEm.ok, hEm.wd⟩, x0, x1, by show (more f A).T.length + (f.left - 1) = f.a + 1 + widT t + f.arg; rw [hlen]; omega, by show 0 < f.left - 1; omega, by show f.a + 1 + widT t ≤ (more f A).T.length; rw [hlen]; omega⟩, fun h => absurd (m2.symm.trans h) (by decide), hm⟩⟩
  rw [if_neg (show ¬ (more f A).m = 2 from m2)]
  obtain ⟨hG, hR⟩ := h.m3 (by omega)
  rw [Fs.rest, hlen, Nat.add_sub_cancel]
  refine Good.bad (hR _ _ _ ?_) (by decide) hlen.symm (by show 0 = f.G.length; rw [hG]; rfl) hB hgl
  have hf : fin A L f.l f.T.length = .no 9 f.T.length false := by rw [fin, if_pos h1, hp, hhas, if_pos rfl]
  have hk : finK A L f.T.length = f.T.length + 1 := by rw [finK, if_pos h1, hp, hhas, if_pos rfl]
  rw [← hf, ← hk]
  exact RunsT.fin
/-- what an unfinished feed comes to where the text ends, or the bytes that may be -/
theorem inv_lack {f : Fs} (h : Inv A L txt f) (hh : has A L f.T.length = false) (hm : f.m ≠ 3) : RunsT A L txt (.el [] [] 0) (lack A L) (lackK A L) f.G.length := by
  have lk : ∀ {G : List Fr} {l : List Am} {q : Nat}, Reach A L txt (.el G l q) → elS A L txt G l q = lack A L → elK A L l q = lackK A L → RunsT A L txt (.el [] [] 0) (lack A L) (lackK A L) G.length := fun hR hE hK => by
    rw [lack] at hE ⊢
    have h9 := hR _ _ _ (RunsT.elNo hE)
    rw [hK] at h9
    exact h9
  have hmm := h.mm
  have hle := h.le
  have hlb := h.lb
  by_cases m0 : f.m = 0
  · exact lk (h.m0 m0) (by rw [elS, if_pos hh]) (by rw [elK, if_pos hh])
  by_cases m1 : f.m = 1
  · obtain ⟨l, t, hE, i, x1, x2, x3, x4⟩ := h.m1 m1
    obtain ⟨-, hE2⟩ := hE.els hle hlb
    have h9 := argB_lack f.a x4 (by rw [show f.a + i + 1 = f.T.length by omega]; exact hh) (f.left - 1)
    refine lk hE.rc ?_ ?_
    · rw [hE2, argR, hE.tg, show widT t = i + 1 + (f.left - 1) by omega, h9]
      rfl
    · rw [hE.elk hle hlb, show widT t = i + 1 + (f.left - 1) by omega, h9]
      rfl
  by_cases m2 : f.m = 2
  · obtain ⟨l, t, hE, x0, x1, x2, x3, x4⟩ := h.m2 m2
    obtain ⟨-, hE2⟩ := hE.els hle hlb
    have hno : has A L (f.a + 1 + widT t + f.arg - 1) = false := by
      have h9 : ¬ (f.T.length < A.length ∧ f.T.length < L.bytes) := of_decide_eq_false hh
      exact decide_eq_false (fun h8 => h9 ⟨by omega, by omega⟩)
    obtain ⟨am, hab⟩ := argB_ok x1
    rw [hE.tg] at hab
    refine lk hE.rc ?_ ?_
    · rw [hE2, x1]
      dsimp only
      rw [if_pos x0, if_pos ⟨by omega, hno⟩]
    · rw [hE.elk hle hlb, hab, x1]
      dsimp only
      rw [if_pos x0, if_pos ⟨by omega, hno⟩]
  exact absurd (by omega) hm
theorem inv_fin {f : Fs} (h : Inv A L txt f) (hm : f.m = 3) : RunsT A L txt (.el [] [] 0) (fin A L f.l f.T.length) (finK A L f.T.length) 0 := (h.m3 hm).2 _ _ _ RunsT.fin
theorem inv_f0 : Inv A L txt f0 := ⟨(fun t ht => absurd ht List.not_mem_nil), Nat.zero_le _, Nat.zero_le _, by decide, rfl, Nat.zero_le _, Nat.zero_le _, fun _ r t2 k2 h => h, fun h => (by cases h), fun h => (by cases h), fun h => (by cases h), Nat.zero_le _⟩
theorem take_good (f : Fs) (he : f.e = 0) (h : Inv A L txt f) (h1 : f.T.length < A.length) : Good A L txt (f.take txt L (A.getD f.T.length 0)) := by
  rw [Fs.take, if_neg (fun h => h he)]
  by_cases h2 : L.bytes ≤ f.T.length
  · rw [if_pos h2]
    have hh : has A L f.T.length = false := decide_eq_false (fun h8 => by omega)
    have hlt : L.bytes < A.length := by omega
    have hl : (lack A L : Rs (List Am)) = .no 10 L.bytes false := by
      rw [lack, Dr.lackE, Dr.lackP, if_pos hlt, if_pos hlt, decide_eq_false (by omega)]
    have hlb := h.lb
    have hk : lackK A L = f.T.length := by rw [lackK, if_pos hlt]; omega
    by_cases hm : f.m = 3
    · have h9 := inv_fin h hm
      rw [fin, if_pos h1, hh, if_neg (by decide), hl] at h9
      refine Good.bad h9 (by decide) ?_ ?_ h.lb h.gl
      · rw [finK, if_pos h1, hh, if_neg (by decide), hk]
      · rw [(h.m3 hm).1]; rfl
    · have h9 := inv_lack h hh hm
      rw [hl] at h9
      exact Good.bad h9 (by decide) hk rfl h.lb h.gl
  · rw [if_neg h2]
    exact step_good f he h h1 (by omega)
end
structure Fine (A : List UInt8) (L : Lm) (txt : List UInt8 → Bool) (k : Nat) (f : Fs) : Prop where
  good : Good A L txt f
  tx : f.e = 0 → f.T = A.take k
theorem take_fine {A : List UInt8} {L : Lm} {txt : List UInt8 → Bool} {k : Nat} {f : Fs} (h : Fine A L txt k f) (hk : k < A.length) : Fine A L txt (k + 1) (f.take txt L (A.getD k 0)) := by
  by_cases he : f.e = 0
  · have hT := h.tx he
    have hl : f.T.length = k := by rw [hT, List.length_take]; omega
    have h1 := take_good f he (h.good.2 he) (by rw [hl]; exact hk)
    rw [hl] at h1
    refine ⟨h1, fun h0 => ?_⟩
    rw [Fs.take, if_neg (fun h => h he)] at h0 ⊢
    split
    · rename_i h2; rw [if_pos h2] at h0; exact absurd h0 (show (10 : Int) ≠ 0 by decide)
    · rw [Fs.step, go_T]
      show f.T ++ _ = _
      rw [hT, snoc_take hk]
  · rw [take_bad f _ he]
    exact ⟨h.good, fun h0 => absurd h0 he⟩
theorem feed_fine (A : List UInt8) (L : Lm) (txt : List UInt8 → Bool) : ∀ k, k ≤ A.length → Fine A L txt k (f0.feed txt L (A.take k))
  | 0, _ => by
    rw [List.take_zero]
    exact ⟨⟨fun h => absurd rfl h, fun _ => inv_f0⟩, fun _ => rfl⟩
  | k + 1, h => by
    rw [← snoc_take (by omega : k < A.length), feed_append]
    exact take_fine (feed_fine A L txt k (by omega)) (by omega)
/-- a feed has taken, and begun, what the machine has at its end -/
theorem feed_runsT (A : List UInt8) (L : Lm) (txt : List UInt8 → Bool) : RunsT A L txt (.el [] [] 0) (ans (f0.feed txt L A)) (f0.feed txt L A).T.length (f0.feed txt L A).G.length ∧ (f0.feed txt L A).T.length ≤ L.bytes ∧ (f0.feed txt L A).G.length ≤ L.depth := by
  have h := feed_fine A L txt A.length (Nat.le_refl _)
  rw [List.take_length] at h
  generalize f0.feed txt L A = f at h
  rw [ans]
  by_cases he : f.e = 0
  · refine ⟨?_, (h.good.2 he).lb, (h.good.2 he).gl⟩
    rw [if_neg (fun h => h he)]
    have hT := h.tx he
    rw [List.take_length] at hT
    have hi := h.good.2 he
    have hl : f.T.length = A.length := by rw [hT]
    have hh : has A L f.T.length = false := decide_eq_false (fun h9 => by omega)
    have hb := hi.lb
    split
    · rename_i hm
      have h9 := inv_fin hi hm
      rw [fin, if_neg (by omega), finK, if_neg (by omega)] at h9
      rw [(hi.m3 hm).1]
      exact h9
    · rename_i hm
      have h9 := inv_lack hi hh hm
      rw [lack, Dr.lackE, Dr.lackP, if_neg (by omega), if_neg (by omega), decide_eq_true (by omega), lackK, if_neg (by omega)] at h9
      rw [hl]
      exact h9
  · rw [if_pos he]
    exact h.good.1 he
end Cs
end Go.Proofs.YteanipjgpekncaaDoor
