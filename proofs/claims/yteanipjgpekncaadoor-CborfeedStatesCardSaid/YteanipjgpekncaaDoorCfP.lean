/- Items piece by piece (layer 20), in plain words: a feed is the machine that reads at once, stopped where its text ends. -/
import Derived.Test.YteanipjgpekncaaDoorCoZ
namespace Go.Proofs.YteanipjgpekncaaDoor
set_option linter.unusedVariables false
set_option linter.unusedSimpArgs false
namespace Cf
open Co
open Dr (Rs Lm has lack at0S)
/-- a feed: m is what comes next: a head, an argument's byte, a text's, nothing -/
structure Fs where
  T : List UInt8
  l : List Am
  G : List Fr
  m : Nat
  e : Int
  pl : Nat
  a : Nat
  wd : Nat
  left : Nat
  arg : Nat
def Fs.fault (f : Fs) (e : Int) (p : Nat) : Fs := { f with e := e, pl := p }
def keyF (t : Fr) (B : List UInt8) : Fr := { t with keys := true, value := true, last := B }
def otherF (t : Fr) : Fr := { t with value := false, left := t.left - 1 }
def Fs.ended (f : Fs) (a : Nat) : Fs :=
  match f.G with
  | [] => { f with m := 3 }
  | t :: G =>
    if t.pairs = true ∧ t.value = false then
      (if t.keys = true ∧ Op.bytesLess t.last (f.T.drop a) = false then ({ f with m := 0, G := keyF t (f.T.drop a) :: G } : Fs).fault 9 a
      else { f with m := 0, G := keyF t (f.T.drop a) :: G })
    else { f with m := 0, G := otherF t :: G }
def Fs.close : Nat → Fs → Fs
  | 0, f => f
  | k + 1, f =>
    match f.G with
    | [] => f
    | t :: G => if f.e = 0 ∧ t.left = 0 then Fs.close k (({ f with G := G } : Fs).ended t.p0) else f
def Fs.lastK (f : Fs) : Nat := (f.l.getD (f.l.length - 1) ⟨0, 0, []⟩).kind
def Fs.texted (f : Fs) : Fs := { f with l := f.l.modify (f.l.length - 1) (fun x => { x with text := f.T.drop (f.T.length - f.arg) }) }
def Fs.numbered (f : Fs) : Fs := { f with l := f.l.modify (f.l.length - 1) (fun x => { x with num := f.arg }) }
def Fs.whole (txt : List UInt8 → Bool) (f : Fs) : Fs :=
  if f.lastK = 3 ∧ txt (f.T.drop (f.T.length - f.arg)) = false then f.texted.fault 9 f.a
  else Fs.close f.G.length (f.texted.ended f.a)
def frN (a k n : Nat) : Fr := ⟨a, if k = 6 then 1 else n, decide (k = 5), false, false, []⟩
def Fs.headed (txt : List UInt8 → Bool) (L : Lm) (f : Fs) : Fs :=
  if short f.wd f.arg = false then f.fault 9 f.a
  else if f.lastK = 2 ∨ f.lastK = 3 then
    (if f.arg = 0 then Fs.whole txt { f with left := f.arg, m := 2 } else { f with left := f.arg, m := 2 })
  else if holds f.lastK = true then
    (if L.depth ≤ f.G.length then f.fault 10 f.a
    else Fs.close (f.G.length + 1) { f.numbered with G := frN f.a f.lastK f.arg :: f.G, m := 0 })
  else Fs.close f.G.length (f.numbered.ended f.a)
def Fs.begun (f : Fs) (b : UInt8) : Fs := { f with a := f.T.length - 1, l := f.l ++ [⟨kindT b, 0, []⟩], wd := widT b, left := widT b, arg := 0, m := 1 }
def Fs.head (txt : List UInt8 → Bool) (L : Lm) (f : Fs) (b : UInt8) : Fs :=
  if L.items ≤ f.l.length then ({ f with a := f.T.length - 1 } : Fs).fault 10 (f.T.length - 1)
  else if headE b ≠ 0 then ({ f with a := f.T.length - 1 } : Fs).fault (headE b) (f.T.length - 1)
  else if widT b = 0 then Fs.headed txt L { f.begun b with arg := infT b }
  else f.begun b
def Fs.argd (txt : List UInt8 → Bool) (L : Lm) (f : Fs) (b : UInt8) : Fs :=
  if f.left - 1 = 0 then Fs.headed txt L { f with arg := 256 * f.arg + b.toNat, left := f.left - 1 } else { f with arg := 256 * f.arg + b.toNat, left := f.left - 1 }
def Fs.body (txt : List UInt8 → Bool) (f : Fs) : Fs :=
  if f.left - 1 = 0 then Fs.whole txt { f with left := f.left - 1 } else { f with left := f.left - 1 }
def Fs.rest (f : Fs) : Fs := f.fault 9 (f.T.length - 1)
def Fs.go (txt : List UInt8 → Bool) (L : Lm) (f : Fs) (b : UInt8) : Fs :=
  if f.m = 0 then f.head txt L b else if f.m = 1 then f.argd txt L b else if f.m = 2 then f.body txt else f.rest
def Fs.step (txt : List UInt8 → Bool) (L : Lm) (f : Fs) (b : UInt8) : Fs := Fs.go txt L { f with T := f.T ++ [b] } b
def Fs.take (txt : List UInt8 → Bool) (L : Lm) (f : Fs) (b : UInt8) : Fs :=
  if f.e ≠ 0 then f else if L.bytes ≤ f.T.length then f.fault 10 L.bytes else f.step txt L b
def Fs.feed (txt : List UInt8 → Bool) (L : Lm) (f : Fs) (S : List UInt8) : Fs := S.foldl (Fs.take txt L) f
def f0 : Fs := ⟨[], [], [], 0, 0, 0, 0, 0, 0, 0⟩
section
variable {txt : List UInt8 → Bool} {L : Lm}
theorem feed_append (f : Fs) (S R : List UInt8) : f.feed txt L (S ++ R) = (f.feed txt L S).feed txt L R := List.foldl_append
theorem take_bad (f : Fs) (b : UInt8) (h : f.e ≠ 0) : f.take txt L b = f := by rw [Fs.take, if_pos h]
theorem feed_bad (f : Fs) (S : List UInt8) (h : f.e ≠ 0) : f.feed txt L S = f := by
  induction S with
  | nil => rfl
  | cons b S ih => rw [Fs.feed, List.foldl_cons, take_bad f b h]; exact ih
end
theorem mod_last (X : List Am) (x : Am) (g : Am → Am) (n : Nat) (hn : n = X.length) : (X ++ [x]).modify n g = X ++ [g x] := by
  subst hn
  apply List.ext_getElem?
  intro k
  by_cases hk : k < X.length
  · rw [List.getElem?_modify, List.getElem?_append_left hk, List.getElem?_append_left hk]
    have h9 : ¬ X.length = k := by omega
    simp [h9]
  · rw [List.getElem?_modify, List.getElem?_append_right (by omega), List.getElem?_append_right (by omega)]
    by_cases h2 : X.length = k
    · subst h2; simp
    · have : ∃ j, k - X.length = j + 1 := ⟨k - X.length - 1, by omega⟩
      obtain ⟨j, hj⟩ := this
      rw [hj]; simp [h2]
theorem getD_last (X : List Am) (x d : Am) (n : Nat) (hn : n = X.length) : (X ++ [x]).getD n d = x := by subst hn; simp [List.getD]
section
variable (A : List UInt8) (L : Lm) (txt : List UInt8 → Bool)
abbrev R0 := Runs A L txt Op.bytesLess
def Reach (s : St) : Prop := ∀ r, Runs A L txt Op.bytesLess s r → Runs A L txt Op.bytesLess (.el [] [] 0) r
/-- what holds while an item's argument or text is read -/
structure El (f : Fs) (l : List Am) (t : UInt8) : Prop where
  rc : Reach A L txt (.el f.G l f.a)
  fl : f.l = l ++ [⟨kindT t, 0, []⟩]
  tg : A.getD f.a 0 = t
  lt : f.a < f.T.length
  it : ¬ L.items ≤ l.length
  ok : headE t = 0
  wd : f.wd = widT t
/-- all that is begun holds more -/
def Gf (G : List Fr) (p : Nat) : Prop := ∀ t ∈ G, 0 < t.left ∧ t.left < 18446744073709551616 ∧ t.p0 ≤ p
/-- the topmost one may be full -/
def Tf (G : List Fr) (p : Nat) : Prop := (∀ t ∈ G, t.left < 18446744073709551616 ∧ t.p0 ≤ p) ∧ ∀ t ∈ G.tail, 0 < t.left
structure Inv (f : Fs) : Prop where
  gd : Gf f.G (f.T.length - 1)
  li : f.l.length ≤ L.items
  gl : f.G.length ≤ L.depth
  ag : f.arg < 18446744073709551616
  tx : f.T = A.take f.T.length
  le : f.T.length ≤ A.length
  lb : f.T.length ≤ L.bytes
  m0 : f.m = 0 → Reach A L txt (.el f.G f.l f.T.length)
  m1 : f.m = 1 → ∃ l t, El A L txt f l t ∧ ∃ i, f.T.length = f.a + 1 + i ∧ i + f.left = widT t ∧ 0 < f.left ∧ argB A L f.a i = .ok f.arg
  m2 : f.m = 2 → ∃ l t, El A L txt f l t ∧ (kindT t = 2 ∨ kindT t = 3) ∧ argR A L f.a = .ok f.arg ∧ f.T.length + f.left = f.a + 1 + widT t + f.arg ∧ 0 < f.left ∧ f.a + 1 + widT t ≤ f.T.length
  m3 : f.m = 3 → f.G = [] ∧ Reach A L txt (.loop [] f.l f.T.length)
  mm : f.m ≤ 3
def Good (f : Fs) : Prop := (f.e ≠ 0 → Runs A L txt Op.bytesLess (.el [] [] 0) (.no f.e f.pl false)) ∧ (f.e = 0 → Inv A L txt f)
variable {A L txt}
theorem Good.bad {f : Fs} {e : Int} {p : Nat} (h : Runs A L txt Op.bytesLess (.el [] [] 0) (.no e p false)) (he : e ≠ 0) : Good A L txt (f.fault e p) := ⟨fun _ => h, fun h0 => absurd h0 he⟩
theorem close_bad (k : Nat) (f : Fs) (h : f.e ≠ 0) : Fs.close k f = f := by
  cases k with
  | zero => rfl
  | succ k =>
    rw [Fs.close]
    cases hG : f.G with
    | nil => rfl
    | cons t G => simp only [hG]; rw [if_neg (fun h2 => h h2.1)]
theorem drop_part {p a : Nat} {T : List UInt8} (hT : T = A.take p) : T.drop a = Dr.part A a p := by rw [hT, Dr.part, List.drop_take]
theorem Gf.top {G : List Fr} {p : Nat} (h : Gf G p) : Tf G p := ⟨fun t ht => (h t ht).2, fun t ht => (h t (List.mem_of_mem_tail ht)).1⟩
theorem Tf.gf {t : Fr} {G : List Fr} {p : Nat} (h : Tf (t :: G) p) (h0 : t.left ≠ 0) : Gf (t :: G) p := fun s hs => by
  have h1 := h.1 s hs
  refine ⟨?_, h1.1, h1.2⟩
  rcases List.mem_cons.1 hs with rfl | hs
  · omega
  · exact h.2 s hs
theorem Tf.rest {t : Fr} {G : List Fr} {p : Nat} (h : Tf (t :: G) p) : Gf G p := fun s hs => by
  have h1 := h.1 s (List.mem_cons_of_mem _ hs)
  exact ⟨h.2 s hs, h1.1, h1.2⟩
theorem Gf.mono {G : List Fr} {p q : Nat} (h : Gf G p) (hq : p ≤ q) : Gf G q := fun t ht => ⟨(h t ht).1, (h t ht).2.1, Nat.le_trans (h t ht).2.2 hq⟩
theorem Gf.key {t : Fr} {G : List Fr} {p : Nat} (h : Gf (t :: G) p) (B : List UInt8) : Gf (keyF t B :: G) p := fun s hs => by
  rcases List.mem_cons.1 hs with rfl | hs
  · exact h t (List.mem_cons_self ..)
  · exact h s (List.mem_cons_of_mem _ hs)
theorem Gf.other {t : Fr} {G : List Fr} {p : Nat} (h : Gf (t :: G) p) : Tf (otherF t :: G) p := ⟨fun s hs => by
  rcases List.mem_cons.1 hs with rfl | hs
  · have h1 := h t (List.mem_cons_self ..)
    exact ⟨by show t.left - 1 < _; omega, h1.2.2⟩
  · exact (h s (List.mem_cons_of_mem _ hs)).2, fun s hs => (h s (List.mem_cons_of_mem _ hs)).1⟩
theorem close_good : ∀ (k : Nat) (f : Fs) (t : Fr) (G : List Fr), Tf (t :: G) (f.T.length - 1) → f.l.length ≤ L.items → G.length + 1 ≤ L.depth → f.arg < 18446744073709551616 → f.G = t :: G → f.G.length ≤ k → f.e = 0 → f.m = 0 → f.T = A.take f.T.length → f.T.length ≤ A.length → f.T.length ≤ L.bytes → Reach A L txt (.loop (t :: G) f.l f.T.length) → Good A L txt (Fs.close k f)
  | 0, f, t, G, _, _, _, _, hG, hk, _, _, _, _, _, _ => by rw [hG] at hk; simp at hk
  | k + 1, f, t, G, hTf, hli, hgl, hag, hG, hk, he, hm, hT, hA, hB, hR => by
    rw [hG, List.length_cons] at hk
    rw [Fs.close, hG]
    show Good A L txt (if f.e = 0 ∧ t.left = 0 then Fs.close k (({ f with G := G } : Fs).ended t.p0) else f)
    by_cases h0 : t.left = 0
    · rw [if_pos ⟨he, h0⟩]
      have hp : Reach A L txt (.pend G f.l t.p0 f.T.length) := fun r hr => hR r (Runs.loop (by rw [loopS, if_pos h0]; exact hr))
      cases G with
      | nil =>
        have h1 : ({ f with G := [] } : Fs).ended t.p0 = { f with G := [], m := 3 } := rfl
        have h2 : ∀ j, Fs.close j ({ f with G := [], m := 3 } : Fs) = { f with G := [], m := 3 } := fun j => by cases j <;> rfl
        rw [h1, h2]
        refine ⟨fun h => absurd he h, fun _ => ⟨(fun t ht => absurd ht List.not_mem_nil), hli, Nat.zero_le _, hag, hT, hA, hB, fun h => (by cases h), fun h => (by cases h), fun h => (by cases h), fun _ => ⟨rfl, fun r hr => hp r (Runs.pend rfl hr)⟩, Nat.le_refl _⟩⟩
      | cons s G =>
        have hd := drop_part (a := t.p0) hT
        by_cases hp1 : s.pairs = true ∧ s.value = false
        · by_cases hp2 : s.keys = true ∧ Op.bytesLess s.last (Dr.part A t.p0 f.T.length) = false
          · have h1 : ({ f with G := s :: G } : Fs).ended t.p0 = ({ f with m := 0, G := keyF s (f.T.drop t.p0) :: G } : Fs).fault 9 t.p0 := by
              rw [Fs.ended]
              show (if s.pairs = true ∧ s.value = false then (if s.keys = true ∧ Op.bytesLess s.last (f.T.drop t.p0) = false then _ else _) else _) = _
              rw [if_pos hp1, if_pos (by rw [hd]; exact hp2)]
            rw [h1, close_bad _ _ (by show (9 : Int) ≠ 0; decide)]
            refine Good.bad (hp _ (Runs.pendNo ?_)) (by decide)
            show (if s.pairs = true ∧ s.value = false then (if s.keys = true ∧ Op.bytesLess s.last (Dr.part A t.p0 f.T.length) = false then _ else _) else _) = _
            rw [if_pos hp1, if_pos hp2]
          · have h1 : ({ f with G := s :: G } : Fs).ended t.p0 = { f with m := 0, G := keyF s (f.T.drop t.p0) :: G } := by
              rw [Fs.ended]
              show (if s.pairs = true ∧ s.value = false then (if s.keys = true ∧ Op.bytesLess s.last (f.T.drop t.p0) = false then _ else _) else _) = _
              rw [if_pos hp1, if_neg (by rw [hd]; exact hp2)]
            rw [h1]
            refine close_good k _ (keyF s (f.T.drop t.p0)) G (hTf.rest.key _).top hli (by simp only [List.length_cons] at hgl; omega) hag rfl (by simp only [List.length_cons] at hk ⊢; omega) he rfl hT hA hB (fun r hr => hp r (Runs.pend (s := .loop (keyF s (f.T.drop t.p0) :: G) f.l f.T.length) ?_ hr))
            show (if s.pairs = true ∧ s.value = false then (if s.keys = true ∧ Op.bytesLess s.last (Dr.part A t.p0 f.T.length) = false then _ else _) else _) = _
            rw [if_pos hp1, if_neg hp2, hd]
            rfl
        · have h1 : ({ f with G := s :: G } : Fs).ended t.p0 = { f with m := 0, G := otherF s :: G } := by
            rw [Fs.ended]
            show (if s.pairs = true ∧ s.value = false then (if s.keys = true ∧ Op.bytesLess s.last (f.T.drop t.p0) = false then _ else _) else _) = _
            rw [if_neg hp1]
          rw [h1]
          refine close_good k _ (otherF s) G hTf.rest.other hli (by simp only [List.length_cons] at hgl; omega) hag rfl (by simp only [List.length_cons] at hk ⊢; omega) he rfl hT hA hB (fun r hr => hp r (Runs.pend (s := .loop (otherF s :: G) f.l f.T.length) ?_ hr))
          show (if s.pairs = true ∧ s.value = false then (if s.keys = true ∧ Op.bytesLess s.last (Dr.part A t.p0 f.T.length) = false then _ else _) else _) = _
          rw [if_neg hp1]
          rfl
    · rw [if_neg (fun h => h0 h.2)]
      exact ⟨fun h => absurd he h, fun _ => ⟨(by rw [hG]; exact hTf.gf h0), hli, (by rw [hG, List.length_cons]; exact hgl), hag, hT, hA, hB, fun _ r hr => by
        rw [hG] at hr
        exact hR r (Runs.loop (by rw [loopS, if_neg h0]; exact hr)), fun h => absurd (hm.symm.trans h) (by decide), fun h => absurd (hm.symm.trans h) (by decide), fun h => absurd (hm.symm.trans h) (by decide), by rw [hm]; decide⟩⟩
/-- an item has ended: the feed goes on as the machine does -/
theorem ended_good (f : Fs) (a : Nat) (hgf : Gf f.G (f.T.length - 1)) (hli : f.l.length ≤ L.items) (hgl : f.G.length ≤ L.depth) (hag : f.arg < 18446744073709551616) (he : f.e = 0) (hT : f.T = A.take f.T.length) (hA : f.T.length ≤ A.length) (hB : f.T.length ≤ L.bytes) (hp : Reach A L txt (.pend f.G f.l a f.T.length)) : Good A L txt (Fs.close f.G.length (f.ended a)) := by
  cases hG : f.G with
  | nil =>
    have h1 : f.ended a = { f with m := 3 } := by rw [Fs.ended, hG]
    rw [h1, List.length_nil]
    refine ⟨fun h => absurd he h, fun _ => ⟨hgf, hli, hgl, hag, hT, hA, hB, fun h => (by cases h), fun h => (by cases h), fun h => (by cases h), fun _ => ⟨hG, fun r hr => ?_⟩, Nat.le_refl _⟩⟩
    refine hp r ?_
    rw [hG]
    exact Runs.pend rfl hr
  | cons s G =>
    rw [hG] at hp hgf hgl
    rw [List.length_cons] at hgl
    have hd := drop_part (a := a) hT
    by_cases hp1 : s.pairs = true ∧ s.value = false
    · by_cases hp2 : s.keys = true ∧ Op.bytesLess s.last (Dr.part A a f.T.length) = false
      · have h1 : f.ended a = ({ f with m := 0, G := keyF s (f.T.drop a) :: G } : Fs).fault 9 a := by
          rw [Fs.ended, hG]
          show (if s.pairs = true ∧ s.value = false then (if s.keys = true ∧ Op.bytesLess s.last (f.T.drop a) = false then _ else _) else _) = _
          rw [if_pos hp1, if_pos (by rw [hd]; exact hp2)]
        rw [h1, close_bad _ _ (by show (9 : Int) ≠ 0; decide)]
        refine Good.bad (hp _ (Runs.pendNo ?_)) (by decide)
        show (if s.pairs = true ∧ s.value = false then (if s.keys = true ∧ Op.bytesLess s.last (Dr.part A a f.T.length) = false then _ else _) else _) = _
        rw [if_pos hp1, if_pos hp2]
      · have h1 : f.ended a = { f with m := 0, G := keyF s (f.T.drop a) :: G } := by
          rw [Fs.ended, hG]
          show (if s.pairs = true ∧ s.value = false then (if s.keys = true ∧ Op.bytesLess s.last (f.T.drop a) = false then _ else _) else _) = _
          rw [if_pos hp1, if_neg (by rw [hd]; exact hp2)]
        rw [h1]
        refine close_good _ _ (keyF s (f.T.drop a)) G (hgf.key _).top hli hgl hag rfl (by simp) he rfl hT hA hB (fun r hr => hp r (Runs.pend (s := .loop (keyF s (f.T.drop a) :: G) f.l f.T.length) ?_ hr))
        show (if s.pairs = true ∧ s.value = false then (if s.keys = true ∧ Op.bytesLess s.last (Dr.part A a f.T.length) = false then _ else _) else _) = _
        rw [if_pos hp1, if_neg hp2, hd]
        rfl
    · have h1 : f.ended a = { f with m := 0, G := otherF s :: G } := by
        rw [Fs.ended, hG]
        show (if s.pairs = true ∧ s.value = false then (if s.keys = true ∧ Op.bytesLess s.last (f.T.drop a) = false then _ else _) else _) = _
        rw [if_neg hp1]
      rw [h1]
      refine close_good _ _ (otherF s) G hgf.other hli hgl hag rfl (by simp) he rfl hT hA hB (fun r hr => hp r (Runs.pend (s := .loop (otherF s :: G) f.l f.T.length) ?_ hr))
      show (if s.pairs = true ∧ s.value = false then (if s.keys = true ∧ Op.bytesLess s.last (Dr.part A a f.T.length) = false then _ else _) else _) = _
      rw [if_neg hp1]
      rfl
/-- what the machine says of an item whose first byte is right -/
theorem El.els {f : Fs} {l : List Am} {t : UInt8} (h : El A L txt f l t) (hA : f.T.length ≤ A.length) (hB : f.T.length ≤ L.bytes) : has A L f.a = true ∧ elS A L txt f.G l f.a = match argR A L f.a with
    | .no e q b => .no e q b
    | .ok n =>
      if kindT t = 2 ∨ kindT t = 3 then
        (if n ≠ 0 ∧ has A L (f.a + 1 + widT t + n - 1) = false then lack A L
        else if kindT t = 3 ∧ txt (Dr.part A (f.a + 1 + widT t) (f.a + 1 + widT t + n)) = false then .no 9 f.a false
        else .ok (.pend f.G (l ++ [⟨kindT t, 0, Dr.part A (f.a + 1 + widT t) (f.a + 1 + widT t + n)⟩]) f.a (f.a + 1 + widT t + n)))
      else if holds (kindT t) = true then
        (if L.depth ≤ f.G.length then .no 10 f.a false
        else .ok (.loop (frN f.a (kindT t) n :: f.G) (l ++ [⟨kindT t, n, []⟩]) (f.a + 1 + widT t)))
      else .ok (.pend f.G (l ++ [⟨kindT t, n, []⟩]) f.a (f.a + 1 + widT t)) := by
  have hlt := h.lt
  have hh : has A L f.a = true := decide_eq_true ⟨by omega, by omega⟩
  refine ⟨hh, ?_⟩
  rw [elS, if_neg (by rw [hh]; decide), if_neg h.it, h.tg, if_neg (by rw [h.ok]; decide)]
  rfl
theorem El.lastK {f : Fs} {l : List Am} {t : UInt8} (h : El A L txt f l t) : f.lastK = kindT t := by
  rw [Fs.lastK, h.fl, getD_last _ _ _ _ (by simp)]
/-- a text's last byte was taken -/
theorem whole_good {f : Fs} {l : List Am} {t : UInt8} (hgf : Gf f.G (f.T.length - 1)) (hgl : f.G.length ≤ L.depth) (hag : f.arg < 18446744073709551616) (h : El A L txt f l t) (he : f.e = 0) (hT : f.T = A.take f.T.length) (hA : f.T.length ≤ A.length) (hB : f.T.length ≤ L.bytes) (hk : kindT t = 2 ∨ kindT t = 3) (hR : argR A L f.a = .ok f.arg) (hl : f.T.length = f.a + 1 + widT t + f.arg) : Good A L txt (f.whole txt) := by
  obtain ⟨hh, hE⟩ := h.els hA hB
  rw [hR] at hE
  dsimp only at hE
  have hlt := h.lt
  rw [if_pos hk, if_neg (by
    rintro ⟨h1, h2⟩
    have h3 : ¬ (f.a + 1 + widT t + f.arg - 1 < A.length ∧ f.a + 1 + widT t + f.arg - 1 < L.bytes) := of_decide_eq_false h2
    omega)] at hE
  have hd : f.T.drop (f.T.length - f.arg) = Dr.part A (f.a + 1 + widT t) (f.a + 1 + widT t + f.arg) := by
    rw [drop_part hT, ← hl]
    congr 1
    omega
  rw [Fs.whole, h.lastK, hd]
  by_cases hv : kindT t = 3 ∧ txt (Dr.part A (f.a + 1 + widT t) (f.a + 1 + widT t + f.arg)) = false
  · rw [if_pos hv]
    rw [if_pos hv] at hE
    exact Good.bad (h.rc _ (Runs.elNo hE)) (by decide)
  · rw [if_neg hv]
    rw [if_neg hv] at hE
    have hx : f.texted.l = l ++ [⟨kindT t, 0, Dr.part A (f.a + 1 + widT t) (f.a + 1 + widT t + f.arg)⟩] := by
      rw [Fs.texted, hd]
      show List.modify f.l _ _ = _
      rw [h.fl, mod_last _ _ _ _ (by simp)]
    refine ended_good f.texted f.a hgf (by rw [hx, List.length_append, List.length_singleton]; have := h.it; omega) hgl hag he hT hA hB (fun r hr => h.rc r (Runs.el hE ?_))
    rw [hx, show f.texted.T.length = f.a + 1 + widT t + f.arg from hl] at hr
    exact hr
theorem headed_good {f : Fs} {l : List Am} {t : UInt8} (hgf : Gf f.G (f.T.length - 1)) (hgl : f.G.length ≤ L.depth) (hag : f.arg < 18446744073709551616) (h : El A L txt f l t) (he : f.e = 0) (hT : f.T = A.take f.T.length) (hA : f.T.length ≤ A.length) (hB : f.T.length ≤ L.bytes) (hl : f.T.length = f.a + 1 + widT t) (hR : argR A L f.a = if short f.wd f.arg = true then .ok f.arg else .no 9 f.a false) : Good A L txt (f.headed txt L) := by
  obtain ⟨hh, hE⟩ := h.els hA hB
  rw [hR] at hE
  rw [Fs.headed, h.lastK]
  by_cases hs : short f.wd f.arg = false
  · rw [if_pos hs]
    rw [if_neg (by rw [hs]; decide)] at hE
    exact Good.bad (h.rc _ (Runs.elNo hE)) (by decide)
  rw [if_neg hs]
  have hs : short f.wd f.arg = true := by simpa using hs
  rw [if_pos hs] at hE hR
  dsimp only at hE
  by_cases h1 : kindT t = 2 ∨ kindT t = 3
  · rw [if_pos h1]
    by_cases h2 : f.arg = 0
    · rw [if_pos h2]
      exact whole_good (f := { f with left := f.arg, m := 2 }) (l := l) (t := t) hgf hgl hag ⟨h.rc, h.fl, h.tg, h.lt, h.it, h.ok, h.wd⟩ he hT hA hB h1 hR (by show f.T.length = f.a + 1 + widT t + f.arg; omega)
    · rw [if_neg h2]
      exact ⟨fun h9 => absurd he h9, fun _ => ⟨hgf, (by show f.l.length ≤ _; rw [h.fl, List.length_append, List.length_singleton]; have := h.it; omega), hgl, hag, hT, hA, hB, fun h => (by cases h), fun h => (by cases h), fun _ => ⟨l, t, ⟨h.rc, h.fl, h.tg, h.lt, h.it, h.ok, h.wd⟩, h1, hR, by show f.T.length + f.arg = f.a + 1 + widT t + f.arg; omega, by show 0 < f.arg; omega, by show f.a + 1 + widT t ≤ f.T.length; omega⟩, fun h => (by cases h), Nat.succ_le_succ (Nat.succ_le_succ (Nat.zero_le _))⟩⟩
  rw [if_neg h1]
  rw [if_neg h1] at hE
  have hx : f.numbered.l = l ++ [⟨kindT t, f.arg, []⟩] := by
    rw [Fs.numbered]
    show List.modify f.l _ _ = _
    rw [h.fl, mod_last _ _ _ _ (by simp)]
  by_cases h2 : holds (kindT t) = true
  · rw [if_pos h2]
    rw [if_pos h2] at hE
    by_cases h3 : L.depth ≤ f.G.length
    · rw [if_pos h3]
      rw [if_pos h3] at hE
      exact Good.bad (h.rc _ (Runs.elNo hE)) (by decide)
    · rw [if_neg h3]
      rw [if_neg h3] at hE
      refine close_good _ { f.numbered with G := frN f.a (kindT t) f.arg :: f.G, m := 0 } (frN f.a (kindT t) f.arg) f.G ⟨fun s hs => ?_, fun s hs => (hgf s hs).1⟩ (by show f.numbered.l.length ≤ _; rw [hx, List.length_append, List.length_singleton]; have := h.it; omega) (by omega) hag rfl (by simp) he rfl hT hA hB (fun r hr => h.rc r (Runs.el hE ?_))
      · rcases List.mem_cons.1 hs with rfl | hs
        · refine ⟨?_, by show f.a ≤ f.T.length - 1; have := h.lt; omega⟩
          show (if kindT t = 6 then 1 else f.arg) < _
          split <;> omega
        · exact (hgf s hs).2
      · have hr : Runs A L txt Op.bytesLess (.loop (frN f.a (kindT t) f.arg :: f.G) f.numbered.l f.T.length) r := hr
        rw [hx, hl] at hr
        exact hr
  · rw [if_neg h2]
    rw [if_neg h2] at hE
    refine ended_good f.numbered f.a hgf (by rw [hx, List.length_append, List.length_singleton]; have := h.it; omega) hgl hag he hT hA hB (fun r hr => h.rc r (Runs.el hE ?_))
    have hr : Runs A L txt Op.bytesLess (.pend f.G f.numbered.l f.a f.T.length) r := hr
    rw [hx, hl] at hr
    exact hr
theorem argB_no (q : Nat) {i p : Nat} {c : Int} {b : Bool} (h : argB A L q i = .no c p b) : ∀ j, argB A L q (i + j) = .no c p b
  | 0 => h
  | j + 1 => by rw [show i + (j + 1) = (i + j) + 1 by omega, argB, argB_no q h j]
theorem argB_lack (q : Nat) {i n : Nat} (h : argB A L q i = .ok n) (hh : has A L (q + i + 1) = false) : ∀ j, argB A L q (i + 1 + j) = lack A L := by
  have h1 : argB A L q (i + 1) = lack A L := by rw [argB, h]; dsimp only; rw [hh]; rfl
  intro j
  exact argB_no q h1 j
theorem snoc_take {p : Nat} (h : p < A.length) : A.take p ++ [A.getD p 0] = A.take (p + 1) := by
  rw [List.take_add_one, List.getElem?_eq_getElem h, List.getD, List.getElem?_eq_getElem h]; rfl
/-- a feed that took one byte more -/
def more (f : Fs) (A : List UInt8) : Fs := { f with T := f.T ++ [A.getD f.T.length 0] }
theorem more_len (f : Fs) (A : List UInt8) : (more f A).T.length = f.T.length + 1 := by rw [more]; simp
theorem more_tx {f : Fs} (hT : f.T = A.take f.T.length) (h : f.T.length < A.length) : (more f A).T = A.take (more f A).T.length := by
  rw [more_len]
  show f.T ++ [A.getD f.T.length 0] = _
  rw [← snoc_take h, ← hT]
theorem El.more {f : Fs} {l : List Am} {t : UInt8} (h : El A L txt f l t) : El A L txt (Cf.more f A) l t := ⟨h.rc, h.fl, h.tg, by rw [more_len]; exact Nat.lt_succ_of_lt h.lt, h.it, h.ok, h.wd⟩
theorem argB_lt (q : Nat) : ∀ (i n : Nat), argB A L q i = .ok n → n < 256 ^ i
  | 0, n, hn => by cases hn; decide
  | i + 1, n, hn => by
    rw [argB] at hn
    cases hB : argB A L q i with
    | no e p b => rw [hB] at hn; cases hn
    | ok m =>
      rw [hB] at hn
      dsimp only at hn
      split at hn
      · cases hn
        have h1 := argB_lt q i m hB
        have h2 : at0S A (q + i + 1) < 256 := (A.getD (q + i + 1) 0).toNat_lt
        rw [Nat.pow_succ]
        omega
      · rw [lack] at hn; cases hn
theorem wid_le {t : UInt8} (h : headE t = 0) : widT t ≤ 8 := by
  rw [headE] at h
  rw [widT]
  split
  · omega
  · have h1 : infT t ≤ 27 := by
      by_cases h2 : 27 < infT t
      · rw [if_pos h2] at h; cases h
      · omega
    have h2 : 2 ^ (infT t - 24) ≤ 2 ^ 3 := Nat.pow_le_pow_right (by decide) (by omega)
    omega
theorem step_good (f : Fs) (he : f.e = 0) (h : Inv A L txt f) (h1 : f.T.length < A.length) (h2 : f.T.length < L.bytes) : Good A L txt (f.step txt L (A.getD f.T.length 0)) := by
  obtain ⟨p, hp⟩ : ∃ p, f.T.length = p := ⟨_, rfl⟩
  obtain ⟨b, hb⟩ : ∃ b, A.getD f.T.length 0 = b := ⟨_, rfl⟩
  have hT := more_tx h.tx h1
  have hlen := more_len f A
  have hA : (more f A).T.length ≤ A.length := by rw [hlen]; omega
  have hB : (more f A).T.length ≤ L.bytes := by rw [hlen]; omega
  have hst : f.step txt L (A.getD f.T.length 0) = Fs.go txt L (more f A) b := by rw [Fs.step, hb, more, hb]
  have hhas : has A L p = true := decide_eq_true ⟨by omega, by omega⟩
  rw [hst, Fs.go]
  have hm := h.mm
  have hgf : Gf (more f A).G ((more f A).T.length - 1) := h.gd.mono (by rw [hlen]; omega)
  have hgl : (more f A).G.length ≤ L.depth := h.gl
  by_cases m0 : f.m = 0
  · rw [if_pos (show (more f A).m = 0 from m0)]
    have hR := h.m0 m0
    have hel : elS A L txt f.G f.l p = elS A L txt f.G f.l p := rfl
    conv at hel => rhs; rw [elS]
    rw [hp] at hR
    rw [hhas, if_neg (by decide), ← hp, hb, hp] at hel
    rw [Fs.head, hlen, hp, Nat.add_sub_cancel]
    by_cases q1 : L.items ≤ (more f A).l.length
    · rw [if_pos q1]
      rw [if_pos (show L.items ≤ f.l.length from q1)] at hel
      exact Good.bad (hR _ (Runs.elNo hel)) (by decide)
    rw [if_neg q1]
    rw [if_neg (show ¬ L.items ≤ f.l.length from q1)] at hel
    by_cases q2 : headE b ≠ 0
    · rw [if_pos q2]
      rw [if_pos q2] at hel
      exact Good.bad (hR _ (Runs.elNo hel)) q2
    rw [if_neg q2]
    have hq2 : headE b = 0 := Decidable.byContradiction q2
    have ha : ((more f A).begun b).a = p := by show (more f A).T.length - 1 = p; rw [hlen]; omega
    have hE : ∀ n, El A L txt ({ (more f A).begun b with arg := n }) f.l b := fun n => ⟨by show Reach A L txt (.el f.G f.l ((more f A).begun b).a); rw [ha]; exact hR, rfl, by show A.getD ((more f A).begun b).a 0 = b; rw [ha, ← hp]; exact hb, by show ((more f A).begun b).a < (more f A).T.length; rw [ha, hlen]; omega, q1, hq2, rfl⟩
    by_cases q3 : widT b = 0
    · rw [if_pos q3]
      refine headed_good hgf hgl (by show infT b < _; rw [infT]; omega) (hE (infT b)) he hT hA hB ?_ ?_
      · show (more f A).T.length = ((more f A).begun b).a + 1 + widT b
        rw [hlen, ha, q3, hp]
      · show argR A L ((more f A).begun b).a = if short (widT b) (infT b) = true then .ok (infT b) else .no 9 _ false
        rw [ha, q3, if_pos (by rfl), argR, ← hp, hb, q3]
        rfl
    · rw [if_neg q3]
      refine ⟨fun h9 => absurd he h9, fun _ => ⟨hgf, (by show (f.l ++ [_]).length ≤ _; rw [List.length_append, List.length_singleton]; have : ¬ L.items ≤ f.l.length := q1; omega), hgl, (by show 0 < _; decide), hT, hA, hB, fun h => (by cases h), fun _ => ⟨f.l, b, hE 0, 0, ?_, ?_, ?_, rfl⟩, fun h => (by cases h), fun h => (by cases h), Nat.succ_le_succ (Nat.zero_le _)⟩⟩
      · show (more f A).T.length = ((more f A).begun b).a + 1 + 0
        rw [hlen, ha, hp]
      · show 0 + widT b = widT b; omega
      · show 0 < widT b; omega
  rw [if_neg (show ¬ (more f A).m = 0 from m0)]
  by_cases m1 : f.m = 1
  · rw [if_pos (show (more f A).m = 1 from m1)]
    obtain ⟨l, t, hE, i, x1, x2, x3, x4⟩ := h.m1 m1
    have hEm := hE.more
    have hpi : f.a + i + 1 = p := by omega
    have hbi : at0S A (f.a + i + 1) = b.toNat := by rw [at0S, hpi, ← hp, hb]
    have hab : argB A L f.a (i + 1) = .ok (256 * f.arg + b.toNat) := by
      rw [argB, x4]
      dsimp only
      rw [hpi, hhas, if_pos rfl, ← hpi, hbi]
    have hag : 256 * f.arg + b.toNat < 18446744073709551616 := by
      have h5 := argB_lt f.a (i + 1) _ hab
      have h6 := wid_le hE.ok
      have h7 : 256 ^ (i + 1) ≤ 256 ^ 8 := Nat.pow_le_pow_right (by decide) (by omega)
      exact Nat.lt_of_lt_of_le h5 h7
    rw [Fs.argd, show (more f A).arg = f.arg from rfl, show (more f A).left = f.left from rfl]
    by_cases q1 : f.left - 1 = 0
    · rw [if_pos q1]
      have hw : widT t = i + 1 := by omega
      refine headed_good (f := { more f A with arg := 256 * f.arg + b.toNat, left := f.left - 1 }) (l := l) (t := t) hgf hgl hag ⟨hEm.rc, hEm.fl, hEm.tg, hEm.lt, hEm.it, hEm.ok, hEm.wd⟩ he hT hA hB ?_ ?_
      · show (more f A).T.length = f.a + 1 + widT t
        rw [hlen, x1]; omega
      · show argR A L f.a = if short f.wd (256 * f.arg + b.toNat) = true then .ok (256 * f.arg + b.toNat) else .no 9 f.a false
        rw [argR, hE.tg, hw, hab]
        dsimp only
        rw [if_neg (Nat.succ_ne_zero i), hE.wd, hw]
    · rw [if_neg q1]
      refine ⟨fun h9 => absurd he h9, fun _ => ⟨hgf, h.li, hgl, hag, hT, hA, hB, fun h => absurd h m0, fun _ => ⟨l, t, ⟨hEm.rc, hEm.fl, hEm.tg, hEm.lt, hEm.it, hEm.ok, hEm.wd⟩, i + 1, ?_, ?_, ?_, hab⟩, fun h => absurd (m1.symm.trans h) (by decide), fun h => absurd (m1.symm.trans h) (by decide), hm⟩⟩
      · show (more f A).T.length = f.a + 1 + (i + 1); rw [hlen, x1]; omega
      · show i + 1 + (f.left - 1) = widT t; omega
      · show 0 < f.left - 1; omega
  rw [if_neg (show ¬ (more f A).m = 1 from m1)]
  by_cases m2 : f.m = 2
  · rw [if_pos (show (more f A).m = 2 from m2)]
    obtain ⟨l, t, hE, x0, x1, x2, x3, x4⟩ := h.m2 m2
    have hEm := hE.more
    rw [Fs.body, show (more f A).left = f.left from rfl]
    by_cases q1 : f.left - 1 = 0
    · rw [if_pos q1]
      exact whole_good (f := { more f A with left := f.left - 1 }) (l := l) (t := t) hgf hgl h.ag ⟨hEm.rc, hEm.fl, hEm.tg, hEm.lt, hEm.it, hEm.ok, hEm.wd⟩ he hT hA hB x0 x1 (by show (more f A).T.length = f.a + 1 + widT t + f.arg; rw [hlen]; omega)
    · rw [if_neg q1]
      exact ⟨fun h9 => absurd he h9, fun _ => ⟨hgf, h.li, hgl, h.ag, hT, hA, hB, fun h => absurd h m0, fun h => absurd h m1, fun _ => ⟨l, t, ⟨hEm.rc, hEm.fl, hEm.tg, hEm.lt, hEm.it, hEm.ok, hEm.wd⟩, x0, x1, by show (more f A).T.length + (f.left - 1) = f.a + 1 + widT t + f.arg; rw [hlen]; omega, by show 0 < f.left - 1; omega, by show f.a + 1 + widT t ≤ (more f A).T.length; rw [hlen]; omega⟩, fun h => absurd (m2.symm.trans h) (by decide), hm⟩⟩
  rw [if_neg (show ¬ (more f A).m = 2 from m2)]
  obtain ⟨hG, hR⟩ := h.m3 (by omega)
  rw [Fs.rest, hlen, Nat.add_sub_cancel]
  refine Good.bad (hR _ ?_) (by decide)
  have hf : fin A L f.l f.T.length = .no 9 f.T.length false := by rw [fin, if_pos h1, hp, hhas, if_pos rfl]
  rw [← hf]
  exact Runs.fin
/-- what an unfinished feed comes to where the text ends, or the bytes that may be -/
theorem inv_lack {f : Fs} (h : Inv A L txt f) (hh : has A L f.T.length = false) (hm : f.m ≠ 3) : Runs A L txt Op.bytesLess (.el [] [] 0) (lack A L) := by
  have lk : ∀ {G : List Fr} {l : List Am} {q : Nat}, Reach A L txt (.el G l q) → elS A L txt G l q = lack A L → Runs A L txt Op.bytesLess (.el [] [] 0) (lack A L) := fun hR hE => hR _ (Runs.elNo hE)
  have hmm := h.mm
  have hle := h.le
  have hlb := h.lb
  by_cases m0 : f.m = 0
  · exact lk (h.m0 m0) (by rw [elS, if_pos hh])
  by_cases m1 : f.m = 1
  · obtain ⟨l, t, hE, i, x1, x2, x3, x4⟩ := h.m1 m1
    obtain ⟨-, hE2⟩ := hE.els hle hlb
    refine lk hE.rc ?_
    have h9 := argB_lack f.a x4 (by rw [show f.a + i + 1 = f.T.length by omega]; exact hh) (f.left - 1)
    rw [hE2, argR, hE.tg, show widT t = i + 1 + (f.left - 1) by omega, h9]
    rfl
  by_cases m2 : f.m = 2
  · obtain ⟨l, t, hE, x0, x1, x2, x3, x4⟩ := h.m2 m2
    obtain ⟨-, hE2⟩ := hE.els hle hlb
    refine lk hE.rc ?_
    have hno : has A L (f.a + 1 + widT t + f.arg - 1) = false := by
      have h9 : ¬ (f.T.length < A.length ∧ f.T.length < L.bytes) := of_decide_eq_false hh
      exact decide_eq_false (fun h8 => h9 ⟨by omega, by omega⟩)
    rw [hE2, x1]
    dsimp only
    rw [if_pos x0, if_pos ⟨by omega, hno⟩]
  exact absurd (by omega) hm
theorem inv_fin {f : Fs} (h : Inv A L txt f) (hm : f.m = 3) : Runs A L txt Op.bytesLess (.el [] [] 0) (fin A L f.l f.T.length) := (h.m3 hm).2 _ Runs.fin
theorem inv_f0 : Inv A L txt f0 := ⟨(fun t ht => absurd ht List.not_mem_nil), Nat.zero_le _, Nat.zero_le _, by decide, rfl, Nat.zero_le _, Nat.zero_le _, fun _ r h => h, fun h => (by cases h), fun h => (by cases h), fun h => (by cases h), Nat.zero_le _⟩
theorem take_good (f : Fs) (he : f.e = 0) (h : Inv A L txt f) (h1 : f.T.length < A.length) : Good A L txt (f.take txt L (A.getD f.T.length 0)) := by
  rw [Fs.take, if_neg (fun h => h he)]
  by_cases h2 : L.bytes ≤ f.T.length
  · rw [if_pos h2]
    have hh : has A L f.T.length = false := decide_eq_false (fun h8 => by omega)
    have hl : (lack A L : Rs (List Am)) = .no 10 L.bytes false := by
      have hlt : L.bytes < A.length := by omega
      rw [lack, Dr.lackE, Dr.lackP, if_pos hlt, if_pos hlt, decide_eq_false (by omega)]
    refine Good.bad ?_ (by decide)
    by_cases hm : f.m = 3
    · have h9 := inv_fin h hm
      rw [fin, if_pos h1, hh, if_neg (by decide), hl] at h9
      exact h9
    · have h9 := inv_lack h hh hm
      rw [hl] at h9
      exact h9
  · rw [if_neg h2]
    exact step_good f he h h1 (by omega)
end
end Cf
end Go.Proofs.YteanipjgpekncaaDoor
