/- Joined by merge.py: FdP FdQ. -/
import Derived.Test.YteglahkgnggmgaaDoorDrQ
namespace Go.Proofs.YteglahkgnggmgaaDoor
open Go.RowKit
set_option linter.unusedVariables false
set_option linter.unusedSimpArgs false
open Dr
namespace Fd
structure Fg where
  node : Nat
  p0 : Nat
  e : Nat
  la : Nat
  le : Nat
/-- a feed: m is what comes next: a tag, a length's first byte, its next one, a body's, nothing -/
structure Fs where
  T : List UInt8
  l : List Nd
  G : List Fg
  m : Nat
  a : Nat
  left : Nat
  len : Nat
  st : Nat
  en : Nat
  e : Int
  pl : Nat
def Fs.fault (f : Fs) (e : Int) (p : Nat) : Fs := { f with e := e, pl := p }
def Fs.ended (f : Fs) (a : Nat) : Fs :=
  match f.G with
  | [] => { f with m := 4 }
  | t :: G =>
    if (f.l.getD t.node ⟨0, 0, []⟩).tag = 0x31 ∧ 0 < (f.l.getD t.node ⟨0, 0, []⟩).kids ∧ Op.bytesLess (f.T.drop a) (Dr.part f.T t.la t.le) = true then f.fault 9 a
    else { f with G := { t with la := a, le := f.T.length } :: G, l := f.l.modify t.node (fun n => { n with kids := n.kids + 1 }), m := 0 }
def Fs.close : Nat → Fs → Fs
  | 0, f => f
  | k + 1, f =>
    match f.G with
    | [] => f
    | t :: G => if f.e = 0 ∧ t.e = f.T.length then Fs.close k (({ f with G := G } : Fs).ended t.p0) else f
def Fs.tagL (f : Fs) : UInt8 := (f.l.getD (f.l.length - 1) ⟨0, 0, []⟩).tag
def Fs.whole (f : Fs) : Fs :=
  if bodyOk f.tagL (f.T.drop f.st) = false then ({ f with l := f.l.modify (f.l.length - 1) (fun n => { n with body := f.T.drop f.st }) } : Fs).fault 9 f.a
  else Fs.close f.G.length (({ f with l := f.l.modify (f.l.length - 1) (fun n => { n with body := f.T.drop f.st }) } : Fs).ended f.a)
def Fs.measured (f : Fs) (n : Nat) : Fs :=
  if (f.G.head?.any fun t => decide (t.e < f.T.length + n)) = true then ({ f with st := f.T.length, en := f.T.length + n } : Fs).fault 9 f.a
  else if within f.tagL = true then Fs.close (f.G.length + 1) { f with st := f.T.length, en := f.T.length + n, l := f.l.modify (f.l.length - 1) (fun n => { n with kids := 0 }), G := ⟨f.l.length - 1, f.a, f.T.length + n, 0, 0⟩ :: f.G, m := 0 }
  else if n = 0 then ({ f with st := f.T.length, en := f.T.length + n, m := 3 } : Fs).whole else { f with st := f.T.length, en := f.T.length + n, m := 3 }
def Fs.first (f : Fs) (b : UInt8) : Fs :=
  if b.toNat < 128 then f.measured b.toNat else if b.toNat = 128 ∨ 132 < b.toNat then f.fault 9 (f.T.length - 1) else { f with left := b.toNat - 128, len := 0, m := 2 }
def Fs.next (f : Fs) (b : UInt8) : Fs :=
  if 256 * f.len + b.toNat = 0 ∨ f.left - 1 = 0 ∧ 256 * f.len + b.toNat < 128 then ({ f with len := 256 * f.len + b.toNat, left := f.left - 1 } : Fs).fault 9 (f.T.length - 1)
  else if f.left - 1 = 0 then ({ f with len := 256 * f.len + b.toNat, left := f.left - 1 } : Fs).measured (256 * f.len + b.toNat)
  else { f with len := 256 * f.len + b.toNat, left := f.left - 1 }
def Fs.tag (L : Lm) (f : Fs) (b : UInt8) : Fs :=
  if L.items ≤ f.l.length then ({ f with a := f.T.length - 1 } : Fs).fault 10 (f.T.length - 1)
  else if tagE b ≠ 0 then ({ f with a := f.T.length - 1 } : Fs).fault (tagE b) (f.T.length - 1)
  else if within b = true ∧ L.depth ≤ f.G.length then ({ f with a := f.T.length - 1 } : Fs).fault 10 (f.T.length - 1)
  else { f with a := f.T.length - 1, l := f.l ++ [⟨b, -1, []⟩], m := 1 }
def Fs.body (f : Fs) : Fs := if f.T.length = f.en then f.whole else f
def Fs.rest (f : Fs) : Fs := f.fault 9 (f.T.length - 1)
def Fs.go (L : Lm) (f : Fs) (b : UInt8) : Fs :=
  if f.m = 0 then f.tag L b else if f.m = 1 then f.first b else if f.m = 2 then f.next b else if f.m = 3 then f.body else f.rest
def Fs.step (L : Lm) (f : Fs) (b : UInt8) : Fs := Fs.go L { f with T := f.T ++ [b] } b
def Fs.take (L : Lm) (f : Fs) (b : UInt8) : Fs :=
  if f.e ≠ 0 then f else if L.bytes ≤ f.T.length then f.fault 10 L.bytes else f.step L b
def Fs.feed (L : Lm) (f : Fs) (S : List UInt8) : Fs := S.foldl (Fs.take L) f
def f0 : Fs := ⟨[], [], [], 0, 0, 0, 0, 0, 0, 0, 0⟩
theorem feed_append (L : Lm) (f : Fs) (S R : List UInt8) : f.feed L (S ++ R) = (f.feed L S).feed L R := List.foldl_append
theorem take_bad (L : Lm) (f : Fs) (b : UInt8) (h : f.e ≠ 0) : f.take L b = f := by rw [Fs.take, if_pos h]
theorem feed_bad (L : Lm) (f : Fs) (S : List UInt8) (h : f.e ≠ 0) : f.feed L S = f := by
  induction S with
  | nil => rfl
  | cons b S ih => rw [Fs.feed, List.foldl_cons, take_bad L f b h]; exact ih
/-! nodes whose elements are told as they end -/
def paint (M : List Fr) (l : List Nd) : List Nd := M.foldl (fun l r => l.modify r.node (fun n => { n with kids := (r.kids : Int) })) l
theorem paint_length : ∀ (M : List Fr) (l : List Nd), (paint M l).length = l.length
  | [], l => rfl
  | r :: M, l => by rw [paint, List.foldl_cons]; exact (paint_length M _).trans (List.length_modify ..)
theorem mod_comm (X : List Nd) (i j : Nat) (g h : Nd → Nd) (hij : i ≠ j) : (X.modify i g).modify j h = (X.modify j h).modify i g := by
  apply List.ext_getElem?
  intro k
  simp only [List.getElem?_modify]
  by_cases h1 : i = k <;> by_cases h2 : j = k
  · omega
  · simp [h1, h2]
  · simp [h1, h2]
  · simp [h1, h2]
theorem paint_comm : ∀ (M : List Fr) (X : List Nd) (i : Nat) (g : Nd → Nd), (∀ r ∈ M, r.node ≠ i) → (paint M X).modify i g = paint M (X.modify i g)
  | [], X, i, g, _ => rfl
  | r :: M, X, i, g, h => by
    show (paint M _).modify i g = paint M _
    rw [paint_comm M _ i g (fun r hr => h r (List.mem_cons_of_mem _ hr)), mod_comm X r.node i _ g (h r (List.mem_cons_self ..))]
theorem mod_app (X Y : List Nd) (i : Nat) (g : Nd → Nd) (h : i < X.length) : (X ++ Y).modify i g = X.modify i g ++ Y := by
  apply List.ext_getElem?
  intro k
  by_cases hk : k < X.length
  · rw [List.getElem?_modify, List.getElem?_append_left hk, List.getElem?_append_left (by rw [List.length_modify]; exact hk), List.getElem?_modify]
  · rw [List.getElem?_modify, List.getElem?_append_right (by omega), List.getElem?_append_right (by rw [List.length_modify]; omega), List.length_modify]
    have h9 : ¬ i = k := by omega
    simp [h9]
theorem paint_app : ∀ (M : List Fr) (X Y : List Nd), (∀ r ∈ M, r.node < X.length) → paint M (X ++ Y) = paint M X ++ Y
  | [], X, Y, _ => rfl
  | r :: M, X, Y, h => by
    show paint M ((X ++ Y).modify r.node (fun n => { n with kids := (r.kids : Int) })) = paint M (X.modify r.node (fun n => { n with kids := (r.kids : Int) })) ++ Y
    rw [mod_app X Y r.node _ (h r (List.mem_cons_self ..))]
    exact paint_app M _ Y (fun r hr => by rw [List.length_modify]; exact h r (List.mem_cons_of_mem _ hr))
theorem mod_last (X : List Nd) (x : Nd) (g : Nd → Nd) (n : Nat) (hn : n = X.length) : (X ++ [x]).modify n g = X ++ [g x] := by
  subst hn
  apply List.ext_getElem?
  intro k
  by_cases hk : k < X.length
  · rw [List.getElem?_modify, List.getElem?_append_left hk, List.getElem?_append_left hk]
    have h9 : ¬ X.length = k := by omega
    simp [h9]
  · rw [List.getElem?_modify, List.getElem?_append_right (by omega), List.getElem?_append_right (by omega)]
    by_cases h2 : X.length = k
    · subst h2; simp
    · have : ∃ j, k - X.length = j + 1 := ⟨k - X.length - 1, by omega⟩
      obtain ⟨j, hj⟩ := this
      rw [hj]; simp [h2]
theorem getD_last (X : List Nd) (x d : Nd) (n : Nat) (hn : n = X.length) : (X ++ [x]).getD n d = x := by subst hn; simp [List.getD]
theorem getD_mod (X : List Nd) (i : Nat) (g : Nd → Nd) (d : Nd) (h : i < X.length) : (X.modify i g).getD i d = g (X.getD i d) := by
  rw [List.getD, List.getD, List.getElem?_modify, List.getElem?_eq_getElem h]; simp
theorem getD_mod_ne (X : List Nd) (i j : Nat) (g : Nd → Nd) (d : Nd) (h : i ≠ j) : (X.modify i g).getD j d = X.getD j d := by
  rw [List.getD, List.getD, List.getElem?_modify]; simp [h]
/-- a feed's elements that are begun, and those of reading at once -/
def Lk (A : List UInt8) (fl : List Nd) : List Fg → List Fr → Nat → Nat → Nat → Prop
  | [], [], _, _, _ => True
  | t :: G, r :: M, b, p, n => (t.node = r.node ∧ t.p0 = r.p0 ∧ t.e = r.e) ∧ (b ≤ r.e ∧ r.p0 < p ∧ r.kids ≤ p ∧ r.node < n) ∧
      ((fl.getD r.node ⟨0, 0, []⟩).tag = r.tag ∧ (fl.getD r.node ⟨0, 0, []⟩).kids = (r.kids : Int)) ∧
      (t.la ≤ t.le ∧ t.le ≤ p ∧ (0 < r.kids → r.last = Dr.part A t.la t.le)) ∧ Lk A fl G M r.e r.p0 r.node
  | [], _ :: _, _, _, _ => False
  | _ :: _, [], _, _, _ => False
theorem Lk.len {A : List UInt8} {fl : List Nd} : ∀ {G : List Fg} {M : List Fr} {b p n : Nat}, Lk A fl G M b p n → G.length = M.length
  | [], [], _, _, _, _ => rfl
  | t :: G, r :: M, _, _, _, h => by rw [List.length_cons, List.length_cons, Lk.len h.2.2.2.2]
  | [], _ :: _, _, _, _, h => h.elim
  | _ :: _, [], _, _, _, h => h.elim
theorem Lk.re {A : List UInt8} {fl : List Nd} {G : List Fg} {M : List Fr} {b p n : Nat} (h : Lk A fl G M b p n) {b' p' n' : Nat} (hb : ∀ t G', G = t :: G' → b' ≤ t.e) (hp : p ≤ p') (hn : n ≤ n') : Lk A fl G M b' p' n' := by
  cases G with
  | nil => cases M with
    | nil => trivial
    | cons => exact h.elim
  | cons t G => cases M with
    | nil => exact h.elim
    | cons r M =>
      obtain ⟨h1, h2, h3, h4, h5⟩ := h
      have h6 := hb t G rfl
      exact ⟨h1, ⟨by rw [← h1.2.2]; exact h6, by omega, by omega, by omega⟩, h3, ⟨h4.1, by omega, h4.2.2⟩, h5⟩
theorem Lk.list {A : List UInt8} {fl fl' : List Nd} : ∀ {G : List Fg} {M : List Fr} {b p n : Nat}, Lk A fl G M b p n → (∀ i, i < n → fl'.getD i ⟨0, 0, []⟩ = fl.getD i ⟨0, 0, []⟩) → Lk A fl' G M b p n
  | [], [], _, _, _, _, _ => trivial
  | t :: G, r :: M, _, _, n, h, hi => by
    obtain ⟨h1, h2, h3, h4, h5⟩ := h
    have h6 := hi r.node h2.2.2.2
    exact ⟨h1, h2, ⟨by rw [h6]; exact h3.1, by rw [h6]; exact h3.2⟩, h4, h5.list (fun i hi' => hi i (by omega))⟩
  | [], _ :: _, _, _, _, h, _ => h.elim
  | _ :: _, [], _, _, _, h, _ => h.elim
theorem Lk.lt {A : List UInt8} {fl : List Nd} : ∀ {G : List Fg} {M : List Fr} {b p n : Nat}, Lk A fl G M b p n → ∀ r ∈ M, r.node < n
  | [], [], _, _, _, _ => fun r hr => by cases hr
  | t :: G, r :: M, _, _, n, h => fun r' hr => by
    obtain ⟨h1, h2, h3, h4, h5⟩ := h
    rcases List.mem_cons.1 hr with rfl | hr
    · exact h2.2.2.2
    · have := h5.lt r' hr; omega
  | [], _ :: _, _, _, _, h => h.elim
  | _ :: _, [], _, _, _, h => h.elim
section
variable (A : List UInt8) (L : Lm)
def Reach (s : St) : Prop := ∀ r, RunsD A L s r → RunsD A L (.el [] [] 0) r
/-- what holds while an element's head or body is read -/
structure El (f : Fs) (M : List Fr) (l : List Nd) (t : UInt8) : Prop where
  rc : Reach A L (.el M l f.a)
  fl : f.l = paint M l ++ [⟨t, -1, []⟩]
  lk : Lk A (paint M l) f.G M f.a f.a l.length
  tg : A.getD f.a 0 = t
  lt : f.a < f.T.length
  it : ¬ L.items ≤ l.length
  ok : tagE t = 0
  dp : ¬ (within t = true ∧ L.depth ≤ M.length)
structure Inv (f : Fs) : Prop where
  tx : f.T = A.take f.T.length
  le : f.T.length ≤ A.length
  lb : f.T.length ≤ L.bytes
  m0 : f.m = 0 → ∃ M l, Reach A L (.el M l f.T.length) ∧ f.l = paint M l ∧ Lk A f.l f.G M f.T.length f.T.length l.length ∧ ∀ t G, f.G = t :: G → f.T.length < t.e
  m1 : f.m = 1 → ∃ M l t, El A L f M l t ∧ f.T.length = f.a + 1
  m2 : f.m = 2 → ∃ M l t, El A L f M l t ∧ ∃ i, 128 < at0S A (f.a + 1) ∧ at0S A (f.a + 1) ≤ 132 ∧ f.T.length = f.a + 2 + i ∧ i + f.left = at0S A (f.a + 1) - 128 ∧ 0 < f.left ∧ lenB A L (f.a + 1) i = .ok f.len ∧ (0 < i → 0 < f.len)
  m3 : f.m = 3 → ∃ M l t, El A L f M l t ∧ within t = false ∧ ∃ n, lenR A L (f.a + 1) = .ok (n, f.st) ∧ f.en = f.st + n ∧ f.st ≤ f.T.length ∧ f.T.length < f.en ∧ ∀ t G, f.G = t :: G → f.en ≤ t.e
  m4 : f.m = 4 → f.G = [] ∧ Reach A L (.loop [] f.l f.T.length)
  mm : f.m ≤ 4
def Good (f : Fs) : Prop := (f.e ≠ 0 → RunsD A L (.el [] [] 0) (.no f.e f.pl false)) ∧ (f.e = 0 → Inv A L f)
variable {A L}
theorem Good.bad {f : Fs} {e : Int} {p : Nat} (h : RunsD A L (.el [] [] 0) (.no e p false)) (he : e ≠ 0) : Good A L (f.fault e p) := ⟨fun _ => h, fun h0 => absurd h0 he⟩
theorem close_bad (k : Nat) (f : Fs) (h : f.e ≠ 0) : Fs.close k f = f := by
  cases k with
  | zero => rfl
  | succ k =>
    rw [Fs.close]
    cases hG : f.G with
    | nil => rfl
    | cons t G => simp only [hG]; rw [if_neg (fun h2 => h h2.1)]
theorem drop_part {p a : Nat} {T : List UInt8} (hT : T = A.take p) (ha : a ≤ p) : T.drop a = Dr.part A a p := by rw [hT, Dr.part, List.drop_take]
theorem part_part {p a b : Nat} {T : List UInt8} (hT : T = A.take p) (hb : b ≤ p) : Dr.part T a b = Dr.part A a b := by
  rw [hT, Dr.part, Dr.part, List.drop_take, List.take_take, Nat.min_eq_left (by omega)]
theorem ended_good : ∀ (k : Nat) (f : Fs) (M : List Fr) (l : List Nd) (a p : Nat), f.G.length = k → f.e = 0 → f.T.length = p → f.T = A.take p → p ≤ A.length → p ≤ L.bytes → a < p → f.l = paint M l → Lk A f.l f.G M p a l.length → Reach A L (.pend M l a p) → Good A L (Fs.close k (f.ended a))
  | k, f, M, l, a, p, hk, he, hp, hT, hA, hB, ha, hl, hL, hR => by
    cases hG : f.G with
    | nil =>
      rw [hG] at hk hL
      subst hk
      cases M with
      | cons => exact hL.elim
      | nil =>
        have h1 : f.ended a = { f with m := 4 } := by rw [Fs.ended, hG]
        rw [List.length_nil, Fs.close, h1]
        refine ⟨fun h => absurd he h, fun _ => ⟨by rw [hp]; exact hT, by rw [hp]; exact hA, by rw [hp]; exact hB, fun h => (by cases h), fun h => (by cases h), fun h => (by cases h), fun h => (by cases h), fun _ => ⟨hG, ?_⟩, Nat.le_refl _⟩⟩
        intro r hr
        rw [hp] at hr
        refine hR r (Runs.pend (s := .loop [] l p) rfl ?_)
        rw [hl] at hr
        exact hr
    | cons t G =>
      rw [hG] at hk hL
      cases M with
      | nil => exact hL.elim
      | cons r M =>
        obtain ⟨⟨h1, h1b, h1c⟩, ⟨h2, h2b, h2c, h2d⟩, ⟨h3, h3b⟩, ⟨h4, h4b, h4c⟩, h5⟩ := hL
        have hfl : f.l.length = l.length := by rw [hl, paint_length]
        have hkk : k = G.length + 1 := by rw [← hk, List.length_cons]
        have hen : f.ended a = if r.tag = 0x31 ∧ 0 < r.kids ∧ Op.bytesLess (Dr.part A a p) r.last = true then f.fault 9 a else { f with G := { t with la := a, le := p } :: G, l := f.l.modify t.node (fun n => { n with kids := n.kids + 1 }), m := 0 } := by
          rw [Fs.ended, hG]
          simp only [h1, h3, h3b, hp]
          rw [drop_part hT (Nat.le_of_lt ha), part_part hT (by omega)]
          by_cases hk0 : 0 < r.kids
          · rw [h4c hk0]
            by_cases hq : r.tag = 49 ∧ 0 < r.kids ∧ Op.bytesLess (Dr.part A a p) (Dr.part A t.la t.le) = true
            · rw [if_pos hq, if_pos ⟨hq.1, by omega, hq.2.2⟩]
            · rw [if_neg hq, if_neg (fun h => hq ⟨h.1, hk0, h.2.2⟩)]
          · rw [if_neg (fun h => hk0 (by have := h.2.1; omega)), if_neg (fun h => hk0 h.2.1)]
        rw [hen]
        by_cases hq : r.tag = 0x31 ∧ 0 < r.kids ∧ Op.bytesLess (Dr.part A a p) r.last = true
        · rw [if_pos hq, close_bad _ _ (by show (9 : Int) ≠ 0; decide)]
          refine Good.bad (hR _ (Runs.pendNo ?_)) (by decide)
          rw [pendS, if_pos hq]
        · rw [if_neg hq, hkk, Fs.close]
          dsimp only
          have hpd : pendS A Op.bytesLess (r :: M) l a p = .ok (.loop ({ r with kids := r.kids + 1, last := Dr.part A a p } :: M) l p) := by rw [pendS, if_neg hq]
          have hR2 : Reach A L (.loop ({ r with kids := r.kids + 1, last := Dr.part A a p } :: M) l p) := fun x hx => hR x (Runs.pend hpd hx)
          have hpaint : f.l.modify t.node (fun n => { n with kids := n.kids + 1 }) = paint M (l.modify r.node (fun n => { n with kids := ((r.kids + 1 : Nat) : Int) })) := by
            rw [hl, h1]
            show (paint M (l.modify r.node (fun n => { n with kids := (r.kids : Int) }))).modify r.node (fun n => { n with kids := n.kids + 1 }) = _
            rw [paint_comm M _ _ _ (fun x hx => Nat.ne_of_lt (h5.lt x hx))]
            congr 1
            apply List.ext_getElem?
            intro i
            simp only [List.getElem?_modify]
            by_cases hi : r.node = i
            · subst hi
              cases l[r.node]? <;> simp
            · simp [hi]
          by_cases hlt : p < r.e
          · rw [if_neg (fun h => by have := h.2; omega)]
            refine ⟨fun h => absurd he h, fun _ => ⟨by dsimp only; rw [hp]; exact hT, by dsimp only; rw [hp]; exact hA, by dsimp only; rw [hp]; exact hB, fun _ => ?_, fun h => (by cases h), fun h => (by cases h), fun h => (by cases h), fun h => (by cases h), Nat.zero_le _⟩⟩
            dsimp only
            rw [hp]
            refine ⟨{ r with kids := r.kids + 1, last := Dr.part A a p } :: M, l, fun x hx => hR2 x (Runs.loop (by rw [loopS, if_pos hlt]; exact hx)), hpaint, ⟨⟨h1, h1b, h1c⟩, ⟨Nat.le_of_lt hlt, by show r.p0 < p; omega, by show r.kids + 1 ≤ p; omega, h2d⟩, ⟨?_, ?_⟩, ⟨Nat.le_of_lt ha, Nat.le_refl _, fun _ => rfl⟩, ?_⟩, fun t2 G2 h => ?_⟩
            · show ((f.l.modify t.node _).getD r.node _).tag = r.tag
              rw [h1, getD_mod _ _ _ _ (by rw [hfl]; exact h2d)]
              exact h3
            · show ((f.l.modify t.node _).getD r.node _).kids = ((r.kids + 1 : Nat) : Int)
              rw [h1, getD_mod _ _ _ _ (by rw [hfl]; exact h2d)]
              show (f.l.getD r.node _).kids + 1 = _
              rw [h3b]; rfl
            · refine h5.list (fun i hi => ?_)
              rw [getD_mod_ne _ _ _ _ _ (by rw [h1]; exact fun h => by have : i < r.node := hi; omega)]
            · injection h with h6 h7
              rw [← h6]
              show p < t.e
              omega
          · have hpe : p = r.e := by omega
            rw [if_pos ⟨he, by show t.e = f.T.length; omega⟩]
            have hlp : loopS { r with kids := r.kids + 1, last := Dr.part A a p } M l p = .pend M (l.modify r.node (fun n => { n with kids := ((r.kids + 1 : Nat) : Int) })) r.p0 p := by rw [loopS, if_neg hlt]
            refine ended_good G.length { f with G := G, l := f.l.modify t.node (fun n => { n with kids := n.kids + 1 }), m := 0 } M (l.modify r.node (fun n => { n with kids := ((r.kids + 1 : Nat) : Int) })) t.p0 p rfl he hp hT hA hB (by omega) hpaint ?_ (fun x hx => hR2 x (Runs.loop (by rw [hlp, ← h1b]; exact hx)))
            dsimp only
            rw [List.length_modify, h1b, hpe]
            refine (h5.list (fun i hi => ?_)).re (fun t2 G2 h => ?_) (Nat.le_refl _) (Nat.le_of_lt h2d)
            · rw [getD_mod_ne _ _ _ _ _ (by rw [h1]; exact fun h => by omega)]
            · cases M with
              | nil => rw [h] at h5; exact h5.elim
              | cons r2 M2 => rw [h] at h5; rw [h5.1.2.2]; exact h5.2.1.1
theorem El.len {f : Fs} {M : List Fr} {l : List Nd} {t : UInt8} (h : El A L f M l t) : f.l.length = l.length + 1 := by rw [h.fl, List.length_append, paint_length]; rfl
theorem El.tag {f : Fs} {M : List Fr} {l : List Nd} {t : UInt8} (h : El A L f M l t) : f.tagL = t := by
  rw [Fs.tagL, h.len, h.fl, getD_last _ _ _ _ (by rw [paint_length]; omega)]
theorem El.els {f : Fs} {M : List Fr} {l : List Nd} {t : UInt8} (h : El A L f M l t) (hA : f.T.length ≤ A.length) (hB : f.T.length ≤ L.bytes) : elS A L bodyOk M l f.a = match lenR A L (f.a + 1) with
      | .no e q b => .no e q b
      | .ok (n, q) =>
        if (M.head?.any fun f => decide (f.e < q + n)) = true then .no 9 f.a false
        else if within t = true then .ok (.loop ({ tag := t, node := l.length, p0 := f.a, e := q + n, kids := 0, last := [] } :: M) (l ++ [{ tag := t, kids := 0, body := [] }]) q)
        else if n ≠ 0 ∧ has A L (q + n - 1) = false then lack A L
        else if bodyOk t (Dr.part A q (q + n)) = false then .no 9 f.a false
        else .ok (.pend M (l ++ [{ tag := t, kids := -1, body := Dr.part A q (q + n) }]) f.a (q + n)) := by
  have h1 : has A L f.a = true := decide_eq_true ⟨by have := h.lt; omega, by have := h.lt; omega⟩
  rw [elS, h1, if_neg (by decide), if_neg h.it, h.tg, if_neg (by rw [h.ok]; decide), if_neg h.dp]
  rfl
theorem Lk.any {fl : List Nd} {G : List Fg} {M : List Fr} {b p n : Nat} (h : Lk A fl G M b p n) (x : Nat) : (M.head?.any fun f => decide (f.e < x)) = (G.head?.any fun t => decide (t.e < x)) := by
  cases G with
  | nil => cases M with
    | nil => rfl
    | cons => exact h.elim
  | cons t G => cases M with
    | nil => exact h.elim
    | cons r M => show decide (r.e < x) = decide (t.e < x); rw [h.1.2.2]
theorem any_le {G : List Fg} {x : Nat} (h : ¬ (G.head?.any fun t => decide (t.e < x)) = true) : ∀ t G', G = t :: G' → x ≤ t.e := fun t G' hG => by
  subst hG
  have h1 : ¬ decide (t.e < x) = true := h
  rw [decide_eq_true_iff] at h1
  omega
theorem whole_good {f : Fs} {M : List Fr} {l : List Nd} {t : UInt8} (h : El A L f M l t) (he : f.e = 0) (hT : f.T = A.take f.T.length) (hA : f.T.length ≤ A.length) (hB : f.T.length ≤ L.bytes) (hw : within t = false) {n : Nat} (hR : lenR A L (f.a + 1) = .ok (n, f.st)) (hn : f.T.length = f.st + n) (hen : ∀ t G, f.G = t :: G → f.T.length ≤ t.e) :
    Good A L f.whole := by
  have hE := h.els hA hB
  rw [hR] at hE
  dsimp only at hE
  have hany : ¬ (M.head?.any fun f' => decide (f'.e < f.st + n)) = true := by
    rw [h.lk.any, ← hn]
    cases hG : f.G with
    | nil => exact fun h => by cases h
    | cons t2 G2 =>
      intro h9
      have h8 : decide (t2.e < f.T.length) = true := h9
      have := hen t2 G2 hG
      rw [decide_eq_true_iff] at h8
      omega
  have hhas : ¬ (n ≠ 0 ∧ has A L (f.st + n - 1) = false) := by
    rintro ⟨h1, h2⟩
    have h3 : has A L (f.st + n - 1) = true := decide_eq_true ⟨by omega, by omega⟩
    rw [h3] at h2; cases h2
  rw [if_neg hany, hw, if_neg (by decide), if_neg hhas, ← hn] at hE
  have hst : f.st ≤ f.T.length := by omega
  have hdp := drop_part hT hst
  have hl1 : f.l.modify (f.l.length - 1) (fun n => { n with body := f.T.drop f.st }) = paint M (l ++ [⟨t, -1, Dr.part A f.st f.T.length⟩]) := by
    rw [h.len, h.fl, mod_last _ _ _ _ (by rw [paint_length]; omega), paint_app _ _ _ h.lk.lt, hdp]
  rw [Fs.whole, h.tag, hl1, hdp]
  by_cases hb : bodyOk t (Dr.part A f.st f.T.length) = false
  · rw [if_pos hb]
    rw [if_pos hb] at hE
    exact Good.bad (h.rc _ (Runs.elNo hE)) (by decide)
  · rw [if_neg hb]
    rw [if_neg hb] at hE
    refine ended_good f.G.length { f with l := paint M (l ++ [⟨t, -1, Dr.part A f.st f.T.length⟩]) } M (l ++ [⟨t, -1, Dr.part A f.st f.T.length⟩]) f.a f.T.length rfl he rfl hT hA hB h.lt rfl ?_ (fun x hx => h.rc x (Runs.el hE hx))
    refine (h.lk.list (fun i hi => ?_)).re hen (Nat.le_refl _) (by rw [List.length_append]; omega)
    rw [paint_app _ _ _ h.lk.lt, List.getD, List.getD, List.getElem?_append_left (by rw [paint_length]; exact hi)]
theorem measured_good {f : Fs} {M : List Fr} {l : List Nd} {t : UInt8} (h : El A L f M l t) (he : f.e = 0) (hT : f.T = A.take f.T.length) (hA : f.T.length ≤ A.length) (hB : f.T.length ≤ L.bytes) {n : Nat} (hR : lenR A L (f.a + 1) = .ok (n, f.T.length)) :
    Good A L (f.measured n) := by
  have hE := h.els hA hB
  rw [hR] at hE
  dsimp only at hE
  rw [Fs.measured, h.tag]
  rw [h.lk.any] at hE
  by_cases hany : (f.G.head?.any fun t => decide (t.e < f.T.length + n)) = true
  · rw [if_pos hany]
    rw [if_pos hany] at hE
    exact Good.bad (h.rc _ (Runs.elNo hE)) (by decide)
  rw [if_neg hany]
  rw [if_neg hany] at hE
  have hen := any_le hany
  cases hw : within t with
  | true =>
    rw [if_pos rfl]
    rw [hw, if_pos rfl] at hE
    have hl1 : f.l.modify (f.l.length - 1) (fun n => { n with kids := 0 }) = paint M (l ++ [⟨t, 0, []⟩]) := by
      rw [h.len, h.fl, mod_last _ _ _ _ (by rw [paint_length]; omega), paint_app _ _ _ h.lk.lt]
    have hix : f.l.length - 1 = l.length := by rw [h.len]; omega
    rw [hl1, hix]
    have hm : ∀ c : Int, (l ++ [(⟨t, 0, []⟩ : Nd)]).modify l.length (fun n => { n with kids := c }) = l ++ [⟨t, c, []⟩] := fun c => mod_last _ _ _ _ rfl
    have hRl : Reach A L (.loop ({ tag := t, node := l.length, p0 := f.a, e := f.T.length + n, kids := 0, last := [] } :: M) (l ++ [⟨t, 0, []⟩]) f.T.length) := fun x hx => h.rc x (Runs.el hE hx)
    have hlk : Lk A (paint M (l ++ [⟨t, 0, []⟩])) f.G M (f.T.length + n) f.a l.length := (h.lk.list (fun i hi => by
      rw [paint_app _ _ _ h.lk.lt, List.getD, List.getD, List.getElem?_append_left (by rw [paint_length]; exact hi)])).re hen (Nat.le_refl _) (Nat.le_refl _)
    rw [Fs.close]
    dsimp only
    by_cases hn : n = 0
    · subst hn
      rw [if_pos ⟨he, rfl⟩]
      refine ended_good f.G.length { f with st := f.T.length, en := f.T.length + 0, l := paint M (l ++ [⟨t, 0, []⟩]), G := f.G, m := 0 } M (l ++ [⟨t, 0, []⟩]) f.a f.T.length rfl he rfl hT hA hB h.lt rfl (hlk.re (fun t G hG => hen t G hG) (Nat.le_refl _) (by rw [List.length_append]; omega)) (fun x hx => hRl x (Runs.loop ?_))
      rw [loopS, if_neg (by show ¬ f.T.length < f.T.length + 0; omega)]
      dsimp only
      rw [show (((0 : Nat) : Int)) = 0 from rfl, hm]
      exact hx
    · rw [if_neg (fun h9 => by have := h9.2; omega)]
      refine ⟨fun h9 => absurd he h9, fun _ => ⟨hT, hA, hB, fun _ => ?_, fun h => (by cases h), fun h => (by cases h), fun h => (by cases h), fun h => (by cases h), Nat.zero_le _⟩⟩
      refine ⟨{ tag := t, node := l.length, p0 := f.a, e := f.T.length + n, kids := 0, last := [] } :: M, l ++ [⟨t, 0, []⟩], fun x hx => hRl x (Runs.loop ?_), ?_, ⟨⟨rfl, rfl, rfl⟩, ⟨by show f.T.length ≤ f.T.length + n; omega, h.lt, Nat.zero_le _, by rw [List.length_append]; show l.length < l.length + 1; omega⟩, ⟨?_, ?_⟩, ⟨Nat.le_refl _, Nat.zero_le _, fun h => absurd h (Nat.lt_irrefl _)⟩, hlk⟩, fun t2 G2 h9 => ?_⟩
      · rw [loopS, if_pos (by show f.T.length < f.T.length + n; omega)]
        exact hx
      · show paint M (l ++ [⟨t, 0, []⟩]) = paint M ((l ++ [(⟨t, 0, []⟩ : Nd)]).modify l.length (fun n => { n with kids := ((0 : Nat) : Int) }))
        rw [hm]
        rfl
      · show ((paint M (l ++ [⟨t, 0, []⟩])).getD l.length _).tag = t
        rw [paint_app _ _ _ h.lk.lt, getD_last _ _ _ _ (paint_length _ _).symm]
      · show ((paint M (l ++ [⟨t, 0, []⟩])).getD l.length _).kids = ((0 : Nat) : Int)
        rw [paint_app _ _ _ h.lk.lt, getD_last _ _ _ _ (paint_length _ _).symm]
        rfl
      · injection h9 with h6 h7
        rw [← h6]
        show f.T.length < f.T.length + n
        omega
  | false =>
    rw [if_neg (by decide)]
    by_cases hn : n = 0
    · subst hn
      rw [if_pos rfl]
      refine whole_good (f := { f with st := f.T.length, en := f.T.length + 0, m := 3 }) (M := M) (l := l) (t := t) (El.mk h.rc h.fl h.lk h.tg h.lt h.it h.ok h.dp) he hT hA hB hw (n := 0) hR (by rfl) (fun t2 G2 h9 => ?_)
      have := hen t2 G2 h9
      show f.T.length ≤ t2.e
      omega
    · rw [if_neg hn]
      refine ⟨fun h9 => absurd he h9, fun _ => ⟨hT, hA, hB, fun h => (by cases h), fun h => (by cases h), fun h => (by cases h), fun _ => ?_, fun h => (by cases h), Nat.le_succ _⟩⟩
      exact ⟨M, l, t, ⟨h.rc, h.fl, h.lk, h.tg, h.lt, h.it, h.ok, h.dp⟩, hw, n, hR, rfl, Nat.le_refl _, by show f.T.length < f.T.length + n; omega, fun t2 G2 h9 => hen t2 G2 h9⟩
end
end Fd
end Go.Proofs.YteglahkgnggmgaaDoor
namespace Go.Proofs.YteglahkgnggmgaaDoor
open Go.RowKit
set_option linter.unusedVariables false
set_option linter.unusedSimpArgs false
open Dr
namespace Fd
section
variable {A : List UInt8} {L : Lm}
theorem lenB_no (q : Nat) {i e p : Nat} {c : Int} {b : Bool} (h : lenB A L q i = .no c p b) : ∀ j, lenB A L q (i + j) = .no c p b
  | 0 => h
  | j + 1 => by rw [show i + (j + 1) = (i + j) + 1 by omega, lenB, lenB_no q (e := e) h j]
theorem lenB_lack (q : Nat) {i n : Nat} (h : lenB A L q i = .ok n) (hh : has A L (q + i + 1) = false) : ∀ j, lenB A L q (i + 1 + j) = lack A L := by
  have h1 : lenB A L q (i + 1) = lack A L := by rw [lenB, h]; dsimp only; rw [hh]; rfl
  intro j
  exact lenB_no q (e := 0) h1 j
theorem snoc_take {p : Nat} (h : p < A.length) : A.take p ++ [A.getD p 0] = A.take (p + 1) := by
  rw [List.take_add_one, List.getElem?_eq_getElem h, List.getD, List.getElem?_eq_getElem h]; rfl
/-- a feed that took one byte more -/
def more (f : Fs) (A : List UInt8) : Fs := { f with T := f.T ++ [A.getD f.T.length 0] }
theorem more_len (f : Fs) (A : List UInt8) : (more f A).T.length = f.T.length + 1 := by rw [more]; simp
theorem more_tx {f : Fs} (hT : f.T = A.take f.T.length) (h : f.T.length < A.length) : (more f A).T = A.take (more f A).T.length := by
  rw [more_len]
  show f.T ++ [A.getD f.T.length 0] = _
  rw [← snoc_take h, ← hT]
theorem El.more {f : Fs} {M : List Fr} {l : List Nd} {t : UInt8} (h : El A L f M l t) : El A L (Fd.more f A) M l t := ⟨h.rc, h.fl, h.lk, h.tg, by rw [more_len]; exact Nat.lt_succ_of_lt h.lt, h.it, h.ok, h.dp⟩
theorem step_good (f : Fs) (he : f.e = 0) (h : Inv A L f) (h1 : f.T.length < A.length) (h2 : f.T.length < L.bytes) : Good A L (f.step L (A.getD f.T.length 0)) := by
  obtain ⟨p, hp⟩ : ∃ p, f.T.length = p := ⟨_, rfl⟩
  obtain ⟨b, hb⟩ : ∃ b, A.getD f.T.length 0 = b := ⟨_, rfl⟩
  have hT := more_tx h.tx h1
  have hlen := more_len f A
  have hA : (more f A).T.length ≤ A.length := by rw [hlen]; omega
  have hB : (more f A).T.length ≤ L.bytes := by rw [hlen]; omega
  have hst : f.step L (A.getD f.T.length 0) = Fs.go L (more f A) b := by rw [Fs.step, hb, more, hb]
  have hhas : has A L p = true := decide_eq_true ⟨by omega, by omega⟩
  rw [hst, Fs.go]
  have hm := h.mm
  by_cases m0 : f.m = 0
  · rw [if_pos (show (more f A).m = 0 from m0)]
    obtain ⟨M, l, hR, hl, hk, ht⟩ := h.m0 m0
    have hfl : f.l.length = l.length := by rw [hl, paint_length]
    have hgl := hk.len
    have hel : elS A L bodyOk M l p = elS A L bodyOk M l p := rfl
    conv at hel => rhs; rw [elS]
    rw [hp] at hR
    rw [hhas, if_neg (by decide), ← hp, hb, hp] at hel
    rw [Fs.tag, hlen, hp, Nat.add_sub_cancel]
    by_cases q1 : L.items ≤ (more f A).l.length
    · rw [if_pos q1]
      rw [if_pos (by rw [← hfl]; exact q1)] at hel
      exact Good.bad (hR _ (Runs.elNo hel)) (by decide)
    rw [if_neg q1]
    rw [if_neg (by rw [← hfl]; exact q1)] at hel
    by_cases q2 : tagE b ≠ 0
    · rw [if_pos q2]
      rw [if_pos q2] at hel
      exact Good.bad (hR _ (Runs.elNo hel)) q2
    rw [if_neg q2]
    rw [if_neg q2] at hel
    by_cases q3 : within b = true ∧ L.depth ≤ (more f A).G.length
    · rw [if_pos q3]
      rw [if_pos ⟨q3.1, by rw [← hgl]; exact q3.2⟩] at hel
      exact Good.bad (hR _ (Runs.elNo hel)) (by decide)
    rw [if_neg q3]
    refine ⟨fun h9 => absurd he h9, fun _ => ⟨hT, hA, hB, fun h => (by cases h), fun _ => ?_, fun h => (by cases h), fun h => (by cases h), fun h => (by cases h), Nat.succ_le_succ (Nat.zero_le _)⟩⟩
    refine ⟨M, l, b, ⟨hR, ?_, ?_, by rw [← hp]; exact hb, ?_, by rw [← hfl]; exact q1, by simpa using q2, fun h9 => q3 ⟨h9.1, by rw [show (more f A).G = f.G from rfl, hgl]; exact h9.2⟩⟩, hlen.trans (by rw [hp])⟩
    · show f.l ++ _ = _
      rw [hl]
    · rw [hl, hp] at hk
      exact hk
    · show p < (more f A).T.length
      rw [hlen]; omega
  rw [if_neg (show ¬ (more f A).m = 0 from m0)]
  by_cases m1 : f.m = 1
  · rw [if_pos (show (more f A).m = 1 from m1)]
    obtain ⟨M, l, t, hE, hx⟩ := h.m1 m1
    have hEm := hE.more
    have hE2 := hEm.els hA hB
    have hb1 : at0S A (f.a + 1) = b.toNat := by rw [at0S, ← hx, hb]
    have hhas1 : has A L (f.a + 1) = true := by rw [← hx, hp]; exact hhas
    have hlr : lenR A L (f.a + 1) = lenR A L (f.a + 1) := rfl
    conv at hlr => rhs; rw [lenR]
    rw [hhas1, if_pos rfl, hb1] at hlr
    rw [Fs.first]
    by_cases q1 : b.toNat < 128
    · rw [if_pos q1]
      rw [if_pos q1] at hlr
      exact measured_good hEm he hT hA hB (hlr.trans (by rw [hlen, hx]))
    rw [if_neg q1]
    rw [if_neg q1] at hlr
    by_cases q2 : b.toNat = 128 ∨ 132 < b.toNat
    · rw [if_pos q2]
      rw [if_pos q2] at hlr
      rw [show (more f A).a = f.a from rfl, hlr] at hE2
      rw [hlen, Nat.add_sub_cancel, hx]
      exact Good.bad (hE.rc _ (Runs.elNo hE2)) (by decide)
    rw [if_neg q2]
    refine ⟨fun h9 => absurd he h9, fun _ => ⟨hT, hA, hB, fun h => (by cases h), fun h => (by cases h), fun _ => ?_, fun h => (by cases h), fun h => (by cases h), Nat.succ_le_succ (Nat.succ_le_succ (Nat.zero_le _))⟩⟩
    refine ⟨M, l, t, ⟨hEm.rc, hEm.fl, hEm.lk, hEm.tg, hEm.lt, hEm.it, hEm.ok, hEm.dp⟩, 0, ?_, ?_, ?_, ?_, ?_, rfl, fun h => absurd h (Nat.lt_irrefl _)⟩
    · show 128 < at0S A (f.a + 1); rw [hb1]; omega
    · show at0S A (f.a + 1) ≤ 132; rw [hb1]; omega
    · show (more f A).T.length = f.a + 2 + 0; rw [hlen, hx]
    · show 0 + (b.toNat - 128) = at0S A (f.a + 1) - 128; rw [hb1]; omega
    · show 0 < b.toNat - 128; omega
  rw [if_neg (show ¬ (more f A).m = 1 from m1)]
  by_cases m2 : f.m = 2
  · rw [if_pos (show (more f A).m = 2 from m2)]
    obtain ⟨M, l, t, hE, i, x1, x2, x3, x4, x5, x6, x7⟩ := h.m2 m2
    have hEm := hE.more
    have hE2 := hEm.els hA hB
    have hpi : f.a + 1 + i + 1 = p := by omega
    have hbi : at0S A (f.a + 1 + i + 1) = b.toNat := by rw [at0S, hpi, ← hp, hb]
    have hh1 : has A L (f.a + 1) = true := decide_eq_true ⟨by omega, by omega⟩
    have hlr : lenR A L (f.a + 1) = lenR A L (f.a + 1) := rfl
    conv at hlr => rhs; rw [lenR]
    rw [hh1, if_pos rfl, if_neg (by omega), if_neg (by omega)] at hlr
    have hlb : lenB A L (f.a + 1) (i + 1) = lenB A L (f.a + 1) (i + 1) := rfl
    conv at hlb => rhs; rw [lenB, x6]
    dsimp only at hlb
    rw [hpi, hhas, if_pos rfl, ← hpi, hbi] at hlb
    rw [Fs.next, show (more f A).len = f.len from rfl, show (more f A).left = f.left from rfl, hlen, hp, Nat.add_sub_cancel]
    by_cases q1 : 256 * f.len + b.toNat = 0
    · rw [if_pos (.inl q1)]
      have hi : i = 0 := by
        by_cases hi : i = 0
        · exact hi
        · have := x7 (by omega); omega
      subst hi
      have hb0 : at0S A (f.a + 1 + 1) = 0 := by have h9 := hbi; rw [show f.a + 1 + 0 + 1 = f.a + 1 + 1 by omega] at h9; omega
      rw [if_pos ⟨rfl, hb0⟩] at hlb
      have hno : lenB A L (f.a + 1) (at0S A (f.a + 1) - 128) = .no 9 (f.a + 1 + 1) false := by
        rw [show at0S A (f.a + 1) - 128 = (0 + 1) + (at0S A (f.a + 1) - 129) by omega]
        exact lenB_no _ (e := 0) hlb _
      rw [hno] at hlr
      rw [show (more f A).a = f.a from rfl, hlr] at hE2
      rw [show p = f.a + 1 + 1 by omega]
      exact Good.bad (hE.rc _ (Runs.elNo hE2)) (by decide)
    have hlb2 : lenB A L (f.a + 1) (i + 1) = .ok (256 * f.len + b.toNat) := by
      rw [hlb, if_neg]
      rintro ⟨h8, h9⟩
      subst h8
      rw [show f.a + 1 + 0 + 1 = f.a + 1 + 1 by omega] at hbi
      rw [hbi] at h9
      have h10 : lenB A L (f.a + 1) 0 = .ok 0 := rfl
      rw [h10] at x6
      injection x6 with h11
      omega
    by_cases q2 : f.left - 1 = 0 ∧ 256 * f.len + b.toNat < 128
    · rw [if_pos (.inr q2)]
      have hi : at0S A (f.a + 1) - 128 = i + 1 := by omega
      rw [hi, hlb2] at hlr
      dsimp only at hlr
      rw [if_pos q2.2] at hlr
      rw [show (more f A).a = f.a from rfl, hlr] at hE2
      rw [show p = f.a + 1 + (i + 1) by omega]
      exact Good.bad (hE.rc _ (Runs.elNo hE2)) (by decide)
    rw [if_neg (fun h9 => h9.elim q1 q2)]
    by_cases q3 : f.left - 1 = 0
    · rw [if_pos q3]
      have hi : at0S A (f.a + 1) - 128 = i + 1 := by omega
      rw [hi, hlb2] at hlr
      dsimp only at hlr
      rw [if_neg (fun h9 => q2 ⟨q3, h9⟩)] at hlr
      refine measured_good (f := { more f A with len := 256 * f.len + b.toNat, left := f.left - 1 }) (M := M) (l := l) (t := t) (El.mk hEm.rc hEm.fl hEm.lk hEm.tg hEm.lt hEm.it hEm.ok hEm.dp) he hT hA hB (n := 256 * f.len + b.toNat) (hlr.trans ?_)
      show Rs.ok (_, f.a + 1 + (i + 1) + 1) = Rs.ok (_, (more f A).T.length)
      rw [hlen, x3, show f.a + 1 + (i + 1) + 1 = f.a + 2 + i + 1 by omega]
    rw [if_neg q3]
    refine ⟨fun h9 => absurd he h9, fun _ => ⟨hT, hA, hB, fun h => absurd h m0, fun h => absurd h m1, fun _ => ?_, fun h => absurd (m2.symm.trans h) (by decide), fun h => absurd (m2.symm.trans h) (by decide), hm⟩⟩
    refine ⟨M, l, t, ⟨hEm.rc, hEm.fl, hEm.lk, hEm.tg, hEm.lt, hEm.it, hEm.ok, hEm.dp⟩, i + 1, x1, x2, ?_, ?_, ?_, hlb2, fun _ => ?_⟩
    · show (more f A).T.length = f.a + 2 + (i + 1); rw [hlen, x3]; omega
    · show i + 1 + (f.left - 1) = at0S A (f.a + 1) - 128; omega
    · show 0 < f.left - 1; omega
    · show 0 < 256 * f.len + b.toNat; omega
  rw [if_neg (show ¬ (more f A).m = 2 from m2)]
  by_cases m3 : f.m = 3
  · rw [if_pos (show (more f A).m = 3 from m3)]
    obtain ⟨M, l, t, hE, hw, n, x1, x2, x3, x4, x5⟩ := h.m3 m3
    have hEm := hE.more
    rw [Fs.body]
    by_cases q1 : (more f A).T.length = (more f A).en
    · rw [if_pos q1]
      exact whole_good hEm he hT hA hB hw (n := n) x1 (by rw [q1]; exact x2) (fun t2 G2 h9 => by rw [q1]; exact x5 t2 G2 h9)
    rw [if_neg q1]
    refine ⟨fun h9 => absurd he h9, fun _ => ⟨hT, hA, hB, fun h => absurd h m0, fun h => absurd h m1, fun h => absurd h m2, fun _ => ?_, fun h => absurd (m3.symm.trans h) (by decide), hm⟩⟩
    refine ⟨M, l, t, hEm, hw, n, x1, x2, ?_, ?_, x5⟩
    · show f.st ≤ (more f A).T.length; rw [hlen]; omega
    · show (more f A).T.length < f.en
      have h9 : ¬ (more f A).T.length = f.en := q1
      rw [hlen] at h9 ⊢
      omega
  rw [if_neg (show ¬ (more f A).m = 3 from m3)]
  obtain ⟨hG, hR⟩ := h.m4 (by omega)
  rw [Fs.rest, hlen, Nat.add_sub_cancel]
  refine Good.bad (hR _ ?_) (by decide)
  have hf : fin A L f.l f.T.length = .no 9 f.T.length false := by rw [fin, if_pos h1, hp, hhas, if_pos rfl]
  rw [← hf]
  exact Runs.fin
/-- what an unfinished feed comes to where the text ends, or the bytes that may be -/
theorem inv_lack {f : Fs} (h : Inv A L f) (hh : has A L f.T.length = false) (hm : f.m ≠ 4) : RunsD A L (.el [] [] 0) (lack A L) := by
  have lk : ∀ {M : List Fr} {l : List Nd} {q : Nat} , Reach A L (.el M l q) → elS A L bodyOk M l q = lack A L → RunsD A L (.el [] [] 0) (lack A L) := fun hR hE => hR _ (Runs.elNo hE)
  have hmm := h.mm
  by_cases m0 : f.m = 0
  · obtain ⟨M, l, hR, -⟩ := h.m0 m0
    exact lk hR (by rw [elS, if_pos hh])
  have hle := h.le
  have hlb := h.lb
  by_cases m1 : f.m = 1
  · obtain ⟨M, l, t, hE, hx⟩ := h.m1 m1
    have hE2 := hE.els hle hlb
    refine lk hE.rc ?_
    rw [hE2, lenR, ← hx, hh, if_neg (by decide)]
    rfl
  by_cases m2 : f.m = 2
  · obtain ⟨M, l, t, hE, i, x1, x2, x3, x4, x5, x6, x7⟩ := h.m2 m2
    have hE2 := hE.els hle hlb
    refine lk hE.rc ?_
    have hh1 : has A L (f.a + 1) = true := decide_eq_true ⟨by omega, by omega⟩
    have h9 := lenB_lack (f.a + 1) x6 (by rw [show f.a + 1 + i + 1 = f.T.length by omega]; exact hh) (f.left - 1)
    rw [hE2, lenR, hh1, if_pos rfl, if_neg (by omega), if_neg (by omega), show at0S A (f.a + 1) - 128 = i + 1 + (f.left - 1) by omega, h9]
    rfl
  by_cases m3 : f.m = 3
  · obtain ⟨M, l, t, hE, hw, n, x1, x2, x3, x4, x5⟩ := h.m3 m3
    have hE2 := hE.els hle hlb
    refine lk hE.rc ?_
    have hany : ¬ (M.head?.any fun f' => decide (f'.e < f.st + n)) = true := by
      rw [hE.lk.any]
      cases hG : f.G with
      | nil => exact fun h => by cases h
      | cons t2 G2 =>
        intro h9
        have h8 : decide (t2.e < f.st + n) = true := h9
        have := x5 t2 G2 hG
        rw [decide_eq_true_iff] at h8
        omega
    have hno : has A L (f.st + n - 1) = false := by
      have h9 : ¬ (f.T.length < A.length ∧ f.T.length < L.bytes) := of_decide_eq_false hh
      exact decide_eq_false (fun h8 => h9 ⟨by omega, by omega⟩)
    rw [hE2, x1]
    dsimp only
    rw [if_neg hany, hw, if_neg (by decide), if_pos ⟨by omega, hno⟩]
  exact absurd (by omega) hm
theorem inv_fin {f : Fs} (h : Inv A L f) (hm : f.m = 4) : RunsD A L (.el [] [] 0) (fin A L f.l f.T.length) := (h.m4 hm).2 _ Runs.fin
theorem inv_f0 : Inv A L f0 := ⟨rfl, Nat.zero_le _, Nat.zero_le _, fun _ => ⟨[], [], fun r h => h, rfl, trivial, fun t G h => by cases h⟩, fun h => (by cases h), fun h => (by cases h), fun h => (by cases h), fun h => (by cases h), Nat.zero_le _⟩
theorem take_good (f : Fs) (he : f.e = 0) (h : Inv A L f) (h1 : f.T.length < A.length) : Good A L (f.take L (A.getD f.T.length 0)) := by
  rw [Fs.take, if_neg (fun h => h he)]
  by_cases h2 : L.bytes ≤ f.T.length
  · rw [if_pos h2]
    have hh : has A L f.T.length = false := decide_eq_false (fun h8 => by omega)
    have hl : (lack A L : Rs (List Nd)) = .no 10 L.bytes false := by
      have hlt : L.bytes < A.length := by omega
      rw [lack, lackE, lackP, if_pos hlt, if_pos hlt, decide_eq_false (by omega)]
    refine Good.bad ?_ (by decide)
    by_cases hm : f.m = 4
    · have h9 := inv_fin h hm
      rw [fin, if_pos h1, hh, if_neg (by decide), hl] at h9
      exact h9
    · have h9 := inv_lack h hh hm
      rw [hl] at h9
      exact h9
  · rw [if_neg h2]
    exact step_good f he h h1 (by omega)
end
end Fd
end Go.Proofs.YteglahkgnggmgaaDoor
