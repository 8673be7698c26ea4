/- What is read can be told: from a state of the reader to the teller's holders with what they will have. -/
import Derived.Test.YtilfidcomeandaaDoorJnB
import Derived.Test.YtilfidcomeandaaDoorJbC
namespace Go.Proofs.YtilfidcomeandaaDoor
set_option linter.unusedVariables false
set_option linter.unusedSimpArgs false
namespace Jn2
open Js Je Jb Jh
open Dr (Rs Lm has lack)
/-- the rest is told, within so many bytes -/
def Tl (t : Te) (rest : List Vl) (n dp : Nat) : Prop := ∃ tf, run Lib.validD t rest = some tf ∧ (endS tf.out tf.st).2 = [] ∧ (endS tf.out tf.st).1.length ≤ n ∧ (dp ≤ 32 → tf.deep ≤ 32)
theorem Tl.mono {t : Te} {rest : List Vl} {n n' dp : Nat} (h : Tl t rest n dp) (hn : n ≤ n') : Tl t rest n' dp := by
  obtain ⟨tf, h1, h2, h3, h4⟩ := h
  exact ⟨tf, h1, h2, Nat.le_trans h3 hn, h4⟩
theorem Tl.ends {o o' : List UInt8} {st st' : List Hf} {dp : Nat} {rest : List Vl} {n : Nat} (he : endS o st = endS o' st') (h : Tl ⟨o', st', dp⟩ rest n dp) : Tl ⟨o, st, dp⟩ rest n dp := by
  obtain ⟨tf, h1, h2, h3, h4⟩ := h
  match rest, h1 with
  | [], h1 =>
    cases h1
    exact ⟨⟨o, st, dp⟩, rfl, by show (endS o st).2 = []; rw [he]; exact h2, by show (endS o st).1.length ≤ n; rw [he]; exact h3, h4⟩
  | v :: r, h1 =>
    refine ⟨tf, ?_, h2, h3, h4⟩
    rw [run] at h1 ⊢
    have hv : valueS ⟨o, st, dp⟩ v = valueS ⟨o', st', dp⟩ v := by
      rw [valueS, valueS]
      show (match endS o st with | (_, []) => none | (o, h :: G) => _) = (match endS o' st' with | (_, []) => none | (o, h :: G) => _)
      rw [he]
    rw [hv]
    exact h1
theorem put_len (o s : List UInt8) : (put o s).length ≤ o.length + s.length := by
  rw [put]; split
  · rw [List.length_append]; exact Nat.le_refl _
  · omega
theorem qloop_len : ∀ (l o : List UInt8), (qloop o l).length ≤ o.length + (l.flatMap qb).length + 1
  | [], o => put_len _ _
  | b :: l, o => by
    rw [qloop]; split
    · omega
    · have h := qloop_len l (o ++ qb b)
      rw [List.length_append] at h
      rw [List.flatMap_cons, List.length_append]
      omega
theorem quote_len (o t : List UInt8) : (quote o t).length ≤ o.length + (t.flatMap qb).length + 2 := by
  have h1 := qloop_len t (put o [34])
  have h2 := put_len o [34]
  rw [quote]
  simp only [List.length_cons, List.length_nil] at h2
  omega
theorem un_app {st : List Hf} {G : List Fr} {b X D : List Vl} (h : Rl st G (b ++ X) D) : ∃ D', D = D' ++ X ∧ Rl st G b D' := by
  match st, G, h with
  | _ :: st, [], h =>
    obtain ⟨h1, h2, h3⟩ := h
    exact ⟨b, h2, h1, rfl, h3⟩
  | _ :: st, f :: G, h =>
    obtain ⟨h1, h2, h3, h4, h5, D', h6, h7⟩ := h
    exact ⟨D' ++ ⟨holdK f, _, []⟩ :: b, by rw [h6]; simp, h1, h2, h3, h4, h5, D', rfl, h7⟩
theorem un_place {h : Hf} {st : List Hf} {G : List Fr} {b D : List Vl} (k : Rl (h :: st) (bump G) b D) (hb : G = [] → h.left = 0) : Rl ({ h with left := h.left + 1 } :: st) G b D := by
  match G, k with
  | [], k =>
    obtain ⟨h1, h2, h3, h4, h5⟩ := k
    exact ⟨h1, h2, h3, h4, by show h.left + 1 ≤ 1; rw [hb rfl]; exact Nat.le_refl _⟩
  | f :: G, k =>
    obtain ⟨h1, h2, h3, h4, h5, D', h6, h7⟩ := k
    exact ⟨by have h1 : f.n + 1 + h.left = h.kids := h1; show f.n + (h.left + 1) = h.kids; omega, h2, h3, h4, h5, D', h6, h7⟩
theorem un_name {h : Hf} {st : List Hf} {f : Fr} {G : List Fr} {b D : List Vl} {ns : List (List UInt8)} {t : List UInt8} (hn : f.o = some ns) (k : Rl (h :: st) (addName t (f :: G)) b D) : h.names = some (ns ++ [t]) ∧ Rl ({ h with names := some ns } :: st) (f :: G) b D := by
  obtain ⟨h1, h2, h3, h4, h5, D', h6, h7⟩ := k
  have h2 : f.o.map (· ++ [t]) = h.names := h2
  rw [hn] at h2
  have h2 : some (ns ++ [t]) = h.names := h2
  rw [← h2] at h3 h4
  refine ⟨h2.symm, h1, hn, h3, h4, h5, D', ?_, h7⟩
  rw [h6, holdK, holdK]
  show D' ++ ⟨if (f.o.map (· ++ [t])).isSome = true then 6 else 5, _, _⟩ :: b = _
  rw [hn]; rfl
/-- frames beneath the topmost -/
def Lw : List Fr → Prop
  | [] => True
  | f :: G => 0 < f.n ∧ (f.o.isSome = true → f.n % 2 = 0) ∧ Lw G
/-- a reader's state, between two signs -/
def Fw (s : St) : Prop :=
  s.hand = .none ∧ s.named = none ∧ match s.G with
  | [] => (s.nx = 0 ∧ s.cur = []) ∨ s.nx = 6
  | f :: G => Lw G ∧ ((s.nx = 1 ∧ f.o.isSome = false ∧ f.n = 0) ∨ (s.nx = 3 ∧ f.o.isSome = true ∧ f.n = 0) ∨ (s.nx = 4 ∧ f.o.isSome = true ∧ f.n % 2 = 1) ∨ (s.nx = 5 ∧ 0 < f.n ∧ (f.o.isSome = true → f.n % 2 = 0)) ∨ (s.nx = 0 ∧ (f.o.isSome = true → f.n % 2 = 1) ∧ (f.o.isSome = false → 0 < f.n)) ∨ (s.nx = 2 ∧ f.o.isSome = true ∧ f.n % 2 = 0 ∧ 0 < f.n))
/-- the lowest holder is the text itself -/
def Be (h : Hf) : List Hf → Prop
  | [] => h.e = 0
  | h' :: st => Be h' st
theorem be_of {h h2 : Hf} {st : List Hf} (he : h.e = h2.e) (k : Be h st) : Be h2 st := by
  cases st with
  | nil => have k : h.e = 0 := k; show h2.e = 0; rw [← he]; exact k
  | cons _ _ => exact k
/-- between two values: what is to come is told -/
def PN (S : List UInt8) (s : St) (p : Nat) (l : List Vl) : Prop := ∃ h st D rest, Sq h st D s ∧ l = D ++ rest ∧ (∀ o dp, Tl ⟨o, h :: st, dp⟩ rest (o.length + 6 * (S.length - p)) dp) ∧ (Be h st ∧ ∀ x ∈ rest, x.text.length ≤ 6 * S.length)
def nextH (h : Hf) (v : Vl) (nm : Bool) : Hf := if nm = true then { h with left := h.left - 1, names := some (h.names.getD [] ++ [v.text]) } else { h with left := h.left - 1 }
/-- a value (a name) is to come: it and what comes behind is told -/
def PV (S : List UInt8) (s : St) (p : Nat) (l : List Vl) (nm : Bool) : Prop := ∃ h st D v rest, Rl (h :: st) s.G s.cur D ∧ h.left ≠ 0 ∧ l = D ++ v :: rest ∧ rightV Lib.validD v = true ∧ isName h = nm ∧ (nm = true → v.kind = 4 ∧ v.text ∉ h.names.getD []) ∧ (∀ o dp, Tl (tellV o (nextH h v nm :: st) dp v) rest (o.length + 6 * (S.length - p)) dp) ∧ (Be h st ∧ ∀ x ∈ v :: rest, x.text.length ≤ 6 * S.length)
theorem PN.back {S : List UInt8} {s : St} {p p' : Nat} {l : List Vl} (hp : p ≤ p') (h : PN S s p' l) : PN S s p l := by
  obtain ⟨h, st, D, rest, h1, h2, h3, h4⟩ := h
  exact ⟨h, st, D, rest, h1, h2, fun o dp => (h3 o dp).mono (by omega), h4⟩
theorem PV.back {S : List UInt8} {s : St} {p p' : Nat} {l : List Vl} {nm : Bool} (hp : p ≤ p') (h : PV S s p' l nm) : PV S s p l nm := by
  obtain ⟨h, st, D, v, rest, h1, h2, h3, h4, h5, h6, h7, h8⟩ := h
  exact ⟨h, st, D, v, rest, h1, h2, h3, h4, h5, h6, fun o dp => (h7 o dp).mono (by omega), h8⟩
theorem placed_of {h : Hf} {v : Vl} {nm : Bool} (hn : isName h = nm) (hv : nm = true → v.kind = 4 ∧ v.text ∉ h.names.getD []) :
    placed h v = some (nextH h v nm, if nm = true then (if h.left < h.kids then [44] else []) else if h.names.isSome = true then [58] else (if h.left < h.kids then [44] else [])) := by
  rw [placed, hn]
  cases nm with
  | true =>
    obtain ⟨h1, h2⟩ := hv rfl
    rw [if_pos rfl, if_neg (by rintro (h3 | h3); exact h2 h3; exact h3 h1)]; rfl
  | false =>
    rw [if_neg (by decide)]
    split
    · rfl
    · rfl
/-- ahead of a value: the sign that is told there -/
theorem pn_of {S : List UInt8} {s s0 : St} {p p0 : Nat} {l : List Vl} {nm : Bool} (h : PV S s p l nm) (hG : s0.G = s.G) (hc : s0.cur = s.cur) (hF : Fw s0) (hx : s0.nx ≠ 0 ∨ s0.G = []) (hx2 : s0.nx ≠ 2) (hx6 : s0.nx ≠ 6)
    (hp : (s0.nx = 5 ∨ s0.nx = 4) → p0 < p) (hle : p0 ≤ p) (hpS : p ≤ S.length) : PN S s0 p0 l := by
  obtain ⟨h, st, D, v, rest, h1, h2, h3, h4, h5, h6, h7, hbe⟩ := h
  rw [← hG, ← hc] at h1
  obtain ⟨f1, f2, f3⟩ := hF
  have hnx : s0.nx = nxOf h s0.G ∧ (¬ (s0.nx = 5 ∨ s0.nx = 4) → (if nm = true then (if h.left < h.kids then [44] else []) else if h.names.isSome = true then [58] else (if h.left < h.kids then [44] else []) : List UInt8) = []) := by
    match hG0 : s0.G with
    | [] =>
      rw [hG0] at h1 f3
      obtain ⟨r1, r2, r3, r4, r5⟩ := h1
      have hnm : nm = false := by rw [← h5, isName, r3]; rfl
      rw [nxOf, if_pos (show ([] : List Fr).isEmpty = true from rfl), if_neg h2, hnm, r3]
      refine ⟨?_, fun _ => ?_⟩
      · rcases f3 with f3 | f3
        · exact f3.1
        · exact absurd f3 hx6
      · rw [if_neg (by decide), if_neg (by decide), if_neg (by omega)]
    | f :: G =>
      rw [hG0] at h1 f3 hx
      obtain ⟨r1, r2, r3, r4, -⟩ := h1
      obtain ⟨-, f3⟩ := f3
      rw [nxOf, if_neg (by simp)]
      have hs : f.o.isSome = h.names.isSome := by rw [r2]
      rw [hs] at f3
      rcases f3 with ⟨e1, e2, e3⟩ | ⟨e1, e2, e3⟩ | ⟨e1, e2, e3⟩ | ⟨e1, e2, e3⟩ | ⟨e1, e2⟩ | ⟨e1, e2⟩
      · rw [if_pos (by omega), e2, e1]
        refine ⟨rfl, fun _ => ?_⟩
        have hnm : nm = false := by rw [← h5, isName, e2]; rfl
        rw [hnm, if_neg (by decide), if_neg (by decide), if_neg (by omega)]
      · rw [if_pos (by omega), e2, e1]
        refine ⟨rfl, fun _ => ?_⟩
        have h9 := r4 e2
        have hnm : nm = true := by rw [← h5, isName, e2, decide_eq_true (by omega)]; rfl
        rw [hnm, if_pos rfl, if_neg (by omega)]
      · have h9 := r4 e2
        rw [if_neg (by omega), if_pos ⟨e2, by omega⟩, e1]
        exact ⟨rfl, fun h => absurd (.inr rfl) h⟩
      · refine ⟨?_, fun h => absurd (.inl e1) h⟩
        rw [if_neg (by omega), if_neg ?_, e1]
        rintro ⟨g1, g2⟩
        have := r4 g1
        have := e3 g1
        omega
      · rcases hx with hx | hx
        · exact absurd e1 hx
        · cases hx
      · exact absurd e1 hx2
  refine ⟨h, st, D, v :: rest, ⟨f1, f2, hnx.1, h1⟩, h3, fun o dp => ?_, hbe⟩
  have hpl := placed_of h5 h6
  have hlen : ((if nm = true then (if h.left < h.kids then [44] else []) else if h.names.isSome = true then [58] else (if h.left < h.kids then [44] else []) : List UInt8)).length ≤ 1 := by
    repeat' split
    all_goals simp
  have hno := hnx.2
  generalize (if nm = true then (if h.left < h.kids then [44] else []) else if h.names.isSome = true then [58] else (if h.left < h.kids then [44] else []) : List UInt8) = pre at *
  obtain ⟨tf, t1, t2, t3, t4⟩ := h7 (if pre = [] then o else put o pre) dp
  refine ⟨tf, ?_, t2, ?_, t4⟩
  · rw [run, if_pos h4, valueS, show endS (Te.mk o (h :: st) dp).out (Te.mk o (h :: st) dp).st = (o, h :: st) by show endS o (h :: st) = _; rw [endS, if_neg h2]]
    simp only [hpl]
    exact t1
  · refine Nat.le_trans t3 ?_
    by_cases hpe : pre = []
    · rw [if_pos hpe]; omega
    · rw [if_neg hpe]
      have h8 := put_len o pre
      have h9 : s0.nx = 5 ∨ s0.nx = 4 := Decidable.byContradiction fun h9 => hpe (hno h9)
      have := hp h9
      omega
/-- a holder is ended -/
theorem pn_close {S : List UInt8} {s : St} {p : Nat} {l : List Vl} (hF : Fw s) (hG : s.G ≠ []) (hx : s.nx = 1 ∨ s.nx = 3 ∨ s.nx = 5) (hp : p < S.length) (h : PN S s.close (p + 1) l) : PN S s p l := by
  obtain ⟨nx, hand, named, cur, G⟩ := s
  obtain ⟨f1, f2, f3⟩ := hF
  obtain rfl : hand = .none := f1
  obtain rfl : named = none := f2
  match G, hG with
  | f :: G, _ =>
    obtain ⟨h', st', D, rest, q1, q2, q3, q4⟩ := h
    obtain ⟨k1, k2, k3, k4⟩ := q1
    have k3 : (if G.isEmpty = true then 6 else 5) = nxOf h' G := k3
    have k4 : Rl (h' :: st') G (f.b ++ Js.hold f :: cur) D := k4
    obtain ⟨D', e1, e2⟩ := un_app k4
    obtain ⟨lw, f3⟩ := f3
    have f3 : (nx = 1 ∧ f.o.isSome = false ∧ f.n = 0) ∨ (nx = 3 ∧ f.o.isSome = true ∧ f.n = 0) ∨ (nx = 4 ∧ f.o.isSome = true ∧ f.n % 2 = 1) ∨ (nx = 5 ∧ 0 < f.n ∧ (f.o.isSome = true → f.n % 2 = 0)) ∨ (nx = 0 ∧ (f.o.isSome = true → f.n % 2 = 1) ∧ (f.o.isSome = false → 0 < f.n)) ∨ (nx = 2 ∧ f.o.isSome = true ∧ f.n % 2 = 0 ∧ 0 < f.n) := f3
    have hx : nx = 1 ∨ nx = 3 ∨ nx = 5 := hx
    refine ⟨⟨f.n, 0, f.o, if f.o.isSome = true then 125 else 93⟩, h' :: st', D, rest, ⟨rfl, rfl, ?_, ?_⟩, q2, fun o dp => ?_, q4⟩
    · show nx = (if 0 = f.n then (if f.o.isSome = true then 3 else 1) else if f.o.isSome = true ∧ 0 % 2 = 1 then 4 else 5)
      rcases f3 with ⟨g1, g2, g3⟩ | ⟨g1, g2, g3⟩ | ⟨g1, g2, g3⟩ | ⟨g1, g2, g3⟩ | ⟨g1, g2⟩ | ⟨g1, g2⟩
      · rw [if_pos g3.symm, g2, g1]; rfl
      · rw [if_pos g3.symm, g2, g1]; rfl
      · omega
      · rw [if_neg (by omega), if_neg (by rintro ⟨-, h⟩; cases h), g1]
      · omega
      · omega
    · refine ⟨rfl, rfl, rfl, ?_, ⟨h', st', rfl, k3.symm⟩, D', ?_, e2⟩
      · intro hs
        have hs : f.o.isSome = true := hs
        show f.n % 2 = 0
        rcases f3 with ⟨g1, g2, g3⟩ | ⟨g1, g2, g3⟩ | ⟨g1, g2, g3⟩ | ⟨g1, g2, g3⟩ | ⟨g1, g2⟩ | ⟨g1, g2⟩
        · omega
        · omega
        · omega
        · exact g3 hs
        · omega
        · omega
      · exact e1
    · have he : endS o (⟨f.n, 0, f.o, if f.o.isSome = true then 125 else 93⟩ :: h' :: st') = endS (put o [UInt8.ofNat (if f.o.isSome = true then 125 else 93)]) (h' :: st') := by rw [endS, if_pos rfl, if_neg (by simp)]
      refine Tl.ends he ((q3 _ dp).mono ?_)
      have h8 := put_len o [UInt8.ofNat (if f.o.isSome = true then 125 else 93)]
      simp only [List.length_cons, List.length_nil] at h8
      omega
end Jn2
end Go.Proofs.YtilfidcomeandaaDoor
