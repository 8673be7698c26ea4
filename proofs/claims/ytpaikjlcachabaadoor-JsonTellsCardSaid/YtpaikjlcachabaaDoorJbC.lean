/- What is told is read: the teller's holders beside the reader's. -/
import Derived.Test.YtpaikjlcachabaaDoorJbB
namespace Go.Proofs.YtpaikjlcachabaaDoor
set_option linter.unusedVariables false
set_option linter.unusedSimpArgs false
namespace Jb
open Js Je
open Dr (Rs Lm has lack)
def nxOf (h : Hf) (G : List Fr) : Nat := if G.isEmpty = true then (if h.left = 0 then 6 else 0) else if h.left = h.kids then (if h.names.isSome = true then 3 else 1) else if h.names.isSome = true ∧ h.left % 2 = 1 then 4 else 5
/-- the teller's holders, the reader's, what the topmost has so far, the whole list so far -/
def Rl : List Hf → List Fr → List Vl → List Vl → Prop
  | [], _, _, _ => False
  | h :: st, [], cur, D => st = [] ∧ D = cur ∧ h.names = none ∧ h.kids = 1 ∧ h.left ≤ 1
  | h :: st, f :: G, cur, D => f.n + h.left = h.kids ∧ f.o = h.names ∧ h.e = (if h.names.isSome = true then 125 else 93) ∧ (h.names.isSome = true → h.kids % 2 = 0) ∧ (∃ h' st', st = h' :: st' ∧ nxOf h' G = if G.isEmpty = true then 6 else 5) ∧ ∃ D', D = D' ++ ⟨holdK f, (h.kids : Int), []⟩ :: cur ∧ Rl st G f.b D'
theorem Rl.app {st : List Hf} {G : List Fr} {b D : List Vl} (X : List Vl) (h : Rl st G b D) : Rl st G (b ++ X) (D ++ X) := by
  match st, G, h with
  | _ :: st, [], h =>
    obtain ⟨h1, h2, h3⟩ := h
    exact ⟨h1, by rw [h2], h3⟩
  | _ :: st, f :: G, h =>
    obtain ⟨h1, h2, h3, h4, h5, D', h6, h7⟩ := h
    exact ⟨h1, h2, h3, h4, h5, D', by rw [h6]; simp, h7⟩
theorem Rl.size : ∀ {st : List Hf} {G : List Fr} {b D : List Vl}, Rl st G b D → (flat G b).length = D.length ∧ st.length = G.length + 1
  | _ :: st, [], b, D, h => by
    obtain ⟨h1, h2, h3⟩ := h
    subst h1 h2
    exact ⟨rfl, rfl⟩
  | _ :: st, f :: G, b, D, h => by
    obtain ⟨h1, h2, h3, h4, h5, D', h6, h7⟩ := h
    obtain ⟨h8, h9⟩ := Rl.size h7
    refine ⟨?_, by rw [List.length_cons, h9]; rfl⟩
    show (flat G f.b ++ hold f :: b).length = _
    rw [h6, List.length_append, List.length_append, h8]; rfl
theorem Rl.place {h : Hf} {st : List Hf} {G : List Fr} {b D : List Vl} (hl : h.left ≠ 0) (k : Rl (h :: st) G b D) : Rl ({ h with left := h.left - 1 } :: st) (bump G) b D := by
  match G, k with
  | [], k =>
    obtain ⟨h1, h2, h3, h4, h5⟩ := k
    exact ⟨h1, h2, h3, h4, by show h.left - 1 ≤ 1; omega⟩
  | f :: G, k =>
    obtain ⟨h1, h2, h3, h4, h5, D', h6, h7⟩ := k
    exact ⟨by show f.n + 1 + (h.left - 1) = h.kids; omega, h2, h3, h4, h5, D', h6, h7⟩
theorem Rl.name {h : Hf} {st : List Hf} {G : List Fr} {b D : List Vl} {ns : List (List UInt8)} (t : List UInt8) (hn : h.names = some ns) (k : Rl (h :: st) G b D) : Rl ({ h with names := some (ns ++ [t]) } :: st) (addName t G) b D := by
  match G, k with
  | [], k =>
    obtain ⟨h1, h2, h3, h4, h5⟩ := k
    rw [hn] at h3; cases h3
  | f :: G, k =>
    obtain ⟨h1, h2, h3, h4, h5, D', h6, h7⟩ := k
    rw [hn] at h2 h3 h4
    refine ⟨h1, by show f.o.map (· ++ [t]) = _; rw [h2]; rfl, h3, h4, h5, D', ?_, h7⟩
    rw [h6, holdK, holdK]
    simp only [h2, Option.map_some, Option.isSome_some]
/-- between two values -/
structure Sq (h : Hf) (st : List Hf) (D : List Vl) (s : St) : Prop where
  hand : s.hand = .none
  named : s.named = none
  nx : s.nx = nxOf h s.G
  rl : Rl (h :: st) s.G s.cur D
theorem obj_of {f : Fr} {G : List Fr} {s : St} (h : s.G = f :: G) : s.object = f.o.isSome := by rw [St.object, h]
theorem Sq.close {L : Lm} {h h' : Hf} {st : List Hf} {D : List Vl} {s : St} (k : Sq h (h' :: st) D s) (hl : h.left = 0) (p : Nat) : acts L s p [UInt8.ofNat h.e] = some s.close ∧ Sq h' st D s.close := by
  obtain ⟨nx, hand, named, cur, G⟩ := s
  obtain ⟨k1, k2, k3, k4⟩ := k
  simp only at k1 k2 k3 k4
  subst k1 k2
  match G, k3, k4 with
  | [], _, k4 => exact absurd k4.1 (by simp)
  | f :: G, k3, k4 =>
    obtain ⟨h1, h2, h3, h4, ⟨h'', st'', h5, h6⟩, D', h7, h8⟩ := k4
    cases h5
    have ho : f.o.isSome = h.names.isSome := by rw [h2]
    rw [nxOf, if_neg (by simp)] at k3
    refine ⟨acts_close rfl p _ ?_, rfl, rfl, ?_, ?_⟩
    · show (nx = 5 ∧ UInt8.ofNat h.e = if f.o.isSome = true then 125 else 93) ∨ (nx = 1 ∧ _) ∨ (nx = 3 ∧ _)
      rw [h3, ho]
      cases hs : h.names.isSome with
      | true =>
        rw [hs] at k3
        by_cases hk : h.left = h.kids
        · rw [if_pos hk, if_pos rfl] at k3; exact .inr (.inr ⟨k3, rfl⟩)
        · rw [if_neg hk, if_neg (by omega)] at k3; exact .inl ⟨k3, rfl⟩
      | false =>
        rw [hs] at k3
        by_cases hk : h.left = h.kids
        · rw [if_pos hk, if_neg (by decide)] at k3; exact .inr (.inl ⟨k3, rfl⟩)
        · rw [if_neg hk, if_neg (fun e => absurd e.1 (by decide))] at k3; exact .inl ⟨k3, rfl⟩
    · show (if G.isEmpty = true then 6 else 5) = nxOf h' G
      rw [h6]
    · show Rl (h' :: st) G (f.b ++ Js.hold f :: cur) D
      rw [h7, show Js.hold f = ⟨holdK f, (h.kids : Int), []⟩ by rw [Js.hold, ← h1, hl]; rfl]
      exact h8.app _
theorem put_pre (o s : List UInt8) : o <+: put o s := by
  rw [put]; split
  · exact List.prefix_append _ _
  · exact List.prefix_refl _
theorem jput_in {o x S : List UInt8} (h : put o x <+: S) (hs : S.length ≤ 262144) : put o x = o ++ x := by
  by_cases h1 : o.length ≤ 262144
  · exact put_le x h1
  · rw [put_gt x h1] at h
    have := h.length_le
    omega
theorem qloop_pre : ∀ (l o : List UInt8), o <+: qloop o l
  | [], o => put_pre _ _
  | b :: l, o => by
    rw [qloop]; split
    · exact List.prefix_refl _
    · exact (List.prefix_append _ _).trans (qloop_pre l _)
theorem qloop_in {S : List UInt8} (hs : S.length ≤ 262144) : ∀ (l o : List UInt8), qloop o l <+: S → qloop o l = o ++ (l.flatMap qb ++ [34])
  | [], o, h => jput_in h hs
  | b :: l, o, h => by
    rw [qloop] at h ⊢
    split at h
    · have := h.length_le
      omega
    · rename_i h1
      rw [if_neg h1, qloop_in hs l _ h, List.flatMap_cons]; simp
theorem quote_pre (o t : List UInt8) : o <+: quote o t := (put_pre o [34]).trans (qloop_pre t _)
theorem quote_in {o t S : List UInt8} (h : quote o t <+: S) (hs : S.length ≤ 262144) : quote o t = o ++ quoted t := by
  rw [quote] at h ⊢
  rw [qloop_in hs t _ h, jput_in ((qloop_pre t _).trans h) hs, quoted]; simp
theorem tell_pre (o : List UInt8) (st : List Hf) (dp : Nat) (v : Vl) : o <+: (tellV o st dp v).out ∧ dp ≤ (tellV o st dp v).deep := by
  rw [tellV]
  repeat' split
  all_goals first | exact ⟨put_pre _ _, Nat.le_refl _⟩ | exact ⟨quote_pre _ _, Nat.le_refl _⟩ | exact ⟨put_pre _ _, Nat.le_max_left _ _⟩ | exact ⟨List.prefix_refl _, Nat.le_refl _⟩
theorem ends_pre : ∀ (st : List Hf) (o : List UInt8), o <+: (endS o st).1
  | [], o => List.prefix_refl _
  | h :: G, o => by
    rw [endS]; split
    · split
      · exact ends_pre G o
      · exact (put_pre _ _).trans (ends_pre G _)
    · exact List.prefix_refl _
theorem pre_pre (o pre : List UInt8) : o <+: (if pre = [] then o else put o pre) := by
  split
  · exact List.prefix_refl _
  · exact put_pre _ _
theorem pre_in {o pre S : List UInt8} (h : (if pre = [] then o else put o pre) <+: S) (hs : S.length ≤ 262144) : (if pre = [] then o else put o pre) = o ++ pre := by
  split at h
  · rename_i h1; rw [h1]; simp
  · rename_i h1; rw [if_neg h1]; exact jput_in h hs
theorem value_pre {t t' : Te} {v : Vl} (h : valueS t v = some t') : (endS t.out t.st).1 <+: t'.out ∧ t.deep ≤ t'.deep := by
  rw [valueS] at h
  generalize endS t.out t.st = e at h ⊢
  obtain ⟨o, st⟩ := e
  match st, h with
  | x :: G, h =>
    simp only at h
    cases hp : placed x v with
    | none => rw [hp] at h; cases h
    | some q =>
      obtain ⟨h', pre⟩ := q
      rw [hp] at h
      cases h
      exact ⟨(pre_pre o pre).trans (tell_pre _ _ _ _).1, (tell_pre _ _ _ _).2⟩
theorem run_pre {valid : List UInt8 → Bool} : ∀ (l : List Vl) (t tf : Te), run valid t l = some tf → t.out <+: tf.out ∧ t.deep ≤ tf.deep
  | [], t, tf, h => by cases h; exact ⟨List.prefix_refl _, Nat.le_refl _⟩
  | v :: l, t, tf, h => by
    rw [run] at h
    split at h
    · cases hv : valueS t v with
      | none => rw [hv] at h; cases h
      | some t' =>
        rw [hv] at h
        obtain ⟨h1, h2⟩ := run_pre l t' tf h
        obtain ⟨h3, h4⟩ := value_pre hv
        exact ⟨((ends_pre _ _).trans h3).trans h1, Nat.le_trans h4 h2⟩
    · cases h
theorem to_pre {S : List UInt8} {L : Lm} {o x : List UInt8} {s s' : St} (hb : S.length ≤ L.bytes) (h : o ++ x <+: S) (ha : acts L s o.length x = some s') : To S L s o.length s' (o ++ x).length := by
  obtain ⟨B, rfl⟩ := h
  rw [List.length_append]
  exact to_acts x o B s s' hb ha
/-- what has all its values is ended -/
theorem to_ends {S : List UInt8} {L : Lm} (hb : S.length ≤ L.bytes) (hs : S.length ≤ 262144) : ∀ (st : List Hf) (h : Hf) (o : List UInt8) (D : List Vl) (s : St), Sq h st D s → (endS o (h :: st)).1 <+: S →
    ∃ s', To S L s o.length s' (endS o (h :: st)).1.length ∧ (((endS o (h :: st)).2 = [] ∧ s'.G = [] ∧ s'.hand = .none ∧ s'.nx = 6 ∧ s'.cur = D) ∨ ∃ h' st', (endS o (h :: st)).2 = h' :: st' ∧ h'.left ≠ 0 ∧ Sq h' st' D s') := by
  intro st
  induction st with
  | nil =>
    intro h o D s k hp
    by_cases hl : h.left = 0
    · have e : endS o [h] = (o, []) := by rw [endS, if_pos hl, if_pos rfl]; rfl
      have hG : s.G = [] := by
        have h1 := k.rl.size.2
        exact List.length_eq_zero_iff.1 (Nat.succ_inj.1 h1).symm
      have h2 := k.rl
      have h3 := k.nx
      rw [hG] at h2 h3
      rw [e]
      exact ⟨s, To.refl _ _ _ _, .inl ⟨rfl, hG, k.hand, by rw [h3, nxOf, if_pos (show ([] : List Fr).isEmpty = true from rfl), if_pos hl], h2.2.1.symm⟩⟩
    · have e : endS o [h] = (o, [h]) := by rw [endS, if_neg hl]
      rw [e]
      exact ⟨s, To.refl _ _ _ _, .inr ⟨h, [], rfl, hl, k⟩⟩
  | cons h' st ih =>
    intro h o D s k hp
    by_cases hl : h.left = 0
    · have e : endS o (h :: h' :: st) = endS (put o [UInt8.ofNat h.e]) (h' :: st) := by rw [endS, if_pos hl, if_neg (by simp)]
      rw [e] at hp ⊢
      have h1 := (ends_pre (h' :: st) _).trans hp
      have h2 := jput_in h1 hs
      rw [h2] at h1 hp ⊢
      obtain ⟨c1, c2⟩ := k.close (L := L) hl o.length
      obtain ⟨s', t1, t2⟩ := ih h' _ D s.close c2 hp
      exact ⟨s', (to_pre hb h1 c1).trans t1, t2⟩
    · have e : endS o (h :: h' :: st) = (o, h :: h' :: st) := by rw [endS, if_neg hl]
      rw [e]
      exact ⟨s, To.refl _ _ _ _, .inr ⟨h, h' :: st, rfl, hl, k⟩⟩
/-- the sign ahead of a value -/
theorem to_place {L : Lm} {h h' : Hf} {st : List Hf} {D : List Vl} {s : St} {v : Vl} {pre : List UInt8} (k : Sq h st D s) (hl : h.left ≠ 0) (hp : placed h v = some (h', pre)) (p : Nat) :
    ∃ s1, acts L s p pre = some s1 ∧ s1.hand = .none ∧ s1.named = none ∧ s1.cur = s.cur ∧ s1.G = s.G ∧ ((isName h = true ∧ (s1.nx = 2 ∨ s1.nx = 3)) ∨ (isName h = false ∧ (s1.nx = 0 ∨ s1.nx = 1))) := by
  obtain ⟨k1, k2, k3, k4⟩ := k
  have hk : ∀ {G}, s.G = G → Rl (h :: st) G s.cur D := fun e => e ▸ k4
  cases hG : s.G with
  | nil =>
    obtain ⟨h1, h2, h3, h4, h5⟩ := hk hG
    have hn : isName h = false := by rw [isName, h3]; rfl
    rw [placed, hn, h3, if_neg (by decide), if_neg (by decide), if_neg (by omega)] at hp
    cases hp
    exact ⟨s, rfl, k1, k2, rfl, hG, .inr ⟨hn, .inl (by rw [k3, hG, nxOf, if_pos (show ([] : List Fr).isEmpty = true from rfl), if_neg hl])⟩⟩
  | cons f G =>
    obtain ⟨h1, h2, h3, h4, h5, -⟩ := hk hG
    rw [hG, nxOf, if_neg (by simp)] at k3
    have ho : s.object = h.names.isSome := by rw [obj_of hG, h2]
    cases hs : h.names.isSome with
    | false =>
      have hn : isName h = false := by rw [isName, hs]; rfl
      rw [placed, hn, hs, if_neg (by decide), if_neg (by decide)] at hp
      rw [hs] at k3
      by_cases hk : h.left = h.kids
      · rw [if_neg (by omega)] at hp
        rw [if_pos hk, if_neg (by decide)] at k3
        cases hp
        exact ⟨s, rfl, k1, k2, rfl, hG, .inr ⟨hn, .inr k3⟩⟩
      · rw [if_pos (by omega)] at hp
        rw [if_neg hk, if_neg (fun e => absurd e.1 (by decide))] at k3
        cases hp
        refine ⟨_, acts_comma k1 p k3, k1, k2, rfl, hG, .inr ⟨hn, .inl ?_⟩⟩
        show (if s.object = true then 2 else 0) = 0
        rw [ho, hs]; rfl
    | true =>
      have hev := h4 hs
      rw [hs] at k3
      by_cases he : h.left % 2 = 0
      · have hn : isName h = true := by rw [isName, hs, decide_eq_true he]; rfl
        rw [placed, hn, if_pos rfl] at hp
        split at hp
        · cases hp
        · by_cases hk : h.left = h.kids
          · rw [if_neg (by omega)] at hp
            rw [if_pos hk, if_pos rfl] at k3
            cases hp
            exact ⟨s, rfl, k1, k2, rfl, hG, .inl ⟨hn, .inr k3⟩⟩
          · rw [if_pos (by omega)] at hp
            rw [if_neg hk, if_neg (by omega)] at k3
            cases hp
            refine ⟨_, acts_comma k1 p k3, k1, k2, rfl, hG, .inl ⟨hn, .inl ?_⟩⟩
            show (if s.object = true then 2 else 0) = 2
            rw [ho, hs]; rfl
      · have hn : isName h = false := by rw [isName, hs, decide_eq_false he]; rfl
        rw [placed, hn, hs, if_neg (by decide), if_pos rfl] at hp
        rw [if_neg (by omega), if_pos ⟨rfl, by omega⟩] at k3
        cases hp
        exact ⟨_, acts_colon k1 p k3, k1, k2, rfl, hG, .inr ⟨hn, .inl rfl⟩⟩
theorem nx_after {h : Hf} {st : List Hf} {G : List Fr} {b D : List Vl} (k : Rl (h :: st) G b D) (hl : h.left ≠ 0) (hn : isName h = false) : nxOf { h with left := h.left - 1 } (bump G) = if (bump G).isEmpty = true then 6 else 5 := by
  match G, k with
  | [], k =>
    obtain ⟨h1, h2, h3, h4, h5⟩ := k
    show (if h.left - 1 = 0 then 6 else 0) = 6
    rw [if_pos (by omega)]
  | f :: G, k =>
    obtain ⟨h1, h2, h3, h4, h5, -⟩ := k
    show (if h.left - 1 = h.kids then _ else if h.names.isSome = true ∧ (h.left - 1) % 2 = 1 then 4 else 5) = 5
    rw [if_neg (by omega), if_neg]
    rintro ⟨e1, e2⟩
    rw [isName, e1] at hn
    have : ¬ h.left % 2 = 0 := by simpa using hn
    omega
theorem Sq.res {h : Hf} {st : List Hf} {D : List Vl} {s : St} (k : Rl (h :: st) s.G s.cur D) (hm : s.named = none) (hl : h.left ≠ 0) (hn : isName h = false) (kd : Int) (t : List UInt8) : Sq { h with left := h.left - 1 } st (D ++ [⟨kd, 0, t⟩]) (res s kd t) :=
  ⟨rfl, hm, (nx_after k hl hn).symm, (k.place hl).app _⟩
theorem Sq.hold {h : Hf} {st : List Hf} {D : List Vl} {s : St} (k : Rl (h :: st) s.G s.cur D) (hm : s.named = none) (hd : s.hand = .none) (hl : h.left ≠ 0) (hn : isName h = false) (n e : Nat) (o : Option (List (List UInt8))) (ho : (o = none ∧ e = 93) ∨ (o = some [] ∧ e = 125 ∧ n % 2 = 0)) :
    Sq ⟨n, n, o, e⟩ ({ h with left := h.left - 1 } :: st) (D ++ [⟨if o.isSome = true then 6 else 5, (n : Int), []⟩]) (s.hold o) := by
  refine ⟨hd, hm, ?_, ?_⟩
  · show (if o.isSome = true then 3 else 1) = (if n = n then (if o.isSome = true then 3 else 1) else _)
    rw [if_pos rfl]
  · refine ⟨by show 0 + n = n; omega, rfl, ?_, ?_, ⟨_, _, rfl, nx_after k hl hn⟩, D, rfl, k.place hl⟩
    · rcases ho with ⟨rfl, rfl⟩ | ⟨rfl, rfl, -⟩ <;> rfl
    · rcases ho with ⟨rfl, rfl⟩ | ⟨rfl, rfl, h9⟩
      · intro h8; cases h8
      · exact fun _ => h9
end Jb
end Go.Proofs.YtpaikjlcachabaaDoor
