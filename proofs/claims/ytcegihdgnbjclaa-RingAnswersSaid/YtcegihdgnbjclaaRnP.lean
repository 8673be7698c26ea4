/- Keys by their names, in plain words. -/
import Derived.Maps.OwnSet
import Derived.Maps.OwnOps
import Derived.Sort.KeysCollected
import Derived.Sort.Walk0
namespace Go.Proofs.Ytcegihdgnbjclaa
set_option linter.unusedVariables false
set_option linter.unusedSimpArgs false
namespace Rn
/-- an entry -/
structure En where
  name : List UInt8
  key : List UInt8
def okE (e : En) : Bool := decide (1 ≤ e.name.length ∧ e.name.length ≤ 128 ∧ 1 ≤ e.key.length ∧ e.key.length ≤ 1024)
def names (L : List En) : List (List UInt8) := L.map (·.name)
theorem names_app (L M : List En) : names (L ++ M) = names L ++ names M := List.map_append
/-- what a list of keys comes to: nought, or an error -/
def newGo : List En → List En → Nat
  | _, [] => 0
  | S, e :: l => if okE e = false then 2 else if e.name ∈ names S then 13 else newGo (S ++ [e]) l
def newE (l : List En) : Nat := if 64 < l.length then 10 else newGo [] l
theorem newGo_nodup : ∀ (l S : List En), (names S).Nodup → newGo S l = 0 → (names (S ++ l)).Nodup
  | [], S, h, _ => by rw [List.append_nil]; exact h
  | e :: l, S, h, h0 => by
    rw [newGo] at h0
    by_cases h1 : okE e = false
    · rw [if_pos h1] at h0; cases h0
    · rw [if_neg h1] at h0
      by_cases h2 : e.name ∈ names S
      · rw [if_pos h2] at h0; cases h0
      · rw [if_neg h2] at h0
        have := newGo_nodup l (S ++ [e]) (by
          rw [names_app, List.nodup_append]
          refine ⟨h, by simp [names], ?_⟩
          intro a ha b hb
          simp [names] at hb
          subst hb
          exact fun hab => h2 (hab ▸ ha)) h0
        rw [List.append_assoc] at this
        exact this
theorem newE_nodup {l : List En} (h : newE l = 0) : (names l).Nodup ∧ l.length ≤ 64 := by
  rw [newE] at h
  by_cases h1 : 64 < l.length
  · rw [if_pos h1] at h; cases h
  · rw [if_neg h1] at h
    exact ⟨by have := newGo_nodup l [] List.nodup_nil h; rwa [List.nil_append] at this, by omega⟩
theorem newE_le (l : List En) : newE l = 0 ∨ newE l = 2 ∨ newE l = 10 ∨ newE l = 13 := by
  have h : ∀ (l S : List En), newGo S l = 0 ∨ newGo S l = 2 ∨ newGo S l = 10 ∨ newGo S l = 13 := by
    intro l
    induction l with
    | nil => intro S; exact .inl rfl
    | cons e l ih =>
      intro S
      rw [newGo]
      split
      · exact .inr (.inl rfl)
      · split
        · exact .inr (.inr (.inr rfl))
        · exact ih _
  rw [newE]
  split
  · exact .inr (.inr (.inl rfl))
  · exact h l []
/-- the place of a name -/
def plc (x : List UInt8) : List En → Option Nat
  | [] => none
  | e :: l => if e.name = x then some 0 else (plc x l).map (· + 1)
theorem plc_none {x : List UInt8} : ∀ {L : List En}, plc x L = none ↔ x ∉ names L
  | [] => by simp [plc, names]
  | e :: l => by
    rw [plc]
    by_cases h : e.name = x
    · rw [if_pos h]; simp [names, h]
    · rw [if_neg h]
      simp only [Option.map_eq_none_iff, plc_none (L := l)]
      simp [names, Ne.symm h]
theorem plc_some {x : List UInt8} : ∀ {L : List En} {i : Nat}, plc x L = some i → ∃ e, L[i]? = some e ∧ e.name = x ∧ ∀ j < i, ∀ e', L[j]? = some e' → e'.name ≠ x
  | [], i, h => by cases h
  | e :: l, i, h => by
    rw [plc] at h
    by_cases h1 : e.name = x
    · rw [if_pos h1] at h; cases h
      exact ⟨e, rfl, h1, fun j hj => absurd hj (Nat.not_lt_zero j)⟩
    · rw [if_neg h1] at h
      obtain ⟨j, hj, rfl⟩ := Option.map_eq_some_iff.1 h
      obtain ⟨e', h2, h3, h4⟩ := plc_some hj
      refine ⟨e', h2, h3, fun k hk e2 h5 => ?_⟩
      cases k with
      | zero => cases h5; exact h1
      | succ k => exact h4 k (by omega) e2 h5
theorem plc_app_new {x : List UInt8} : ∀ {L : List En} {e : En}, plc x (L ++ [e]) = match plc x L with | some i => some i | none => if e.name = x then some L.length else none
  | [], e => by
    rw [List.nil_append, plc, plc]
    by_cases h : e.name = x <;> simp [h, plc]
  | a :: L, e => by
    rw [List.cons_append, plc, plc]
    by_cases h : a.name = x
    · rw [if_pos h, if_pos h]
    · rw [if_neg h, if_neg h, plc_app_new]
      cases plc x L with
      | some i => rfl
      | none => by_cases h2 : e.name = x <;> simp [h2]
theorem plc_lt {x : List UInt8} {L : List En} {i : Nat} (h : plc x L = some i) : i < L.length := by
  obtain ⟨e, h1, -, -⟩ := plc_some h
  exact (List.getElem?_eq_some_iff.1 h1).1
/-- the names, rising -/
def srt (L : List En) : List (List UInt8) := (names L).mergeSort leB
theorem srt_len (L : List En) : (srt L).length = L.length := by rw [srt, List.length_mergeSort, names, List.length_map]
theorem leB_trans (a b c : List UInt8) (h1 : leB a b = true) (h2 : leB b c = true) : leB a c = true := by
  simp only [leB, decide_eq_true_eq] at *; exact List.le_trans h1 h2
theorem leB_total (a b : List UInt8) : (leB a b || leB b a) = true := by
  simp only [leB, Bool.or_eq_true, decide_eq_true_eq]; exact List.le_total a b
theorem leB_anti {a b : List UInt8} (h1 : leB a b = true) (h2 : leB b a = true) : a = b := by
  simp only [leB, decide_eq_true_eq] at *; exact List.le_antisymm h1 h2
/-- sorted, and made of these: the names, rising -/
theorem sorted_eq {l m : List (List UInt8)} (hp : l.Perm m) (hs : l.Pairwise fun a b => leB a b = true) : l = m.mergeSort leB :=
  List.Perm.eq_of_pairwise (le := fun a b => leB a b = true) (fun a b _ _ h1 h2 => leB_anti h1 h2) hs (List.pairwise_mergeSort leB_trans leB_total m) (hp.trans (List.mergeSort_perm m leB).symm)
/-- the middle of one step of putting a name in its place: what stands ahead is in order, what stands behind is greater -/
structure Ins (O : List (List UInt8)) (s : List UInt8) (P Q : List (List UInt8)) : Prop where
  eq : O = P ++ Q
  gt : ∀ q ∈ Q, leB s q = true
theorem Ins.start (O : List (List UInt8)) (s : List UInt8) : Ins O s O [] := ⟨by simp, fun q hq => by cases hq⟩
theorem Ins.step {O P Q : List (List UInt8)} {s p : List UInt8} (h : Ins O s (P ++ [p]) Q) (hp : leB s p = true) : Ins O s P (p :: Q) :=
  ⟨by rw [h.eq]; simp, fun q hq => by rcases List.mem_cons.1 hq with rfl | hq; exact hp; exact h.gt q hq⟩
theorem Ins.done {O P Q : List (List UInt8)} {s : List UInt8} (h : Ins O s P Q) (hO : O.Pairwise fun a b => leB a b = true) (hl : P = [] ∨ ∃ P' p, P = P' ++ [p] ∧ leB p s = true) : (P ++ s :: Q).Pairwise fun a b => leB a b = true := by
  rw [h.eq] at hO
  rw [List.pairwise_append] at hO ⊢
  obtain ⟨h1, h2, h3⟩ := hO
  refine ⟨h1, List.pairwise_cons.2 ⟨h.gt, h2⟩, ?_⟩
  have hps : ∀ p ∈ P, leB p s = true := by
    rcases hl with rfl | ⟨P', p, rfl, hp⟩
    · intro p hp; cases hp
    · intro q hq
      rcases List.mem_append.1 hq with hq | hq
      · rw [List.pairwise_append] at h1
        exact leB_trans _ _ _ (h1.2.2 q hq p (by simp)) hp
      · simp at hq; subst hq; exact hp
  intro a ha b hb
  rcases List.mem_cons.1 hb with rfl | hb
  · exact hps a ha
  · exact h3 a ha b hb
theorem Ins.perm {O P Q : List (List UInt8)} {s : List UInt8} (h : Ins O s P Q) : (P ++ s :: Q).Perm (O ++ [s]) := by
  rw [h.eq]
  have h1 : (P ++ s :: Q).Perm (P ++ (Q ++ [s])) := List.Perm.append_left P (List.perm_append_comm (l₁ := [s]) (l₂ := Q))
  rw [← List.append_assoc] at h1
  exact h1
theorem bl_lt (x y : List UInt8) : Op.bytesLess x y = decide (x < y) := bytesLess_eq x y
theorem gt_leB {x y : List UInt8} (h : (!(Op.bytesLess x y || x == y)) = true) : leB y x = true := by
  simp only [leB, decide_eq_true_eq]
  rw [bl_lt] at h
  simp at h
  exact List.not_lt.1 h.1
theorem not_gt_leB {x y : List UInt8} (h : (!(Op.bytesLess x y || x == y)) = false) : leB x y = true := by
  simp only [leB, decide_eq_true_eq]
  rw [bl_lt] at h
  simp at h
  rcases List.le_total x y with h1 | h1
  · exact h1
  · rw [h h1]; exact List.le_refl y
end Rn
end Go.Proofs.Ytcegihdgnbjclaa
