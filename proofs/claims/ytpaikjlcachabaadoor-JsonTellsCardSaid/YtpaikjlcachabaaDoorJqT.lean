/- Joined by merge.py: JqE JqF. -/
import Derived.Test.YtpaikjlcachabaaDoorJbB
import Derived.Test.YtpaikjlcachabaaDoorJbD
namespace Go.Proofs.YtpaikjlcachabaaDoor
set_option linter.unusedVariables false
set_option linter.unusedSimpArgs false
namespace Jq
open Js Je
def leafT (v : Vl) : List UInt8 := if v.kind = 0 then [110, 117, 108, 108] else if v.kind = 1 then [102, 97, 108, 115, 101] else if v.kind = 2 then [116, 114, 117, 101] else if v.kind = 3 then v.text else Jb.quoted v.text
def sepT (k : Int) (i : Nat) : List UInt8 := if k = 6 ∧ i % 2 = 1 then [58] else if 0 < i then [44] else []
def joinT (k : Int) : Nat → List (List UInt8) → List UInt8
  | _, [] => []
  | i, m :: M => sepT k i ++ m ++ joinT k (i + 1) M
def openT (k : Int) : List UInt8 := if k = 5 then [91] else [123]
def closeT (k : Int) : List UInt8 := if k = 5 then [93] else [125]
def nodeT (k : Int) (M : List (List UInt8)) : List UInt8 := openT k ++ joinT k 0 M ++ closeT k
def nmE : Nat → List Vl → List (List UInt8)
  | _, [] => []
  | p, h :: H => if p % 2 = 0 then h.text :: nmE (p + 1) H else nmE (p + 1) H
def strE : Nat → List Vl → Prop
  | _, [] => True
  | p, h :: H => (p % 2 = 0 → h.kind = 4) ∧ strE (p + 1) H
/-- values with all that they hold; those that stand outermost; what is told of each; how deep; whether no object has a name twice -/
inductive Fo : List Vl → List Vl → List (List UInt8) → Nat → Bool → Prop
  | nil : Fo [] [] [] 0 true
  | leaf {v : Vl} {N H M d q} : 0 ≤ v.kind → v.kind ≤ 4 → v.kids = 0 → Fo N H M d q → Fo (v :: N) (v :: H) (leafT v :: M) d q
  | node {v : Vl} {K HK MK dK qK N H M d q} : v.kind = 5 ∨ v.kind = 6 → v.text = [] → v.kids = (HK.length : Int) → (v.kind = 6 → strE 0 HK ∧ HK.length % 2 = 0) → Fo K HK MK dK qK → Fo N H M d q →
      Fo (v :: (K ++ N)) (v :: H) (nodeT v.kind MK :: M) (max (dK + 1) d) ((qK && (decide (v.kind ≠ 6) || decide ((nmE 0 HK).Nodup))) && q)
theorem Fo.lens {N H M d q} (h : Fo N H M d q) : M.length = H.length ∧ H.length ≤ N.length := by
  induction h with
  | nil => exact ⟨rfl, Nat.le_refl _⟩
  | leaf _ _ _ _ ih => exact ⟨by simp [ih.1], by simp [ih.2]⟩
  | node _ _ _ _ _ _ _ ih => exact ⟨by simp [ih.1], by simp; omega⟩
theorem Fo.none {H M d q} (h : Fo [] H M d q) : H = [] ∧ M = [] ∧ d = 0 ∧ q = true := by
  cases h; exact ⟨rfl, rfl, rfl, rfl⟩
theorem Fo.empty {N M d q} (h : Fo N [] M d q) : N = [] ∧ M = [] ∧ d = 0 ∧ q = true := by
  cases h; exact ⟨rfl, rfl, rfl, rfl⟩
/-- a frame of Behind: how many are still wanted, of how many, and where it began -/
structure Bf where
  left : Nat
  all : Nat
  fr : Nat
def dec1B : List Bf → List Bf
  | [] => []
  | f :: S => { f with left := f.left - 1 } :: S
def popB : List Bf → List Bf
  | [] => []
  | f :: S => if f.left = 0 then popB S else f :: S
def objB (l : List Vl) (f : Bf) : Bool := decide ((l.getD f.fr ⟨0, 0, []⟩).kind = 6)
def badB (l : List Vl) (S : List Bf) (v : Vl) : Bool := match S with
  | [] => false
  | f :: _ => objB l f && decide ((f.all - f.left) % 2 = 0) && decide (v.kind ≠ 4)
def pushB (v : Vl) (i : Nat) (S : List Bf) : List Bf := if v.kind = 5 ∨ v.kind = 6 then ⟨v.kids.toNat, v.kids.toNat, i⟩ :: S else S
def bhc (l : List Vl) : List Bf → Nat → Nat → List Vl → Int × Nat
  | _, m, _, [] => (-1, m)
  | S, m, i, v :: r =>
    if v.kids < 0 ∨ badB l S v = true then (-1, m)
    else if popB (pushB v i (dec1B S)) = [] then ((i : Int) + 1, max m (pushB v i (dec1B S)).length)
    else bhc l (popB (pushB v i (dec1B S))) (max m (pushB v i (dec1B S)).length) (i + 1) r
def contB (l : List Vl) (S : List Bf) (m i : Nat) (r : List Vl) : Int × Nat := if S = [] then ((i : Int), m) else bhc l S m i r
theorem bhc_step {l : List Vl} {S : List Bf} {m i : Nat} {v : Vl} {r : List Vl} (h0 : 0 ≤ v.kids) (h1 : badB l S v = false) : bhc l S m i (v :: r) = contB l (popB (pushB v i (dec1B S))) (max m (pushB v i (dec1B S)).length) (i + 1) r := by
  rw [bhc, if_neg (by rw [h1]; simp; omega), contB]
  by_cases h : popB (pushB v i (dec1B S)) = []
  · rw [if_pos h, if_pos h]; rfl
  · rw [if_neg h, if_neg h]
theorem popB_live {f : Bf} {S : List Bf} (h : f.left ≠ 0) : popB (f :: S) = f :: S := by rw [popB, if_neg h]
theorem popB_dead {f : Bf} {S : List Bf} (h : f.left = 0) : popB (f :: S) = popB S := by rw [popB, if_pos h]
theorem contB_live {l : List Vl} {f : Bf} {S : List Bf} {m i : Nat} {r : List Vl} (h : f.left ≠ 0) : contB l (popB (f :: S)) m i r = bhc l (f :: S) m i r := by
  rw [popB_live h, contB, if_neg (by simp)]
theorem drop_next {l : List Vl} {i : Nat} {v : Vl} {r : List Vl} (h : l.drop i = v :: r) : l.drop (i + 1) = r ∧ l.getD i ⟨0, 0, []⟩ = v ∧ i < l.length := by
  have hi : i < l.length := by
    refine Classical.byContradiction fun hn => ?_
    rw [List.drop_eq_nil_of_le (by omega)] at h
    cases h
  rw [List.drop_eq_getElem_cons hi] at h
  injection h with h1 h2
  exact ⟨h2, by rw [List.getD, List.getElem?_eq_getElem hi, h1]; rfl, hi⟩
theorem drop_more {l : List Vl} : ∀ (K : List Vl) {i : Nat} {r : List Vl}, l.drop i = K ++ r → l.drop (i + K.length) = r
  | [], i, r, h => h
  | v :: K, i, r, h => by
    have h1 := (drop_next h).1
    have h2 := drop_more K h1
    rw [List.length_cons, show i + (K.length + 1) = i + 1 + K.length by omega]
    exact h2
/-- Behind, over a forest -/
theorem Fo.bh {l : List Vl} {N H M d q} (h : Fo N H M d q) : ∀ (f : Bf) (S : List Bf) (m i : Nat) (r : List Vl), l.drop i = N ++ r → H ≠ [] → H.length ≤ f.left → f.left ≤ f.all → (objB l f = true → strE (f.all - f.left) H) →
    bhc l (f :: S) m i (N ++ r) = contB l (popB ({ f with left := f.left - H.length } :: S)) (max m (S.length + 1 + d)) (i + N.length) r := by
  induction h with
  | nil => intro f S m i r _ h0; exact absurd rfl h0
  | @leaf v N H M d q hk0 hk4 hkd h ih =>
    intro f S m i r hd _ hl ha hs
    rw [List.length_cons] at hl
    have hb : badB l (f :: S) v = false := by
      rw [badB]
      cases ho : objB l f with
      | false => rfl
      | true =>
        have h1 := (hs ho).1
        by_cases hp : (f.all - f.left) % 2 = 0
        · rw [h1 hp]; simp
        · simp [hp]
    have hpush : pushB v i (dec1B (f :: S)) = { f with left := f.left - 1 } :: S := by rw [pushB, if_neg (by omega)]; rfl
    rw [List.cons_append, bhc_step (by omega) hb, hpush, List.length_cons]
    by_cases hN : H = []
    · subst hN
      obtain ⟨rfl, rfl, rfl, rfl⟩ := h.empty
      rfl
    · rw [contB_live (by show f.left - 1 ≠ 0; have : 0 < H.length := List.length_pos_iff.2 hN; omega)]
      rw [ih { f with left := f.left - 1 } S _ (i + 1) r (drop_next hd).1 hN (by show H.length ≤ f.left - 1; omega) (by show f.left - 1 ≤ f.all; omega) (fun ho => by
        have h1 := (hs ho).2
        rw [show f.all - (f.left - 1) = f.all - f.left + 1 by omega]
        exact h1)]
      have e1 : f.left - 1 - H.length = f.left - (H.length + 1) := by omega
      have e2 : max (max m (S.length + 1)) (S.length + 1 + d) = max m (S.length + 1 + d) := by omega
      have e3 : i + 1 + N.length = i + (N.length + 1) := by omega
      show contB l (popB ({ f with left := f.left - 1 - H.length } :: S)) _ _ r = _
      rw [e1, e2, e3]
      rfl
  | @node v K HK MK dK qK N H M d q hk ht hkd ho hK h ihK ih =>
    intro f S m i r hd _ hl ha hs
    rw [List.length_cons] at hl
    have hb : badB l (f :: S) v = false := by
      rw [badB]
      cases ho : objB l f with
      | false => rfl
      | true =>
        have h1 := (hs ho).1
        by_cases hp : (f.all - f.left) % 2 = 0
        · rw [h1 hp]; simp
        · simp [hp]
    have hkn : v.kids.toNat = HK.length := by omega
    have hpush : pushB v i (dec1B (f :: S)) = ⟨HK.length, HK.length, i⟩ :: { f with left := f.left - 1 } :: S := by rw [pushB, if_pos hk, hkn]; rfl
    obtain ⟨hd1', hd2, hd3⟩ := drop_next hd
    have hd1 : l.drop (i + 1) = K ++ (N ++ r) := by rw [← List.append_assoc]; exact hd1'
    have hd4 := drop_more K hd1
    rw [List.cons_append, List.append_assoc, bhc_step (by omega) hb, hpush, List.length_cons, List.length_cons]
    -- behind what it holds
    have hold : contB l (popB (⟨HK.length, HK.length, i⟩ :: { f with left := f.left - 1 } :: S)) (max m (S.length + 1 + 1)) (i + 1) (K ++ (N ++ r)) = contB l (popB ({ f with left := f.left - 1 } :: S)) (max m (S.length + 1 + (dK + 1))) (i + 1 + K.length) (N ++ r) := by
      by_cases hKe : HK = []
      · subst hKe
        obtain ⟨rfl, rfl, rfl, rfl⟩ := hK.empty
        rw [popB_dead rfl]
        rfl
      · rw [contB_live (by show HK.length ≠ 0; have := List.length_pos_iff.2 hKe; omega)]
        rw [ihK ⟨HK.length, HK.length, i⟩ _ _ (i + 1) (N ++ r) hd1 hKe (Nat.le_refl _) (Nat.le_refl _) (fun hob => by
          have h6 : v.kind = 6 := by rw [objB, hd2] at hob; exact of_decide_eq_true hob
          show strE (HK.length - HK.length) HK
          rw [Nat.sub_self]
          exact (ho h6).1)]
        rw [popB_dead (by show HK.length - HK.length = 0; omega), List.length_cons]
        congr 1
        omega
    rw [hold]
    by_cases hN : H = []
    · subst hN
      obtain ⟨rfl, rfl, rfl, rfl⟩ := h.empty
      have e1 : i + 1 + K.length = i + (v :: (K ++ [])).length := by simp; omega
      have e2 : max (dK + 1) 0 = dK + 1 := Nat.max_zero _
      rw [e1, e2]
      rfl
    · rw [contB_live (by show f.left - 1 ≠ 0; have : 0 < H.length := List.length_pos_iff.2 hN; omega)]
      rw [ih { f with left := f.left - 1 } S _ (i + 1 + K.length) r hd4 hN (by show H.length ≤ f.left - 1; omega) (by show f.left - 1 ≤ f.all; omega) (fun ho => by
        have h1 := (hs ho).2
        rw [show f.all - (f.left - 1) = f.all - f.left + 1 by omega]
        exact h1)]
      have e1 : f.left - 1 - H.length = f.left - (H.length + 1) := by omega
      have e2 : max (max m (S.length + 1 + (dK + 1))) (S.length + 1 + d) = max m (S.length + 1 + max (dK + 1) d) := by omega
      have e3 : i + 1 + K.length + N.length = i + (v :: (K ++ N)).length := by simp; omega
      show contB l (popB ({ f with left := f.left - 1 - H.length } :: S)) _ _ r = _
      rw [e1, e2, e3]
      rfl
/-- Behind one value -/
theorem Fo.bhOne {l : List Vl} {N : List Vl} {v : Vl} {B d q} (h : Fo N [v] [B] d q) (i : Nat) (r : List Vl) (hd : l.drop i = N ++ r) : bhc l [] 0 i (N ++ r) = (((i + N.length : Nat) : Int), d) := by
  generalize hH : [v] = H at h
  generalize hM : [B] = M at h
  cases h with
  | nil => cases hH
  | @leaf v' N H M d q hk0 hk4 hkd h =>
    injection hH with h1 h2
    subst h2
    obtain ⟨rfl, rfl, rfl, rfl⟩ := h.empty
    rw [List.cons_append, bhc_step (by omega) rfl, show pushB v' i (dec1B []) = [] by rw [pushB, if_neg (by omega)]; rfl]
    rfl
  | @node v' K HK MK dK qK N H M d q hk ht hkd ho hK h =>
    injection hH with h1 h2
    subst h2
    obtain ⟨rfl, rfl, rfl, rfl⟩ := h.empty
    obtain ⟨hd1', hd2, hd3⟩ := drop_next hd
    have hd1 : l.drop (i + 1) = K ++ ([] ++ r) := by rw [← List.append_assoc]; exact hd1'
    have hkn : v'.kids.toNat = HK.length := by omega
    rw [List.cons_append, List.append_assoc, List.nil_append, bhc_step (by omega) rfl, show pushB v' i (dec1B []) = [⟨HK.length, HK.length, i⟩] by rw [pushB, if_pos hk, hkn]; rfl]
    by_cases hKe : HK = []
    · subst hKe
      obtain ⟨rfl, rfl, rfl, rfl⟩ := hK.empty
      rfl
    · rw [contB_live (by show HK.length ≠ 0; have := List.length_pos_iff.2 hKe; omega)]
      rw [hK.bh (l := l) ⟨HK.length, HK.length, i⟩ [] _ (i + 1) r hd1 hKe (Nat.le_refl _) (Nat.le_refl _) (fun hob => by
        have h6 : v'.kind = 6 := by rw [objB, hd2] at hob; exact of_decide_eq_true hob
        show strE (HK.length - HK.length) HK
        rw [Nat.sub_self]
        exact (ho h6).1)]
      rw [popB_dead (by show HK.length - HK.length = 0; omega)]
      show ((((i + 1 + K.length : Nat)) : Int), max (max 0 1) (0 + 1 + dK)) = _
      congr 1
      · congr 1; simp; omega
      · show _ = max (dK + 1) 0; omega
end Jq
end Go.Proofs.YtpaikjlcachabaaDoor
namespace Go.Proofs.YtpaikjlcachabaaDoor
set_option linter.unusedVariables false
set_option linter.unusedSimpArgs false
namespace Jq
open Js Je
theorem Fo.append {N1 H1 M1 d1 q1} (h : Fo N1 H1 M1 d1 q1) {N2 H2 M2 d2 q2} (k : Fo N2 H2 M2 d2 q2) : Fo (N1 ++ N2) (H1 ++ H2) (M1 ++ M2) (max d1 d2) (q1 && q2) := by
  induction h with
  | nil =>
    rw [Nat.zero_max, Bool.true_and]
    exact k
  | leaf a b c h ih => exact .leaf a b c ih
  | @node v K HK MK dK qK N H M d q hk ht hkd ho hK h ihK ih =>
    have h1 := Fo.node hk ht hkd ho hK ih
    rw [← List.append_assoc] at h1
    rw [Nat.max_assoc, Bool.and_assoc]
    exact h1
theorem Fo.split {N H M d q} (h : Fo N H M d q) : ∀ k, k ≤ H.length → ∃ N1 N2 d1 d2 q1 q2, N = N1 ++ N2 ∧ Fo N1 (H.take k) (M.take k) d1 q1 ∧ Fo N2 (H.drop k) (M.drop k) d2 q2 ∧ d = max d1 d2 ∧ q = (q1 && q2) := by
  induction h with
  | nil =>
    intro k hk
    have : k = 0 := by simpa using hk
    subst this
    exact ⟨[], [], 0, 0, true, true, rfl, .nil, .nil, rfl, rfl⟩
  | @leaf v N H M d q a b c h ih =>
    intro k hk
    cases k with
    | zero => exact ⟨[], _, 0, _, true, _, rfl, .nil, .leaf a b c h, by simp, by simp⟩
    | succ k =>
      obtain ⟨N1, N2, d1, d2, q1, q2, rfl, h1, h2, rfl, rfl⟩ := ih k (by simpa using hk)
      exact ⟨v :: N1, N2, d1, d2, q1, q2, rfl, .leaf a b c h1, h2, rfl, rfl⟩
  | @node v K HK MK dK qK N H M d q hk ht hkd ho hK h ihK ih =>
    intro k hkl
    cases k with
    | zero => exact ⟨[], _, 0, _, true, _, rfl, .nil, .node hk ht hkd ho hK h, by simp, by simp⟩
    | succ k =>
      obtain ⟨N1, N2, d1, d2, q1, q2, rfl, h1, h2, rfl, rfl⟩ := ih k (by simpa using hkl)
      exact ⟨v :: (K ++ N1), N2, _, d2, _, q2, by simp, .node hk ht hkd ho hK h1, h2, by rw [Nat.max_assoc], by simp only [Bool.and_assoc]⟩
theorem strE_cons {p : Nat} {v : Vl} {H : List Vl} (h1 : p % 2 = 0 → v.kind = 4) (h2 : strE (p + 1) H) : strE p (v :: H) := ⟨h1, h2⟩
theorem bad_no {l : List Vl} {f : Bf} {S : List Bf} {v : Vl} (h : badB l (f :: S) v = false) : objB l f = true → (f.all - f.left) % 2 = 0 → v.kind = 4 := fun ho hp => by
  rw [badB, ho] at h
  simp [hp] at h
  exact h
theorem bh_first {l : List Vl} {S : List Bf} {m i : Nat} {v : Vl} {r : List Vl} (h0 : 0 ≤ v.kids) (h : (bhc l S m i (v :: r)).1 ≠ -1) : badB l S v = false := by
  cases hb : badB l S v with
  | false => rfl
  | true => exact absurd (by rw [bhc, if_pos (.inr hb)]) h
theorem right_shape {v : Vl} (h : rightV Lib.validD v = true) : (0 ≤ v.kind ∧ v.kind ≤ 4 ∧ v.kids = 0) ∨ ((v.kind = 5 ∨ v.kind = 6) ∧ v.text = [] ∧ 0 ≤ v.kids ∧ (v.kind = 6 → v.kids % 2 = 0)) := by
  rw [rightV] at h
  split at h
  · have h1 := of_decide_eq_true h
    exact .inl ⟨by omega, by omega, h1.2⟩
  · split at h
    · rw [Bool.and_eq_true] at h
      exact .inl ⟨by omega, by omega, of_decide_eq_true h.2⟩
    · split at h
      · rw [Bool.and_eq_true] at h
        exact .inl ⟨by omega, by omega, of_decide_eq_true h.2⟩
      · split at h
        · have h1 := of_decide_eq_true h
          exact .inr ⟨.inl ‹_›, h1.1, h1.2, fun h6 => by omega⟩
        · split at h
          · have h1 := of_decide_eq_true h
            exact .inr ⟨.inr ‹_›, h1.1, h1.2.1, fun _ => h1.2.2⟩
          · cases h
theorem bh_inv {l : List Vl} : ∀ (n : Nat) (r : List Vl) (f : Bf) (S : List Bf) (m i : Nat), r.length < n → l.drop i = r → (∀ v ∈ r, rightV Lib.validD v = true) → f.left ≠ 0 → f.left ≤ f.all → (bhc l (f :: S) m i r).1 ≠ -1 →
    ∃ N H M d q r2, r = N ++ r2 ∧ H ≠ [] ∧ Fo N H M d q ∧ H.length = f.left ∧ (objB l f = true → strE (f.all - f.left) H)
  | 0, r, _, _, _, _, hn, _, _, _, _, _ => absurd hn (Nat.not_lt_zero _)
  | n + 1, [], f, S, m, i, hn, _, _, _, _, h => absurd (by rw [bhc]) h
  | n + 1, v :: r, f, S, m, i, hn, hd, hr, hf, hfa, h => by
    rw [List.length_cons] at hn
    have hv := hr v (List.mem_cons_self ..)
    have hrr : ∀ x ∈ r, rightV Lib.validD x = true := fun x hx => hr x (List.mem_cons_of_mem _ hx)
    obtain ⟨hd1, hd2, hd3⟩ := drop_next hd
    have h0 : 0 ≤ v.kids := by rcases right_shape hv with ⟨_, _, h3⟩ | ⟨_, _, h3, _⟩ <;> omega
    have hb := bh_first h0 h
    have hbn := bad_no hb
    -- the value that stands first, with what stands behind it
    have first : ∀ (K : List Vl) (B : List UInt8) (d0 : Nat) (q0 : Bool) (r1 : List Vl) (m1 i1 : Nat), r = K ++ r1 → l.drop i1 = r1 → Fo (v :: K) [v] [B] d0 q0 → (contB l (popB ({ f with left := f.left - 1 } :: S)) m1 i1 r1).1 ≠ -1 →
        ∃ N H M d q r2, v :: r = N ++ r2 ∧ H ≠ [] ∧ Fo N H M d q ∧ H.length = f.left ∧ (objB l f = true → strE (f.all - f.left) H) := fun K B d0 q0 r1 m1 i1 hrk hdi hF h9 => by
      by_cases h1 : f.left = 1
      · exact ⟨v :: K, [v], [B], d0, q0, r1, by rw [hrk]; rfl, by simp, hF, by rw [h1]; rfl, fun ho => ⟨hbn ho, trivial⟩⟩
      · rw [contB_live (by show f.left - 1 ≠ 0; omega)] at h9
        obtain ⟨N, H, M, d, q, r2, hr2, hH, hF2, hHl, hs⟩ := bh_inv n r1 { f with left := f.left - 1 } S m1 i1 (by rw [hrk, List.length_append] at hn; omega) hdi (fun x hx => hrr x (by rw [hrk]; exact List.mem_append_right _ hx)) (by show f.left - 1 ≠ 0; omega) (by show f.left - 1 ≤ f.all; omega) h9
        refine ⟨v :: K ++ N, v :: H, B :: M, _, _, r2, by rw [hrk, hr2]; simp, by simp, hF.append hF2, by rw [List.length_cons, hHl]; show f.left - 1 + 1 = f.left; omega, fun ho => ⟨hbn ho, ?_⟩⟩
        have h8 := hs ho
        rw [show f.all - ({ f with left := f.left - 1 } : Bf).left = f.all - f.left + 1 by show f.all - (f.left - 1) = _; omega] at h8
        exact h8
    rw [bhc_step h0 hb] at h
    rcases right_shape hv with ⟨hk0, hk4, hkd⟩ | ⟨hk, ht, hkd, h6⟩
    · rw [show pushB v i (dec1B (f :: S)) = { f with left := f.left - 1 } :: S by rw [pushB, if_neg (by omega)]; rfl] at h
      exact first [] (leafT v) 0 true r _ (i + 1) rfl hd1 (.leaf hk0 hk4 hkd .nil) h
    · obtain ⟨c, hc⟩ := Int.eq_ofNat_of_zero_le hkd
      rw [show pushB v i (dec1B (f :: S)) = ⟨c, c, i⟩ :: { f with left := f.left - 1 } :: S by rw [pushB, if_pos hk, hc]; rfl] at h
      by_cases hc0 : c = 0
      · rw [popB_dead (by exact hc0)] at h
        have hF := Fo.node (v := v) hk ht (HK := []) (by rw [hc, hc0]; rfl) (fun _ => ⟨trivial, rfl⟩) .nil .nil
        exact first [] _ _ _ r _ (i + 1) rfl hd1 hF h
      · rw [contB_live (by exact hc0)] at h
        obtain ⟨K, HK, MK, dK, qK, r1, hrk, hHK, hFK, hHKl, hsK⟩ := bh_inv n r ⟨c, c, i⟩ ({ f with left := f.left - 1 } :: S) _ (i + 1) (by omega) hd1 hrr hc0 (Nat.le_refl _) h
        have h7 := hFK.bh (l := l) ⟨c, c, i⟩ ({ f with left := f.left - 1 } :: S) (max m (⟨c, c, i⟩ :: { f with left := f.left - 1 } :: S : List Bf).length) (i + 1) r1 (by rw [hd1, hrk]) hHK (Nat.le_of_eq hHKl) (Nat.le_refl _) hsK
        rw [← hrk] at h7
        rw [h7, popB_dead (by show c - HK.length = 0; rw [hHKl]; exact Nat.sub_self _)] at h
        have hF := Fo.node (v := v) hk ht (HK := HK) (by rw [hc, hHKl]) (fun h6' => ⟨by
          have h8 := hsK (by rw [objB, hd2]; exact decide_eq_true h6')
          rw [show (⟨c, c, i⟩ : Bf).all - (⟨c, c, i⟩ : Bf).left = 0 from Nat.sub_self _] at h8
          exact h8, by have h9 := h6 h6'; rw [hc] at h9; have : HK.length = c := hHKl; omega⟩) hFK .nil
        rw [List.append_nil] at hF
        exact first K _ _ _ r1 _ (i + 1 + K.length) hrk (drop_more K (by rw [hd1, hrk])) hF h
theorem bh_tree {l : List Vl} (hr : ∀ v ∈ l, rightV Lib.validD v = true) (h : (bhc l [] 0 0 l).1 = (l.length : Int)) (hne : l ≠ []) : ∃ v B d q, Fo l [v] [B] d q ∧ (bhc l [] 0 0 l).2 = d := by
  cases hl : l with
  | nil => exact absurd hl hne
  | cons v r =>
    have hd0 : l.drop 0 = v :: r := by rw [hl]; rfl
    obtain ⟨hd1, hd2, hd3⟩ := drop_next hd0
    have hv := hr v (by rw [hl]; exact List.mem_cons_self ..)
    have hrr : ∀ x ∈ r, rightV Lib.validD x = true := fun x hx => hr x (by rw [hl]; exact List.mem_cons_of_mem _ hx)
    have h0 : 0 ≤ v.kids := by rcases right_shape hv with ⟨_, _, h3⟩ | ⟨_, _, h3, _⟩ <;> omega
    have hb : badB l [] v = false := rfl
    have one : ∀ (K : List Vl) (B : List UInt8) (d : Nat) (q : Bool), r = K → Fo (v :: K) [v] [B] d q → ∃ v' B d q, Fo (v :: r) [v'] [B] d q ∧ (bhc (v :: r) [] 0 0 (v :: r)).2 = d := fun K B d q hk hF => by
      subst hk
      have h5 := hF.bhOne (l := v :: r) 0 [] (by simp)
      rw [List.append_nil] at h5
      exact ⟨v, B, d, q, hF, by rw [h5]⟩
    have hs := bhc_step (l := l) (S := []) (m := 0) (i := 0) (v := v) (r := r) h0 hb
    have h' : (bhc l [] 0 0 (v :: r)).1 = ((r.length + 1 : Nat) : Int) := by have h2 := h; rw [hl] at h2 ⊢; exact h2
    rw [hs] at h'
    rcases right_shape hv with ⟨hk0, hk4, hkd⟩ | ⟨hk, ht, hkd, h6⟩
    · rw [show pushB v 0 (dec1B []) = [] by rw [pushB, if_neg (by omega)]; rfl] at h'
      have h2 : ((0 + 1 : Nat) : Int) = ((r.length + 1 : Nat) : Int) := h'
      have h3 : r = [] := List.length_eq_zero_iff.1 (by omega)
      exact one [] (leafT v) 0 true h3 (.leaf hk0 hk4 hkd .nil)
    · obtain ⟨c, hc⟩ := Int.eq_ofNat_of_zero_le hkd
      rw [show pushB v 0 (dec1B []) = [⟨c, c, 0⟩] by rw [pushB, if_pos hk, hc]; rfl] at h'
      by_cases hc0 : c = 0
      · rw [popB_dead (by exact hc0)] at h'
        have h2 : ((0 + 1 : Nat) : Int) = ((r.length + 1 : Nat) : Int) := h'
        have h3 : r = [] := List.length_eq_zero_iff.1 (by omega)
        exact one [] _ _ _ h3 (Fo.node (v := v) hk ht (HK := []) (by rw [hc, hc0]; rfl) (fun _ => ⟨trivial, rfl⟩) .nil .nil)
      · rw [contB_live (by exact hc0)] at h'
        obtain ⟨K, HK, MK, dK, qK, r1, hrk, hHK, hFK, hHKl, hsK⟩ := bh_inv (r.length + 1) r ⟨c, c, 0⟩ [] _ (0 + 1) (Nat.lt_succ_self _) hd1 hrr hc0 (Nat.le_refl _) (by rw [h']; omega)
        have h7 := hFK.bh (l := l) ⟨c, c, 0⟩ [] (max 0 ([⟨c, c, 0⟩] : List Bf).length) (0 + 1) r1 (by rw [hd1, hrk]) hHK (Nat.le_of_eq hHKl) (Nat.le_refl _) hsK
        rw [← hrk] at h7
        rw [h7, popB_dead (by show c - HK.length = 0; rw [hHKl]; exact Nat.sub_self _)] at h'
        have h2 : ((0 + 1 + K.length : Nat) : Int) = ((r.length + 1 : Nat) : Int) := h'
        have h3 : r1 = [] := by
          have h4 := congrArg List.length hrk
          rw [List.length_append] at h4
          exact List.length_eq_zero_iff.1 (by omega)
        subst h3
        rw [List.append_nil] at hrk
        have hF := Fo.node (v := v) hk ht (HK := HK) (by rw [hc, hHKl]) (fun h6' => ⟨by
          have h8 := hsK (by rw [objB, hd2]; exact decide_eq_true h6')
          rw [show (⟨c, c, 0⟩ : Bf).all - (⟨c, c, 0⟩ : Bf).left = 0 from Nat.sub_self _] at h8
          exact h8, by have h9 := h6 h6'; rw [hc] at h9; have : HK.length = c := hHKl; omega⟩) hFK .nil
        rw [List.append_nil] at hF
        exact one K _ _ _ hrk hF
end Jq
end Go.Proofs.YtpaikjlcachabaaDoor
