import Derived.Test.YtikgonlhdkknkaaGreatDoorCuH
set_option linter.unusedVariables false
set_option linter.unusedSimpArgs false
namespace Go.Proofs.YtikgonlhdkknkaaGreatDoor
namespace Co
open Dr (Rs Lm has lack at0S)
structure Am where
 kind : Nat
 num : Nat
 text : List UInt8
deriving DecidableEq
def kindT (t : UInt8) : Nat := t.toNat / 32
def infT (t : UInt8) : Nat := t.toNat % 32
def headE (t : UInt8) : Int := if 27 < infT t then 9 else if kindT t = 7 ∧ (infT t < 20 ∨ 23 < infT t) then 11 else 0
def widT (t : UInt8) : Nat := if infT t < 24 then 0 else 2 ^ (infT t - 24)
def short (w n : Nat) : Bool := if w = 0 then true else if w = 1 then decide (24 ≤ n) else decide (2 ^ (4 * w) ≤ n)
def holds (k : Nat) : Bool := decide (4 ≤ k ∧ k ≤ 6)
section
variable (S : List UInt8) (L : Lm)
def argB (q : Nat) : Nat → Rs Nat
 | 0 => .ok 0
 | i + 1 => match argB q i with
  | .no e p b => .no e p b
  | .ok n => if has S L (q + i + 1) = true then .ok (256 * n + at0S S (q + i + 1)) else lack S L
def argR (p : Nat) : Rs Nat :=
 match argB S L p (widT (S.getD p 0)) with
 | .no e q b => .no e q b
 | .ok n =>
  if widT (S.getD p 0) = 0 then .ok (infT (S.getD p 0))
  else if short (widT (S.getD p 0)) n = true then .ok n else .no 9 p false
structure Fr where
 p0 : Nat
 left : Nat
 pairs : Bool
 value : Bool
 keys : Bool
 last : List UInt8
inductive St where
 | el (G : List Fr) (l : List Am) (p : Nat)
 | pend (G : List Fr) (l : List Am) (a p : Nat)
 | loop (G : List Fr) (l : List Am) (p : Nat)
variable (txt : List UInt8 → Bool) (less : List UInt8 → List UInt8 → Bool)
def elS (G : List Fr) (l : List Am) (p : Nat) : Rs St :=
 if has S L p = false then lack S L
 else if L.items ≤ l.length then .no 10 p false
 else if headE (S.getD p 0) ≠ 0 then .no (headE (S.getD p 0)) p false
 else match argR S L p with
  | .no e q b => .no e q b
  | .ok n =>
   if kindT (S.getD p 0) = 2 ∨ kindT (S.getD p 0) = 3 then
    (if n ≠ 0 ∧ has S L (p + 1 + widT (S.getD p 0) + n - 1) = false then lack S L
    else if kindT (S.getD p 0) = 3 ∧ txt (Dr.part S (p + 1 + widT (S.getD p 0)) (p + 1 + widT (S.getD p 0) + n)) = false then .no 9 p false
    else .ok (.pend G (l ++ [⟨kindT (S.getD p 0), 0, Dr.part S (p + 1 + widT (S.getD p 0)) (p + 1 + widT (S.getD p 0) + n)⟩]) p (p + 1 + widT (S.getD p 0) + n)))
   else if holds (kindT (S.getD p 0)) = true then
    (if L.depth ≤ G.length then .no 10 p false
    else .ok (.loop (⟨p, if kindT (S.getD p 0) = 6 then 1 else n, decide (kindT (S.getD p 0) = 5), false, false, []⟩ :: G) (l ++ [⟨kindT (S.getD p 0), n, []⟩]) (p + 1 + widT (S.getD p 0))))
   else .ok (.pend G (l ++ [⟨kindT (S.getD p 0), n, []⟩]) p (p + 1 + widT (S.getD p 0)))
def pendS (G : List Fr) (l : List Am) (a p : Nat) : Rs St :=
 match G with
 | [] => .ok (.loop [] l p)
 | f :: G' =>
  if f.pairs = true ∧ f.value = false then
   (if f.keys = true ∧ less f.last (Dr.part S a p) = false then .no 9 a false
   else .ok (.loop ({ f with keys := true, value := true, last := Dr.part S a p } :: G') l p))
  else .ok (.loop ({ f with value := false, left := f.left - 1 } :: G') l p)
def loopS (f : Fr) (G : List Fr) (l : List Am) (p : Nat) : St := if f.left = 0 then .pend G l f.p0 p else .el (f :: G) l p
def fin (l : List Am) (p : Nat) : Rs (List Am) :=
 if p < S.length then (if has S L p = true then .no 9 p false else lack S L) else .ok l
inductive Runs : St → Rs (List Am) → Prop
 | el {G l p s r} : elS S L txt G l p = .ok s → Runs s r → Runs (.el G l p) r
 | elNo {G l p e q b} : elS S L txt G l p = .no e q b → Runs (.el G l p) (.no e q b)
 | pend {G l a p s r} : pendS S less G l a p = .ok s → Runs s r → Runs (.pend G l a p) r
 | pendNo {G l a p e q b} : pendS S less G l a p = .no e q b → Runs (.pend G l a p) (.no e q b)
 | loop {f G l p r} : Runs (loopS f G l p) r → Runs (.loop (f :: G) l p) r
 | fin {l p} : Runs (.loop [] l p) (fin S L l p)
theorem Runs.same {s : St} {r r' : Rs (List Am)} (h : Runs S L txt less s r) : Runs S L txt less s r' → r = r' := by
 induction h with
 | el h1 _ ih => intro h'; cases h' with
  | el h2 h3 => rw [h1] at h2; cases h2; exact ih h3
  | elNo h2 => rw [h1] at h2; cases h2
 | elNo h1 => intro h'; cases h' with
  | el h2 h3 => rw [h1] at h2; cases h2
  | elNo h2 => rw [h1] at h2; cases h2; rfl
 | pend h1 _ ih => intro h'; cases h' with
  | pend h2 h3 => rw [h1] at h2; cases h2; exact ih h3
  | pendNo h2 => rw [h1] at h2; cases h2
 | pendNo h1 => intro h'; cases h' with
  | pend h2 h3 => rw [h1] at h2; cases h2
  | pendNo h2 => rw [h1] at h2; cases h2; rfl
 | loop _ ih => intro h'; cases h' with
  | loop h3 => exact ih h3
 | fin => intro h'; cases h' with
  | fin => rfl
end
def widN (n : Nat) : Nat := if n < 24 then 0 else if n < 256 then 1 else if n < 65536 then 2 else if n < 4294967296 then 4 else 8
def infN (n : Nat) : Nat := if n < 24 then n else if n < 256 then 24 else if n < 65536 then 25 else if n < 4294967296 then 26 else 27
def bytesN : Nat → Nat → List UInt8
 | 0, _ => []
 | w + 1, n => UInt8.ofNat (n / 256 ^ w) :: bytesN w n
def hdN (k n : Nat) : List UInt8 := UInt8.ofNat (32 * k + infN n) :: bytesN (widN n) n
theorem bytesN_length : ∀ (w n : Nat), (bytesN w n).length = w
 | 0, _ => rfl
 | w + 1, n => by rw [bytesN, lco, bytesN_length w n]
theorem hdN_length (k n : Nat) : (hdN k n).length = widN n + 1 := by rw [hdN, lco, bytesN_length]
theorem short_iff (w n : Nat) (hw : w = 1 ∨ w = 2 ∨ w = 4 ∨ w = 8) (hn : n < 256 ^ w) : short w n = true ↔ widN n = w := by
 rcases hw with rfl | rfl | rfl | rfl
 ·rw [short, if_neg (by decide), if_pos rfl, decide_eq_true_iff, widN]
  have h1 : n < 256 := by simpa using hn
  repeat' split
  all_goals omega
 ·rw [short, if_neg (by decide), if_neg (by decide), decide_eq_true_iff, widN]
  have h1 : n < 65536 := by simpa using hn
  have h2 : (2 : Nat) ^ (4 * 2) = 256 := by decide
  rw [h2]
  repeat' split
  all_goals omega
 ·rw [short, if_neg (by decide), if_neg (by decide), decide_eq_true_iff, widN]
  have h1 : n < 4294967296 := by simpa using hn
  have h2 : (2 : Nat) ^ (4 * 4) = 65536 := by decide
  rw [h2]
  repeat' split
  all_goals omega
 ·rw [short, if_neg (by decide), if_neg (by decide), decide_eq_true_iff, widN]
  have h2 : (2 : Nat) ^ (4 * 8) = 4294967296 := by decide
  rw [h2]
  repeat' split
  all_goals omega
/-! a text that is cut off, or stands ahead of another one; limits -/
structure LmLe (L L' : Lm) : Prop where
 d : L.depth ≤ L'.depth
 i : L.items ≤ L'.items
 b : L.bytes ≤ L'.bytes
section
variable {S : List UInt8} {L L' : Lm} {a : Nat} {m : UInt8}
theorem part_of {q : Nat} {b R : List UInt8} (h : S.drop q = b ++ R) : Dr.part S q (q + b.length) = b := by
 rw [Dr.part, h, show q + b.length - q = b.length by omega, List.take_left' rfl]
theorem drop_more {q : Nat} {b R : List UInt8} (h : S.drop q = b ++ R) : S.drop (q + b.length) = R := by
 rw [← List.drop_drop, h, List.drop_left' rfl]
end
end Co
end Go.Proofs.YtikgonlhdkknkaaGreatDoor
namespace Go.Proofs.YtikgonlhdkknkaaGreatDoor
namespace Co
open Dr (Rs Lm has lack at0S)
section
variable {S : List UInt8} {L L' : Lm} {txt : List UInt8 → Bool} {ls : List UInt8 → List UInt8 → Bool}
inductive ElOk (S : List UInt8) (L : Lm) (txt : List UInt8 → Bool) (G : List Fr) (l : List Am) (p n : Nat) : St → Prop
 | text : kindT (S.getD p 0) = 2 ∨ kindT (S.getD p 0) = 3 → (n = 0 ∨ has S L (p + 1 + widT (S.getD p 0) + n - 1) = true) → (kindT (S.getD p 0) = 3 → txt (Dr.part S (p + 1 + widT (S.getD p 0)) (p + 1 + widT (S.getD p 0) + n)) = true) →
   ElOk S L txt G l p n (.pend G (l ++ [⟨kindT (S.getD p 0), 0, Dr.part S (p + 1 + widT (S.getD p 0)) (p + 1 + widT (S.getD p 0) + n)⟩]) p (p + 1 + widT (S.getD p 0) + n))
 | hold : holds (kindT (S.getD p 0)) = true → G.length < L.depth →
   ElOk S L txt G l p n (.loop (⟨p, if kindT (S.getD p 0) = 6 then 1 else n, decide (kindT (S.getD p 0) = 5), false, false, []⟩ :: G) (l ++ [⟨kindT (S.getD p 0), n, []⟩]) (p + 1 + widT (S.getD p 0)))
 | plain : ¬ (kindT (S.getD p 0) = 2 ∨ kindT (S.getD p 0) = 3) → holds (kindT (S.getD p 0)) = false →
   ElOk S L txt G l p n (.pend G (l ++ [⟨kindT (S.getD p 0), n, []⟩]) p (p + 1 + widT (S.getD p 0)))
theorem holds_not {k : Nat} (h : holds k = true) : ¬ (k = 2 ∨ k = 3) := by
 have h1 : 4 ≤ k ∧ k ≤ 6 := of_decide_eq_true h
 omega
theorem elS_ok {G : List Fr} {l : List Am} {p : Nat} {s : St} (hs : elS S L txt G l p = .ok s) : has S L p = true ∧ l.length < L.items ∧ headE (S.getD p 0) = 0 ∧ ∃ n, argR S L p = .ok n ∧ ElOk S L txt G l p n s := by
 rw [elS] at hs
 by_cases h0 : has S L p = false
 ·rw [if_pos h0, lack] at hs; cases hs
 rw [if_neg h0] at hs
 by_cases h1 : L.items ≤ l.length
 ·rw [if_pos h1] at hs; cases hs
 rw [if_neg h1] at hs
 by_cases h2 : headE (S.getD p 0) ≠ 0
 ·rw [if_pos h2] at hs; cases hs
 rw [if_neg h2] at hs
 refine ⟨by simpa using h0, by omega, Decidable.byContradiction h2, ?_⟩
 cases hA : argR S L p with
 | no e q b => rw [hA] at hs; cases hs
 | ok n =>
  rw [hA] at hs
  dsimp only at hs
  refine ⟨n, rfl, ?_⟩
  by_cases h3 : kindT (S.getD p 0) = 2 ∨ kindT (S.getD p 0) = 3
  ·rw [if_pos h3] at hs
   by_cases h4 : n ≠ 0 ∧ has S L (p + 1 + widT (S.getD p 0) + n - 1) = false
   ·rw [if_pos h4, lack] at hs; cases hs
   rw [if_neg h4] at hs
   split at hs
   ·cases hs
   ·rename_i h5
    cases hs
    refine .text h3 ?_ ?_
    ·by_cases h6 : n = 0
     ·exact .inl h6
     ·exact .inr (by cases h7 : has S L (p + 1 + widT (S.getD p 0) + n - 1) with | true => rfl | false => exact absurd ⟨h6, h7⟩ h4)
    ·intro h6
     cases h7 : txt (Dr.part S (p + 1 + widT (S.getD p 0)) (p + 1 + widT (S.getD p 0) + n)) with
     | true => rfl
     | false => exact absurd ⟨h6, h7⟩ h5
  ·rw [if_neg h3] at hs
   by_cases h4 : holds (kindT (S.getD p 0)) = true
   ·rw [if_pos h4] at hs
    by_cases h5 : L.depth ≤ G.length
    ·rw [if_pos h5] at hs; cases hs
    ·rw [if_neg h5] at hs; cases hs; exact .hold h4 (by omega)
   ·rw [if_neg h4] at hs; cases hs; exact .plain h3 (by simpa using h4)
theorem elS_mk {G : List Fr} {l : List Am} {p n : Nat} {s : St} (h0 : has S L p = true) (h1 : l.length < L.items) (h2 : headE (S.getD p 0) = 0) (hA : argR S L p = .ok n) (h : ElOk S L txt G l p n s) : elS S L txt G l p = .ok s := by
 rw [elS, if_neg (by rw [h0]; decide), if_neg (by omega), if_neg (by rw [h2]; decide), hA]
 cases h with
 | text h3 h4 h5 =>
  dsimp only
  rw [if_pos h3, if_neg, if_neg]
  ·rintro ⟨h6, h7⟩; rw [h5 h6] at h7; cases h7
  ·rintro ⟨h6, h7⟩
   rcases h4 with h4 | h4
   ·exact h6 h4
   ·rw [h4] at h7; cases h7
 | hold h3 h4 =>
  dsimp only
  rw [if_neg (holds_not h3), if_pos h3, if_neg (by omega)]
 | plain h3 h4 =>
  dsimp only
  rw [if_neg h3, if_neg (by rw [h4]; decide)]
theorem argB_more (hm : ∀ q, has S L q = true → has S L' q = true) (q : Nat) : ∀ (i n : Nat), argB S L q i = .ok n → argB S L' q i = .ok n
 | 0, n, hn => hn
 | i + 1, n, hn => by
  rw [argB] at hn ⊢
  cases hB : argB S L q i with
  | no e p b => rw [hB] at hn; cases hn
  | ok m =>
   rw [hB] at hn
   rw [argB_more hm q i m hB]
   dsimp only at hn ⊢
   cases hh : has S L (q + i + 1) with
   | false => rw [hh, if_neg (by decide)] at hn; rw [lack] at hn; cases hn
   | true =>
    rw [hh, if_pos rfl] at hn
    rw [hm _ hh, if_pos rfl]
    exact hn
theorem elS_items {G : List Fr} {l : List Am} {p : Nat} {s : St} (hs : elS S L txt G l p = .ok s) : l.length < L.items := (elS_ok hs).2.1
def stL : St → List Am
 | .el _ l _ => l
 | .pend _ l _ _ => l
 | .loop _ l _ => l
def stP : St → Nat
 | .el _ _ p => p
 | .pend _ _ _ p => p
 | .loop _ _ p => p
theorem elS_len {G : List Fr} {l : List Am} {p : Nat} {s : St} (hs : elS S L txt G l p = .ok s) : (stL s).length = l.length + 1 := by
 obtain ⟨h0, h1, h2, n, hA, h⟩ := elS_ok hs
 cases h <;> simp [stL]
theorem pendS_ok {G : List Fr} {l : List Am} {a p : Nat} {s : St} (hs : pendS S ls G l a p = .ok s) : stL s = l ∧ stP s = p := by
 cases G with
 | nil => cases hs; exact ⟨rfl, rfl⟩
 | cons f G =>
  simp only [pendS] at hs
  split at hs
  ·split at hs
   ·cases hs
   ·cases hs; exact ⟨rfl, rfl⟩
  ·cases hs; exact ⟨rfl, rfl⟩
theorem loopS_ok (f : Fr) (G : List Fr) (l : List Am) (p : Nat) : stL (loopS f G l p) = l ∧ stP (loopS f G l p) = p := by
 rw [loopS]
 split <;> exact ⟨rfl, rfl⟩
theorem fin_ok {l l0 : List Am} {p : Nat} (h : fin S L l0 p = .ok l) : l0 = l ∧ ¬ p < S.length := by
 rw [fin] at h
 split at h
 ·split at h
  ·cases h
  ·rw [lack] at h; cases h
 ·rename_i h1; cases h; exact ⟨rfl, h1⟩
structure Off (S S' : List UInt8) (L L' : Lm) (a : Nat) (e : Int) (b : Bool) : Prop where
 hs : ∀ q, has S L q = true → (has S' L' q = true ∧ q < a) ∨ (has S' L' q = false ∧ a ≤ q)
 eq : ∀ q, q < a → S'.getD q 0 = S.getD q 0
 pt : ∀ x y, y ≤ a → Dr.part S' x y = Dr.part S x y
 lk : ∀ {α : Type}, (lack S' L' : Rs α) = .no e a b
 dp : L.depth ≤ L'.depth
 en : a < S.length
section
variable {S' : List UInt8} {a : Nat} {e : Int} {b : Bool}
end
section
variable {m : UInt8}
end
end
end Co
end Go.Proofs.YtikgonlhdkknkaaGreatDoor
namespace Go.Proofs.YtikgonlhdkknkaaGreatDoor
namespace Co
open Dr (Rs Lm has lack at0S)
def need (a : Am) : Nat := if a.kind = 6 then 1 else if a.kind = 5 then 2 * a.num else a.num
def tell (a : Am) : List UInt8 := if a.kind = 2 ∨ a.kind = 3 then hdN a.kind a.text.length ++ a.text else hdN a.kind a.num
def keysOk : List (List UInt8) → Bool
 | k :: _ :: k2 :: r => Op.bytesLess k k2 && keysOk (k2 :: r)
 | _ => true
def ordA (k : Nat) (M : List (List UInt8)) : Bool := decide (k ≠ 5) || keysOk M
inductive Its : Nat → List Am → List (List UInt8) → Bool → Prop
 | nil : Its 0 [] [] true
 | leaf {a : Am} {d N M o} : holds a.kind = false → Its d N M o → Its d (a :: N) (tell a :: M) o
 | node {a : Am} {dK K MK oK d N M o} : holds a.kind = true → MK.length = need a → Its dK K MK oK → Its d N M o →
   Its (max (dK + 1) d) (a :: (K ++ N)) ((hdN a.kind a.num ++ MK.flatten) :: M) ((oK && ordA a.kind MK) && o)
theorem Its.split {d N M o} (h : Its d N M o) : ∀ k, k ≤ M.length → ∃ K R d1 d2 o1 o2, N = K ++ R ∧ Its d1 K (M.take k) o1 ∧ Its d2 R (M.drop k) o2 ∧ d = max d1 d2 ∧ o = (o1 && o2) := by
 induction h with
 | nil =>
  intro k hk
  obtain rfl : k = 0 := by simpa using hk
  exact ⟨[], [], 0, 0, true, true, rfl, .nil, .nil, rfl, rfl⟩
 | @leaf n d N M o hn h ih =>
  intro k hk
  cases k with
  | zero => exact ⟨[], n :: N, 0, d, true, o, rfl, .nil, .leaf hn h, by simp, by simp⟩
  | succ k =>
   obtain ⟨K, R, d1, d2, o1, o2, rfl, h1, h2, h3, h4⟩ := ih k (by simpa using hk)
   exact ⟨n :: K, R, d1, d2, o1, o2, rfl, .leaf hn h1, h2, h3, h4⟩
 | @node n dK K MK oK d N M o hn hm hK h ihK ih =>
  intro k hk
  cases k with
  | zero => exact ⟨[], _, 0, _, true, _, rfl, .nil, .node hn hm hK h, by simp, by simp⟩
  | succ k =>
   obtain ⟨K2, R, d1, d2, o1, o2, rfl, h1, h2, h3, h4⟩ := ih k (by simpa using hk)
   refine ⟨n :: (K ++ K2), R, _, d2, _, o2, by simp, .node hn hm hK h1, h2, ?_, ?_⟩
   ·rw [h3]; omega
   ·simp only [h4, Bool.and_assoc]
theorem Its.none {d N o} (h : Its d N [] o) : N = [] ∧ d = 0 ∧ o = true := by
 cases h
 exact ⟨rfl, rfl, rfl⟩
theorem Its.pos {d T B o} (h : Its d T [B] o) : 1 ≤ T.length := by
 cases h with
 | leaf _ _ => simp
 | node _ _ _ _ => simp
theorem Its.lens {d N M o} (h : Its d N M o) : M.length ≤ N.length := by
 induction h with
 | nil => exact nle _
 | leaf _ _ ih => rw [lco, lco]; omega
 | node _ _ _ _ ihK ih => rw [lco, lco, lap]; omega
theorem Its.append {d N M o} (h : Its d N M o) : ∀ {d2 N2 M2 o2}, Its d2 N2 M2 o2 → Its (max d d2) (N ++ N2) (M ++ M2) (o && o2) := by
 induction h with
 | nil => intro d2 N2 M2 o2 h2; rw [Nat.zero_max, Bool.true_and]; exact h2
 | leaf hn _ ih => intro d2 N2 M2 o2 h2; exact .leaf hn (ih h2)
 | @node n dK K MK oK d N M o hn hm hK h ihK ih =>
  intro d2 N2 M2 o2 h2
  have h3 := Its.node hn hm hK (ih h2)
  rw [Nat.max_assoc, List.cons_append, List.append_assoc, Bool.and_assoc]
  exact h3
/-! a head that was told, read -/
theorem bytesN_get : ∀ (w n i : Nat), i < w → (bytesN w n).getD i 0 = UInt8.ofNat (n / 256 ^ (w - 1 - i))
 | 0, _, _, h => absurd h (Nat.not_lt_zero _)
 | w + 1, n, 0, _ => by rw [bytesN]; rfl
 | w + 1, n, i + 1, h => by
  rw [bytesN, show (UInt8.ofNat (n / 256 ^ w) :: bytesN w n).getD (i + 1) 0 = (bytesN w n).getD i 0 from rfl, bytesN_get w n i (by omega), show w + 1 - 1 - (i + 1) = w - 1 - i by omega]
theorem getD_drop (S : List UInt8) (p i : Nat) : S.getD (p + i) 0 = (S.drop p).getD i 0 := by
 rw [List.getD, List.getD, List.getElem?_drop]
section
variable {S : List UInt8} {L : Lm}
theorem argB_tell {p w n : Nat} {R : List UInt8} (hS : S.drop (p + 1) = bytesN w n ++ R) (hb : S.length ≤ L.bytes) (hn : n < 256 ^ w) : ∀ i, i ≤ w → argB S L p i = .ok (n / 256 ^ (w - i))
 | 0, _ => by rw [argB, Nat.sub_zero, Nat.div_eq_of_lt hn]
 | i + 1, hi => by
  have hl := congrArg List.length hS
  rw [List.length_drop, lap, bytesN_length] at hl
  have hh : has S L (p + i + 1) = true := dtr ⟨by omega, by omega⟩
  have hg : at0S S (p + i + 1) = n / 256 ^ (w - (i + 1)) % 256 := by
   have h1 : (bytesN w n ++ R).getD i 0 = (bytesN w n).getD i 0 := by
    rw [List.getD, List.getD, List.getElem?_append_left (by rw [bytesN_length]; omega)]
   rw [at0S, show p + i + 1 = p + 1 + i by omega, getD_drop, hS, h1, bytesN_get w n i (by omega), show w - 1 - i = w - (i + 1) by omega]
   simp
  rw [argB, argB_tell hS hb hn i (by omega)]
  dsimp only
  rw [hh, if_pos rfl, hg]
  congr 1
  have h2 : n / 256 ^ (w - i) = n / 256 ^ (w - (i + 1)) / 256 := by
   rw [Nat.div_div_eq_div_mul, ← Nat.pow_succ, show (w - (i + 1)).succ = w - i by omega]
  rw [h2]
  exact Nat.div_add_mod _ _
theorem infN_lt (n : Nat) : infN n < 28 := by
 rw [infN]
 repeat' split
 all_goals omega
theorem hd_first (k n : Nat) (hk : k < 8) : kindT (UInt8.ofNat (32 * k + infN n)) = k ∧ infT (UInt8.ofNat (32 * k + infN n)) = infN n := by
 have h1 := infN_lt n
 have h2 : (UInt8.ofNat (32 * k + infN n)).toNat = 32 * k + infN n := by simp; omega
 rw [kindT, infT, h2]
 omega
theorem widN_inf (n : Nat) : (if infN n < 24 then 0 else 2 ^ (infN n - 24)) = widN n := by
 rw [infN, widN]
 repeat' split
 all_goals first | rfl | omega
theorem widN_fits (n : Nat) (h : n < 18446744073709551616) : widN n = 0 ∨ ((widN n = 1 ∨ widN n = 2 ∨ widN n = 4 ∨ widN n = 8) ∧ n < 256 ^ widN n) := by
 rw [widN]
 repeat' split
 all_goals first | exact .inl rfl | exact .inr ⟨by omega, by simp; omega⟩
theorem argR_tell {p k n : Nat} {R : List UInt8} (hk : k < 8) (hn : n < 18446744073709551616) (hS : S.drop p = hdN k n ++ R) (hb : S.length ≤ L.bytes) : argR S L p = .ok n ∧ kindT (S.getD p 0) = k ∧ infT (S.getD p 0) = infN n ∧ widT (S.getD p 0) = widN n := by
 have hg : S.getD p 0 = UInt8.ofNat (32 * k + infN n) := by
  have h1 := getD_drop S p 0
  rw [Nat.add_zero, hS] at h1
  exact h1
 obtain ⟨h2, h3⟩ := hd_first k n hk
 have h4 : widT (S.getD p 0) = widN n := by rw [hg, widT, h3, widN_inf]
 refine ⟨?_, by rw [hg, h2], by rw [hg, h3], h4⟩
 have hd : S.drop (p + 1) = bytesN (widN n) n ++ R := by
  rw [← List.drop_drop, hS]
  rfl
 rw [argR, h4]
 rcases widN_fits n hn with h5 | ⟨h5, h6⟩
 ·rw [h5]
  show (if _ then _ else _) = _
  rw [if_pos rfl, hg, h3]
  congr 1
  rw [widN] at h5
  rw [infN]
  split at h5
  ·rename_i h7; rw [if_pos h7]
  ·split at h5 <;> (try omega)
   all_goals (split at h5 <;> (try omega))
   all_goals (split at h5 <;> omega)
 ·rw [argB_tell hd hb h6 _ (nle _), Nat.sub_self, Nat.pow_zero, Nat.div_one]
  dsimp only
  rw [if_neg (by omega), if_pos ((short_iff _ _ h5 h6).2 rfl)]
end
end Co
end Go.Proofs.YtikgonlhdkknkaaGreatDoor
namespace Go.Proofs.YtikgonlhdkknkaaGreatDoor
namespace Co
open Dr (Rs Lm has lack at0S)
def adv (f : Fr) (B : List UInt8) : Fr := if f.pairs = true ∧ f.value = false then { f with keys := true, value := true, last := B } else { f with value := false, left := f.left - 1 }
def advs (f : Fr) (M : List (List UInt8)) : Fr := M.foldl adv f
def slots (f : Fr) : Nat := if f.pairs = true then 2 * f.left - (if f.value = true then 1 else 0) else f.left
def okF : Fr → List (List UInt8) → Prop
 | _, [] => True
 | f, B :: M => (f.pairs = true → f.value = false → f.keys = true → Op.bytesLess f.last B = true) ∧ okF (adv f B) M
theorem advs_p0 (M : List (List UInt8)) : ∀ f : Fr, (advs f M).p0 = f.p0 := by
 induction M with
 | nil => intro f; rfl
 | cons B M ih =>
  intro f
  show (advs (adv f B) M).p0 = _
  rw [ih, adv]
  split <;> rfl
theorem slots_adv (f : Fr) (B : List UInt8) (h : 1 ≤ slots f) : slots (adv f B) + 1 = slots f ∧ f.left ≠ 0 := by
 rw [slots] at h ⊢
 rw [adv, slots]
 cases hp : f.pairs <;> cases hv : f.value <;> simp [hp, hv] at h ⊢ <;> omega
theorem slots_advs (M : List (List UInt8)) : ∀ f : Fr, M.length ≤ slots f → slots (advs f M) + M.length = slots f := by
 induction M with
 | nil => intro f _; rfl
 | cons B M ih =>
  intro f h
  rw [lco] at h ⊢
  have h1 := (slots_adv f B (by omega)).1
  have h2 := ih (adv f B) (by omega)
  show slots (advs (adv f B) M) + _ = _
  omega
theorem slots_zero {f : Fr} (h : slots f = 0) (hv : f.value = true → 0 < f.left) : f.left = 0 := by
 rw [slots] at h
 cases hp : f.pairs <;> cases hw : f.value <;> simp [hp, hw] at h hv <;> omega
section
variable {S : List UInt8} {L : Lm} {txt : List UInt8 → Bool}
theorem pend_ok {f : Fr} {G : List Fr} {l : List Am} {a p : Nat} {B : List UInt8} (h : f.pairs = true → f.value = false → f.keys = true → Op.bytesLess f.last B = true) (hB : Dr.part S a p = B) : pendS S Op.bytesLess (f :: G) l a p = .ok (.loop (adv f B :: G) l p) := by
 rw [pendS, hB, adv]
 by_cases h1 : f.pairs = true ∧ f.value = false
 ·rw [if_pos h1, if_pos h1, if_neg]
  rintro ⟨h2, h3⟩
  rw [h h1.1 h1.2 h2] at h3
  cases h3
 ·rw [if_neg h1, if_neg h1]
def okA (txt : List UInt8 → Bool) (a : Am) : Prop := a.num < 18446744073709551616 ∧ a.text.length < 18446744073709551616 ∧
 (((a.kind = 0 ∨ a.kind = 1 ∨ a.kind = 4 ∨ a.kind = 5 ∨ a.kind = 6) ∧ a.text = []) ∨ (a.kind = 2 ∧ a.num = 0) ∨ (a.kind = 3 ∧ a.num = 0 ∧ txt a.text = true) ∨ (a.kind = 7 ∧ a.text = [] ∧ 20 ≤ a.num ∧ a.num ≤ 23))
theorem head_ok {t : UInt8} {k n : Nat} (h1 : kindT t = k) (h2 : infT t = infN n) (h : k = 7 → 20 ≤ n ∧ n ≤ 23) : headE t = 0 := by
 have h3 := infN_lt n
 rw [headE, h1, h2, if_neg (by omega), if_neg]
 rintro ⟨h4, h5⟩
 have h6 := h h4
 have h7 : infN n = n := by rw [infN, if_pos (by omega)]
 omega
theorem elS_leaf (hb : S.length ≤ L.bytes) {G : List Fr} {l : List Am} {p : Nat} {a : Am} {R : List UInt8} (hS : S.drop p = tell a ++ R) (ha : okA txt a) (hh : holds a.kind = false) (hi : l.length < L.items) : elS S L txt G l p = .ok (.pend G (l ++ [a]) p (p + (tell a).length)) := by
 obtain ⟨h1, h2, h3⟩ := ha
 obtain ⟨k, n, x⟩ := a
 have hk : k < 8 := by rcases h3 with ⟨h, -⟩ | ⟨h, -⟩ | ⟨h, -⟩ | ⟨h, -⟩ <;> (dsimp only at h; omega)
 dsimp only at h1 h2 h3 hh hk
 have hl := congrArg List.length hS
 rw [List.length_drop, lap] at hl
 by_cases h23 : k = 2 ∨ k = 3
 ·have ht : tell ⟨k, n, x⟩ = hdN k x.length ++ x := by rw [tell, if_pos h23]
  have hn : n = 0 := by rcases h3 with ⟨h, -⟩ | ⟨-, h⟩ | ⟨-, h, -⟩ | ⟨h, -⟩ <;> omega
  subst hn
  rw [ht, lap, hdN_length] at hl
  rw [ht, List.append_assoc] at hS
  rw [ht, lap, hdN_length]
  obtain ⟨g1, g2, g3, g4⟩ := argR_tell hk h2 hS hb
  have hd := drop_more hS
  rw [hdN_length] at hd
  have hpt := part_of hd
  have hq : p + 1 + widT (S.getD p 0) = p + (widN x.length + 1) := by rw [g4]; omega
  have h0 : has S L p = true := dtr ⟨by omega, by omega⟩
  have hE := ElOk.text (S := S) (L := L) (txt := txt) (G := G) (l := l) (p := p) (n := x.length) (by rw [g2]; exact h23) (by
   by_cases h9 : x.length = 0
   ·exact .inl h9
   ·exact .inr (dtr ⟨by omega, by omega⟩)) (by
   rw [g2, hq, hpt]
   intro h9
   rcases h3 with ⟨h, -⟩ | ⟨h, -⟩ | ⟨-, -, h⟩ | ⟨h, -⟩
   ·omega
   ·omega
   ·exact h
   ·omega)
  rw [g2, hq, hpt, Nat.add_assoc] at hE
  exact elS_mk h0 hi (head_ok g2 g3 (fun h => by omega)) g1 hE
 ·have ht : tell ⟨k, n, x⟩ = hdN k n := by rw [tell, if_neg h23]
  have hx : x = [] := by
   rcases h3 with ⟨-, h⟩ | ⟨h, -⟩ | ⟨h, -⟩ | ⟨-, h, -⟩
   ·exact h
   ·exact absurd (.inl h) h23
   ·exact absurd (.inr h) h23
   ·exact h
  subst hx
  rw [ht, hdN_length] at hl
  rw [ht] at hS
  rw [ht, hdN_length]
  obtain ⟨g1, g2, g3, g4⟩ := argR_tell hk h1 hS hb
  have hq : p + 1 + widT (S.getD p 0) = p + (widN n + 1) := by rw [g4]; omega
  have h0 : has S L p = true := dtr ⟨by omega, by omega⟩
  have hE := ElOk.plain (S := S) (L := L) (txt := txt) (G := G) (l := l) (p := p) (n := n) (by rw [g2]; exact h23) (by rw [g2]; exact hh)
  rw [g2, hq] at hE
  exact elS_mk h0 hi (head_ok g2 g3 (fun h => by rcases h3 with ⟨h9, -⟩ | ⟨h9, -⟩ | ⟨h9, -⟩ | ⟨-, -, h9⟩ <;> omega)) g1 hE
def fr0 (a : Am) (p : Nat) : Fr := ⟨p, if a.kind = 6 then 1 else a.num, decide (a.kind = 5), false, false, []⟩
theorem elS_node (hb : S.length ≤ L.bytes) {G : List Fr} {l : List Am} {p : Nat} {a : Am} {R : List UInt8} (hS : S.drop p = hdN a.kind a.num ++ R) (ha : okA txt a) (hh : holds a.kind = true) (hi : l.length < L.items) (hd : G.length < L.depth) : elS S L txt G l p = .ok (.loop (fr0 a p :: G) (l ++ [a]) (p + (hdN a.kind a.num).length)) := by
 obtain ⟨h1, h2, h3⟩ := ha
 obtain ⟨k, n, x⟩ := a
 dsimp only at h1 h2 h3 hh hS ⊢
 have hk : 4 ≤ k ∧ k ≤ 6 := of_decide_eq_true hh
 have hx : x = [] := by rcases h3 with ⟨-, h⟩ | ⟨h, -⟩ | ⟨h, -⟩ | ⟨h, -⟩ <;> first | exact h | omega
 subst hx
 have hl := congrArg List.length hS
 rw [List.length_drop, lap, hdN_length] at hl
 rw [hdN_length]
 obtain ⟨g1, g2, g3, g4⟩ := argR_tell (by omega) h1 hS hb
 have hq : p + 1 + widT (S.getD p 0) = p + (widN n + 1) := by rw [g4]; omega
 have h0 : has S L p = true := dtr ⟨by omega, by omega⟩
 have hE := ElOk.hold (S := S) (L := L) (txt := txt) (G := G) (l := l) (p := p) (n := n) (by rw [g2]; exact hh) hd
 rw [g2, hq] at hE
 exact elS_mk h0 hi (head_ok g2 g3 (fun h => by omega)) g1 hE
theorem okF_np : ∀ (M : List (List UInt8)) (f : Fr), f.pairs = false → okF f M
 | [], _, _ => trivial
 | B :: M, f, h => ⟨(fun h1 => by rw [h] at h1; cases h1), okF_np M _ (by rw [adv, if_neg (by rw [h]; simp)]; exact h)⟩
theorem okF_keys : ∀ (M : List (List UInt8)) (f : Fr), f.pairs = true → f.value = false → (f.keys = true → ∀ k, M.head? = some k → Op.bytesLess f.last k = true) → keysOk M = true → okF f M
 | [], _, _, _, _, _ => trivial
 | [k], f, hp, hv, hl, _ => ⟨fun _ _ hk => hl hk k rfl, trivial⟩
 | k :: v :: r, f, hp, hv, hl, ho => by
  refine ⟨fun _ _ hk => hl hk k rfl, ?_⟩
  have h1 : adv f k = { f with keys := true, value := true, last := k } := by rw [adv, if_pos ⟨hp, hv⟩]
  rw [h1]
  refine ⟨(fun _ h2 => by cases h2), ?_⟩
  rw [adv, if_neg (by rintro ⟨-, h2⟩; cases h2)]
  refine okF_keys r _ hp rfl (fun _ k2 hk2 => ?_) ?_
  ·cases r with
   | nil => cases hk2
   | cons y r =>
    rw [keysOk, Bool.and_eq_true] at ho
    cases hk2
    exact ho.1
  ·cases r with
   | nil => rfl
   | cons y r => rw [keysOk, Bool.and_eq_true] at ho; exact ho.2
theorem okF_fr0 {a : Am} {p : Nat} {M : List (List UInt8)} (h : ordA a.kind M = true) : okF (fr0 a p) M := by
 by_cases hk : a.kind = 5
 ·rw [ordA, hk] at h
  exact okF_keys M _ (by show decide (a.kind = 5) = true; rw [hk]; rfl) rfl (fun h1 => by cases h1) (by simpa using h)
 ·exact okF_np M _ (dfa hk)
theorem slots_fr0 (a : Am) (p : Nat) : slots (fr0 a p) = need a := by
 rw [slots, fr0, need]
 by_cases h6 : a.kind = 6
 ·rw [h6]; rfl
 ·by_cases h5 : a.kind = 5
  ·rw [h5]; simp
  ·simp [h5, h6]
def wfF (f : Fr) : Prop := f.value = true → 0 < f.left
theorem wfF_adv {f : Fr} (B : List UInt8) (h : 1 ≤ slots f) : wfF (adv f B) := by
 have h1 := (slots_adv f B h).2
 rw [adv]
 split
 ·intro _; show 0 < f.left; omega
 ·intro h2; cases h2
theorem wfF_advs : ∀ (M : List (List UInt8)) (f : Fr), wfF f → M.length ≤ slots f → wfF (advs f M)
 | [], _, h, _ => h
 | B :: M, f, h, hl => by
  rw [lco] at hl
  have h1 := (slots_adv f B (by omega)).1
  exact wfF_advs M (adv f B) (wfF_adv B (by omega)) (by omega)
theorem Its.read (hb : S.length ≤ L.bytes) {d N M o} (h : Its d N M o) : o = true → (∀ a ∈ N, okA txt a) → ∀ (f : Fr) (G : List Fr) (l0 : List Am) (p : Nat) (R : List UInt8), S.drop p = M.flatten ++ R → M.length ≤ slots f → okF f M →
  l0.length + N.length ≤ L.items → G.length + 1 + d ≤ L.depth → ∀ r, Runs S L txt Op.bytesLess (.loop (advs f M :: G) (l0 ++ N) (p + M.flatten.length)) r → Runs S L txt Op.bytesLess (.loop (f :: G) l0 p) r := by
 induction h with
 | nil =>
  intro _ _ f G l0 p R hS hs hO hi hd r hr
  rw [List.append_nil] at hr
  exact hr
 | @leaf a d N M o hn h ih =>
  intro ho hall f G l0 p R hS hs hO hi hd r hr
  rw [List.flatten_cons] at hS hr
  rw [List.append_assoc] at hS
  rw [lap] at hr
  rw [lco] at hi hs
  have hsl := slots_adv f (tell a) (by omega)
  have h1 := elS_leaf (G := f :: G) (l := l0) hb hS (hall a (List.mem_cons_self ..)) hn (by omega)
  have hB := part_of hS
  have h2 := drop_more hS
  have hs1 : loopS f G l0 p = .el (f :: G) l0 p := by rw [loopS, if_neg hsl.2]
  refine Runs.loop ?_
  rw [hs1]
  refine Runs.el h1 (Runs.pend (pend_ok hO.1 hB) (ih ho (fun x hx => hall x (List.mem_cons_of_mem _ hx)) (adv f (tell a)) G (l0 ++ [a]) (p + (tell a).length) R h2 (by omega) hO.2 (by rw [lap]; simp; omega) hd r ?_))
  rw [List.append_assoc, Nat.add_assoc p]
  exact hr
 | @node a dK K MK oK d N M o hn hm hK h ihK ih =>
  intro ho hall f G l0 p R hS hs hO hi hd r hr
  rw [Bool.and_eq_true, Bool.and_eq_true] at ho
  rw [List.flatten_cons] at hS hr
  rw [List.append_assoc] at hS
  rw [lap] at hr
  rw [lco] at hs
  rw [lco, lap] at hi
  have hsl := slots_adv f (hdN a.kind a.num ++ MK.flatten) (by omega)
  have hB := part_of hS
  have h2 := drop_more hS
  have hS2 := hS
  rw [List.append_assoc] at hS2
  have h1 := elS_node (G := f :: G) (l := l0) hb hS2 (hall a (List.mem_cons_self ..)) hn (by omega) (by rw [lco]; omega)
  have hin := drop_more hS2
  have hs1 : loopS f G l0 p = .el (f :: G) l0 p := by rw [loopS, if_neg hsl.2]
  refine Runs.loop ?_
  rw [hs1]
  refine Runs.el h1 (ihK ho.1.1 (fun x hx => hall x (List.mem_cons_of_mem _ (List.mem_append_left _ hx))) (fr0 a p) (f :: G) (l0 ++ [a]) _ _ hin (by rw [slots_fr0, hm]; exact nle _) (okF_fr0 ho.1.2) (by rw [lap]; simp; omega) (by rw [lco]; omega) r ?_)
  have hz : (advs (fr0 a p) MK).left = 0 := by
   have h3 := slots_advs MK (fr0 a p) (by rw [slots_fr0, hm]; exact nle _)
   rw [slots_fr0, hm] at h3
   exact slots_zero (by omega) (wfF_advs MK _ (fun h4 => by cases h4) (by rw [slots_fr0, hm]; exact nle _))
  refine Runs.loop ?_
  rw [loopS, if_pos hz, advs_p0]
  have hpl : p + (hdN a.kind a.num).length + MK.flatten.length = p + (hdN a.kind a.num ++ MK.flatten).length := by rw [lap]; omega
  rw [hpl]
  refine Runs.pend (pend_ok hO.1 hB) (ih ho.2 (fun x hx => hall x (List.mem_cons_of_mem _ (List.mem_append_right _ hx))) (adv f (hdN a.kind a.num ++ MK.flatten)) G (l0 ++ [a] ++ K) _ R h2 (by omega) hO.2 (by rw [lap, lap]; simp; omega) (by omega) r ?_)
  rw [List.append_assoc, List.append_assoc, Nat.add_assoc p]
  exact hr
theorem fin_end {l : List Am} {p : Nat} (h : S.length = p) : Runs S L txt Op.bytesLess (.loop [] l p) (.ok l) := by
 have h2 : Co.fin S L l p = .ok l := by rw [Co.fin, if_neg (by omega)]
 rw [← h2]
 exact Runs.fin
theorem Its.readOne (hb : S.length ≤ L.bytes) {d : Nat} {l : List Am} (h : Its d l [S] true) (hall : ∀ a ∈ l, okA txt a) (hi : l.length ≤ L.items) (hd : d ≤ L.depth) : Runs S L txt Op.bytesLess (.el [] [] 0) (.ok l) := by
 generalize hM : [S] = M at h
 generalize ho : true = o at h
 cases h with
 | nil => cases hM
 | @leaf a d N M o hn h =>
  injection hM with h1 h2
  subst h2
  obtain ⟨rfl, rfl, rfl⟩ := h.none
  have hS : S.drop 0 = tell a ++ [] := by rw [List.append_nil, ← h1]; rfl
  have h3 := elS_leaf (G := []) (l := []) hb hS (hall a (List.mem_cons_self ..)) hn (by rw [lco] at hi; simp; omega)
  refine Runs.el h3 (Runs.pend rfl (fin_end ?_))
  rw [← h1, Nat.zero_add]
 | @node a dK K MK oK d N M o hn hm hK h =>
  injection hM with h1 h2
  subst h2
  obtain ⟨rfl, rfl, rfl⟩ := h.none
  rw [Bool.and_true] at ho
  have ho2 : (oK && ordA a.kind MK) = true := ho.symm
  rw [Bool.and_eq_true] at ho2
  rw [List.append_nil] at hall hi ⊢
  have hS : S.drop 0 = hdN a.kind a.num ++ MK.flatten := by rw [← h1]; rfl
  have h3 := elS_node (G := []) (l := []) hb hS (hall a (List.mem_cons_self ..)) hn (by rw [lco] at hi; simp; omega) (by simp; omega)
  have hin := drop_more hS
  rw [Nat.zero_add] at hin
  rw [Nat.zero_add] at h3
  refine Runs.el h3 (Its.read (R := []) hb hK ho2.1 (fun x hx => hall x (List.mem_cons_of_mem _ hx)) (fr0 a 0) [] ([] ++ [a]) _ (by rw [List.append_nil]; exact hin) (by rw [slots_fr0, hm]; exact nle _) (okF_fr0 ho2.2) (by rw [lco] at hi; simp; omega) (by simp; omega) _ ?_)
  have hz : (advs (fr0 a 0) MK).left = 0 := by
   have h4 := slots_advs MK (fr0 a 0) (by rw [slots_fr0, hm]; exact nle _)
   rw [slots_fr0, hm] at h4
   exact slots_zero (by omega) (wfF_advs MK _ (fun h4 => by cases h4) (by rw [slots_fr0, hm]; exact nle _))
  refine Runs.loop ?_
  rw [loopS, if_pos hz, advs_p0]
  refine Runs.pend rfl (fin_end ?_)
  rw [← lap, ← h1]
end
end Co
end Go.Proofs.YtikgonlhdkknkaaGreatDoor
namespace Go.Proofs.YtikgonlhdkknkaaGreatDoor
namespace Co
open Dr (Rs Lm has lack at0S)
theorem bytesN_snoc : ∀ (i n : Nat), bytesN (i + 1) n = bytesN i (n / 256) ++ [UInt8.ofNat n]
 | 0, n => by rw [bytesN, bytesN, bytesN, Nat.pow_zero, Nat.div_one]; rfl
 | i + 1, n => by
  rw [bytesN, bytesN_snoc i n, bytesN, Nat.div_div_eq_div_mul, show 256 * 256 ^ i = 256 ^ (i + 1) by rw [Nat.pow_succ, Nat.mul_comm], List.cons_append]
section
variable {S : List UInt8} {L : Lm}
theorem argB_inv (q : Nat) : ∀ (i n : Nat), argB S L q i = .ok n → (S.drop (q + 1)).take i = bytesN i n ∧ n < 256 ^ i
 | 0, n, h => by
  rw [argB] at h
  cases h
  exact ⟨by rw [List.take_zero]; rfl, by decide⟩
 | i + 1, n, h => by
  rw [argB] at h
  cases hB : argB S L q i with
  | no e p b => rw [hB] at h; cases h
  | ok m =>
   rw [hB] at h
   dsimp only at h
   cases hh : has S L (q + i + 1) with
   | false => rw [hh, if_neg (by decide), lack] at h; cases h
   | true =>
    rw [hh, if_pos rfl] at h
    have h1 : q + i + 1 < S.length ∧ q + i + 1 < L.bytes := of_decide_eq_true hh
    obtain ⟨h2, h3⟩ := argB_inv q i m hB
    injection h with h4
    have hb : at0S S (q + i + 1) < 256 := by rw [at0S]; exact UInt8.toNat_lt _
    refine ⟨?_, ?_⟩
    ·rw [bytesN_snoc, List.take_add_one, h2, List.getElem?_drop, show q + 1 + i = q + i + 1 by omega, List.getElem?_eq_getElem h1.1]
     have h5 : n / 256 = m := by omega
     have h6 : UInt8.ofNat n = S[q + i + 1]'h1.1 := by
      refine UInt8.toNat_inj.1 ?_
      have h7 : at0S S (q + i + 1) = (S[q + i + 1]'h1.1).toNat := by rw [at0S, List.getD, List.getElem?_eq_getElem h1.1]; rfl
      rw [← h7]
      simp
      omega
     rw [h5, h6]
     rfl
    ·rw [Nat.pow_succ]
     omega
theorem inf_of_wid (n w i : Nat) (h1 : widN n = w) (h2 : (i = 24 ∧ w = 1) ∨ (i = 25 ∧ w = 2) ∨ (i = 26 ∧ w = 4) ∨ (i = 27 ∧ w = 8)) : infN n = i := by
 rw [widN] at h1
 rw [infN]
 repeat' split at h1
 all_goals (simp only [*, if_true, if_false]; omega)
theorem argR_inv {p n : Nat} (h0 : has S L p = true) (he : headE (S.getD p 0) = 0) (hA : argR S L p = .ok n) :
  S.drop p = hdN (kindT (S.getD p 0)) n ++ S.drop (p + 1 + widT (S.getD p 0)) ∧ widT (S.getD p 0) = widN n ∧ n < 18446744073709551616 ∧ p + 1 + widT (S.getD p 0) ≤ S.length := by
 have h1 : p < S.length ∧ p < L.bytes := of_decide_eq_true h0
 obtain ⟨t, ht⟩ : ∃ t, S.getD p 0 = t := ⟨_, rfl⟩
 have hd : S.drop p = t :: S.drop (p + 1) := by
  rw [← ht, List.getD, List.getElem?_eq_getElem h1.1]
  exact (List.getElem_cons_drop (h := h1.1)).symm
 rw [argR] at hA
 rw [ht] at he hA ⊢
 have hi : infT t ≤ 27 := by
  rw [headE] at he
  split at he
  ·cases he
  ·omega
 have htt : t.toNat = 32 * kindT t + infT t := by rw [kindT, infT]; omega
 cases hB : argB S L p (widT t) with
 | no e q b => rw [hB] at hA; cases hA
 | ok m =>
  rw [hB] at hA
  dsimp only at hA
  obtain ⟨hb1, hb2⟩ := argB_inv p _ _ hB
  have hfirst : ∀ k, infN k = infT t → UInt8.ofNat (32 * kindT t + infN k) = t := fun k hk => by
   rw [hk, ← htt]; simp
  by_cases hw : widT t = 0
  ·rw [if_pos hw] at hA
   cases hA
   have h24 : infT t < 24 := by
    rw [widT] at hw
    split at hw
    ·assumption
    ·have := Nat.two_pow_pos (infT t - 24); omega
   have hin : infN (infT t) = infT t := by rw [infN, if_pos h24]
   have hwn : widN (infT t) = 0 := by rw [widN, if_pos h24]
   refine ⟨?_, by rw [hw, hwn], by omega, by omega⟩
   rw [hw, hdN, hwn, hfirst _ hin, bytesN, hd]
   rfl
  ·rw [if_neg hw] at hA
   have h24 : 24 ≤ infT t := by
    refine Nat.le_of_not_lt fun h => hw ?_
    rw [widT, if_pos h]
   have hcase : (infT t = 24 ∧ widT t = 1) ∨ (infT t = 25 ∧ widT t = 2) ∨ (infT t = 26 ∧ widT t = 4) ∨ (infT t = 27 ∧ widT t = 8) := by
    rw [widT, if_neg (by omega)]
    rcases (by omega : infT t = 24 ∨ infT t = 25 ∨ infT t = 26 ∨ infT t = 27) with h | h | h | h <;> rw [h] <;> simp
   cases hs : short (widT t) m with
   | false => rw [hs, if_neg (by decide)] at hA; cases hA
   | true =>
    rw [hs, if_pos rfl] at hA
    cases hA
    have hwn : widN n = widT t := (short_iff _ _ (by omega) hb2).1 hs
    have hin := inf_of_wid n _ _ hwn hcase
    have hlen := congrArg List.length hb1
    rw [List.length_take, List.length_drop, bytesN_length] at hlen
    have hlt : n < 18446744073709551616 := by
     refine nlt hb2 ?_
     rcases hcase with ⟨-, h⟩ | ⟨-, h⟩ | ⟨-, h⟩ | ⟨-, h⟩ <;> rw [h] <;> decide
    refine ⟨?_, hwn.symm, hlt, by omega⟩
    rw [hdN, hwn, hfirst _ hin, hd, ← hb1, List.cons_append, show S.drop (p + 1 + widT t) = (S.drop (p + 1)).drop (widT t) from (List.drop_drop ..).symm, List.take_append_drop]
end
end Co
end Go.Proofs.YtikgonlhdkknkaaGreatDoor
namespace Go.Proofs.YtikgonlhdkknkaaGreatDoor
namespace Co
open Dr (Rs Lm has lack at0S)
theorem okF_inv : ∀ (M : List (List UInt8)) (f : Fr), f.pairs = true → f.value = false → okF f M → keysOk M = true ∧ (f.keys = true → ∀ k, M.head? = some k → Op.bytesLess f.last k = true)
 | [], f, _, _, _ => ⟨rfl, fun _ k hk => by cases hk⟩
 | [k], f, hp, hv, h => ⟨rfl, fun hk x hx => by cases hx; exact h.1 hp hv hk⟩
 | k :: v :: r, f, hp, hv, h => by
  obtain ⟨h1, h2⟩ := h
  have e1 : adv f k = { f with keys := true, value := true, last := k } := by rw [adv, if_pos ⟨hp, hv⟩]
  rw [e1] at h2
  obtain ⟨-, h3⟩ := h2
  rw [adv, if_neg (by rintro ⟨-, h4⟩; cases h4)] at h3
  have ih := okF_inv r { f with keys := true, value := false, last := k, left := f.left - 1 } hp rfl h3
  refine ⟨?_, fun hk x hx => by cases hx; exact h1 hp hv hk⟩
  cases r with
  | nil => rfl
  | cons k2 r2 =>
   rw [keysOk, Bool.and_eq_true]
   exact ⟨ih.2 rfl k2 rfl, ih.1⟩
theorem ordA_of {a : Am} {p : Nat} {M : List (List UInt8)} (h : okF (fr0 a p) M) : ordA a.kind M = true := by
 rw [ordA]
 by_cases hk : a.kind = 5
 ·rw [(okF_inv M (fr0 a p) (by show decide (a.kind = 5) = true; rw [hk]; rfl) rfl h).1, Bool.or_true]
 ·rw [dtr hk]; rfl
section
variable {S : List UInt8} {L : Lm} {txt : List UInt8 → Bool}
theorem pend_inv {f : Fr} {G : List Fr} {l : List Am} {a p : Nat} {s : St} (h : pendS S Op.bytesLess (f :: G) l a p = .ok s) : s = .loop (adv f (Dr.part S a p) :: G) l p ∧ (f.pairs = true → f.value = false → f.keys = true → Op.bytesLess f.last (Dr.part S a p) = true) := by
 rw [pendS] at h
 rw [adv]
 by_cases h1 : f.pairs = true ∧ f.value = false
 ·rw [if_pos h1] at h
  rw [if_pos h1]
  by_cases h2 : f.keys = true ∧ Op.bytesLess f.last (Dr.part S a p) = false
  ·rw [if_pos h2] at h; cases h
  ·rw [if_neg h2] at h
   cases h
   exact ⟨rfl, fun _ _ hk => by cases hq : Op.bytesLess f.last (Dr.part S a p) with | true => rfl | false => exact absurd ⟨hk, hq⟩ h2⟩
 ·rw [if_neg h1] at h
  rw [if_neg h1]
  cases h
  exact ⟨rfl, fun hp hv => absurd ⟨hp, hv⟩ h1⟩
theorem part_tell {p q : Nat} {B : List UInt8} (h : S.drop p = B ++ S.drop q) (hq : p + B.length = q) : Dr.part S p q = B := by
 subst hq
 exact part_of h
theorem leaf_inv {p n : Nat} {a : Am} {q : Nat} (h0 : has S L p = true) (he : headE (S.getD p 0) = 0) (hA : argR S L p = .ok n)
  (h : (∃ x, a = ⟨kindT (S.getD p 0), 0, x⟩ ∧ (kindT (S.getD p 0) = 2 ∨ kindT (S.getD p 0) = 3) ∧ (n = 0 ∨ has S L (p + 1 + widT (S.getD p 0) + n - 1) = true) ∧ (kindT (S.getD p 0) = 3 → txt x = true) ∧ x = Dr.part S (p + 1 + widT (S.getD p 0)) (p + 1 + widT (S.getD p 0) + n) ∧ q = p + 1 + widT (S.getD p 0) + n) ∨
   (a = ⟨kindT (S.getD p 0), n, []⟩ ∧ ¬ (kindT (S.getD p 0) = 2 ∨ kindT (S.getD p 0) = 3) ∧ holds (kindT (S.getD p 0)) = false ∧ q = p + 1 + widT (S.getD p 0))) :
  S.drop p = tell a ++ S.drop q ∧ p + (tell a).length = q ∧ q ≤ S.length ∧ okA txt a ∧ holds a.kind = false := by
 obtain ⟨h1, h2, h3, h4⟩ := argR_inv h0 he hA
 have hk : kindT (S.getD p 0) < 8 := by rw [kindT]; have := (S.getD p 0).toNat_lt; omega
 have hw7 : kindT (S.getD p 0) = 7 → 20 ≤ n ∧ n ≤ 23 := fun h7 => by
  rw [headE] at he
  split at he
  ·cases he
  ·split at he
   ·cases he
   ·rename_i _ h8
    have h9 : 20 ≤ infT (S.getD p 0) ∧ infT (S.getD p 0) ≤ 23 := by
     constructor
     ·exact Nat.le_of_not_lt fun h => h8 ⟨h7, .inl h⟩
     ·exact Nat.le_of_not_lt fun h => h8 ⟨h7, .inr h⟩
    have hw0 : widT (S.getD p 0) = 0 := by rw [widT, if_pos (by omega)]
    rw [argR, hw0] at hA
    have hA2 : (if 0 = 0 then Rs.ok (infT (S.getD p 0)) else _) = Rs.ok n := hA
    rw [if_pos rfl] at hA2
    cases hA2
    exact h9
 generalize S.getD p 0 = t at *
 rcases h with ⟨x, rfl, h23, hh, ht, hx, rfl⟩ | ⟨rfl, h23, hh, rfl⟩
 ·have hle : p + 1 + widT t + n ≤ S.length := by
   rcases hh with rfl | hh
   ·omega
   ·have := (of_decide_eq_true hh : _ < S.length ∧ _ < L.bytes)
    omega
  have hxl : x.length = n := by rw [hx, Dr.part, List.length_take, List.length_drop]; omega
  have hdr : S.drop (p + 1 + widT t) = x ++ S.drop (p + 1 + widT t + n) := by
   rw [hx, Dr.part, show p + 1 + widT t + n - (p + 1 + widT t) = n by omega]
   have := (List.take_append_drop n (S.drop (p + 1 + widT t))).symm
   rw [List.drop_drop] at this
   exact this
  have htl : tell ⟨kindT t, 0, x⟩ = hdN (kindT t) n ++ x := by rw [tell, if_pos h23, hxl]
  refine ⟨by rw [htl, List.append_assoc, ← hdr]; exact h1, by rw [htl, lap, hdN_length, hxl, ← h2]; omega, hle, ⟨by show 0 < _; omega, by show x.length < _; omega, ?_⟩, ?_⟩
  ·rcases h23 with h | h
   ·exact .inr (.inl ⟨h, rfl⟩)
   ·exact .inr (.inr (.inl ⟨h, rfl, ht h⟩))
  ·rcases h23 with h | h <;> (show holds (kindT t) = false; rw [h]; rfl)
 ·have htl : tell ⟨kindT t, n, []⟩ = hdN (kindT t) n := by rw [tell, if_neg h23]
  refine ⟨by rw [htl]; exact h1, by rw [htl, hdN_length, ← h2]; omega, h4, ⟨h3, by show 0 < _; omega, ?_⟩, hh⟩
  have hnh : ¬ (4 ≤ kindT t ∧ kindT t ≤ 6) := of_decide_eq_false hh
  rcases (by omega : kindT t = 0 ∨ kindT t = 1 ∨ kindT t = 7) with h | h | h
  ·exact .inl ⟨.inl h, rfl⟩
  ·exact .inl ⟨.inr (.inl h), rfl⟩
  ·exact .inr (.inr (.inr ⟨h, rfl, hw7 h⟩))
structure Told (S : List UInt8) (L : Lm) (txt : List UInt8 → Bool) (f : Fr) (G : List Fr) (l0 : List Am) (p : Nat) (L' : List Am) : Prop where
 out : ∃ d N M q, Its d N M true ∧ (∀ a ∈ N, okA txt a) ∧ M.length = slots f ∧ S.drop p = M.flatten ++ S.drop q ∧ p + M.flatten.length = q ∧ q ≤ S.length ∧ (d = 0 ∨ G.length + 1 + d ≤ L.depth) ∧ okF f M ∧
  Runs S L txt Op.bytesLess (.loop (advs f M :: G) (l0 ++ N) q) (.ok L')
theorem tell_pos (a : Am) : 1 ≤ (tell a).length := by
 rw [tell]
 split
 ·rw [lap, hdN_length]; omega
 ·rw [hdN_length]; omega
theorem advs_cons (f : Fr) (B : List UInt8) (M : List (List UInt8)) : advs f (B :: M) = advs (adv f B) M := rfl
theorem Runs.tell : ∀ (m : Nat) (f : Fr) (G : List Fr) (l0 : List Am) (p : Nat) (L' : List Am), S.length - p < m → p ≤ S.length → wfF f → Runs S L txt Op.bytesLess (.loop (f :: G) l0 p) (.ok L') → Told S L txt f G l0 p L'
 | 0, f, G, l0, p, L', hm, _, _, _ => absurd hm (by omega)
 | m + 1, f, G, l0, p, L', hm, hp, hwf, hr => by
  by_cases hl : f.left = 0
  ·have hv : f.value = false := by
    cases hv : f.value with
    | false => rfl
    | true => have := hwf hv; omega
   refine ⟨0, [], [], p, .nil, (fun a ha => by cases ha), ?_, rfl, rfl, hp, .inl rfl, trivial, ?_⟩
   ·rw [slots, hl, hv]; simp
   ·rw [List.append_nil]; exact hr
  ·have hs1 : loopS f G l0 p = .el (f :: G) l0 p := by rw [loopS, if_neg hl]
   have hsl : 1 ≤ slots f := by
    rw [slots]
    split
    ·split <;> omega
    ·omega
   have hr1 : Runs S L txt Op.bytesLess (.el (f :: G) l0 p) (.ok L') := by
    cases hr with
    | loop h => rw [hs1] at h; exact h
   -- one item has ended
   have step : ∀ (d0 : Nat) (N0 : List Am) (B : List UInt8) (a q : Nat) (l1 : List Am), a = p → l1 = l0 ++ N0 → Its d0 N0 [B] true → (∀ a ∈ N0, okA txt a) → S.drop p = B ++ S.drop q → p + B.length = q → 1 ≤ B.length → q ≤ S.length → (d0 = 0 ∨ G.length + 1 + d0 ≤ L.depth) →
     Runs S L txt Op.bytesLess (.pend (f :: G) l1 a q) (.ok L') → Told S L txt f G l0 p L' := fun d0 N0 B a q l1 ha hl1 hI hall hS hq hB hqS hd h => by
    subst ha hl1
    generalize hR : (Rs.ok L' : Rs (List Am)) = R at h
    cases h with
    | pendNo h => cases hR
    | pend h9 h10 =>
     subst hR
     obtain ⟨rfl, hord⟩ := pend_inv h9
     rw [part_tell hS hq] at h10 hord
     have hq1 := Runs.tell m (adv f B) G (l0 ++ N0) q L' (by omega) hqS (wfF_adv B hsl) h10
     obtain ⟨d, N, M, q2, hE, hall2, hM, hS2, hq2, hqS2, hd2, hO, hrun⟩ := hq1.out
     have hI2 := hI.append hE
     rw [Bool.true_and] at hI2
     refine ⟨_, _, _, q2, hI2, ?_, ?_, ?_, ?_, hqS2, ?_, ⟨hord, hO⟩, ?_⟩
     ·intro x hx
      rcases List.mem_append.1 hx with h | h
      ·exact hall x h
      ·exact hall2 x h
     ·have h11 := (slots_adv f B hsl).1
      rw [List.singleton_append, lco]; omega
     ·rw [List.singleton_append, List.flatten_cons, List.append_assoc, ← hS2]; exact hS
     ·rw [List.singleton_append, List.flatten_cons, lap]; omega
     ·omega
     ·rw [List.singleton_append, advs_cons, ← List.append_assoc]; exact hrun
   generalize hR : (Rs.ok L' : Rs (List Am)) = R at hr1
   cases hr1 with
   | elNo h => cases hR
   | @el _ _ _ s _ h2 h3 =>
    subst hR
    obtain ⟨h0, hi, he, n, hA, hE⟩ := elS_ok h2
    cases hE with
    | text h23 hh ht =>
     obtain ⟨g1, g2, g3, g4, g5⟩ := leaf_inv (txt := txt) h0 he hA (.inl ⟨_, rfl, h23, hh, ht, rfl, rfl⟩)
     refine step 0 [_] _ p _ _ rfl rfl (.leaf g5 .nil) ?_ g1 g2 (tell_pos _) g3 (.inl rfl) h3
     intro a ha
     rw [List.mem_singleton.1 ha]
     exact g4
    | plain h23 hh =>
     obtain ⟨g1, g2, g3, g4, g5⟩ := leaf_inv (txt := txt) h0 he hA (.inr ⟨rfl, h23, hh, rfl⟩)
     refine step 0 [_] _ p _ _ rfl rfl (.leaf g5 .nil) ?_ g1 g2 (tell_pos _) g3 (.inl rfl) h3
     intro a ha
     rw [List.mem_singleton.1 ha]
     exact g4
    | hold hh hd =>
     obtain ⟨h1, h4, h5, h6⟩ := argR_inv h0 he hA
     have hq0 := Runs.tell m (fr0 ⟨kindT (S.getD p 0), n, []⟩ p) (f :: G) (l0 ++ [({ kind := kindT (S.getD p 0), num := n, text := [] } : Am)]) (p + 1 + widT (S.getD p 0)) L' (by omega) h6 (fun h => by cases h) h3
     obtain ⟨dK, K, MK, q, hEK, hallK, hMK, hSK, hqK, hqS, hdK, hOK, hrun⟩ := hq0.out
     have hz : (advs (fr0 ⟨kindT (S.getD p 0), n, []⟩ p) MK).left = 0 := by
      have h3 := slots_advs MK (fr0 ⟨kindT (S.getD p 0), n, []⟩ p) (by omega)
      exact slots_zero (by omega) (wfF_advs MK _ (fun h4 => by cases h4) (by omega))
     have hrun2 : Runs S L txt Op.bytesLess (.pend (f :: G) (l0 ++ [⟨kindT (S.getD p 0), n, []⟩] ++ K) p q) (.ok L') := by
      cases hrun with
      | loop h => rw [loopS, if_pos hz, advs_p0] at h; exact h
     have hI := Its.node (a := ⟨kindT (S.getD p 0), n, []⟩) hh (by rw [hMK, slots_fr0]) hEK .nil
     rw [ordA_of hOK, List.append_nil] at hI
     refine step _ _ _ p q _ rfl (by rw [List.append_assoc]; rfl) hI ?_ ?_ ?_ ?_ hqS ?_ hrun2
     ·intro a ha
      rcases List.mem_cons.1 ha with rfl | ha
      ·have hk : 4 ≤ kindT (S.getD p 0) ∧ kindT (S.getD p 0) ≤ 6 := of_decide_eq_true hh
       exact ⟨h5, by show 0 < _; omega, .inl ⟨by dsimp only; omega, rfl⟩⟩
      ·exact hallK a ha
     ·rw [List.append_assoc, ← hSK]; exact h1
     ·rw [lap, hdN_length]; dsimp only; omega
     ·rw [lap, hdN_length]; omega
     ·rw [lco] at hd hdK
      rcases hdK with h | h <;> omega
theorem loop_end {N l : List Am} {x : Nat} (h : Runs S L txt Op.bytesLess (.loop [] N x) (.ok l)) : S.length ≤ x ∧ N = l := by
 generalize hR : (Rs.ok l : Rs (List Am)) = R at h
 cases h with
 | fin =>
  have := fin_ok hR.symm
  exact ⟨by omega, this.1⟩
theorem pend_end {N l : List Am} {a x : Nat} (h : Runs S L txt Op.bytesLess (.pend [] N a x) (.ok l)) : S.length ≤ x ∧ N = l := by
 generalize hR : (Rs.ok l : Rs (List Am)) = R at h
 cases h with
 | pendNo h => cases hR
 | pend h9 h10 =>
  subst hR
  cases h9
  exact loop_end h10
theorem Runs.tellOne {l : List Am} (hr : Runs S L txt Op.bytesLess (.el [] [] 0) (.ok l)) : ∃ d, Its d l [S] true ∧ (∀ a ∈ l, okA txt a) ∧ d ≤ L.depth := by
 generalize hR : (Rs.ok l : Rs (List Am)) = R at hr
 cases hr with
 | elNo h => cases hR
 | @el _ _ _ s _ h2 h3 =>
  subst hR
  obtain ⟨h0, hi, he, n, hA, hE⟩ := elS_ok h2
  cases hE with
  | text h23 hh ht =>
   obtain ⟨g1, g2, g3, g4, g5⟩ := leaf_inv (txt := txt) h0 he hA (.inl ⟨_, rfl, h23, hh, ht, rfl, rfl⟩)
   obtain ⟨h8, rfl⟩ := pend_end h3
   rw [List.drop_eq_nil_of_le h8, List.append_nil, List.drop_zero] at g1
   have hI := Its.leaf g5 .nil
   rw [← g1] at hI
   exact ⟨0, hI, fun a ha => by rw [List.mem_singleton.1 ha]; exact g4, Nat.zero_le _⟩
  | plain h23 hh =>
   obtain ⟨g1, g2, g3, g4, g5⟩ := leaf_inv (txt := txt) h0 he hA (.inr ⟨rfl, h23, hh, rfl⟩)
   obtain ⟨h8, rfl⟩ := pend_end h3
   rw [List.drop_eq_nil_of_le h8, List.append_nil, List.drop_zero] at g1
   have hI := Its.leaf g5 .nil
   rw [← g1] at hI
   exact ⟨0, hI, fun a ha => by rw [List.mem_singleton.1 ha]; exact g4, Nat.zero_le _⟩
  | hold hh hd =>
   obtain ⟨h1, h4, h5, h6⟩ := argR_inv h0 he hA
   have hq0 := Runs.tell (S.length + 1) (fr0 ⟨kindT (S.getD 0 0), n, []⟩ 0) [] ([] ++ [({ kind := kindT (S.getD 0 0), num := n, text := [] } : Am)]) (0 + 1 + widT (S.getD 0 0)) l (by omega) h6 (fun h => by cases h) h3
   obtain ⟨dK, K, MK, q, hEK, hallK, hMK, hSK, hqK, hqS, hdK, hOK, hrun⟩ := hq0.out
   have hz : (advs (fr0 ⟨kindT (S.getD 0 0), n, []⟩ 0) MK).left = 0 := by
    have h3 := slots_advs MK (fr0 ⟨kindT (S.getD 0 0), n, []⟩ 0) (by omega)
    exact slots_zero (by omega) (wfF_advs MK _ (fun h4 => by cases h4) (by omega))
   have hrun2 : Runs S L txt Op.bytesLess (.pend [] ([] ++ [⟨kindT (S.getD 0 0), n, []⟩] ++ K) 0 q) (.ok l) := by
    cases hrun with
    | loop h => rw [loopS, if_pos hz, advs_p0] at h; exact h
   obtain ⟨h8, rfl⟩ := pend_end hrun2
   have hI := Its.node (a := ⟨kindT (S.getD 0 0), n, []⟩) hh (by rw [hMK, slots_fr0]) hEK .nil
   rw [ordA_of hOK, List.append_nil] at hI
   have hB : S.drop 0 = (hdN (kindT (S.getD 0 0)) n ++ MK.flatten) ++ S.drop q := by rw [List.append_assoc, ← hSK]; exact h1
   rw [List.drop_eq_nil_of_le h8, List.append_nil, List.drop_zero] at hB
   refine ⟨_, (by have h9 := hI; rw [show (hdN (⟨kindT (S.getD 0 0), n, []⟩ : Am).kind (⟨kindT (S.getD 0 0), n, []⟩ : Am).num ++ MK.flatten) = S from hB.symm] at h9; exact h9), ?_, ?_⟩
   ·intro a ha
    rcases List.mem_cons.1 ha with rfl | ha
    ·have hk : 4 ≤ kindT (S.getD 0 0) ∧ kindT (S.getD 0 0) ≤ 6 := of_decide_eq_true hh
     exact ⟨h5, by show 0 < _; omega, .inl ⟨by dsimp only; omega, rfl⟩⟩
    ·exact hallK a ha
   ·rw [List.length_nil] at hd hdK
    rcases hdK with h | h <;> omega
end
end Co
end Go.Proofs.YtikgonlhdkknkaaGreatDoor
namespace Go.Proofs.YtikgonlhdkknkaaGreatDoor
namespace Co
open Dr (Rs Lm has lack at0S)
structure Ra where
 kind : Int
 num : Nat
 text : List UInt8
deriving DecidableEq
def up (a : Am) : Ra := ⟨(a.kind : Int), a.num, a.text⟩
def dn (a : Ra) : Am := ⟨a.kind.toNat, a.num, a.text⟩
theorem dn_up (a : Am) : dn (up a) = a := by
 obtain ⟨k, n, x⟩ := a
 simp [dn, up]
theorem up_dn {a : Ra} (h : 0 ≤ a.kind) : up (dn a) = a := by
 obtain ⟨k, n, x⟩ := a
 have h : 0 ≤ k := h
 simp [dn, up]
 omega
def rightR (txt : List UInt8 → Bool) (a : Ra) : Bool :=
 if a.kind = 0 ∨ a.kind = 1 ∨ a.kind = 4 ∨ a.kind = 5 ∨ a.kind = 6 then a.text == []
 else if a.kind = 2 then a.num == 0
 else if a.kind = 3 then a.num == 0 && txt a.text
 else if a.kind = 7 then a.text == [] && decide (20 ≤ a.num ∧ a.num ≤ 23)
 else false
structure Tl where
 out : List UInt8
 G : List Fr
 deep : Nat
 done : Bool
 ord : Bool
def putT (b : Bool) (o s : List UInt8) : List UInt8 := if b = true ∨ o.length ≤ 262144 then o ++ s else o
def okB (f : Fr) (B : List UInt8) : Bool := !(f.pairs && !f.value && f.keys && !Op.bytesLess f.last B)
def ends (out : List UInt8) : Nat → List Fr → Bool → List Fr × Bool × Bool
 | _, [], o => ([], true, o)
 | a, f :: G, o => if (adv f (out.drop a)).left = 0 then ends out f.p0 G (o && okB f (out.drop a)) else (adv f (out.drop a) :: G, false, o && okB f (out.drop a))
def tops (out : List UInt8) (f : Fr) (G : List Fr) (o : Bool) : List Fr × Bool × Bool := if f.left = 0 then ends out f.p0 G o else (f :: G, false, o)
theorem ends_cons (out : List UInt8) (a : Nat) (f : Fr) (G : List Fr) (o : Bool) : ends out a (f :: G) o = tops out (adv f (out.drop a)) G (o && okB f (out.drop a)) := by
 rw [ends, tops]
 split
 ·rename_i h
  rw [show (adv f (out.drop a)).p0 = f.p0 by rw [adv]; split <;> rfl]
 ·rfl
def outT (b : Bool) (o : List UInt8) (a : Am) : List UInt8 := if a.kind = 2 ∨ a.kind = 3 then putT b (putT b o (hdN a.kind a.text.length)) a.text else putT b o (hdN a.kind a.num)
def mkT (out : List UInt8) (deep : Nat) (x : List Fr × Bool × Bool) : Tl := ⟨out, x.1, deep, x.2.1, x.2.2⟩
def atomT (b : Bool) (t : Tl) (a : Am) : Tl :=
 if holds a.kind = true then mkT (outT b t.out a) (max t.deep (t.G.length + 1)) (tops (outT b t.out a) (fr0 a t.out.length) t.G t.ord)
 else mkT (outT b t.out a) t.deep (ends (outT b t.out a) t.out.length t.G t.ord)
def fins (t : Tl) : List UInt8 × Int := if t.done = false then ([], 9) else if 32 < t.deep ∨ 262144 < t.out.length then ([], 10) else if t.ord = false then ([], 9) else (t.out, 0)
def go (txt : List UInt8 → Bool) (b : Bool) : List Ra → Tl → List UInt8 × Int
 | [], t => fins t
 | a :: r, t => if t.done = true ∨ rightR txt a = false then ([], 9) else go txt b r (atomT b t (dn a))
def ini : Tl := ⟨[], [], 0, false, true⟩
def enc (txt : List UInt8 → Bool) (l : List Ra) : List UInt8 × Int := if 4096 < l.length then ([], 10) else go txt false l ini
/-! nothing is put any more when the bytes are too many: that changes nothing -/
def shF (f : Fr) : Nat × Bool × Bool := (f.left, f.pairs, f.value)
theorem shF_adv {f g : Fr} (h : shF f = shF g) (B C : List UInt8) : shF (adv f B) = shF (adv g C) := by
 simp only [shF, Prod.mk.injEq] at h ⊢
 obtain ⟨h1, h2, h3⟩ := h
 rw [adv, adv, h2, h3]
 split <;> simp [h1, h2, h3]
theorem ends_sh (out out' : List UInt8) : ∀ (G G' : List Fr) (a a' : Nat) (o o' : Bool), G.map shF = G'.map shF → (ends out a G o).1.map shF = (ends out' a' G' o').1.map shF ∧ (ends out a G o).2.1 = (ends out' a' G' o').2.1
 | [], G', a, a', o, o', h => by
  have : G' = [] := by simpa using h.symm
  subst this
  exact ⟨rfl, rfl⟩
 | f :: G, [], a, a', o, o', h => by simp at h
 | f :: G, g :: G', a, a', o, o', h => by
  rw [List.map_cons, List.map_cons, List.cons.injEq] at h
  have h1 := shF_adv h.1 (out.drop a) (out'.drop a')
  have h2 : (adv f (out.drop a)).left = (adv g (out'.drop a')).left := congrArg Prod.fst h1
  rw [ends, ends, h2]
  split
  ·exact ends_sh out out' G G' _ _ _ _ h.2
  ·exact ⟨by rw [List.map_cons, List.map_cons, h1, h.2], rfl⟩
theorem tops_sh (out out' : List UInt8) {f f' : Fr} {G G' : List Fr} (o o' : Bool) (hf : shF f = shF f') (h : G.map shF = G'.map shF) : (tops out f G o).1.map shF = (tops out' f' G' o').1.map shF ∧ (tops out f G o).2.1 = (tops out' f' G' o').2.1 := by
 have h2 : f.left = f'.left := congrArg Prod.fst hf
 rw [tops, tops, h2]
 split
 ·exact ends_sh out out' G G' _ _ _ _ h
 ·exact ⟨by rw [List.map_cons, List.map_cons, hf, h], rfl⟩
structure Sim (t u : Tl) : Prop where
 deep : t.deep = u.deep
 done : t.done = u.done
 sh : t.G.map shF = u.G.map shF
 eq : t.out.length ≤ 262144 → t = u
 long : 262144 < t.out.length → 262144 < u.out.length
theorem putT_true (o s : List UInt8) : putT true o s = o ++ s := if_pos (.inl rfl)
theorem putT_le (o s : List UInt8) (h : o.length ≤ 262144) (b : Bool) : putT b o s = o ++ s := if_pos (.inr h)
theorem putT_ge (b : Bool) (o s : List UInt8) : o.length ≤ (putT b o s).length := by
 rw [putT]
 split
 ·rw [lap]; omega
 ·exact nle _
theorem outT_ge (b : Bool) (o : List UInt8) (a : Am) : o.length ≤ (outT b o a).length := by
 rw [outT]
 split
 ·exact Nat.le_trans (putT_ge b _ _) (putT_ge b _ _)
 ·exact putT_ge b _ _
theorem outT_eq {o : List UInt8} {a : Am} (h : (outT false o a).length ≤ 262144) : outT false o a = outT true o a := by
 have h0 : o.length ≤ 262144 := Nat.le_trans (outT_ge false o a) h
 rw [outT] at h ⊢
 rw [outT]
 split
 ·rename_i hk
  rw [if_pos hk] at h
  have h1 := putT_ge false (putT false o (hdN a.kind a.text.length)) a.text
  rw [putT_le o _ (by omega), putT_le o _ (by omega)]
  rw [putT_le o _ (by omega)] at h h1
  rw [putT_le _ _ (by omega), putT_le _ _ (by omega)]
 ·rw [putT_le o _ (by omega), putT_le o _ (by omega)]
theorem outT_long {o o' : List UInt8} {a : Am} (ho : o.length ≤ 262144 → o = o') (hl : 262144 < o.length → 262144 < o'.length) (h : 262144 < (outT false o a).length) : 262144 < (outT true o' a).length := by
 by_cases h1 : o.length ≤ 262144
 ·rw [← ho h1]
  rw [outT] at h ⊢
  split
  ·rename_i hk
   rw [if_pos hk, putT_le o _ h1] at h
   rw [putT_true, putT_true, lap]
   rw [putT] at h
   split at h
   ·rw [lap] at h; exact h
   ·omega
  ·rename_i hk
   rw [if_neg hk, putT_le o _ h1] at h
   rw [putT_true]
   exact h
 ·exact nlt (hl (by omega)) (outT_ge true o' a)
theorem Sim.atom {t u : Tl} (h : Sim t u) (a : Am) : Sim (atomT false t a) (atomT true u a) := by
 have hlen : t.G.length = u.G.length := by have := congrArg List.length h.sh; simpa using this
 have hout : (atomT false t a).out = outT false t.out a := by rw [atomT]; split <;> rfl
 have hout' : (atomT true u a).out = outT true u.out a := by rw [atomT]; split <;> rfl
 have hfr : ∀ p p', shF (fr0 a p) = shF (fr0 a p') := fun _ _ => rfl
 refine ⟨?_, ?_, ?_, ?_, ?_⟩
 ·rw [atomT, atomT, h.deep, hlen]; split <;> rfl
 ·rw [atomT, atomT]
  split
  ·exact (tops_sh _ _ _ _ (hfr _ _) h.sh).2
  ·exact (ends_sh _ _ _ _ _ _ _ _ h.sh).2
 ·rw [atomT, atomT]
  split
  ·exact (tops_sh _ _ _ _ (hfr _ _) h.sh).1
  ·exact (ends_sh _ _ _ _ _ _ _ _ h.sh).1
 ·intro hl
  rw [hout] at hl
  have h1 := h.eq (Nat.le_trans (outT_ge false t.out a) hl)
  subst h1
  rw [atomT, atomT, outT_eq hl]
 ·intro hl
  rw [hout] at hl
  rw [hout']
  exact outT_long (fun h1 => congrArg Tl.out (h.eq h1)) h.long hl
theorem go_sim (txt : List UInt8 → Bool) : ∀ (l : List Ra) (t u : Tl), Sim t u → go txt false l t = go txt true l u
 | [], t, u, h => by
  show fins t = fins u
  by_cases h1 : t.out.length ≤ 262144
  ·rw [h.eq h1]
  ·have h2 := h.long (by omega)
   rw [fins, fins, h.done, h.deep]
   split
   ·rfl
   ·rw [if_pos (.inr (by omega)), if_pos (.inr h2)]
 | a :: r, t, u, h => by
  rw [go, go, h.done]
  split
  ·rfl
  ·exact go_sim txt r _ _ (h.atom (dn a))
theorem Sim.refl (t : Tl) (h : t.out.length ≤ 262144) : Sim t t := ⟨rfl, rfl, rfl, fun _ => rfl, fun h => h⟩
theorem enc_eq (txt : List UInt8 → Bool) (l : List Ra) : enc txt l = if 4096 < l.length then ([], 10) else go txt true l ini := by
 rw [enc, go_sim txt l ini ini (Sim.refl _ (by decide))]
/-! a forest is told -/
def okM : Fr → List (List UInt8) → Bool
 | _, [] => true
 | f, B :: M => okB f B && okM (adv f B) M
theorem okB_iff (f : Fr) (B : List UInt8) : okB f B = true ↔ (f.pairs = true → f.value = false → f.keys = true → Op.bytesLess f.last B = true) := by
 rw [okB]
 cases f.pairs <;> cases f.value <;> cases f.keys <;> cases Op.bytesLess f.last B <;> simp
theorem okM_iff : ∀ (M : List (List UInt8)) (f : Fr), okM f M = true ↔ okF f M
 | [], f => ⟨fun _ => trivial, fun _ => rfl⟩
 | B :: M, f => by
  rw [okM, okF, Bool.and_eq_true, okM_iff M (adv f B), okB_iff]
theorem okM_fr0 (a : Am) (p : Nat) (M : List (List UInt8)) : okM (fr0 a p) M = ordA a.kind M := by
 have h1 : okM (fr0 a p) M = true ↔ ordA a.kind M = true := by
  rw [okM_iff]
  exact ⟨ordA_of, okF_fr0⟩
 cases h2 : okM (fr0 a p) M <;> cases h3 : ordA a.kind M <;> simp_all
def dpm (dp v d : Nat) : Nat := max dp (if d = 0 then 0 else v + d)
theorem outT_tell (o : List UInt8) {a : Am} (hh : holds a.kind = false) : outT true o a = o ++ tell a := by
 rw [outT, tell]
 split
 ·rw [putT_true, putT_true, List.append_assoc]
 ·rw [putT_true]
theorem outT_head (o : List UInt8) {a : Am} (hh : holds a.kind = true) : outT true o a = o ++ hdN a.kind a.num := by
 rw [outT, if_neg (holds_not hh), putT_true]
section
variable {txt : List UInt8 → Bool}
theorem rightR_up {a : Am} (ha : okA txt a) : rightR txt (up a) = true := by
 obtain ⟨k, n, x⟩ := a
 obtain ⟨-, -, h⟩ := ha
 dsimp only at h
 rw [rightR]
 show (if (k : Int) = 0 ∨ (k : Int) = 1 ∨ (k : Int) = 4 ∨ (k : Int) = 5 ∨ (k : Int) = 6 then x == [] else if (k : Int) = 2 then n == 0 else if (k : Int) = 3 then n == 0 && txt x else if (k : Int) = 7 then x == [] && decide (20 ≤ n ∧ n ≤ 23) else false) = true
 rcases h with ⟨h, rfl⟩ | ⟨rfl, rfl⟩ | ⟨rfl, rfl, h⟩ | ⟨rfl, rfl, h⟩
 ·rw [if_pos (by omega)]; rfl
 ·rfl
 ·simpa using h
 ·simpa using h
theorem okA_dn {a : Ra} (hn : a.num < 18446744073709551616) (hx : a.text.length < 18446744073709551616) (h : rightR txt a = true) : okA txt (dn a) ∧ up (dn a) = a := by
 obtain ⟨k, n, x⟩ := a
 rw [rightR] at h
 dsimp only at h hn hx
 have key : (k = 0 ∨ k = 1 ∨ k = 4 ∨ k = 5 ∨ k = 6) ∧ x = [] ∨ k = 2 ∧ n = 0 ∨ k = 3 ∧ n = 0 ∧ txt x = true ∨ k = 7 ∧ x = [] ∧ 20 ≤ n ∧ n ≤ 23 := by
  split at h
  ·rename_i h1; exact .inl ⟨h1, by simpa using h⟩
  ·split at h
   ·rename_i h1; exact .inr (.inl ⟨h1, by simpa using h⟩)
   ·split at h
    ·rename_i h1; exact .inr (.inr (.inl ⟨h1, by simpa using h⟩))
    ·split at h
     ·rename_i h1; exact .inr (.inr (.inr ⟨h1, by simpa using h⟩))
     ·cases h
 refine ⟨⟨hn, hx, ?_⟩, up_dn (by show 0 ≤ k; omega)⟩
 show ((k.toNat = 0 ∨ k.toNat = 1 ∨ k.toNat = 4 ∨ k.toNat = 5 ∨ k.toNat = 6) ∧ x = []) ∨ (k.toNat = 2 ∧ n = 0) ∨ (k.toNat = 3 ∧ n = 0 ∧ txt x = true) ∨ (k.toNat = 7 ∧ x = [] ∧ 20 ≤ n ∧ n ≤ 23)
 rcases key with ⟨h1, h2⟩ | ⟨h1, h2⟩ | ⟨h1, h2, h3⟩ | ⟨h1, h2, h3⟩
 ·exact .inl ⟨by omega, h2⟩
 ·exact .inr (.inl ⟨by omega, h2⟩)
 ·exact .inr (.inr (.inl ⟨by omega, h2, h3⟩))
 ·exact .inr (.inr (.inr ⟨by omega, h2, h3⟩))
theorem go_cons {b : Bool} {a : Am} {r : List Ra} {t : Tl} (ht : t.done = false) (ha : okA txt a) : go txt b (up a :: r) t = go txt b r (atomT b t a) := by
 rw [go, if_neg, dn_up]
 rw [ht, rightR_up ha]
 simp
theorem drop_put (o B : List UInt8) : (o ++ B).drop o.length = B := List.drop_left' rfl
theorem tops_live {out : List UInt8} {f : Fr} {G : List Fr} {o : Bool} (h : f.left ≠ 0) : tops out f G o = (f :: G, false, o) := if_neg h
theorem slots_pos {f : Fr} (h : 1 ≤ slots f) : f.left ≠ 0 := (slots_adv f [] h).2
theorem Its.tells {d N M o} (h : Its d N M o) : (∀ a ∈ N, okA txt a) → N ≠ [] → ∀ (f : Fr) (G : List Fr) (out : List UInt8) (dp : Nat) (ord : Bool) (r : List Ra), M.length ≤ slots f → wfF f →
  go txt true (N.map up ++ r) ⟨out, f :: G, dp, false, ord⟩ = go txt true r (mkT (out ++ M.flatten) (dpm dp (G.length + 1) d) (tops (out ++ M.flatten) (advs f M) G (ord && (o && okM f M)))) := by
 induction h with
 | nil => intro _ h0; exact absurd rfl h0
 | @leaf a d N M o hn h ih =>
  intro hall _ f G out dp ord r hs hwf
  rw [lco] at hs
  rw [List.map_cons, List.cons_append, go_cons rfl (hall a (List.mem_cons_self ..)), atomT, if_neg (by rw [hn]; decide), outT_tell _ hn, ends_cons, drop_put]
  have hsl := slots_adv f (tell a) (by omega)
  by_cases hN : N = []
  ·subst hN
   cases h
   have e0 : dpm dp (G.length + 1) 0 = dp := by rw [dpm, if_pos rfl, Nat.max_zero]
   rw [List.map_nil, List.nil_append, List.flatten_singleton, okM, okM, e0]
   congr 2
   cases ord <;> cases okB f (tell a) <;> rfl
  ·have hM : 1 ≤ M.length := by
    cases M with
    | nil => exact absurd h.none.1 hN
    | cons _ _ => simp
   rw [tops_live (slots_pos (by omega))]
   refine (ih (fun x hx => hall x (List.mem_cons_of_mem _ hx)) hN (adv f (tell a)) G (out ++ tell a) dp _ r (by omega) (wfF_adv _ (by omega))).trans ?_
   rw [List.append_assoc, ← List.flatten_cons, advs_cons, okM]
   congr 3
   cases ord <;> cases okB f (tell a) <;> cases o <;> rfl
 | @node a dK K MK oK d N M o hn hm hK h ihK ih =>
  intro hall _ f G out dp ord r hs hwf
  rw [lco] at hs
  obtain ⟨B, hB⟩ : ∃ B, hdN a.kind a.num ++ MK.flatten = B := ⟨_, rfl⟩
  have hsl := slots_adv f B (by omega)
  -- the holder, with all that it holds
  have hold : ∀ r2 : List Ra, go txt true (up a :: (K.map up ++ r2)) ⟨out, f :: G, dp, false, ord⟩ = go txt true r2 (mkT (out ++ B) (dpm dp (G.length + 1) (dK + 1)) (tops (out ++ B) (adv f B) G (ord && ((oK && ordA a.kind MK) && okB f B)))) := fun r2 => by
   rw [go_cons rfl (hall a (List.mem_cons_self ..)), atomT, if_pos hn, outT_head _ hn]
   show go txt true (K.map up ++ r2) (mkT (out ++ hdN a.kind a.num) (max dp ((f :: G).length + 1)) (tops (out ++ hdN a.kind a.num) (fr0 a out.length) (f :: G) ord)) = _
   have hsn : slots (fr0 a out.length) = MK.length := by rw [slots_fr0, hm]
   have hz : (advs (fr0 a out.length) MK).left = 0 := by
    have h3 := slots_advs MK (fr0 a out.length) (by omega)
    exact slots_zero (by omega) (wfF_advs MK _ (fun h4 => by cases h4) (by omega))
   by_cases hKe : K = []
   ·subst hKe
    cases hK
    rw [List.flatten_nil, List.append_nil] at hB
    rw [hB, tops, if_pos (show (fr0 a out.length).left = 0 from hz), show (fr0 a out.length).p0 = out.length from rfl, ends_cons, drop_put]
    rw [List.map_nil, List.nil_append, lco]
    have e1 : dpm dp (G.length + 1) (0 + 1) = max dp (G.length + 1 + 1) := by rw [dpm, if_neg (by omega)]
    rw [e1]
    congr 3
    have e2 : ordA a.kind [] = true := by rw [ordA]; simp [keysOk]
    rw [e2]
    cases ord <;> cases okB f B <;> rfl
   ·have hMK : 1 ≤ MK.length := by
     cases MK with
     | nil => exact absurd hK.none.1 hKe
     | cons _ _ => simp
    rw [tops_live (f := fr0 a out.length) (slots_pos (by omega))]
    refine (ihK (fun x hx => hall x (List.mem_cons_of_mem _ (List.mem_append_left _ hx))) hKe (fr0 a out.length) (f :: G) (out ++ hdN a.kind a.num) _ ord r2 (by omega) (fun h4 => by cases h4)).trans ?_
    rw [List.append_assoc, hB, tops, if_pos hz, advs_p0, show (fr0 a out.length).p0 = out.length from rfl, ends_cons, drop_put, okM_fr0, lco]
    have e1 : dpm (max dp (G.length + 1 + 1)) (G.length + 1 + 1) dK = dpm dp (G.length + 1) (dK + 1) := by
     have e2 : ¬ dK + 1 = 0 := Nat.succ_ne_zero _
     rw [dpm, dpm, if_neg e2]
     split <;> omega
    rw [e1]
    congr 3
    cases ord <;> cases okB f B <;> cases oK <;> cases ordA a.kind MK <;> rfl
  rw [List.map_cons, List.map_append, List.cons_append, List.append_assoc, hold]
  rw [hB, List.flatten_cons, advs_cons, okM]
  by_cases hN : N = []
  ·subst hN
   cases h
   rw [List.map_nil, List.nil_append, List.flatten_nil, List.append_nil, okM]
   have e1 : max (dK + 1) 0 = dK + 1 := Nat.max_zero _
   rw [e1]
   congr 3
   cases ord <;> cases okB f B <;> cases oK <;> cases ordA a.kind MK <;> rfl
  ·have hM : 1 ≤ M.length := by
    cases M with
    | nil => exact absurd h.none.1 hN
    | cons _ _ => simp
   rw [tops_live (slots_pos (by omega))]
   refine (ih (fun x hx => hall x (List.mem_cons_of_mem _ (List.mem_append_right _ hx))) hN (adv f B) G (out ++ B) _ _ r (by omega) (wfF_adv _ (by omega))).trans ?_
   rw [List.append_assoc]
   have e1 : dpm (dpm dp (G.length + 1) (dK + 1)) (G.length + 1) d = dpm dp (G.length + 1) (max (dK + 1) d) := by
    rw [dpm, dpm, dpm]
    split <;> split <;> split <;> omega
   rw [e1]
   congr 3
   cases ord <;> cases okB f B <;> cases oK <;> cases ordA a.kind MK <;> cases o <;> rfl
theorem Its.tellsOne {d : Nat} {l : List Am} {B : List UInt8} {o : Bool} (h : Its d l [B] o) (hall : ∀ a ∈ l, okA txt a) (r : List Ra) : go txt true (l.map up ++ r) ini = go txt true r ⟨B, [], d, true, o⟩ := by
 generalize hM : [B] = M at h
 cases h with
 | nil => cases hM
 | @leaf a d N M o hn h =>
  injection hM with h1 h2
  subst h2
  obtain ⟨rfl, rfl, rfl⟩ := h.none
  rw [List.map_cons, List.cons_append, go_cons rfl (hall a (List.mem_cons_self ..)), atomT, if_neg (by rw [hn]; decide), outT_tell _ hn, h1]
  rfl
 | @node a dK K MK oK d N M o hn hm hK h =>
  injection hM with h1 h2
  subst h2
  obtain ⟨rfl, rfl, rfl⟩ := h.none
  rw [List.append_nil] at hall ⊢
  rw [List.map_cons, List.cons_append, go_cons rfl (hall a (List.mem_cons_self ..)), atomT, if_pos hn, outT_head _ hn]
  show go txt true (K.map up ++ r) (mkT ([] ++ hdN a.kind a.num) (max 0 (([] : List Fr).length + 1)) (tops ([] ++ hdN a.kind a.num) (fr0 a 0) [] true)) = _
  rw [List.nil_append]
  have hsn : slots (fr0 a 0) = MK.length := by rw [slots_fr0, hm]
  have hz : (advs (fr0 a 0) MK).left = 0 := by
   have h3 := slots_advs MK (fr0 a 0) (by omega)
   exact slots_zero (by omega) (wfF_advs MK _ (fun h4 => by cases h4) (by omega))
  by_cases hKe : K = []
  ·subst hKe
   cases hK
   rw [List.flatten_nil, List.append_nil] at h1
   rw [← h1, tops, if_pos (show (fr0 a 0).left = 0 from hz)]
   have e2 : ordA a.kind [] = true := by rw [ordA]; simp [keysOk]
   rw [e2]
   rfl
  ·have hMK : 1 ≤ MK.length := by
    cases MK with
    | nil => exact absurd hK.none.1 hKe
    | cons _ _ => simp
   rw [tops_live (slots_pos (by omega))]
   refine (hK.tells (fun x hx => hall x (List.mem_cons_of_mem _ hx)) hKe (fr0 a 0) [] (hdN a.kind a.num) _ true r (by omega) (fun h4 => by cases h4)).trans ?_
   rw [← h1, tops, if_pos hz, advs_p0, okM_fr0]
   have e1 : dpm (max 0 (([] : List Fr).length + 1)) (([] : List Fr).length + 1) dK = max (dK + 1) 0 := by
    rw [dpm, List.length_nil]
    split <;> omega
   rw [e1, Bool.true_and, Bool.and_true]
   rfl
theorem enc_tree {d : Nat} {l : List Am} {B : List UInt8} {o : Bool} (h : Its d l [B] o) (hall : ∀ a ∈ l, okA txt a) (hl : l.length ≤ 4096) :
  enc txt (l.map up) = if 32 < d ∨ 262144 < B.length then ([], 10) else if o = false then ([], 9) else (B, 0) := by
 have h1 := h.tellsOne hall []
 rw [List.append_nil] at h1
 rw [enc_eq, if_neg (by rw [List.length_map]; omega), h1]
 rfl
theorem go_inv : ∀ (m : Nat) (r : List Ra) (f : Fr) (G : List Fr) (out : List UInt8) (dp : Nat) (ord : Bool) (S : List UInt8), r.length < m → (∀ a ∈ r, a.num < 18446744073709551616 ∧ a.text.length < 18446744073709551616) → f.left ≠ 0 → wfF f →
  go txt true r ⟨out, f :: G, dp, false, ord⟩ ≠ ([], 9) → ∃ d N M o r2, r = N.map up ++ r2 ∧ N ≠ [] ∧ Its d N M o ∧ M.length = slots f ∧ ∀ a ∈ N, okA txt a
 | 0, r, _, _, _, _, _, _, hm, _, _, _, _ => absurd hm (Nat.not_lt_zero _)
 | m + 1, [], f, G, out, dp, ord, S, hm, _, _, _, hgo => absurd rfl hgo
 | m + 1, a :: r, f, G, out, dp, ord, S, hm, hb, hf, hwf, hgo => by
  rw [lco] at hm
  have hbr : ∀ x ∈ r, x.num < 18446744073709551616 ∧ x.text.length < 18446744073709551616 := fun x hx => hb x (List.mem_cons_of_mem _ hx)
  have hR : rightR txt a = true := by
   cases hq : rightR txt a with
   | true => rfl
   | false => exact absurd (by rw [go, if_pos (.inr hq)]) hgo
  obtain ⟨hok, hup⟩ := okA_dn (hb a (List.mem_cons_self ..)).1 (hb a (List.mem_cons_self ..)).2 hR
  obtain ⟨x, hx⟩ : ∃ x, dn a = x := ⟨_, rfl⟩
  rw [hx] at hok hup
  subst hup
  rw [go_cons rfl hok] at hgo
  have hs1 : 1 ≤ slots f := by
   rw [slots]
   split
   ·split <;> omega
   ·omega
  -- the item that stands first, with what stands behind it
  have first : ∀ (d0 : Nat) (K : List Am) (B : List UInt8) (o0 : Bool) (r1 : List Ra) (dp1 : Nat) (out1 : List UInt8) (ord1 : Bool), r = K.map up ++ r1 → Its d0 (x :: K) [B] o0 → (∀ y ∈ K, okA txt y) →
    go txt true r1 (mkT out1 dp1 (tops out1 (adv f B) G ord1)) ≠ ([], 9) → ∃ d N M o r2, up x :: r = N.map up ++ r2 ∧ N ≠ [] ∧ Its d N M o ∧ M.length = slots f ∧ ∀ a ∈ N, okA txt a := fun d0 K B o0 r1 dp1 out1 ord1 hr hI hK h9 => by
   have hsl := slots_adv f B hs1
   have hallx : ∀ y ∈ x :: K, okA txt y := fun y hy => by
    rcases List.mem_cons.1 hy with rfl | hy
    ·exact hok
    ·exact hK y hy
   by_cases hl : (adv f B).left = 0
   ·refine ⟨d0, x :: K, [B], o0, r1, by rw [hr]; rfl, by simp, hI, ?_, hallx⟩
    have hv : (adv f B).value = false := by
     cases hv : (adv f B).value with
     | false => rfl
     | true => have := wfF_adv B hs1 hv; omega
    have h0 : slots (adv f B) = 0 := by rw [slots, hl, hv]; simp
    rw [List.length_singleton]; omega
   ·rw [tops_live hl] at h9
    obtain ⟨d, N, M, o, r2, hr2, hN, hI2, hM, hall⟩ := go_inv m r1 (adv f B) G out1 dp1 ord1 S (by rw [hr, lap] at hm; omega) (fun y hy => hbr y (by rw [hr]; exact List.mem_append_right _ hy)) hl (wfF_adv B hs1) h9
    have hI3 := hI.append hI2
    refine ⟨_, _, _, _, r2, ?_, ?_, hI3, ?_, ?_⟩
    ·rw [hr, hr2]; simp
    ·simp
    ·rw [List.singleton_append, lco]; omega
    ·intro y hy
     rcases List.mem_append.1 hy with h | h
     ·exact hallx y h
     ·exact hall y h
  cases hh : holds x.kind with
  | false =>
   rw [atomT, if_neg (by rw [hh]; decide), outT_tell _ hh, ends_cons, drop_put] at hgo
   exact first 0 [] (tell x) true r _ _ _ rfl (.leaf hh .nil) (fun y hy => by cases hy) hgo
  | true =>
   rw [atomT, if_pos hh, outT_head _ hh] at hgo
   have hgo : go txt true r (mkT (out ++ hdN x.kind x.num) (max dp ((f :: G).length + 1)) (tops (out ++ hdN x.kind x.num) (fr0 x out.length) (f :: G) ord)) ≠ ([], 9) := hgo
   by_cases hl : (fr0 x out.length).left = 0
   ·have hn0 : need x = 0 := by
     rw [← slots_fr0 x out.length, slots, hl]
     simp
    rw [tops, if_pos hl, show (fr0 x out.length).p0 = out.length from rfl, ends_cons, drop_put] at hgo
    have hI := Its.node hh (by rw [hn0]; rfl) .nil .nil
    rw [List.flatten_nil, List.append_nil, List.append_nil] at hI
    exact first _ [] _ _ r _ _ _ rfl hI (fun y hy => by cases hy) hgo
   ·rw [tops_live hl] at hgo
    obtain ⟨d, K, MK, oK, r1, hr, hK, hIK, hMK, hallK⟩ := go_inv m r (fr0 x out.length) (f :: G) _ _ _ S (by omega) hbr hl (fun h4 => by cases h4) hgo
    have h5 := hIK.tells hallK hK (fr0 x out.length) (f :: G) (out ++ hdN x.kind x.num) (max dp ((f :: G).length + 1)) ord r1 (by omega) (fun h4 => by cases h4)
    rw [← hr] at h5
    have hgo2 : go txt true r ⟨out ++ hdN x.kind x.num, fr0 x out.length :: f :: G, max dp ((f :: G).length + 1), false, ord⟩ ≠ ([], 9) := hgo
    rw [h5] at hgo2
    clear hgo
    have hgo := hgo2
    have hz : (advs (fr0 x out.length) MK).left = 0 := by
     have h3 := slots_advs MK (fr0 x out.length) (by omega)
     exact slots_zero (by omega) (wfF_advs MK _ (fun h4 => by cases h4) (by omega))
    rw [tops, if_pos hz, advs_p0, show (fr0 x out.length).p0 = out.length from rfl, ends_cons, List.append_assoc, drop_put] at hgo
    have hI := Its.node hh (by rw [hMK, slots_fr0]) hIK .nil
    rw [List.append_nil] at hI
    exact first _ K _ _ r1 _ _ _ hr hI hallK hgo
end
end Co
end Go.Proofs.YtikgonlhdkknkaaGreatDoor
