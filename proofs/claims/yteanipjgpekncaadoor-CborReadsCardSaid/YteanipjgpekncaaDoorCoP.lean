/- Plain words for reading items (layer 17): der's machine of three kinds of states, for items. -/
import Derived.Test.YteanipjgpekncaaDoorDrP
namespace Go.Proofs.YteanipjgpekncaaDoor
set_option linter.unusedVariables false
set_option linter.unusedSimpArgs false
namespace Co
open Dr (Rs Lm has lack at0S)
structure Am where
  kind : Nat
  num : Nat
  text : List UInt8
deriving DecidableEq
def kindT (t : UInt8) : Nat := t.toNat / 32
def infT (t : UInt8) : Nat := t.toNat % 32
/-- what is wrong with a first byte -/
def headE (t : UInt8) : Int := if 27 < infT t then 9 else if kindT t = 7 ∧ (infT t < 20 ∨ 23 < infT t) then 11 else 0
/-- how many bytes of an argument stand behind it -/
def widT (t : UInt8) : Nat := if infT t < 24 then 0 else 2 ^ (infT t - 24)
/-- an argument could not be told in fewer bytes -/
def short (w n : Nat) : Bool := if w = 0 then true else if w = 1 then decide (24 ≤ n) else decide (2 ^ (4 * w) ≤ n)
def holds (k : Nat) : Bool := decide (4 ≤ k ∧ k ≤ 6)
section
variable (S : List UInt8) (L : Lm)
/-- the number in the first i bytes behind a place -/
def argB (q : Nat) : Nat → Rs Nat
  | 0 => .ok 0
  | i + 1 => match argB q i with
    | .no e p b => .no e p b
    | .ok n => if has S L (q + i + 1) = true then .ok (256 * n + at0S S (q + i + 1)) else lack S L
/-- the argument behind a first byte that is right -/
def argR (p : Nat) : Rs Nat :=
  match argB S L p (widT (S.getD p 0)) with
  | .no e q b => .no e q b
  | .ok n =>
    if widT (S.getD p 0) = 0 then .ok (infT (S.getD p 0))
    else if short (widT (S.getD p 0)) n = true then .ok n else .no 9 p false
/-- one that holds others, begun -/
structure Fr where
  p0 : Nat
  left : Nat
  pairs : Bool
  value : Bool
  keys : Bool
  last : List UInt8
inductive St where
  | el (G : List Fr) (l : List Am) (p : Nat)
  | pend (G : List Fr) (l : List Am) (a p : Nat)
  | loop (G : List Fr) (l : List Am) (p : Nat)
variable (txt : List UInt8 → Bool) (less : List UInt8 → List UInt8 → Bool)
/-- an item is read, or begun -/
def elS (G : List Fr) (l : List Am) (p : Nat) : Rs St :=
  if has S L p = false then lack S L
  else if L.items ≤ l.length then .no 10 p false
  else if headE (S.getD p 0) ≠ 0 then .no (headE (S.getD p 0)) p false
  else match argR S L p with
    | .no e q b => .no e q b
    | .ok n =>
      if kindT (S.getD p 0) = 2 ∨ kindT (S.getD p 0) = 3 then
        (if n ≠ 0 ∧ has S L (p + 1 + widT (S.getD p 0) + n - 1) = false then lack S L
        else if kindT (S.getD p 0) = 3 ∧ txt (Dr.part S (p + 1 + widT (S.getD p 0)) (p + 1 + widT (S.getD p 0) + n)) = false then .no 9 p false
        else .ok (.pend G (l ++ [⟨kindT (S.getD p 0), 0, Dr.part S (p + 1 + widT (S.getD p 0)) (p + 1 + widT (S.getD p 0) + n)⟩]) p (p + 1 + widT (S.getD p 0) + n)))
      else if holds (kindT (S.getD p 0)) = true then
        (if L.depth ≤ G.length then .no 10 p false
        else .ok (.loop (⟨p, if kindT (S.getD p 0) = 6 then 1 else n, decide (kindT (S.getD p 0) = 5), false, false, []⟩ :: G) (l ++ [⟨kindT (S.getD p 0), n, []⟩]) (p + 1 + widT (S.getD p 0))))
      else .ok (.pend G (l ++ [⟨kindT (S.getD p 0), n, []⟩]) p (p + 1 + widT (S.getD p 0)))
/-- one has ended -/
def pendS (G : List Fr) (l : List Am) (a p : Nat) : Rs St :=
  match G with
  | [] => .ok (.loop [] l p)
  | f :: G' =>
    if f.pairs = true ∧ f.value = false then
      (if f.keys = true ∧ less f.last (Dr.part S a p) = false then .no 9 a false
      else .ok (.loop ({ f with keys := true, value := true, last := Dr.part S a p } :: G') l p))
    else .ok (.loop ({ f with value := false, left := f.left - 1 } :: G') l p)
/-- the topmost one goes on, or ends -/
def loopS (f : Fr) (G : List Fr) (l : List Am) (p : Nat) : St := if f.left = 0 then .pend G l f.p0 p else .el (f :: G) l p
/-- what is left when all have ended -/
def fin (l : List Am) (p : Nat) : Rs (List Am) :=
  if p < S.length then (if has S L p = true then .no 9 p false else lack S L) else .ok l
inductive Runs : St → Rs (List Am) → Prop
  | el {G l p s r} : elS S L txt G l p = .ok s → Runs s r → Runs (.el G l p) r
  | elNo {G l p e q b} : elS S L txt G l p = .no e q b → Runs (.el G l p) (.no e q b)
  | pend {G l a p s r} : pendS S less G l a p = .ok s → Runs s r → Runs (.pend G l a p) r
  | pendNo {G l a p e q b} : pendS S less G l a p = .no e q b → Runs (.pend G l a p) (.no e q b)
  | loop {f G l p r} : Runs (loopS f G l p) r → Runs (.loop (f :: G) l p) r
  | fin {l p} : Runs (.loop [] l p) (fin S L l p)
theorem Runs.same {s : St} {r r' : Rs (List Am)} (h : Runs S L txt less s r) : Runs S L txt less s r' → r = r' := by
  induction h with
  | el h1 _ ih => intro h'; cases h' with
    | el h2 h3 => rw [h1] at h2; cases h2; exact ih h3
    | elNo h2 => rw [h1] at h2; cases h2
  | elNo h1 => intro h'; cases h' with
    | el h2 h3 => rw [h1] at h2; cases h2
    | elNo h2 => rw [h1] at h2; cases h2; rfl
  | pend h1 _ ih => intro h'; cases h' with
    | pend h2 h3 => rw [h1] at h2; cases h2; exact ih h3
    | pendNo h2 => rw [h1] at h2; cases h2
  | pendNo h1 => intro h'; cases h' with
    | pend h2 h3 => rw [h1] at h2; cases h2
    | pendNo h2 => rw [h1] at h2; cases h2; rfl
  | loop _ ih => intro h'; cases h' with
    | loop h3 => exact ih h3
  | fin => intro h'; cases h' with
    | fin => rfl
end
/-- the head of a kind and an argument: as few bytes as it takes -/
def widN (n : Nat) : Nat := if n < 24 then 0 else if n < 256 then 1 else if n < 65536 then 2 else if n < 4294967296 then 4 else 8
def infN (n : Nat) : Nat := if n < 24 then n else if n < 256 then 24 else if n < 65536 then 25 else if n < 4294967296 then 26 else 27
/-- n's last w bytes, the greatest first -/
def bytesN : Nat → Nat → List UInt8
  | 0, _ => []
  | w + 1, n => UInt8.ofNat (n / 256 ^ w) :: bytesN w n
def hdN (k n : Nat) : List UInt8 := UInt8.ofNat (32 * k + infN n) :: bytesN (widN n) n
theorem bytesN_length : ∀ (w n : Nat), (bytesN w n).length = w
  | 0, _ => rfl
  | w + 1, n => by rw [bytesN, List.length_cons, bytesN_length w n]
theorem hdN_length (k n : Nat) : (hdN k n).length = widN n + 1 := by rw [hdN, List.length_cons, bytesN_length]
/-- the document's word for 'as few as it takes' is the program's -/
theorem short_iff (w n : Nat) (hw : w = 1 ∨ w = 2 ∨ w = 4 ∨ w = 8) (hn : n < 256 ^ w) : short w n = true ↔ widN n = w := by
  rcases hw with rfl | rfl | rfl | rfl
  · rw [short, if_neg (by decide), if_pos rfl, decide_eq_true_iff, widN]
    have h1 : n < 256 := by simpa using hn
    repeat' split
    all_goals omega
  · rw [short, if_neg (by decide), if_neg (by decide), decide_eq_true_iff, widN]
    have h1 : n < 65536 := by simpa using hn
    have h2 : (2 : Nat) ^ (4 * 2) = 256 := by decide
    rw [h2]
    repeat' split
    all_goals omega
  · rw [short, if_neg (by decide), if_neg (by decide), decide_eq_true_iff, widN]
    have h1 : n < 4294967296 := by simpa using hn
    have h2 : (2 : Nat) ^ (4 * 4) = 65536 := by decide
    rw [h2]
    repeat' split
    all_goals omega
  · rw [short, if_neg (by decide), if_neg (by decide), decide_eq_true_iff, widN]
    have h2 : (2 : Nat) ^ (4 * 8) = 4294967296 := by decide
    rw [h2]
    repeat' split
    all_goals omega
/-! a text that is cut off, or stands ahead of another one; limits -/
structure LmLe (L L' : Lm) : Prop where
  d : L.depth ≤ L'.depth
  i : L.items ≤ L'.items
  b : L.bytes ≤ L'.bytes
section
variable {S : List UInt8} {L L' : Lm} {a : Nat} {m : UInt8}
theorem has_more (h : LmLe L L') {q : Nat} (hq : has S L q = true) : has S L' q = true := by
  have h1 : q < S.length ∧ q < L.bytes := of_decide_eq_true hq
  have := h.b
  exact decide_eq_true ⟨h1.1, by omega⟩
theorem lack_less {α : Type} (hb : L'.bytes + 1 = S.length) : (lack S L' : Rs α) = .no 10 L'.bytes false := by
  rw [lack, Dr.lackE, Dr.lackP, if_pos (by omega), if_pos (by omega), decide_eq_false (by omega)]
theorem has_less (hb : L'.bytes + 1 = S.length) {q : Nat} (hq : has S L q = true) : (has S L' q = true ∧ q < L'.bytes) ∨ (has S L' q = false ∧ q = L'.bytes) := by
  have h1 : q < S.length ∧ q < L.bytes := of_decide_eq_true hq
  by_cases h : q < L'.bytes
  · exact .inl ⟨decide_eq_true ⟨h1.1, h⟩, h⟩
  · exact .inr ⟨decide_eq_false (fun h2 => h h2.2), by omega⟩
theorem at_cut {q : Nat} (hq : q < a) : (S.take a).getD q 0 = S.getD q 0 := by
  rw [List.getD, List.getD, List.getElem?_take_of_lt hq]
theorem part_cut {x y : Nat} (hy : y ≤ a) : Dr.part (S.take a) x y = Dr.part S x y := by
  rw [Dr.part, Dr.part, List.drop_take, List.take_take, Nat.min_eq_left (by omega)]
theorem lack_cut {α : Type} (ha : a < S.length) (hb : S.length ≤ L.bytes) : (lack (S.take a) L : Rs α) = .no 9 a true := by
  have h1 : (S.take a).length = a := by rw [List.length_take]; omega
  rw [lack, Dr.lackE, Dr.lackP, h1, if_neg (by omega), if_neg (by omega), decide_eq_true (by omega)]
theorem has_cut (ha : a < S.length) {q : Nat} (hq : has S L q = true) : (has (S.take a) L q = true ∧ q < a) ∨ (has (S.take a) L q = false ∧ a ≤ q) := by
  have h1 : q < S.length ∧ q < L.bytes := of_decide_eq_true hq
  have h2 : (S.take a).length = a := by rw [List.length_take]; omega
  by_cases h : q < a
  · exact .inl ⟨decide_eq_true ⟨by rw [h2]; exact h, h1.2⟩, h⟩
  · exact .inr ⟨decide_eq_false (fun h3 => h (by have := h3.1; rw [h2] at this; exact this)), by omega⟩
theorem get_app {q : Nat} (hq : q < S.length) : (S ++ [m]).getD q 0 = S.getD q 0 := by
  rw [List.getD, List.getD, List.getElem?_append_left hq]
theorem at0_app {q : Nat} (hq : q < S.length) : at0S (S ++ [m]) q = at0S S q := by rw [at0S, at0S, get_app hq]
theorem part_app {x y : Nat} (hy : y ≤ S.length) : Dr.part (S ++ [m]) x y = Dr.part S x y := by
  rw [Dr.part, Dr.part]
  by_cases hx : x ≤ S.length
  · rw [List.drop_append_of_le_length hx, List.take_append_of_le_length (by rw [List.length_drop]; omega)]
  · rw [show y - x = 0 by omega, List.take_zero, List.take_zero]
theorem has_app {q : Nat} (hq : has S L q = true) : has (S ++ [m]) L q = true ∧ q < S.length := by
  have h1 : q < S.length ∧ q < L.bytes := of_decide_eq_true hq
  exact ⟨decide_eq_true ⟨by rw [List.length_append]; omega, h1.2⟩, h1.1⟩
theorem part_of {q : Nat} {b R : List UInt8} (h : S.drop q = b ++ R) : Dr.part S q (q + b.length) = b := by
  rw [Dr.part, h, show q + b.length - q = b.length by omega, List.take_left' rfl]
theorem drop_more {q : Nat} {b R : List UInt8} (h : S.drop q = b ++ R) : S.drop (q + b.length) = R := by
  rw [← List.drop_drop, h, List.drop_left' rfl]
end
end Co
end Go.Proofs.YteanipjgpekncaaDoor
