/- Plain words for reading trees of elements (layer 15): a machine of three kinds of states that both texts go through. -/
import Derived.Test.YtpaikjlcachabaaDoorRowX
namespace Go.Proofs.YtpaikjlcachabaaDoor
set_option linter.unusedVariables false
set_option linter.unusedSimpArgs false
namespace Dr
structure Nd where
  tag : UInt8
  kids : Int
  body : List UInt8
deriving DecidableEq
/-- an answer, or a fault with its place, and whether it is that the text ended -/
inductive Rs (α : Type) where
  | ok (a : α)
  | no (e : Int) (pl : Nat) (en : Bool)
/-- limits -/
structure Lm where
  depth : Nat
  items : Nat
  bytes : Nat
def within (t : UInt8) : Bool := decide (t.toNat / 32 % 2 = 1)
/-- what is wrong with a tag of a class, a number, with or without elements -/
def tagF (c n i : Nat) : Int :=
  if c % 2 = 1 ∨ n = 31 then 11 else if c = 2 then 0
  else if n = 16 ∨ n = 17 then (if i = 1 then 0 else 9)
  else if 1 ≤ n ∧ n ≤ 6 ∨ n = 12 then (if i = 1 then 9 else 0)
  else 11
def tagE (t : UInt8) : Int := tagF (t.toNat / 64) (t.toNat % 32) (t.toNat / 32 % 2)
/-- a whole number's bytes: the first nine bits aren't all alike -/
def numOk (b : List UInt8) : Bool := decide (b ≠ [] ∧ (2 ≤ b.length → ¬ ((b.getD 0 0).toNat = 0 ∧ (b.getD 1 0).toNat < 128) ∧ ¬ ((b.getD 0 0).toNat = 255 ∧ 128 ≤ (b.getD 1 0).toNat)))
/-- a row of bits -/
def bitsOk (b : List UInt8) : Bool := decide (b ≠ [] ∧ (b.getD 0 0).toNat ≤ 7 ∧ (if b.length = 1 then (b.getD 0 0).toNat = 0 else (b.getD (b.length - 1) 0).toNat % 2 ^ (b.getD 0 0).toNat = 0))
/-- a type's numbers of seven bits a byte -/
def typeGo : Bool → List UInt8 → Bool
  | first, [] => first
  | first, x :: r => if first = true ∧ x.toNat = 128 then false else typeGo (decide (x.toNat < 128)) r
def typeOk (b : List UInt8) : Bool := decide (b ≠ []) && typeGo true b
section
variable (S : List UInt8) (L : Lm)
def has (q : Nat) : Bool := decide (q < S.length ∧ q < L.bytes)
def at0S (q : Nat) : Nat := (S.getD q 0).toNat
def part (a q : Nat) : List UInt8 := (S.drop a).take (q - a)
/-- the fault of a byte that is wanted and not there -/
def lackE : Int := if L.bytes < S.length then 10 else 9
def lackP : Nat := if L.bytes < S.length then L.bytes else S.length
def lack {α : Type} : Rs α := .no (lackE S L) (lackP S L) (decide (S.length ≤ L.bytes))
/-- the number in the first i bytes behind a place -/
def lenB (q : Nat) : Nat → Rs Nat
  | 0 => .ok 0
  | i + 1 => match lenB q i with
    | .no e p b => .no e p b
    | .ok n => if has S L (q + i + 1) = true then (if i = 0 ∧ at0S S (q + 1) = 0 then .no 9 (q + 1) false else .ok (256 * n + at0S S (q + i + 1))) else lack S L
/-- a length, and the place behind it -/
def lenR (q : Nat) : Rs (Nat × Nat) :=
  if has S L q = true then
    (if at0S S q < 128 then .ok (at0S S q, q + 1)
    else if at0S S q = 128 ∨ 132 < at0S S q then .no 9 q false
    else match lenB S L q (at0S S q - 128) with
      | .no e p b => .no e p b
      | .ok n => if n < 128 then .no 9 (q + (at0S S q - 128)) false else .ok (n, q + (at0S S q - 128) + 1))
  else lack S L
/-- an element that is begun -/
structure Fr where
  tag : UInt8
  node : Nat
  p0 : Nat
  e : Nat
  kids : Nat
  last : List UInt8
/-- a state: an element is to be read; one has ended; the topmost one goes on -/
inductive St where
  | el (G : List Fr) (l : List Nd) (p : Nat)
  | pend (G : List Fr) (l : List Nd) (a p : Nat)
  | loop (G : List Fr) (l : List Nd) (p : Nat)
variable (bodyOk : UInt8 → List UInt8 → Bool) (less : List UInt8 → List UInt8 → Bool)
/-- an element is read, or begun -/
def elS (G : List Fr) (l : List Nd) (p : Nat) : Rs St :=
  if has S L p = false then lack S L
  else if L.items ≤ l.length then .no 10 p false
  else if tagE (S.getD p 0) ≠ 0 then .no (tagE (S.getD p 0)) p false
  else if within (S.getD p 0) = true ∧ L.depth ≤ G.length then .no 10 p false
  else match lenR S L (p + 1) with
    | .no e q b => .no e q b
    | .ok (n, q) =>
      if (G.head?.any fun f => decide (f.e < q + n)) = true then .no 9 p false
      else if within (S.getD p 0) = true then .ok (.loop ({ tag := S.getD p 0, node := l.length, p0 := p, e := q + n, kids := 0, last := [] } :: G) (l ++ [{ tag := S.getD p 0, kids := 0, body := [] }]) q)
      else if n ≠ 0 ∧ has S L (q + n - 1) = false then lack S L
      else if bodyOk (S.getD p 0) (part S q (q + n)) = false then .no 9 p false
      else .ok (.pend G (l ++ [{ tag := S.getD p 0, kids := -1, body := part S q (q + n) }]) p (q + n))
/-- one has ended -/
def pendS (G : List Fr) (l : List Nd) (a p : Nat) : Rs St :=
  match G with
  | [] => .ok (.loop [] l p)
  | f :: G' =>
    if f.tag = 0x31 ∧ 0 < f.kids ∧ less (part S a p) f.last = true then .no 9 a false
    else .ok (.loop ({ f with kids := f.kids + 1, last := part S a p } :: G') l p)
/-- the topmost one goes on, or ends -/
def loopS (f : Fr) (G : List Fr) (l : List Nd) (p : Nat) : St :=
  if p < f.e then .el (f :: G) l p else .pend G (l.modify f.node (fun n => { n with kids := (f.kids : Int) })) f.p0 p
/-- what is left when all have ended -/
def fin (l : List Nd) (p : Nat) : Rs (List Nd) :=
  if p < S.length then (if has S L p = true then .no 9 p false else lack S L) else .ok l
inductive Runs : St → Rs (List Nd) → Prop
  | el {G l p s r} : elS S L bodyOk G l p = .ok s → Runs s r → Runs (.el G l p) r
  | elNo {G l p e q b} : elS S L bodyOk G l p = .no e q b → Runs (.el G l p) (.no e q b)
  | pend {G l a p s r} : pendS S less G l a p = .ok s → Runs s r → Runs (.pend G l a p) r
  | pendNo {G l a p e q b} : pendS S less G l a p = .no e q b → Runs (.pend G l a p) (.no e q b)
  | loop {f G l p r} : Runs (loopS f G l p) r → Runs (.loop (f :: G) l p) r
  | fin {l p} : Runs (.loop [] l p) (fin S L l p)
theorem Runs.same {s : St} {r r' : Rs (List Nd)} (h : Runs S L bodyOk less s r) : Runs S L bodyOk less s r' → r = r' := by
  induction h with
  | el h1 _ ih => intro h'; cases h' with
    | el h2 h3 => rw [h1] at h2; cases h2; exact ih h3
    | elNo h2 => rw [h1] at h2; cases h2
  | elNo h1 => intro h'; cases h' with
    | el h2 h3 => rw [h1] at h2; cases h2
    | elNo h2 => rw [h1] at h2; cases h2; rfl
  | pend h1 _ ih => intro h'; cases h' with
    | pend h2 h3 => rw [h1] at h2; cases h2; exact ih h3
    | pendNo h2 => rw [h1] at h2; cases h2
  | pendNo h1 => intro h'; cases h' with
    | pend h2 h3 => rw [h1] at h2; cases h2
    | pendNo h2 => rw [h1] at h2; cases h2; rfl
  | loop _ ih => intro h'; cases h' with
    | loop h3 => exact ih h3
  | fin => intro h'; cases h' with
    | fin => rfl
end
end Dr
end Go.Proofs.YtpaikjlcachabaaDoor
