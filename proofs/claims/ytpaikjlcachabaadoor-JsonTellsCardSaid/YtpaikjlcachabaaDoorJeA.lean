/- Values as a text, in plain words: what the program's teller does value by value. -/
import Derived.Test.YtpaikjlcachabaaDoorJsQ
namespace Go.Proofs.YtpaikjlcachabaaDoor
set_option linter.unusedVariables false
set_option linter.unusedSimpArgs false
namespace Je
open Js
/-- what holds values: how many it has, how many are still to come, an object's names, the sign at its end -/
structure Hf where
  kids : Nat
  left : Nat
  names : Option (List (List UInt8))
  e : Nat
/-- the teller: what is told, what is begun (the topmost first), how deep it was -/
structure Te where
  out : List UInt8
  st : List Hf
  deep : Nat
def put (o s : List UInt8) : List UInt8 := if o.length ≤ 262144 then o ++ s else o
theorem put_le {o : List UInt8} (s : List UInt8) (h : o.length ≤ 262144) : put o s = o ++ s := by rw [put, if_pos h]
theorem put_gt {o : List UInt8} (s : List UInt8) (h : ¬ o.length ≤ 262144) : put o s = o := by rw [put, if_neg h]
def hexS (n : Nat) : UInt8 := UInt8.ofNat (if n < 10 then 48 + n else 87 + n)
/-- a byte of a string, as it is told -/
def qb (b : UInt8) : List UInt8 := if b = 34 ∨ b = 92 then [92, b] else if b.toNat < 32 then [92, 117, 48, 48, hexS (b.toNat / 16), hexS (b.toNat % 16)] else [b]
def qloop : List UInt8 → List UInt8 → List UInt8
  | o, [] => put o [34]
  | o, b :: l => if 262144 < o.length then o else qloop (o ++ qb b) l
def quote (o s : List UInt8) : List UInt8 := qloop (put o [34]) s
/-- what has all its values is ended -/
def endS : List UInt8 → List Hf → List UInt8 × List Hf
  | o, [] => (o, [])
  | o, h :: G => if h.left = 0 then endS (if G = [] then o else put o [UInt8.ofNat h.e]) G else (o, h :: G)
def isName (h : Hf) : Bool := h.names.isSome && decide (h.left % 2 = 0)
/-- a value is placed: the holder behind it, what stands ahead of it; none: it has no place -/
def placed (h : Hf) (v : Vl) : Option (Hf × List UInt8) :=
  if isName h = true then
    (if v.text ∈ h.names.getD [] ∨ v.kind ≠ 4 then none
     else some ({ h with left := h.left - 1, names := some (h.names.getD [] ++ [v.text]) }, if h.left < h.kids then [44] else []))
  else if h.names.isSome = true then some ({ h with left := h.left - 1 }, [58])
  else some ({ h with left := h.left - 1 }, if h.left < h.kids then [44] else [])
/-- what a value itself is told by, and what it begins -/
def tellV (o : List UInt8) (st : List Hf) (dp : Nat) (v : Vl) : Te :=
  if v.kind = 0 then ⟨put o [110, 117, 108, 108], st, dp⟩
  else if v.kind = 1 then ⟨put o [102, 97, 108, 115, 101], st, dp⟩
  else if v.kind = 2 then ⟨put o [116, 114, 117, 101], st, dp⟩
  else if v.kind = 3 then ⟨put o v.text, st, dp⟩
  else if v.kind = 4 then ⟨quote o v.text, st, dp⟩
  else if v.kind = 5 then ⟨put o [91], ⟨v.kids.toNat, v.kids.toNat, none, 93⟩ :: st, max dp st.length⟩
  else if v.kind = 6 then ⟨put o [123], ⟨v.kids.toNat, v.kids.toNat, some [], 125⟩ :: st, max dp st.length⟩
  else ⟨o, st, dp⟩
def valueS (t : Te) (v : Vl) : Option Te :=
  match endS t.out t.st with
  | (_, []) => none
  | (o, h :: G) => match placed h v with
    | none => none
    | some (h', pre) => some (tellV (if pre = [] then o else put o pre) (h' :: G) t.deep v)
/-- how many bytes go on with a number, and where it is then -/
def numOk (l : List UInt8) : Bool := match l.foldl (fun (w : Option Nat) b => match w with | some x => nextN x b | none => none) (some 0) with | some w => wholeN w | none => false
def rightV (valid : List UInt8 → Bool) (v : Vl) : Bool :=
  if v.kind = 0 ∨ v.kind = 1 ∨ v.kind = 2 then decide (v.text = [] ∧ v.kids = 0)
  else if v.kind = 3 then numOk v.text && decide (v.kids = 0)
  else if v.kind = 4 then valid v.text && decide (v.kids = 0)
  else if v.kind = 5 then decide (v.text = [] ∧ 0 ≤ v.kids)
  else if v.kind = 6 then decide (v.text = [] ∧ 0 ≤ v.kids ∧ v.kids % 2 = 0)
  else false
def base : Hf := ⟨1, 1, none, 0⟩
def te0 : Te := ⟨[], [base], 0⟩
/-- value by value; none: one is not right or has no place -/
def run (valid : List UInt8 → Bool) : Te → List Vl → Option Te
  | t, [] => some t
  | t, v :: l => if rightV valid v = true then (match valueS t v with | some t' => run valid t' l | none => none) else none
/-- what telling comes to: the text, or an error -/
def enc (valid : List UInt8 → Bool) (l : List Vl) : List UInt8 × Int :=
  if 4096 < l.length then ([], 10)
  else match run valid te0 l with
    | none => ([], 9)
    | some t => if (endS t.out t.st).2 = [] then (if 32 < t.deep ∨ 262144 < (endS t.out t.st).1.length then ([], 10) else ((endS t.out t.st).1, 0)) else ([], 9)
end Je
end Go.Proofs.YtpaikjlcachabaaDoor
