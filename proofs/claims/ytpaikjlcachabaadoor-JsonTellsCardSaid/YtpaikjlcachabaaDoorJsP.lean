/- JSON (layers 16 and 19), in plain words: what a string, a number and a word take byte by byte; a machine that takes a text byte by byte. -/
import Derived.Test.YtpaikjlcachabaaDoorDrP
namespace Go.Proofs.YtpaikjlcachabaaDoor
set_option linter.unusedVariables false
set_option linter.unusedSimpArgs false
namespace Js
open Dr (Rs Lm has lack)
/-- a value as it stands in a list -/
structure Vl where
  kind : Int
  kids : Int
  text : List UInt8
deriving DecidableEq
/-- the UTF-8 of a number -/
def enc8 (n : Nat) : List UInt8 :=
  if n < 128 then [UInt8.ofNat n]
  else if n < 2048 then [UInt8.ofNat (192 + n / 64), UInt8.ofNat (128 + n % 64)]
  else if n < 65536 then [UInt8.ofNat (224 + n / 4096), UInt8.ofNat (128 + n / 64 % 64), UInt8.ofNat (128 + n % 64)]
  else [UInt8.ofNat (240 + n / 262144), UInt8.ofNat (128 + n / 4096 % 64), UInt8.ofNat (128 + n / 64 % 64), UInt8.ofNat (128 + n % 64)]
/-- where a string is -/
inductive Sm where
  | plain
  | esc
  | hex (left num half : Nat)
  | slash (half : Nat)
  | mark (half : Nat)
  | more (left low high : Nat)
deriving DecidableEq
structure Ss where
  m : Sm
  t : List UInt8
deriving DecidableEq
/-- what a string comes to by one more byte -/
inductive Sr where
  | more (s : Ss)
  | done
  | bad
deriving DecidableEq
def isDigit (b : UInt8) : Bool := decide (48 ≤ b.toNat ∧ b.toNat ≤ 57)
def hexOf (b : UInt8) : Option Nat :=
  if 48 ≤ b.toNat ∧ b.toNat ≤ 57 then some (b.toNat - 48)
  else if 97 ≤ b.toNat ∧ b.toNat ≤ 102 then some (b.toNat - 97 + 10)
  else if 65 ≤ b.toNat ∧ b.toNat ≤ 70 then some (b.toNat - 65 + 10)
  else none
/-- the letters behind a backslash that stand for one byte -/
def escOf (b : UInt8) : Option UInt8 :=
  if b = 34 ∨ b = 92 ∨ b = 47 then some b
  else if b = 98 then some 8 else if b = 102 then some 12 else if b = 110 then some 10 else if b = 114 then some 13 else if b = 116 then some 9
  else none
def sgLeft (b : UInt8) : Nat := if 194 ≤ b.toNat ∧ b.toNat ≤ 223 then 1 else if 224 ≤ b.toNat ∧ b.toNat ≤ 239 then 2 else if 240 ≤ b.toNat ∧ b.toNat ≤ 244 then 3 else 0
def sgLow (b : UInt8) : Nat := if b = 224 then 160 else if b = 240 then 144 else 128
def sgHigh (b : UInt8) : Nat := if b = 237 then 159 else if b = 244 then 143 else 191
/-- four digits, and the first half ahead of them -/
def numbered (t : List UInt8) (n half : Nat) : Sr :=
  if decide (56320 ≤ n ∧ n ≤ 57343) ≠ decide (half ≠ 0) then .bad
  else if 55296 ≤ n ∧ n ≤ 56319 then .more ⟨.slash n, t⟩
  else if 56320 ≤ n ∧ n ≤ 57343 then .more ⟨.plain, t ++ enc8 (n + 65536 + (half - 55296) * 1024 - 56320)⟩
  else .more ⟨.plain, t ++ enc8 n⟩
def Ss.take (s : Ss) (b : UInt8) : Sr :=
  match s.m with
  | .plain =>
    if b = 34 then .done else if b.toNat < 32 then .bad else if b = 92 then .more ⟨.esc, s.t⟩
    else if b.toNat < 128 then .more ⟨.plain, s.t ++ [b]⟩
    else if sgLeft b = 0 then .bad else .more ⟨.more (sgLeft b) (sgLow b) (sgHigh b), s.t ++ [b]⟩
  | .esc =>
    match escOf b with
    | some c => .more ⟨.plain, s.t ++ [c]⟩
    | none => if b = 117 then .more ⟨.hex 4 0 0, s.t⟩ else .bad
  | .hex left num half =>
    match hexOf b with
    | none => .bad
    | some v => if 0 < left - 1 then .more ⟨.hex (left - 1) (16 * num + v) half, s.t⟩ else numbered s.t (16 * num + v) half
  | .slash half => if b = 92 then .more ⟨.mark half, s.t⟩ else .bad
  | .mark half => if b = 117 then .more ⟨.hex 4 0 half, s.t⟩ else .bad
  | .more left low high =>
    if b.toNat < low ∨ high < b.toNat then .bad
    else if left - 1 = 0 then .more ⟨.plain, s.t ++ [b]⟩ else .more ⟨.more (left - 1) 128 191, s.t ++ [b]⟩
/-- where a number is behind one more byte, if it goes on with it -/
def nextN (w : Nat) (b : UInt8) : Option Nat :=
  match w with
  | 0 => if b = 45 then some 1 else if b = 48 then some 2 else if isDigit b = true then some 3 else none
  | 1 => if b = 48 then some 2 else if isDigit b = true then some 3 else none
  | 2 => if b = 46 then some 4 else if b = 101 ∨ b = 69 then some 6 else none
  | 3 => if isDigit b = true then some 3 else if b = 46 then some 4 else if b = 101 ∨ b = 69 then some 6 else none
  | 4 => if isDigit b = true then some 5 else none
  | 5 => if b = 101 ∨ b = 69 then some 6 else if isDigit b = true then some 5 else none
  | 6 => if b = 43 ∨ b = 45 then some 7 else if isDigit b = true then some 8 else none
  | 7 => if isDigit b = true then some 8 else none
  | 8 => if isDigit b = true then some 8 else none
  | _ => none
def wholeN (w : Nat) : Bool := decide (w = 2 ∨ w = 3 ∨ w = 5 ∨ w = 8)
/-- what is at hand -/
inductive Hd where
  | none
  | word (rest : List UInt8)
  | num (w : Nat) (t : List UInt8)
  | str (s : Ss)
/-- an array or an object that has not ended: what stands ahead of it in what holds it, how many values it has so far, an object's names -/
structure Fr where
  b : List Vl
  n : Nat
  o : Option (List (List UInt8))
/-- what may come next: 0 a value, 1 a value or the end, 2 a name, 3 a name or the end, 4 a colon, 5 a comma or the end, 6 nothing -/
structure St where
  nx : Nat
  hand : Hd
  named : Option Nat
  cur : List Vl
  G : List Fr
def holdK (f : Fr) : Int := if f.o.isSome then 6 else 5
def hold (f : Fr) : Vl := ⟨holdK f, f.n, []⟩
/-- the whole list -/
def flat : List Fr → List Vl → List Vl
  | [], cur => cur
  | f :: G, cur => flat G f.b ++ hold f :: cur
def bump : List Fr → List Fr
  | [] => []
  | f :: G => { f with n := f.n + 1 } :: G
def blank (b : UInt8) : Bool := decide (b = 32 ∨ b = 9 ∨ b = 10 ∨ b = 13)
/-- what a byte comes to: on behind it, or a fault -/
inductive Out where
  | go (s : St)
  | fl (e : Int) (pl : Nat)
def St.size (s : St) : Nat := (flat s.G s.cur).length
def St.ended (s : St) : St := { s with nx := if s.G.isEmpty then 6 else 5, hand := .none }
def withText (t : List UInt8) (l : List Vl) : List Vl := l.modify (l.length - 1) (fun v => { v with text := t })
def St.add (L : Lm) (s : St) (p : Nat) (k : Out) : Out := if L.items ≤ s.size then .fl 10 p else k
def St.begin (s : St) (kind : Int) (h : Hd) : St := { s with hand := h, cur := s.cur ++ [⟨kind, 0, []⟩], G := bump s.G }
def St.hold (s : St) (o : Option (List (List UInt8))) : St := { s with nx := if o.isSome then 3 else 1, cur := [], G := ⟨s.cur, 0, o⟩ :: bump s.G }
def s0 : Ss := ⟨.plain, []⟩
/-- a byte that may begin a value -/
def begins (b : UInt8) : Bool := decide (b = 34 ∨ b = 123 ∨ b = 91 ∨ b = 116 ∨ b = 102 ∨ b = 110 ∨ b = 45) || isDigit b
def St.value (L : Lm) (s : St) (b : UInt8) (p : Nat) : Out :=
  if b = 34 then s.add L p (.go (s.begin 4 (.str s0)))
  else if b = 123 then s.add L p (if L.depth ≤ s.G.length then .fl 10 p else .go (s.hold (some [])))
  else if b = 91 then s.add L p (if L.depth ≤ s.G.length then .fl 10 p else .go (s.hold none))
  else if b = 116 then s.add L p (.go (s.begin 2 (.word [114, 117, 101])))
  else if b = 102 then s.add L p (.go (s.begin 1 (.word [97, 108, 115, 101])))
  else if b = 110 then s.add L p (.go (s.begin 0 (.word [117, 108, 108])))
  else match nextN 0 b with
    | some w => s.add L p (.go (s.begin 3 (.num w [b])))
    | none => .fl 9 p
def St.name (L : Lm) (s : St) (b : UInt8) (p : Nat) : Out :=
  if b = 34 then s.add L p (.go { s.begin 4 (.str s0) with named := some p }) else .fl 9 p
def St.close (s : St) : St :=
  match s.G with
  | [] => s
  | f :: G => ({ s with cur := f.b ++ Js.hold f :: s.cur, G := G } : St).ended
def St.pass (s : St) (right : Bool) (nx : Nat) (p : Nat) : Out := if right = true then .go { s with nx := nx } else .fl 9 p
def St.object (s : St) : Bool := match s.G with | [] => false | f :: _ => f.o.isSome
def St.goOn (s : St) (b : UInt8) (p : Nat) : Out :=
  if s.object = true then (if b = 125 then .go s.close else s.pass (decide (b = 44)) 2 p)
  else (if b = 93 then .go s.close else s.pass (decide (b = 44)) 0 p)
def St.step (L : Lm) (s : St) (b : UInt8) (p : Nat) : Out :=
  match s.nx with
  | 0 => s.value L b p
  | 1 => if b = 93 then .go s.close else s.value L b p
  | 2 => s.name L b p
  | 3 => if b = 125 then .go s.close else s.name L b p
  | 4 => s.pass (decide (b = 58)) 0 p
  | 5 => s.goOn b p
  | _ => .fl 9 p
def St.between (L : Lm) (s : St) (b : UInt8) (p : Nat) : Out := if blank b = true then .go s else s.step L b p
def St.endNum (s : St) (t : List UInt8) : St := { s with cur := withText t s.cur }.ended
def addName (x : List UInt8) : List Fr → List Fr
  | [] => []
  | f :: G => { f with o := f.o.map (· ++ [x]) } :: G
def St.names (s : St) : List (List UInt8) := match s.G with | [] => [] | f :: _ => f.o.getD []
def St.endStr (s : St) (t : List UInt8) : Out :=
  match s.named with
  | none => .go { s with cur := withText t s.cur }.ended
  | some a => if t ∈ s.names then .fl 9 a else .go { s with cur := withText t s.cur, hand := .none, named := none, nx := 4, G := addName t s.G }
def St.act (L : Lm) (s : St) (b : UInt8) (p : Nat) : Out :=
  match s.hand with
  | .none => s.between L b p
  | .word [] => .fl 9 p
  | .word (x :: r) => if b = x then (if r = [] then .go s.ended else .go { s with hand := .word r }) else .fl 9 p
  | .num w t =>
    match nextN w b with
    | some w' => .go { s with hand := .num w' (t ++ [b]) }
    | none => if wholeN w = true then (s.endNum t).between L b p else .fl 9 p
  | .str x =>
    match x.take b with
    | .more y => .go { s with hand := .str y }
    | .bad => .fl 9 p
    | .done => s.endStr x.t
/-- what stands in the list where no byte is left -/
def St.last (s : St) : Option (List Vl) :=
  if s.G.isEmpty = true then
    match s.hand with
    | .none => if s.nx = 6 then some s.cur else none
    | .num w t => if wholeN w = true then some (withText t s.cur) else none
    | _ => none
  else none
section
variable (S : List UInt8) (L : Lm)
def lackK : Nat := if L.bytes < S.length then L.bytes else S.length
def fin (s : St) : Rs (List Vl) :=
  if S.length ≤ L.bytes then (match s.last with | some l => .ok l | none => lack S L) else lack S L
/-- the machine, with how much was taken and how much is begun at its end -/
inductive RunsT : St → Nat → Rs (List Vl) → Nat → Nat → Prop
  | stop {s p} : has S L p = false → RunsT s p (fin S L s) (lackK S L) s.G.length
  | fl {s p e q} : has S L p = true → s.act L (S.getD p 0) p = .fl e q → RunsT s p (.no e q false) (p + 1) s.G.length
  | go {s p s' r t k} : has S L p = true → s.act L (S.getD p 0) p = .go s' → RunsT s' (p + 1) r t k → RunsT s p r t k
theorem RunsT.same {s : St} {p : Nat} {r r' : Rs (List Vl)} {t k t' k' : Nat} (h : RunsT S L s p r t k) : RunsT S L s p r' t' k' → r = r' ∧ t = t' ∧ k = k' := by
  induction h with
  | stop h1 => intro h'; cases h' with
    | stop h2 => exact ⟨rfl, rfl, rfl⟩
    | fl h2 _ => rw [h1] at h2; cases h2
    | go h2 _ _ => rw [h1] at h2; cases h2
  | fl h1 ha => intro h'; cases h' with
    | stop h2 => rw [h1] at h2; cases h2
    | fl h2 hb => rw [ha] at hb; cases hb; exact ⟨rfl, rfl, rfl⟩
    | go h2 hb _ => rw [ha] at hb; cases hb
  | go h1 ha _ ih => intro h'; cases h' with
    | stop h2 => rw [h1] at h2; cases h2
    | fl h2 hb => rw [ha] at hb; cases hb
    | go h2 hb h3 => rw [ha] at hb; cases hb; exact ih h3
def st0 : St := ⟨0, .none, none, [], []⟩
end
end Js
end Go.Proofs.YtpaikjlcachabaaDoor
