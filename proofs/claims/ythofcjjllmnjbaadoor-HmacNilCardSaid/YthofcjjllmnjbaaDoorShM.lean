/- Plain words for digests: words that turn, the schedule, the rounds, the blocks. -/
import Derived.Test.YthofcjjllmnjbaaDoorShP
namespace Go.Proofs.YthofcjjllmnjbaaDoor
open Go.RowKit
set_option linter.unusedVariables false
set_option linter.unusedSimpArgs false
namespace Sh
/-- turned to the right; b: a word's bits -/
def rotR (b x n : Nat) : Nat := (x >>> n ||| x <<< (b - n)) % 2 ^ b
def T32 : List Nat := [7, 18, 3, 17, 19, 10, 2, 13, 22, 6, 11, 25]
def T64 : List Nat := [1, 8, 7, 19, 61, 6, 28, 34, 39, 14, 18, 41]
def T (b : Nat) : List Nat := if b = 32 then T32 else T64
def tn (b i : Nat) : Nat := (T b).getD i 0
/-- turned by two, and turned (or shifted) by a third -/
def sA (b i x : Nat) : Nat := rotR b x (tn b i) ^^^ rotR b x (tn b (i + 1)) ^^^ rotR b x (tn b (i + 2))
def sB (b i x : Nat) : Nat := rotR b x (tn b i) ^^^ rotR b x (tn b (i + 1)) ^^^ x >>> tn b (i + 2)
def g (l : List Nat) (i : Nat) : Nat := l.getD i 0
def nxw (b : Nat) (w : List Nat) (n : Nat) : Nat := (sB b 3 (g w (n + 14)) + g w (n + 9) + sB b 0 (g w (n + 1)) + g w n) % 2 ^ b
/-- n words more than sixteen -/
def sched (b : Nat) (M : List Nat) : Nat → List Nat
  | 0 => M
  | n + 1 => sched b M n ++ [nxw b (sched b M n) n]
def ch (b e f h : Nat) : Nat := (e &&& f) ^^^ ((2 ^ b - 1 - e) &&& h)
def maj (x y z : Nat) : Nat := (x &&& y) ^^^ (x &&& z) ^^^ (y &&& z)
def tt (b k w : Nat) (v : List Nat) : Nat := g v 7 + sA b 9 (g v 4) + ch b (g v 4) (g v 5) (g v 6) + k + w
def uu (b : Nat) (v : List Nat) : Nat := sA b 6 (g v 0) + maj (g v 0) (g v 1) (g v 2)
def rnd (b k w : Nat) (v : List Nat) : List Nat := [(tt b k w v + uu b v) % 2 ^ b, g v 0, g v 1, g v 2, (g v 3 + tt b k w v) % 2 ^ b, g v 4, g v 5, g v 6]
def rnds (b : Nat) (K W v : List Nat) : Nat → List Nat
  | 0 => v
  | n + 1 => rnd b (g K n) (g W n) (rnds b K W v n)
def rounds (b : Nat) : Nat := if b = 32 then 64 else 80
def addw (b : Nat) (x y : List Nat) : List Nat := List.zipWith (fun m n => (m + n) % 2 ^ b) x y
def comp (b : Nat) (K H M : List Nat) : List Nat := addw b H (rnds b K (sched b M (rounds b - 16)) H (rounds b))
/-- a block's words -/
def wordsOf (b : Nat) (B : List UInt8) : List Nat := (List.range 16).map fun i => ofBe ((B.drop (b / 8 * i)).take (b / 8))
/-- what n blocks come to -/
def hs (b : Nat) (K H : List Nat) (D : List UInt8) : Nat → List Nat
  | 0 => H
  | n + 1 => comp b K (hs b K H D n) (wordsOf b ((D.drop (2 * b * n)).take (2 * b)))
def bits (kind : Int) : Nat := if kind = 256 then 32 else 64
def cut (b x : Nat) : Nat := if b = 32 then x >>> 32 else x
def kL (b : Nat) : List Nat := (roundL.take (rounds b)).map (cut b)
def hL (kind : Int) : List Nat := if kind = 384 then startL.drop 8 else (startL.take 8).map (cut (bits kind))
/-- a text's end: a one, noughts, the number of its bits -/
def padN (b n : Nat) : Nat := (4 * b - 1 - n % (2 * b) - b / 4) % (2 * b) + (b / 4 - 8)
def padL (b : Nat) (S : List UInt8) : List UInt8 := S ++ (128 :: (List.replicate (padN b S.length) 0 ++ be 8 (8 * S.length)))
def outN (kind : Int) : Nat := (kind / 8).toNat
def known (kind : Int) : Bool := kind == 256 || kind == 384 || kind == 512
def shL (kind : Int) (S : List UInt8) : List UInt8 :=
  (((hs (bits kind) (kL (bits kind)) (hL kind) (padL (bits kind) S) ((padL (bits kind) S).length / (2 * bits kind))).flatMap fun x => be (bits kind / 8) x)).take (outN kind)
def shE (kind : Int) : Int := if known kind then 0 else 11
theorem abc256 : (shL 256 [97, 98, 99]).take 4 = [186, 120, 22, 191] := by decide +kernel
theorem abc512 : (shL 512 [97, 98, 99]).take 4 = [221, 175, 53, 161] := by decide +kernel
theorem abc384 : (shL 384 [97, 98, 99]).take 4 = [203, 0, 117, 63] := by decide +kernel
end Sh
end Go.Proofs.YthofcjjllmnjbaaDoor
