/- Joined by merge.py: ShP ShN ShM ShA ShB ShC. -/
import Derived.Test.YtjlmmlnldjandaaGreatDoorOctX
import Derived.Test.YtjlmmlnldjandaaGreatDoorRowX
namespace Go.Proofs.YtjlmmlnldjandaaGreatDoor
open Go.RowKit
set_option linter.unusedVariables false
set_option linter.unusedSimpArgs false
namespace Sh
/-- the table of round words, as the program's text lays it -/
def roundL : List Nat := [0x428a2f98d728ae22, 0x7137449123ef65cd, 0xb5c0fbcfec4d3b2f, 0xe9b5dba58189dbbc, 0x3956c25bf348b538, 0x59f111f1b605d019, 0x923f82a4af194f9b, 0xab1c5ed5da6d8118, 0xd807aa98a3030242, 0x12835b0145706fbe, 0x243185be4ee4b28c, 0x550c7dc3d5ffb4e2, 0x72be5d74f27b896f, 0x80deb1fe3b1696b1, 0x9bdc06a725c71235, 0xc19bf174cf692694, 0xe49b69c19ef14ad2, 0xefbe4786384f25e3, 0x0fc19dc68b8cd5b5, 0x240ca1cc77ac9c65, 0x2de92c6f592b0275, 0x4a7484aa6ea6e483, 0x5cb0a9dcbd41fbd4, 0x76f988da831153b5, 0x983e5152ee66dfab, 0xa831c66d2db43210, 0xb00327c898fb213f, 0xbf597fc7beef0ee4, 0xc6e00bf33da88fc2, 0xd5a79147930aa725, 0x06ca6351e003826f, 0x142929670a0e6e70, 0x27b70a8546d22ffc, 0x2e1b21385c26c926, 0x4d2c6dfc5ac42aed, 0x53380d139d95b3df, 0x650a73548baf63de, 0x766a0abb3c77b2a8, 0x81c2c92e47edaee6, 0x92722c851482353b, 0xa2bfe8a14cf10364, 0xa81a664bbc423001, 0xc24b8b70d0f89791, 0xc76c51a30654be30, 0xd192e819d6ef5218, 0xd69906245565a910, 0xf40e35855771202a, 0x106aa07032bbd1b8, 0x19a4c116b8d2d0c8, 0x1e376c085141ab53, 0x2748774cdf8eeb99, 0x34b0bcb5e19b48a8, 0x391c0cb3c5c95a63, 0x4ed8aa4ae3418acb, 0x5b9cca4f7763e373, 0x682e6ff3d6b2b8a3, 0x748f82ee5defb2fc, 0x78a5636f43172f60, 0x84c87814a1f0ab72, 0x8cc702081a6439ec, 0x90befffa23631e28, 0xa4506cebde82bde9, 0xbef9a3f7b2c67915, 0xc67178f2e372532b, 0xca273eceea26619c, 0xd186b8c721c0c207, 0xeada7dd6cde0eb1e, 0xf57d4f7fee6ed178, 0x06f067aa72176fba, 0x0a637dc5a2c898a6, 0x113f9804bef90dae, 0x1b710b35131c471b, 0x28db77f523047d84, 0x32caab7b40c72493, 0x3c9ebe0a15c9bebc, 0x431d67c49c100d4c, 0x4cc5d4becb3e42b6, 0x597f299cfc657e2a, 0x5fcb6fab3ad6faec, 0x6c44198c4a475817]
def startL : List Nat := [0x6a09e667f3bcc908, 0xbb67ae8584caa73b, 0x3c6ef372fe94f82b, 0xa54ff53a5f1d36f1, 0x510e527fade682d1, 0x9b05688c2b3e6c1f, 0x1f83d9abfb41bd6b, 0x5be0cd19137e2179, 0xcbbb9d5dc1059ed8, 0x629a292a367cd507, 0x9159015a3070dd17, 0x152fecd8f70e5939, 0x67332667ffc00b31, 0x8eb44a8768581511, 0xdb0c2e0d64f98fa7, 0x47b5481dbefa4fa4]
/-! ### roots -/
/-- one bit after the other, the highest first -/
def rootGo (p n : Nat) : Nat → Nat → Nat
  | 0, x => x
  | k + 1, x => rootGo p n k (if p * 2 ^ (64 * n) < (x ||| 2 ^ k) ^ n then x else x ||| 2 ^ k)
def root (p n : Nat) : Nat := rootGo p n 69 0 % 2 ^ 64
/-- no divisor up to the root -/
def okq (p q : Nat) : Bool := q < 2 || p < q * q || p % q != 0
def isPrime (p : Nat) : Bool := (List.range (p + 1)).all (okq p)
theorem prime_end (p q : Nat) (h : p < q * q) (hq : q ≤ p + 1) : (List.range q).all (okq p) = isPrime p := by
  rw [isPrime, show p + 1 = q + (p + 1 - q) by omega, List.range_add, List.all_append]
  have : ((List.range (p + 1 - q)).map (q + ·)).all (okq p) = true := by
    rw [List.all_eq_true]
    intro x hx
    obtain ⟨k, _, rfl⟩ := List.mem_map.1 hx
    have : p < (q + k) * (q + k) := Nat.lt_of_lt_of_le h (Nat.mul_le_mul (by omega) (by omega))
    simp [okq, this]
  rw [this, Bool.and_true]
theorem prime_step (p q : Nat) : (List.range (q + 1)).all (okq p) = ((List.range q).all (okq p) && okq p q) := by
  rw [List.range_succ, List.all_append]
  simp
/-- the primes below p -/
def ps (p : Nat) : List Nat := (List.range p).filter fun x => decide (2 ≤ x) && isPrime x
theorem ps_step (p : Nat) (h : 2 ≤ p) : ps (p + 1) = if isPrime p then ps p ++ [p] else ps p := by
  rw [ps, List.range_succ, List.filter_append, ← ps]
  cases hp : isPrime p
  · simp [hp]
  · simp [hp, h]
def primes : List Nat := ps 410
theorem primes_length : primes.length = 80 := by decide +kernel
theorem ps_all (p : Nat) (h : p ≤ 410) (h80 : (ps p).length = 80) : ps p = primes := by
  have e : primes = ps p ++ ((List.range (410 - p)).map (p + ·)).filter fun x => decide (2 ≤ x) && isPrime x := by
    rw [primes, ps, ps, ← List.filter_append, ← List.range_add, show p + (410 - p) = 410 by omega]
  have hl := congrArg List.length e
  rw [primes_length, List.length_append, h80] at hl
  rw [e, List.eq_nil_of_length_eq_zero (show (((List.range (410 - p)).map (p + ·)).filter fun x => decide (2 ≤ x) && isPrime x).length = 0 by omega), List.append_nil]
theorem ps_le (p : Nat) (h : p ≤ 410) : (ps p).length ≤ 80 := by
  have e : primes = ps p ++ ((List.range (410 - p)).map (p + ·)).filter fun x => decide (2 ≤ x) && isPrime x := by
    rw [primes, ps, ps, ← List.filter_append, ← List.range_add, show p + (410 - p) = 410 by omega]
  have hl := congrArg List.length e
  rw [primes_length, List.length_append] at hl
  omega
theorem ps_top : (ps 410).length = 80 := primes_length
theorem roots3 : primes.map (fun p => root p 3) = roundL := by decide +kernel
theorem roots2 : (primes.take 16).map (fun p => root p 2) = startL := by decide +kernel
end Sh
end Go.Proofs.YtjlmmlnldjandaaGreatDoor
namespace Go.Proofs.YtjlmmlnldjandaaGreatDoor
open Go.RowKit
set_option linter.unusedVariables false
set_option linter.unusedSimpArgs false
namespace Sh
/-- what half words come to, the lowest first -/
def V : List Nat → Nat
  | [] => 0
  | a :: l => a + 2 ^ 32 * V l
theorem V_set : ∀ (l : List Nat) (j v : Nat), j < l.length → V (l.set j v) + l.getD j 0 * 2 ^ (32 * j) = V l + v * 2 ^ (32 * j)
  | [], _, _, h => absurd h (by simp)
  | a :: l, 0, v, _ => by simp [V]; omega
  | a :: l, j + 1, v, h => by
    have ih := V_set l j v (by simpa using h)
    simp only [List.set_cons_succ, V, List.getD_cons_succ]
    rw [show 32 * (j + 1) = 32 + 32 * j by omega, Nat.pow_add]
    have e1 : l.getD j 0 * (2 ^ 32 * 2 ^ (32 * j)) = 2 ^ 32 * (l.getD j 0 * 2 ^ (32 * j)) := by rw [Nat.mul_left_comm]
    have e2 : v * (2 ^ 32 * 2 ^ (32 * j)) = 2 ^ 32 * (v * 2 ^ (32 * j)) := by rw [Nat.mul_left_comm]
    rw [e1, e2]
    omega
theorem V_lt : ∀ (l : List Nat), (∀ x ∈ l, x < 2 ^ 32) → V l < 2 ^ (32 * l.length)
  | [], _ => by simp [V]
  | a :: l, h => by
    have ih := V_lt l fun x hx => h x (List.mem_cons_of_mem _ hx)
    have ha := h a List.mem_cons_self
    rw [V, List.length_cons, show 32 * (l.length + 1) = 32 + 32 * l.length by omega, Nat.pow_add]
    have : 2 ^ 32 * (V l + 1) ≤ 2 ^ 32 * 2 ^ (32 * l.length) := Nat.mul_le_mul_left _ ih
    omega
theorem V_rep (n : Nat) : V (List.replicate n 0) = 0 := by
  induction n with
  | zero => rfl
  | succ n ih => rw [List.replicate_succ, V, ih]
/-- the half word number k -/
def hw (a k : Nat) : Nat := a / 2 ^ (32 * k) % 2 ^ 32
theorem hw_lt (a k : Nat) : hw a k < 2 ^ 32 := Nat.mod_lt _ (by decide)
theorem hw_step (b k : Nat) : b % 2 ^ (32 * (k + 1)) = b % 2 ^ (32 * k) + hw b k * 2 ^ (32 * k) := by
  rw [show 32 * (k + 1) = 32 * k + 32 by omega, Nat.pow_add, Nat.mod_mul, hw, Nat.mul_comm (2 ^ (32 * k))]
/-- one step: the product of two half words is put in place i + k, and carried -/
theorem in_step (V0 V1 V2 o c x ha b i k : Nat) (hinv : V1 + c * 2 ^ (32 * (i + k)) = V0 + ha * 2 ^ (32 * i) * (b % 2 ^ (32 * k)))
    (hx : x = ha * hw b k + o + c) (hset : V2 + o * 2 ^ (32 * (i + k)) = V1 + (x % 2 ^ 32) * 2 ^ (32 * (i + k))) :
    V2 + x / 2 ^ 32 * 2 ^ (32 * (i + (k + 1))) = V0 + ha * 2 ^ (32 * i) * (b % 2 ^ (32 * (k + 1))) := by
  rw [hw_step, Nat.mul_add (ha * 2 ^ (32 * i)), ← Nat.add_assoc V0, ← hinv, show 32 * (i + (k + 1)) = 32 * (i + k) + 32 by omega, Nat.pow_add 2 (32 * (i + k))]
  have e1 : ha * 2 ^ (32 * i) * (hw b k * 2 ^ (32 * k)) = ha * hw b k * 2 ^ (32 * (i + k)) := by
    rw [show 32 * (i + k) = 32 * i + 32 * k by omega, Nat.pow_add]; ac_rfl
  have e2 : x / 2 ^ 32 * (2 ^ (32 * (i + k)) * 2 ^ 32) = (2 ^ 32 * (x / 2 ^ 32)) * 2 ^ (32 * (i + k)) := by ac_rfl
  have e3 : x * 2 ^ (32 * (i + k)) = (2 ^ 32 * (x / 2 ^ 32)) * 2 ^ (32 * (i + k)) + (x % 2 ^ 32) * 2 ^ (32 * (i + k)) := by
    rw [← Nat.add_mul, Nat.div_add_mod]
  have e4 : x * 2 ^ (32 * (i + k)) = ha * hw b k * 2 ^ (32 * (i + k)) + o * 2 ^ (32 * (i + k)) + c * 2 ^ (32 * (i + k)) := by rw [hx, Nat.add_mul, Nat.add_mul]
  rw [e1, e2]
  omega
/-- a row: V is the product with one more half word, cut to 256 bits -/
theorem row_end (V0 V1 c ha a b i : Nat) (hi : i ≤ 8) (hV : V1 < 2 ^ 256) (hinv : V1 + c * 2 ^ (32 * (i + (8 - i))) = V0 + ha * 2 ^ (32 * i) * (b % 2 ^ (32 * (8 - i)))) (h0 : V0 = (a % 2 ^ (32 * i)) * b % 2 ^ 256) (hh : ha = hw a i) :
    V1 = (a % 2 ^ (32 * (i + 1))) * b % 2 ^ 256 := by
  have h1 : V1 = (V0 + ha * 2 ^ (32 * i) * (b % 2 ^ (32 * (8 - i)))) % 2 ^ 256 := by
    rw [← hinv, show 32 * (i + (8 - i)) = 256 by omega, Nat.add_mul_mod_self_right, Nat.mod_eq_of_lt hV]
  have h2 : ha * 2 ^ (32 * i) * (b % 2 ^ (32 * (8 - i))) % 2 ^ 256 = ha * 2 ^ (32 * i) * b % 2 ^ 256 := by
    have e : (2 : Nat) ^ 256 = 2 ^ (32 * i) * 2 ^ (32 * (8 - i)) := by rw [← Nat.pow_add]; congr 1; omega
    rw [Nat.mul_comm ha, Nat.mul_assoc, Nat.mul_assoc, e, Nat.mul_mod_mul_left, Nat.mul_mod_mul_left, Nat.mul_mod_mod]
  rw [h1, Nat.add_mod, h2, h0, Nat.mod_mod, ← Nat.add_mod, hw_step, Nat.add_mul, hh]
/-- fourH words -/
def num (w : List Nat) : Nat := w.getD 0 0 + w.getD 1 0 * 2 ^ 64 + w.getD 2 0 * 2 ^ 128 + w.getD 3 0 * 2 ^ 192
def wd4 (n : Nat) : List Nat := [n % 2 ^ 64, n / 2 ^ 64 % 2 ^ 64, n / 2 ^ 128 % 2 ^ 64, n / 2 ^ 192 % 2 ^ 64]
theorem num_wd4 (n : Nat) (h : n < 2 ^ 256) : num (wd4 n) = n := by
  show n % 2 ^ 64 + n / 2 ^ 64 % 2 ^ 64 * 2 ^ 64 + n / 2 ^ 128 % 2 ^ 64 * 2 ^ 128 + n / 2 ^ 192 % 2 ^ 64 * 2 ^ 192 = n
  omega
end Sh
end Go.Proofs.YtjlmmlnldjandaaGreatDoor
namespace Go.Proofs.YtjlmmlnldjandaaGreatDoor
open Go.RowKit
set_option linter.unusedVariables false
set_option linter.unusedSimpArgs false
namespace Sh
/-- turned to the right; b: a word's bits -/
def rotR (b x n : Nat) : Nat := (x >>> n ||| x <<< (b - n)) % 2 ^ b
def T32 : List Nat := [7, 18, 3, 17, 19, 10, 2, 13, 22, 6, 11, 25]
def T64 : List Nat := [1, 8, 7, 19, 61, 6, 28, 34, 39, 14, 18, 41]
def T (b : Nat) : List Nat := if b = 32 then T32 else T64
def tn (b i : Nat) : Nat := (T b).getD i 0
/-- turned by two, and turned (or shifted) by a third -/
def sA (b i x : Nat) : Nat := rotR b x (tn b i) ^^^ rotR b x (tn b (i + 1)) ^^^ rotR b x (tn b (i + 2))
def sB (b i x : Nat) : Nat := rotR b x (tn b i) ^^^ rotR b x (tn b (i + 1)) ^^^ x >>> tn b (i + 2)
def g (l : List Nat) (i : Nat) : Nat := l.getD i 0
def nxw (b : Nat) (w : List Nat) (n : Nat) : Nat := (sB b 3 (g w (n + 14)) + g w (n + 9) + sB b 0 (g w (n + 1)) + g w n) % 2 ^ b
/-- n words more than sixteen -/
def sched (b : Nat) (M : List Nat) : Nat → List Nat
  | 0 => M
  | n + 1 => sched b M n ++ [nxw b (sched b M n) n]
def ch (b e f h : Nat) : Nat := (e &&& f) ^^^ ((2 ^ b - 1 - e) &&& h)
def maj (x y z : Nat) : Nat := (x &&& y) ^^^ (x &&& z) ^^^ (y &&& z)
def tt (b k w : Nat) (v : List Nat) : Nat := g v 7 + sA b 9 (g v 4) + ch b (g v 4) (g v 5) (g v 6) + k + w
def uu (b : Nat) (v : List Nat) : Nat := sA b 6 (g v 0) + maj (g v 0) (g v 1) (g v 2)
def rnd (b k w : Nat) (v : List Nat) : List Nat := [(tt b k w v + uu b v) % 2 ^ b, g v 0, g v 1, g v 2, (g v 3 + tt b k w v) % 2 ^ b, g v 4, g v 5, g v 6]
def rnds (b : Nat) (K W v : List Nat) : Nat → List Nat
  | 0 => v
  | n + 1 => rnd b (g K n) (g W n) (rnds b K W v n)
def rounds (b : Nat) : Nat := if b = 32 then 64 else 80
def addw (b : Nat) (x y : List Nat) : List Nat := List.zipWith (fun m n => (m + n) % 2 ^ b) x y
def comp (b : Nat) (K H M : List Nat) : List Nat := addw b H (rnds b K (sched b M (rounds b - 16)) H (rounds b))
/-- a block's words -/
def wordsOf (b : Nat) (B : List UInt8) : List Nat := (List.range 16).map fun i => ofBe ((B.drop (b / 8 * i)).take (b / 8))
/-- what n blocks come to -/
def hs (b : Nat) (K H : List Nat) (D : List UInt8) : Nat → List Nat
  | 0 => H
  | n + 1 => comp b K (hs b K H D n) (wordsOf b ((D.drop (2 * b * n)).take (2 * b)))
def bits (kind : Int) : Nat := if kind = 256 then 32 else 64
def cut (b x : Nat) : Nat := if b = 32 then x >>> 32 else x
def kL (b : Nat) : List Nat := (roundL.take (rounds b)).map (cut b)
def hL (kind : Int) : List Nat := if kind = 384 then startL.drop 8 else (startL.take 8).map (cut (bits kind))
/-- a text's end: a one, noughts, the number of its bits -/
def padN (b n : Nat) : Nat := (4 * b - 1 - n % (2 * b) - b / 4) % (2 * b) + (b / 4 - 8)
def padL (b : Nat) (S : List UInt8) : List UInt8 := S ++ (128 :: (List.replicate (padN b S.length) 0 ++ be 8 (8 * S.length)))
def outN (kind : Int) : Nat := (kind / 8).toNat
def known (kind : Int) : Bool := kind == 256 || kind == 384 || kind == 512
def shL (kind : Int) (S : List UInt8) : List UInt8 :=
  (((hs (bits kind) (kL (bits kind)) (hL kind) (padL (bits kind) S) ((padL (bits kind) S).length / (2 * bits kind))).flatMap fun x => be (bits kind / 8) x)).take (outN kind)
def shE (kind : Int) : Int := if known kind then 0 else 11
theorem abc256 : (shL 256 [97, 98, 99]).take 4 = [186, 120, 22, 191] := by decide +kernel
theorem abc512 : (shL 512 [97, 98, 99]).take 4 = [221, 175, 53, 161] := by decide +kernel
theorem abc384 : (shL 384 [97, 98, 99]).take 4 = [203, 0, 117, 63] := by decide +kernel
end Sh
end Go.Proofs.YtjlmmlnldjandaaGreatDoor
namespace Go.Proofs.YtjlmmlnldjandaaGreatDoor
open Go.RowKit
set_option linter.unusedVariables false
set_option linter.unusedSimpArgs false
/-- a number's word number j -/
def nw (a j : Nat) : Nat := a / 2 ^ (64 * j) % 2 ^ 64
theorem nw_lt (a j : Nat) : nw a j < 2 ^ 64 := Nat.mod_lt _ (by decide)
theorem nw_even (a j : Nat) : nw a j % 4294967296 = Sh.hw a (2 * j) := by
  rw [nw, Sh.hw, show 32 * (2 * j) = 64 * j by omega, show (4294967296 : Nat) = 2 ^ 32 by decide, Nat.mod_mod_of_dvd _ (Nat.pow_dvd_pow 2 (by decide))]
theorem nw_odd (a j : Nat) : nw a j / 4294967296 = Sh.hw a (2 * j + 1) := by
  rw [nw, Sh.hw, show 32 * (2 * j + 1) = 64 * j + 32 by omega, Nat.pow_add, ← Nat.div_div_eq_div_mul, show (4294967296 : Nat) = 2 ^ 32 by decide, show (2 : Nat) ^ 64 = 2 ^ 32 * 2 ^ 32 by decide, Nat.mod_mul_right_div_self]
theorem u64_tmod (x m r : Nat) (h : x % m = r) : (x : Int).tmod (m : Int) = (r : Int) := by
  rw [Int.tmod_eq_emod_of_nonneg (by omega), ← h]
  rfl
set_option maxRecDepth 100000 in
theorem half_any (a i : Nat) (hi : i < 8) (w : World) : Calls Tryz.prog 132 #[.agg #[.int .u64 ((nw a 0 : Nat) : Int), .int .u64 ((nw a 1 : Nat) : Int), .int .u64 ((nw a 2 : Nat) : Int), .int .u64 ((nw a 3 : Nat) : Int)], .int .i64 (i : Int)] w (RetU (Sh.hw a i) w) := by
  obtain ⟨j, hj⟩ : ∃ j, i / 2 = j := ⟨_, rfl⟩
  have hj4 : j < 4 := by omega
  obtain ⟨x, hx⟩ : ∃ x, nw a j = x := ⟨_, rfl⟩
  have hc : ∀ y : World, (y.alloc (Obj.cells #[.int .u64 ((nw a 0 : Nat) : Int), .int .u64 ((nw a 1 : Nat) : Int), .int .u64 ((nw a 2 : Nat) : Int), .int .u64 ((nw a 3 : Nat) : Int)] 159)).cell? ⟨y.heap.size, j, none⟩ = some (.int .u64 (x : Int)) := fun y => by
    have h := At.ofAlloc y #[.int .u64 ((nw a 0 : Nat) : Int), .int .u64 ((nw a 1 : Nat) : Int), .int .u64 ((nw a 2 : Nat) : Int), .int .u64 ((nw a 3 : Nat) : Int)] 159
    have h2 := h.cell j (.int .u64 (x : Int)) (by
      have hjj : j = 0 ∨ j = 1 ∨ j = 2 ∨ j = 3 := by omega
      rcases hjj with rfl | rfl | rfl | rfl <;> rw [← hx] <;> rfl)
    rwa [Nat.zero_add] at h2
  have q1 : (i : Int).tdiv 2 = (j : Int) := by rw [Int.tdiv_eq_ediv_of_nonneg (by omega)]; omega
  have q2 : IntKind.i64.wrap (j : Int) = (j : Int) := by simp only [IntKind.wrap, IntKind.bits, IntKind.signed]; simp; omega
  have q3 : (j : Int) < 4 := by omega
  have q4 : (0 : Int) ≤ (j : Int) := by omega
  by_cases h2 : i % 2 = 1
  · have e1 : (i : Int).tmod 2 = 1 := by rw [Int.tmod_eq_emod_of_nonneg (by omega)]; omega
    have ho := nw_odd a j
    rw [hx, show 2 * j + 1 = i by omega] at ho
    have e2 : (x : Int) / 4294967296 = ((Sh.hw a i : Nat) : Int) := by rw [← ho]; rfl
    have HC := hc w
    clear hc hj hx ho h2 hi hj4
    go_enter Tryz.func132, Tryz.ntmps132
    go_wp2_with fail
    go_ret
    exact ⟨rfl, (Below.refl _ _).alloc (Nat.le_refl _) _⟩
  · have e1 : (i : Int).tmod 2 = 0 := by rw [Int.tmod_eq_emod_of_nonneg (by omega)]; omega
    have ho := nw_even a j
    rw [hx, show 2 * j = i by omega] at ho
    have e2 : (x : Int).tmod 4294967296 = ((Sh.hw a i : Nat) : Int) := u64_tmod x 4294967296 _ ho
    have e3 : (x : Int) % 4294967296 = ((Sh.hw a i : Nat) : Int) := by rw [← ho]; rfl
    have hl := Sh.hw_lt a i
    have e4 : IntKind.u64.wrap ((Sh.hw a i : Nat) : Int) = ((Sh.hw a i : Nat) : Int) := by simp [IntKind.wrap, IntKind.bits, IntKind.signed]; omega
    have HC := hc w
    clear hc hj hx ho h2 hi hj4 hl
    go_enter Tryz.func132, Tryz.ntmps132
    go_wp2_with fail
    go_ret
    exact ⟨rfl, (Below.refl _ _).alloc (Nat.le_refl _) _⟩
end Go.Proofs.YtjlmmlnldjandaaGreatDoor
namespace Go.Proofs.YtjlmmlnldjandaaGreatDoor
open Go.RowKit
set_option linter.unusedVariables false
set_option linter.unusedSimpArgs false
def n4 (a : Nat) : List Value := [.int .u64 ((nw a 0 : Nat) : Int), .int .u64 ((nw a 1 : Nat) : Int), .int .u64 ((nw a 2 : Nat) : Int), .int .u64 ((nw a 3 : Nat) : Int)]
theorem n4_cells {w : World} {g a : Nat} (h : At w g 0 (n4 a)) : w.cell? ⟨g, 0, none⟩ = some (.int .u64 ((nw a 0 : Nat) : Int)) ∧ w.cell? ⟨g, 1, none⟩ = some (.int .u64 ((nw a 1 : Nat) : Int)) ∧ w.cell? ⟨g, 2, none⟩ = some (.int .u64 ((nw a 2 : Nat) : Int)) ∧ w.cell? ⟨g, 3, none⟩ = some (.int .u64 ((nw a 3 : Nat) : Int)) :=
  ⟨h.cell 0 _ rfl, h.cell 1 _ rfl, h.cell 2 _ rfl, h.cell 3 _ rfl⟩
abbrev z8 : Array Value := #[.int .u64 0, .int .u64 0, .int .u64 0, .int .u64 0, .int .u64 0, .int .u64 0, .int .u64 0, .int .u64 0]
abbrev z4 : Array Value := #[.int .u64 0, .int .u64 0, .int .u64 0, .int .u64 0]
theorem mod_mul3 (a b n : Nat) : a % n * b % n = a * b % n := by rw [Nat.mul_mod, Nat.mod_mod, ← Nat.mul_mod]
/-- what the walk knows of memory: both numbers, what comes out, the product's half words -/
structure Ti (w wn : World) (a b : Nat) (o : List Nat) : Prop where
  fa : At wn w.heap.size 0 (n4 a)
  fb : At wn (w.heap.size + 1) 0 (n4 b)
  fr : At wn (w.heap.size + 1 + 1) 0 (n4 0)
  fo : At wn (w.heap.size + 1 + 1 + 1) 0 (ucells o)
  fl : o.length = 8
  fe : ∀ x ∈ o, x < 2 ^ 32
  fw : Below w.heap.size w wn
  fs : w.heap.size + 4 ≤ wn.heap.size
theorem n4_zero : n4 0 = z4.toList := by simp [n4, nw]
theorem ti_by (w : World) (a b : Nat) : ∃ w0, (((w.alloc (Obj.cells #[.int .u64 ((nw a 0 : Nat) : Int), .int .u64 ((nw a 1 : Nat) : Int), .int .u64 ((nw a 2 : Nat) : Int), .int .u64 ((nw a 3 : Nat) : Int)] 159)).alloc (Obj.cells #[.int .u64 ((nw b 0 : Nat) : Int), .int .u64 ((nw b 1 : Nat) : Int), .int .u64 ((nw b 2 : Nat) : Int), .int .u64 ((nw b 3 : Nat) : Int)] 159)).alloc (Obj.cells z4 159)).alloc (Obj.cells z8 102) = w0 ∧ Ti w w0 a b (List.replicate 8 0) := by
  refine ⟨_, rfl, ?_, ?_, ?_, ?_, rfl, ?_, ?_, by simp⟩
  · have h := At.ofAlloc w #[.int .u64 ((nw a 0 : Nat) : Int), .int .u64 ((nw a 1 : Nat) : Int), .int .u64 ((nw a 2 : Nat) : Int), .int .u64 ((nw a 3 : Nat) : Int)] 159
    exact ((h.alloc _).alloc _).alloc _
  · have h := At.ofAlloc (w.alloc (Obj.cells #[.int .u64 ((nw a 0 : Nat) : Int), .int .u64 ((nw a 1 : Nat) : Int), .int .u64 ((nw a 2 : Nat) : Int), .int .u64 ((nw a 3 : Nat) : Int)] 159)) #[.int .u64 ((nw b 0 : Nat) : Int), .int .u64 ((nw b 1 : Nat) : Int), .int .u64 ((nw b 2 : Nat) : Int), .int .u64 ((nw b 3 : Nat) : Int)] 159
    rw [World.size_alloc] at h
    exact (h.alloc _).alloc _
  · have h := At.ofAlloc ((w.alloc (Obj.cells #[.int .u64 ((nw a 0 : Nat) : Int), .int .u64 ((nw a 1 : Nat) : Int), .int .u64 ((nw a 2 : Nat) : Int), .int .u64 ((nw a 3 : Nat) : Int)] 159)).alloc (Obj.cells #[.int .u64 ((nw b 0 : Nat) : Int), .int .u64 ((nw b 1 : Nat) : Int), .int .u64 ((nw b 2 : Nat) : Int), .int .u64 ((nw b 3 : Nat) : Int)] 159)) z4 159
    rw [World.size_alloc, World.size_alloc] at h
    rw [n4_zero]
    exact h.alloc _
  · have h := At.ofAlloc (((w.alloc (Obj.cells #[.int .u64 ((nw a 0 : Nat) : Int), .int .u64 ((nw a 1 : Nat) : Int), .int .u64 ((nw a 2 : Nat) : Int), .int .u64 ((nw a 3 : Nat) : Int)] 159)).alloc (Obj.cells #[.int .u64 ((nw b 0 : Nat) : Int), .int .u64 ((nw b 1 : Nat) : Int), .int .u64 ((nw b 2 : Nat) : Int), .int .u64 ((nw b 3 : Nat) : Int)] 159)).alloc (Obj.cells z4 159)) z8 102
    rw [World.size_alloc, World.size_alloc, World.size_alloc] at h
    exact h
  · intro x hx
    rw [List.eq_of_mem_replicate hx]
    decide
  · exact ((((Below.refl _ _).alloc (Nat.le_refl _) _).alloc (by simp) _).alloc (by simp; omega) _).alloc (by simp; omega) _
theorem Ti.below {w wn w3 : World} {a b : Nat} {o : List Nat} (h : Ti w wn a b o) (hb : Below wn.heap.size wn w3) : Ti w w3 a b o := by
  have hs := h.fs
  exact ⟨h.fa.below hb (by omega), h.fb.below hb (by omega), h.fr.below hb (by omega), h.fo.below hb (by omega), h.fl, h.fe, h.fw.trans (hb.mono h.fw.size), Nat.le_trans hs hb.size⟩
theorem Ti.drew {w wn : World} {a b : Nat} {o : List Nat} (h : Ti w wn a b o) : Ti w wn.drew a b o := ⟨h.fa.drew, h.fb.drew, h.fr.drew, h.fo.drew, h.fl, h.fe, h.fw.drew, h.fs⟩
theorem Ti.put {w wn : World} {a b : Nat} {o : List Nat} (h : Ti w wn a b o) (j u : Nat) (hu : u < 2 ^ 32) : Ti w (wn.setCell ⟨w.heap.size + 1 + 1 + 1, j, none⟩ (.int .u64 (u : Int))) a b (o.set j u) := by
  have ho := h.fo.uset j u
  rw [Nat.zero_add] at ho
  refine ⟨h.fa.other _ _ _ (.inl (by omega)), h.fb.other _ _ _ (.inl (by omega)), h.fr.other _ _ _ (.inl (by omega)), ho, by rw [List.length_set]; exact h.fl, ?_, h.fw.setCell (p := ⟨w.heap.size + 1 + 1 + 1, j, none⟩) (by show w.heap.size ≤ w.heap.size + 1 + 1 + 1; omega) _, by simpa using h.fs⟩
  intro x hx
  rcases List.mem_or_eq_of_mem_set hx with h1 | h1
  · exact h.fe x h1
  · rw [h1]; exact hu
theorem tiS {w wa wb : World} {B1 B2 B3 i : Nat} {v0 v1 v2 v3 u0 u1 u2 u3 o : Value} (hb : Below wa.heap.size wa wb)
    (hS : wa.cell? ⟨B1, 0, none⟩ = some v0 ∧ wa.cell? ⟨B1, 1, none⟩ = some v1 ∧ wa.cell? ⟨B1, 2, none⟩ = some v2 ∧ wa.cell? ⟨B1, 3, none⟩ = some v3 ∧ wa.cell? ⟨B2, 0, none⟩ = some u0 ∧ wa.cell? ⟨B2, 1, none⟩ = some u1 ∧ wa.cell? ⟨B2, 2, none⟩ = some u2 ∧ wa.cell? ⟨B2, 3, none⟩ = some u3 ∧ wa.cell? ⟨B3, i, none⟩ = some o ∧ (B1 < wa.heap.size ∧ B2 < wa.heap.size ∧ B3 < wa.heap.size) ∧ Below w.heap.size w wa) :
    wb.cell? ⟨B1, 0, none⟩ = some v0 ∧ wb.cell? ⟨B1, 1, none⟩ = some v1 ∧ wb.cell? ⟨B1, 2, none⟩ = some v2 ∧ wb.cell? ⟨B1, 3, none⟩ = some v3 ∧ wb.cell? ⟨B2, 0, none⟩ = some u0 ∧ wb.cell? ⟨B2, 1, none⟩ = some u1 ∧ wb.cell? ⟨B2, 2, none⟩ = some u2 ∧ wb.cell? ⟨B2, 3, none⟩ = some u3 ∧ wb.cell? ⟨B3, i, none⟩ = some o ∧ (B1 < wb.heap.size ∧ B2 < wb.heap.size ∧ B3 < wb.heap.size) ∧ Below w.heap.size w wb := by
  obtain ⟨a0, a1, a2, a3, b0, b1, b2, b3, o0, ⟨l1, l2, l3⟩, hw⟩ := hS
  exact ⟨(hb.cell (p := ⟨B1, 0, none⟩) l1).trans a0, (hb.cell (p := ⟨B1, 1, none⟩) l1).trans a1, (hb.cell (p := ⟨B1, 2, none⟩) l1).trans a2, (hb.cell (p := ⟨B1, 3, none⟩) l1).trans a3, (hb.cell (p := ⟨B2, 0, none⟩) l2).trans b0, (hb.cell (p := ⟨B2, 1, none⟩) l2).trans b1, (hb.cell (p := ⟨B2, 2, none⟩) l2).trans b2, (hb.cell (p := ⟨B2, 3, none⟩) l2).trans b3, (hb.cell (p := ⟨B3, i, none⟩) l3).trans o0, ⟨Nat.lt_of_lt_of_le l1 hb.size, Nat.lt_of_lt_of_le l2 hb.size, Nat.lt_of_lt_of_le l3 hb.size⟩, hw.trans (hb.mono hw.size)⟩
theorem tiSb {w wa : World} {B1 B2 B3 i : Nat} {v0 v1 v2 v3 u0 u1 u2 u3 o : Value} 
    (hS : wa.cell? ⟨B1, 0, none⟩ = some v0 ∧ wa.cell? ⟨B1, 1, none⟩ = some v1 ∧ wa.cell? ⟨B1, 2, none⟩ = some v2 ∧ wa.cell? ⟨B1, 3, none⟩ = some v3 ∧ wa.cell? ⟨B2, 0, none⟩ = some u0 ∧ wa.cell? ⟨B2, 1, none⟩ = some u1 ∧ wa.cell? ⟨B2, 2, none⟩ = some u2 ∧ wa.cell? ⟨B2, 3, none⟩ = some u3 ∧ wa.cell? ⟨B3, i, none⟩ = some o ∧ (B1 < wa.heap.size ∧ B2 < wa.heap.size ∧ B3 < wa.heap.size) ∧ Below w.heap.size w wa) : Below w.heap.size w wa := hS.2.2.2.2.2.2.2.2.2.2
def RetN4 (a : Nat) (w : World) (e : Ending) (w' : World) : Prop := e = .returned (.agg #[.int .u64 ((nw a 0 : Nat) : Int), .int .u64 ((nw a 1 : Nat) : Int), .int .u64 ((nw a 2 : Nat) : Int), .int .u64 ((nw a 3 : Nat) : Int)]) ∧ Below w.heap.size w w'
theorem nwV (o : List Nat) (hl : o.length = 8) (he : ∀ x ∈ o, x < 2 ^ 32) (k : Nat) (hk : k < 4) : nw (Sh.V o) k = o.getD (2 * k) 0 + o.getD (2 * k + 1) 0 * 4294967296 := by
  match o, hl with
  | [o0, o1, o2, o3, o4, o5, o6, o7], _ =>
    have h0 := he o0 (by simp)
    have h1 := he o1 (by simp)
    have h2 := he o2 (by simp)
    have h3 := he o3 (by simp)
    have h4 := he o4 (by simp)
    have h5 := he o5 (by simp)
    have h6 := he o6 (by simp)
    have h7 := he o7 (by simp)
    have hk4 : k = 0 ∨ k = 1 ∨ k = 2 ∨ k = 3 := by omega
    have hV : Sh.V [o0, o1, o2, o3, o4, o5, o6, o7] = o0 + o1 * 2 ^ 32 + (o2 + o3 * 2 ^ 32) * 2 ^ 64 + (o4 + o5 * 2 ^ 32) * 2 ^ 128 + (o6 + o7 * 2 ^ 32) * 2 ^ 192 := by simp only [Sh.V]; omega
    rw [nw, hV]
    rcases hk4 with rfl | rfl | rfl | rfl <;> simp only [List.getD, Nat.reduceMul, Nat.reduceAdd, List.getElem?_cons_zero, List.getElem?_cons_succ, Option.getD_some] <;> omega
def n4p (c k : Nat) : List Nat := (List.range 4).map fun j => if j < k then nw c j else 0
theorem n4p_length (c k : Nat) : (n4p c k).length = 4 := by simp [n4p]
theorem n4p_set (c k : Nat) : (n4p c k).set k (nw c k) = n4p c (k + 1) := by
  apply List.ext_getElem
  · simp [n4p]
  · intro i h1 h2
    simp only [n4p, List.getElem_set, List.getElem_map, List.getElem_range]
    by_cases h : k = i
    · subst h; simp
    · rw [if_neg h]
      by_cases h3 : i < k
      · rw [if_pos h3, if_pos (by omega)]
      · rw [if_neg h3, if_neg (by omega)]
theorem n4p_zero (c : Nat) : ucells (n4p c 0) = z4.toList := rfl
theorem n4p_four (c : Nat) : ucells (n4p c 4) = n4 c := rfl
set_option maxRecDepth 100000 in
set_option maxHeartbeats 1600000 in
theorem times3_any (a b : Nat) (w : World) : Calls Tryz.prog 112 #[.agg #[.int .u64 ((nw a 0 : Nat) : Int), .int .u64 ((nw a 1 : Nat) : Int), .int .u64 ((nw a 2 : Nat) : Int), .int .u64 ((nw a 3 : Nat) : Int)], .agg #[.int .u64 ((nw b 0 : Nat) : Int), .int .u64 ((nw b 1 : Nat) : Int), .int .u64 ((nw b 2 : Nat) : Int), .int .u64 ((nw b 3 : Nat) : Int)]] w (RetN4 (a * b % 2 ^ 256) w) := by
  go_enter Tryz.func112, Tryz.ntmps112
  go_wp2_with fail
  obtain ⟨w0, hw0, hT⟩ := ti_by w a b
  rw [hw0]
  clear hw0
  go_loopw [6] (fun iv wr => ∃ (i : Nat) (o : List Nat), i ≤ 8 ∧ iv = .int .i64 (i : Int) ∧ Sh.V o = (a % 2 ^ (32 * i)) * b % 2 ^ 256 ∧ Ti w wr a b o) (fun iv _ => 8 - (intOf iv).toNat)
  case atStart => exact ⟨0, _, Nat.zero_le _, rfl, by rw [Sh.V_rep, Nat.mul_zero, Nat.pow_zero, Nat.mod_one, Nat.zero_mul], hT⟩
  case round =>
    clear hT
    obtain ⟨i, o, hi, rfl, hV, hT⟩ := hrel
    by_cases hlt : i < 8
    · go_wp2_with fail
      have HI := Lib.hid hV
      have HT0 := Lib.hid hT
      have hfe := hT.fe
      rw [show decide ((i : Int) < 8) = true from decide_eq_true (by omega)]
      go_loopw [7, 8] (fun cv kv wr2 => ∃ (k c : Nat) (o2 : List Nat), k ≤ 8 - i ∧ cv = .int .u64 (c : Int) ∧ kv = .int .i64 (k : Int) ∧ c < 2 ^ 32 ∧ Sh.V o2 + c * 2 ^ (32 * (i + k)) = Sh.V o + Sh.hw a i * 2 ^ (32 * i) * (b % 2 ^ (32 * k)) ∧ Ti w wr2 a b o2) (fun _ kv _ => 8 - (intOf kv).toNat)
      case atStart => exact ⟨0, 0, o, Nat.zero_le _, rfl, rfl, by decide, by rw [Nat.mul_zero 32, Nat.pow_zero, Nat.mod_one, Nat.mul_zero, Nat.zero_mul], hT⟩
      case round =>
        clear hT HT0 hfe
        obtain ⟨k, c, o2, hk, rfl, rfl, hc, hinv, hT⟩ := hrel
        obtain ⟨j, hj⟩ : ∃ j, i + k = j := ⟨_, rfl⟩
        have q1 : (i : Int) + (k : Int) = (j : Int) := by omega
        have q2 : IntKind.i64.wrap (j : Int) = (j : Int) := by simp only [IntKind.wrap, IntKind.bits, IntKind.signed]; simp; omega
        by_cases hlk : j < 8
        · have q3 : (j : Int) < 8 := by omega
          have q4 : (0 : Int) ≤ (j : Int) := by omega
          have hk8 : k < 8 := by omega
          obtain ⟨c0, f0⟩ := hT.fo.u j (by rw [hT.fl]; exact hlk)
          rw [Nat.zero_add] at c0 f0
          obtain ⟨oj, hoj⟩ : ∃ oj, o2.getD j 0 = oj := ⟨_, rfl⟩
          have hol : oj < 2 ^ 32 := by
            rw [← hoj, List.getD, List.getElem?_eq_getElem (show j < o2.length by rw [hT.fl]; exact hlk)]
            exact hT.fe _ (List.getElem_mem _)
          rw [hoj] at c0
          obtain ⟨ha, hha⟩ : ∃ ha, Sh.hw a i = ha := ⟨_, rfl⟩
          obtain ⟨hb, hhb⟩ : ∃ hb, Sh.hw b k = hb := ⟨_, rfl⟩
          have hal : ha < 2 ^ 32 := by rw [← hha]; exact Sh.hw_lt _ _
          have hbl : hb < 2 ^ 32 := by rw [← hhb]; exact Sh.hw_lt _ _
          have hml : ha * hb ≤ (2 ^ 32 - 1) * (2 ^ 32 - 1) := Nat.mul_le_mul (by omega) (by omega)
          obtain ⟨m, hm⟩ : ∃ m, ha * hb = m := ⟨_, rfl⟩
          obtain ⟨x, hx⟩ : ∃ x, m + oj + c = x := ⟨_, rfl⟩
          rw [hm] at hml
          have r1 : (ha : Int) * (hb : Int) = (m : Int) := by rw [← hm]; simp
          have r2 : IntKind.u64.wrap (m : Int) = (m : Int) := by simp [IntKind.wrap, IntKind.bits, IntKind.signed]; omega
          obtain ⟨m1, hm1⟩ : ∃ m1, m + oj = m1 := ⟨_, rfl⟩
          have r3 : (m : Int) + (oj : Int) = (m1 : Int) := by omega
          have r4 : IntKind.u64.wrap (m1 : Int) = (m1 : Int) := by simp [IntKind.wrap, IntKind.bits, IntKind.signed]; omega
          have r5 : (m1 : Int) + (c : Int) = (x : Int) := by omega
          have r6 : IntKind.u64.wrap (x : Int) = (x : Int) := by simp [IntKind.wrap, IntKind.bits, IntKind.signed]; omega
          obtain ⟨lo, hlo⟩ : ∃ lo, x % 4294967296 = lo := ⟨_, rfl⟩
          obtain ⟨hi2, hhi⟩ : ∃ hi2, x / 4294967296 = hi2 := ⟨_, rfl⟩
          have r7 : (x : Int).tmod 4294967296 = (lo : Int) := u64_tmod x 4294967296 _ hlo
          have r8 : IntKind.u64.wrap (lo : Int) = (lo : Int) := by simp [IntKind.wrap, IntKind.bits, IntKind.signed]; omega
          have r9 : (x : Int) / 4294967296 = (hi2 : Int) := by omega
          have r10 : (x : Int) % 4294967296 = (lo : Int) := by omega
          have hset := Sh.V_set o2 j lo (by rw [hT.fl]; exact hlk)
          rw [hoj, ← hj] at hset
          have hnew := Sh.in_step (Sh.V o) (Sh.V o2) (Sh.V (o2.set (i + k) lo)) oj c x ha b i k (by rw [← hha]; exact hinv) (by rw [hhb, hm]; exact hx.symm) (by rw [show (2 : Nat) ^ 32 = 4294967296 by decide, hlo]; exact hset)
          rw [show (2 : Nat) ^ 32 = 4294967296 by decide, hhi, hj] at hnew
          have HNEW := Lib.hid hnew
          have HT := Lib.hid hT
          have HLO : Hid (lo < 2 ^ 32) := Lib.hid (by omega)
          have HHI : Hid (hi2 < 2 ^ 32) := Lib.hid (by omega)
          have HA : ∀ w2, Calls Tryz.prog 132 #[.agg #[.int .u64 ((nw a 0 : Nat) : Int), .int .u64 ((nw a 1 : Nat) : Int), .int .u64 ((nw a 2 : Nat) : Int), .int .u64 ((nw a 3 : Nat) : Int)], .int .i64 (i : Int)] w2 (RetU ha w2) := fun w2 => by rw [← hha]; exact half_any a i hlt w2
          have HB : ∀ w2, Calls Tryz.prog 132 #[.agg #[.int .u64 ((nw b 0 : Nat) : Int), .int .u64 ((nw b 1 : Nat) : Int), .int .u64 ((nw b 2 : Nat) : Int), .int .u64 ((nw b 3 : Nat) : Int)], .int .i64 (k : Int)] w2 (RetU hb w2) := fun w2 => by rw [← hhb]; exact half_any b k hk8 w2
          have HHA := Lib.hid HA
          have HHAE := Lib.hid hha
          have HHB := Lib.hid HB
          have hs := hT.fs
          have HS0 := Lib.hid (And.intro (n4_cells hT.fa) (And.intro (n4_cells hT.fb) (And.intro c0 (show w.heap.size < wr.heap.size ∧ w.heap.size + 1 < wr.heap.size ∧ w.heap.size + 1 + 1 + 1 < wr.heap.size by omega))))
          clear hset hnew hT hinv hlo hhi hx hm hm1 hha hhb hal hbl hml hol hoj HA HB c0 f0 hs hc
          go_wp2_with fail
          go_region_held3 (fun w' => w'.cell? ⟨w.heap.size, 0, none⟩ = some (.int .u64 ((nw a 0 : Nat) : Int)) ∧ w'.cell? ⟨w.heap.size, 1, none⟩ = some (.int .u64 ((nw a 1 : Nat) : Int)) ∧ w'.cell? ⟨w.heap.size, 2, none⟩ = some (.int .u64 ((nw a 2 : Nat) : Int)) ∧ w'.cell? ⟨w.heap.size, 3, none⟩ = some (.int .u64 ((nw a 3 : Nat) : Int)) ∧ w'.cell? ⟨w.heap.size + 1, 0, none⟩ = some (.int .u64 ((nw b 0 : Nat) : Int)) ∧ w'.cell? ⟨w.heap.size + 1, 1, none⟩ = some (.int .u64 ((nw b 1 : Nat) : Int)) ∧ w'.cell? ⟨w.heap.size + 1, 2, none⟩ = some (.int .u64 ((nw b 2 : Nat) : Int)) ∧ w'.cell? ⟨w.heap.size + 1, 3, none⟩ = some (.int .u64 ((nw b 3 : Nat) : Int)) ∧ w'.cell? ⟨w.heap.size + 1 + 1 + 1, j, none⟩ = some (.int .u64 (oj : Int)) ∧ (w.heap.size < w'.heap.size ∧ w.heap.size + 1 < w'.heap.size ∧ w.heap.size + 1 + 1 + 1 < w'.heap.size) ∧ Below wr.heap.size wr w')
            (first | exact tiS (by assumption) (by assumption) | exact ⟨HS0.out.1.1, HS0.out.1.2.1, HS0.out.1.2.2.1, HS0.out.1.2.2.2, HS0.out.2.1.1, HS0.out.2.1.2.1, HS0.out.2.1.2.2.1, HS0.out.2.1.2.2.2, HS0.out.2.2.1, HS0.out.2.2.2, (Below.refl _ _).drew⟩)
            (first
              | (go_at_call 132; have hyy := HFIRST.out; refine (HHB.out _).mono ?_; rintro e w4 ⟨rfl, hb4⟩)
              | (go_at_call 132; refine (HHA.out _).mono ?_; rintro e w3 ⟨rfl, hb3⟩; have HFIRST := Lib.hid True.intro))
          have hbF : Below wr.heap.size wr w4 := tiSb (by assumption)
          have hT4 := HT.out.below hbF
          obtain ⟨c0, f0⟩ := hT4.fo.u j (by rw [hT4.fl]; exact hlk)
          rw [Nat.zero_add] at c0 f0
          have HT4 := Lib.hid hT4
          clear hb3 hb4 hyy HFIRST hbF hT4 HS0
          go_wp2_with fail
          go_roundw
          case rel => exact ⟨k + 1, hi2, o2.set j lo, by omega, rfl, by go_num, HHI.out, by rw [HHAE.out]; exact HNEW.out, HT4.out.put j lo HLO.out⟩
          case measure => simp [intOf]; omega
        · have hk8 : k = 8 - i := by omega
          have q3 : ¬ (j : Int) < 8 := by omega
          have hVl := Sh.V_lt o2 hT.fe
          rw [hT.fl] at hVl
          have hend := Sh.row_end (Sh.V o) (Sh.V o2) c (Sh.hw a i) a b i hi hVl (by rw [← hk8]; exact hinv) HI.out rfl
          have HEND := Lib.hid hend
          have HT := Lib.hid hT
          clear hend hVl hinv hT hc
          go_wp2_with fail
          go_roundw
          case rel => exact ⟨i + 1, o2, hlt, by go_num, HEND.out, HT.out⟩
          case measure => simp [intOf]; omega
    · have hi8 : i = 8 := by omega
      subst hi8
      have hVl := Sh.V_lt o hT.fe
      rw [hT.fl] at hVl
      have hVe : Sh.V o = a * b % 2 ^ 256 := by
        rw [hV, show 32 * 8 = 256 from rfl, mod_mul3]
      have HVE := Lib.hid hVe
      have HT := Lib.hid hT
      clear hV hVe hT
      go_wp2_with fail
      obtain ⟨B, hB⟩ : ∃ B, wr.heap.size = B := ⟨_, rfl⟩
      obtain ⟨w1, hw1, hA1, hb1, hs1⟩ : ∃ w1, wr.alloc (Obj.cells z4 159) = w1 ∧ At w1 B 0 (ucells (n4p (Sh.V o) 0)) ∧ Below wr.heap.size wr w1 ∧ B < w1.heap.size := by
        refine ⟨_, rfl, ?_, (Below.refl _ _).alloc (Nat.le_refl _) _, by rw [← hB]; simp⟩
        rw [n4p_zero, ← hB]
        exact At.ofAlloc wr z4 159
      rw [hw1, hB]
      have hT1 := HT.out.below hb1
      have hTB : w.heap.size + 4 ≤ B := by rw [← hB]; exact HT.out.fs
      clear hw1 hb1 HT hB
      go_loopw [11] (fun iv wr => ∃ k : Nat, k ≤ 4 ∧ iv = .int .i64 (k : Int) ∧ At wr B 0 (ucells (n4p (Sh.V o) k)) ∧ Ti w wr a b o ∧ B < wr.heap.size) (fun iv _ => 4 - (intOf iv).toNat)
      case atStart => exact ⟨0, by omega, rfl, hA1, hT1, hs1⟩
      case round =>
        clear hA1 hT1 hs1
        obtain ⟨k, hk, rfl, hA, hT, hsB⟩ := hrel
        by_cases hk4 : k < 4
        · obtain ⟨m2, hm2⟩ : ∃ m, m = 2 * k := ⟨_, rfl⟩
          obtain ⟨m3, hm3⟩ : ∃ m, m = m2 + 1 := ⟨_, rfl⟩
          have q0 : (k : Int) < 4 := by omega
          have q1 : 2 * (k : Int) = (m2 : Int) := by omega
          have q2 : IntKind.i64.wrap (m2 : Int) = (m2 : Int) := by simp only [IntKind.wrap, IntKind.bits, IntKind.signed]; simp; omega
          have q3 : (m2 : Int) + 1 = (m3 : Int) := by omega
          have q4 : IntKind.i64.wrap (m3 : Int) = (m3 : Int) := by simp only [IntKind.wrap, IntKind.bits, IntKind.signed]; simp; omega
          have q5 : (m2 : Int) < 8 := by omega
          have q6 : (m3 : Int) < 8 := by omega
          have q7 : (0 : Int) ≤ (m2 : Int) := by omega
          have q8 : (0 : Int) ≤ (m3 : Int) := by omega
          have q9 : (0 : Int) ≤ (k : Int) := by omega
          have hn := nwV o hT.fl hT.fe k hk4
          rw [← hm2, ← hm3] at hn
          obtain ⟨c2, f2⟩ := hT.fo.u m2 (by rw [hT.fl]; omega)
          obtain ⟨c3, f3⟩ := hT.fo.u m3 (by rw [hT.fl]; omega)
          obtain ⟨ck, fk⟩ := hA.u k (by rw [n4p_length]; exact hk4)
          rw [Nat.zero_add] at c2 f2 c3 f3 ck fk
          obtain ⟨x2, hx2⟩ : ∃ x, o.getD m2 0 = x := ⟨_, rfl⟩
          obtain ⟨x3, hx3⟩ : ∃ x, o.getD m3 0 = x := ⟨_, rfl⟩
          obtain ⟨xk, hxk⟩ : ∃ x, (n4p (Sh.V o) k).getD k 0 = x := ⟨_, rfl⟩
          rw [hx2] at c2 hn
          rw [hx3] at c3 hn
          rw [hxk] at ck
          obtain ⟨y, hy⟩ : ∃ y, nw (Sh.V o) k = y := ⟨_, rfl⟩
          have hyl : y < 2 ^ 64 := by rw [← hy]; exact nw_lt _ _
          rw [hy] at hn
          obtain ⟨s3, hs3⟩ : ∃ s, x3 * 4294967296 = s := ⟨_, rfl⟩
          rw [hs3] at hn
          have r1 : (x3 : Int) * 4294967296 = (s3 : Int) := by omega
          have r2 : IntKind.u64.wrap (s3 : Int) = (s3 : Int) := by simp [IntKind.wrap, IntKind.bits, IntKind.signed]; omega
          have r3 : (x2 : Int) + (s3 : Int) = (y : Int) := by omega
          have r4 : IntKind.u64.wrap (y : Int) = (y : Int) := by simp [IntKind.wrap, IntKind.bits, IntKind.signed]; omega
          have hA2 := hA.uset k y
          rw [Nat.zero_add, ← hy, n4p_set, hy] at hA2
          have hT2 : Ti w (wr.setCell ⟨B, k, none⟩ (.int .u64 (y : Int))) a b o := ⟨hT.fa.other _ _ _ (.inl (by omega)), hT.fb.other _ _ _ (.inl (by omega)), hT.fr.other _ _ _ (.inl (by omega)), hT.fo.other _ _ _ (.inl (by omega)), hT.fl, hT.fe, hT.fw.setCell (p := ⟨B, k, none⟩) (by show w.heap.size ≤ B; omega) _, by simpa using hT.fs⟩
          have HA2 := Lib.hid hA2
          have HT2 := Lib.hid hT2
          clear hn hA hT hx2 hx3 hxk hy hyl hs3 hA2 hT2 hm2 hm3 f2 f3
          go_wp2_with fail
          go_region
          go_wp2_with fail
          go_roundw
          case rel => exact ⟨k + 1, hk4, by go_num, HA2.out.drew, HT2.out.drew, by simpa using hsB⟩
          case measure => simp [intOf]; omega
        · have hk4 : k = 4 := by omega
          subst hk4
          rw [n4p_four] at hA
          obtain ⟨c0, c1, c2, c3⟩ := n4_cells hA
          obtain ⟨d0, d1, d2, d3⟩ := n4_cells hT.fr
          have g0 := hT.fr.froz 0 (by simp [n4])
          have g1 := hT.fr.froz 1 (by simp [n4])
          have g2 := hT.fr.froz 2 (by simp [n4])
          have g3 := hT.fr.froz 3 (by simp [n4])
          rw [Nat.zero_add] at g0 g1 g2 g3
          have hR := (((hT.fr.set 0 (.int .u64 ((nw (Sh.V o) 0 : Nat) : Int))).set 1 (.int .u64 ((nw (Sh.V o) 1 : Nat) : Int))).set 2 (.int .u64 ((nw (Sh.V o) 2 : Nat) : Int))).set 3 (.int .u64 ((nw (Sh.V o) 3 : Nat) : Int))
          rw [Nat.zero_add, Nat.zero_add, Nat.zero_add, Nat.zero_add] at hR
          have hW := (((hT.fw.setCell (p := ⟨w.heap.size + 1 + 1, 0, none⟩) (by show w.heap.size ≤ w.heap.size + 1 + 1; omega) (.int .u64 ((nw (Sh.V o) 0 : Nat) : Int))).setCell (p := ⟨w.heap.size + 1 + 1, 1, none⟩) (by show w.heap.size ≤ w.heap.size + 1 + 1; omega) (.int .u64 ((nw (Sh.V o) 1 : Nat) : Int))).setCell (p := ⟨w.heap.size + 1 + 1, 2, none⟩) (by show w.heap.size ≤ w.heap.size + 1 + 1; omega) (.int .u64 ((nw (Sh.V o) 2 : Nat) : Int))).setCell (p := ⟨w.heap.size + 1 + 1, 3, none⟩) (by show w.heap.size ≤ w.heap.size + 1 + 1; omega) (.int .u64 ((nw (Sh.V o) 3 : Nat) : Int))
          have HR := Lib.hid hR
          have HW := Lib.hid hW
          clear hR hW hA hT
          go_wp2_with fail
          refine bodyPost_ret (results_at rfl _ (w.heap.size + 1 + 1) _ _ rfl HR.out Tryz.underlying159 rfl rfl) rfl ?_
          exact ⟨by rw [← HVE.out]; rfl, HW.out⟩
end Go.Proofs.YtjlmmlnldjandaaGreatDoor
namespace Go.Proofs.YtjlmmlnldjandaaGreatDoor
open Go.RowKit
set_option linter.unusedVariables false
set_option linter.unusedSimpArgs false
theorem nw_step (a k : Nat) : a / 2 ^ (64 * k) = 2 ^ 64 * (a / 2 ^ (64 * (k + 1))) + nw a k := by
  rw [nw, show 64 * (k + 1) = 64 * k + 64 by omega, Nat.pow_add, ← Nat.div_div_eq_div_mul, Nat.div_add_mod]
theorem nw_top (a : Nat) (h : a < 2 ^ 256) : a / 2 ^ (64 * 4) = 0 := Nat.div_eq_of_lt h
theorem nw_dec (a b k : Nat) (he : a / 2 ^ (64 * (k + 1)) = b / 2 ^ (64 * (k + 1))) (hne : nw a k ≠ nw b k) : decide (nw b k < nw a k) = decide (b < a) := by
  have h1 := nw_step a k
  have h2 := nw_step b k
  rw [he] at h1
  rw [decide_eq_decide]
  have hlt : nw b k < nw a k ↔ b / 2 ^ (64 * k) < a / 2 ^ (64 * k) := by omega
  have hne2 : b / 2 ^ (64 * k) ≠ a / 2 ^ (64 * k) := by omega
  rw [hlt]
  constructor
  · intro h
    exact Nat.lt_of_not_le fun hle => absurd (Nat.div_le_div_right (c := 2 ^ (64 * k)) hle) (by omega)
  · intro h
    have := Nat.div_le_div_right (c := 2 ^ (64 * k)) (Nat.le_of_lt h)
    omega
def RetBl (b : Bool) (w : World) (e : Ending) (w' : World) : Prop := e = .returned (.bool b) ∧ Below w.heap.size w w'
theorem two4 (w : World) (a b : Nat) : ∃ w0, (w.alloc (Obj.cells #[.int .u64 ((nw a 0 : Nat) : Int), .int .u64 ((nw a 1 : Nat) : Int), .int .u64 ((nw a 2 : Nat) : Int), .int .u64 ((nw a 3 : Nat) : Int)] 159)).alloc (Obj.cells #[.int .u64 ((nw b 0 : Nat) : Int), .int .u64 ((nw b 1 : Nat) : Int), .int .u64 ((nw b 2 : Nat) : Int), .int .u64 ((nw b 3 : Nat) : Int)] 159) = w0 ∧ At w0 w.heap.size 0 (ucells [nw a 0, nw a 1, nw a 2, nw a 3]) ∧ At w0 (w.heap.size + 1) 0 (ucells [nw b 0, nw b 1, nw b 2, nw b 3]) ∧ Below w.heap.size w w0 := by
  refine ⟨_, rfl, ?_, ?_, ((Below.refl _ _).alloc (Nat.le_refl _) _).alloc (by simp) _⟩
  · exact (At.ofAlloc w #[.int .u64 ((nw a 0 : Nat) : Int), .int .u64 ((nw a 1 : Nat) : Int), .int .u64 ((nw a 2 : Nat) : Int), .int .u64 ((nw a 3 : Nat) : Int)] 159).alloc _
  · have h := At.ofAlloc (w.alloc (Obj.cells #[.int .u64 ((nw a 0 : Nat) : Int), .int .u64 ((nw a 1 : Nat) : Int), .int .u64 ((nw a 2 : Nat) : Int), .int .u64 ((nw a 3 : Nat) : Int)] 159)) #[.int .u64 ((nw b 0 : Nat) : Int), .int .u64 ((nw b 1 : Nat) : Int), .int .u64 ((nw b 2 : Nat) : Int), .int .u64 ((nw b 3 : Nat) : Int)] 159
    rw [World.size_alloc] at h
    exact h
theorem nw_get (a k : Nat) (h : k < 4) : [nw a 0, nw a 1, nw a 2, nw a 3].getD k 0 = nw a k := by
  have hk : k = 0 ∨ k = 1 ∨ k = 2 ∨ k = 3 := by omega
  rcases hk with rfl | rfl | rfl | rfl <;> rfl
set_option maxRecDepth 100000 in
set_option maxHeartbeats 1600000 in
theorem above_any (a b : Nat) (ha : a < 2 ^ 256) (hb : b < 2 ^ 256) (w : World) : Calls Tryz.prog 113 #[.agg #[.int .u64 ((nw a 0 : Nat) : Int), .int .u64 ((nw a 1 : Nat) : Int), .int .u64 ((nw a 2 : Nat) : Int), .int .u64 ((nw a 3 : Nat) : Int)], .agg #[.int .u64 ((nw b 0 : Nat) : Int), .int .u64 ((nw b 1 : Nat) : Int), .int .u64 ((nw b 2 : Nat) : Int), .int .u64 ((nw b 3 : Nat) : Int)]] w (RetBl (decide (b < a)) w) := by
  have h4 : a / 2 ^ (64 * 4) = b / 2 ^ (64 * 4) := by rw [nw_top a ha, nw_top b hb]
  clear ha hb
  go_enter Tryz.func113, Tryz.ntmps113
  go_wp2_with fail
  obtain ⟨w0, hw0, hA, hB, hb0⟩ := two4 w a b
  rw [hw0]
  clear hw0
  go_loopw [5] (fun iv wr => ∃ (k : Nat) (x : Int), k ≤ 4 ∧ iv = .int .i64 x ∧ x = (k : Int) - 1 ∧ a / 2 ^ (64 * k) = b / 2 ^ (64 * k) ∧ At wr w.heap.size 0 (ucells [nw a 0, nw a 1, nw a 2, nw a 3]) ∧ At wr (w.heap.size + 1) 0 (ucells [nw b 0, nw b 1, nw b 2, nw b 3]) ∧ Below w.heap.size w wr) (fun iv _ => (intOf iv + 1).toNat)
  case atStart => exact ⟨4, 3, by omega, rfl, by omega, h4, hA, hB, hb0⟩
  case round =>
    clear hA hB hb0 h4
    obtain ⟨k, x, hk, rfl, hx, he, hA, hB, hb0⟩ := hrel
    by_cases hk0 : k = 0
    · have q0 : ¬ (0 : Int) ≤ x := by omega
      subst hk0
      have hf : decide (b < a) = false := by
        rw [decide_eq_false_iff_not]
        rw [Nat.mul_zero, Nat.pow_zero, Nat.div_one, Nat.div_one] at he
        omega
      have HFF := Lib.hid hf
      clear he hf hA hB hx
      go_wp2_with fail
      go_ret
      exact ⟨by rw [HFF.out]; rfl, hb0⟩
    · obtain ⟨j, hj⟩ : ∃ j, k = j + 1 := ⟨k - 1, by omega⟩
      subst hj
      obtain rfl : x = (j : Int) := by omega
      have q0 : (0 : Int) ≤ (j : Int) := by omega
      have q1 : (j : Int) < 4 := by omega
      obtain ⟨ca, _⟩ := hA.u j (by show j < 4; omega)
      obtain ⟨cb, _⟩ := hB.u j (by show j < 4; omega)
      rw [Nat.zero_add, nw_get a j (by omega)] at ca
      rw [Nat.zero_add, nw_get b j (by omega)] at cb
      by_cases hne : nw a j = nw b j
      · have he2 : a / 2 ^ (64 * j) = b / 2 ^ (64 * j) := by rw [nw_step a j, nw_step b j, he, hne]
        obtain ⟨v, hv⟩ : ∃ v, nw b j = v := ⟨_, rfl⟩
        rw [hne, hv] at ca
        rw [hv] at cb
        have q2 : ((v : Int) != (v : Int)) = false := by simp
        have HE := Lib.hid he2
        have HA := Lib.hid hA
        have HB := Lib.hid hB
        clear he he2 hne hv hA hB hx
        go_wp2_with fail
        go_region
        go_wp2_with fail
        go_roundw
        case rel => exact ⟨j, _, by omega, rfl, by omega, HE.out, HA.out.drew, HB.out.drew, hb0.drew⟩
        case measure => first | (simp [intOf]; done) | (simp [intOf]; omega)
      · have hd := nw_dec a b j he hne
        obtain ⟨va, hva⟩ : ∃ v, nw a j = v := ⟨_, rfl⟩
        obtain ⟨vb, hvb⟩ : ∃ v, nw b j = v := ⟨_, rfl⟩
        rw [hva] at ca hne hd
        rw [hvb] at cb hne hd
        have q2 : ((va : Int) != (vb : Int)) = true := by rw [bne_iff_ne]; omega
        have HD := Lib.hid hd
        clear he hd hne hva hvb hA hB hx
        go_wp2_with fail
        go_region
        go_wp2_with fail
        go_region
        go_wp2_with fail
        go_ret
        exact ⟨by rw [← HD.out]; rfl, hb0.drew.drew⟩
end Go.Proofs.YtjlmmlnldjandaaGreatDoor
