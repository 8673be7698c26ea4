/- The field of 128 bits: the program's element: plus, timesX. -/
import Derived.Test.YtkedoiikkjeadaaDoorGhR
import Derived.Test.YtkedoiikkjeadaaDoorBitI
import Derived.Test.YtkedoiikkjeadaaDoorRowC
namespace Go.Proofs.YtkedoiikkjeadaaDoor
open Go.RowKit
set_option linter.unusedVariables false
set_option linter.unusedSimpArgs false
theorem u64w (n : Nat) (h : n < 18446744073709551616) : IntKind.u64.wrap (n : Int) = (n : Int) := by simp [IntKind.wrap, IntKind.bits, IntKind.signed]; omega
theorem u64n_toNat (x : Nat) (h : x < 18446744073709551616) : (BitVec.ofInt 64 (x : Int)).toNat = x := by
  rw [BitVec.toNat_ofInt]
  omega
theorem u64n_xor (x y : Nat) (hx : x < 18446744073709551616) (hy : y < 18446744073709551616) : bits .xor .u64 (x : Int) (y : Int) = ((x ^^^ y : Nat) : Int) := by
  show IntKind.u64.wrap ((BitVec.ofInt 64 (x : Int) ^^^ BitVec.ofInt 64 (y : Int)).toNat : Nat) = _
  rw [BitVec.toNat_xor, u64n_toNat x hx, u64n_toNat y hy]
  exact u64w _ (Nat.xor_lt_two_pow (n := 64) hx hy)
theorem u64n_or (x y : Nat) (hx : x < 18446744073709551616) (hy : y < 18446744073709551616) : bits .or .u64 (x : Int) (y : Int) = ((x ||| y : Nat) : Int) := by
  show IntKind.u64.wrap ((BitVec.ofInt 64 (x : Int) ||| BitVec.ofInt 64 (y : Int)).toNat : Nat) = _
  rw [BitVec.toNat_or, u64n_toNat x hx, u64n_toNat y hy]
  exact u64w _ (Nat.or_lt_two_pow (n := 64) hx hy)
theorem u64n_and (x y : Nat) (hx : x < 18446744073709551616) (hy : y < 18446744073709551616) : bits .and .u64 (x : Int) (y : Int) = ((x &&& y : Nat) : Int) := by
  show IntKind.u64.wrap ((BitVec.ofInt 64 (x : Int) &&& BitVec.ofInt 64 (y : Int)).toNat : Nat) = _
  rw [BitVec.toNat_and, u64n_toNat x hx, u64n_toNat y hy]
  exact u64w _ (Nat.lt_of_le_of_lt Nat.and_le_left hx)
theorem u64n_wrap (n : Nat) : IntKind.u64.wrap (n : Int) = ((n % 18446744073709551616 : Nat) : Int) := by simp [IntKind.wrap, IntKind.bits, IntKind.signed]
theorem u64n_shl (a k : Nat) (c : Int) (hc : c = ((2 ^ k : Nat) : Int)) : IntKind.u64.wrap ((a : Int) * c) = (((a <<< k) % 2 ^ 64 : Nat) : Int) := by
  rw [hc, ← Int.natCast_mul, u64n_wrap, Nat.shiftLeft_eq]
theorem u64n_shr (a k : Nat) (c : Int) (hc : c = ((2 ^ k : Nat) : Int)) : (a : Int) / c = ((a >>> k : Nat) : Int) := by
  rw [hc, Nat.shiftRight_eq_div_pow, Int.natCast_ediv]
/-- an element's cells -/
def elc (v : Nat) : List Value := [.int .u64 ((Gh.hi v : Nat) : Int), .int .u64 ((Gh.lo v : Nat) : Int)]
def RetEl (v : Nat) (w : World) (e : Ending) (w' : World) : Prop := e = .returned (.agg #[.int .u64 ((Gh.hi v : Nat) : Int), .int .u64 ((Gh.lo v : Nat) : Int)]) ∧ Below w.heap.size w w'
set_option maxRecDepth 100000 in
theorem plus_any (u v : Nat) (hu : u < 2 ^ 128) (hv : v < 2 ^ 128) (w : World) : Calls Tryd.prog 36 #[.agg #[.int .u64 ((Gh.hi u : Nat) : Int), .int .u64 ((Gh.lo u : Nat) : Int)], .agg #[.int .u64 ((Gh.hi v : Nat) : Int), .int .u64 ((Gh.lo v : Nat) : Int)]] w (RetEl (u ^^^ v) w) := by
  have x1 := u64n_xor (Gh.hi u) (Gh.hi v) (Gh.hi_lt u hu) (Gh.hi_lt v hv)
  have x2 := u64n_xor (Gh.lo u) (Gh.lo v) (Gh.lo_lt u) (Gh.lo_lt v)
  rw [← Gh.hi_xor] at x1
  rw [← Gh.lo_xor] at x2
  obtain ⟨a, ha⟩ : ∃ a, Gh.hi u = a := ⟨_, rfl⟩
  obtain ⟨b, hb⟩ : ∃ b, Gh.lo u = b := ⟨_, rfl⟩
  obtain ⟨c, hc⟩ : ∃ c, Gh.hi v = c := ⟨_, rfl⟩
  obtain ⟨d, hd⟩ : ∃ d, Gh.lo v = d := ⟨_, rfl⟩
  obtain ⟨x, hx⟩ : ∃ x, Gh.hi (u ^^^ v) = x := ⟨_, rfl⟩
  obtain ⟨y, hy⟩ : ∃ y, Gh.lo (u ^^^ v) = y := ⟨_, rfl⟩
  have HX := Lib.hid hx
  have HY := Lib.hid hy
  rw [ha, hc, hx] at x1
  rw [hb, hd, hy] at x2
  rw [ha, hb, hc, hd]
  clear ha hb hc hd hx hy
  go_enter Tryd.func36, Tryd.ntmps36
  go_wp2_with fail
  have hA := At.ofAlloc ((w.alloc (Obj.cells #[.int .u64 (a : Int), .int .u64 (b : Int)] 44)).alloc (Obj.cells #[.int .u64 (c : Int), .int .u64 (d : Int)] 44)) #[.int .u64 (x : Int), .int .u64 (y : Int)] 44
  rw [World.size_alloc, World.size_alloc] at hA
  refine bodyPost_ret (results_at rfl _ (w.heap.size + 1 + 1) _ _ rfl hA Tryd.underlying44 rfl rfl) rfl ?_
  exact ⟨by rw [HX.out, HY.out], (((Below.refl _ _).alloc (Nat.le_refl _) _).alloc (by simp) _).alloc (by simp; omega) _⟩
set_option maxRecDepth 100000 in
theorem timesX_any (v : Nat) (hv : v < 2 ^ 128) (w : World) : Calls Tryd.prog 50 #[.agg #[.int .u64 ((Gh.hi v : Nat) : Int), .int .u64 ((Gh.lo v : Nat) : Int)]] w (RetEl (Gh.mx v) w) := by
  have ah := Gh.hi_lt v hv
  have bh := Gh.lo_lt v
  have h0 := Gh.hi_mx v
  have h1 := Gh.lo_mx v
  rw [← Gh.lo_bit v 0 (by decide), Nat.testBit_zero] at h0
  obtain ⟨a, ha⟩ : ∃ a, Gh.hi v = a := ⟨_, rfl⟩
  obtain ⟨b, hb⟩ : ∃ b, Gh.lo v = b := ⟨_, rfl⟩
  rw [ha] at ah h0 h1 ⊢
  rw [hb] at bh h0 h1 ⊢
  have x1 := u64n_shr a 1 2 rfl
  have x2 := u64n_shl a 63 9223372036854775808 (by decide)
  have x3 := u64n_shr b 1 2 rfl
  have l1 : a >>> 1 < 2 ^ 64 := by rw [Nat.shiftRight_eq_div_pow]; omega
  have l2 : (a <<< 63) % 2 ^ 64 < 2 ^ 64 := Nat.mod_lt _ (by decide)
  have l3 : b >>> 1 < 2 ^ 64 := by rw [Nat.shiftRight_eq_div_pow]; omega
  obtain ⟨p, hp⟩ : ∃ p, a >>> 1 = p := ⟨_, rfl⟩
  obtain ⟨q, hq⟩ : ∃ q, (a <<< 63) % 2 ^ 64 = q := ⟨_, rfl⟩
  obtain ⟨r, hr⟩ : ∃ r, b >>> 1 = r := ⟨_, rfl⟩
  rw [hp] at x1 l1 h0
  rw [hq] at x2 l2 h1
  rw [hr] at x3 l3 h1
  have x4 := u64n_or q r l2 l3
  have x5 := u64n_and b 1 bh (by decide)
  rw [Nat.and_one_is_mod, show ((1 : Nat) : Int) = 1 from rfl] at x5
  have x6 := u64n_xor p (0xe1 <<< 56) l1 (by decide)
  rw [show ((0xe1 <<< 56 : Nat) : Int) = 16212958658533785600 by decide] at x6
  rw [← h1] at x4
  have H1 := Lib.hid h1
  obtain ⟨y, hy⟩ : ∃ y, Gh.lo (Gh.mx v) = y := ⟨_, rfl⟩
  rw [hy] at x4
  by_cases hbit : b % 2 = 1
  · rw [hbit] at x5
    have x7 : (bits .and .u64 (b : Int) 1 == 1) = true := by rw [x5]; rfl
    rw [hbit, show (decide (1 = 1) : Bool) = true from rfl, Gh.sel, if_pos rfl] at h0
    rw [← h0] at x6
    obtain ⟨x, hx⟩ : ∃ x, Gh.hi (Gh.mx v) = x := ⟨_, rfl⟩
    rw [hx] at x6
    have HX := Lib.hid hx
    have HY := Lib.hid hy
    clear hx hy h0 h1 x5 hbit hp hq hr ha hb l1 l2 l3 ah bh
    go_enter Tryd.func50, Tryd.ntmps50
    go_wp2_with fail
    have hA := (At.ofAlloc (w.alloc (Obj.cells #[.int .u64 (a : Int), .int .u64 (b : Int)] 44)) #[.int .u64 (x : Int), .int .u64 (y : Int)] 44).alloc (Obj.cells #[.int .u64 (x : Int), .int .u64 (y : Int)] 44)
    rw [World.size_alloc] at hA
    refine bodyPost_ret (results_at rfl _ (w.heap.size + 1) _ _ rfl hA Tryd.underlying44 rfl rfl) rfl ?_
    exact ⟨by rw [HX.out, HY.out], (((Below.refl _ _).alloc (Nat.le_refl _) _).alloc (by simp) _).alloc (by simp; omega) _⟩
  · rw [show b % 2 = 0 by omega] at x5
    have x7 : (bits .and .u64 (b : Int) 1 == 1) = false := by rw [x5]; rfl
    rw [show b % 2 = 0 by omega, show (decide (0 = 1) : Bool) = false from rfl, Gh.sel, if_neg (by decide), Nat.xor_zero] at h0
    have HX := Lib.hid h0
    have HY := Lib.hid hy
    clear hy h0 h1 x5 x6 hbit hp hq hr ha hb l1 l2 l3 ah bh
    go_enter Tryd.func50, Tryd.ntmps50
    go_wp2_with fail
    have hA := (At.ofAlloc (w.alloc (Obj.cells #[.int .u64 (a : Int), .int .u64 (b : Int)] 44)) #[.int .u64 (p : Int), .int .u64 (y : Int)] 44).alloc (Obj.cells #[.int .u64 (p : Int), .int .u64 (y : Int)] 44)
    rw [World.size_alloc] at hA
    refine bodyPost_ret (results_at rfl _ (w.heap.size + 1) _ _ rfl hA Tryd.underlying44 rfl rfl) rfl ?_
    exact ⟨by rw [HX.out, HY.out], (((Below.refl _ _).alloc (Nat.le_refl _) _).alloc (by simp) _).alloc (by simp; omega) _⟩
end Go.Proofs.YtkedoiikkjeadaaDoor
