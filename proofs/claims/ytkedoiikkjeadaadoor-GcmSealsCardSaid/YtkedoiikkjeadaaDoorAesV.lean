/- Plain words: the product is a field's, and the document's. -/
import Derived.Test.YtkedoiikkjeadaaDoorAesP
namespace Go.Proofs.YtkedoiikkjeadaaDoor
set_option linter.unusedVariables false
set_option linter.unusedSimpArgs false
def Addi (f : UInt8 → UInt8) : Prop := ∀ x y, f (x ^^^ y) = f x ^^^ f y
theorem Addi.zero {f : UInt8 → UInt8} (h : Addi f) : f 0 = 0 := by
  have := h 0 0
  rw [UInt8.xor_self, UInt8.xor_self] at this
  exact this
def part (i : Nat) (a : UInt8) : UInt8 := if a.toNat.testBit i then UInt8.ofNat (2 ^ i) else 0
theorem parts (a : UInt8) : part 0 a ^^^ part 1 a ^^^ part 2 a ^^^ part 3 a ^^^ part 4 a ^^^ part 5 a ^^^ part 6 a ^^^ part 7 a = a := by
  revert a
  exact u8_all (by decide +kernel)
theorem Addi.ext {f g : UInt8 → UInt8} (hf : Addi f) (hg : Addi g) (h : ∀ i, i < 8 → f (UInt8.ofNat (2 ^ i)) = g (UInt8.ofNat (2 ^ i))) (a : UInt8) : f a = g a := by
  have hp : ∀ i, i < 8 → f (part i a) = g (part i a) := by
    intro i hi
    unfold part
    split
    · exact h i hi
    · rw [hf.zero, hg.zero]
  rw [← parts a]
  simp only [hf _ _, hg _ _]
  rw [hp 0 (by decide), hp 1 (by decide), hp 2 (by decide), hp 3 (by decide), hp 4 (by decide), hp 5 (by decide), hp 6 (by decide), hp 7 (by decide)]
theorem dbl_form (a : UInt8) : dbl a = (a <<< 1) ^^^ (if a.toNat.testBit 7 then 27 else 0) := by
  revert a
  exact u8_all (by decide +kernel)
theorem shl_xor (a b : UInt8) : (a ^^^ b) <<< 1 = (a <<< 1) ^^^ (b <<< 1) := by
  apply UInt8.toBitVec_inj.1
  simp [BitVec.shiftLeft_xor_distrib]
theorem tb_xor (a b : UInt8) (i : Nat) : (a ^^^ b).toNat.testBit i = (a.toNat.testBit i ^^ b.toNat.testBit i) := by
  rw [UInt8.toNat_xor, Nat.testBit_xor]
theorem xlc (a b c : UInt8) : a ^^^ (b ^^^ c) = b ^^^ (a ^^^ c) := by rw [← UInt8.xor_assoc, UInt8.xor_comm a b, UInt8.xor_assoc]
theorem xcan (a b : UInt8) : a ^^^ (a ^^^ b) = b := by rw [← UInt8.xor_assoc, UInt8.xor_self, UInt8.zero_xor]
theorem dbl_add : Addi dbl := by
  intro a b
  rw [dbl_form, dbl_form, dbl_form, shl_xor, tb_xor]
  cases a.toNat.testBit 7 <;> cases b.toNat.testBit 7 <;> simp [UInt8.xor_assoc, UInt8.xor_comm, xlc, xcan]
def gm : Nat → UInt8 → UInt8 → UInt8
  | 0, _, _ => 0
  | n + 1, a, b => (if b.toNat % 2 = 1 then a else 0) ^^^ gm n (dbl a) (b >>> 1)
theorem mulL_gm : ∀ (n : Nat) (a b p : UInt8), mulL n a b p = p ^^^ gm n a b
  | 0, a, b, p => by simp [mulL, gm]
  | n + 1, a, b, p => by
    rw [mulL, gm, mulL_gm n]
    split <;> simp [UInt8.xor_assoc]
theorem gmul_gm (a b : UInt8) : gmul a b = gm 8 a b := by rw [gmul, mulL_gm, UInt8.zero_xor]
theorem ite_xor (c : Prop) [Decidable c] (x y : UInt8) : (if c then x ^^^ y else 0) = (if c then x else 0) ^^^ (if c then y else 0) := by
  split <;> simp
theorem gm_left : ∀ (n : Nat) (x y b : UInt8), gm n (x ^^^ y) b = gm n x b ^^^ gm n y b
  | 0, x, y, b => by simp [gm]
  | n + 1, x, y, b => by
    rw [gm, gm, gm, dbl_add, gm_left n, ite_xor]
    simp only [UInt8.xor_assoc, xlc]
theorem shr_xor (a b : UInt8) : (a ^^^ b) >>> 1 = (a >>> 1) ^^^ (b >>> 1) := by
  apply UInt8.toBitVec_inj.1
  simp [BitVec.ushiftRight_xor_distrib]
theorem odd_xor (a b : UInt8) : ((a ^^^ b).toNat % 2 = 1) ↔ ((a.toNat % 2 = 1) ≠ (b.toNat % 2 = 1)) := by
  have h := tb_xor a b 0
  simp only [Nat.testBit_zero] at h
  by_cases h1 : a.toNat % 2 = 1 <;> by_cases h2 : b.toNat % 2 = 1 <;> simp [h1, h2] at h ⊢ <;> omega
theorem gm_right : ∀ (n : Nat) (a x y : UInt8), gm n a (x ^^^ y) = gm n a x ^^^ gm n a y
  | 0, a, x, y => by simp [gm]
  | n + 1, a, x, y => by
    rw [gm, gm, gm, shr_xor, gm_right n]
    by_cases h1 : x.toNat % 2 = 1 <;> by_cases h2 : y.toNat % 2 = 1
    · rw [if_neg (by rw [odd_xor]; simp [h1, h2]), if_pos h1, if_pos h2]
      simp [UInt8.xor_assoc, xlc, xcan]
    · rw [if_pos (by rw [odd_xor]; simp [h1, h2]), if_pos h1, if_neg h2]
      simp [UInt8.xor_assoc]
    · rw [if_pos (by rw [odd_xor]; simp [h1, h2]), if_neg h1, if_pos h2]
      simp [xlc]
    · rw [if_neg (by rw [odd_xor]; simp [h1, h2]), if_neg h1, if_neg h2]
      simp
theorem gmul_left (b : UInt8) : Addi (fun a => gmul a b) := fun x y => by simp only [gmul_gm, gm_left]
theorem gmul_right (a : UInt8) : Addi (fun b => gmul a b) := fun x y => by simp only [gmul_gm, gm_right]
theorem Addi.comp {f g : UInt8 → UInt8} (hf : Addi f) (hg : Addi g) : Addi (fun a => f (g a)) := fun x y => by
  show f (g (x ^^^ y)) = f (g x) ^^^ f (g y)
  rw [hg, hf]
theorem gmul_comm (a b : UInt8) : gmul a b = gmul b a := by
  refine (gmul_left b).ext (gmul_right b) (fun i hi => ?_) a
  refine (gmul_right (UInt8.ofNat (2 ^ i))).ext (gmul_left (UInt8.ofNat (2 ^ i))) (fun j hj => ?_) b
  have h : ∀ i : Fin 8, ∀ j : Fin 8, gmul (UInt8.ofNat (2 ^ i.val)) (UInt8.ofNat (2 ^ j.val)) = gmul (UInt8.ofNat (2 ^ j.val)) (UInt8.ofNat (2 ^ i.val)) := by decide +kernel
  exact h ⟨i, hi⟩ ⟨j, hj⟩
theorem gmul_assoc (a b c : UInt8) : gmul (gmul a b) c = gmul a (gmul b c) := by
  refine Addi.ext (f := fun a => gmul (gmul a b) c) (g := fun a => gmul a (gmul b c)) ((gmul_left c).comp (gmul_left b)) (gmul_left _) (fun i hi => ?_) a
  refine Addi.ext (f := fun b => gmul (gmul (UInt8.ofNat (2 ^ i)) b) c) (g := fun b => gmul (UInt8.ofNat (2 ^ i)) (gmul b c)) ((gmul_left c).comp (gmul_right _)) ((gmul_right _).comp (gmul_left c)) (fun j hj => ?_) b
  refine Addi.ext (f := fun c => gmul (gmul (UInt8.ofNat (2 ^ i)) (UInt8.ofNat (2 ^ j))) c) (g := fun c => gmul (UInt8.ofNat (2 ^ i)) (gmul (UInt8.ofNat (2 ^ j)) c)) (gmul_right _) ((gmul_right _).comp (gmul_right _)) (fun k hk => ?_) c
  have h : ∀ i : Fin 8, ∀ j : Fin 8, ∀ k : Fin 8, gmul (gmul (UInt8.ofNat (2 ^ i.val)) (UInt8.ofNat (2 ^ j.val))) (UInt8.ofNat (2 ^ k.val)) = gmul (UInt8.ofNat (2 ^ i.val)) (gmul (UInt8.ofNat (2 ^ j.val)) (UInt8.ofNat (2 ^ k.val))) := by decide +kernel
  exact h ⟨i, hi⟩ ⟨j, hj⟩ ⟨k, hk⟩
theorem gmul_one (a : UInt8) : gmul a 1 = a := by
  revert a
  exact u8_all (by decide +kernel)
theorem gmul_inv (b : UInt8) : b = 0 ∨ gmul b (ginv b) = 1 := by
  revert b
  exact u8_all (by decide +kernel)
theorem gmul_zero (a : UInt8) : gmul 0 a = 0 := (gmul_left a).zero
theorem gmul_nought (a b : UInt8) (h : gmul a b = 0) : a = 0 ∨ b = 0 := by
  rcases gmul_inv b with hb | hb
  · exact .inr hb
  · left
    rw [← gmul_one a, ← hb, ← gmul_assoc, h, gmul_zero]
/-! ### the document's product -/
def m1 (a b : Nat) : Nat → Nat
  | 0 => 0
  | k + 1 => if b.testBit k then m1 a b k ^^^ a * 2 ^ k else m1 a b k
def m2 (p : Nat) : Nat → Nat
  | 0 => p
  | j + 1 => if (m2 p j).testBit (14 - j) then m2 p j ^^^ 283 * 2 ^ (6 - j) else m2 p j
def rmul (a b : UInt8) : UInt8 := UInt8.ofNat (m2 (m1 a.toNat b.toNat 8) 7)
theorem nxlc (a b c : Nat) : a ^^^ (b ^^^ c) = b ^^^ (a ^^^ c) := by rw [← Nat.xor_assoc, Nat.xor_comm a b, Nat.xor_assoc]
theorem nxcan (a b : Nat) : a ^^^ (a ^^^ b) = b := by rw [← Nat.xor_assoc, Nat.xor_self, Nat.zero_xor]
theorem m1_xor (x y b : Nat) : ∀ k, m1 (x ^^^ y) b k = m1 x b k ^^^ m1 y b k
  | 0 => by simp [m1]
  | k + 1 => by
    rw [m1, m1, m1, m1_xor x y b k]
    have hs : (x ^^^ y) * 2 ^ k = x * 2 ^ k ^^^ y * 2 ^ k := by
      rw [← Nat.shiftLeft_eq, ← Nat.shiftLeft_eq, ← Nat.shiftLeft_eq, Nat.shiftLeft_xor_distrib]
    split
    · rw [hs]
      simp only [Nat.xor_assoc, Nat.xor_comm, nxlc, nxcan]
    · rfl
theorem m2_xor (p q : Nat) : ∀ j, m2 (p ^^^ q) j = m2 p j ^^^ m2 q j
  | 0 => rfl
  | j + 1 => by
    rw [m2, m2, m2, m2_xor p q j, Nat.testBit_xor]
    cases (m2 p j).testBit (14 - j) <;> cases (m2 q j).testBit (14 - j) <;> simp [Nat.xor_assoc, Nat.xor_comm, nxlc, nxcan]
theorem rmul_left (b : UInt8) : Addi (fun a => rmul a b) := fun x y => by
  simp only [rmul]
  rw [UInt8.toNat_xor, m1_xor, m2_xor]
  apply UInt8.toNat_inj.1
  rw [UInt8.toNat_xor, UInt8.toNat_ofNat', UInt8.toNat_ofNat', UInt8.toNat_ofNat']
  exact Nat.xor_mod_two_pow
theorem rmul_gmul (a b : UInt8) : rmul a b = gmul a b := by
  refine (rmul_left b).ext (gmul_left b) (fun i hi => ?_) a
  revert b
  apply u8_all
  have h : ∀ n : Fin 256, ∀ i : Fin 8, rmul (UInt8.ofNat (2 ^ i.val)) (UInt8.ofNat n.val) = gmul (UInt8.ofNat (2 ^ i.val)) (UInt8.ofNat n.val) := by decide +kernel
  intro n
  exact h n ⟨i, hi⟩
end Go.Proofs.YtkedoiikkjeadaaDoor
