import Derived.Test.YtikgonlhdkknkaaGreatDoorCuT
set_option linter.unusedVariables false
set_option linter.unusedSimpArgs false
namespace Go.Proofs.YtikgonlhdkknkaaGreatDoor
open Go.RowKit
namespace Ce
open Co (Am Ra up rcells rv UT DecR decL decE enc Its holds need tell okA)
open Dr (Rs)
theorem canon_len (x : Ev) : x.loose.length ≤ (canon x).length ∧ x.header.length ≤ (canon x).length ∧ x.cipher.length ≤ (canon x).length ∧ x.tag.length ≤ (canon x).length := by
 rw [canon]
 split <;> simp only [byt, lap] <;> omega
theorem Rd.lens {S : List UInt8} {d i b ro : Int} {x : Ev} (h : Rd S d i b ro (0, x)) : S = canon x ∧ x.loose.length ≤ 262144 ∧ x.header.length ≤ 262144 ∧ x.cipher.length ≤ 262144 ∧ x.tag.length ≤ 262144 := by
 have h1 := h.sz
 obtain ⟨_, _, -, -, -, -, -, h2, -⟩ := canon_of h
 have h3 := canon_len x
 rw [← h2] at h3
 exact ⟨h2, by omega, by omega, by omega, by omega⟩
theorem tagOf_le (n : Int) : (tagOf n).toNat ≤ 64 := by
 have h : ∀ r, rowOf n = some r → r.2.2.toNat ≤ 64 := by
  intro r h
  rcases row_cases n with h0 | h0
  ·rw [h0] at h; cases h
  ·rcases h0 with h0 | h0 | h0 | h0 | h0 | h0 | h0 | h0 | h0 | h0 | h0 | h0 | h0 | h0 | h0 | h0 | h0 | h0 | h0 | h0 | h0 | h0
   all_goals (subst h0; injection h with h; subst h; decide)
 rw [tagOf]
 cases hr : rowOf n with
 | none => decide
 | some r => exact h r hr
theorem lenP_le {F alg : Int} {ps : List (Am × Am)} {c t : List UInt8} (h : (lenP F alg ps c t).1 = 0) : (lenP F alg ps c t).2.2.1.length ≤ 70000 ∧ (lenP F alg ps c t).2.2.2.length ≤ 64 := by
 have ht := tagOf_le alg
 rw [lenP] at h ⊢
 by_cases h6 : F = 6
 ·rw [if_pos h6] at h ⊢
  by_cases h1 : (t.length : Int) ≠ tagOf alg
  ·rw [if_pos h1] at h; cases h
  rw [if_neg h1] at h ⊢
  by_cases h2 : 70000 < c.length
  ·rw [if_pos h2] at h; cases h
  rw [if_neg h2]
  exact ⟨by show c.length ≤ _; omega, by show t.length ≤ _; omega⟩
 ·rw [if_neg h6] at h ⊢
  cases hf : find 5 ps with
  | none => rw [hf] at h; cases h
  | some v =>
   rw [hf] at h
   dsimp only at h ⊢
   by_cases h1 : v.kind ≠ 2 ∨ (v.text.length : Int) ≠ ivOf alg ∨ (c.length : Int) < tagOf alg
   ·rw [if_pos h1] at h; cases h
   rw [if_neg h1] at h ⊢
   by_cases h2 : 70000 < c.length - (tagOf alg).toNat ∨ ivOf alg = 13 ∧ 65536 ≤ c.length - (tagOf alg).toNat
   ·rw [if_pos h2] at h; cases h
   rw [if_neg h2]
   refine ⟨?_, ?_⟩
   ·show (c.take _).length ≤ _
    rw [List.length_take]
    omega
   ·show (c.drop _).length ≤ _
    rw [List.length_drop]
    omega
theorem Rd.lens2 {S : List UInt8} {d i b ro : Int} {x : Ev} (h : Rd S d i b ro (0, x)) : x.cipher.length ≤ 70000 ∧ x.tag.length ≤ 64 := by
 obtain ⟨l, H, -, -, -, h4, h5, -⟩ := canon_of h
 have h6 := (rdE_zero h4).2.2.2.2
 rw [lenN] at h6
 have h7 := lenP_le h6
 rw [h5, rdV, if_neg (by rw [h4]; decide)]
 exact h7
def bigE (x : Ev) : Prop := 300000 < x.header.length ∨ 300000 < x.loose.length ∨ 70000 < x.cipher.length ∨ 64 < x.tag.length
theorem tell_big {x : Ev} {R : List UInt8 × Int} (h : TellR x R) (hb : bigE x) : R = ([], 2) := by
 rcases tell_got h with h1 | ⟨-, h2⟩
 ·exact h1
 ·have h3 := h2.lens
  have h4 := h2.lens2
  rcases hb with hb | hb | hb | hb <;> omega
theorem tell_doc {x : Ev} {R : List UInt8 × Int} {y : Int × Ev} (h : TellR x R) (hy : Rd (canon x) 32 4096 262144 4096 y) : R = if y.1 = 0 ∧ x = y.2 then (canon x, 0) else ([], 2) := by
 by_cases hq : y.1 = 0 ∧ x = y.2
 ·rw [if_pos hq]
  obtain ⟨c, z⟩ := y
  obtain ⟨h1, h2⟩ := hq
  dsimp only at h1 h2
  subst h1 h2
  exact tell_gives h hy
 ·rw [if_neg hq]
  rcases tell_got h with h1 | ⟨-, h2⟩
  ·exact h1
  ·exact absurd (by rw [hy.same h2]; exact ⟨rfl, rfl⟩) hq
def RetTd (x : Ev) (w : World) (e : Ending) (w' : World) : Prop := ∃ R : List UInt8 × Int, (∀ R0, TellR x R0 → R0 = R) ∧ e = .returned (.tuple #[.string (bs R.1), .int .i64 R.2]) ∧ Below w.heap.size w w'
theorem canon_six {x : Ev} (h : x.format = 6) : canon x = [0xd1, 0x84] ++ byt x.header ++ x.loose ++ byt x.cipher ++ byt x.tag := by rw [canon, if_pos h]
theorem canon_five {x : Ev} (h : ¬ x.format = 6) : canon x = [0xd0, 0x83] ++ byt x.header ++ x.loose ++ byt (x.cipher ++ x.tag) := by rw [canon, if_neg h]
end Ce
end Go.Proofs.YtikgonlhdkknkaaGreatDoor
