/- Heads, in plain words. -/
import Derived.Test.YtikgonlhdkknkaaDoorCwA
import Derived.Test.YtikgonlhdkknkaaDoorCuB
import Derived.Test.YtikgonlhdkknkaaDoorCvA
namespace Go.Proofs.YtikgonlhdkknkaaDoor
open Go.RowKit
set_option linter.unusedVariables false
set_option linter.unusedSimpArgs false
namespace Ce
open Co (Am Ra up rcells rv UT DecR enc Its holds tell okA hdN infN widN bytesN)
def R13 (n : Int) : Prop := (fmtOf n = 0 → (of13 n).alg = 0 ∨ (¬ (of13 n).alg = 0 ∧ (of13 n).iv = 16)) ∧ (¬ fmtOf n = 0 → ¬ (of13 n).alg = 0 ∧ ¬ (of13 n).iv = 16 ∧ ((of13 n).iv = 0 ↔ fmtOf n = 6) ∧ (fmtOf n = 6 → 100 ≤ n ∧ n ≤ 150) ∧ (¬ fmtOf n = 6 → 0 ≤ n ∧ n ≤ 50))
instance (n : Int) : Decidable (R13 n) := by unfold R13; infer_instance
theorem r13 (n : Int) : R13 n := by
  rcases row_cases n with h | rfl | rfl | rfl | rfl | rfl | rfl | rfl | rfl | rfl | rfl | rfl | rfl | rfl | rfl | rfl | rfl | rfl | rfl | rfl | rfl | rfl | rfl
  · have hf : fmtOf n = 0 := by rw [fmtOf, h]
    refine ⟨fun _ => .inl ?_, fun h0 => absurd hf h0⟩
    rw [of13]
    cases hq : T13.find? (fun r => decide (r.alg = n)) with
    | none => rfl
    | some r =>
      exfalso
      have h1 := List.find?_some hq
      have h2 := List.mem_of_find?_eq_some hq
      have h3 : r.alg = n := by simpa using h1
      simp only [T13, List.mem_cons, List.mem_nil_iff, or_false] at h2
      rcases h2 with rfl | rfl | rfl | rfl | rfl | rfl | rfl | rfl | rfl | rfl | rfl | rfl | rfl | rfl | rfl | rfl | rfl | rfl | rfl | rfl | rfl | rfl
      all_goals (subst h3; exact absurd h (by decide))
  all_goals decide
theorem byt_len2 (s : List UInt8) : (byt s).length ≤ s.length + 9 := by
  rw [byt, List.length_append, Co.hdN_length]
  have := widN_le s.length
  omega
def numH (alg : Int) : Nat := (if fmtOf alg = 6 then alg - 100 else alg).toNat
def cntH (name iv : List UInt8) : Nat := (if name = [] then 0 else 1) + (if iv = [] then 0 else 1)
def looH (name iv : List UInt8) : List UInt8 := hdN 5 (cntH name iv) ++ ((if name = [] then [] else 4 :: byt name) ++ (if iv = [] then [] else 5 :: byt iv))
def proH (alg : Int) : List UInt8 := [161, 1] ++ hdN 0 (numH alg)
def headsP (alg : Int) (name iv : List UInt8) : List UInt8 × List UInt8 × Int :=
  if fmtOf alg = 0 then ([], [], 11) else if 128 < name.length ∨ 16 < iv.length then ([], [], 2) else (proH alg, looH name iv, 0)
theorem numH_lt (alg : Int) (h : ¬ fmtOf alg = 0) : numH alg ≤ 50 ∧ (fmtOf alg = 6 → alg - 100 = (numH alg : Int)) ∧ (¬ fmtOf alg = 6 → alg = (numH alg : Int)) := by
  have h1 := (r13 alg).2 h
  rw [numH]
  by_cases h6 : fmtOf alg = 6
  · have := h1.2.2.2.1 h6
    rw [if_pos h6]
    exact ⟨by omega, fun _ => by omega, fun h => absurd h6 h⟩
  · have := h1.2.2.2.2 h6
    rw [if_neg h6]
    exact ⟨by omega, fun h => absurd h h6, fun _ => by omega⟩
def okAm (a : Am) : Prop := okA Lib.validD a
theorem okN (k n : Nat) (hk : k = 0 ∨ k = 1 ∨ k = 4 ∨ k = 5 ∨ k = 6) (hn : n < 1000) : okA Lib.validD ⟨k, n, []⟩ := ⟨(by show n < _; omega), (by decide : (0 : Nat) < 18446744073709551616), .inl ⟨hk, rfl⟩⟩
theorem okB (s : List UInt8) (hs : s.length ≤ 128) : okA Lib.validD ⟨2, 0, s⟩ := ⟨(by decide : (0 : Nat) < 18446744073709551616), by show s.length < _; omega, .inr (.inl ⟨rfl, rfl⟩)⟩
theorem enc_pro (m : Nat) (hm : m ≤ 50) : enc Lib.validD [⟨5, 1, []⟩, ⟨0, 1, []⟩, ⟨0, m, []⟩] = ([161, 1] ++ hdN 0 m, 0) := by
  have hI : Its 1 [⟨5, 1, []⟩, ⟨0, 1, []⟩, ⟨0, m, []⟩] [[161, 1] ++ hdN 0 m] true := by
    have h := Its.node (a := ⟨5, 1, []⟩) rfl (by rfl) (Its.leaf (a := ⟨0, 1, []⟩) rfl (Its.leaf (a := ⟨0, m, []⟩) rfl .nil)) .nil
    simp only [tell, List.flatten_cons, List.flatten_nil, List.append_nil] at h
    exact h
  have ha : Apart ([161, 1] ++ hdN 0 m) [⟨5, 1, []⟩, ⟨0, 1, []⟩, ⟨0, m, []⟩] 32 := by
    refine ⟨⟨1, hI, by decide⟩, ?_, by show 3 ≤ 4096; decide, by decide, ?_⟩
    · intro a ha
      simp only [List.mem_cons, List.mem_nil_iff, or_false] at ha
      rcases ha with rfl | rfl | rfl <;> exact okN _ _ (by decide) (by omega)
    · rw [List.length_append, Co.hdN_length]; have := widN_le m; simp; omega
  exact ha.enc
end Ce
end Go.Proofs.YtikgonlhdkknkaaDoor
