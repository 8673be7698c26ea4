/- Items, told (layer 17): a forest of items and its bytes, in plain words. -/
import Derived.Test.YteanipjgpekncaaDoorCoT
namespace Go.Proofs.YteanipjgpekncaaDoor
set_option linter.unusedVariables false
set_option linter.unusedSimpArgs false
namespace Co
open Dr (Rs Lm has lack at0S)
/-- how many items one holds -/
def need (a : Am) : Nat := if a.kind = 6 then 1 else if a.kind = 5 then 2 * a.num else a.num
/-- one that holds no others, told -/
def tell (a : Am) : List UInt8 := if a.kind = 2 ∨ a.kind = 3 then hdN a.kind a.text.length ++ a.text else hdN a.kind a.num
/-- keys (each other one) stand in order, none twice -/
def keysOk : List (List UInt8) → Bool
  | k :: _ :: k2 :: r => Op.bytesLess k k2 && keysOk (k2 :: r)
  | _ => true
def ordA (k : Nat) (M : List (List UInt8)) : Bool := decide (k ≠ 5) || keysOk M
inductive Its : Nat → List Am → List (List UInt8) → Bool → Prop
  | nil : Its 0 [] [] true
  | leaf {a : Am} {d N M o} : holds a.kind = false → Its d N M o → Its d (a :: N) (tell a :: M) o
  | node {a : Am} {dK K MK oK d N M o} : holds a.kind = true → MK.length = need a → Its dK K MK oK → Its d N M o →
      Its (max (dK + 1) d) (a :: (K ++ N)) ((hdN a.kind a.num ++ MK.flatten) :: M) ((oK && ordA a.kind MK) && o)
theorem Its.split {d N M o} (h : Its d N M o) : ∀ k, k ≤ M.length → ∃ K R d1 d2 o1 o2, N = K ++ R ∧ Its d1 K (M.take k) o1 ∧ Its d2 R (M.drop k) o2 ∧ d = max d1 d2 ∧ o = (o1 && o2) := by
  induction h with
  | nil =>
    intro k hk
    obtain rfl : k = 0 := by simpa using hk
    exact ⟨[], [], 0, 0, true, true, rfl, .nil, .nil, rfl, rfl⟩
  | @leaf n d N M o hn h ih =>
    intro k hk
    cases k with
    | zero => exact ⟨[], n :: N, 0, d, true, o, rfl, .nil, .leaf hn h, by simp, by simp⟩
    | succ k =>
      obtain ⟨K, R, d1, d2, o1, o2, rfl, h1, h2, h3, h4⟩ := ih k (by simpa using hk)
      exact ⟨n :: K, R, d1, d2, o1, o2, rfl, .leaf hn h1, h2, h3, h4⟩
  | @node n dK K MK oK d N M o hn hm hK h ihK ih =>
    intro k hk
    cases k with
    | zero => exact ⟨[], _, 0, _, true, _, rfl, .nil, .node hn hm hK h, by simp, by simp⟩
    | succ k =>
      obtain ⟨K2, R, d1, d2, o1, o2, rfl, h1, h2, h3, h4⟩ := ih k (by simpa using hk)
      refine ⟨n :: (K ++ K2), R, _, d2, _, o2, by simp, .node hn hm hK h1, h2, ?_, ?_⟩
      · rw [h3]; omega
      · simp only [h4, Bool.and_assoc]
theorem Its.none {d N o} (h : Its d N [] o) : N = [] ∧ d = 0 ∧ o = true := by
  cases h
  exact ⟨rfl, rfl, rfl⟩
theorem Its.pos {d T B o} (h : Its d T [B] o) : 1 ≤ T.length := by
  cases h with
  | leaf _ _ => simp
  | node _ _ _ _ => simp
theorem Its.lens {d N M o} (h : Its d N M o) : M.length ≤ N.length := by
  induction h with
  | nil => exact Nat.le_refl _
  | leaf _ _ ih => rw [List.length_cons, List.length_cons]; omega
  | node _ _ _ _ ihK ih => rw [List.length_cons, List.length_cons, List.length_append]; omega
theorem Its.append {d N M o} (h : Its d N M o) : ∀ {d2 N2 M2 o2}, Its d2 N2 M2 o2 → Its (max d d2) (N ++ N2) (M ++ M2) (o && o2) := by
  induction h with
  | nil => intro d2 N2 M2 o2 h2; rw [Nat.zero_max, Bool.true_and]; exact h2
  | leaf hn _ ih => intro d2 N2 M2 o2 h2; exact .leaf hn (ih h2)
  | @node n dK K MK oK d N M o hn hm hK h ihK ih =>
    intro d2 N2 M2 o2 h2
    have h3 := Its.node hn hm hK (ih h2)
    rw [Nat.max_assoc, List.cons_append, List.append_assoc, Bool.and_assoc]
    exact h3
/-! a head that was told, read -/
theorem bytesN_get : ∀ (w n i : Nat), i < w → (bytesN w n).getD i 0 = UInt8.ofNat (n / 256 ^ (w - 1 - i))
  | 0, _, _, h => absurd h (Nat.not_lt_zero _)
  | w + 1, n, 0, _ => by rw [bytesN]; rfl
  | w + 1, n, i + 1, h => by
    rw [bytesN, show (UInt8.ofNat (n / 256 ^ w) :: bytesN w n).getD (i + 1) 0 = (bytesN w n).getD i 0 from rfl, bytesN_get w n i (by omega), show w + 1 - 1 - (i + 1) = w - 1 - i by omega]
theorem getD_drop (S : List UInt8) (p i : Nat) : S.getD (p + i) 0 = (S.drop p).getD i 0 := by
  rw [List.getD, List.getD, List.getElem?_drop]
section
variable {S : List UInt8} {L : Lm}
theorem argB_tell {p w n : Nat} {R : List UInt8} (hS : S.drop (p + 1) = bytesN w n ++ R) (hb : S.length ≤ L.bytes) (hn : n < 256 ^ w) : ∀ i, i ≤ w → argB S L p i = .ok (n / 256 ^ (w - i))
  | 0, _ => by rw [argB, Nat.sub_zero, Nat.div_eq_of_lt hn]
  | i + 1, hi => by
    have hl := congrArg List.length hS
    rw [List.length_drop, List.length_append, bytesN_length] at hl
    have hh : has S L (p + i + 1) = true := decide_eq_true ⟨by omega, by omega⟩
    have hg : at0S S (p + i + 1) = n / 256 ^ (w - (i + 1)) % 256 := by
      have h1 : (bytesN w n ++ R).getD i 0 = (bytesN w n).getD i 0 := by
        rw [List.getD, List.getD, List.getElem?_append_left (by rw [bytesN_length]; omega)]
      rw [at0S, show p + i + 1 = p + 1 + i by omega, getD_drop, hS, h1, bytesN_get w n i (by omega), show w - 1 - i = w - (i + 1) by omega]
      simp
    rw [argB, argB_tell hS hb hn i (by omega)]
    dsimp only
    rw [hh, if_pos rfl, hg]
    congr 1
    have h2 : n / 256 ^ (w - i) = n / 256 ^ (w - (i + 1)) / 256 := by
      rw [Nat.div_div_eq_div_mul, ← Nat.pow_succ, show (w - (i + 1)).succ = w - i by omega]
    rw [h2]
    exact Nat.div_add_mod _ _
theorem infN_lt (n : Nat) : infN n < 28 := by
  rw [infN]
  repeat' split
  all_goals omega
theorem hd_first (k n : Nat) (hk : k < 8) : kindT (UInt8.ofNat (32 * k + infN n)) = k ∧ infT (UInt8.ofNat (32 * k + infN n)) = infN n := by
  have h1 := infN_lt n
  have h2 : (UInt8.ofNat (32 * k + infN n)).toNat = 32 * k + infN n := by simp; omega
  rw [kindT, infT, h2]
  omega
theorem widN_inf (n : Nat) : (if infN n < 24 then 0 else 2 ^ (infN n - 24)) = widN n := by
  rw [infN, widN]
  repeat' split
  all_goals first | rfl | omega
theorem widN_fits (n : Nat) (h : n < 18446744073709551616) : widN n = 0 ∨ ((widN n = 1 ∨ widN n = 2 ∨ widN n = 4 ∨ widN n = 8) ∧ n < 256 ^ widN n) := by
  rw [widN]
  repeat' split
  all_goals first | exact .inl rfl | exact .inr ⟨by omega, by simp; omega⟩
theorem argR_tell {p k n : Nat} {R : List UInt8} (hk : k < 8) (hn : n < 18446744073709551616) (hS : S.drop p = hdN k n ++ R) (hb : S.length ≤ L.bytes) : argR S L p = .ok n ∧ kindT (S.getD p 0) = k ∧ infT (S.getD p 0) = infN n ∧ widT (S.getD p 0) = widN n := by
  have hg : S.getD p 0 = UInt8.ofNat (32 * k + infN n) := by
    have h1 := getD_drop S p 0
    rw [Nat.add_zero, hS] at h1
    exact h1
  obtain ⟨h2, h3⟩ := hd_first k n hk
  have h4 : widT (S.getD p 0) = widN n := by rw [hg, widT, h3, widN_inf]
  refine ⟨?_, by rw [hg, h2], by rw [hg, h3], h4⟩
  have hd : S.drop (p + 1) = bytesN (widN n) n ++ R := by
    rw [← List.drop_drop, hS]
    rfl
  rw [argR, h4]
  rcases widN_fits n hn with h5 | ⟨h5, h6⟩
  · rw [h5]
    show (if _ then _ else _) = _
    rw [if_pos rfl, hg, h3]
    congr 1
    rw [widN] at h5
    rw [infN]
    split at h5
    · rename_i h7; rw [if_pos h7]
    · split at h5 <;> (try omega)
      all_goals (split at h5 <;> (try omega))
      all_goals (split at h5 <;> omega)
  · rw [argB_tell hd hb h6 _ (Nat.le_refl _), Nat.sub_self, Nat.pow_zero, Nat.div_one]
    dsimp only
    rw [if_neg (by omega), if_pos ((short_iff _ _ h5 h6).2 rfl)]
end
end Co
end Go.Proofs.YteanipjgpekncaaDoor
