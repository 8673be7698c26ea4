/- Items, read and told again (layer 17), in plain words. -/
import Derived.Test.YteanipjgpekncaaDoorCoV
namespace Go.Proofs.YteanipjgpekncaaDoor
set_option linter.unusedVariables false
set_option linter.unusedSimpArgs false
namespace Co
open Dr (Rs Lm has lack at0S)
theorem bytesN_snoc : ∀ (i n : Nat), bytesN (i + 1) n = bytesN i (n / 256) ++ [UInt8.ofNat n]
  | 0, n => by rw [bytesN, bytesN, bytesN, Nat.pow_zero, Nat.div_one]; rfl
  | i + 1, n => by
    rw [bytesN, bytesN_snoc i n, bytesN, Nat.div_div_eq_div_mul, show 256 * 256 ^ i = 256 ^ (i + 1) by rw [Nat.pow_succ, Nat.mul_comm], List.cons_append]
section
variable {S : List UInt8} {L : Lm}
theorem argB_inv (q : Nat) : ∀ (i n : Nat), argB S L q i = .ok n → (S.drop (q + 1)).take i = bytesN i n ∧ n < 256 ^ i
  | 0, n, h => by
    rw [argB] at h
    cases h
    exact ⟨by rw [List.take_zero]; rfl, by decide⟩
  | i + 1, n, h => by
    rw [argB] at h
    cases hB : argB S L q i with
    | no e p b => rw [hB] at h; cases h
    | ok m =>
      rw [hB] at h
      dsimp only at h
      cases hh : has S L (q + i + 1) with
      | false => rw [hh, if_neg (by decide), lack] at h; cases h
      | true =>
        rw [hh, if_pos rfl] at h
        have h1 : q + i + 1 < S.length ∧ q + i + 1 < L.bytes := of_decide_eq_true hh
        obtain ⟨h2, h3⟩ := argB_inv q i m hB
        injection h with h4
        have hb : at0S S (q + i + 1) < 256 := by rw [at0S]; exact UInt8.toNat_lt _
        refine ⟨?_, ?_⟩
        · rw [bytesN_snoc, List.take_add_one, h2, List.getElem?_drop, show q + 1 + i = q + i + 1 by omega, List.getElem?_eq_getElem h1.1]
          have h5 : n / 256 = m := by omega
          have h6 : UInt8.ofNat n = S[q + i + 1]'h1.1 := by
            refine UInt8.toNat_inj.1 ?_
            have h7 : at0S S (q + i + 1) = (S[q + i + 1]'h1.1).toNat := by rw [at0S, List.getD, List.getElem?_eq_getElem h1.1]; rfl
            rw [← h7]
            simp
            omega
          rw [h5, h6]
          rfl
        · rw [Nat.pow_succ]
          omega
theorem inf_of_wid (n w i : Nat) (h1 : widN n = w) (h2 : (i = 24 ∧ w = 1) ∨ (i = 25 ∧ w = 2) ∨ (i = 26 ∧ w = 4) ∨ (i = 27 ∧ w = 8)) : infN n = i := by
  rw [widN] at h1
  rw [infN]
  repeat' split at h1
  all_goals (simp only [*, if_true, if_false]; omega)
theorem argR_inv {p n : Nat} (h0 : has S L p = true) (he : headE (S.getD p 0) = 0) (hA : argR S L p = .ok n) :
    S.drop p = hdN (kindT (S.getD p 0)) n ++ S.drop (p + 1 + widT (S.getD p 0)) ∧ widT (S.getD p 0) = widN n ∧ n < 18446744073709551616 ∧ p + 1 + widT (S.getD p 0) ≤ S.length := by
  have h1 : p < S.length ∧ p < L.bytes := of_decide_eq_true h0
  obtain ⟨t, ht⟩ : ∃ t, S.getD p 0 = t := ⟨_, rfl⟩
  have hd : S.drop p = t :: S.drop (p + 1) := by
    rw [← ht, List.getD, List.getElem?_eq_getElem h1.1]
    exact (List.getElem_cons_drop (h := h1.1)).symm
  rw [argR] at hA
  rw [ht] at he hA ⊢
  have hi : infT t ≤ 27 := by
    rw [headE] at he
    split at he
    · cases he
    · omega
  have htt : t.toNat = 32 * kindT t + infT t := by rw [kindT, infT]; omega
  cases hB : argB S L p (widT t) with
  | no e q b => rw [hB] at hA; cases hA
  | ok m =>
    rw [hB] at hA
    dsimp only at hA
    obtain ⟨hb1, hb2⟩ := argB_inv p _ _ hB
    have hfirst : ∀ k, infN k = infT t → UInt8.ofNat (32 * kindT t + infN k) = t := fun k hk => by
      rw [hk, ← htt]; simp
    by_cases hw : widT t = 0
    · rw [if_pos hw] at hA
      cases hA
      have h24 : infT t < 24 := by
        rw [widT] at hw
        split at hw
        · assumption
        · have := Nat.two_pow_pos (infT t - 24); omega
      have hin : infN (infT t) = infT t := by rw [infN, if_pos h24]
      have hwn : widN (infT t) = 0 := by rw [widN, if_pos h24]
      refine ⟨?_, by rw [hw, hwn], by omega, by omega⟩
      rw [hw, hdN, hwn, hfirst _ hin, bytesN, hd]
      rfl
    · rw [if_neg hw] at hA
      have h24 : 24 ≤ infT t := by
        refine Nat.le_of_not_lt fun h => hw ?_
        rw [widT, if_pos h]
      have hcase : (infT t = 24 ∧ widT t = 1) ∨ (infT t = 25 ∧ widT t = 2) ∨ (infT t = 26 ∧ widT t = 4) ∨ (infT t = 27 ∧ widT t = 8) := by
        rw [widT, if_neg (by omega)]
        rcases (by omega : infT t = 24 ∨ infT t = 25 ∨ infT t = 26 ∨ infT t = 27) with h | h | h | h <;> rw [h] <;> simp
      cases hs : short (widT t) m with
      | false => rw [hs, if_neg (by decide)] at hA; cases hA
      | true =>
        rw [hs, if_pos rfl] at hA
        cases hA
        have hwn : widN n = widT t := (short_iff _ _ (by omega) hb2).1 hs
        have hin := inf_of_wid n _ _ hwn hcase
        have hlen := congrArg List.length hb1
        rw [List.length_take, List.length_drop, bytesN_length] at hlen
        have hlt : n < 18446744073709551616 := by
          refine Nat.lt_of_lt_of_le hb2 ?_
          rcases hcase with ⟨-, h⟩ | ⟨-, h⟩ | ⟨-, h⟩ | ⟨-, h⟩ <;> rw [h] <;> decide
        refine ⟨?_, hwn.symm, hlt, by omega⟩
        rw [hdN, hwn, hfirst _ hin, hd, ← hb1, List.cons_append, show S.drop (p + 1 + widT t) = (S.drop (p + 1)).drop (widT t) from (List.drop_drop ..).symm, List.take_append_drop]
end
end Co
end Go.Proofs.YteanipjgpekncaaDoor
