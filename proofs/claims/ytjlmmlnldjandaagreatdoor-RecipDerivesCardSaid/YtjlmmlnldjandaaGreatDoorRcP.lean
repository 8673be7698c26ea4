/- Plain words for keys that are locked by passwords' keys; a locked key is unlocked to what it was. -/
import Derived.Test.YtjlmmlnldjandaaGreatDoorCbcY
namespace Go.Proofs.YtjlmmlnldjandaaGreatDoor
open Go.RowKit
set_option linter.unusedVariables false
set_option linter.unusedSimpArgs false
def fffL : List UInt8 := [255, 255, 255]
def laidN (n : Nat) : Nat := max 32 ((n + 19) / 16 * 16)
def fillN (n : Nat) : Nat := laidN n - 4 - n
def fillE (n : Int) : Int := if 3 ≤ n ∧ n ≤ 255 then 0 else 6
def fillV (n : Int) : Int := if 3 ≤ n ∧ n ≤ 255 then (fillN n.toNat : Int) else 0
theorem laidN_ge (n : Nat) : n + 4 ≤ laidN n ∧ 32 ≤ laidN n ∧ laidN n % 16 = 0 ∧ (n ≤ 255 → laidN n ≤ 272) := by unfold laidN; omega
theorem fill_sum (n : Nat) : 4 + n + fillN n = laidN n := by have := laidN_ge n; unfold fillN; omega
theorem fill_least (n k : Nat) (h : k < fillN n) : (4 + n + k) % 16 ≠ 0 ∨ 4 + n + k < 32 := by unfold fillN laidN at h; omega
/-- what is laid out ahead of locking -/
def lockT (T F : List UInt8) : List UInt8 := UInt8.ofNat T.length :: (xorL (T.take 3) fffL ++ T ++ F)
def lockE (k v t f : Nat) : Int := if wroE k v = 0 then (if fillE t = 0 then (if f = fillN t then 0 else 2) else 6) else wroE k v
def lastB (S : List UInt8) : List UInt8 := S.drop (S.length - 16)
def lockO (K V T F : List UInt8) : List UInt8 := chaL K V (lockT T F)
def lockL (K V T F : List UInt8) : List UInt8 := if lockE K.length V.length T.length F.length = 0 then chaL K (lastB (lockO K V T F)) (lockO K V T F) else []
/-- the way back -/
def unl1 (K T : List UInt8) : List UInt8 := uchL K ((T.drop (T.length - 32)).take 16) (T.drop (T.length - 16))
def unl2 (K V T : List UInt8) : List UInt8 := uchL K V (uchL K (unl1 K T) T)
def unlN (S : List UInt8) : Nat := (S.getD 0 0).toNat
def unlOk (S : List UInt8) : Bool := decide (3 ≤ unlN S ∧ S.length = laidN (unlN S) ∧ (S.drop 1).take 3 = xorL ((S.drop 4).take 3) fffL)
def unlFit (n : Nat) : Bool := decide (n % 16 = 0 ∧ 32 ≤ n ∧ n ≤ 272)
def unlE (K V T : List UInt8) : Int := if wroE K.length V.length = 0 then (if unlFit T.length then (if unlOk (unl2 K V T) then 0 else 8) else 6) else wroE K.length V.length
def unlL (K V T : List UInt8) : List UInt8 := if unlE K V T = 0 then ((unl2 K V T).drop 4).take (unlN (unl2 K V T)) else []
theorem wro_cbg {k v n : Nat} (h : wroE k v = 0) (hm : n % 16 = 0) (hn : n ≤ 70016) : cbgE k v (cfit n) = 0 := by
  rw [cbg_wro, if_pos h, show cfit n = true from decide_eq_true ⟨hm, hn⟩]; rfl
theorem wro_key {k v : Nat} (h : wroE k v = 0) : wroE k 16 = 0 := by
  obtain ⟨hk, hv⟩ := wro_zero h
  rw [wroE, if_pos (keyOk_yes hk), if_pos rfl]
/-- the last block of what is unchained -/
theorem unS_last (K V T : List UInt8) (m : Nat) (hv : V.length = 16) (ht : T.length = 16 * (m + 2)) :
    unS K ((T.drop (16 * m)).take 16) (T.drop (16 * (m + 1))) 1 = (unS K V T (m + 2)).drop (16 * (m + 1)) := by
  have e1 : unS K V T (m + 2) = unS K V T (m + 1) ++ xorL (decL K (blkL T (m + 1))) (pvL V T (m + 1)) := rfl
  have hl : (unS K V T (m + 1)).length = 16 * (m + 1) := unS_length K V T hv _ (by omega)
  have e2 : blkL (T.drop (16 * (m + 1))) 0 = blkL T (m + 1) := by rw [blkL, blkL, Nat.mul_zero, List.drop_zero]
  show [] ++ xorL (decL K (blkL (T.drop (16 * (m + 1))) 0)) ((T.drop (16 * m)).take 16) = _
  rw [e1, List.drop_left' hl, e2, List.nil_append]
  rfl
theorem lockT_length (T F : List UInt8) (h3 : 3 ≤ T.length) : (lockT T F).length = 4 + T.length + F.length := by
  have hx : (xorL (T.take 3) fffL).length = 3 := by
    rw [xorL_len, List.length_take, show fffL.length = 3 from rfl]
    omega
  rw [lockT, List.length_cons, List.length_append, List.length_append, hx]
  omega
theorem lock_zero {k v t f : Nat} (h : lockE k v t f = 0) : wroE k v = 0 ∧ 3 ≤ t ∧ t ≤ 255 ∧ f = fillN t := by
  unfold lockE at h
  split at h
  · rename_i hw
    split at h
    · rename_i hf
      split at h
      · rename_i he
        unfold fillE at hf
        split at hf
        · rename_i hh
          exact ⟨hw, by omega, by omega, he⟩
        · cases hf
      · cases h
    · cases h
  · rename_i hw
    exact absurd h hw
theorem lock_back (K V T F : List UInt8) (h : lockE K.length V.length T.length F.length = 0) : unlE K V (lockL K V T F) = 0 ∧ unlL K V (lockL K V T F) = T := by
  obtain ⟨hw, h3, h255, hf⟩ := lock_zero h
  obtain ⟨hk, hv⟩ := wro_zero hw
  have hg := laidN_ge T.length
  have hs := fill_sum T.length
  have hl : (lockT T F).length = laidN T.length := by rw [lockT_length T F h3, hf]; exact hs
  obtain ⟨m, hm⟩ : ∃ m, laidN T.length = 16 * (m + 2) := ⟨laidN T.length / 16 - 2, by omega⟩
  have h272 := hg.2.2.2 h255
  have hc1 : cbgE K.length V.length (cfit (lockT T F).length) = 0 := wro_cbg hw (by omega) (by omega)
  obtain ⟨hl1, hb1⟩ := chain_back K V (lockT T F) hc1
  obtain ⟨O, hO⟩ : ∃ O, chaL K V (lockT T F) = O := ⟨_, rfl⟩
  rw [hO] at hl1 hb1
  have hol : O.length = 16 * (m + 2) := by rw [hl1, hl, hm]
  have hLl : (lastB O).length = 16 := by rw [lastB, List.length_drop]; omega
  have hc2 : cbgE K.length (lastB O).length (cfit O.length) = 0 := by rw [hLl]; exact wro_cbg (wro_key hw) (by omega) (by omega)
  obtain ⟨hl2, hb2⟩ := chain_back K (lastB O) O hc2
  obtain ⟨Z, hZ⟩ : ∃ Z, chaL K (lastB O) O = Z := ⟨_, rfl⟩
  have hLL : lockL K V T F = Z := by rw [lockL, if_pos h, lockO, hO, hZ]
  rw [hZ] at hl2 hb2
  have hzl : Z.length = 16 * (m + 2) := by rw [hl2, hol]
  have hU : unS K (lastB O) Z (m + 2) = O := by
    have := hb2
    rw [uchL, hzl, if_pos (by rw [hLl]; exact wro_cbg (wro_key hw) (by omega) (by omega)), show 16 * (m + 2) / 16 = m + 2 by omega] at this
    exact this
  have h1 : unl1 K Z = lastB O := by
    have hd1 : ((Z.drop (16 * m)).take 16).length = 16 := by rw [List.length_take, List.length_drop]; omega
    have hd2 : (Z.drop (16 * (m + 1))).length = 16 := by rw [List.length_drop]; omega
    rw [unl1, hzl, show 16 * (m + 2) - 32 = 16 * m by omega, show 16 * (m + 2) - 16 = 16 * (m + 1) by omega, uchL, hd1, hd2, if_pos (wro_cbg (wro_key hw) (by omega) (by omega))]
    rw [show 16 / 16 = 1 from rfl, unS_last K (lastB O) Z m hLl hzl, hU, lastB, hol]
    congr 1
  have h2 : unl2 K V Z = lockT T F := by rw [unl2, h1, hb2, hb1]
  have hx3 : (xorL (T.take 3) fffL).length = 3 := by
    rw [xorL_len, List.length_take, show fffL.length = 3 from rfl]
    omega
  have hn : unlN (lockT T F) = T.length := by
    show (UInt8.ofNat T.length).toNat = _
    rw [UInt8.toNat_ofNat']
    omega
  have hdr4 : (lockT T F).drop 4 = T ++ F := by
    show (xorL (T.take 3) fffL ++ T ++ F).drop 3 = _
    rw [List.append_assoc, List.drop_left' hx3]
  have hok : unlOk (lockT T F) = true := by
    rw [unlOk, decide_eq_true_iff, hn, hl, hdr4]
    refine ⟨h3, rfl, ?_⟩
    show (xorL (T.take 3) fffL ++ T ++ F).take 3 = _
    rw [List.append_assoc, List.take_left' hx3, List.take_append_of_le_length h3]
  have hE : unlE K V Z = 0 := by
    rw [unlE, if_pos hw, h2, hok, if_pos (by rw [unlFit, decide_eq_true_iff, hzl]; omega)]
    rfl
  rw [hLL]
  refine ⟨hE, ?_⟩
  rw [unlL, if_pos hE, h2, hn, hdr4, List.take_left' rfl]
end Go.Proofs.YtjlmmlnldjandaaGreatDoor
