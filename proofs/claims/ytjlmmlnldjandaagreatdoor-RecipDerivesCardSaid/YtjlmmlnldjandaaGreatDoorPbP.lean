/- Plain words for keys of passwords. -/
import Derived.Test.YtjlmmlnldjandaaGreatDoorHmX
import Derived.Test.YtjlmmlnldjandaaGreatDoorOctX
namespace Go.Proofs.YtjlmmlnldjandaaGreatDoor
open Go.RowKit
set_option linter.unusedVariables false
set_option linter.unusedSimpArgs false
namespace Pb
/-- behind k rounds: the last digest, and all of them joined -/
def st (kind : Int) (K T : List UInt8) : Nat → List UInt8 × List UInt8
  | 0 => (T, [])
  | k + 1 => (Hm.mac kind K (st kind K T k).1, if k = 0 then Hm.mac kind K (st kind K T k).1 else xorL (st kind K T k).2 (Hm.mac kind K (st kind K T k).1))
/-- so many blocks -/
def out (kind : Int) (K S : List UInt8) (r : Nat) : Nat → List UInt8
  | 0 => []
  | j + 1 => out kind K S r j ++ (st kind K (S ++ putL (j + 1) 4) r).2
theorem st_len (kind : Int) (hk : Sh.known kind = true) (K T : List UInt8) : ∀ k, (st kind K T (k + 1)).1.length = Sh.outN kind ∧ (st kind K T (k + 1)).2.length = Sh.outN kind
  | 0 => by
    refine ⟨?_, ?_⟩
    · show (Hm.mac kind K T).length = _
      rw [Hm.mac, sh_len kind hk]
    · show (Hm.mac kind K T).length = _
      rw [Hm.mac, sh_len kind hk]
  | k + 1 => by
    have h := st_len kind hk K T k
    refine ⟨?_, ?_⟩
    · show (Hm.mac kind K (st kind K T (k + 1)).1).length = _
      rw [Hm.mac, sh_len kind hk]
    · show (if k + 1 = 0 then Hm.mac kind K (st kind K T (k + 1)).1 else xorL (st kind K T (k + 1)).2 (Hm.mac kind K (st kind K T (k + 1)).1)).length = _
      rw [if_neg (by omega), xorL_len, h.2, Hm.mac, sh_len kind hk, Nat.min_self]
theorem st_le (kind : Int) (hk : Sh.known kind = true) (K T : List UInt8) (k : Nat) : (st kind K T k).2.length ≤ 64 ∧ (st kind K T k).1.length ≤ T.length + 64 := by
  cases k with
  | zero => exact ⟨Nat.zero_le _, Nat.le_add_right _ _⟩
  | succ k =>
    have h := st_len kind hk K T k
    have hb := size_known kind hk
    have h6 := kb_or hb.1
    have h7 := hb.2.2.2.1
    omega
theorem out_len (kind : Int) (hk : Sh.known kind = true) (K S : List UInt8) (r : Nat) (hr : 0 < r) : ∀ j, (out kind K S r j).length = j * Sh.outN kind
  | 0 => by rw [Nat.zero_mul]; rfl
  | j + 1 => by
    obtain ⟨k, rfl⟩ : ∃ k, r = k + 1 := ⟨r - 1, by omega⟩
    rw [out, List.length_append, out_len kind hk K S _ hr j, (st_len kind hk K _ k).2, Nat.succ_mul]
theorem out_more (kind : Int) (K S : List UInt8) (r j : Nat) : ∀ d, ∃ X, out kind K S r (j + d) = out kind K S r j ++ X
  | 0 => ⟨[], (List.append_nil _).symm⟩
  | d + 1 => by
    obtain ⟨X, h⟩ := out_more kind K S r j d
    exact ⟨X ++ (st kind K (S ++ putL (j + d + 1) 4) r).2, by rw [← Nat.add_assoc, out, h, List.append_assoc]⟩
/-- the key -/
def key (kind : Int) (K S : List UInt8) (r n : Nat) : List UInt8 := (out kind K S r 8).take n
theorem key_of (kind : Int) (K S : List UInt8) (r n j : Nat) (hj : j ≤ 8) (hn : n ≤ (out kind K S r j).length) : (out kind K S r j).take n = key kind K S r n := by
  obtain ⟨X, h⟩ := out_more kind K S r j (8 - j)
  rw [show j + (8 - j) = 8 by omega] at h
  rw [key, h, List.take_append_of_le_length hn]
theorem outN_ge (kind : Int) (hk : Sh.known kind = true) : 32 ≤ Sh.outN kind ∧ Sh.outN kind ≤ 64 := by
  rcases known_ways kind with rfl | rfl | rfl | ⟨hk2, _⟩
  · exact ⟨by decide, by decide⟩
  · exact ⟨by decide, by decide⟩
  · exact ⟨by decide, by decide⟩
  · rw [hk] at hk2
    cases hk2
theorem key_len (kind : Int) (hk : Sh.known kind = true) (K S : List UInt8) (r n : Nat) (hr : 0 < r) (hn : n ≤ 256) : (key kind K S r n).length = n := by
  have := outN_ge kind hk
  rw [key, List.length_take, out_len kind hk K S r hr]
  omega
theorem key_begin (kind : Int) (K S : List UInt8) (r n m : Nat) (h : n ≤ m) : (key kind K S r m).take n = key kind K S r n := by
  rw [key, key, List.take_take, Nat.min_eq_left h]
/-- what may not be asked -/
def err (kind : Int) (s : Nat) (r n : Int) : Int := if Sh.known kind = false then 11 else if r < 1 ∨ n < 1 ∨ 256 < n then 2 else if 4096 < r then 14 else if 1024 < s then 4 else 0
def keyT (kind : Int) (K S : List UInt8) (r n : Int) : List UInt8 := if err kind S.length r n = 0 then key kind K S r.toNat n.toNat else []
theorem err_zero (kind : Int) (s : Nat) (r n : Int) (h : err kind s r n = 0) : Sh.known kind = true ∧ 1 ≤ r ∧ r ≤ 4096 ∧ 1 ≤ n ∧ n ≤ 256 ∧ s ≤ 1024 := by
  unfold err at h
  split at h
  · cases h
  · rename_i hk
    split at h
    · cases h
    · split at h
      · cases h
      · split at h
        · cases h
        · refine ⟨by simpa using hk, ?_⟩
          omega
theorem keyT_len (kind : Int) (K S : List UInt8) (r n : Int) (h : err kind S.length r n = 0) : (keyT kind K S r n).length = n.toNat := by
  obtain ⟨hk, h1, h2, h3, h4, _⟩ := err_zero _ _ _ _ h
  rw [keyT, if_pos h, key_len kind hk _ _ _ _ (by omega) (by omega)]
end Pb
end Go.Proofs.YtjlmmlnldjandaaGreatDoor
