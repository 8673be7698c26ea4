/- The contracts of may, grown and Next, the program's and the document's. -/
import Derived.Test.YthaajaajhddhdaaCtrP
import Derived.Test.YthaajaajhddhdaaOctF
import Derived.Test.YthaajaajhddhdaaAesLb
namespace Go.Proofs.Ythaajaajhddhdaa
open Go.RowKit
set_option linter.unusedVariables false
set_option linter.unusedSimpArgs false
theorem below_of_drew {w w' : World} (h : Below w.drew.heap.size w.drew w') : Below w.heap.size w w' := ⟨h.os, h.tape, h.output, h.size, h.block⟩
def RetI64 (c : Int) (w : World) (e : Ending) (w' : World) : Prop := e = .returned (.int .i64 c) ∧ w = w'
set_option maxRecDepth 100000 in
theorem may_any (s : ByteArray) (wd : Int) (w : World) : Calls Try.prog 41 #[.string s, .int .i64 wd] w (RetI64 (mayE s.size wd) w) := by
  by_cases hs : s.size = 16
  · have e1 : ((s.size : Int) != 16) = false := by rw [bne_eq_false_iff_eq]; omega
    by_cases h1 : wd < 1
    · have hE : mayE s.size wd = 2 := by rw [mayE, if_pos hs, if_pos (.inl h1)]
      rw [hE]
      clear hs hE
      go_enter Try.func41, Try.ntmps41
      go_wp2
      go_ret
      exact ⟨rfl, rfl⟩
    · by_cases h2 : 16 < wd
      · have hE : mayE s.size wd = 2 := by rw [mayE, if_pos hs, if_pos (.inr h2)]
        rw [hE]
        clear hs hE
        go_enter Try.func41, Try.ntmps41
        go_wp2
        go_ret
        exact ⟨rfl, rfl⟩
      · have hE : mayE s.size wd = 0 := by rw [mayE, if_pos hs, if_neg (by omega)]
        rw [hE]
        clear hs hE
        go_enter Try.func41, Try.ntmps41
        go_wp2
        go_ret
        exact ⟨rfl, rfl⟩
  · have e1 : ((s.size : Int) != 16) = true := by rw [bne_iff_ne]; omega
    have hE : mayE s.size wd = 4 := by rw [mayE, if_neg hs]
    rw [hE]
    clear hs hE
    go_enter Try.func41, Try.ntmps41
    go_wp2
    go_ret
    exact ⟨rfl, rfl⟩
set_option maxRecDepth 100000 in
set_option maxHeartbeats 800000 in
theorem grown_any (s : ByteArray) (wd n : Nat) (w : World) (hs : s.size = 16) (h1 : 1 ≤ wd) (h16 : wd ≤ 16) (hn : n < 2 ^ 64) : Calls Try.prog 57 #[.string s, .int .i64 (wd : Int), .int .u64 (n : Int)] w (RetS (nxt s.toList wd n) w) := by
  obtain ⟨k, hk⟩ : ∃ k : Nat, k = 16 - wd := ⟨_, rfl⟩
  have hk1 : (16 : Int) - (wd : Int) = (k : Int) := by omega
  have hk2 : IntKind.i64.wrap (k : Int) = (k : Int) := wrap_in _ (by omega) (by omega)
  have hks : k ≤ s.size := by omega
  have hksI : (k : Int) ≤ (s.size : Int) := by omega
  have hk0 : (0 : Int) ≤ (k : Int) := by omega
  have hss : s.size ≤ s.size := Nat.le_refl _
  have hex : (s.extract k s.size).size ≤ 140737488351232 := by rw [← tl_size, tl_extE _ _ _ rfl, List.length_drop, tl_size]; omega
  have HK := Lib.hid hk
  have HS := Lib.hid hs
  have HEX := Lib.hid hex
  clear hk hs hex h1 h16
  go_enter Try.func57, Try.ntmps57
  go_wp2_with fail
  go_region_held3 (fun _ => True) (trivial) (first | (go_at_call 72; refine (oadd_any _ n _ HEX.out hn).mono ?_; rintro e w1 ⟨t, rfl, ht, hb⟩; have hcat : ¬ 9223372036854775807 < k + t.size := by rw [← tl_size t, ht, oaddL_length, tl_size]; have := HEX.out; omega))
  all_goals
    go_wp2_with fail
    go_ret
    refine ⟨_, rfl, ?_, below_of_drew hb⟩
    rw [tl_append, tl_ext0, ht, tl_extE _ _ _ rfl, nxt, ← HK.out]
/-- what Next answers -/
def nextL (S : List UInt8) (wd : Int) (n : Nat) : List UInt8 := if mayE S.length wd = 0 then nxt S wd.toNat n else []
theorem may_zero {n : Nat} {wd : Int} (h : mayE n wd = 0) : n = 16 ∧ 1 ≤ wd ∧ wd ≤ 16 := by
  unfold mayE at h
  split at h
  · rename_i h16
    split at h
    · cases h
    · rename_i h2; exact ⟨h16, by omega⟩
  · cases h
end Go.Proofs.Ythaajaajhddhdaa
