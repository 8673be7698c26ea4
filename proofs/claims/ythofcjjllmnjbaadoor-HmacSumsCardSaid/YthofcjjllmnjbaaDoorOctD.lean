/- The contracts of Get and Put, the program's and the document's. -/
import Derived.Test.YthofcjjllmnjbaaDoorOctC
import Derived.Test.YthofcjjllmnjbaaDoorOctP
namespace Go.Proofs.YthofcjjllmnjbaaDoor
open Go.RowKit
set_option linter.unusedVariables false
set_option linter.unusedSimpArgs false

set_option maxRecDepth 100000 in
theorem rget_no (s : ByteArray) (w : World) (h : s.size < 1 ∨ 8 < s.size) (hs : s.size ≤ maxLen) : Calls Tryd.prog 65 #[.string s] w (RetNE (getN s.toList) (getE s.toList) w) := by
  unfold maxLen at hs
  have hn : getOk s.toList = false := by simp [getOk, tl_size]; omega
  have H1 := Lib.hid hn; clear hn
  rcases h with h | h
  all_goals
    go_enter Tryd.func65, Tryd.ntmps65
    go_wp2
    go_ret2
    exact ret_ne (n := 0) rfl (by rw [getN, H1.out]; rfl) (by rw [getE, H1.out]; rfl)
set_option maxRecDepth 100000 in
set_option maxHeartbeats 400000 in
theorem rget_ok (s : ByteArray) (w : World) (h1 : 1 ≤ s.size) (h8 : s.size ≤ 8) :
    Calls Tryd.prog 65 #[.string s] w (RetNE (getN s.toList) (getE s.toList) w) := by
  have hn : getOk s.toList = true := by simp [getOk, tl_size]; omega
  have H1 := Lib.hid hn; clear hn
  go_enter Tryd.func65, Tryd.ntmps65
  go_wp2
  go_loop [4, 5] (fun n i => ∃ k x : Nat, k ≤ s.size ∧ i = .int .i64 k ∧ n = .int .u64 (x : Int) ∧ x = ofBe (s.toList.take k)) (fun n i => s.size - (intOf i).toNat)
  case atStart => exact ⟨0, 0, Nat.zero_le _, rfl, rfl, rfl⟩
  case round =>
    obtain ⟨k, x, hk, rfl, rfl, hx⟩ := hrel
    have HX := Lib.hid hx; clear hx
    by_cases hlt : k < s.size
    · have hs := s[k].toNat_lt
      have hb : x < 72057594037927936 := by rw [HX.out]; exact ofBe_lt7 _ _ (by omega)
      go_wp2
      go_round
      case rel => exact ⟨k + 1, x * 256 + s[k].toNat, by omega, by go_num, by go_num, by rw [ofBe_take _ k _ (tl_get s k hlt), ← HX.out]⟩
      case measure => simp [intOf]; omega
    · go_wp2
      go_ret2
      exact ret_ne rfl (by rw [getN, H1.out, HX.out, List.take_of_length_le (by rw [tl_size]; omega)]; rfl) (by rw [getE, H1.out]; rfl)
theorem rget_any (s : ByteArray) (w : World) (hs : s.size ≤ maxLen) : Calls Tryd.prog 65 #[.string s] w (RetNE (getN s.toList) (getE s.toList) w) := by
  by_cases h : 1 ≤ s.size ∧ s.size ≤ 8
  · exact rget_ok s w h.1 h.2
  · exact rget_no s w (by omega) hs
end Go.Proofs.YthofcjjllmnjbaaDoor
