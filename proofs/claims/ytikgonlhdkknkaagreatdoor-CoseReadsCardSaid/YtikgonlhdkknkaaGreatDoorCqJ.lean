import Derived.Test.YtikgonlhdkknkaaGreatDoorCtC
import Derived.Test.YtikgonlhdkknkaaGreatDoorCqT
set_option maxRecDepth 100000
set_option maxHeartbeats 1600000
set_option linter.unusedVariables false
set_option linter.unusedSimpArgs false
namespace Go.Proofs.YtikgonlhdkknkaaGreatDoor
open Go.RowKit
namespace Co
open Dr (Rs Lm has lack at0S)
theorem rright_any (k : Int) (num : Nat) (s : ByteArray) (l : List UInt8) (hl : s.toList = l) (hz : s.size ≤ 140737488351232) (w : World) :
  Calls Tryz.prog 93 #[.agg #[.int .i64 k, .int .u64 (num : Int), .string s]] w (RetBb (rightR Lib.validD ⟨k, num, l⟩) w) := by
 subst hl
 obtain ⟨R, hR⟩ : ∃ R, rightR Lib.validD ⟨k, num, s.toList⟩ = R := ⟨_, rfl⟩
 rw [hR]
 rw [rightR, nil_emp] at hR
 dsimp only at hR
 have hB := (Below.refl w.heap.size w).alloc (nle _) (Obj.cells #[Value.int .i64 k, Value.int .u64 (num : Int), Value.string s] 60)
 have VA := Lib.hid (fun w => text_any s w hz)
 have HB := Lib.hid hB
 have hsz : w.heap.size ≤ (w.alloc (Obj.cells #[Value.int .i64 k, Value.int .u64 (num : Int), Value.string s] 60)).heap.size := by simp
 have HSZ := Lib.hid hsz
 clear hB hz hsz
 by_cases h1 : k = 0 ∨ k = 1 ∨ k = 4 ∨ k = 5 ∨ k = 6
 ·rw [if_pos h1] at hR
  subst hR
  rcases h1 with rfl | rfl | rfl | rfl | rfl
  all_goals
   clear VA
   go_enter Tryz.func93, Tryz.ntmps93
   go_wp2_with fail
   go_ret
   exact ⟨rfl, HB.out⟩
 ·rw [if_neg h1] at hR
  have e0 : (k == 0) = false := by rw [beq_eq_false_iff_ne]; omega
  have e1 : (k == 1) = false := by rw [beq_eq_false_iff_ne]; omega
  have e4 : (k == 4) = false := by rw [beq_eq_false_iff_ne]; omega
  have e5 : (k == 5) = false := by rw [beq_eq_false_iff_ne]; omega
  have e6 : (k == 6) = false := by rw [beq_eq_false_iff_ne]; omega
  by_cases h2 : k = 2
  ·rw [if_pos h2] at hR
   have hR2 : ((num : Int) == 0) = R := by
    rw [← hR]
    cases hq : (num == 0)
    ·rw [beq_eq_false_iff_ne] at hq ⊢; omega
    ·rw [beq_iff_eq] at hq ⊢; omega
   subst h2
   clear VA hR h1 e0 e1 e4 e5 e6
   go_enter Tryz.func93, Tryz.ntmps93
   go_wp2_with fail
   go_ret
   exact ⟨by rw [← hR2]; first | rfl | simp, HB.out⟩
  ·rw [if_neg h2] at hR
   have e2 : (k == 2) = false := by rw [beq_eq_false_iff_ne]; omega
   by_cases h3 : k = 3
   ·rw [if_pos h3] at hR
    subst h3
    by_cases hn : num = 0
    ·subst hn
     have hR2 : Lib.validD s.toList = R := by rw [← hR]; rfl
     rw [hR2] at VA
     clear hR h1 e0 e1 e4 e5 e6 e2
     go_enter Tryz.func93, Tryz.ntmps93
     go_wp2_with (first | (go_at_call 88; refine (VA.out _).mono ?_; rintro e w5 ⟨rfl, hb5⟩))
     go_ret
     exact ⟨rfl, HB.out.trans (hb5.mono HSZ.out)⟩
    ·have e9 : ((num : Int) == 0) = false := by rw [beq_eq_false_iff_ne]; omega
     have hR2 : R = false := by
      rw [← hR]
      have : (num == 0) = false := by rw [beq_eq_false_iff_ne]; exact hn
      rw [this]
      rfl
     subst hR2
     clear hR h1 e0 e1 e4 e5 e6 e2 VA hn
     go_enter Tryz.func93, Tryz.ntmps93
     go_wp2_with fail
     go_ret
     exact ⟨rfl, HB.out⟩
   ·rw [if_neg h3] at hR
    have e3 : (k == 3) = false := by rw [beq_eq_false_iff_ne]; omega
    by_cases h7 : k = 7
    ·rw [if_pos h7] at hR
     subst h7
     cases hs : s.toList.isEmpty with
     | false =>
      have hR2 : R = false := by rw [← hR, hs]; rfl
      subst hR2
      clear hR h1 e0 e1 e4 e5 e6 e2 e3 VA
      go_enter Tryz.func93, Tryz.ntmps93
      go_wp2_with fail
      go_ret
      exact ⟨rfl, HB.out⟩
     | true =>
      by_cases h20 : 20 ≤ num
      ·have e20 : (20 : Int) ≤ (num : Int) := by omega
       have e20b : decide ((20 : Int) ≤ (num : Int)) = true := dtr e20
       have hR2 : decide ((num : Int) ≤ 23) = R := by
        rw [← hR, hs, Bool.true_and]
        exact decide_eq_decide.2 (by omega)
       clear hR h1 e0 e1 e4 e5 e6 e2 e3 VA h20
       go_enter Tryz.func93, Tryz.ntmps93
       go_wp2_with fail
       go_ret
       exact ⟨by rw [← hR2]; first | rfl | simp, HB.out⟩
      ·have e20 : ¬ (20 : Int) ≤ (num : Int) := by omega
       have e20b : decide ((20 : Int) ≤ (num : Int)) = false := dfa e20
       have hR2 : R = false := by rw [← hR, hs, Bool.true_and]; exact dfa (by omega)
       subst hR2
       clear hR h1 e0 e1 e4 e5 e6 e2 e3 VA h20
       go_enter Tryz.func93, Tryz.ntmps93
       go_wp2_with fail
       go_ret
       exact ⟨rfl, HB.out⟩
    ·rw [if_neg h7] at hR
     subst hR
     have e7 : (k == 7) = false := by rw [beq_eq_false_iff_ne]; omega
     clear h1 h2 h3 h7 VA
     go_enter Tryz.func93, Tryz.ntmps93
     go_wp2_with fail
     go_ret
     exact ⟨rfl, HB.out⟩
end Co
end Go.Proofs.YtikgonlhdkknkaaGreatDoor
