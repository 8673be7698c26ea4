/- A feed of values in memory: a byte between what is read. -/
import Derived.Test.YtilfidcomeandaaJfF
namespace Go.Proofs.Ytilfidcomeandaa
open Go.RowKit
set_option linter.unusedVariables false
set_option linter.unusedSimpArgs false
namespace Jf
open Js
open Dr (Rs Lm has lack)
theorem RO.same {o o' : Out} {n g β : Nat} {L : Lm} {ro : Int} {k : Nat} {w w' : World} {e : Ending} (he : Hid (o' = o)) (h : RO o n g β L ro k w e w') : RO o' n g β L ro k w e w' := by rw [he.out]; exact h
section
variable (w : World) (g β : Nat) (L : Lm) (ro : Int) (s : St) (k : Nat)
set_option maxRecDepth 100000 in
set_option maxHeartbeats 3200000 in
theorem fstep_4 (h : FmS w g β L ro s k) (hsh : s.hand = .none) (p : Nat) (hp : k = p + 1) (hk : k ≤ 262144) (hB : Bd L s) (b : UInt8) (t : Nat) (ht : b.toNat = t) (hnx : s.nx = 4) :
    Calls Try.prog 35 #[.pointer (some ⟨g, 0, none⟩), .int .u8 (t : Int)] w (RO (s.step L b p) s.G.length g β L ro k w) := by
  have hg := h.facts
  have hgb := hg.1
  have hgs := hg.2.1
  obtain ⟨R, hR⟩ : ∃ R, s.step L b p = R := ⟨_, rfl⟩
  rw [hR]
  rw [St.step, hnx] at hR
  replace hR : s.pass (decide (b = 58)) 0 p = R := hR
  have hb := u8lit b t ht
  have c7 : w.cell? ⟨g, 7, none⟩ = some (.int .i64 (4 : Int)) := by obtain ⟨B, vV, vS, vH, a, h4, hn⟩ := h; have h9 := h4.at0.cell 7 _ rfl; rw [Nat.zero_add, hnx] at h9; exact h9
  have h58 : decide (b = 58) = decide (t = 58) := decide_eq_decide.2 (show b = 58 ↔ t = 58 from hb 58 (by decide))
  have h59 : ((t : Int) == 58) = decide (t = 58) := by rw [Bool.eq_iff_iff, beq_iff_eq, decide_eq_true_iff]; omega
  rw [h58] at hR
  generalize decide (t = 58) = r at *
  have CT := Lib.hid (fpass_any w g β L ro s k h p hp hk r 0 0 rfl)
  rw [hR] at CT
  clear h hsh hp hk hB hb ht hnx hg hR h58
  go_enter Try.func35, Try.ntmps35
  go_wp2_with fail
  refine CT.out.mono ?_
  rintro e w4 ⟨rfl, hB4, hF4⟩
  go_wp2_with fail
  first | go_end0 | refine bodyPost_ret (results_none rfl _ _ _) rfl ?_
  exact ⟨rfl, hB4, hF4⟩
set_option maxRecDepth 100000 in
set_option maxHeartbeats 3200000 in
theorem fstep_5 (h : FmS w g β L ro s k) (hsh : s.hand = .none) (p : Nat) (hp : k = p + 1) (hk : k ≤ 262144) (hB : Bd L s) (b : UInt8) (t : Nat) (ht : b.toNat = t) (hnx : s.nx = 5) (hG : s.G ≠ []) :
    Calls Try.prog 35 #[.pointer (some ⟨g, 0, none⟩), .int .u8 (t : Int)] w (RO (s.step L b p) s.G.length g β L ro k w) := by
  have hg := h.facts
  have hgb := hg.1
  have hgs := hg.2.1
  obtain ⟨R, hR⟩ : ∃ R, s.step L b p = R := ⟨_, rfl⟩
  rw [hR]
  rw [St.step, hnx] at hR
  replace hR : s.goOn b p = R := hR
  have hb := u8lit b t ht
  have c7 : w.cell? ⟨g, 7, none⟩ = some (.int .i64 (5 : Int)) := by obtain ⟨B, vV, vS, vH, a, h4, hn⟩ := h; have h9 := h4.at0.cell 7 _ rfl; rw [Nat.zero_add, hnx] at h9; exact h9
  have CT := Lib.hid (fgoOn_any w g β L ro s k h hsh hG hB.hl p hp hk b t ht)
  rw [hR] at CT
  clear h hsh hp hk hB hb ht hnx hg hR hG
  go_enter Try.func35, Try.ntmps35
  go_wp2_with fail
  refine CT.out.mono ?_
  rintro e w4 ⟨rfl, hB4, hF4⟩
  go_wp2_with fail
  first | go_end0 | refine bodyPost_ret (results_none rfl _ _ _) rfl ?_
  exact ⟨rfl, hB4, hF4⟩
set_option maxRecDepth 100000 in
set_option maxHeartbeats 3200000 in
theorem fstep_0 (h : FmS w g β L ro s k) (hsh : s.hand = .none) (p : Nat) (hp : k = p + 1) (hk : k ≤ 262144) (hB : Bd L s) (b : UInt8) (t : Nat) (ht : b.toNat = t) (hnx : s.nx = 0) :
    Calls Try.prog 35 #[.pointer (some ⟨g, 0, none⟩), .int .u8 (t : Int)] w (RO (s.step L b p) s.G.length g β L ro k w) := by
  have hg := h.facts
  have hgb := hg.1
  have hgs := hg.2.1
  obtain ⟨R, hR⟩ : ∃ R, s.step L b p = R := ⟨_, rfl⟩
  rw [hR]
  rw [St.step, hnx] at hR
  replace hR : s.value L b p = R := hR
  have hb := u8lit b t ht
  have c7 : w.cell? ⟨g, 7, none⟩ = some (.int .i64 (0 : Int)) := by obtain ⟨B, vV, vS, vH, a, h4, hn⟩ := h; have h9 := h4.at0.cell 7 _ rfl; rw [Nat.zero_add, hnx] at h9; exact h9
  have CT := Lib.hid (fvalue_any w g β L ro s k h hsh p hp hk hB b t ht)
  rw [hR] at CT
  clear h hsh hp hk hB hb ht hnx hg hR
  go_enter Try.func35, Try.ntmps35
  go_wp2_with fail
  refine CT.out.mono ?_
  rintro e w4 ⟨rfl, hB4, hF4⟩
  go_wp2_with fail
  first | go_end0 | refine bodyPost_ret (results_none rfl _ _ _) rfl ?_
  exact ⟨rfl, hB4, hF4⟩
set_option maxRecDepth 100000 in
set_option maxHeartbeats 3200000 in
theorem fstep_2 (h : FmS w g β L ro s k) (hsh : s.hand = .none) (p : Nat) (hp : k = p + 1) (hk : k ≤ 262144) (hB : Bd L s) (b : UInt8) (t : Nat) (ht : b.toNat = t) (hnx : s.nx = 2) :
    Calls Try.prog 35 #[.pointer (some ⟨g, 0, none⟩), .int .u8 (t : Int)] w (RO (s.step L b p) s.G.length g β L ro k w) := by
  have hg := h.facts
  have hgb := hg.1
  have hgs := hg.2.1
  obtain ⟨R, hR⟩ : ∃ R, s.step L b p = R := ⟨_, rfl⟩
  rw [hR]
  rw [St.step, hnx] at hR
  replace hR : s.name L b p = R := hR
  have hb := u8lit b t ht
  have c7 : w.cell? ⟨g, 7, none⟩ = some (.int .i64 (2 : Int)) := by obtain ⟨B, vV, vS, vH, a, h4, hn⟩ := h; have h9 := h4.at0.cell 7 _ rfl; rw [Nat.zero_add, hnx] at h9; exact h9
  have CT := Lib.hid (fname_any w g β L ro s k h p hp hk hB b t ht)
  rw [hR] at CT
  clear h hsh hp hk hB hb ht hnx hg hR
  go_enter Try.func35, Try.ntmps35
  go_wp2_with fail
  refine CT.out.mono ?_
  rintro e w4 ⟨rfl, hB4, hF4⟩
  go_wp2_with fail
  first | go_end0 | refine bodyPost_ret (results_none rfl _ _ _) rfl ?_
  exact ⟨rfl, hB4, hF4⟩
set_option maxRecDepth 100000 in
set_option maxHeartbeats 3200000 in
theorem fstep_3c (h : FmS w g β L ro s k) (hsh : s.hand = .none) (p : Nat) (hp : k = p + 1) (hk : k ≤ 262144) (hB : Bd L s) (b : UInt8) (t : Nat) (ht : b.toNat = t) (hnx : s.nx = 3) (hG : s.G ≠ []) (hc : t = 125) :
    Calls Try.prog 35 #[.pointer (some ⟨g, 0, none⟩), .int .u8 (t : Int)] w (RO (s.step L b p) s.G.length g β L ro k w) := by
  have hg := h.facts
  have hgb := hg.1
  have hgs := hg.2.1
  obtain ⟨R, hR⟩ : ∃ R, s.step L b p = R := ⟨_, rfl⟩
  rw [hR]
  rw [St.step, hnx] at hR
  replace hR : (if b = 125 then Out.go s.close else s.name L b p) = R := hR
  have hb := u8lit b t ht
  have c7 : w.cell? ⟨g, 7, none⟩ = some (.int .i64 (3 : Int)) := by obtain ⟨B, vV, vS, vH, a, h4, hn⟩ := h; have h9 := h4.at0.cell 7 _ rfl; rw [Nat.zero_add, hnx] at h9; exact h9
  subst hc
  rw [if_pos (show b = 125 from (hb 125 (by decide)).2 rfl)] at hR
  have CL := Lib.hid (fclose_any w g β L ro s k h hsh hG hB.hl)
  have HR : Hid (R = .go s.close) := hR.symm
  clear h hsh hp hk hB hb ht hnx hg hR hG
  go_enter Try.func35, Try.ntmps35
  go_wp2_with fail
  refine CL.out.mono ?_
  rintro e w4 ⟨rfl, hF4, hB4⟩
  go_wp2_with fail
  first | go_end0 | refine bodyPost_ret (results_none rfl _ _ _) rfl ?_
  exact RO.go HR ⟨rfl, hF4, hB4⟩
set_option maxRecDepth 100000 in
set_option maxHeartbeats 3200000 in
theorem fstep_3o (h : FmS w g β L ro s k) (hsh : s.hand = .none) (p : Nat) (hp : k = p + 1) (hk : k ≤ 262144) (hB : Bd L s) (b : UInt8) (t : Nat) (ht : b.toNat = t) (hnx : s.nx = 3) (hc : ¬ t = 125) :
    Calls Try.prog 35 #[.pointer (some ⟨g, 0, none⟩), .int .u8 (t : Int)] w (RO (s.step L b p) s.G.length g β L ro k w) := by
  have hg := h.facts
  have hgb := hg.1
  have hgs := hg.2.1
  obtain ⟨R, hR⟩ : ∃ R, s.step L b p = R := ⟨_, rfl⟩
  rw [hR]
  rw [St.step, hnx] at hR
  replace hR : (if b = 125 then Out.go s.close else s.name L b p) = R := hR
  have hb := u8lit b t ht
  have c7 : w.cell? ⟨g, 7, none⟩ = some (.int .i64 (3 : Int)) := by obtain ⟨B, vV, vS, vH, a, h4, hn⟩ := h; have h9 := h4.at0.cell 7 _ rfl; rw [Nat.zero_add, hnx] at h9; exact h9
  rw [if_neg (show ¬ b = 125 from fun e => hc ((hb 125 (by decide)).1 e))] at hR
  have e5 := eqF (n := t) (c := 125) (by omega)
  have CT := Lib.hid (fname_any w g β L ro s k h p hp hk hB b t ht)
  rw [hR] at CT
  clear h hsh hp hk hB hb ht hnx hg hR hc
  go_enter Try.func35, Try.ntmps35
  go_wp2_with fail
  refine CT.out.mono ?_
  rintro e w4 ⟨rfl, hB4, hF4⟩
  go_wp2_with fail
  first | go_end0 | refine bodyPost_ret (results_none rfl _ _ _) rfl ?_
  exact ⟨rfl, hB4, hF4⟩
set_option maxRecDepth 100000 in
set_option maxHeartbeats 3200000 in
theorem fstep_1c (h : FmS w g β L ro s k) (hsh : s.hand = .none) (p : Nat) (hp : k = p + 1) (hk : k ≤ 262144) (hB : Bd L s) (b : UInt8) (t : Nat) (ht : b.toNat = t) (hnx : s.nx = 1) (hG : s.G ≠ []) (hc : t = 93) :
    Calls Try.prog 35 #[.pointer (some ⟨g, 0, none⟩), .int .u8 (t : Int)] w (RO (s.step L b p) s.G.length g β L ro k w) := by
  have hg := h.facts
  have hgb := hg.1
  have hgs := hg.2.1
  obtain ⟨R, hR⟩ : ∃ R, s.step L b p = R := ⟨_, rfl⟩
  rw [hR]
  rw [St.step, hnx] at hR
  replace hR : (if b = 93 then Out.go s.close else s.value L b p) = R := hR
  have hb := u8lit b t ht
  have c7 : w.cell? ⟨g, 7, none⟩ = some (.int .i64 (1 : Int)) := by obtain ⟨B, vV, vS, vH, a, h4, hn⟩ := h; have h9 := h4.at0.cell 7 _ rfl; rw [Nat.zero_add, hnx] at h9; exact h9
  subst hc
  rw [if_pos (show b = 93 from (hb 93 (by decide)).2 rfl)] at hR
  have CL := Lib.hid (fclose_any w g β L ro s k h hsh hG hB.hl)
  have HR : Hid (R = .go s.close) := hR.symm
  clear h hsh hp hk hB hb ht hnx hg hR hG
  go_enter Try.func35, Try.ntmps35
  go_wp2_with fail
  refine CL.out.mono ?_
  rintro e w4 ⟨rfl, hF4, hB4⟩
  go_wp2_with fail
  first | go_end0 | refine bodyPost_ret (results_none rfl _ _ _) rfl ?_
  exact RO.go HR ⟨rfl, hF4, hB4⟩
set_option maxRecDepth 100000 in
set_option maxHeartbeats 3200000 in
theorem fstep_1o (h : FmS w g β L ro s k) (hsh : s.hand = .none) (p : Nat) (hp : k = p + 1) (hk : k ≤ 262144) (hB : Bd L s) (b : UInt8) (t : Nat) (ht : b.toNat = t) (hnx : s.nx = 1) (hc : ¬ t = 93) :
    Calls Try.prog 35 #[.pointer (some ⟨g, 0, none⟩), .int .u8 (t : Int)] w (RO (s.step L b p) s.G.length g β L ro k w) := by
  have hg := h.facts
  have hgb := hg.1
  have hgs := hg.2.1
  obtain ⟨R, hR⟩ : ∃ R, s.step L b p = R := ⟨_, rfl⟩
  rw [hR]
  rw [St.step, hnx] at hR
  replace hR : (if b = 93 then Out.go s.close else s.value L b p) = R := hR
  have hb := u8lit b t ht
  have c7 : w.cell? ⟨g, 7, none⟩ = some (.int .i64 (1 : Int)) := by obtain ⟨B, vV, vS, vH, a, h4, hn⟩ := h; have h9 := h4.at0.cell 7 _ rfl; rw [Nat.zero_add, hnx] at h9; exact h9
  rw [if_neg (show ¬ b = 93 from fun e => hc ((hb 93 (by decide)).1 e))] at hR
  have e5 := eqF (n := t) (c := 93) (by omega)
  have CT := Lib.hid (fvalue_any w g β L ro s k h hsh p hp hk hB b t ht)
  rw [hR] at CT
  clear h hsh hp hk hB hb ht hnx hg hR hc
  go_enter Try.func35, Try.ntmps35
  go_wp2_with fail
  refine CT.out.mono ?_
  rintro e w4 ⟨rfl, hB4, hF4⟩
  go_wp2_with fail
  first | go_end0 | refine bodyPost_ret (results_none rfl _ _ _) rfl ?_
  exact ⟨rfl, hB4, hF4⟩
set_option maxRecDepth 100000 in
set_option maxHeartbeats 3200000 in
theorem fstep_6 (h : FmS w g β L ro s k) (hsh : s.hand = .none) (p : Nat) (hp : k = p + 1) (hk : k ≤ 262144) (hB : Bd L s) (b : UInt8) (t : Nat) (ht : b.toNat = t) (hnx : s.nx = 6) :
    Calls Try.prog 35 #[.pointer (some ⟨g, 0, none⟩), .int .u8 (t : Int)] w (RO (s.step L b p) s.G.length g β L ro k w) := by
  have hg := h.facts
  have hgb := hg.1
  have hgs := hg.2.1
  obtain ⟨R, hR⟩ : ∃ R, s.step L b p = R := ⟨_, rfl⟩
  rw [hR]
  rw [St.step, hnx] at hR
  replace hR : Out.fl 9 p = R := hR
  have hb := u8lit b t ht
  have c7 : w.cell? ⟨g, 7, none⟩ = some (.int .i64 (6 : Int)) := by obtain ⟨B, vV, vS, vH, a, h4, hn⟩ := h; have h9 := h4.at0.cell 7 _ rfl; rw [Nat.zero_add, hnx] at h9; exact h9
  have WR := Lib.hid (fwrong_any w g β L ro s k h p hp hk)
  have HR : Hid (R = .fl 9 p) := hR.symm
  clear h hsh hp hk hB hb ht hnx hg hR
  go_enter Try.func35, Try.ntmps35
  go_wp2_with fail
  refine WR.out.mono ?_
  rintro e w4 ⟨rfl, hF4, hB4⟩
  go_wp2_with fail
  first | go_end0 | refine bodyPost_ret (results_none rfl _ _ _) rfl ?_
  exact RO.fl HR ⟨rfl, hF4, hB4⟩
theorem fstep_any (h : FmS w g β L ro s k) (hsh : s.hand = .none) (hnx : nxOk s.G s.nx) (p : Nat) (hp : k = p + 1) (hk : k ≤ 262144) (hB : Bd L s) (b : UInt8) (t : Nat) (ht : b.toNat = t) :
    Calls Try.prog 35 #[.pointer (some ⟨g, 0, none⟩), .int .u8 (t : Int)] w (RO (s.step L b p) s.G.length g β L ro k w) := by
  rcases hnx with h0 | ⟨h0, hA⟩ | ⟨h0, hO⟩ | ⟨h0, hG⟩ | ⟨h0, hG⟩
  · exact fstep_0 w g β L ro s k h hsh p hp hk hB b t ht h0
  · by_cases hc : t = 93
    · exact fstep_1c w g β L ro s k h hsh p hp hk hB b t ht h0 (arr_ne hA) hc
    · exact fstep_1o w g β L ro s k h hsh p hp hk hB b t ht h0 hc
  · rcases h0 with h0 | h0 | h0
    · exact fstep_2 w g β L ro s k h hsh p hp hk hB b t ht h0
    · by_cases hc : t = 125
      · exact fstep_3c w g β L ro s k h hsh p hp hk hB b t ht h0 (obj_ne hO) hc
      · exact fstep_3o w g β L ro s k h hsh p hp hk hB b t ht h0 hc
    · exact fstep_4 w g β L ro s k h hsh p hp hk hB b t ht h0
  · exact fstep_5 w g β L ro s k h hsh p hp hk hB b t ht h0 hG
  · exact fstep_6 w g β L ro s k h hsh p hp hk hB b t ht h0
end
end Jf
end Go.Proofs.Ytilfidcomeandaa
