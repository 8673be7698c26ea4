/- A feed of values in memory: a value begins. -/
import Derived.Test.YtilfidcomeandaaJfE
namespace Go.Proofs.Ytilfidcomeandaa
open Go.RowKit
set_option linter.unusedVariables false
set_option linter.unusedSimpArgs false
namespace Jf
open Js
open Dr (Rs Lm has lack)
theorem digit3 (t : Nat) : (48 ≤ t ∧ t ≤ 57) ∨ t < 48 ∨ 57 < t := by omega
theorem nextN0 (b : UInt8) (t : Nat) (ht : b.toNat = t) : nextN 0 b = if t = 45 then some 1 else if t = 48 then some 2 else if 48 ≤ t ∧ t ≤ 57 then some 3 else none := by
  have h45 := u8lit b t ht 45 (by decide)
  have h48 := u8lit b t ht 48 (by decide)
  have hd : isDigit b = decide (48 ≤ t ∧ t ≤ 57) := by rw [isDigit, ht]
  show (if b = 45 then some 1 else if b = 48 then some 2 else if isDigit b = true then some 3 else none) = _
  rw [hd]
  by_cases e1 : t = 45
  · rw [if_pos (show b = 45 from h45.2 e1), if_pos e1]
  rw [if_neg (show ¬ b = 45 from fun e => e1 (h45.1 e)), if_neg e1]
  by_cases e2 : t = 48
  · rw [if_pos (show b = 48 from h48.2 e2), if_pos e2]
  rw [if_neg (show ¬ b = 48 from fun e => e2 (h48.1 e)), if_neg e2]
  by_cases e3 : 48 ≤ t ∧ t ≤ 57
  · rw [if_pos (decide_eq_true e3), if_pos e3]
  · rw [if_neg (by rw [decide_eq_false e3]; decide), if_neg e3]
theorem nextN0_some (b : UInt8) (t : Nat) (ht : b.toNat = t) (h : t = 45 ∨ (48 ≤ t ∧ t ≤ 57)) : ∃ y, nextN 0 b = some y := by
  rw [nextN0 b t ht]
  by_cases e1 : t = 45
  · rw [if_pos e1]; exact ⟨_, rfl⟩
  rw [if_neg e1]
  by_cases e2 : t = 48
  · rw [if_pos e2]; exact ⟨_, rfl⟩
  rw [if_neg e2, if_pos (by omega)]
  exact ⟨_, rfl⟩
section
variable (w : World) (g β : Nat) (L : Lm) (ro : Int) (s : St) (k : Nat)
theorem FmB.drewN {w : World} {g β : Nat} {L : Lm} {ro : Int} {s : St} {k : Nat} {B : List (Option Nat)} (h : FmB w g β L ro s k B) (n : Nat) : FmB (w.drewN n) g β L ro s k B := by
  obtain ⟨vV, vS, vH, a, h4, hn⟩ := h
  exact ⟨vV, vS, vH, a, h4.drewN n, hn⟩
set_option maxRecDepth 100000 in
set_option maxHeartbeats 3200000 in
theorem fvalue_str (h : FmS w g β L ro s k) (p : Nat) (hp : k = p + 1) (hk : k ≤ 262144) (hB : Bd L s) (b : UInt8) (t : Nat) (ht : b.toNat = t) (hc : t = 34) :
    Calls Try.prog 55 #[.pointer (some ⟨g, 0, none⟩), .int .u8 (t : Int)] w (RO (s.value L b p) s.G.length g β L ro k w) := by
  have hg := h.facts
  have hgb := hg.1
  have hgs := hg.2.1
  obtain ⟨R, hR⟩ : ∃ R, s.value L b p = R := ⟨_, rfl⟩
  rw [hR]
  rw [St.value] at hR
  have hb := u8lit b t ht
  subst hc
  rw [if_pos (show b = 34 from (hb 34 (by decide)).2 rfl)] at hR
  obtain ⟨B, h4⟩ := h
  have HS := h4.alloc freshS
  have BE := Lib.hid (fbegin_any _ g β L ro s k B HS 4 (.str s0) _ (hand_newS w β hg.2.2) (by simp) p hp hk hB.hL hB.hl hB.hkd)
  have HBX : Hid (Bx g β w (w.alloc freshS)) := (Bx.refl' g β w).alloc hg.2.2 _
  rw [hR] at BE
  clear h4 HS hg hR hb ht hp hk hB
  go_enter Try.func55, Try.ntmps55
  go_wp2_with fail
  refine BE.out.mono ?_
  rintro e w4 ⟨rfl, hB4, hF4⟩
  go_wp2_with fail
  first | go_end0 | refine bodyPost_ret (results_none rfl _ _ _) rfl ?_
  exact ⟨rfl, HBX.out.trans hB4.out, hF4⟩
set_option maxRecDepth 100000 in
set_option maxHeartbeats 3200000 in
theorem fvalue_obj (h : FmS w g β L ro s k) (p : Nat) (hp : k = p + 1) (hk : k ≤ 262144) (hB : Bd L s) (b : UInt8) (t : Nat) (ht : b.toNat = t) (hc : t = 123) :
    Calls Try.prog 55 #[.pointer (some ⟨g, 0, none⟩), .int .u8 (t : Int)] w (RO (s.value L b p) s.G.length g β L ro k w) := by
  have hg := h.facts
  have hgb := hg.1
  have hgs := hg.2.1
  obtain ⟨R, hR⟩ : ∃ R, s.value L b p = R := ⟨_, rfl⟩
  rw [hR]
  rw [St.value] at hR
  have hb := u8lit b t ht
  subst hc
  rw [if_neg (show ¬ b = 34 from fun e => absurd ((hb 34 (by decide)).1 e) (by omega))] at hR
  rw [if_pos (show b = 123 from (hb 123 (by decide)).2 rfl)] at hR
  obtain ⟨B, h4⟩ := h
  have HS := h4.alloc (.map #[] 0)
  have HO := Lib.hid (fhold_any _ g β L ro s k B HS (some []) (some w.heap.size) (.inr ⟨rfl, w.heap.size, rfl, NamesM.made w, hg.2.2, h4.new⟩) 6 3 rfl rfl p hp hk hB.hL hB.hl hB.hkd)
  have HBX : Hid (Bx g β w (w.alloc (.map #[] 0))) := (Bx.refl' g β w).alloc hg.2.2 _
  have hmm := @run_makeMap Try.prog
  rw [hR] at HO
  clear h4 HS hg hR hb ht hp hk hB
  go_enter Try.func55, Try.ntmps55
  go_wp2_with fail
  refine HO.out.mono ?_
  rintro e w4 ⟨rfl, hB4, hF4⟩
  go_wp2_with fail
  first | go_end0 | refine bodyPost_ret (results_none rfl _ _ _) rfl ?_
  exact ⟨rfl, HBX.out.trans hB4.out, hF4⟩
set_option maxRecDepth 100000 in
set_option maxHeartbeats 3200000 in
theorem fvalue_arr (h : FmS w g β L ro s k) (p : Nat) (hp : k = p + 1) (hk : k ≤ 262144) (hB : Bd L s) (b : UInt8) (t : Nat) (ht : b.toNat = t) (hc : t = 91) :
    Calls Try.prog 55 #[.pointer (some ⟨g, 0, none⟩), .int .u8 (t : Int)] w (RO (s.value L b p) s.G.length g β L ro k w) := by
  have hg := h.facts
  have hgb := hg.1
  have hgs := hg.2.1
  obtain ⟨R, hR⟩ : ∃ R, s.value L b p = R := ⟨_, rfl⟩
  rw [hR]
  rw [St.value] at hR
  have hb := u8lit b t ht
  subst hc
  rw [if_neg (show ¬ b = 34 from fun e => absurd ((hb 34 (by decide)).1 e) (by omega))] at hR
  rw [if_neg (show ¬ b = 123 from fun e => absurd ((hb 123 (by decide)).1 e) (by omega))] at hR
  rw [if_pos (show b = 91 from (hb 91 (by decide)).2 rfl)] at hR
  obtain ⟨B, h4⟩ := h
  have HO := Lib.hid (fhold_any _ g β L ro s k B h4 none none (.inl ⟨rfl, rfl⟩) 5 1 rfl rfl p hp hk hB.hL hB.hl hB.hkd)
  rw [hR] at HO
  clear h4 hg hR hb ht hp hk hB
  go_enter Try.func55, Try.ntmps55
  go_wp2_with fail
  refine HO.out.mono ?_
  rintro e w4 ⟨rfl, hB4, hF4⟩
  go_wp2_with fail
  first | go_end0 | refine bodyPost_ret (results_none rfl _ _ _) rfl ?_
  exact ⟨rfl, hB4, hF4⟩
set_option maxRecDepth 100000 in
set_option maxHeartbeats 3200000 in
theorem fvalue_w116 (h : FmS w g β L ro s k) (p : Nat) (hp : k = p + 1) (hk : k ≤ 262144) (hB : Bd L s) (b : UInt8) (t : Nat) (ht : b.toNat = t) (hc : t = 116) :
    Calls Try.prog 55 #[.pointer (some ⟨g, 0, none⟩), .int .u8 (t : Int)] w (RO (s.value L b p) s.G.length g β L ro k w) := by
  have hg := h.facts
  have hgb := hg.1
  have hgs := hg.2.1
  obtain ⟨R, hR⟩ : ∃ R, s.value L b p = R := ⟨_, rfl⟩
  rw [hR]
  rw [St.value] at hR
  have hb := u8lit b t ht
  subst hc
  rw [if_neg (show ¬ b = 34 from fun e => absurd ((hb 34 (by decide)).1 e) (by omega))] at hR
  rw [if_neg (show ¬ b = 123 from fun e => absurd ((hb 123 (by decide)).1 e) (by omega))] at hR
  rw [if_neg (show ¬ b = 91 from fun e => absurd ((hb 91 (by decide)).1 e) (by omega))] at hR
  rw [if_pos (show b = 116 from (hb 116 (by decide)).2 rfl)] at hR
  obtain ⟨B, h4⟩ := h
  have HS := h4.alloc (freshW [114, 117, 101])
  have NW := Lib.hid (newWord_any 116 [114, 117, 101] (by decide) w)
  have BE := Lib.hid (fbegin_any _ g β L ro s k B HS 2 (.word [114, 117, 101]) _ (hand_newW w β [114, 117, 101] hg.2.2) (by simp) p hp hk hB.hL hB.hl hB.hkd)
  have HBX : Hid (Bx g β w (w.alloc (freshW [114, 117, 101]))) := (Bx.refl' g β w).alloc hg.2.2 _
  rw [hR] at BE
  clear h4 HS hg hR hb ht hp hk hB
  go_enter Try.func55, Try.ntmps55
  go_wp2_with (first | (go_at_call 73; refine NW.out.mono ?_; rintro e w3 ⟨rfl, rfl⟩))
  refine BE.out.mono ?_
  rintro e w4 ⟨rfl, hB4, hF4⟩
  go_wp2_with fail
  first | go_end0 | refine bodyPost_ret (results_none rfl _ _ _) rfl ?_
  exact ⟨rfl, HBX.out.trans hB4.out, hF4⟩
set_option maxRecDepth 100000 in
set_option maxHeartbeats 3200000 in
theorem fvalue_w102 (h : FmS w g β L ro s k) (p : Nat) (hp : k = p + 1) (hk : k ≤ 262144) (hB : Bd L s) (b : UInt8) (t : Nat) (ht : b.toNat = t) (hc : t = 102) :
    Calls Try.prog 55 #[.pointer (some ⟨g, 0, none⟩), .int .u8 (t : Int)] w (RO (s.value L b p) s.G.length g β L ro k w) := by
  have hg := h.facts
  have hgb := hg.1
  have hgs := hg.2.1
  obtain ⟨R, hR⟩ : ∃ R, s.value L b p = R := ⟨_, rfl⟩
  rw [hR]
  rw [St.value] at hR
  have hb := u8lit b t ht
  subst hc
  rw [if_neg (show ¬ b = 34 from fun e => absurd ((hb 34 (by decide)).1 e) (by omega))] at hR
  rw [if_neg (show ¬ b = 123 from fun e => absurd ((hb 123 (by decide)).1 e) (by omega))] at hR
  rw [if_neg (show ¬ b = 91 from fun e => absurd ((hb 91 (by decide)).1 e) (by omega))] at hR
  rw [if_neg (show ¬ b = 116 from fun e => absurd ((hb 116 (by decide)).1 e) (by omega))] at hR
  rw [if_pos (show b = 102 from (hb 102 (by decide)).2 rfl)] at hR
  obtain ⟨B, h4⟩ := h
  have HS := h4.alloc (freshW [97, 108, 115, 101])
  have NW := Lib.hid (newWord_any 102 [97, 108, 115, 101] (by decide) w)
  have BE := Lib.hid (fbegin_any _ g β L ro s k B HS 1 (.word [97, 108, 115, 101]) _ (hand_newW w β [97, 108, 115, 101] hg.2.2) (by simp) p hp hk hB.hL hB.hl hB.hkd)
  have HBX : Hid (Bx g β w (w.alloc (freshW [97, 108, 115, 101]))) := (Bx.refl' g β w).alloc hg.2.2 _
  rw [hR] at BE
  clear h4 HS hg hR hb ht hp hk hB
  go_enter Try.func55, Try.ntmps55
  go_wp2_with (first | (go_at_call 73; refine NW.out.mono ?_; rintro e w3 ⟨rfl, rfl⟩))
  refine BE.out.mono ?_
  rintro e w4 ⟨rfl, hB4, hF4⟩
  go_wp2_with fail
  first | go_end0 | refine bodyPost_ret (results_none rfl _ _ _) rfl ?_
  exact ⟨rfl, HBX.out.trans hB4.out, hF4⟩
set_option maxRecDepth 100000 in
set_option maxHeartbeats 3200000 in
theorem fvalue_w110 (h : FmS w g β L ro s k) (p : Nat) (hp : k = p + 1) (hk : k ≤ 262144) (hB : Bd L s) (b : UInt8) (t : Nat) (ht : b.toNat = t) (hc : t = 110) :
    Calls Try.prog 55 #[.pointer (some ⟨g, 0, none⟩), .int .u8 (t : Int)] w (RO (s.value L b p) s.G.length g β L ro k w) := by
  have hg := h.facts
  have hgb := hg.1
  have hgs := hg.2.1
  obtain ⟨R, hR⟩ : ∃ R, s.value L b p = R := ⟨_, rfl⟩
  rw [hR]
  rw [St.value] at hR
  have hb := u8lit b t ht
  subst hc
  rw [if_neg (show ¬ b = 34 from fun e => absurd ((hb 34 (by decide)).1 e) (by omega))] at hR
  rw [if_neg (show ¬ b = 123 from fun e => absurd ((hb 123 (by decide)).1 e) (by omega))] at hR
  rw [if_neg (show ¬ b = 91 from fun e => absurd ((hb 91 (by decide)).1 e) (by omega))] at hR
  rw [if_neg (show ¬ b = 116 from fun e => absurd ((hb 116 (by decide)).1 e) (by omega))] at hR
  rw [if_neg (show ¬ b = 102 from fun e => absurd ((hb 102 (by decide)).1 e) (by omega))] at hR
  rw [if_pos (show b = 110 from (hb 110 (by decide)).2 rfl)] at hR
  obtain ⟨B, h4⟩ := h
  have HS := h4.alloc (freshW [117, 108, 108])
  have NW := Lib.hid (newWord_any 110 [117, 108, 108] (by decide) w)
  have BE := Lib.hid (fbegin_any _ g β L ro s k B HS 0 (.word [117, 108, 108]) _ (hand_newW w β [117, 108, 108] hg.2.2) (by simp) p hp hk hB.hL hB.hl hB.hkd)
  have HBX : Hid (Bx g β w (w.alloc (freshW [117, 108, 108]))) := (Bx.refl' g β w).alloc hg.2.2 _
  rw [hR] at BE
  clear h4 HS hg hR hb ht hp hk hB
  go_enter Try.func55, Try.ntmps55
  go_wp2_with (first | (go_at_call 73; refine NW.out.mono ?_; rintro e w3 ⟨rfl, rfl⟩))
  refine BE.out.mono ?_
  rintro e w4 ⟨rfl, hB4, hF4⟩
  go_wp2_with fail
  first | go_end0 | refine bodyPost_ret (results_none rfl _ _ _) rfl ?_
  exact ⟨rfl, HBX.out.trans hB4.out, hF4⟩
set_option maxRecDepth 100000 in
set_option maxHeartbeats 3200000 in
theorem fvalue_num45 (h : FmS w g β L ro s k) (p : Nat) (hp : k = p + 1) (hk : k ≤ 262144) (hB : Bd L s) (b : UInt8) (t : Nat) (ht : b.toNat = t) (hsh : s.hand = .none) (hc : t = 45) :
    Calls Try.prog 55 #[.pointer (some ⟨g, 0, none⟩), .int .u8 (t : Int)] w (RO (s.value L b p) s.G.length g β L ro k w) := by
  have hg := h.facts
  have hgb := hg.1
  have hgs := hg.2.1
  obtain ⟨R, hR⟩ : ∃ R, s.value L b p = R := ⟨_, rfl⟩
  rw [hR]
  rw [St.value] at hR
  have hb := u8lit b t ht
  subst hc
  rw [if_neg (show ¬ b = 34 from fun e => absurd ((hb 34 (by decide)).1 e) (by omega))] at hR
  rw [if_neg (show ¬ b = 123 from fun e => absurd ((hb 123 (by decide)).1 e) (by omega))] at hR
  rw [if_neg (show ¬ b = 91 from fun e => absurd ((hb 91 (by decide)).1 e) (by omega))] at hR
  rw [if_neg (show ¬ b = 116 from fun e => absurd ((hb 116 (by decide)).1 e) (by omega))] at hR
  rw [if_neg (show ¬ b = 102 from fun e => absurd ((hb 102 (by decide)).1 e) (by omega))] at hR
  rw [if_neg (show ¬ b = 110 from fun e => absurd ((hb 110 (by decide)).1 e) (by omega))] at hR
  obtain ⟨y, hy⟩ := nextN0_some b _ ht (by omega)
  rw [hy] at hR
  dsimp only at hR
  obtain ⟨B, h4⟩ := h
  have HS := h4.alloc freshN
  have hN0 : Nm (w.alloc freshN) w.heap.size 0 [] (.slice none 0 0) := ⟨At.ofAlloc w #[.int .i64 0, .slice none 0 0] 104, World.ownsRow_nil _ _ _ _⟩
  have NT := Lib.hid (ntake_any w.heap.size 0 [] (.slice none 0 0) b (w.alloc freshN) (by decide) (by simp) hN0)
  rw [ht] at NT
  have HBX : Hid (Bx g β w (w.alloc freshN)) := (Bx.refl' g β w).alloc hg.2.2 _
  have HG : Hid (β ≤ w.heap.size) := hg.2.2
  have hNT : Hid (NotT (w.alloc freshN) w.heap.size) := notT_new _ _ _ (by decide) (by decide)
  have HR := Lib.hid hR
  have HY := Lib.hid hy
  have H4 := Lib.hid HS
  have HP := Lib.hid (And.intro hp (And.intro hk hB))
  have HOB : Hid (∃ c cs, At (w.alloc freshN) w.heap.size 0 (c :: cs)) := ⟨_, _, hN0.at0⟩
  have HSH := Lib.hid hsh
  obtain ⟨q, hq⟩ : ∃ q, w.heap.size = q := ⟨_, rfl⟩
  have HQ : Hid (q < (w.alloc freshN).heap.size) := by show q < _; simp; omega
  rw [hq] at NT hNT HOB HG
  clear h4 HS hg hR hb ht hp hk hB hN0 hy hsh
  go_enter Try.func55, Try.ntmps55
  go_wp2_with fail
  refine NT.out.mono ?_
  intro e w3 hNN
  obtain ⟨vT, he, hN3, hT3⟩ : ∃ vT, e = .returned (.int .i64 0) ∧ Hid (Nm w3 q y ([] ++ [b]) vT) ∧ Hid (Tk q (w.alloc freshN) w3) := by
    rcases hNN with ⟨y2, vT, hy2, h1, h2, h3⟩ | ⟨hn, _⟩
    · obtain rfl := Option.some.inj (hy2.symm.trans HY.out)
      exact ⟨vT, h1, h2, h3⟩
    · exact absurd (hn.symm.trans HY.out) (by simp)
  subst he
  clear hNN
  have hS3 : ∃ B, FmB w3 g β L ro s k B := by
    obtain ⟨vV, vS, vH, a, h5, hn⟩ := H4.out
    have h6 := h5.hand
    rw [HSH.out] at h6
    exact ⟨B, vV, vS, vH, a, by rw [HSH.out] at h5 ⊢; exact h5.take hT3.out HG.out HQ.out hNT.out HOB.out h6, hn⟩
  obtain ⟨B3, hS3⟩ := hS3
  have hNT3 : NotT w3 q := ⟨fun cur hc => by obtain ⟨c2, h2⟩ := hT3.out.ty HQ.out _ _ hc; exact hNT.out.1 _ h2, fun cur hc => by obtain ⟨c2, h2⟩ := hT3.out.ty HQ.out _ _ hc; exact hNT.out.2 _ h2⟩
  have BE := Lib.hid (fbegin_any w3 g β L ro s k B3 hS3 3 (.num y [b]) _ ⟨q, vT, rfl, hN3.out, HG.out, hNT3⟩ (by simp) p HP.out.1 HP.out.2.1 HP.out.2.2.hL HP.out.2.2.hl HP.out.2.2.hkd)
  rw [HR.out] at BE
  have HB3 : Hid (Bx g β w w3) := HBX.out.trans (Bx.tk hT3.out HG.out)
  clear hS3 hNT3
  go_wp2_with fail
  refine BE.out.mono ?_
  rintro e w4 ⟨rfl, hB4, hF4⟩
  go_wp2_with fail
  first | go_end0 | refine bodyPost_ret (results_none rfl _ _ _) rfl ?_
  exact ⟨rfl, HB3.out.trans hB4.out, hF4⟩
set_option maxRecDepth 100000 in
set_option maxHeartbeats 3200000 in
theorem fvalue_dig (h : FmS w g β L ro s k) (p : Nat) (hp : k = p + 1) (hk : k ≤ 262144) (hB : Bd L s) (b : UInt8) (t : Nat) (ht : b.toNat = t) (hsh : s.hand = .none) (hc : 48 ≤ t ∧ t ≤ 57) :
    Calls Try.prog 55 #[.pointer (some ⟨g, 0, none⟩), .int .u8 (t : Int)] w (RO (s.value L b p) s.G.length g β L ro k w) := by
  have hg := h.facts
  have hgb := hg.1
  have hgs := hg.2.1
  obtain ⟨R, hR⟩ : ∃ R, s.value L b p = R := ⟨_, rfl⟩
  rw [hR]
  rw [St.value] at hR
  have hb := u8lit b t ht
  rw [if_neg (show ¬ b = 34 from fun e => absurd ((hb 34 (by decide)).1 e) (by omega))] at hR
  rw [if_neg (show ¬ b = 123 from fun e => absurd ((hb 123 (by decide)).1 e) (by omega))] at hR
  rw [if_neg (show ¬ b = 91 from fun e => absurd ((hb 91 (by decide)).1 e) (by omega))] at hR
  rw [if_neg (show ¬ b = 116 from fun e => absurd ((hb 116 (by decide)).1 e) (by omega))] at hR
  rw [if_neg (show ¬ b = 102 from fun e => absurd ((hb 102 (by decide)).1 e) (by omega))] at hR
  rw [if_neg (show ¬ b = 110 from fun e => absurd ((hb 110 (by decide)).1 e) (by omega))] at hR
  obtain ⟨y, hy⟩ := nextN0_some b _ ht (by omega)
  rw [hy] at hR
  dsimp only at hR
  obtain ⟨B, h4⟩ := h
  have HS := h4.alloc freshN
  have hN0 : Nm (w.alloc freshN) w.heap.size 0 [] (.slice none 0 0) := ⟨At.ofAlloc w #[.int .i64 0, .slice none 0 0] 104, World.ownsRow_nil _ _ _ _⟩
  have NT := Lib.hid (ntake_any w.heap.size 0 [] (.slice none 0 0) b (w.alloc freshN) (by decide) (by simp) hN0)
  rw [ht] at NT
  have HBX : Hid (Bx g β w (w.alloc freshN)) := (Bx.refl' g β w).alloc hg.2.2 _
  have HG : Hid (β ≤ w.heap.size) := hg.2.2
  have hNT : Hid (NotT (w.alloc freshN) w.heap.size) := notT_new _ _ _ (by decide) (by decide)
  have HR := Lib.hid hR
  have HY := Lib.hid hy
  have H4 := Lib.hid HS
  have HP := Lib.hid (And.intro hp (And.intro hk hB))
  have HOB : Hid (∃ c cs, At (w.alloc freshN) w.heap.size 0 (c :: cs)) := ⟨_, _, hN0.at0⟩
  have HSH := Lib.hid hsh
  obtain ⟨q, hq⟩ : ∃ q, w.heap.size = q := ⟨_, rfl⟩
  have HQ : Hid (q < (w.alloc freshN).heap.size) := by show q < _; simp; omega
  have e45 := eqF (n := t) (c := 45) (by omega)
  have e48 : (48 : Int) ≤ (t : Int) := by omega
  have e57 : (t : Int) ≤ 57 := by omega
  have e34 := eqF (n := t) (c := 34) (by omega)
  have e123 := eqF (n := t) (c := 123) (by omega)
  have e91 := eqF (n := t) (c := 91) (by omega)
  have e116 := eqF (n := t) (c := 116) (by omega)
  have e102 := eqF (n := t) (c := 102) (by omega)
  have e110 := eqF (n := t) (c := 110) (by omega)
  rw [hq] at NT hNT HOB HG
  clear h4 HS hg hR hb ht hp hk hB hN0 hy hsh
  go_enter Try.func55, Try.ntmps55
  go_wp2_with fail
  refine NT.out.mono ?_
  intro e w3 hNN
  obtain ⟨vT, he, hN3, hT3⟩ : ∃ vT, e = .returned (.int .i64 0) ∧ Hid (Nm w3 q y ([] ++ [b]) vT) ∧ Hid (Tk q (w.alloc freshN) w3) := by
    rcases hNN with ⟨y2, vT, hy2, h1, h2, h3⟩ | ⟨hn, _⟩
    · obtain rfl := Option.some.inj (hy2.symm.trans HY.out)
      exact ⟨vT, h1, h2, h3⟩
    · exact absurd (hn.symm.trans HY.out) (by simp)
  subst he
  clear hNN
  have hS3 : ∃ B, FmB w3 g β L ro s k B := by
    obtain ⟨vV, vS, vH, a, h5, hn⟩ := H4.out
    have h6 := h5.hand
    rw [HSH.out] at h6
    exact ⟨B, vV, vS, vH, a, by rw [HSH.out] at h5 ⊢; exact h5.take hT3.out HG.out HQ.out hNT.out HOB.out h6, hn⟩
  obtain ⟨B3, hS3⟩ := hS3
  have hNT3 : NotT w3 q := ⟨fun cur hc => by obtain ⟨c2, h2⟩ := hT3.out.ty HQ.out _ _ hc; exact hNT.out.1 _ h2, fun cur hc => by obtain ⟨c2, h2⟩ := hT3.out.ty HQ.out _ _ hc; exact hNT.out.2 _ h2⟩
  have BE := Lib.hid (fbegin_any w3 g β L ro s k B3 hS3 3 (.num y [b]) _ ⟨q, vT, rfl, hN3.out, HG.out, hNT3⟩ (by simp) p HP.out.1 HP.out.2.1 HP.out.2.2.hL HP.out.2.2.hl HP.out.2.2.hkd)
  rw [HR.out] at BE
  have HB3 : Hid (Bx g β w w3) := HBX.out.trans (Bx.tk hT3.out HG.out)
  clear hS3 hNT3
  go_wp2_with fail
  refine BE.out.mono ?_
  rintro e w4 ⟨rfl, hB4, hF4⟩
  go_wp2_with fail
  first | go_end0 | refine bodyPost_ret (results_none rfl _ _ _) rfl ?_
  exact ⟨rfl, HB3.out.trans hB4.out, hF4⟩
set_option maxRecDepth 100000 in
set_option maxHeartbeats 3200000 in
theorem fvalue_lo (h : FmS w g β L ro s k) (p : Nat) (hp : k = p + 1) (hk : k ≤ 262144) (hB : Bd L s) (b : UInt8) (t : Nat) (ht : b.toNat = t) (hc : t ≠ 34 ∧ t ≠ 45 ∧ t < 48) :
    Calls Try.prog 55 #[.pointer (some ⟨g, 0, none⟩), .int .u8 (t : Int)] w (RO (s.value L b p) s.G.length g β L ro k w) := by
  have hg := h.facts
  have hgb := hg.1
  have hgs := hg.2.1
  obtain ⟨R, hR⟩ : ∃ R, s.value L b p = R := ⟨_, rfl⟩
  rw [hR]
  rw [St.value] at hR
  have hb := u8lit b t ht
  rw [if_neg (show ¬ b = 34 from fun e => absurd ((hb 34 (by decide)).1 e) (by omega))] at hR
  rw [if_neg (show ¬ b = 123 from fun e => absurd ((hb 123 (by decide)).1 e) (by omega))] at hR
  rw [if_neg (show ¬ b = 91 from fun e => absurd ((hb 91 (by decide)).1 e) (by omega))] at hR
  rw [if_neg (show ¬ b = 116 from fun e => absurd ((hb 116 (by decide)).1 e) (by omega))] at hR
  rw [if_neg (show ¬ b = 102 from fun e => absurd ((hb 102 (by decide)).1 e) (by omega))] at hR
  rw [if_neg (show ¬ b = 110 from fun e => absurd ((hb 110 (by decide)).1 e) (by omega))] at hR
  have hy : nextN 0 b = none := by rw [nextN0 b t ht, if_neg (by omega), if_neg (by omega), if_neg (by omega)]
  rw [hy] at hR
  have WR := Lib.hid (fwrong_any w g β L ro s k h p hp hk)
  have HR : Hid (R = .fl 9 p) := hR.symm
  have e45 := eqF (n := t) (c := 45) (by omega)
  have e48 : ¬ (48 : Int) ≤ (t : Int) := by omega
  have e48b : decide ((48 : Int) ≤ (t : Int)) = false := decide_eq_false e48
  have e34 := eqF (n := t) (c := 34) (by omega)
  have e123 := eqF (n := t) (c := 123) (by omega)
  have e91 := eqF (n := t) (c := 91) (by omega)
  have e116 := eqF (n := t) (c := 116) (by omega)
  have e102 := eqF (n := t) (c := 102) (by omega)
  have e110 := eqF (n := t) (c := 110) (by omega)
  clear h hp hk hR hb ht hB hy hg
  go_enter Try.func55, Try.ntmps55
  go_wp2_with fail
  refine WR.out.mono ?_
  rintro e w4 ⟨rfl, hF4, hB4⟩
  go_wp2_with fail
  first | go_end0 | refine bodyPost_ret (results_none rfl _ _ _) rfl ?_
  exact RO.fl HR ⟨rfl, hF4, hB4⟩
set_option maxRecDepth 100000 in
set_option maxHeartbeats 3200000 in
theorem fvalue_hi (h : FmS w g β L ro s k) (p : Nat) (hp : k = p + 1) (hk : k ≤ 262144) (hB : Bd L s) (b : UInt8) (t : Nat) (ht : b.toNat = t) (hc : 57 < t ∧ t ≠ 123 ∧ t ≠ 91 ∧ t ≠ 116 ∧ t ≠ 102 ∧ t ≠ 110) :
    Calls Try.prog 55 #[.pointer (some ⟨g, 0, none⟩), .int .u8 (t : Int)] w (RO (s.value L b p) s.G.length g β L ro k w) := by
  have hg := h.facts
  have hgb := hg.1
  have hgs := hg.2.1
  obtain ⟨R, hR⟩ : ∃ R, s.value L b p = R := ⟨_, rfl⟩
  rw [hR]
  rw [St.value] at hR
  have hb := u8lit b t ht
  rw [if_neg (show ¬ b = 34 from fun e => absurd ((hb 34 (by decide)).1 e) (by omega))] at hR
  rw [if_neg (show ¬ b = 123 from fun e => absurd ((hb 123 (by decide)).1 e) (by omega))] at hR
  rw [if_neg (show ¬ b = 91 from fun e => absurd ((hb 91 (by decide)).1 e) (by omega))] at hR
  rw [if_neg (show ¬ b = 116 from fun e => absurd ((hb 116 (by decide)).1 e) (by omega))] at hR
  rw [if_neg (show ¬ b = 102 from fun e => absurd ((hb 102 (by decide)).1 e) (by omega))] at hR
  rw [if_neg (show ¬ b = 110 from fun e => absurd ((hb 110 (by decide)).1 e) (by omega))] at hR
  have hy : nextN 0 b = none := by rw [nextN0 b t ht, if_neg (by omega), if_neg (by omega), if_neg (by omega)]
  rw [hy] at hR
  have WR := Lib.hid (fwrong_any w g β L ro s k h p hp hk)
  have HR : Hid (R = .fl 9 p) := hR.symm
  have e45 := eqF (n := t) (c := 45) (by omega)
  have e48 : (48 : Int) ≤ (t : Int) := by omega
  have e57 : ¬ (t : Int) ≤ 57 := by omega
  have e57b : decide ((t : Int) ≤ 57) = false := decide_eq_false e57
  have e34 := eqF (n := t) (c := 34) (by omega)
  have e123 := eqF (n := t) (c := 123) (by omega)
  have e91 := eqF (n := t) (c := 91) (by omega)
  have e116 := eqF (n := t) (c := 116) (by omega)
  have e102 := eqF (n := t) (c := 102) (by omega)
  have e110 := eqF (n := t) (c := 110) (by omega)
  clear h hp hk hR hb ht hB hy hg
  go_enter Try.func55, Try.ntmps55
  go_wp2_with fail
  refine WR.out.mono ?_
  rintro e w4 ⟨rfl, hF4, hB4⟩
  go_wp2_with fail
  first | go_end0 | refine bodyPost_ret (results_none rfl _ _ _) rfl ?_
  exact RO.fl HR ⟨rfl, hF4, hB4⟩
theorem fvalue_any (h : FmS w g β L ro s k) (hsh : s.hand = .none) (p : Nat) (hp : k = p + 1) (hk : k ≤ 262144) (hB : Bd L s) (b : UInt8) (t : Nat) (ht : b.toNat = t) :
    Calls Try.prog 55 #[.pointer (some ⟨g, 0, none⟩), .int .u8 (t : Int)] w (RO (s.value L b p) s.G.length g β L ro k w) := by
  by_cases h1 : t = 34
  · exact fvalue_str w g β L ro s k h p hp hk hB b t ht h1
  by_cases h2 : t = 123
  · exact fvalue_obj w g β L ro s k h p hp hk hB b t ht h2
  by_cases h3 : t = 91
  · exact fvalue_arr w g β L ro s k h p hp hk hB b t ht h3
  by_cases h4 : t = 116
  · exact fvalue_w116 w g β L ro s k h p hp hk hB b t ht h4
  by_cases h5 : t = 102
  · exact fvalue_w102 w g β L ro s k h p hp hk hB b t ht h5
  by_cases h6 : t = 110
  · exact fvalue_w110 w g β L ro s k h p hp hk hB b t ht h6
  by_cases h7 : t = 45
  · exact fvalue_num45 w g β L ro s k h p hp hk hB b t ht hsh h7
  rcases digit3 t with h8 | h8 | h8
  · exact fvalue_dig w g β L ro s k h p hp hk hB b t ht hsh h8
  · exact fvalue_lo w g β L ro s k h p hp hk hB b t ht ⟨h1, h7, h8⟩
  · exact fvalue_hi w g β L ro s k h p hp hk hB b t ht ⟨h8, h2, h3, h4, h5, h6⟩
end
end Jf
end Go.Proofs.Ytilfidcomeandaa
