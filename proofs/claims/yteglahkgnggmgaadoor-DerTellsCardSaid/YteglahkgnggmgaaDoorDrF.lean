/- A length is read. -/
import Derived.Test.YteglahkgnggmgaaDoorDrE
namespace Go.Proofs.YteglahkgnggmgaaDoor
open Go.RowKit
set_option linter.unusedVariables false
set_option linter.unusedSimpArgs false
open Dr
theorem u8_at (s : ByteArray) (p b : Nat) (h : (s.toList.getD p 0).toNat = b) : at0S s.toList p = b := h
theorem lenB_lt (S : List UInt8) (L : Lm) (q : Nat) : ∀ i n, lenB S L q i = .ok n → n < 256 ^ i := by
  intro i
  induction i with
  | zero => intro n h; cases h; decide
  | succ i ih =>
    intro n h
    unfold lenB at h
    split at h
    · cases h
    · rename_i m hm
      have := ih m hm
      split at h
      · split at h
        · cases h
        · cases h
          have hb : at0S S (q + i + 1) < 256 := (S.getD (q + i + 1) 0).toNat_lt
          rw [Nat.pow_succ]
          omega
      · cases h
section
variable {S : List UInt8} {L : Lm} {p b : Nat}
theorem lenR_short (hh : has S L p = true) (hat : at0S S p = b) (h : b < 128) : lenR S L p = .ok (b, p + 1) := by rw [lenR, if_pos hh, hat, if_pos h]
theorem lenR_bad (hh : has S L p = true) (hat : at0S S p = b) (h : ¬ b < 128) (h2 : b = 128 ∨ 132 < b) : lenR S L p = .no 9 p false := by rw [lenR, if_pos hh, hat, if_neg h, if_pos h2]
theorem lenR_no (hh : has S L p = true) (hat : at0S S p = b) (h : ¬ b < 128) (h2 : ¬ (b = 128 ∨ 132 < b)) {e : Int} {q : Nat} {c : Bool} (hB : lenB S L p (b - 128) = .no e q c) : lenR S L p = .no e q c := by rw [lenR, if_pos hh, hat, if_neg h, if_neg h2, hB]
theorem lenR_small (hh : has S L p = true) (hat : at0S S p = b) (h : ¬ b < 128) (h2 : ¬ (b = 128 ∨ 132 < b)) {n : Nat} (hB : lenB S L p (b - 128) = .ok n) (hn : n < 128) : lenR S L p = .no 9 (p + (b - 128)) false := by rw [lenR, if_pos hh, hat, if_neg h, if_neg h2, hB]; simp [hn]
theorem lenR_long (hh : has S L p = true) (hat : at0S S p = b) (h : ¬ b < 128) (h2 : ¬ (b = 128 ∨ 132 < b)) {n : Nat} (hB : lenB S L p (b - 128) = .ok n) (hn : ¬ n < 128) : lenR S L p = .ok (n, p + (b - 128) + 1) := by rw [lenR, if_pos hh, hat, if_neg h, if_neg h2, hB]; simp [hn]
theorem lenR_lack (hh : has S L p = false) : lenR S L p = lack S L := by rw [lenR, if_neg (by rw [hh]; decide)]
theorem lenB_no_le {i j : Nat} {e : Int} {q : Nat} {c : Bool} (h : lenB S L p i = .no e q c) (hj : i ≤ j) : lenB S L p j = .no e q c := by
  induction hj with
  | refl => exact h
  | step _ ih => rw [lenB, ih]
theorem lenB_lack {i : Nat} {n : Nat} (h : lenB S L p i = .ok n) (hh : has S L (p + i + 1) = false) : lenB S L p (i + 1) = lack S L := by rw [lenB, h]; simp [hh]
theorem lenB_zero (hh : has S L (p + 1) = true) (hb : at0S S (p + 1) = 0) : lenB S L p 1 = .no 9 (p + 1) false := by rw [lenB, show lenB S L p 0 = .ok 0 from rfl]; simp [hh, hb]
theorem lenB_next {i n d : Nat} (h : lenB S L p i = .ok n) (hh : has S L (p + i + 1) = true) (hb : at0S S (p + i + 1) = d) (h0 : ¬ (i = 0 ∧ d = 0)) : lenB S L p (i + 1) = .ok (256 * n + d) := by
  rw [lenB, h]
  have : ¬ (i = 0 ∧ at0S S (p + 1) = 0) := fun ⟨x, y⟩ => h0 ⟨x, by subst x; rw [← hb]; exact y⟩
  simp only [hh, if_true, if_neg this, hb]
end
theorem lack_eq {α : Type} (s : ByteArray) (L : Lm) : (lack s.toList L : Rs α) = .no (lkE L.bytes s) (lkP L.bytes s) (decide (s.size ≤ L.bytes)) := by
  unfold lack lackE lackP lkE lkP
  rw [tl_size]
theorem has_yes (s : ByteArray) (L : Lm) (p : Nat) (h : p < s.size ∧ p < L.bytes) : has s.toList L p = true := by rw [has, decide_eq_true_iff, tl_size]; exact h
theorem has_no (s : ByteArray) (L : Lm) (p : Nat) (h : ¬ (p < s.size ∧ p < L.bytes)) : has s.toList L p = false := by rw [has, decide_eq_false_iff_not, tl_size]; exact h
set_option maxRecDepth 100000 in
set_option maxHeartbeats 3200000 in
theorem length_any (w : World) (g : Nat) (s : ByteArray) (L : Lm) (p : Nat) (l : List Nd) (G : List Fr) (vn vs : Value) (ro : Int) (hR : Rd w g s L p l G vn vs ro) (hz : s.size ≤ 140737488351232) (hp : p ≤ s.size) :
    Calls Tryd.prog 63 #[.pointer (some ⟨g, 0, none⟩)] w (RsLen (lenR s.toList L p) g s L l G vn vs ro w) := by
  have F := Lib.hid (fun c p w => fail_any c p w)
  have HR := Lib.hid hR
  have HZ := Lib.hid hz
  have HP := Lib.hid hp
  clear hR hz hp
  by_cases h0 : p < s.size ∧ p < L.bytes
  · obtain ⟨b, hb⟩ : ∃ b, (s.toList.getD p 0).toNat = b := ⟨_, rfl⟩
    have N := Lib.hid (next_yes HR.out h0.1 h0.2 HZ.out b hb)
    have hb2 : b < 256 := by rw [← hb]; exact (s.toList.getD p 0).toNat_lt
    have hat := u8_at s p b hb
    have hh := has_yes s L p h0
    by_cases h1 : b < 128
    · rw [lenR_short hh hat h1]
      have e1 : (b : Int) < 128 := by omega
      clear h0 h1 hb hat hh
      go_enter Tryd.func63, Tryd.ntmps63
      go_wp2_with (first
        | (go_at_call 45; refine (place_yes HR.out).mono ?_; rintro e w1 ⟨rfl, rfl⟩)
        | (go_at_call 48; refine N.out.mono ?_; rintro e w1 ⟨rfl, HR1, HB1⟩))
      go_ret
      exact ⟨rfl, HR1, HB1⟩
    · by_cases h2 : b = 128 ∨ 132 < b
      · rw [lenR_bad hh hat h1 h2]
        have e1 : ¬ (b : Int) < 128 := by omega
        by_cases h3 : b = 128
        · subst h3
          clear h0 h1 hb hat hh h2
          go_enter Tryd.func63, Tryd.ntmps63
          go_wp2_with (first
            | (go_at_call 45; refine (place_yes HR.out).mono ?_; rintro e w1 ⟨rfl, rfl⟩)
            | (go_at_call 48; refine N.out.mono ?_; rintro e w1 ⟨rfl, HR1, HB1⟩)
            | (go_at_call 49; refine (F.out _ _ _).mono ?_; rintro e w2 ⟨rfl, rfl⟩))
          exact ⟨rfl, rfl, HB1.out⟩
        · have e2 : ((b : Int) == 128) = false := by rw [beq_eq_false_iff_ne]; omega
          have e3 : (132 : Int) < (b : Int) := by omega
          clear h0 h1 hb hat hh h2 h3
          go_enter Tryd.func63, Tryd.ntmps63
          go_wp2_with (first
            | (go_at_call 45; refine (place_yes HR.out).mono ?_; rintro e w1 ⟨rfl, rfl⟩)
            | (go_at_call 48; refine N.out.mono ?_; rintro e w1 ⟨rfl, HR1, HB1⟩)
            | (go_at_call 49; refine (F.out _ _ _).mono ?_; rintro e w2 ⟨rfl, rfl⟩))
          exact ⟨rfl, rfl, HB1.out⟩
      · obtain ⟨R, hR⟩ : ∃ R, lenR s.toList L p = R := ⟨_, rfl⟩
        rw [hR]
        have HRR := Lib.hid (And.intro hR (And.intro hh (And.intro hat (And.intro h1 h2))))
        have HP1 := Lib.hid (show p + 0 + 1 ≤ s.size by omega)
        clear h0 hb hat hh hR
        rcases (by omega : b = 129 ∨ b = 130 ∨ b = 131 ∨ b = 132) with rfl | rfl | rfl | rfl
        · clear h1 h2 hb2
          go_enter Tryd.func63, Tryd.ntmps63
          go_wp2_with (first
            | (go_at_call 45; refine (place_yes (by first | exact HR3.out | exact HR2.out | exact HR1.out | exact HR.out)).mono ?_; rintro e w1 ⟨rfl, rfl⟩)
            | (go_at_call 48; refine N.out.mono ?_; rintro e w1 ⟨rfl, HR1, HB1⟩)
            | (go_at_call 49; refine (F.out _ _ _).mono ?_; rintro e w12 ⟨rfl, rfl⟩))
          go_loopw [5, 31] (fun vq vi wr => ∃ i n : Nat, vi = .int .i64 (i : Int) ∧ vq = .int .i64 (n : Int) ∧ i ≤ 1 ∧ lenB s.toList L p i = .ok n ∧ Rd wr g s L (p + i + 1) l G vn vs ro ∧ Below g w wr ∧ p + i + 1 ≤ s.size) (fun _ vi _ => 1 - (intOf vi).toNat)
          case atStart => exact ⟨0, 0, rfl, rfl, by omega, rfl, HR1.out, HB1.out, HP1.out⟩
          case round =>
            obtain ⟨i, n, rfl, rfl, hi, hB, hR2, hb2, hq⟩ := hrel
            have hn := lenB_lt _ _ _ _ _ hB
            have HB := Lib.hid hB
            have HR2 := Lib.hid hR2
            have HB2 := Lib.hid hb2
            have HQ := Lib.hid hq
            clear hB hR2 hb2 hq
            by_cases him : i < 1
            · have ei : (i : Int) < 1 := by omega
              have hn2 : n < 18014398509481984 := Nat.lt_of_lt_of_le hn (Nat.le_trans (Nat.pow_le_pow_right (by decide) (show i ≤ 4 by omega)) (by decide))
              clear hn
              by_cases h5 : p + i + 1 < s.size ∧ p + i + 1 < L.bytes
              · have N2 := Lib.hid (next_yes HR2.out h5.1 h5.2 HZ.out _ rfl)
                obtain ⟨d, hd⟩ : ∃ d, (s.toList.getD (p + i + 1) 0).toNat = d := ⟨_, rfl⟩
                have hd2 : d < 256 := by rw [← hd]; exact (s.toList.getD (p + i + 1) 0).toNat_lt
                rw [hd] at N2
                have hat := u8_at s (p + i + 1) d hd
                have hh := has_yes s L (p + i + 1) h5
                have H5 := Lib.hid (show p + (i + 1) + 1 ≤ s.size by omega)
                clear hd h5
                by_cases h6 : i = 0 ∧ d = 0
                · obtain ⟨rfl, rfl⟩ := h6
                  obtain rfl : R = .no 9 (p + 1) false := by
                    rw [← HRR.out.1]
                    exact lenR_no HRR.out.2.1 HRR.out.2.2.1 HRR.out.2.2.2.1 HRR.out.2.2.2.2 (lenB_no_le (lenB_zero hh hat) (by decide))
                  clear hh hat hd2 hn2
                  have e9 : (p : Int) < 140737488351232 := by have := H5.out; have := HZ.out; omega
                  go_wp2_with (first
                    | (go_at_call 45; refine (place_yes (by first | exact HR3.out | exact HR2.out | exact HR1.out | exact HR.out)).mono ?_; rintro e w3 ⟨rfl, rfl⟩)
                    | (go_at_call 48; refine N2.out.mono ?_; rintro e w3 ⟨rfl, HR3, HB3⟩)
                    | (go_at_call 49; refine (F.out _ _ _).mono ?_; rintro e w32 ⟨rfl, rfl⟩))
                  exact ⟨rfl, rfl, HB2.out.trans HB3.out⟩
                · have HN := Lib.hid (lenB_next HB.out hh hat h6)
                  have HO := Lib.hid (show bits .or .i64 ((n : Int) * 256) (d : Int) = ((256 * n + d : Nat) : Int) by rw [← or8 n d hd2 hn2]; congr 1; omega)
                  have e9 : (p : Int) < 140737488351232 := by have := H5.out; have := HZ.out; omega
                  have hw := w64_pow n 8 (by omega)
                  clear hh hat
                  by_cases h7 : i = 0
                  · subst h7
                    have e8 : ((d : Int) == 0) = false := by rw [beq_eq_false_iff_ne]; omega
                    clear h6
                    go_wp2_with (first
                      | (go_at_call 45; refine (place_yes (by first | exact HR3.out | exact HR2.out | exact HR1.out | exact HR.out)).mono ?_; rintro e w3 ⟨rfl, rfl⟩)
                      | (go_at_call 48; refine N2.out.mono ?_; rintro e w3 ⟨rfl, HR3, HB3⟩)
                      | (go_at_call 49; refine (F.out _ _ _).mono ?_; rintro e w32 ⟨rfl, rfl⟩))
                    go_roundw
                    case rel => exact ⟨0 + 1, 256 * n + d, rfl, congrArg (Value.int .i64) HO.out, by omega, HN.out, HR3.out, HB2.out.trans HB3.out, H5.out⟩
                    case measure => simp [intOf]
                  · exact absurd (show i = 0 by omega) h7
              · obtain rfl : R = .no (lkE L.bytes s) (lkP L.bytes s) (decide (s.size ≤ L.bytes)) := by
                  have := lenB_lack HB.out (has_no s L (p + i + 1) h5)
                  rw [lack_eq] at this
                  rw [← HRR.out.1]
                  exact lenR_no HRR.out.2.1 HRR.out.2.2.1 HRR.out.2.2.2.1 HRR.out.2.2.2.2 (lenB_no_le this (by omega))
                have N2 := Lib.hid (next_lack HR2.out h5 (by have := HQ.out; have := HZ.out; omega))
                clear h5 hn2
                go_wp2_with (first
                  | (go_at_call 45; refine (place_yes (by first | exact HR3.out | exact HR2.out | exact HR1.out | exact HR.out)).mono ?_; rintro e w3 ⟨rfl, rfl⟩)
                  | (go_at_call 48; refine N2.out.mono ?_; rintro e w3 ⟨rfl, hb⟩)
                  | (go_at_call 49; refine (F.out _ _ _).mono ?_; rintro e w32 ⟨rfl, rfl⟩))
                exact ⟨rfl, rfl, HB2.out.trans hb⟩
            · obtain rfl : i = 1 := by omega
              have e9 : (p : Int) < 140737488351232 := by have := HQ.out; have := HZ.out; omega
              by_cases h8 : n < 128
              · have e8 : (n : Int) < 128 := by omega
                obtain rfl : R = .no 9 (p + 1) false := by
                  rw [← HRR.out.1]
                  exact lenR_small HRR.out.2.1 HRR.out.2.2.1 HRR.out.2.2.2.1 HRR.out.2.2.2.2 HB.out h8
                clear h8 him hi hn
                go_wp2_with (first
                  | (go_at_call 45; refine (place_yes (by first | exact HR3.out | exact HR2.out | exact HR1.out | exact HR.out)).mono ?_; rintro e w3 ⟨rfl, rfl⟩)
                  | (go_at_call 48; refine N2.out.mono ?_; rintro e w3 ⟨rfl, HR3, HB3⟩)
                  | (go_at_call 49; refine (F.out _ _ _).mono ?_; rintro e w32 ⟨rfl, rfl⟩))
                exact ⟨rfl, rfl, HB2.out⟩
              · have e8 : ¬ (n : Int) < 128 := by omega
                obtain rfl : R = .ok (n, p + 1 + 1) := by
                  rw [← HRR.out.1]
                  exact lenR_long HRR.out.2.1 HRR.out.2.2.1 HRR.out.2.2.2.1 HRR.out.2.2.2.2 HB.out h8
                clear h8 him hi hn
                go_wp2_with (first
                  | (go_at_call 45; refine (place_yes (by first | exact HR3.out | exact HR2.out | exact HR1.out | exact HR.out)).mono ?_; rintro e w3 ⟨rfl, rfl⟩)
                  | (go_at_call 48; refine N2.out.mono ?_; rintro e w3 ⟨rfl, HR3, HB3⟩)
                  | (go_at_call 49; refine (F.out _ _ _).mono ?_; rintro e w32 ⟨rfl, rfl⟩))
                go_ret
                exact ⟨rfl, HR2, HB2⟩
        · clear h1 h2 hb2
          go_enter Tryd.func63, Tryd.ntmps63
          go_wp2_with (first
            | (go_at_call 45; refine (place_yes (by first | exact HR3.out | exact HR2.out | exact HR1.out | exact HR.out)).mono ?_; rintro e w1 ⟨rfl, rfl⟩)
            | (go_at_call 48; refine N.out.mono ?_; rintro e w1 ⟨rfl, HR1, HB1⟩)
            | (go_at_call 49; refine (F.out _ _ _).mono ?_; rintro e w12 ⟨rfl, rfl⟩))
          go_loopw [5, 31] (fun vq vi wr => ∃ i n : Nat, vi = .int .i64 (i : Int) ∧ vq = .int .i64 (n : Int) ∧ i ≤ 2 ∧ lenB s.toList L p i = .ok n ∧ Rd wr g s L (p + i + 1) l G vn vs ro ∧ Below g w wr ∧ p + i + 1 ≤ s.size) (fun _ vi _ => 2 - (intOf vi).toNat)
          case atStart => exact ⟨0, 0, rfl, rfl, by omega, rfl, HR1.out, HB1.out, HP1.out⟩
          case round =>
            obtain ⟨i, n, rfl, rfl, hi, hB, hR2, hb2, hq⟩ := hrel
            have hn := lenB_lt _ _ _ _ _ hB
            have HB := Lib.hid hB
            have HR2 := Lib.hid hR2
            have HB2 := Lib.hid hb2
            have HQ := Lib.hid hq
            clear hB hR2 hb2 hq
            by_cases him : i < 2
            · have ei : (i : Int) < 2 := by omega
              have hn2 : n < 18014398509481984 := Nat.lt_of_lt_of_le hn (Nat.le_trans (Nat.pow_le_pow_right (by decide) (show i ≤ 4 by omega)) (by decide))
              clear hn
              by_cases h5 : p + i + 1 < s.size ∧ p + i + 1 < L.bytes
              · have N2 := Lib.hid (next_yes HR2.out h5.1 h5.2 HZ.out _ rfl)
                obtain ⟨d, hd⟩ : ∃ d, (s.toList.getD (p + i + 1) 0).toNat = d := ⟨_, rfl⟩
                have hd2 : d < 256 := by rw [← hd]; exact (s.toList.getD (p + i + 1) 0).toNat_lt
                rw [hd] at N2
                have hat := u8_at s (p + i + 1) d hd
                have hh := has_yes s L (p + i + 1) h5
                have H5 := Lib.hid (show p + (i + 1) + 1 ≤ s.size by omega)
                clear hd h5
                by_cases h6 : i = 0 ∧ d = 0
                · obtain ⟨rfl, rfl⟩ := h6
                  obtain rfl : R = .no 9 (p + 1) false := by
                    rw [← HRR.out.1]
                    exact lenR_no HRR.out.2.1 HRR.out.2.2.1 HRR.out.2.2.2.1 HRR.out.2.2.2.2 (lenB_no_le (lenB_zero hh hat) (by decide))
                  clear hh hat hd2 hn2
                  have e9 : (p : Int) < 140737488351232 := by have := H5.out; have := HZ.out; omega
                  go_wp2_with (first
                    | (go_at_call 45; refine (place_yes (by first | exact HR3.out | exact HR2.out | exact HR1.out | exact HR.out)).mono ?_; rintro e w3 ⟨rfl, rfl⟩)
                    | (go_at_call 48; refine N2.out.mono ?_; rintro e w3 ⟨rfl, HR3, HB3⟩)
                    | (go_at_call 49; refine (F.out _ _ _).mono ?_; rintro e w32 ⟨rfl, rfl⟩))
                  exact ⟨rfl, rfl, HB2.out.trans HB3.out⟩
                · have HN := Lib.hid (lenB_next HB.out hh hat h6)
                  have HO := Lib.hid (show bits .or .i64 ((n : Int) * 256) (d : Int) = ((256 * n + d : Nat) : Int) by rw [← or8 n d hd2 hn2]; congr 1; omega)
                  have e9 : (p : Int) < 140737488351232 := by have := H5.out; have := HZ.out; omega
                  have hw := w64_pow n 8 (by omega)
                  clear hh hat
                  by_cases h7 : i = 0
                  · subst h7
                    have e8 : ((d : Int) == 0) = false := by rw [beq_eq_false_iff_ne]; omega
                    clear h6
                    go_wp2_with (first
                      | (go_at_call 45; refine (place_yes (by first | exact HR3.out | exact HR2.out | exact HR1.out | exact HR.out)).mono ?_; rintro e w3 ⟨rfl, rfl⟩)
                      | (go_at_call 48; refine N2.out.mono ?_; rintro e w3 ⟨rfl, HR3, HB3⟩)
                      | (go_at_call 49; refine (F.out _ _ _).mono ?_; rintro e w32 ⟨rfl, rfl⟩))
                    go_roundw
                    case rel => exact ⟨0 + 1, 256 * n + d, rfl, congrArg (Value.int .i64) HO.out, by omega, HN.out, HR3.out, HB2.out.trans HB3.out, H5.out⟩
                    case measure => simp [intOf]
                  · have e8 : ((i : Int) == 0) = false := by rw [beq_eq_false_iff_ne]; omega
                    clear h6
                    go_wp2_with (first
                      | (go_at_call 45; refine (place_yes (by first | exact HR3.out | exact HR2.out | exact HR1.out | exact HR.out)).mono ?_; rintro e w3 ⟨rfl, rfl⟩)
                      | (go_at_call 48; refine N2.out.mono ?_; rintro e w3 ⟨rfl, HR3, HB3⟩)
                      | (go_at_call 49; refine (F.out _ _ _).mono ?_; rintro e w32 ⟨rfl, rfl⟩))
                    go_roundw
                    case rel => exact ⟨i + 1, 256 * n + d, by go_num, congrArg (Value.int .i64) HO.out, by omega, HN.out, HR3.out, HB2.out.trans HB3.out, H5.out⟩
                    case measure => simp [intOf]; omega
              · obtain rfl : R = .no (lkE L.bytes s) (lkP L.bytes s) (decide (s.size ≤ L.bytes)) := by
                  have := lenB_lack HB.out (has_no s L (p + i + 1) h5)
                  rw [lack_eq] at this
                  rw [← HRR.out.1]
                  exact lenR_no HRR.out.2.1 HRR.out.2.2.1 HRR.out.2.2.2.1 HRR.out.2.2.2.2 (lenB_no_le this (by omega))
                have N2 := Lib.hid (next_lack HR2.out h5 (by have := HQ.out; have := HZ.out; omega))
                clear h5 hn2
                go_wp2_with (first
                  | (go_at_call 45; refine (place_yes (by first | exact HR3.out | exact HR2.out | exact HR1.out | exact HR.out)).mono ?_; rintro e w3 ⟨rfl, rfl⟩)
                  | (go_at_call 48; refine N2.out.mono ?_; rintro e w3 ⟨rfl, hb⟩)
                  | (go_at_call 49; refine (F.out _ _ _).mono ?_; rintro e w32 ⟨rfl, rfl⟩))
                exact ⟨rfl, rfl, HB2.out.trans hb⟩
            · obtain rfl : i = 2 := by omega
              have e9 : (p : Int) < 140737488351232 := by have := HQ.out; have := HZ.out; omega
              by_cases h8 : n < 128
              · have e8 : (n : Int) < 128 := by omega
                obtain rfl : R = .no 9 (p + 2) false := by
                  rw [← HRR.out.1]
                  exact lenR_small HRR.out.2.1 HRR.out.2.2.1 HRR.out.2.2.2.1 HRR.out.2.2.2.2 HB.out h8
                clear h8 him hi hn
                go_wp2_with (first
                  | (go_at_call 45; refine (place_yes (by first | exact HR3.out | exact HR2.out | exact HR1.out | exact HR.out)).mono ?_; rintro e w3 ⟨rfl, rfl⟩)
                  | (go_at_call 48; refine N2.out.mono ?_; rintro e w3 ⟨rfl, HR3, HB3⟩)
                  | (go_at_call 49; refine (F.out _ _ _).mono ?_; rintro e w32 ⟨rfl, rfl⟩))
                exact ⟨rfl, rfl, HB2.out⟩
              · have e8 : ¬ (n : Int) < 128 := by omega
                obtain rfl : R = .ok (n, p + 2 + 1) := by
                  rw [← HRR.out.1]
                  exact lenR_long HRR.out.2.1 HRR.out.2.2.1 HRR.out.2.2.2.1 HRR.out.2.2.2.2 HB.out h8
                clear h8 him hi hn
                go_wp2_with (first
                  | (go_at_call 45; refine (place_yes (by first | exact HR3.out | exact HR2.out | exact HR1.out | exact HR.out)).mono ?_; rintro e w3 ⟨rfl, rfl⟩)
                  | (go_at_call 48; refine N2.out.mono ?_; rintro e w3 ⟨rfl, HR3, HB3⟩)
                  | (go_at_call 49; refine (F.out _ _ _).mono ?_; rintro e w32 ⟨rfl, rfl⟩))
                go_ret
                exact ⟨rfl, HR2, HB2⟩
        · clear h1 h2 hb2
          go_enter Tryd.func63, Tryd.ntmps63
          go_wp2_with (first
            | (go_at_call 45; refine (place_yes (by first | exact HR3.out | exact HR2.out | exact HR1.out | exact HR.out)).mono ?_; rintro e w1 ⟨rfl, rfl⟩)
            | (go_at_call 48; refine N.out.mono ?_; rintro e w1 ⟨rfl, HR1, HB1⟩)
            | (go_at_call 49; refine (F.out _ _ _).mono ?_; rintro e w12 ⟨rfl, rfl⟩))
          go_loopw [5, 31] (fun vq vi wr => ∃ i n : Nat, vi = .int .i64 (i : Int) ∧ vq = .int .i64 (n : Int) ∧ i ≤ 3 ∧ lenB s.toList L p i = .ok n ∧ Rd wr g s L (p + i + 1) l G vn vs ro ∧ Below g w wr ∧ p + i + 1 ≤ s.size) (fun _ vi _ => 3 - (intOf vi).toNat)
          case atStart => exact ⟨0, 0, rfl, rfl, by omega, rfl, HR1.out, HB1.out, HP1.out⟩
          case round =>
            obtain ⟨i, n, rfl, rfl, hi, hB, hR2, hb2, hq⟩ := hrel
            have hn := lenB_lt _ _ _ _ _ hB
            have HB := Lib.hid hB
            have HR2 := Lib.hid hR2
            have HB2 := Lib.hid hb2
            have HQ := Lib.hid hq
            clear hB hR2 hb2 hq
            by_cases him : i < 3
            · have ei : (i : Int) < 3 := by omega
              have hn2 : n < 18014398509481984 := Nat.lt_of_lt_of_le hn (Nat.le_trans (Nat.pow_le_pow_right (by decide) (show i ≤ 4 by omega)) (by decide))
              clear hn
              by_cases h5 : p + i + 1 < s.size ∧ p + i + 1 < L.bytes
              · have N2 := Lib.hid (next_yes HR2.out h5.1 h5.2 HZ.out _ rfl)
                obtain ⟨d, hd⟩ : ∃ d, (s.toList.getD (p + i + 1) 0).toNat = d := ⟨_, rfl⟩
                have hd2 : d < 256 := by rw [← hd]; exact (s.toList.getD (p + i + 1) 0).toNat_lt
                rw [hd] at N2
                have hat := u8_at s (p + i + 1) d hd
                have hh := has_yes s L (p + i + 1) h5
                have H5 := Lib.hid (show p + (i + 1) + 1 ≤ s.size by omega)
                clear hd h5
                by_cases h6 : i = 0 ∧ d = 0
                · obtain ⟨rfl, rfl⟩ := h6
                  obtain rfl : R = .no 9 (p + 1) false := by
                    rw [← HRR.out.1]
                    exact lenR_no HRR.out.2.1 HRR.out.2.2.1 HRR.out.2.2.2.1 HRR.out.2.2.2.2 (lenB_no_le (lenB_zero hh hat) (by decide))
                  clear hh hat hd2 hn2
                  have e9 : (p : Int) < 140737488351232 := by have := H5.out; have := HZ.out; omega
                  go_wp2_with (first
                    | (go_at_call 45; refine (place_yes (by first | exact HR3.out | exact HR2.out | exact HR1.out | exact HR.out)).mono ?_; rintro e w3 ⟨rfl, rfl⟩)
                    | (go_at_call 48; refine N2.out.mono ?_; rintro e w3 ⟨rfl, HR3, HB3⟩)
                    | (go_at_call 49; refine (F.out _ _ _).mono ?_; rintro e w32 ⟨rfl, rfl⟩))
                  exact ⟨rfl, rfl, HB2.out.trans HB3.out⟩
                · have HN := Lib.hid (lenB_next HB.out hh hat h6)
                  have HO := Lib.hid (show bits .or .i64 ((n : Int) * 256) (d : Int) = ((256 * n + d : Nat) : Int) by rw [← or8 n d hd2 hn2]; congr 1; omega)
                  have e9 : (p : Int) < 140737488351232 := by have := H5.out; have := HZ.out; omega
                  have hw := w64_pow n 8 (by omega)
                  clear hh hat
                  by_cases h7 : i = 0
                  · subst h7
                    have e8 : ((d : Int) == 0) = false := by rw [beq_eq_false_iff_ne]; omega
                    clear h6
                    go_wp2_with (first
                      | (go_at_call 45; refine (place_yes (by first | exact HR3.out | exact HR2.out | exact HR1.out | exact HR.out)).mono ?_; rintro e w3 ⟨rfl, rfl⟩)
                      | (go_at_call 48; refine N2.out.mono ?_; rintro e w3 ⟨rfl, HR3, HB3⟩)
                      | (go_at_call 49; refine (F.out _ _ _).mono ?_; rintro e w32 ⟨rfl, rfl⟩))
                    go_roundw
                    case rel => exact ⟨0 + 1, 256 * n + d, rfl, congrArg (Value.int .i64) HO.out, by omega, HN.out, HR3.out, HB2.out.trans HB3.out, H5.out⟩
                    case measure => simp [intOf]
                  · have e8 : ((i : Int) == 0) = false := by rw [beq_eq_false_iff_ne]; omega
                    clear h6
                    go_wp2_with (first
                      | (go_at_call 45; refine (place_yes (by first | exact HR3.out | exact HR2.out | exact HR1.out | exact HR.out)).mono ?_; rintro e w3 ⟨rfl, rfl⟩)
                      | (go_at_call 48; refine N2.out.mono ?_; rintro e w3 ⟨rfl, HR3, HB3⟩)
                      | (go_at_call 49; refine (F.out _ _ _).mono ?_; rintro e w32 ⟨rfl, rfl⟩))
                    go_roundw
                    case rel => exact ⟨i + 1, 256 * n + d, by go_num, congrArg (Value.int .i64) HO.out, by omega, HN.out, HR3.out, HB2.out.trans HB3.out, H5.out⟩
                    case measure => simp [intOf]; omega
              · obtain rfl : R = .no (lkE L.bytes s) (lkP L.bytes s) (decide (s.size ≤ L.bytes)) := by
                  have := lenB_lack HB.out (has_no s L (p + i + 1) h5)
                  rw [lack_eq] at this
                  rw [← HRR.out.1]
                  exact lenR_no HRR.out.2.1 HRR.out.2.2.1 HRR.out.2.2.2.1 HRR.out.2.2.2.2 (lenB_no_le this (by omega))
                have N2 := Lib.hid (next_lack HR2.out h5 (by have := HQ.out; have := HZ.out; omega))
                clear h5 hn2
                go_wp2_with (first
                  | (go_at_call 45; refine (place_yes (by first | exact HR3.out | exact HR2.out | exact HR1.out | exact HR.out)).mono ?_; rintro e w3 ⟨rfl, rfl⟩)
                  | (go_at_call 48; refine N2.out.mono ?_; rintro e w3 ⟨rfl, hb⟩)
                  | (go_at_call 49; refine (F.out _ _ _).mono ?_; rintro e w32 ⟨rfl, rfl⟩))
                exact ⟨rfl, rfl, HB2.out.trans hb⟩
            · obtain rfl : i = 3 := by omega
              have e9 : (p : Int) < 140737488351232 := by have := HQ.out; have := HZ.out; omega
              by_cases h8 : n < 128
              · have e8 : (n : Int) < 128 := by omega
                obtain rfl : R = .no 9 (p + 3) false := by
                  rw [← HRR.out.1]
                  exact lenR_small HRR.out.2.1 HRR.out.2.2.1 HRR.out.2.2.2.1 HRR.out.2.2.2.2 HB.out h8
                clear h8 him hi hn
                go_wp2_with (first
                  | (go_at_call 45; refine (place_yes (by first | exact HR3.out | exact HR2.out | exact HR1.out | exact HR.out)).mono ?_; rintro e w3 ⟨rfl, rfl⟩)
                  | (go_at_call 48; refine N2.out.mono ?_; rintro e w3 ⟨rfl, HR3, HB3⟩)
                  | (go_at_call 49; refine (F.out _ _ _).mono ?_; rintro e w32 ⟨rfl, rfl⟩))
                exact ⟨rfl, rfl, HB2.out⟩
              · have e8 : ¬ (n : Int) < 128 := by omega
                obtain rfl : R = .ok (n, p + 3 + 1) := by
                  rw [← HRR.out.1]
                  exact lenR_long HRR.out.2.1 HRR.out.2.2.1 HRR.out.2.2.2.1 HRR.out.2.2.2.2 HB.out h8
                clear h8 him hi hn
                go_wp2_with (first
                  | (go_at_call 45; refine (place_yes (by first | exact HR3.out | exact HR2.out | exact HR1.out | exact HR.out)).mono ?_; rintro e w3 ⟨rfl, rfl⟩)
                  | (go_at_call 48; refine N2.out.mono ?_; rintro e w3 ⟨rfl, HR3, HB3⟩)
                  | (go_at_call 49; refine (F.out _ _ _).mono ?_; rintro e w32 ⟨rfl, rfl⟩))
                go_ret
                exact ⟨rfl, HR2, HB2⟩
        · clear h1 h2 hb2
          go_enter Tryd.func63, Tryd.ntmps63
          go_wp2_with (first
            | (go_at_call 45; refine (place_yes (by first | exact HR3.out | exact HR2.out | exact HR1.out | exact HR.out)).mono ?_; rintro e w1 ⟨rfl, rfl⟩)
            | (go_at_call 48; refine N.out.mono ?_; rintro e w1 ⟨rfl, HR1, HB1⟩)
            | (go_at_call 49; refine (F.out _ _ _).mono ?_; rintro e w12 ⟨rfl, rfl⟩))
          go_loopw [5, 31] (fun vq vi wr => ∃ i n : Nat, vi = .int .i64 (i : Int) ∧ vq = .int .i64 (n : Int) ∧ i ≤ 4 ∧ lenB s.toList L p i = .ok n ∧ Rd wr g s L (p + i + 1) l G vn vs ro ∧ Below g w wr ∧ p + i + 1 ≤ s.size) (fun _ vi _ => 4 - (intOf vi).toNat)
          case atStart => exact ⟨0, 0, rfl, rfl, by omega, rfl, HR1.out, HB1.out, HP1.out⟩
          case round =>
            obtain ⟨i, n, rfl, rfl, hi, hB, hR2, hb2, hq⟩ := hrel
            have hn := lenB_lt _ _ _ _ _ hB
            have HB := Lib.hid hB
            have HR2 := Lib.hid hR2
            have HB2 := Lib.hid hb2
            have HQ := Lib.hid hq
            clear hB hR2 hb2 hq
            by_cases him : i < 4
            · have ei : (i : Int) < 4 := by omega
              have hn2 : n < 18014398509481984 := Nat.lt_of_lt_of_le hn (Nat.le_trans (Nat.pow_le_pow_right (by decide) (show i ≤ 4 by omega)) (by decide))
              clear hn
              by_cases h5 : p + i + 1 < s.size ∧ p + i + 1 < L.bytes
              · have N2 := Lib.hid (next_yes HR2.out h5.1 h5.2 HZ.out _ rfl)
                obtain ⟨d, hd⟩ : ∃ d, (s.toList.getD (p + i + 1) 0).toNat = d := ⟨_, rfl⟩
                have hd2 : d < 256 := by rw [← hd]; exact (s.toList.getD (p + i + 1) 0).toNat_lt
                rw [hd] at N2
                have hat := u8_at s (p + i + 1) d hd
                have hh := has_yes s L (p + i + 1) h5
                have H5 := Lib.hid (show p + (i + 1) + 1 ≤ s.size by omega)
                clear hd h5
                by_cases h6 : i = 0 ∧ d = 0
                · obtain ⟨rfl, rfl⟩ := h6
                  obtain rfl : R = .no 9 (p + 1) false := by
                    rw [← HRR.out.1]
                    exact lenR_no HRR.out.2.1 HRR.out.2.2.1 HRR.out.2.2.2.1 HRR.out.2.2.2.2 (lenB_no_le (lenB_zero hh hat) (by decide))
                  clear hh hat hd2 hn2
                  have e9 : (p : Int) < 140737488351232 := by have := H5.out; have := HZ.out; omega
                  go_wp2_with (first
                    | (go_at_call 45; refine (place_yes (by first | exact HR3.out | exact HR2.out | exact HR1.out | exact HR.out)).mono ?_; rintro e w3 ⟨rfl, rfl⟩)
                    | (go_at_call 48; refine N2.out.mono ?_; rintro e w3 ⟨rfl, HR3, HB3⟩)
                    | (go_at_call 49; refine (F.out _ _ _).mono ?_; rintro e w32 ⟨rfl, rfl⟩))
                  exact ⟨rfl, rfl, HB2.out.trans HB3.out⟩
                · have HN := Lib.hid (lenB_next HB.out hh hat h6)
                  have HO := Lib.hid (show bits .or .i64 ((n : Int) * 256) (d : Int) = ((256 * n + d : Nat) : Int) by rw [← or8 n d hd2 hn2]; congr 1; omega)
                  have e9 : (p : Int) < 140737488351232 := by have := H5.out; have := HZ.out; omega
                  have hw := w64_pow n 8 (by omega)
                  clear hh hat
                  by_cases h7 : i = 0
                  · subst h7
                    have e8 : ((d : Int) == 0) = false := by rw [beq_eq_false_iff_ne]; omega
                    clear h6
                    go_wp2_with (first
                      | (go_at_call 45; refine (place_yes (by first | exact HR3.out | exact HR2.out | exact HR1.out | exact HR.out)).mono ?_; rintro e w3 ⟨rfl, rfl⟩)
                      | (go_at_call 48; refine N2.out.mono ?_; rintro e w3 ⟨rfl, HR3, HB3⟩)
                      | (go_at_call 49; refine (F.out _ _ _).mono ?_; rintro e w32 ⟨rfl, rfl⟩))
                    go_roundw
                    case rel => exact ⟨0 + 1, 256 * n + d, rfl, congrArg (Value.int .i64) HO.out, by omega, HN.out, HR3.out, HB2.out.trans HB3.out, H5.out⟩
                    case measure => simp [intOf]
                  · have e8 : ((i : Int) == 0) = false := by rw [beq_eq_false_iff_ne]; omega
                    clear h6
                    go_wp2_with (first
                      | (go_at_call 45; refine (place_yes (by first | exact HR3.out | exact HR2.out | exact HR1.out | exact HR.out)).mono ?_; rintro e w3 ⟨rfl, rfl⟩)
                      | (go_at_call 48; refine N2.out.mono ?_; rintro e w3 ⟨rfl, HR3, HB3⟩)
                      | (go_at_call 49; refine (F.out _ _ _).mono ?_; rintro e w32 ⟨rfl, rfl⟩))
                    go_roundw
                    case rel => exact ⟨i + 1, 256 * n + d, by go_num, congrArg (Value.int .i64) HO.out, by omega, HN.out, HR3.out, HB2.out.trans HB3.out, H5.out⟩
                    case measure => simp [intOf]; omega
              · obtain rfl : R = .no (lkE L.bytes s) (lkP L.bytes s) (decide (s.size ≤ L.bytes)) := by
                  have := lenB_lack HB.out (has_no s L (p + i + 1) h5)
                  rw [lack_eq] at this
                  rw [← HRR.out.1]
                  exact lenR_no HRR.out.2.1 HRR.out.2.2.1 HRR.out.2.2.2.1 HRR.out.2.2.2.2 (lenB_no_le this (by omega))
                have N2 := Lib.hid (next_lack HR2.out h5 (by have := HQ.out; have := HZ.out; omega))
                clear h5 hn2
                go_wp2_with (first
                  | (go_at_call 45; refine (place_yes (by first | exact HR3.out | exact HR2.out | exact HR1.out | exact HR.out)).mono ?_; rintro e w3 ⟨rfl, rfl⟩)
                  | (go_at_call 48; refine N2.out.mono ?_; rintro e w3 ⟨rfl, hb⟩)
                  | (go_at_call 49; refine (F.out _ _ _).mono ?_; rintro e w32 ⟨rfl, rfl⟩))
                exact ⟨rfl, rfl, HB2.out.trans hb⟩
            · obtain rfl : i = 4 := by omega
              have e9 : (p : Int) < 140737488351232 := by have := HQ.out; have := HZ.out; omega
              by_cases h8 : n < 128
              · have e8 : (n : Int) < 128 := by omega
                obtain rfl : R = .no 9 (p + 4) false := by
                  rw [← HRR.out.1]
                  exact lenR_small HRR.out.2.1 HRR.out.2.2.1 HRR.out.2.2.2.1 HRR.out.2.2.2.2 HB.out h8
                clear h8 him hi hn
                go_wp2_with (first
                  | (go_at_call 45; refine (place_yes (by first | exact HR3.out | exact HR2.out | exact HR1.out | exact HR.out)).mono ?_; rintro e w3 ⟨rfl, rfl⟩)
                  | (go_at_call 48; refine N2.out.mono ?_; rintro e w3 ⟨rfl, HR3, HB3⟩)
                  | (go_at_call 49; refine (F.out _ _ _).mono ?_; rintro e w32 ⟨rfl, rfl⟩))
                exact ⟨rfl, rfl, HB2.out⟩
              · have e8 : ¬ (n : Int) < 128 := by omega
                obtain rfl : R = .ok (n, p + 4 + 1) := by
                  rw [← HRR.out.1]
                  exact lenR_long HRR.out.2.1 HRR.out.2.2.1 HRR.out.2.2.2.1 HRR.out.2.2.2.2 HB.out h8
                clear h8 him hi hn
                go_wp2_with (first
                  | (go_at_call 45; refine (place_yes (by first | exact HR3.out | exact HR2.out | exact HR1.out | exact HR.out)).mono ?_; rintro e w3 ⟨rfl, rfl⟩)
                  | (go_at_call 48; refine N2.out.mono ?_; rintro e w3 ⟨rfl, HR3, HB3⟩)
                  | (go_at_call 49; refine (F.out _ _ _).mono ?_; rintro e w32 ⟨rfl, rfl⟩))
                go_ret
                exact ⟨rfl, HR2, HB2⟩
  · rw [lenR_lack (has_no s L p h0), lack_eq]
    have N := Lib.hid (next_lack HR.out h0 (by have := HP.out; have := HZ.out; omega))
    clear h0
    go_enter Tryd.func63, Tryd.ntmps63
    go_wp2_with (first
      | (go_at_call 45; refine (place_yes HR.out).mono ?_; rintro e w1 ⟨rfl, rfl⟩)
      | (go_at_call 48; refine N.out.mono ?_; rintro e w1 ⟨rfl, hb⟩))
    exact ⟨rfl, rfl, hb⟩
end Go.Proofs.YteglahkgnggmgaaDoor
