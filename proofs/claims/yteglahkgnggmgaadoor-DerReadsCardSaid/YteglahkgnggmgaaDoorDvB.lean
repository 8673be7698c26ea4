/- The document's reader: a length; all of a body. -/
import Derived.Test.YteglahkgnggmgaaDoorDvA
namespace Go.Proofs.YteglahkgnggmgaaDoor
open Go.RowKit
set_option linter.unusedVariables false
set_option linter.unusedSimpArgs false
open Dr
def DLen (r : Rs (Nat × Nat)) (g : Nat) (s : ByteArray) (L : Lm) (ro : Int) (O : List Nd) (fr : Nat) (w : World) (e : Ending) (w' : World) : Prop :=
  match r with
  | .ok (n, q) => Yes (.tuple #[.int .i64 (n : Int), .int .i64 (q : Int), .bool true]) g s L ro O fr w e w'
  | .no c q b => Nay (.tuple #[.int .i64 0, .int .i64 0, .bool false]) g s L ro c q b w e w'
theorem dlack_eq {α : Type} (s : ByteArray) (L : Lm) : (lack s.toList L : Rs α) = .no (lackE s.toList L) (lackP s.toList L) (decide (s.toList.length ≤ L.bytes)) := rfl
theorem dfault_ok {w : World} {g : Nat} {s : ByteArray} {L : Lm} {ro : Int} {O : List Nd} {fr : Nat} (h : Rok w g s L ro O fr) (z c : Int) (q : Nat) (hz : (q : Int) = z) :
    Calls Tryd.prog 52 #[.pointer (some ⟨g, 0, none⟩), .int .i64 z, .int .i64 c] w (Nay (.bool false) g s L ro c q false w) := by
  obtain ⟨vo, tk, h⟩ := h
  exact dfault_any h z c q hz
theorem Rok.txt {w : World} {g : Nat} {s : ByteArray} {L : Lm} {ro : Int} {O : List Nd} {fr : Nat} (h : Rok w g s L ro O fr) : w.cell? ⟨g, 0, none⟩ = some (.string s) := by
  obtain ⟨vo, tk, h⟩ := h
  have h0 := h.at0.cell 0 _ rfl
  rw [Nat.zero_add] at h0
  exact h0
set_option maxRecDepth 100000 in
set_option maxHeartbeats 1600000 in
theorem dlength_any {w : World} {g : Nat} {s : ByteArray} {L : Lm} {ro : Int} {O : List Nd} {fr : Nat} (h : Rok w g s L ro O fr) (z : Int) (p : Nat) (hz : (p : Int) = z) (hs : s.size ≤ 140737488351232) (hp : p ≤ s.size) :
    Calls Tryd.prog 68 #[.pointer (some ⟨g, 0, none⟩), .int .i64 z] w (DLen (lenR s.toList L p) g s L ro O fr w) := by
  subst hz
  obtain ⟨R, hR⟩ : ∃ R, lenR s.toList L p = R := ⟨_, rfl⟩
  rw [hR]
  have hp9 : (p : Int) ≤ 140737488351232 := by omega
  by_cases h1 : p < s.size ∧ p < L.bytes
  · have hh := has_yes s L p h1
    have W := Lib.hid (dwant_yes h (p : Int) p rfl h1.1 h1.2 hs)
    obtain ⟨b, hb⟩ : ∃ b, (s.toList.getD p 0).toNat = b := ⟨_, rfl⟩
    have hat : at0S s.toList p = b := hb
    have hb2 : b < 256 := by rw [← hb]; exact (s.toList.getD p 0).toNat_lt
    have e1 : (p : Int) < (s.size : Int) := by omega
    have hlt : p < s.size := h1.1
    have hsp : s[p].toNat = b := by rw [← tl_getD s p hlt]; exact hb
    have hwb : IntKind.i64.wrap (b : Int) = (b : Int) := wrap_fit b (by unfold maxLen; omega)
    by_cases h2 : b < 128
    · obtain rfl : R = .ok (b, p + 1) := by rw [← hR]; exact lenR_short hh hat h2
      have e2 : (b : Int) < 128 := by omega
      clear hR h hh hat h1 h2 hs hp
      go_enter Tryd.func68, Tryd.ntmps68
      go_wp2_with (first | (go_at_call 51; refine W.out.mono ?_; rintro e w1 ⟨rfl, HR1, HB1⟩; have g0 := HR1.out.txt) | (go_at_call 52; refine (dfault_ok HR1.out _ _ p rfl).mono ?_; rintro e w2 ⟨rfl, HR2, HB2⟩))
      go_ret3
      exact ⟨rfl, HR1, HB1⟩
    · have e2 : ¬ (b : Int) < 128 := by omega
      by_cases h3 : b = 128
      · subst h3
        obtain rfl : R = .no 9 p false := by rw [← hR]; exact lenR_bad hh hat h2 (.inl rfl)
        clear hR h hh hat h1 h2 hs hp
        go_enter Tryd.func68, Tryd.ntmps68
        go_wp2_with (first | (go_at_call 51; refine W.out.mono ?_; rintro e w1 ⟨rfl, HR1, HB1⟩; have g0 := HR1.out.txt) | (go_at_call 52; refine (dfault_ok HR1.out _ _ p rfl).mono ?_; rintro e w2 ⟨rfl, HR2, HB2⟩))
        go_ret3
        exact ⟨rfl, HR2, HB1.out.trans HB2.out⟩
      · by_cases h4 : 132 < b
        · obtain rfl : R = .no 9 p false := by rw [← hR]; exact lenR_bad hh hat h2 (.inr h4)
          have e4 : (132 : Int) < (b : Int) := by omega
          have e5 : ¬ (b : Int) = 128 := by omega
          clear hR h hh hat h1 h2 h3 h4 hs hp
          go_enter Tryd.func68, Tryd.ntmps68
          go_wp2_with (first | (go_at_call 51; refine W.out.mono ?_; rintro e w1 ⟨rfl, HR1, HB1⟩; have g0 := HR1.out.txt) | (go_at_call 52; refine (dfault_ok HR1.out _ _ p rfl).mono ?_; rintro e w2 ⟨rfl, HR2, HB2⟩))
          go_ret3
          exact ⟨rfl, HR2, HB1.out.trans HB2.out⟩
        · have e4 : ¬ (132 : Int) < (b : Int) := by omega
          have e5 : ¬ (b : Int) = 128 := by omega
          have e5b : ((b : Int) == 128) = false := by rw [beq_eq_false_iff_ne]; exact e5
          have e4b : decide ((132 : Int) < (b : Int)) = false := decide_eq_false e4
          obtain ⟨k, hk⟩ : ∃ k, b - 128 = k := ⟨_, rfl⟩
          have ek : (b : Int) - 128 = (k : Int) := by omega
          have HK := Lib.hid (And.intro hk (And.intro h2 (And.intro (show ¬ (b = 128 ∨ 132 < b) by omega) (show 1 ≤ k ∧ k ≤ 4 by omega))))
          have HH := Lib.hid (And.intro hh (And.intro hat hR))
          have HS := Lib.hid (And.intro hs hlt)
          clear hR h hh hat h1 h2 h3 h4 hs hp hk
          go_enter Tryd.func68, Tryd.ntmps68
          go_wp2_with (first | (go_at_call 51; refine W.out.mono ?_; rintro e w1 ⟨rfl, HR1, HB1⟩; have g0 := HR1.out.txt) | (go_at_call 52; refine (dfault_ok HR1.out _ _ p rfl).mono ?_; rintro e w2 ⟨rfl, HR2, HB2⟩))
          go_loopw [8, 9] (fun vn vi wr => ∃ i n : Nat, vi = .int .i64 ((i + 1 : Nat) : Int) ∧ vn = .int .i64 (n : Int) ∧ i ≤ k ∧ lenB s.toList L p i = .ok n ∧ Hid (Rok wr g s L ro O fr) ∧ Hid (Below g w wr)) (fun _ vi _ => k + 1 - (intOf vi).toNat)
          case atStart => exact ⟨0, 0, rfl, rfl, Nat.zero_le _, rfl, HR1, HB1⟩
          case round =>
            obtain ⟨i, n, rfl, rfl, hi, hB, HR2, HB2⟩ := hrel
            have g2 := HR2.out.txt
            have HBi := Lib.hid hB
            have hn := lenB_lt _ _ _ _ _ hB
            have hk4 : k ≤ 4 := HK.out.2.2.2.2
            have hn2 : n < 18014398509481984 := Nat.lt_of_lt_of_le hn (Nat.le_trans (Nat.pow_le_pow_right (by decide) (show i ≤ 4 by omega)) (by decide))
            have ei9 : IntKind.i64.wrap ((i + 1 : Nat) : Int) = ((i + 1 : Nat) : Int) := wrap_fit (i + 1) (by unfold maxLen; omega)
            by_cases hik : i < k
            · have e6 : (i : Int) + 1 ≤ (k : Int) := by omega
              by_cases h5 : p + i + 1 < s.size ∧ p + i + 1 < L.bytes
              · have hlt2 : p + (i + 1) < s.size := h5.1
                have hh2 := has_yes s L (p + i + 1) h5
                obtain ⟨d, hd⟩ : ∃ d, (s.toList.getD (p + i + 1) 0).toNat = d := ⟨_, rfl⟩
                have hat2 : at0S s.toList (p + i + 1) = d := hd
                have hd2 : d < 256 := by rw [← hd]; exact (s.toList.getD (p + i + 1) 0).toNat_lt
                have hsd : s[p + (i + 1)].toNat = d := by rw [← tl_getD s _ hlt2]; exact hd
                have hwd : IntKind.i64.wrap (d : Int) = (d : Int) := wrap_fit d (by unfold maxLen; omega)
                have W2 := Lib.hid (dwant_yes HR2.out ((p : Int) + ((i : Int) + 1)) (p + i + 1) (by omega) h5.1 h5.2 HS.out.1)
                have e7 : (p : Int) + ((i : Int) + 1) < (s.size : Int) := by omega
                by_cases h6 : i = 0 ∧ d = 0
                · obtain ⟨rfl, rfl⟩ := h6
                  obtain rfl : R = .no 9 (p + 1) false := by
                    rw [← HH.out.2.2]
                    refine lenR_no HH.out.1 HH.out.2.1 HK.out.2.1 HK.out.2.2.1 (lenB_no_le (lenB_zero hh2 hat2) ?_)
                    have := HK.out.1; omega
                  clear h5 hh2 hat2 hd2 hn hn2 hB hk4 hik hi
                  go_wp2_with (first | (go_at_call 51; refine W2.out.mono ?_; rintro e w3 ⟨rfl, HR3, HB3⟩; have g3 := HR3.out.txt) | (go_at_call 52; refine (dfault_ok HR3.out _ _ (p + 1) (by first | rfl | omega)).mono ?_; rintro e w4 ⟨rfl, HR4, HB4⟩))
                  go_ret3
                  exact ⟨rfl, HR4, (HB2.out.trans HB3.out).trans HB4.out⟩
                · have HN := Lib.hid (lenB_next HBi.out hh2 hat2 h6)
                  obtain ⟨m, hm⟩ : ∃ m, 256 * n + d = m := ⟨_, rfl⟩
                  obtain ⟨y, hy⟩ : ∃ y, 256 * n = y := ⟨_, rfl⟩
                  rw [hm] at HN
                  have e10 : 256 * (n : Int) = (y : Int) := by omega
                  have e11 : (y : Int) + (d : Int) = (m : Int) := by omega
                  have e12 : IntKind.i64.wrap (y : Int) = (y : Int) := wrap_fit y (by unfold maxLen; omega)
                  have e13 : IntKind.i64.wrap (m : Int) = (m : Int) := wrap_fit m (by unfold maxLen; omega)
                  have hcase : (i = 0 ∧ ¬ d = 0) ∨ (∃ j, i = j + 1) := by
                    cases i with
                    | zero => exact .inl ⟨rfl, fun h => h6 ⟨rfl, h⟩⟩
                    | succ j => exact .inr ⟨j, rfl⟩
                  clear h5 hh2 hat2 hn hn2 hB h6 hm hy
                  rcases hcase with ⟨rfl, h7⟩ | ⟨j, rfl⟩
                  · have e14 : ((d : Int) == 0) = false := by rw [beq_eq_false_iff_ne]; omega
                    go_wp2_with (first | (go_at_call 51; refine W2.out.mono ?_; rintro e w3 ⟨rfl, HR3, HB3⟩; have g3 := HR3.out.txt))
                    go_roundw
                    case rel => exact ⟨0 + 1, m, rfl, rfl, by omega, HN.out, HR3, HB2.out.trans HB3.out⟩
                    case measure => simp [intOf]; omega
                  · have e14 : (((j + 1 + 1 : Nat) : Int) == 1) = false := by rw [beq_eq_false_iff_ne]; omega
                    go_wp2_with (first | (go_at_call 51; refine W2.out.mono ?_; rintro e w3 ⟨rfl, HR3, HB3⟩; have g3 := HR3.out.txt))
                    go_roundw
                    case rel => exact ⟨j + 1 + 1, m, by go_num, rfl, by omega, HN.out, HR3, HB2.out.trans HB3.out⟩
                    case measure => simp [intOf]; omega
              · obtain rfl : R = lack s.toList L := by
                  have h7 := lenB_lack HBi.out (has_no s L (p + i + 1) h5)
                  rw [dlack_eq] at h7 ⊢
                  rw [← HH.out.2.2]
                  refine lenR_no HH.out.1 HH.out.2.1 HK.out.2.1 HK.out.2.2.1 (lenB_no_le h7 ?_)
                  have := HK.out.1; omega
                have W2 := Lib.hid (dwant_no HR2.out ((p : Int) + ((i : Int) + 1)) (p + i + 1) (by omega) h5)
                rw [dlack_eq]
                clear h5 hn hn2 hB hk4 hik hi
                go_wp2_with (first | (go_at_call 51; refine W2.out.mono ?_; rintro e w3 ⟨rfl, HR3, HB3⟩))
                go_ret3
                exact ⟨rfl, HR3, HB2.out.trans HB3.out⟩
            · obtain rfl : i = k := by omega
              have e6 : ¬ ((i + 1 : Nat) : Int) ≤ (i : Int) := by omega
              by_cases h8 : n < 128
              · have e8 : (n : Int) < 128 := by omega
                obtain rfl : R = .no 9 (p + i) false := by
                  rw [← HH.out.2.2, ← HK.out.1]
                  refine lenR_small HH.out.1 HH.out.2.1 HK.out.2.1 HK.out.2.2.1 (n := n) ?_ h8
                  rw [HK.out.1]; exact HBi.out
                have e9 : (p : Int) + (b : Int) - 128 = ((p + i : Nat) : Int) := by omega
                clear h8 hi hn hn2 hB hk4 hik
                go_wp2_with (first | (go_at_call 52; refine (dfault_ok HR2.out _ _ (p + i) (by first | rfl | omega)).mono ?_; rintro e w3 ⟨rfl, HR3, HB3⟩))
                go_ret3
                exact ⟨rfl, HR3, HB2.out.trans HB3.out⟩
              · have e8 : ¬ (n : Int) < 128 := by omega
                obtain rfl : R = .ok (n, p + i + 1) := by
                  rw [← HH.out.2.2, ← HK.out.1]
                  refine lenR_long HH.out.1 HH.out.2.1 HK.out.2.1 HK.out.2.2.1 (n := n) ?_ h8
                  rw [HK.out.1]; exact HBi.out
                have e9 : (p : Int) + (b : Int) - 127 = ((p + i + 1 : Nat) : Int) := by omega
                clear h8 hi hn hn2 hB hk4 hik
                go_wp2_with fail
                go_ret3
                exact ⟨rfl, HR2, HB2⟩
  · obtain rfl : R = lack s.toList L := by rw [← hR]; exact lenR_lack (has_no s L p h1)
    have W := Lib.hid (dwant_no h (p : Int) p rfl h1)
    rw [dlack_eq]
    clear hR h h1 hs hp
    go_enter Tryd.func68, Tryd.ntmps68
    go_wp2_with (first | (go_at_call 51; refine W.out.mono ?_; rintro e w1 ⟨rfl, HR1, HB1⟩))
    go_ret3
    exact ⟨rfl, HR1, HB1⟩
end Go.Proofs.YteglahkgnggmgaaDoor
