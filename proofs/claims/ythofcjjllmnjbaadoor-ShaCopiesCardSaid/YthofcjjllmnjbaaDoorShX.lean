/- The walk of ShaCopies. -/
import Derived.Test.YthofcjjllmnjbaaDoorShV
namespace Go.Proofs.YthofcjjllmnjbaaDoor
open Go.RowKit
set_option linter.unusedVariables false
set_option linter.unusedSimpArgs false
theorem arr3 {w : World} {g : Nat} {x y z : Value} (h : At w g 0 [x, y, z]) : w.cell? ⟨g, 0, none⟩ = some x ∧ w.cell? ⟨g, 1, none⟩ = some y ∧ w.cell? ⟨g, 2, none⟩ = some z :=
  ⟨h.cell 0 _ rfl, h.cell 1 _ rfl, h.cell 2 _ rfl⟩
theorem arr_by (w : World) (a b c : ByteArray) : ∃ w1, w.alloc (Obj.cells #[.string a, .string b, .string c] 48) = w1 ∧ At w1 w.heap.size 0 [.string a, .string b, .string c] ∧ Below w.heap.size w w1 ∧ w1.heap.size = w.heap.size + 1 :=
  ⟨_, rfl, At.ofAlloc w #[.string a, .string b, .string c] 48, (Below.refl _ _).alloc (Nat.le_refl _) _, by simp⟩
set_option maxRecDepth 100000 in
set_option maxHeartbeats 3200000 in
theorem shaCopies_no (kind : Int) (hk : Sh.known kind = false) (a b c : ByteArray) (w : World) (hF : Tb w) : Calls Tryd.prog 6 #[.int .i64 kind, .agg #[.string a, .string b, .string c]] w (RetT w) := by
  have HF := Lib.hid hF
  have HK := Lib.hid hk
  clear hF hk
  go_enter Tryd.func6, Tryd.ntmps6
  go_wp2_with fail
  obtain ⟨w1, hw1, hA, hb1, hs1⟩ := arr_by w a b c
  rw [hw1]
  have HF1 := Lib.hid (HF.out.below hb1 HF.out.2.2)
  have HB1 := Lib.hid hb1
  clear hw1 hA hb1 hs1
  refine (new_no kind HK.out _).mono ?_
  rintro e w2 ⟨rfl, rfl⟩
  go_wp2_with fail
  refine (wakes3_any _ HF1.out).mono ?_
  rintro e w2 ⟨rfl, hb2⟩
  have HB2 := Lib.hid (HB1.out.trans (hb2.mono HB1.out.size))
  clear hb2
  go_wp2_with fail
  refine (known_any kind _).mono ?_
  rintro e w3 ⟨rfl, rfl⟩
  rw [HK.out]
  go_wp2_with fail
  go_ret
  exact ⟨rfl, HB2.out⟩
set_option maxRecDepth 100000 in
set_option maxHeartbeats 3200000 in
theorem shaCopies_long (kind : Int) (hk : Sh.known kind = true) (a b c : ByteArray) (hl : (5000 : Int) < (a.size : Int) ∨ (¬ (5000 : Int) < (a.size : Int) ∧ (5000 : Int) < (b.size : Int)) ∨ (¬ (5000 : Int) < (a.size : Int) ∧ ¬ (5000 : Int) < (b.size : Int) ∧ (5000 : Int) < (c.size : Int))) (w : World) (hF : Tb w) : Calls Tryd.prog 6 #[.int .i64 kind, .agg #[.string a, .string b, .string c]] w (RetT w) := by
  have HF := Lib.hid hF
  have HK := Lib.hid hk
  clear hF hk
  rcases hl with h1 | ⟨h1, h2⟩ | ⟨h1, h2, h3⟩
  all_goals
    go_enter Tryd.func6, Tryd.ntmps6
    go_wp2_with fail
    obtain ⟨w1, hw1, hA, hb1, hs1⟩ := arr_by w a b c
    rw [hw1]
    have HF1 := Lib.hid (HF.out.below hb1 HF.out.2.2)
    have HB1 := Lib.hid hb1
    have HA := Lib.hid hA
    have hlt : w.heap.size < w1.heap.size := by omega
    clear hw1 hA hb1 hs1
    refine (new_yes kind HK.out _ HF1.out).mono ?_
    rintro e w2 ⟨rfl, _, hb2⟩
    have HB2 := Lib.hid (HB1.out.trans (hb2.mono HB1.out.size))
    have HF2 := Lib.hid (HF1.out.below hb2 HF1.out.2.2)
    have HA2 := Lib.hid (HA.out.below hb2 hlt)
    have hlt2 : w.heap.size < w2.heap.size := Nat.lt_of_lt_of_le hlt hb2.size
    clear hb2
    go_wp2_with fail
    refine (wakes3_any _ HF2.out).mono ?_
    rintro e w3 ⟨rfl, hb3⟩
    have HB3 := Lib.hid (HB2.out.trans (hb3.mono HB2.out.size))
    obtain ⟨c0, c1, c2⟩ := arr3 (HA2.out.below hb3 hlt2)
    clear hb3
    go_wp2_with fail
    go_ret
    exact ⟨rfl, HB3.out⟩
set_option maxRecDepth 100000 in
set_option maxHeartbeats 6400000 in
theorem shaCopies_ok (kind : Int) (hk : Sh.known kind = true) (a b c : ByteArray) (ha : a.size ≤ 5000) (hb : b.size ≤ 5000) (hc : c.size ≤ 5000) (w : World) (hF : Tb w) : Calls Tryd.prog 6 #[.int .i64 kind, .agg #[.string a, .string b, .string c]] w (RetT w) := by
  have HF := Lib.hid hF
  have HK := Lib.hid hk
  have i1 : ¬ (5000 : Int) < (a.size : Int) := by omega
  have i2 : ¬ (5000 : Int) < (b.size : Int) := by omega
  have i3 : ¬ (5000 : Int) < (c.size : Int) := by omega
  have q1 : ¬ 9223372036854775807 < a.size + b.size := by omega
  have q2 : ¬ 9223372036854775807 < a.size + c.size := by omega
  have hE : Sh.shE kind = 0 := by rw [Sh.shE, hk]; rfl
  have HE := Lib.hid hE
  have HSZ := Lib.hid (And.intro ha (And.intro hb hc))
  clear hF hk hE ha hb hc
  go_enter Tryd.func6, Tryd.ntmps6
  go_wp2_with fail
  obtain ⟨w1, hw1, hA, hb1, hs1⟩ := arr_by w a b c
  rw [hw1]
  have HF1 := Lib.hid (HF.out.below hb1 HF.out.2.2)
  have HB1 := Lib.hid hb1
  have HA1 := Lib.hid hA
  have hlt1 : w.heap.size < w1.heap.size := by omega
  have h11 : 1 < w1.heap.size := HF1.out.2.2
  clear hw1 hA hb1 hs1
  refine (new_yes kind HK.out _ HF1.out).mono ?_
  rintro e w2 ⟨rfl, hh, hb2⟩
  obtain ⟨g, hg⟩ : ∃ g, w1.heap.size = g := ⟨_, rfl⟩
  rw [hg] at hh hlt1 h11 ⊢
  have HB2 := Lib.hid (HB1.out.trans (hb2.mono HB1.out.size))
  have HF2 := Lib.hid (HF1.out.below hb2 HF1.out.2.2)
  have HA2 := Lib.hid (HA1.out.below hb2 (by omega))
  have H2 := Lib.hid hh
  clear hb2 hh hg HB1 HF1 HA1
  go_wp2_with fail
  refine (wakes3_any _ HF2.out).mono ?_
  rintro e w3 ⟨rfl, hb3⟩
  have HB3 := Lib.hid (HB2.out.trans (hb3.mono HB2.out.size))
  have HF3 := Lib.hid (HF2.out.below hb3 HF2.out.2.2)
  have hgl2 := H2.out.lt
  have hA3 := HA2.out.below hb3 (by omega)
  have H3 := Lib.hid (H2.out.below hb3 hgl2)
  have HA3 := Lib.hid hA3
  obtain ⟨c0, c1, c2⟩ := arr3 hA3
  clear hb3 hA3 HB2 HF2 HA2 H2
  go_wp2_with fail
  refine (write_any _ g kind HK.out [] a H3.out HF3.out h11 (by have := HSZ.out.1; show 0 + a.size ≤ _; omega)).mono ?_
  rintro e w4 ⟨rfl, hh, hc4⟩
  rw [List.nil_append] at hh
  have H4 := Lib.hid hh
  have HF4 := Lib.hid (HF3.out.chg hc4 h11)
  have HA4 := Lib.hid (HA3.out.chg hc4 (by omega))
  have HB4 := Lib.hid (HB3.out.trans (hc4.toBelow (B := w.heap.size) (by omega) HB3.out.size))
  have hgl4 := hh.lt
  clear hh hc4 HB3 HF3 HA3 H3 c0 c1 c2
  go_wp2_with fail
  refine (copy_any _ g kind HK.out a.toList H4.out).mono ?_
  rintro e w5 ⟨rfl, hh, hb5⟩
  obtain ⟨k, hk⟩ : ∃ g, w4.heap.size = g := ⟨_, rfl⟩
  rw [hk] at hh ⊢
  have HC5 := Lib.hid hh
  have hgk : g < k := by omega
  have hA5 := HA4.out.below hb5 (by omega)
  have H5 := Lib.hid (H4.out.below hb5 hgl4)
  have HF5 := Lib.hid (HF4.out.below hb5 HF4.out.2.2)
  have HB5 := Lib.hid (HB4.out.trans (hb5.mono HB4.out.size))
  have HA5 := Lib.hid hA5
  obtain ⟨c0, c1, c2⟩ := arr3 hA5
  clear hh hb5 hk hA5 HA4 H4 HF4 HB4
  go_wp2_with fail
  refine (write_any _ g kind HK.out a.toList b H5.out HF5.out h11 (by have := HSZ.out; rw [tl_size]; omega)).mono ?_
  rintro e w6 ⟨rfl, hh, hc6⟩
  have hA6 := HA5.out.chg hc6 (by omega)
  have H6 := Lib.hid hh
  have HC6 := Lib.hid (HC5.out.chg hc6 (by omega))
  have HF6 := Lib.hid (HF5.out.chg hc6 h11)
  have HA6 := Lib.hid hA6
  have HB6 := Lib.hid (HB5.out.trans (hc6.toBelow (B := w.heap.size) (by omega) HB5.out.size))
  clear c0 c1 c2 hh hc6 H5 HC5 HF5 HA5 HB5
  obtain ⟨c0, c1, c2⟩ := arr3 hA6
  clear hA6
  go_wp2_with fail
  refine (write_any _ k kind HK.out a.toList c HC6.out HF6.out (by omega) (by have := HSZ.out; rw [tl_size]; omega)).mono ?_
  rintro e w7 ⟨rfl, hh, hc7⟩
  have hA7 := HA6.out.chg hc7 (by omega)
  have HC7 := Lib.hid hh
  have H7 := Lib.hid (H6.out.chg hc7 (by omega))
  have HF7 := Lib.hid (HF6.out.chg hc7 (by omega))
  have HB7 := Lib.hid (HB6.out.trans (hc7.toBelow (B := w.heap.size) (by omega) HB6.out.size))
  have HA7 := Lib.hid hA7
  have hkl7 := hh.lt
  have hgl7 := H7.out.lt
  clear c0 c1 c2 hh hc7 H6 HC6 HF6 HA6 HB6 hA7
  go_wp2_with fail
  refine (hsum_any _ g kind HK.out _ H7.out HF7.out (by have := HSZ.out; rw [List.length_append, tl_size, tl_size]; omega)).mono ?_
  rintro e w8 ⟨x, rfl, hx, hb8⟩
  have HX := Lib.hid hx
  have HC8 := Lib.hid (HC7.out.below hb8 hkl7)
  have HF8 := Lib.hid (HF7.out.below hb8 HF7.out.2.2)
  have HA8 := Lib.hid (HA7.out.below hb8 (by omega))
  have HB8 := Lib.hid (HB7.out.trans (hb8.mono HB7.out.size))
  have hl8 := hb8.size
  clear hx hb8 H7 HC7 HF7 HA7 HB7
  go_wp2_with fail
  refine (hsum_any _ k kind HK.out _ HC8.out HF8.out (by have := HSZ.out; rw [List.length_append, tl_size, tl_size]; omega)).mono ?_
  rintro e w9 ⟨y, rfl, hy, hb9⟩
  have HY := Lib.hid hy
  have hA9 := HA8.out.below hb9 (by omega)
  have HA9 := Lib.hid hA9
  have HB9 := Lib.hid (HB8.out.trans (hb9.mono HB8.out.size))
  have hl9 := hb9.size
  obtain ⟨c0, c1, c2⟩ := arr3 hA9
  clear hy hb9 hA9 HC8 HF8 HA8 HB8
  go_wp2_with fail
  refine (rsumk_any kind (a ++ b) _ (by rw [ByteArray.size_append]; have := HSZ.out; omega)).mono ?_
  rintro e w10 ⟨x2, rfl, hx2, hb10⟩
  rw [HE.out]
  obtain rfl : x = x2 := tl_inj (by rw [HX.out, hx2, shR, HK.out, tl_cat]; rfl)
  have hA10 := HA9.out.below hb10 (by omega)
  have HB10 := Lib.hid (HB9.out.trans (hb10.mono HB9.out.size))
  clear c0 c1 c2 hx2 hb10 HA9 HB9
  obtain ⟨c0, c1, c2⟩ := arr3 hA10
  clear hA10
  go_wp2_with fail
  refine (rsumk_any kind (a ++ c) _ (by rw [ByteArray.size_append]; have := HSZ.out; omega)).mono ?_
  rintro e w11 ⟨y2, rfl, hy2, hb11⟩
  rw [HE.out]
  obtain rfl : y = y2 := tl_inj (by rw [HY.out, hy2, shR, HK.out, tl_cat]; rfl)
  have HB11 := Lib.hid (HB10.out.trans (hb11.mono HB10.out.size))
  clear c0 c1 c2 hy2 hb11 HB10
  go_wp2_with fail
  go_ret
  exact ⟨rfl, HB11.out⟩
theorem shaCopies_walk (kind : Int) (a b c : ByteArray) (w : World) (hF : Tb w) : Calls Tryd.prog 6 #[.int .i64 kind, .agg #[.string a, .string b, .string c]] w (RetT w) := by
  cases hk : Sh.known kind
  · exact shaCopies_no kind hk a b c w hF
  · by_cases ha : a.size ≤ 5000
    · by_cases hb : b.size ≤ 5000
      · by_cases hc : c.size ≤ 5000
        · exact shaCopies_ok kind hk a b c ha hb hc w hF
        · exact shaCopies_long kind hk a b c (.inr (.inr ⟨by omega, by omega, by omega⟩)) w hF
      · exact shaCopies_long kind hk a b c (.inr (.inl ⟨by omega, by omega⟩)) w hF
    · exact shaCopies_long kind hk a b c (.inl (by omega)) w hF
end Go.Proofs.YthofcjjllmnjbaaDoor
