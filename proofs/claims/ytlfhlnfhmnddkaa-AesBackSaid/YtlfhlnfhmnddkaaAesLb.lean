/- A cipher as it is used; the walks of AesBack and AesApart. -/
import Derived.Test.YtlfhlnfhmnddkaaAesM
import Derived.Test.YtlfhlnfhmnddkaaAesT
namespace Go.Proofs.Ytlfhlnfhmnddkaa
open Go.RowKit
set_option linter.unusedVariables false
set_option linter.unusedSimpArgs false
/-- a cipher that may have decrypted -/
def Ciq (w : World) (g : Nat) (K : List UInt8) : Prop := Ciph w g K ∧ (Fresh w g ∨ Done w g) ∧ (K.length = 16 ∨ K.length = 24 ∨ K.length = 32)
theorem Ciq.below {B : Nat} {w w' : World} {g : Nat} {K : List UInt8} (h : Ciq w g K) (hb : Below B w w') (hg : g < B) : Ciq w' g K :=
  ⟨h.1.below hb hg, h.2.1.imp (fun x => x.below hb hg) (fun x => x.below hb hg), h.2.2⟩
theorem Ciq.lt {w : World} {g : Nat} {K : List UInt8} (h : Ciq w g K) : g < w.heap.size := h.1.lt
theorem Turn.toBelow {g lo B : Nat} {a b : World} (h : Turn g lo a b) (hg : g < a.heap.size) (hB : B ≤ g) : Below B a b := ⟨h.os, h.tape, h.output, h.size, fun k hk => h.block k (by omega) (by omega)⟩
def RetQ (K L : List UInt8) (g : Nat) (w : World) (e : Ending) (w' : World) : Prop := ∃ s : ByteArray, e = .returned (.tuple #[.string s, .int .i64 0]) ∧ s.toList = L ∧ Ciq w' g K ∧ Below w.heap.size w w'
def RetQd (K L : List UInt8) (g : Nat) (w : World) (e : Ending) (w' : World) : Prop := ∃ s : ByteArray, e = .returned (.tuple #[.string s, .int .i64 0]) ∧ s.toList = L ∧ Ciq w' g K ∧ Turn g 513 w w'
theorem enc_q (b : ByteArray) (w : World) (g : Nat) (K : List UInt8) (h : Ciq w g K) (hb : b.size = 16) : Calls Try.prog 20 #[.pointer (some ⟨g, 0, none⟩), .string b] w (RetQ K (encL K b.toList) g w) :=
  (encrypt_any b w g K h.1 h.2.2 hb).mono fun e w' ⟨s, he, hs, hbl⟩ => ⟨s, he, hs, h.below hbl h.lt, hbl⟩
theorem dec_q (b : ByteArray) (w : World) (g : Nat) (K : List UInt8) (h : Ciq w g K) (hb : b.size = 16) : Calls Try.prog 21 #[.pointer (some ⟨g, 0, none⟩), .string b] w (RetQd K (decL K b.toList) g w) :=
  (decrypt_any b w g K h.1 h.2.1 h.2.2 hb).mono fun e w' ⟨s, he, hs, hd, ht⟩ => ⟨s, he, hs, ⟨h.1.turn ht, .inr hd, h.2.2⟩, ht⟩
theorem enc_sz (b : ByteArray) (w : World) (g : Nat) (K : List UInt8) (h : Ciq w g K) (hb : b.size ≠ 16) : Calls Try.prog 20 #[.pointer (some ⟨g, 0, none⟩), .string b] w (RetSE [] 6 w) := enc_err _ b w 6 (by decide) (start_size b w g K h.1 hb)
theorem dec_sz (b : ByteArray) (w : World) (g : Nat) (K : List UInt8) (h : Ciq w g K) (hb : b.size ≠ 16) : Calls Try.prog 21 #[.pointer (some ⟨g, 0, none⟩), .string b] w (RetSE [] 6 w) := dec_err _ b w 6 (by decide) (start_size b w g K h.1 hb)
def RetN (K : List UInt8) (w : World) (e : Ending) (w' : World) : Prop := ∃ g, w.heap.size ≤ g ∧ e = .returned (.tuple #[.pointer (some ⟨g, 0, none⟩), .int .i64 0]) ∧ Ciq w' g K ∧ Below w.heap.size w w'
theorem new_q (key : ByteArray) (w : World) (h : key.size = 16 ∨ key.size = 24 ∨ key.size = 32) : Calls Try.prog 16 #[.string key] w (RetN key.toList w) :=
  (new_any key w h).mono fun e w' ⟨g, hg, he, hc, hf, hb⟩ => ⟨g, hg, he, ⟨hc, .inl hf, by rw [tl_size]; exact h⟩, hb⟩
theorem right_yes (key : ByteArray) (w : World) (h : key.size = 16 ∨ key.size = 24 ∨ key.size = 32) : Calls Try.prog 17 #[.string key] w (fun e w' => e = .returned (.bool true) ∧ w = w') := by
  rcases h with h | h | h
  · have e1 : ((key.size : Int) == 16) = true := by rw [beq_iff_eq]; omega
    clear h
    go_enter Try.func17, Try.ntmps17
    go_wp2
    go_ret
    exact ⟨rfl, rfl⟩
  · have e1 : ((key.size : Int) == 16) = false := by rw [beq_eq_false_iff_ne]; omega
    have e2 : ((key.size : Int) == 24) = true := by rw [beq_iff_eq]; omega
    clear h
    go_enter Try.func17, Try.ntmps17
    go_wp2
    go_ret
    exact ⟨rfl, rfl⟩
  · have e1 : ((key.size : Int) == 16) = false := by rw [beq_eq_false_iff_ne]; omega
    have e2 : ((key.size : Int) == 24) = false := by rw [beq_eq_false_iff_ne]; omega
    have e3 : ((key.size : Int) == 32) = true := by rw [beq_iff_eq]; omega
    clear h
    go_enter Try.func17, Try.ntmps17
    go_wp2
    go_ret
    exact ⟨rfl, rfl⟩
theorem right_no (key : ByteArray) (w : World) (h1 : key.size ≠ 16) (h2 : key.size ≠ 24) (h3 : key.size ≠ 32) : Calls Try.prog 17 #[.string key] w (fun e w' => e = .returned (.bool false) ∧ w = w') := by
  have e1 : ((key.size : Int) == 16) = false := by rw [beq_eq_false_iff_ne]; omega
  have e2 : ((key.size : Int) == 24) = false := by rw [beq_eq_false_iff_ne]; omega
  have e3 : ((key.size : Int) == 32) = false := by rw [beq_eq_false_iff_ne]; omega
  clear h1 h2 h3
  go_enter Try.func17, Try.ntmps17
  go_wp2
  go_ret
  exact ⟨rfl, rfl⟩
theorem key_cases (k : ByteArray) : (k.size = 16 ∨ k.size = 24 ∨ k.size = 32) ∨ (k.size ≠ 16 ∧ k.size ≠ 24 ∧ k.size ≠ 32) := by omega
theorem size_of_toList {s : ByteArray} {l : List UInt8} (h : s.toList = l) : s.size = l.length := by rw [← h, tl_size]
set_option maxRecDepth 100000 in
set_option maxHeartbeats 3200000 in
theorem aesBack_bad (a0 a1 : ByteArray) (a2 : Bool) (w : World) (h1 : a0.size ≠ 16) (h2 : a0.size ≠ 24) (h3 : a0.size ≠ 32) : Calls Try.prog 7 #[.string a0, .string a1, .bool a2] w (RetT w) := by
  go_enter Try.func7, Try.ntmps7
  go_wp2_with fail
  refine (wakes_any _).mono ?_
  rintro e w1 ⟨rfl, hb1⟩
  go_wp2_with fail
  refine (new_bad a0 _ h1 h2 h3).mono ?_
  rintro e w2 ⟨rfl, rfl⟩
  go_wp2_with fail
  refine (right_no a0 _ h1 h2 h3).mono ?_
  rintro e w2 ⟨rfl, rfl⟩
  go_wp2_with fail
  go_ret
  exact ⟨rfl, hb1⟩
set_option maxRecDepth 100000 in
set_option maxHeartbeats 3200000 in
theorem aesBack_size (a0 a1 : ByteArray) (a2 : Bool) (w : World) (h : a0.size = 16 ∨ a0.size = 24 ∨ a0.size = 32) (hb : a1.size ≠ 16) : Calls Try.prog 7 #[.string a0, .string a1, .bool a2] w (RetT w) := by
  have e2 : ((a1.size : Int) != 16) = true := by rw [bne_iff_ne]; omega
  clear hb
  go_enter Try.func7, Try.ntmps7
  go_wp2_with fail
  refine (wakes_any _).mono ?_
  rintro e w1 ⟨rfl, hb1⟩
  go_wp2_with fail
  refine (new_q a0 _ h).mono ?_
  rintro e w2 ⟨g, hg, rfl, hQ, hb2⟩
  go_wp2_with fail
  refine (right_yes a0 _ h).mono ?_
  rintro e w3 ⟨rfl, rfl⟩
  go_wp2_with fail
  go_ret
  exact ⟨rfl, below2 hb1 hb2⟩
set_option maxRecDepth 100000 in
set_option maxHeartbeats 3200000 in
theorem aesBack_ok (a0 a1 : ByteArray) (a2 : Bool) (w : World) (h : a0.size = 16 ∨ a0.size = 24 ∨ a0.size = 32) (hb : a1.size = 16) : Calls Try.prog 7 #[.string a0, .string a1, .bool a2] w (RetT w) := by
  have e2 : ((a1.size : Int) != 16) = false := by rw [bne_eq_false_iff_eq]; omega
  have HB := Lib.hid hb
  have hl : a1.toList.length = 16 := by rw [tl_size]; exact hb
  have HL := Lib.hid hl
  clear hb hl
  go_enter Try.func7, Try.ntmps7
  go_wp2_with fail
  refine (wakes_any _).mono ?_
  rintro e w1 ⟨rfl, hb1⟩
  go_wp2_with fail
  refine (new_q a0 _ h).mono ?_
  rintro e w2 ⟨g, hg, rfl, hQ, hb2⟩
  have hw : w.heap.size ≤ g := Nat.le_trans hb1.size hg
  have hb12 : Below w.heap.size w w2 := below2 hb1 hb2
  clear hb1 hb2 hg
  cases a2
  · go_wp2_with fail
    refine (enc_q a1 _ g _ hQ HB.out).mono ?_
    rintro e w3 ⟨s, rfl, hs, hQ3, hb3⟩
    have hb3' := hb12.trans (hb3.mono hb12.size)
    have hs16 : s.size = 16 := by rw [size_of_toList hs, encL_length]
    have HS := Lib.hid hs
    clear hs hb3 hb12 hQ
    go_wp2_with fail
    refine (dec_q s _ g _ hQ3 hs16).mono ?_
    rintro e w4 ⟨t, rfl, ht, hQ4, hT4⟩
    rw [HS.out, dec_enc _ _ HL.out] at ht
    obtain rfl := tl_inj ht
    have hb4' := hb3'.trans (hT4.toBelow hQ3.lt hw)
    clear hT4 hs16
    go_wp2_with fail
    refine (dec_q t _ g _ hQ4 HB.out).mono ?_
    rintro e w5 ⟨u, rfl, hu, hQ5, hT5⟩
    have hu16 : u.size = 16 := by rw [size_of_toList hu, decL_length]
    have hb5' := hb4'.trans (hT5.toBelow hQ4.lt hw)
    have HU := Lib.hid hu
    clear hT5 hu ht
    go_wp2_with fail
    refine (enc_q u _ g _ hQ5 hu16).mono ?_
    rintro e w6 ⟨v, rfl, hv, hQ6, hb6⟩
    rw [HU.out, enc_dec _ _ HL.out] at hv
    obtain rfl := tl_inj hv
    have hb6' := hb5'.trans (hb6.mono hb5'.size)
    clear hb6 hu16 hv
    go_wp2_with fail
    go_ret
    exact ⟨rfl, hb6'⟩
  · go_wp2_with fail
    refine (dec_q a1 _ g _ hQ HB.out).mono ?_
    rintro e w2b ⟨x, rfl, hx, hQ2, hT2⟩
    have hb2' := hb12.trans (hT2.toBelow hQ.lt hw)
    clear hT2 hx hb12 hQ
    go_wp2_with fail
    refine (enc_q a1 _ g _ hQ2 HB.out).mono ?_
    rintro e w3 ⟨s, rfl, hs, hQ3, hb3⟩
    have hb3' := hb2'.trans (hb3.mono hb2'.size)
    have hs16 : s.size = 16 := by rw [size_of_toList hs, encL_length]
    have HS := Lib.hid hs
    clear hs hb3 hb2' hQ2
    go_wp2_with fail
    refine (dec_q s _ g _ hQ3 hs16).mono ?_
    rintro e w4 ⟨t, rfl, ht, hQ4, hT4⟩
    rw [HS.out, dec_enc _ _ HL.out] at ht
    obtain rfl := tl_inj ht
    have hb4' := hb3'.trans (hT4.toBelow hQ3.lt hw)
    clear hT4 hs16
    go_wp2_with fail
    refine (dec_q t _ g _ hQ4 HB.out).mono ?_
    rintro e w5 ⟨u, rfl, hu, hQ5, hT5⟩
    have hu16 : u.size = 16 := by rw [size_of_toList hu, decL_length]
    have hb5' := hb4'.trans (hT5.toBelow hQ4.lt hw)
    have HU := Lib.hid hu
    clear hT5 hu ht
    go_wp2_with fail
    refine (enc_q u _ g _ hQ5 hu16).mono ?_
    rintro e w6 ⟨v, rfl, hv, hQ6, hb6⟩
    rw [HU.out, enc_dec _ _ HL.out] at hv
    obtain rfl := tl_inj hv
    have hb6' := hb5'.trans (hb6.mono hb5'.size)
    clear hb6 hu16 hv
    go_wp2_with fail
    go_ret
    exact ⟨rfl, hb6'⟩
theorem aesBack_walk (a0 a1 : ByteArray) (a2 : Bool) (z0 : a0.size ≤ 140737488351232) (z1 : a1.size ≤ 140737488351232) (w : World) : Calls Try.prog 7 #[.string a0, .string a1, .bool a2] w (RetT w) := by
  rcases key_cases a0 with h | ⟨h1, h2, h3⟩
  · by_cases hb : a1.size = 16
    · exact aesBack_ok a0 a1 a2 w h hb
    · exact aesBack_size a0 a1 a2 w h hb
  · exact aesBack_bad a0 a1 a2 w h1 h2 h3
set_option maxRecDepth 100000 in
set_option maxHeartbeats 3200000 in
theorem aesApart_walk (a0 a1 a2 : ByteArray) (z0 : a0.size ≤ 140737488351232) (z1 : a1.size ≤ 140737488351232) (z2 : a2.size ≤ 140737488351232) (w : World) : Calls Try.prog 8 #[.string a0, .string a1, .string a2] w (RetT w) := by
  clear z0 z1 z2
  rcases key_cases a0 with h | ⟨h1, h2, h3⟩
  · by_cases hb : a1.size = 16
    · have e1 : ((a1.size : Int) != 16) = false := by rw [bne_eq_false_iff_eq]; omega
      have HB := Lib.hid hb
      clear hb
      by_cases hc : a2.size = 16
      · have e2 : ((a2.size : Int) != 16) = false := by rw [bne_eq_false_iff_eq]; omega
        have HC := Lib.hid hc
        clear hc
        go_enter Try.func8, Try.ntmps8
        go_wp2_with fail
        refine (wakes_any _).mono ?_
        rintro e w1 ⟨rfl, hb1⟩
        go_wp2_with fail
        refine (new_q a0 _ h).mono ?_
        rintro e w2 ⟨g, hg, rfl, hQ, hb2⟩
        have hb12 : Below w.heap.size w w2 := below2 hb1 hb2
        clear hb1 hb2 hg
        go_wp2_with fail
        refine (enc_q a1 _ g _ hQ HB.out).mono ?_
        rintro e w3 ⟨s, rfl, hs, hQ3, hb3⟩
        have hb3' := hb12.trans (hb3.mono hb12.size)
        have hs16 : (s.size : Int) = 16 := by rw [size_of_toList hs, encL_length]; rfl
        have HS := Lib.hid hs
        have HS16 := Lib.hid hs16
        clear hs hb3 hb12 hQ hs16
        go_wp2_with fail
        refine (enc_q a2 _ g _ hQ3 HC.out).mono ?_
        rintro e w4 ⟨t, rfl, ht, hQ4, hb4⟩
        have hb4' := hb3'.trans (hb4.mono hb3'.size)
        have HT := Lib.hid ht
        clear ht hb4 hb3' hQ3
        have e5 : ((s.size : Int) == 16) = true := by rw [beq_iff_eq]; exact HS16.out
        by_cases hab : a1 = a2
        · have e6 : (s.toList == t.toList) = true := by rw [HS.out, HT.out, hab, beq_self_eq_true]
          have e7 : (a1.toList == a2.toList) = true := by rw [hab, beq_self_eq_true]
          clear hab
          go_wp2_with fail
          go_ret
          exact ⟨rfl, hb4'⟩
        · have e6 : (s.toList == t.toList) = false := by
            rw [beq_eq_false_iff_ne, HS.out, HT.out]
            intro he
            exact hab (tl_inj (enc_inj a0.toList a1.toList a2.toList (by rw [tl_size]; exact HB.out) (by rw [tl_size]; exact HC.out) he))
          have e7 : (a1.toList == a2.toList) = false := by
            rw [beq_eq_false_iff_ne]
            exact fun he => hab (tl_inj he)
          clear hab
          go_wp2_with fail
          go_ret
          exact ⟨rfl, hb4'⟩
      · have e2 : ((a2.size : Int) != 16) = true := by rw [bne_iff_ne]; omega
        clear hc
        go_enter Try.func8, Try.ntmps8
        go_wp2_with fail
        refine (wakes_any _).mono ?_
        rintro e w1 ⟨rfl, hb1⟩
        go_wp2_with fail
        refine (new_q a0 _ h).mono ?_
        rintro e w2 ⟨g, hg, rfl, hQ, hb2⟩
        go_wp2_with fail
        go_ret
        exact ⟨rfl, below2 hb1 hb2⟩
    · have e1 : ((a1.size : Int) != 16) = true := by rw [bne_iff_ne]; omega
      clear hb
      go_enter Try.func8, Try.ntmps8
      go_wp2_with fail
      refine (wakes_any _).mono ?_
      rintro e w1 ⟨rfl, hb1⟩
      go_wp2_with fail
      refine (new_q a0 _ h).mono ?_
      rintro e w2 ⟨g, hg, rfl, hQ, hb2⟩
      go_wp2_with fail
      go_ret
      exact ⟨rfl, below2 hb1 hb2⟩
  · go_enter Try.func8, Try.ntmps8
    go_wp2_with fail
    refine (wakes_any _).mono ?_
    rintro e w1 ⟨rfl, hb1⟩
    go_wp2_with fail
    refine (new_bad a0 _ h1 h2 h3).mono ?_
    rintro e w2 ⟨rfl, rfl⟩
    go_wp2_with fail
    go_ret
    exact ⟨rfl, hb1⟩
end Go.Proofs.Ytlfhlnfhmnddkaa
