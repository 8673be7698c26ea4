/- The contracts of filled, first, beside and joined: the program's. -/
import Derived.Test.YtflofbimecnakaaGreatCcmP
namespace Go.Proofs.YtflofbimecnakaaGreat
open Go.RowKit
set_option linter.unusedVariables false
set_option linter.unusedSimpArgs false
theorem u64_in6 (t : Nat) (h : t < 1000000) : IntKind.u64.wrap (t : Int) = (t : Int) := by simp [IntKind.wrap, IntKind.bits, IntKind.signed]; omega
theorem u8_in (t : Nat) (h : t < 256) : IntKind.u8.wrap (t : Int) = (t : Int) := by simp [IntKind.wrap, IntKind.bits, IntKind.signed]; omega
/-- a byte as a text -/
theorem cv_byte (f : Nat) (hf : f < 256) (c : ByteArray) (hc : c = ⟨[UInt8.ofNat f].toArray⟩) : ∀ w' : World, (convert 123 9 (.slice (some ⟨w'.heap.size, 0, none⟩) 1 1)).run Tryz.prog (w'.alloc (Obj.cells #[.int .u8 (f : Int)] 5)) = .ok (.string c) (w'.alloc (Obj.cells #[.int .u8 (f : Int)] 5)) := fun w' => by
  have e9 : (f : Int) = ((UInt8.ofNat f).toNat : Int) := by simp; omega
  have hcv := convert_at (P := Tryz.prog) (cap := 1) (l := [UInt8.ofNat f]) (At.ofAlloc w' #[.int .u8 ((UInt8.ofNat f).toNat : Int)] 5) 123 9 5 1 rfl Tryz.underlying123 Tryz.underlying5 Tryz.underlying9
  rw [← hc, ← e9] at hcv
  exact hcv
theorem put_fit (n q : Nat) (h2 : 2 ≤ q) (h8 : q ≤ 8) (h : n < 65536 ∨ (3 ≤ q ∧ n < 1000000)) : putL n (q : Int) = be q n ∧ putE n (q : Int) = 0 := by
  have hp : n < 256 ^ q := by
    rcases h with h | ⟨h3, h⟩
    · exact Nat.lt_of_lt_of_le h (Nat.pow_le_pow_right (by decide) h2 : 256 ^ 2 ≤ 256 ^ q)
    · exact Nat.lt_of_lt_of_le (by omega) (Nat.pow_le_pow_right (by decide) h3 : 256 ^ 3 ≤ 256 ^ q)
  have : putOk n (q : Int) = true := by
    rw [putOk, decide_eq_true_iff]
    exact ⟨by omega, by omega, by rw [Int.toNat_natCast]; exact hp⟩
  rw [putL, putE, this, Int.toNat_natCast]
  exact ⟨rfl, rfl⟩
set_option maxRecDepth 100000 in
set_option maxHeartbeats 1600000 in
theorem filled_any (s : ByteArray) (w : World) (hs : s.size ≤ 1000000) : Calls Tryz.prog 169 #[.string s] w (RetS (filM s.toList) w) := by
  obtain ⟨r, hr⟩ : ∃ r, s.size % 16 = r := ⟨_, rfl⟩
  obtain ⟨d, hd⟩ : ∃ d, d = 16 - r := ⟨_, rfl⟩
  obtain ⟨p, hp⟩ : ∃ p, p = d % 16 := ⟨_, rfl⟩
  have e1 : (s.size : Int).tmod 16 = (r : Int) := tmod_nat s.size 16 r hr.symm
  have e2 : IntKind.i64.wrap (r : Int) = (r : Int) := wrap_in _ (by omega) (by omega)
  have e3 : 16 - (r : Int) = (d : Int) := by omega
  have e4 : IntKind.i64.wrap (d : Int) = (d : Int) := wrap_in _ (by omega) (by omega)
  have e5 : (d : Int).tmod 16 = (p : Int) := tmod_nat d 16 p hp
  have e6 : IntKind.i64.wrap (p : Int) = (p : Int) := wrap_in _ (by omega) (by omega)
  have hpl : p ≤ 15 := by omega
  have HP : Hid ((16 - s.toList.length % 16) % 16 = p) := by show _ = _; rw [tl_size]; omega
  clear hr hd hp
  go_enter Tryz.func169, Tryz.ntmps169
  go_wp2_with fail
  refine (rep_any (ByteArray.mk #[0]) 0 p _ nought_tl (by omega)).mono ?_
  rintro e w1 ⟨z, rfl, hz, hb1⟩
  have hzs : z.size = p := by rw [← tl_size, hz]; simp
  have hov : ¬ 9223372036854775807 < s.size + z.size := by omega
  have HZ : Hid (z.toList = zer p) := hz
  clear hz hzs
  go_wp2_with fail
  go_ret
  exact ⟨_, rfl, by rw [tl_append, HZ.out, filM, HP.out], hb1⟩
set_option maxRecDepth 100000 in
set_option maxHeartbeats 1600000 in
theorem ccfirst_any (nonce aad text : ByteArray) (s : Nat) (w : World) (h7 : 7 ≤ nonce.size) (h13 : nonce.size ≤ 13) (s4 : 4 ≤ s) (s16 : s ≤ 16) (ht : text.size ≤ 70000) (htv : nonce.size = 13 → text.size < 65536) (ha : aad.size ≤ 70000) :
    Calls Tryz.prog 166 #[.string nonce, .string aad, .string text, .int .i64 (s : Int)] w (RetS (ccFirst nonce.toList aad.toList text.size s) w) := by
  obtain ⟨q, hq⟩ : ∃ q, q = 15 - nonce.size := ⟨_, rfl⟩
  have a1 : 15 - (nonce.size : Int) = (q : Int) := by omega
  have a2 : IntKind.i64.wrap (q : Int) = (q : Int) := wrap_in _ (by omega) (by omega)
  obtain ⟨s2, hs2⟩ : ∃ s2, s2 = s - 2 := ⟨_, rfl⟩
  have b1 : (s : Int) - 2 = (s2 : Int) := by omega
  have b2 : IntKind.i64.wrap (s2 : Int) = (s2 : Int) := wrap_in _ (by omega) (by omega)
  obtain ⟨h, hh⟩ : ∃ h, h = s2 / 2 := ⟨_, rfl⟩
  have b3 : (s2 : Int) / 2 = (h : Int) := by omega
  have b4 : IntKind.i64.wrap (h : Int) = (h : Int) := wrap_in _ (by omega) (by omega)
  obtain ⟨h8, hh8⟩ : ∃ h8, h8 = 8 * h := ⟨_, rfl⟩
  have b5 : 8 * (h : Int) = (h8 : Int) := by omega
  have b6 : IntKind.i64.wrap (h8 : Int) = (h8 : Int) := wrap_in _ (by omega) (by omega)
  obtain ⟨hq8, hhq8⟩ : ∃ hq8, hq8 = h8 + q := ⟨_, rfl⟩
  have b7 : (h8 : Int) + (q : Int) = (hq8 : Int) := by omega
  have b8 : IntKind.i64.wrap (hq8 : Int) = (hq8 : Int) := wrap_in _ (by omega) (by omega)
  obtain ⟨f, hf⟩ : ∃ f, f = hq8 - 1 := ⟨_, rfl⟩
  have b9 : (hq8 : Int) - 1 = (f : Int) := by omega
  have b10 : IntKind.i64.wrap (f : Int) = (f : Int) := wrap_in _ (by omega) (by omega)
  have b11 : IntKind.u8.wrap (f : Int) = (f : Int) := u8_in f (by omega)
  have c1 := u64_in6 text.size (by omega)
  have hpf := put_fit text.size q (by omega) (by omega) (by omega)
  have HPF := Lib.hid hpf
  have hn64 : text.size < 2 ^ 64 := by omega
  by_cases h0 : aad.size = 0
  · have i1 : ¬ (0 : Int) < (aad.size : Int) := by omega
    have hfl : ccFlag nonce.size aad.size s = f := by rw [ccFlag, if_pos h0]; omega
    obtain ⟨c, hc⟩ : ∃ c : ByteArray, c = ⟨[UInt8.ofNat f].toArray⟩ := ⟨_, rfl⟩
    have hcv := cv_byte f (by omega) c hc
    have hcs : c.size = 1 := by rw [hc]; rfl
    have hcl : c.toList = [UInt8.ofNat f] := by rw [hc, tl_mk]
    have hov1 : ¬ 9223372036854775807 < c.size + nonce.size := by omega
    have hfin : ∀ x : ByteArray, x.toList = be q text.size → (c ++ nonce ++ x).toList = ccFirst nonce.toList aad.toList text.size s := fun x hx => by
      rw [tl_append, tl_append, hx, hcl, ccFirst, tl_size, tl_size, hfl, ← hq]
      rfl
    have HFIN := Lib.hid hfin
    have HCS := Lib.hid hcs
    have HQ := Lib.hid hq
    clear hq hs2 hh hh8 hhq8 hf hpf h0 hfl hc hcs hcl hfin
    go_enter Tryz.func166, Tryz.ntmps166
    go_wp2_with fail
    refine (put_any text.size (q : Int) _ hn64).mono ?_
    rintro e w1 ⟨x, rfl, hx, hb1⟩
    rw [HPF.out.1] at hx
    rw [HPF.out.2]
    have hxs : x.size = q := by rw [← tl_size, hx, be_length]
    have hov2 : ¬ 9223372036854775807 < c.size + nonce.size + x.size := by have := HCS.out; have := HQ.out; omega
    have HX := Lib.hid hx
    clear hx hxs
    go_wp2_with fail
    go_ret
    exact ⟨_, rfl, HFIN.out x HX.out, hb1.alloc hb1.size _⟩
  · have i1 : (0 : Int) < (aad.size : Int) := by omega
    obtain ⟨f2, hf2⟩ : ∃ f2, f2 = f + 64 := ⟨_, rfl⟩
    have d1 : (f : Int) + 64 = (f2 : Int) := by omega
    have d2 : IntKind.u8.wrap (f2 : Int) = (f2 : Int) := u8_in f2 (by omega)
    have hfl : ccFlag nonce.size aad.size s = f2 := by rw [ccFlag, if_neg h0]; omega
    obtain ⟨c, hc⟩ : ∃ c : ByteArray, c = ⟨[UInt8.ofNat f2].toArray⟩ := ⟨_, rfl⟩
    have hcv := cv_byte f2 (by omega) c hc
    have hcs : c.size = 1 := by rw [hc]; rfl
    have hcl : c.toList = [UInt8.ofNat f2] := by rw [hc, tl_mk]
    have hov1 : ¬ 9223372036854775807 < c.size + nonce.size := by omega
    have hfin : ∀ x : ByteArray, x.toList = be q text.size → (c ++ nonce ++ x).toList = ccFirst nonce.toList aad.toList text.size s := fun x hx => by
      rw [tl_append, tl_append, hx, hcl, ccFirst, tl_size, tl_size, hfl, ← hq]
      rfl
    have HFIN := Lib.hid hfin
    have HCS := Lib.hid hcs
    have HQ := Lib.hid hq
    clear hq hs2 hh hh8 hhq8 hf hpf h0 hfl hc hcs hcl hfin hf2
    go_enter Tryz.func166, Tryz.ntmps166
    go_wp2_with fail
    refine (put_any text.size (q : Int) _ hn64).mono ?_
    rintro e w1 ⟨x, rfl, hx, hb1⟩
    rw [HPF.out.1] at hx
    rw [HPF.out.2]
    have hxs : x.size = q := by rw [← tl_size, hx, be_length]
    have hov2 : ¬ 9223372036854775807 < c.size + nonce.size + x.size := by have := HCS.out; have := HQ.out; omega
    have HX := Lib.hid hx
    clear hx hxs
    go_wp2_with fail
    go_ret
    exact ⟨_, rfl, HFIN.out x HX.out, hb1.alloc hb1.size _⟩
set_option maxRecDepth 100000 in
set_option maxHeartbeats 1600000 in
theorem beside_any (aad : ByteArray) (w : World) (ha : aad.size ≤ 70000) : Calls Tryz.prog 167 #[.string aad] w (RetS (ccBes aad.toList) w) := by
  by_cases h0 : aad.size = 0
  · have e1 : ((aad.size : Int) == 0) = true := by rw [beq_iff_eq]; omega
    have hfin : ccBes aad.toList = [] := by rw [ccBes, tl_size, if_pos h0]
    rw [hfin]
    clear h0 hfin
    go_enter Tryz.func167, Tryz.ntmps167
    go_wp2_with fail
    go_ret
    exact ⟨_, rfl, tl_mk [], Below.refl _ _⟩
  · have e1 : ((aad.size : Int) == 0) = false := by rw [beq_eq_false_iff_ne]; omega
    have c1 := u64_in6 aad.size (by omega)
    have hn64 : aad.size < 2 ^ 64 := by omega
    by_cases h1 : aad.size < 65280
    · have i1 : (aad.size : Int) < 65280 := by omega
      have hpf := put_fit aad.size 2 (by omega) (by omega) (by omega)
      have HPF := Lib.hid hpf
      have HFIN : Hid (ccBes aad.toList = filM (be 2 aad.size ++ aad.toList)) := by show _ = _; rw [ccBes, tl_size, if_neg h0, if_pos h1]
      clear h0 h1 hpf
      go_enter Tryz.func167, Tryz.ntmps167
      go_wp2_with fail
      refine (put_any aad.size ((2 : Nat) : Int) _ hn64).mono ?_
      rintro e w1 ⟨x, rfl, hx, hb1⟩
      rw [HPF.out.1] at hx
      rw [HPF.out.2]
      have hxs : x.size = 2 := by rw [← tl_size, hx, be_length]
      have hov1 : ¬ 9223372036854775807 < x.size + aad.size := by omega
      have hz : (x ++ aad).size ≤ 1000000 := by rw [ByteArray.size_append]; omega
      have HX := Lib.hid hx
      have HZ := Lib.hid hz
      clear hx hxs hz
      go_wp2_with fail
      refine (filled_any (x ++ aad) _ HZ.out).mono ?_
      rintro e w2 ⟨y, rfl, hy, hb2⟩
      go_wp2_with fail
      go_ret
      exact ⟨_, rfl, by rw [hy, tl_append, HX.out, HFIN.out], below2 hb1 hb2⟩
    · have i1 : ¬ (aad.size : Int) < 65280 := by omega
      have hpf := put_fit aad.size 4 (by omega) (by omega) (by omega)
      have HPF := Lib.hid hpf
      have HFIN : Hid (ccBes aad.toList = filM (([255, 254] ++ be 4 aad.size) ++ aad.toList)) := by show _ = _; rw [ccBes, tl_size, if_neg h0, if_neg h1]
      clear h0 h1 hpf
      go_enter Tryz.func167, Tryz.ntmps167
      go_wp2_with fail
      refine (put_any aad.size ((4 : Nat) : Int) _ hn64).mono ?_
      rintro e w1 ⟨x, rfl, hx, hb1⟩
      rw [HPF.out.1] at hx
      rw [HPF.out.2]
      have hxs : x.size = 4 := by rw [← tl_size, hx, be_length]
      have hov1 : ¬ 9223372036854775807 < 2 + x.size := by omega
      have hov2 : ¬ 9223372036854775807 < 2 + x.size + aad.size := by omega
      have hz : (ByteArray.mk #[255, 254] ++ x ++ aad).size ≤ 1000000 := by rw [ByteArray.size_append, ByteArray.size_append]; show 2 + _ + _ ≤ _; omega
      have HX := Lib.hid hx
      have HZ := Lib.hid hz
      clear hx hxs hz
      go_wp2_with fail
      refine (filled_any (ByteArray.mk #[255, 254] ++ x ++ aad) _ HZ.out).mono ?_
      rintro e w2 ⟨y, rfl, hy, hb2⟩
      go_wp2_with fail
      go_ret
      exact ⟨_, rfl, by rw [hy, tl_append, tl_append, HX.out, HFIN.out, show (ByteArray.mk #[255, 254]).toList = [255, 254] from tl_mk _], below2 hb1 hb2⟩
set_option maxRecDepth 100000 in
set_option maxHeartbeats 1600000 in
theorem joined_any (key nonce text : ByteArray) (i : Nat) (w : World) (hk : key.size = 16 ∨ key.size = 24 ∨ key.size = 32) (h7 : 7 ≤ nonce.size) (h13 : nonce.size ≤ 13) (ht : text.size ≤ 70000) (hi : i ≤ 1) :
    Calls Tryz.prog 162 #[.string key, .string nonce, .int .u64 (i : Int), .string text] w (RetS (ccJoin key.toList nonce.toList text.toList i) w) := by
  obtain ⟨q, hq⟩ : ∃ q, q = 15 - nonce.size := ⟨_, rfl⟩
  have a1 : 15 - (nonce.size : Int) = (q : Int) := by omega
  have a2 : IntKind.i64.wrap (q : Int) = (q : Int) := wrap_in _ (by omega) (by omega)
  obtain ⟨f, hf⟩ : ∃ f, f = q - 1 := ⟨_, rfl⟩
  have b9 : (q : Int) - 1 = (f : Int) := by omega
  have b10 : IntKind.i64.wrap (f : Int) = (f : Int) := wrap_in _ (by omega) (by omega)
  have b11 : IntKind.u8.wrap (f : Int) = (f : Int) := u8_in f (by omega)
  have hpf := put_fit i q (by omega) (by omega) (by omega)
  have HPF := Lib.hid hpf
  have hn64 : i < 2 ^ 64 := by omega
  obtain ⟨c, hc⟩ : ∃ c : ByteArray, c = ⟨[UInt8.ofNat f].toArray⟩ := ⟨_, rfl⟩
  have hcv := cv_byte f (by omega) c hc
  have hcs : c.size = 1 := by rw [hc]; rfl
  have hcl : c.toList = [UInt8.ofNat f] := by rw [hc, tl_mk]
  have hov1 : ¬ 9223372036854775807 < c.size + nonce.size := by omega
  have hfin : ∀ x : ByteArray, x.toList = be q i → (c ++ nonce ++ x).toList = ccCnt nonce.toList i := fun x hx => by
    rw [tl_append, tl_append, hx, hcl, ccCnt, tl_size, ← hq, show 14 - nonce.size = f by omega]
    rfl
  have HFIN := Lib.hid hfin
  have HCS := Lib.hid hcs
  have HQ := Lib.hid hq
  clear hq hf hpf hc hcs hcl hfin
  go_enter Tryz.func162, Tryz.ntmps162
  go_wp2_with fail
  refine (put_any i (q : Int) _ hn64).mono ?_
  rintro e w1 ⟨x, rfl, hx, hb1⟩
  rw [HPF.out.1] at hx
  rw [HPF.out.2]
  have hxs : x.size = q := by rw [← tl_size, hx, be_length]
  have hov2 : ¬ 9223372036854775807 < c.size + nonce.size + x.size := by have := HCS.out; have := HQ.out; omega
  have hS : (c ++ nonce ++ x).toList = ccCnt nonce.toList i := HFIN.out x hx
  have hSs : (c ++ nonce ++ x).size = 16 := by rw [← tl_size, hS, ccCnt_length _ _ (by rw [tl_size]; exact h13)]
  have HS := Lib.hid hS
  have HSS := Lib.hid hSs
  clear hx hxs hS hSs
  go_wp2_with fail
  have hE : ctrE key.size (c ++ nonce ++ x).size (q : Int) text.size = 0 := by
    have hm : mayE (c ++ nonce ++ x).size (q : Int) = 0 := by rw [mayE, if_pos HSS.out, if_neg (by have := HQ.out; omega)]
    rw [ctrE, if_pos (keyOk_yes hk), if_pos hm, if_neg (by omega)]
  refine (cxor_any key (c ++ nonce ++ x) text (q : Int) _).mono ?_
  rintro e w2 ⟨t, rfl, ht2, hb2⟩
  rw [hE]
  have hfi : t.toList = ccJoin key.toList nonce.toList text.toList i := by
    rw [ht2, ctrR, tl_size, tl_size, tl_size, hE, if_pos rfl, HS.out, ccJoin, Int.toNat_natCast, tl_size, HQ.out]
  have HF := Lib.hid hfi
  have hb12 := (hb1.alloc hb1.size (Obj.cells #[.int .u8 (f : Int)] 5)).trans (hb2.mono (by simp; have := hb1.size; omega))
  clear hE ht2 hfi hb2
  go_wp2_with fail
  go_ret
  exact ⟨_, rfl, HF.out, hb12⟩
end Go.Proofs.YtflofbimecnakaaGreat
