/- Sealing by a chain and a digest: plain words; the program's kind, may, tag. -/
import Derived.Test.YtjlmmlnldjandaaGreatDoorHmX
import Derived.Test.YtjlmmlnldjandaaGreatDoorCbcY
namespace Go.Proofs.YtjlmmlnldjandaaGreatDoor
open Go.RowKit
set_option linter.unusedVariables false
set_option linter.unusedSimpArgs false
/-- what all three ask -/
def chE (k n a : Nat) (fits : Bool) : Int := if k = 32 ∨ k = 48 ∨ k = 64 then if n = 16 then if a ≤ 70000 ∧ fits = true then 0 else 6 else 4 else 3
/-- the tag -/
def chT (K V A C : List UInt8) : List UInt8 := (Hm.mac ((16 * (K.length / 2) : Nat) : Int) (K.take (K.length / 2)) (A ++ V ++ C ++ putL (8 * A.length) 8)).take (K.length / 2)
theorem half_of {k : Nat} (h : k = 32 ∨ k = 48 ∨ k = 64) : ∃ m, k = 2 * m ∧ k / 2 = m ∧ (m = 16 ∨ m = 24 ∨ m = 32) := ⟨k / 2, by omega, rfl, by omega⟩
theorem half_kind {m : Nat} (h : m = 16 ∨ m = 24 ∨ m = 32) : Sh.known ((16 * m : Nat) : Int) = true ∧ Sh.shE ((16 * m : Nat) : Int) = 0 ∧ m ≤ Sh.outN ((16 * m : Nat) : Int) := by
  rcases h with rfl | rfl | rfl
  · exact ⟨rfl, rfl, by decide⟩
  · exact ⟨rfl, rfl, by decide⟩
  · exact ⟨rfl, rfl, by decide⟩
theorem chT_length (K V A C : List UInt8) (h : K.length = 32 ∨ K.length = 48 ∨ K.length = 64) : (chT K V A C).length = K.length / 2 := by
  obtain ⟨m, _, hm, hm2⟩ := half_of h
  obtain ⟨h1, h2, h3⟩ := half_kind hm2
  rw [chT, List.length_take, hm, mac_len _ h1]
  omega
theorem chE_zero {k n a : Nat} {fits : Bool} (h : chE k n a fits = 0) : (k = 32 ∨ k = 48 ∨ k = 64) ∧ n = 16 ∧ a ≤ 70000 ∧ fits = true := by
  unfold chE at h
  split at h
  · rename_i hk
    split at h
    · rename_i hn
      split at h
      · rename_i ha
        exact ⟨hk, hn, ha.1, ha.2⟩
      · cases h
    · cases h
  · cases h
theorem chE_not {k n a : Nat} {fits : Bool} {c : Int} (h : chE k n a fits = c) (h0 : c ≠ 0) : (c = 3 ∧ ¬ (k = 32 ∨ k = 48 ∨ k = 64)) ∨ (c = 4 ∧ (k = 32 ∨ k = 48 ∨ k = 64) ∧ n ≠ 16) ∨ (c = 6 ∧ (k = 32 ∨ k = 48 ∨ k = 64) ∧ n = 16 ∧ 70000 < a) ∨ (c = 6 ∧ (k = 32 ∨ k = 48 ∨ k = 64) ∧ n = 16 ∧ a ≤ 70000 ∧ fits = false) := by
  unfold chE at h
  split at h
  · rename_i hk
    split at h
    · rename_i hn
      split at h
      · exact absurd h.symm h0
      · rename_i ha
        by_cases hb : a ≤ 70000
        · refine .inr (.inr (.inr ⟨h.symm, hk, hn, hb, ?_⟩))
          cases fits
          · rfl
          · exact absurd ⟨hb, rfl⟩ ha
        · exact .inr (.inr (.inl ⟨h.symm, hk, hn, by omega⟩))
    · rename_i hn
      exact .inr (.inl ⟨h.symm, hk, hn⟩)
  · rename_i hk
    exact .inl ⟨h.symm, hk⟩
set_option maxRecDepth 100000 in
set_option maxHeartbeats 1600000 in
theorem chkind_yes (key : ByteArray) (m kd : Nat) (hkd : kd = 16 * m) (hm : m = 16 ∨ m = 24 ∨ m = 32) (hk : key.size = 2 * m) (w : World) : Calls Tryz.prog 27 #[.string key] w (fun e w' => e = .returned (.tuple #[.int .i64 (kd : Int), .int .i64 (m : Int), .bool true]) ∧ w = w') := by
  rcases hm with rfl | rfl | rfl
  · obtain rfl : kd = 256 := by omega
    have e1 : ((key.size : Int) == 32) = true := by rw [beq_iff_eq]; omega
    go_enter Tryz.func27, Tryz.ntmps27
    go_wp2_with fail
    go_ret3
    exact ⟨rfl, rfl⟩
  · obtain rfl : kd = 384 := by omega
    have e1 : ((key.size : Int) == 32) = false := by rw [beq_eq_false_iff_ne]; omega
    have e2 : ((key.size : Int) == 48) = true := by rw [beq_iff_eq]; omega
    go_enter Tryz.func27, Tryz.ntmps27
    go_wp2_with fail
    go_ret3
    exact ⟨rfl, rfl⟩
  · obtain rfl : kd = 512 := by omega
    have e1 : ((key.size : Int) == 32) = false := by rw [beq_eq_false_iff_ne]; omega
    have e2 : ((key.size : Int) == 48) = false := by rw [beq_eq_false_iff_ne]; omega
    have e3 : ((key.size : Int) == 64) = true := by rw [beq_iff_eq]; omega
    go_enter Tryz.func27, Tryz.ntmps27
    go_wp2_with fail
    go_ret3
    exact ⟨rfl, rfl⟩
set_option maxRecDepth 100000 in
set_option maxHeartbeats 1600000 in
theorem chkind_no (key : ByteArray) (hk : ¬ (key.size = 32 ∨ key.size = 48 ∨ key.size = 64)) (w : World) : Calls Tryz.prog 27 #[.string key] w (fun e w' => e = .returned (.tuple #[.int .i64 0, .int .i64 0, .bool false]) ∧ w = w') := by
  have e1 : ((key.size : Int) == 32) = false := by rw [beq_eq_false_iff_ne]; omega
  have e2 : ((key.size : Int) == 48) = false := by rw [beq_eq_false_iff_ne]; omega
  have e3 : ((key.size : Int) == 64) = false := by rw [beq_eq_false_iff_ne]; omega
  go_enter Tryz.func27, Tryz.ntmps27
  go_wp2_with fail
  go_ret3
  exact ⟨rfl, rfl⟩
set_option maxRecDepth 100000 in
set_option maxHeartbeats 1600000 in
theorem chmay_any (key iv aad : ByteArray) (fits : Bool) (w : World) : Calls Tryz.prog 23 #[.string key, .string iv, .string aad, .bool fits] w (fun e w' => e = .returned (.int .i64 (chE key.size iv.size aad.size fits)) ∧ w = w') := by
  obtain ⟨c, hc⟩ : ∃ c, chE key.size iv.size aad.size fits = c := ⟨_, rfl⟩
  by_cases hk : key.size = 32 ∨ key.size = 48 ∨ key.size = 64
  · obtain ⟨m, hm, _, hm2⟩ := half_of hk
    have KY := Lib.hid (chkind_yes key m _ rfl hm2 hm)
    rw [hc]
    by_cases hv : iv.size = 16
    · have e1 : ((iv.size : Int) != 16) = false := by rw [bne_eq_false_iff_eq]; omega
      by_cases ha : aad.size ≤ 70000
      · have e2 : ¬ (70000 : Int) < (aad.size : Int) := by omega
        cases fits
        · obtain rfl : 6 = c := by rw [← hc, chE, if_pos hk, if_pos hv, if_neg (by simp)]
          clear hk hv ha hc hm hm2
          go_enter Tryz.func23, Tryz.ntmps23
          go_wp2_with fail
          refine (KY.out _).mono ?_
          rintro e w1 ⟨rfl, rfl⟩
          go_wp2_with fail
          go_ret
          exact ⟨rfl, rfl⟩
        · obtain rfl : 0 = c := by rw [← hc, chE, if_pos hk, if_pos hv, if_pos ⟨ha, rfl⟩]
          clear hk hv ha hc hm hm2
          go_enter Tryz.func23, Tryz.ntmps23
          go_wp2_with fail
          refine (KY.out _).mono ?_
          rintro e w1 ⟨rfl, rfl⟩
          go_wp2_with fail
          go_ret
          exact ⟨rfl, rfl⟩
      · have e2 : (70000 : Int) < (aad.size : Int) := by omega
        obtain rfl : 6 = c := by rw [← hc, chE, if_pos hk, if_pos hv, if_neg (by omega)]
        clear hk hv ha hc hm hm2
        go_enter Tryz.func23, Tryz.ntmps23
        go_wp2_with fail
        refine (KY.out _).mono ?_
        rintro e w1 ⟨rfl, rfl⟩
        go_wp2_with fail
        go_ret
        exact ⟨rfl, rfl⟩
    · have e1 : ((iv.size : Int) != 16) = true := by rw [bne_iff_ne]; omega
      obtain rfl : 4 = c := by rw [← hc, chE, if_pos hk, if_neg hv]
      clear hk hv hc hm hm2
      go_enter Tryz.func23, Tryz.ntmps23
      go_wp2_with fail
      refine (KY.out _).mono ?_
      rintro e w1 ⟨rfl, rfl⟩
      go_wp2_with fail
      go_ret
      exact ⟨rfl, rfl⟩
  · have KN := Lib.hid (chkind_no key hk)
    rw [show chE key.size iv.size aad.size fits = 3 by rw [chE, if_neg hk]]
    clear hk hc
    go_enter Tryz.func23, Tryz.ntmps23
    go_wp2_with fail
    refine (KN.out _).mono ?_
    rintro e w1 ⟨rfl, rfl⟩
    go_wp2_with fail
    go_ret
    exact ⟨rfl, rfl⟩
/-- bits of what is beside -/
theorem put8_len (n : Nat) (h : n ≤ 70000) : (putL (8 * n) 8).length ≤ 8 := by
  unfold putL
  split
  · rw [be_length]; decide
  · exact Nat.zero_le _
set_option maxRecDepth 100000 in
set_option maxHeartbeats 3200000 in
theorem chtag_any (key iv aad cipher : ByteArray) (hk : key.size = 32 ∨ key.size = 48 ∨ key.size = 64) (hv : iv.size = 16) (ha : aad.size ≤ 70000) (hc : cipher.size ≤ 70016) (w : World) (hT : Tb w) :
    Calls Tryz.prog 25 #[.string key, .string iv, .string aad, .string cipher] w (RetS (chT key.toList iv.toList aad.toList cipher.toList) w) := by
  obtain ⟨m, hm, hd, hm2⟩ := half_of hk
  obtain ⟨h1, h2, h3⟩ := half_kind hm2
  obtain ⟨kd, hkd⟩ : ∃ kd, kd = 16 * m := ⟨_, rfl⟩
  rw [← hkd] at h1 h2 h3
  have KY := Lib.hid (chkind_yes key m kd hkd hm2 hm)
  obtain ⟨b8, hb8⟩ : ∃ b8, b8 = 8 * aad.size := ⟨_, rfl⟩
  have e1 : 8 * (aad.size : Int) = (b8 : Int) := by omega
  have e2 : IntKind.u64.wrap (b8 : Int) = (b8 : Int) := by simp [IntKind.wrap, IntKind.bits, IntKind.signed]; omega
  have HB8 := Lib.hid (And.intro hb8 hkd)
  have e3 : IntKind.u64.wrap (aad.size : Int) = (aad.size : Int) := by simp [IntKind.wrap, IntKind.bits, IntKind.signed]; omega
  obtain ⟨kk, hkk⟩ : ∃ kk, key.extract 0 m = kk := ⟨_, rfl⟩
  have hkl : kk.toList = key.toList.take m := by rw [← hkk, tl_ext0S]
  have hks : kk.size ≤ 32 := by rw [← tl_size, hkl, List.length_take]; omega
  have p1 : (m : Int) ≤ (key.size : Int) := by omega
  have p2 : (0 : Int) ≤ (m : Int) := by omega
  have p3 : m ≤ key.size := by omega
  have HKL := Lib.hid hkl
  have HKS := Lib.hid hks
  have HT := Lib.hid hT
  have HA := Lib.hid ha
  have HC := Lib.hid hc
  have HV := Lib.hid hv
  have H3 := Lib.hid (And.intro h1 (And.intro h2 h3))
  have HD : Hid (key.toList.length / 2 = m) := by show _ = _; rw [tl_size]; exact hd
  have HM := Lib.hid hm2
  have q1 : ¬ 9223372036854775807 < aad.size + iv.size := by omega
  have q2 : ¬ 9223372036854775807 < (aad ++ iv).size + cipher.size := by rw [ByteArray.size_append]; omega
  have hs3 : (aad ++ iv ++ cipher).size ≤ 140032 := by rw [ByteArray.size_append, ByteArray.size_append]; omega
  obtain ⟨T3, hT3⟩ : ∃ T3, aad ++ iv ++ cipher = T3 := ⟨_, rfl⟩
  have hl3 : T3.toList = aad.toList ++ iv.toList ++ cipher.toList := by rw [← hT3, tl_cat, tl_cat]
  rw [hT3] at hs3
  have HL3 := Lib.hid hl3
  have HS3 := Lib.hid hs3
  clear hk hv ha hc hT hm hd hm2 hb8 hkd h1 h2 h3 hkl hks hl3 hs3
  go_enter Tryz.func25, Tryz.ntmps25
  go_wp2_with fail
  refine (KY.out _).mono ?_
  rintro e w1 ⟨rfl, rfl⟩
  go_wp2_with fail
  refine (put_any b8 8 _ (by have := HA.out; have := HB8.out; omega)).mono ?_
  rintro e w2 ⟨p, rfl, hp, hb2⟩
  have hps : p.size ≤ 8 := by
    rw [← tl_size, hp, HB8.out.1]
    have := HA.out
    exact put8_len _ this
  have HP := Lib.hid hp
  have HT2 := Lib.hid (HT.out.below hb2 HT.out.2.2)
  have HB2 := Lib.hid hb2
  have q3 : ¬ 9223372036854775807 < T3.size + p.size := by have := HS3.out; omega
  have hs4 : (T3 ++ p).size ≤ 140040 := by rw [ByteArray.size_append]; have := HS3.out; omega
  have HS4 := Lib.hid hs4
  clear hp hb2 hps hs4
  go_wp2_with fail
  refine (hmS_any _ kk (T3 ++ p) _ HT2.out (by have := HKS.out; omega) (by have := HS4.out; omega)).mono ?_
  rintro e w3 ⟨s, rfl, hs, hb3⟩
  rw [H3.out.2.1]
  rw [hmS, if_pos H3.out.1, HKL.out, tl_cat, HL3.out, HP.out, HB8.out.1] at hs
  have hss : m ≤ s.size := by rw [← tl_size, hs, mac_len _ H3.out.1]; exact H3.out.2.2
  have p4 : (m : Int) ≤ (s.size : Int) := by omega
  have HB3 := Lib.hid (below2 HB2.out hb3)
  have HSL := Lib.hid hs
  clear hs hb3
  go_wp2_with fail
  go_ret
  refine ⟨_, rfl, ?_, HB3.out⟩
  rw [tl_ext0S, HSL.out, chT, HD.out, tl_size, HB8.out.2]
end Go.Proofs.YtjlmmlnldjandaaGreatDoor
