/- Sealing by a chain and a digest: the document's answers. -/
import Derived.Test.YtjlmmlnldjandaaGreatDoorChB
namespace Go.Proofs.YtjlmmlnldjandaaGreatDoor
open Go.RowKit
set_option linter.unusedVariables false
set_option linter.unusedSimpArgs false
/-- the document's first question, without the text -/
def chW (k n a : Nat) : Int := chE k n a true
theorem chE_w {k n a : Nat} {f : Bool} : chE k n a f = if chW k n a = 0 then (if f = true then 0 else 6) else chW k n a := by
  unfold chW chE
  by_cases h1 : k = 32 ∨ k = 48 ∨ k = 64
  · by_cases h2 : n = 16
    · by_cases h3 : a ≤ 70000
      · simp [h1, h2, h3]
      · simp [h1, h2, h3]
    · simp [h1, h2]
  · simp [h1]
set_option maxRecDepth 100000 in
set_option maxHeartbeats 1600000 in
theorem rchwrong_any (key iv aad : ByteArray) (w : World) : Calls Tryz.prog 17 #[.string key, .string iv, .string aad] w (fun e w' => e = .returned (.int .i64 (chW key.size iv.size aad.size)) ∧ w = w') := by
  obtain ⟨c, hc⟩ : ∃ c, chW key.size iv.size aad.size = c := ⟨_, rfl⟩
  by_cases k1 : key.size = 32
  · have e1 : ((key.size : Int) != 32) = false := by rw [bne_eq_false_iff_eq]; omega
    by_cases hv : iv.size = 16
    · have e4 : ((iv.size : Int) != 16) = false := by rw [bne_eq_false_iff_eq]; omega
      by_cases ha : aad.size ≤ 70000
      · have e5 : ¬ (70000 : Int) < (aad.size : Int) := by omega
        rw [show chW key.size iv.size aad.size = 0 by simp [chW, chE, k1, hv, ha]]
        go_enter Tryz.func17, Tryz.ntmps17
        go_wp2_with fail
        go_ret
        exact ⟨rfl, rfl⟩
      · have e5 : (70000 : Int) < (aad.size : Int) := by omega
        rw [show chW key.size iv.size aad.size = 6 by simp [chW, chE, k1, hv, ha]]
        go_enter Tryz.func17, Tryz.ntmps17
        go_wp2_with fail
        go_ret
        exact ⟨rfl, rfl⟩
    · have e4 : ((iv.size : Int) != 16) = true := by rw [bne_iff_ne]; omega
      rw [show chW key.size iv.size aad.size = 4 by simp [chW, chE, k1, hv]]
      go_enter Tryz.func17, Tryz.ntmps17
      go_wp2_with fail
      go_ret
      exact ⟨rfl, rfl⟩
  have e1 : ((key.size : Int) != 32) = true := by rw [bne_iff_ne]; omega
  by_cases k2 : key.size = 48
  · have e2 : ((key.size : Int) != 48) = false := by rw [bne_eq_false_iff_eq]; omega
    by_cases hv : iv.size = 16
    · have e4 : ((iv.size : Int) != 16) = false := by rw [bne_eq_false_iff_eq]; omega
      by_cases ha : aad.size ≤ 70000
      · have e5 : ¬ (70000 : Int) < (aad.size : Int) := by omega
        rw [show chW key.size iv.size aad.size = 0 by simp [chW, chE, k2, hv, ha]]
        go_enter Tryz.func17, Tryz.ntmps17
        go_wp2_with fail
        go_ret
        exact ⟨rfl, rfl⟩
      · have e5 : (70000 : Int) < (aad.size : Int) := by omega
        rw [show chW key.size iv.size aad.size = 6 by simp [chW, chE, k2, hv, ha]]
        go_enter Tryz.func17, Tryz.ntmps17
        go_wp2_with fail
        go_ret
        exact ⟨rfl, rfl⟩
    · have e4 : ((iv.size : Int) != 16) = true := by rw [bne_iff_ne]; omega
      rw [show chW key.size iv.size aad.size = 4 by simp [chW, chE, k2, hv]]
      go_enter Tryz.func17, Tryz.ntmps17
      go_wp2_with fail
      go_ret
      exact ⟨rfl, rfl⟩
  have e2 : ((key.size : Int) != 48) = true := by rw [bne_iff_ne]; omega
  by_cases k3 : key.size = 64
  · have e3 : ((key.size : Int) != 64) = false := by rw [bne_eq_false_iff_eq]; omega
    by_cases hv : iv.size = 16
    · have e4 : ((iv.size : Int) != 16) = false := by rw [bne_eq_false_iff_eq]; omega
      by_cases ha : aad.size ≤ 70000
      · have e5 : ¬ (70000 : Int) < (aad.size : Int) := by omega
        rw [show chW key.size iv.size aad.size = 0 by simp [chW, chE, k3, hv, ha]]
        go_enter Tryz.func17, Tryz.ntmps17
        go_wp2_with fail
        go_ret
        exact ⟨rfl, rfl⟩
      · have e5 : (70000 : Int) < (aad.size : Int) := by omega
        rw [show chW key.size iv.size aad.size = 6 by simp [chW, chE, k3, hv, ha]]
        go_enter Tryz.func17, Tryz.ntmps17
        go_wp2_with fail
        go_ret
        exact ⟨rfl, rfl⟩
    · have e4 : ((iv.size : Int) != 16) = true := by rw [bne_iff_ne]; omega
      rw [show chW key.size iv.size aad.size = 4 by simp [chW, chE, k3, hv]]
      go_enter Tryz.func17, Tryz.ntmps17
      go_wp2_with fail
      go_ret
      exact ⟨rfl, rfl⟩
  have e3 : ((key.size : Int) != 64) = true := by rw [bne_iff_ne]; omega
  rw [show chW key.size iv.size aad.size = 3 by simp [chW, chE, k1, k2, k3]]
  go_enter Tryz.func17, Tryz.ntmps17
  go_wp2_with fail
  go_ret
  exact ⟨rfl, rfl⟩
set_option maxRecDepth 100000 in
set_option maxHeartbeats 3200000 in
theorem rchTag_no (key iv aad cipher : ByteArray) (c : Int) (w : World) (hc : chE key.size iv.size aad.size (fitC cipher.size) = c) (h0 : c ≠ 0) :
    Calls Tryz.prog 16 #[.string key, .string iv, .string aad, .string cipher] w (RetSE [] c w) := by
  have WR := Lib.hid (fun w => rchwrong_any key iv aad w)
  rw [chE_w] at hc
  by_cases hw : chW key.size iv.size aad.size = 0
  · rw [if_pos hw] at hc
    by_cases hf : fitC cipher.size = true
    · rw [if_pos hf] at hc
      exact absurd hc.symm h0
    · rw [if_neg hf] at hc
      subst hc
      have e1 : (70016 : Int) < (cipher.size : Int) := by simp [fitC] at hf; omega
      rw [hw] at WR
      clear hw hf h0
      go_enter Tryz.func16, Tryz.ntmps16
      go_wp2_with fail
      refine (WR.out _).mono ?_
      rintro e w1 ⟨rfl, rfl⟩
      go_wp2_with fail
      go_ret2
      exact ret_se (tl_mk []) rfl rfl (Below.refl _ _)
  · rw [if_neg hw] at hc
    rw [hc] at WR
    have hcb : (c != 0) = true := by rw [bne_iff_ne]; exact h0
    clear hw hc h0
    go_enter Tryz.func16, Tryz.ntmps16
    go_wp2_with fail
    refine (WR.out _).mono ?_
    rintro e w1 ⟨rfl, rfl⟩
    go_wp2_with fail
    go_ret2
    exact ret_se (tl_mk []) rfl rfl (Below.refl _ _)
set_option maxRecDepth 100000 in
set_option maxHeartbeats 3200000 in
theorem rchTag_ok (key iv aad cipher : ByteArray) (w : World) (hc : chE key.size iv.size aad.size (fitC cipher.size) = 0) :
    Calls Tryz.prog 16 #[.string key, .string iv, .string aad, .string cipher] w (RetSE (chT key.toList iv.toList aad.toList cipher.toList) 0 w) := by
  obtain ⟨hk, hv, ha, hff⟩ := chE_zero hc
  have hcs : cipher.size ≤ 70016 := of_decide_eq_true hff
  have WR := Lib.hid (fun w => rchwrong_any key iv aad w)
  rw [show chW key.size iv.size aad.size = 0 by rw [chW, chE, if_pos hk, if_pos hv, if_pos ⟨ha, rfl⟩]] at WR
  obtain ⟨m, hm, hd, hm2⟩ := half_of hk
  obtain ⟨h1, h2, h3⟩ := half_kind hm2
  have e0 : ¬ (70016 : Int) < (cipher.size : Int) := by omega
  obtain ⟨kd, hkd⟩ : ∃ kd, kd = 16 * m := ⟨_, rfl⟩
  rw [← hkd] at h1 h2 h3
  obtain ⟨b8, hb8⟩ : ∃ b8, b8 = 8 * aad.size := ⟨_, rfl⟩
  have e1 : 8 * (aad.size : Int) = (b8 : Int) := by omega
  have e2 : IntKind.u64.wrap (b8 : Int) = (b8 : Int) := by simp [IntKind.wrap, IntKind.bits, IntKind.signed]; omega
  have e3 : IntKind.i64.wrap (b8 : Int) = (b8 : Int) := wrap_in _ (by omega) (by omega)
  have e4 : 16 * (m : Int) = (kd : Int) := by omega
  have e5 : IntKind.i64.wrap (kd : Int) = (kd : Int) := wrap_in _ (by omega) (by omega)
  have HB8 := Lib.hid (And.intro hb8 hkd)
  have d1 : (key.size : Int).tdiv 2 = (m : Int) := by
    have h : (key.size : Int).tdiv 2 = ((key.size / 2 : Nat) : Int) := rfl
    rw [h, show key.size / 2 = m by omega]
  have d4 : IntKind.i64.wrap (m : Int) = (m : Int) := wrap_in _ (by omega) (by omega)
  obtain ⟨kk, hkk⟩ : ∃ kk, key.extract 0 m = kk := ⟨_, rfl⟩
  have hkl : kk.toList = key.toList.take m := by rw [← hkk, tl_ext0S]
  have hks : kk.size ≤ 32 := by rw [← tl_size, hkl, List.length_take]; omega
  have p1 : (m : Int) ≤ (key.size : Int) := by omega
  have p2 : (0 : Int) ≤ (m : Int) := by omega
  have p3 : m ≤ key.size := by omega
  have HKL := Lib.hid hkl
  have HKS := Lib.hid hks
  have HA := Lib.hid ha
  have H3 := Lib.hid (And.intro h1 (And.intro h2 h3))
  have HD : Hid (key.toList.length / 2 = m) := by show _ = _; rw [tl_size]; exact hd
  have q1 : ¬ 9223372036854775807 < aad.size + iv.size := by omega
  have q2 : ¬ 9223372036854775807 < (aad ++ iv).size + cipher.size := by rw [ByteArray.size_append]; omega
  have hs3 : (aad ++ iv ++ cipher).size ≤ 140032 := by rw [ByteArray.size_append, ByteArray.size_append]; omega
  obtain ⟨T3, hT3⟩ : ∃ T3, aad ++ iv ++ cipher = T3 := ⟨_, rfl⟩
  have hl3 : T3.toList = aad.toList ++ iv.toList ++ cipher.toList := by rw [← hT3, tl_cat, tl_cat]
  rw [hT3] at hs3
  have HL3 := Lib.hid hl3
  have HS3 := Lib.hid hs3
  clear hk hv ha hc hm hd hm2 h1 h2 h3 hkl hks hl3 hs3 hff hcs hb8 hkd
  go_enter Tryz.func16, Tryz.ntmps16
  go_wp2_with fail
  refine (WR.out _).mono ?_
  rintro e w1 ⟨rfl, rfl⟩
  go_wp2_with fail
  refine (rput_any b8 8 _ (by have := HA.out; have := HB8.out; omega)).mono ?_
  rintro e w2 ⟨p, rfl, hp, hb2⟩
  have hps : p.size ≤ 8 := by
    rw [← tl_size, hp, HB8.out.1]
    have := HA.out
    exact put8_len _ this
  have HP := Lib.hid hp
  have HB2 := Lib.hid hb2
  have q3 : ¬ 9223372036854775807 < T3.size + p.size := by have := HS3.out; omega
  have hs4 : (T3 ++ p).size ≤ 140040 := by rw [ByteArray.size_append]; have := HS3.out; omega
  have HS4 := Lib.hid hs4
  clear hp hb2 hps hs4
  go_wp2_with fail
  refine (rhmS_any _ kk (T3 ++ p) _ (by have := HKS.out; omega) (by have := HS4.out; omega)).mono ?_
  rintro e w3 ⟨s, rfl, hs, hb3⟩
  rw [hmS, if_pos H3.out.1, HKL.out, tl_cat, HL3.out, HP.out, HB8.out.1] at hs
  have hss : m ≤ s.size := by rw [← tl_size, hs, mac_len _ H3.out.1]; exact H3.out.2.2
  have p4 : (m : Int) ≤ (s.size : Int) := by omega
  have HB3 := Lib.hid (below2 HB2.out hb3)
  have HSL := Lib.hid hs
  clear hs hb3
  go_wp2_with fail
  go_ret2
  refine ret_se (tl_ext0S _ _) ?_ rfl HB3.out
  rw [HSL.out, chT, HD.out, tl_size, HB8.out.2]
theorem rchTag_any (key iv aad cipher : ByteArray) (w : World) :
    Calls Tryz.prog 16 #[.string key, .string iv, .string aad, .string cipher] w (RetSE (chTagL key.toList iv.toList aad.toList cipher.toList) (chE key.size iv.size aad.size (fitC cipher.size)) w) := by
  obtain ⟨c, hc⟩ : ∃ c, chE key.size iv.size aad.size (fitC cipher.size) = c := ⟨_, rfl⟩
  rw [chTagL, tl_size, tl_size, tl_size, tl_size, hc]
  by_cases h0 : c = 0
  · rw [if_pos h0, h0]
    exact rchTag_ok key iv aad cipher w (hc.trans h0)
  · rw [if_neg h0]
    exact rchTag_no key iv aad cipher c w hc h0
set_option maxRecDepth 100000 in
set_option maxHeartbeats 3200000 in
theorem rchSeal_no (key iv aad text : ByteArray) (c : Int) (w : World) (hc : chE key.size iv.size aad.size (fitT text.size) = c) (h0 : c ≠ 0) :
    Calls Tryz.prog 12 #[.string key, .string iv, .string aad, .string text] w (RetSE [] c w) := by
  have WR := Lib.hid (fun w => rchwrong_any key iv aad w)
  rw [chE_w] at hc
  by_cases hw : chW key.size iv.size aad.size = 0
  · rw [if_pos hw] at hc
    by_cases hf : fitT text.size = true
    · rw [if_pos hf] at hc
      exact absurd hc.symm h0
    · rw [if_neg hf] at hc
      subst hc
      have e1 : (70000 : Int) < (text.size : Int) := by simp [fitT] at hf; omega
      rw [hw] at WR
      clear hw hf h0
      go_enter Tryz.func12, Tryz.ntmps12
      go_wp2_with fail
      refine (WR.out _).mono ?_
      rintro e w1 ⟨rfl, rfl⟩
      go_wp2_with fail
      go_ret2
      exact ret_se (tl_mk []) rfl rfl (Below.refl _ _)
  · rw [if_neg hw] at hc
    rw [hc] at WR
    have hcb : (c != 0) = true := by rw [bne_iff_ne]; exact h0
    clear hw hc h0
    go_enter Tryz.func12, Tryz.ntmps12
    go_wp2_with fail
    refine (WR.out _).mono ?_
    rintro e w1 ⟨rfl, rfl⟩
    go_wp2_with fail
    go_ret2
    exact ret_se (tl_mk []) rfl rfl (Below.refl _ _)
set_option maxRecDepth 100000 in
set_option maxHeartbeats 3200000 in
theorem rchSeal_ok (key iv aad text : ByteArray) (w : World) (hc : chE key.size iv.size aad.size (fitT text.size) = 0) :
    Calls Tryz.prog 12 #[.string key, .string iv, .string aad, .string text] w (RetSE (chSea key.toList iv.toList aad.toList text.toList) 0 w) := by
  obtain ⟨hk, hv, ha, hff⟩ := chE_zero hc
  have hts : text.size ≤ 70000 := of_decide_eq_true hff
  have WR := Lib.hid (fun w => rchwrong_any key iv aad w)
  rw [show chW key.size iv.size aad.size = 0 by rw [chW, chE, if_pos hk, if_pos hv, if_pos ⟨ha, rfl⟩]] at WR
  obtain ⟨m, hm, hd, hm2⟩ := half_of hk
  obtain ⟨kb, hkb, hkl, hks⟩ := half_key key m hm hm2
  have TG := Lib.hid (fun (cipher : ByteArray) (hcs : cipher.size ≤ 70016) w => rchTag_ok key iv aad cipher w (by rw [chE, if_pos hk, if_pos hv, if_pos ⟨ha, decide_eq_true hcs⟩]))
  have SL := Lib.hid (fun w => rSeal_any kb iv text w)
  have e0 : ¬ (70000 : Int) < (text.size : Int) := by omega
  have d1 : (key.size : Int).tdiv 2 = (m : Int) := by
    have h : (key.size : Int).tdiv 2 = ((key.size / 2 : Nat) : Int) := rfl
    rw [h, show key.size / 2 = m by omega]
  have d2 : (m : Int) ≤ (key.size : Int) := by omega
  have d3 : m ≤ key.size := by omega
  have d4 : IntKind.i64.wrap (m : Int) = (m : Int) := wrap_in _ (by omega) (by omega)
  have HTS := Lib.hid hts
  have HKL := Lib.hid hkl
  have HM2 : Hid (m ≤ 32) := by show _ ≤ _; omega
  have HD : Hid (key.toList.length / 2 = m) := by show _ = _; rw [tl_size]; exact hd
  clear hk hv ha hff hc hts hkl hm hm2 hks
  go_enter Tryz.func12, Tryz.ntmps12
  go_wp2_with fail
  refine (WR.out _).mono ?_
  rintro e w1 ⟨rfl, rfl⟩
  go_wp2_with fail
  refine (SL.out _).mono ?_
  rintro e w1 ⟨s, rfl, hs, hb⟩
  rw [HKL.out] at hs
  have hss : s.size ≤ 70016 := by
    rw [← tl_size, hs]
    exact selL_size _ _ _ (by rw [tl_size]; exact HTS.out)
  have HS := Lib.hid hs
  have HB := Lib.hid hb
  have HSS := Lib.hid hss
  clear hs hb hss
  go_wp2_with fail
  refine (TG.out s HSS.out _).mono ?_
  rintro e w2 ⟨t, rfl, ht, hb2⟩
  have hts : t.size ≤ 70016 := by
    rw [← tl_size, ht, chT]
    refine Nat.le_trans (List.length_take_le _ _) ?_
    rw [HD.out]
    have := HM2.out
    omega
  have q1 : ¬ 9223372036854775807 < s.size + t.size := by have := HSS.out; omega
  have HT2 := Lib.hid ht
  clear ht hts
  go_wp2_with fail
  go_ret2
  refine ret_se (tl_cat _ _) ?_ rfl (below2 HB.out hb2)
  rw [HT2.out, HS.out, chSea, HD.out]
theorem rchSeal_any (key iv aad text : ByteArray) (w : World) :
    Calls Tryz.prog 12 #[.string key, .string iv, .string aad, .string text] w (RetSE (chSealL key.toList iv.toList aad.toList text.toList) (chE key.size iv.size aad.size (fitT text.size)) w) := by
  obtain ⟨c, hc⟩ : ∃ c, chE key.size iv.size aad.size (fitT text.size) = c := ⟨_, rfl⟩
  rw [chSealL, tl_size, tl_size, tl_size, tl_size, hc]
  by_cases h0 : c = 0
  · rw [if_pos h0, h0]
    exact rchSeal_ok key iv aad text w (hc.trans h0)
  · rw [if_neg h0]
    exact rchSeal_no key iv aad text c w hc h0
set_option maxRecDepth 100000 in
set_option maxHeartbeats 3200000 in
theorem rchOpen_no (key iv aad text : ByteArray) (hz : text.size ≤ 140737488351232) (c : Int) (w : World) (hc : chE key.size iv.size aad.size (fitH text.size (key.size / 2)) = c) (h0 : c ≠ 0) :
    Calls Tryz.prog 14 #[.string key, .string iv, .string aad, .string text] w (RetSE [] c w) := by
  have WR := Lib.hid (fun w => rchwrong_any key iv aad w)
  rw [chE_w] at hc
  by_cases hw : chW key.size iv.size aad.size = 0
  · rw [if_pos hw] at hc
    by_cases hf : fitH text.size (key.size / 2) = true
    · rw [if_pos hf] at hc
      exact absurd hc.symm h0
    · rw [if_neg hf] at hc
      subst hc
      obtain ⟨hk, _⟩ := chE_zero hw
      obtain ⟨m, hm, hd, hm2⟩ := half_of hk
      rw [hd] at hf
      have d1 : (key.size : Int).tdiv 2 = (m : Int) := by
        have h : (key.size : Int).tdiv 2 = ((key.size / 2 : Nat) : Int) := rfl
        rw [h, show key.size / 2 = m by omega]
      have d4 : IntKind.i64.wrap (m : Int) = (m : Int) := wrap_in _ (by omega) (by omega)
      obtain ⟨m6, hm6⟩ : ∃ m6, m6 = m + 16 := ⟨_, rfl⟩
      have d5 : (m : Int) + 16 = (m6 : Int) := by omega
      have d6 : IntKind.i64.wrap (m6 : Int) = (m6 : Int) := wrap_in _ (by omega) (by omega)
      rw [hw] at WR
      by_cases h1 : text.size < m6
      · have e1 : (text.size : Int) < (m6 : Int) := by omega
        clear hw hf h0 hk hm hd hm2 h1 hz hm6
        go_enter Tryz.func14, Tryz.ntmps14
        go_wp2_with fail
        refine (WR.out _).mono ?_
        rintro e w1 ⟨rfl, rfl⟩
        go_wp2_with fail
        go_ret2
        exact ret_se (tl_mk []) rfl rfl (Below.refl _ _)
      · have e1 : ¬ (text.size : Int) < (m6 : Int) := by omega
        obtain ⟨a, had⟩ : ∃ a, a = text.size - m := ⟨_, rfl⟩
        have p1 : (text.size : Int) - (m : Int) = (a : Int) := by omega
        have p2 : IntKind.i64.wrap (a : Int) = (a : Int) := wrap_in _ (by omega) (by omega)
        obtain ⟨r, hr⟩ : ∃ r, a % 16 = r := ⟨_, rfl⟩
        have e3 : (a : Int).tmod 16 = (r : Int) := tmod_nat a 16 r hr.symm
        have e4 : IntKind.i64.wrap (r : Int) = (r : Int) := wrap_in _ (by omega) (by omega)
        by_cases hr0 : r = 0
        · subst hr0
          obtain ⟨M, hM⟩ : ∃ M, M = 70016 + m := ⟨_, rfl⟩
          have g1 : 70016 + (m : Int) = (M : Int) := by omega
          have g2 : IntKind.i64.wrap (M : Int) = (M : Int) := wrap_in _ (by omega) (by omega)
          have hlt : M < text.size := by
            simp [fitH] at hf
            omega
          have g3 : (M : Int) < (text.size : Int) := by omega
          clear hw hf h0 hk hm hd hm2 h1 hz hm6 hr had hM hlt
          go_enter Tryz.func14, Tryz.ntmps14
          go_wp2_with fail
          refine (WR.out _).mono ?_
          rintro e w1 ⟨rfl, rfl⟩
          go_wp2_with fail
          go_ret2
          exact ret_se (tl_mk []) rfl rfl (Below.refl _ _)
        · have e6 : ((r : Int) != 0) = true := by rw [bne_iff_ne]; omega
          clear hw hf h0 hk hm hd hm2 h1 hz hm6 hr had hr0
          go_enter Tryz.func14, Tryz.ntmps14
          go_wp2_with fail
          refine (WR.out _).mono ?_
          rintro e w1 ⟨rfl, rfl⟩
          go_wp2_with fail
          go_ret2
          exact ret_se (tl_mk []) rfl rfl (Below.refl _ _)
  · rw [if_neg hw] at hc
    rw [hc] at WR
    have hcb : (c != 0) = true := by rw [bne_iff_ne]; exact h0
    clear hw hc h0 hz
    go_enter Tryz.func14, Tryz.ntmps14
    go_wp2_with fail
    refine (WR.out _).mono ?_
    rintro e w1 ⟨rfl, rfl⟩
    go_wp2_with fail
    go_ret2
    exact ret_se (tl_mk []) rfl rfl (Below.refl _ _)
set_option maxRecDepth 100000 in
set_option maxHeartbeats 6400000 in
theorem rchOpen_ok (key iv aad text : ByteArray) (m : Nat) (hm : key.size = 2 * m) (hm2 : m = 16 ∨ m = 24 ∨ m = 32) (hv : iv.size = 16) (ha : aad.size ≤ 70000) (h1 : 16 + m ≤ text.size) (h2 : text.size ≤ 70016 + m) (h3 : (text.size - m) % 16 = 0) (w : World) :
    Calls Tryz.prog 14 #[.string key, .string iv, .string aad, .string text] w (RetSE (if chOpE key.toList iv.toList aad.toList text.toList = 0 then opeL (key.toList.drop m) iv.toList (text.toList.take (text.size - m)) else []) (chOpE key.toList iv.toList aad.toList text.toList) w) := by
  have hk : key.size = 32 ∨ key.size = 48 ∨ key.size = 64 := by omega
  have WR := Lib.hid (fun w => rchwrong_any key iv aad w)
  rw [show chW key.size iv.size aad.size = 0 by rw [chW, chE, if_pos hk, if_pos hv, if_pos ⟨ha, rfl⟩]] at WR
  obtain ⟨kb, hkb, hkl, hks⟩ := half_key key m hm hm2
  obtain ⟨a, had⟩ : ∃ a, a = text.size - m := ⟨_, rfl⟩
  obtain ⟨m6, hm6⟩ : ∃ m6, m6 = m + 16 := ⟨_, rfl⟩
  obtain ⟨M, hM⟩ : ∃ M, M = 70016 + m := ⟨_, rfl⟩
  have d1 : (key.size : Int).tdiv 2 = (m : Int) := by
    have h : (key.size : Int).tdiv 2 = ((key.size / 2 : Nat) : Int) := rfl
    rw [h, show key.size / 2 = m by omega]
  have d2 : (m : Int) ≤ (key.size : Int) := by omega
  have d3 : m ≤ key.size := by omega
  have d4 : IntKind.i64.wrap (m : Int) = (m : Int) := wrap_in _ (by omega) (by omega)
  have d5 : (m : Int) + 16 = (m6 : Int) := by omega
  have d6 : IntKind.i64.wrap (m6 : Int) = (m6 : Int) := wrap_in _ (by omega) (by omega)
  have g1 : 70016 + (m : Int) = (M : Int) := by omega
  have g2 : IntKind.i64.wrap (M : Int) = (M : Int) := wrap_in _ (by omega) (by omega)
  have g3 : ¬ (M : Int) < (text.size : Int) := by omega
  have e1 : ¬ (text.size : Int) < (m6 : Int) := by omega
  have p1 : (text.size : Int) - (m : Int) = (a : Int) := by omega
  have p2 : IntKind.i64.wrap (a : Int) = (a : Int) := wrap_in _ (by omega) (by omega)
  have e3 : (a : Int).tmod 16 = ((0 : Nat) : Int) := tmod_nat a 16 0 (by omega)
  have p5 : (a : Int) ≤ (text.size : Int) := by omega
  have p6 : a ≤ text.size := by omega
  have p7 : (0 : Int) ≤ (a : Int) := by omega
  obtain ⟨pc, hpc⟩ : ∃ pc, text.extract 0 a = pc := ⟨_, rfl⟩
  obtain ⟨tg, htg⟩ : ∃ tg, text.extract a text.size = tg := ⟨_, rfl⟩
  have hpl : pc.toList = text.toList.take a := by rw [← hpc, tl_ext0]
  have hps : pc.size ≤ 70016 := by rw [← tl_size, hpl, List.length_take, tl_size]; omega
  have htl : tg.toList = text.toList.drop a := by rw [← htg, tl_extE _ _ _ rfl]
  have TG := Lib.hid (fun w => rchTag_ok key iv aad pc w (by rw [chE, if_pos hk, if_pos hv, if_pos ⟨ha, decide_eq_true hps⟩]))
  have OP := Lib.hid (fun w => rOpen_any kb iv pc w)
  rw [hkl, hpl] at OP
  have HD : key.toList.length / 2 = m := by rw [tl_size, hm]; omega
  have hCut : chCut key.toList text.toList = text.toList.take a := by rw [chCut, HD, tl_size, ← had]
  obtain ⟨b, hb⟩ : ∃ b, (chT key.toList iv.toList aad.toList pc.toList == tg.toList) = b := ⟨_, rfl⟩
  obtain ⟨o, ho⟩ : ∃ o, opeE (key.toList.drop m) iv.toList (text.toList.take a) = o := ⟨_, rfl⟩
  have hE : chOpE key.toList iv.toList aad.toList text.toList = if b then (if o = 0 then 0 else 8) else 8 := by
    rw [chOpE, HD, hCut, ho, tl_size, ← had, ← htl, ← hpl]
    cases b
    · rw [if_neg (by rw [beq_eq_false_iff_ne] at hb; exact fun h => hb h.symm)]; rfl
    · rw [if_pos (by rw [beq_iff_eq] at hb; exact hb.symm)]; rfl
  rw [ho] at OP
  rw [hE, ← had]
  have HB := Lib.hid hb
  clear hk hkl hks had hv ha h1 h2 h3 hpl hps htl hm hm2 hb hE hCut HD hm6 hM
  cases b
  · show Calls _ _ _ _ (RetSE [] 8 w)
    go_enter Tryz.func14, Tryz.ntmps14
    go_wp2_with fail
    refine (WR.out _).mono ?_
    rintro e w1 ⟨rfl, rfl⟩
    go_wp2_with fail
    refine (TG.out _).mono ?_
    rintro e w1 ⟨t, rfl, ht, hb1⟩
    have hbt : (t.toList == tg.toList) = false := by rw [ht]; exact HB.out
    have hbt2 : (t.toList != tg.toList) = true := by rw [bne, hbt]; rfl
    have hbt3 : (t ≠ tg) := fun h => by rw [h, beq_self_eq_true] at hbt; cases hbt
    clear ht
    go_wp2_with fail
    go_region_held3 (fun _ => True) (trivial) (first | (go_at_call 30; refine (OP.out _).mono ?_; rintro e w3 ⟨s, rfl, hs, hb3⟩))
    have HS := Lib.hid hs
    clear hs
    go_wp2_with fail
    go_ret2
    exact ret_se (tl_mk []) rfl rfl (below2 hb1.drew hb3)
  · by_cases ho0 : o = 0
    · subst ho0
      show Calls _ _ _ _ (RetSE (opeL (key.toList.drop m) iv.toList (text.toList.take a)) 0 w)
      go_enter Tryz.func14, Tryz.ntmps14
      go_wp2_with fail
      refine (WR.out _).mono ?_
      rintro e w1 ⟨rfl, rfl⟩
      go_wp2_with fail
      refine (TG.out _).mono ?_
      rintro e w1 ⟨t, rfl, ht, hb1⟩
      have hbt : (t.toList == tg.toList) = true := by rw [ht]; exact HB.out
      have hbt2 : (t.toList != tg.toList) = false := by rw [bne, hbt]; rfl
      have hbt3 : (t = tg) := tl_inj (by rw [beq_iff_eq] at hbt; exact hbt)
      clear ht
      go_wp2_with fail
      go_region_held3 (fun _ => True) (trivial) (first | (go_at_call 30; refine (OP.out _).mono ?_; rintro e w3 ⟨s, rfl, hs, hb3⟩))
      have HS := Lib.hid hs
      clear hs
      go_wp2_with fail
      go_ret2
      exact ret_se HS.out rfl rfl (below2 hb1.drew hb3)
    · rw [if_pos rfl, if_neg ho0, if_neg (by decide)]
      have hob : (o != 0) = true := by rw [bne_iff_ne]; exact ho0
      clear ho0
      go_enter Tryz.func14, Tryz.ntmps14
      go_wp2_with fail
      refine (WR.out _).mono ?_
      rintro e w1 ⟨rfl, rfl⟩
      go_wp2_with fail
      refine (TG.out _).mono ?_
      rintro e w1 ⟨t, rfl, ht, hb1⟩
      have hbt : (t.toList == tg.toList) = true := by rw [ht]; exact HB.out
      have hbt2 : (t.toList != tg.toList) = false := by rw [bne, hbt]; rfl
      have hbt3 : (t = tg) := tl_inj (by rw [beq_iff_eq] at hbt; exact hbt)
      clear ht
      go_wp2_with fail
      go_region_held3 (fun _ => True) (trivial) (first | (go_at_call 30; refine (OP.out _).mono ?_; rintro e w3 ⟨s, rfl, hs, hb3⟩))
      have HS := Lib.hid hs
      clear hs
      go_wp2_with fail
      go_ret2
      exact ret_se (tl_mk []) rfl rfl (below2 hb1.drew hb3)
theorem rchOpen_any (key iv aad text : ByteArray) (hz : text.size ≤ 140737488351232) (w : World) :
    Calls Tryz.prog 14 #[.string key, .string iv, .string aad, .string text] w (RetSE (chOpenL key.toList iv.toList aad.toList text.toList) (chOpenE key.toList iv.toList aad.toList text.toList) w) := by
  obtain ⟨c, hc⟩ : ∃ c, chE key.size iv.size aad.size (fitH text.size (key.size / 2)) = c := ⟨_, rfl⟩
  rw [chOpenL, chOpenE, tl_size, tl_size, tl_size, tl_size, hc]
  by_cases h0 : c = 0
  · subst h0
    obtain ⟨hk, hv, ha, hff⟩ := chE_zero hc
    obtain ⟨m, hm, hd, hm2⟩ := half_of hk
    rw [hd] at hff
    have hf := of_decide_eq_true hff
    rw [if_pos rfl, chCut, tl_size, tl_size, hd]
    exact rchOpen_ok key iv aad text m hm hm2 hv ha hf.1 hf.2.1 hf.2.2 w
  · rw [if_neg h0, if_neg h0]
    exact rchOpen_no key iv aad text hz c w hc h0
end Go.Proofs.YtjlmmlnldjandaaGreatDoor
