/- The program's take. -/
import Derived.Test.YtjlmmlnldjandaaGreatDoorShQ
namespace Go.Proofs.YtjlmmlnldjandaaGreatDoor
open Go.RowKit
set_option linter.unusedVariables false
set_option linter.unusedSimpArgs false
/-- a text's length -/
def strOf : Value → Nat
  | .string s => s.size
  | _ => 0
set_option maxRecDepth 100000 in
set_option maxHeartbeats 16000000 in
theorem take32_any (w : World) (g : Nat) (kind : Int) (hk : kb kind 32) (oA : Int) (hsz : ∀ wx, Calls Tryz.prog 84 #[.int .i64 kind] wx (fun e w' => e = .returned (.tuple #[.int .i64 oA, .int .i64 64, .int .i64 0]) ∧ wx = w')) (D : List UInt8) (s : ByteArray) (hD : Hst w g kind 32 D) (hT : Tb w) (hg : 2 < g) (hl : D.length + s.size ≤ 1125899906842624) :
    Calls Tryz.prog 115 #[.pointer (some ⟨g, 0, none⟩), .string s] w (RetHst g kind 32 (D ++ s.toList) w) := by
  have hD0 := hD
  obtain ⟨R0, hm0, _⟩ := hD0
  have c0 := hm0.kd.cell 0 _ rfl
  have HSZ := Lib.hid hsz
  have HD := Lib.hid hD
  have HTB := Lib.hid hT
  have HK := Lib.hid hk
  have HL := Lib.hid hl
  clear hsz hD hT hk hm0 hl
  go_enter Tryz.func115, Tryz.ntmps115
  go_wp2_with fail
  refine (HSZ.out _).mono ?_
  rintro e w1 ⟨rfl, rfl⟩
  go_wp2_with fail
  go_loopw [1] (fun sv wr => ∃ (t : ByteArray) (D' : List UInt8), sv = .string t ∧ D' ++ t.toList = D ++ s.toList ∧ Hst wr g kind 32 D' ∧ Chg g w wr ∧ Tb wr) (fun sv _ => strOf sv)
  case atStart => exact ⟨s, D, rfl, rfl, HD.out, Chg.refl g w, HTB.out⟩
  case round =>
    clear c0 HTB HD
    obtain ⟨t, D', rfl, hDt, hD, hC, hTb⟩ := hrel
    have hlen := congrArg List.length hDt
    rw [List.length_append, List.length_append, tl_size, tl_size] at hlen
    have hl2 : D'.length + t.size ≤ 1125899906842624 := by have := HL.out; omega
    by_cases ht : t.size = 0
    · have ht2 : t.toList = [] := List.eq_nil_of_length_eq_zero (by rw [tl_size]; exact ht)
      rw [ht2, List.append_nil] at hDt
      rw [hDt] at hD
      have HE := Lib.hid (And.intro hD hC)
      have e0 : ¬ 0 < t.size := by omega
      have e1 : ¬ (0 : Int) < (t.size : Int) := by omega
      clear hD hC hTb hDt ht ht2 hlen
      go_wp2_with fail
      go_end0
      exact ⟨rfl, HE.out.1, HE.out.2⟩
    · obtain ⟨R, hm, hr⟩ := hD
      obtain ⟨L, hL⟩ : ∃ L, D'.length = L := ⟨_, rfl⟩
      obtain ⟨u, hu⟩ : ∃ u, L % 64 = u := ⟨_, rfl⟩
      have hul : u < 64 := by omega
      obtain ⟨c, hc⟩ : ∃ c, Nat.min t.size (64 - u) = c := ⟨_, rfl⟩
      have hcm : c = min t.size (64 - u) := hc.symm
      have hc1 : 0 < c := by omega
      have hct : c ≤ t.size := by omega
      have hcu : u + c ≤ 64 := by omega
      have lc := hm.ln.cell 0 _ rfl
      have lf := hm.ln.froz 0 (by simp)
      rw [hL] at lc
      have f1 : IntKind.u64.wrap (64 : Int) = 64 := by decide
      have f2 : (L : Int).tmod 64 = (u : Int) := tmod_natS L 64 u hu
      have f3 : IntKind.u64.wrap (u : Int) = (u : Int) := u64_fit _ (by omega)
      have f4 : IntKind.i64.wrap (u : Int) = (u : Int) := i64_fit _ (by omega)
      have f5 : (u : Int) ≤ 64 := by omega
      have f6 : (0 : Int) ≤ (u : Int) := by omega
      have f7 : IntKind.u64.wrap (c : Int) = (c : Int) := u64_fit _ (by omega)
      obtain ⟨L2, hL2⟩ : ∃ x, L + c = x := ⟨_, rfl⟩
      have f8 : IntKind.u64.wrap ((L : Int) + (c : Int)) = (L2 : Int) := by rw [show (L : Int) + (c : Int) = (L2 : Int) by omega]; exact u64_fit _ (by omega)
      have f9 : c ≤ t.size := hct
      have f10 : (c : Int) ≤ (t.size : Int) := by omega
      have f11 : (0 : Int) ≤ (c : Int) := by omega
      have f12 : 0 < t.size := by omega
      have f14 : ¬ 128 = u := by omega
      have f13 : (0 : Int) < (t.size : Int) := by omega
      have hold : At wr g (9 + u) (bcells ((R.drop u).take c)) := by
        have h := hm.rs
        have e : R = R.take u ++ ((R.drop u).take c ++ R.drop (u + c)) := by rw [← List.drop_drop, List.take_append_drop, List.take_append_drop]
        rw [e, ← List.append_assoc, bcells_append, bcells_append] at h
        have h2 := h.sub
        rwa [bcells_length, List.length_take, hm.rl, Nat.min_eq_left (by omega)] at h2
      have holl : (bcells ((R.drop u).take c)).length = c := by rw [bcells_length, List.length_take, List.length_drop, hm.rl]; omega
      obtain ⟨X, hX⟩ : ∃ X, t.toList.take c = X := ⟨_, rfl⟩
      have hXl : X.length = c := by rw [← hX, List.length_take, tl_size]; omega
      have hu8 : (Tryz.prog.info? 5).map (·.size) = some 1 := by obtain ⟨i0, hi, hz0, hz1, hz2⟩ := info_parts info5; rw [hi]; simp [hz1]
      have hov := hm.over (u := u) (X := X) (by rw [hXl]; omega)
      have hov2 := hov.length L2
      obtain ⟨t2, ht2⟩ : ∃ t2, t.extract c t.size = t2 := ⟨_, rfl⟩
      have hXt : X ++ t2.toList = t.toList := by
        have he : (t.extract c t.size).toList = t.toList.drop c := by
          rw [Lib.toList_data, Lib.extract_data, ← Lib.toList_data]
          exact List.take_of_length_le (by rw [List.length_drop, tl_size]; exact Nat.le_refl _)
        rw [← hX, ← ht2, he, List.take_append_drop]
      have ht2s : t2.size < t.size := by
        have := congrArg List.length hXt
        rw [List.length_append, tl_size, tl_size, hXl] at this
        omega
      have hD2 : (D' ++ X) ++ t2.toList = D ++ s.toList := by rw [List.append_assoc, hXt, hDt]
      have HOLD := Lib.hid (And.intro hold holl)
      have HX := Lib.hid hX
      have HU8 := Lib.hid hu8
      have HCM := Lib.hid hc
      have HT2 := Lib.hid (And.intro hD2 ht2s)
      have HDL : Hid ((D' ++ X).length = L2) := by show _ = _; rw [List.length_append, hXl, hL, hL2]
      have HC := Lib.hid hC
      have HTB := Lib.hid hTb
      have HGL := Lib.hid hm.lt
      have hstH := (hs_ok 32 (Sh.kL 32) (Sh.hL kind) D' (hL_ok kind).1 (by have := (hL_ok kind).2; rw [bits_kb HK.out] at this; exact this) (D'.length / (2 * 32))).2
      have HOV := Lib.hid hov
      have HLL := Lib.hid hL
      by_cases hfull : u + c = 64
      · have hgf := gather_full (b := 32) (by decide) (Sh.kL 32) (Sh.hL kind) D' X R hm.rl hr (by rw [hL, hXl]; show L % 64 + c = 64; rw [hu]; exact hfull) (by decide)
        rw [show D'.length % (2 * 32) = u by rw [hL]; exact hu] at hgf
        have HG := Lib.hid hgf
        have HSH := Lib.hid hstH
        have g1 : (u : Int) + (c : Int) = 64 := by omega
        have g2 : IntKind.i64.wrap ((u : Int) + (c : Int)) = 64 := by rw [g1]; decide
        clear hm hr hov hov2 hold holl hX hu8 hc hcm hD2 hC hTb hgf hstH hfull hL hu hL2 hXt hDt hlen ht hul hcu hXl
        go_wp2_with (refine wpList_copy_text rfl (.tmp 34) (.tmp 35) 54 9 rfl 5 Tryz.underlying54 HU8.out g (9 + u) (64 - u) (128 - u) rfl t rfl (bcells ((R.drop u).take c)) HOLD.out.1 c HCM.out HOLD.out.2 ?_; intro w2 hw2; have hq : wr.setCells g (9 + u) (bcells X) = w2 := (by rw [← HX.out]; exact hw2.out.symm); have HO2 := HOV.out; rw [hq] at HO2; have k2 := HO2.ln.cell 0 _ rfl; rw [HLL.out] at k2; have k3 := HO2.ln.froz 0 (by simp); have HO3 := Lib.hid HO2; have HC2 := Lib.hid (HC.out.trans (hq ▸ Chg.ofSets g (bcells X) (9 + u) wr)); have HT3 := Lib.hid (HTB.out.chg (hq ▸ Chg.ofSets g (bcells X) (9 + u) wr) hg); clear HO2 hq hw2)
        have HM5 := Lib.hid (HO3.out.length L2)
        have HT5 := Lib.hid (HT3.out.chg ((Chg.refl g w2).setCell 137 (.int .u64 (L2 : Int))) hg)
        have HC5 := Lib.hid (HC2.out.setCell 137 (.int .u64 (L2 : Int)))
        clear k2 k3 lc lf f1 f2 f3 f4 f5 f6 f7 f8 f9 f10 f11 g1 g2
        refine (block_any _ g 32 kind HK.out _ _ _ HM5.out HSH.out HT5.out hg).mono ?_
        rintro e w6 ⟨rfl, hm6, hc6⟩
        rw [← HDL.out] at hm6
        have hm7 : HM w6 g kind (Sh.hs 32 (Sh.kL 32) (Sh.hL kind) (D' ++ X) ((D' ++ X).length / (2 * 32))) (over R X u) (D' ++ X).length := by rw [HG.out.1]; exact hm6
        have HM7 := Lib.hid hm7
        have HC7 := Lib.hid (HC5.out.trans hc6)
        have HT7 := Lib.hid (HT5.out.chg hc6 hg)
        clear hm6 hm7 hc6
        go_wp2_with fail
        go_roundw
        case rel => exact ⟨t2, D' ++ X, rfl, HT2.out.1, ⟨over R X u, HM7.out, HG.out.2⟩, HC7.out, HT7.out⟩
        case measure => exact ht2s
      · have hgf := gather_less (b := 32) (by decide) (Sh.kL 32) (Sh.hL kind) D' X R hm.rl hr (by rw [hL, hXl]; show L % 64 + c < 64; rw [hu]; omega) (by decide)
        rw [show D'.length % (2 * 32) = u by rw [hL]; exact hu] at hgf
        have HG := Lib.hid hgf
        obtain ⟨v, hv⟩ : ∃ v, u + c = v := ⟨_, rfl⟩
        have g1 : (u : Int) + (c : Int) = (v : Int) := by omega
        have g2 : IntKind.i64.wrap (v : Int) = (v : Int) := i64_fit _ (by omega)
        have g3 : ((v : Int) == 64) = false := by rw [beq_eq_false_iff_ne]; omega
        clear hm hr hov hov2 hold holl hX hu8 hc hcm hD2 hC hTb hgf hstH hfull hL hu hL2 hXt hDt hlen ht hul hcu hXl hv
        go_wp2_with (refine wpList_copy_text rfl (.tmp 34) (.tmp 35) 54 9 rfl 5 Tryz.underlying54 HU8.out g (9 + u) (64 - u) (128 - u) rfl t rfl (bcells ((R.drop u).take c)) HOLD.out.1 c HCM.out HOLD.out.2 ?_; intro w2 hw2; have hq : wr.setCells g (9 + u) (bcells X) = w2 := (by rw [← HX.out]; exact hw2.out.symm); have HO2 := HOV.out; rw [hq] at HO2; have k2 := HO2.ln.cell 0 _ rfl; rw [HLL.out] at k2; have k3 := HO2.ln.froz 0 (by simp); have HO3 := Lib.hid HO2; have HC2 := Lib.hid (HC.out.trans (hq ▸ Chg.ofSets g (bcells X) (9 + u) wr)); have HT3 := Lib.hid (HTB.out.chg (hq ▸ Chg.ofSets g (bcells X) (9 + u) wr) hg); clear HO2 hq hw2)
        have hm6 := HO3.out.length L2
        rw [← HDL.out] at hm6 ⊢
        have hm7 : HM (w2.setCell ⟨g, 137, none⟩ (.int .u64 (((D' ++ X).length : Nat) : Int))) g kind (Sh.hs 32 (Sh.kL 32) (Sh.hL kind) (D' ++ X) ((D' ++ X).length / (2 * 32))) (over R X u) (D' ++ X).length := by rw [HG.out.1]; exact hm6
        have HM7 := Lib.hid hm7
        have HC7 := Lib.hid (HC2.out.setCell 137 (.int .u64 (((D' ++ X).length : Nat) : Int)))
        have HT7 := Lib.hid (HT3.out.chg ((Chg.refl g w2).setCell 137 (.int .u64 (((D' ++ X).length : Nat) : Int))) hg)
        clear hm6 hm7
        go_roundw
        case rel => exact ⟨t2, D' ++ X, rfl, HT2.out.1, ⟨over R X u, HM7.out, HG.out.2⟩, HC7.out, HT7.out⟩
        case measure => exact ht2s
set_option maxRecDepth 100000 in
set_option maxHeartbeats 16000000 in
theorem take64_any (w : World) (g : Nat) (kind : Int) (hk : kb kind 64) (oA : Int) (hsz : ∀ wx, Calls Tryz.prog 84 #[.int .i64 kind] wx (fun e w' => e = .returned (.tuple #[.int .i64 oA, .int .i64 128, .int .i64 0]) ∧ wx = w')) (D : List UInt8) (s : ByteArray) (hD : Hst w g kind 64 D) (hT : Tb w) (hg : 2 < g) (hl : D.length + s.size ≤ 1125899906842624) :
    Calls Tryz.prog 115 #[.pointer (some ⟨g, 0, none⟩), .string s] w (RetHst g kind 64 (D ++ s.toList) w) := by
  have hD0 := hD
  obtain ⟨R0, hm0, _⟩ := hD0
  have c0 := hm0.kd.cell 0 _ rfl
  have HSZ := Lib.hid hsz
  have HD := Lib.hid hD
  have HTB := Lib.hid hT
  have HK := Lib.hid hk
  have HL := Lib.hid hl
  clear hsz hD hT hk hm0 hl
  go_enter Tryz.func115, Tryz.ntmps115
  go_wp2_with fail
  refine (HSZ.out _).mono ?_
  rintro e w1 ⟨rfl, rfl⟩
  go_wp2_with fail
  go_loopw [1] (fun sv wr => ∃ (t : ByteArray) (D' : List UInt8), sv = .string t ∧ D' ++ t.toList = D ++ s.toList ∧ Hst wr g kind 64 D' ∧ Chg g w wr ∧ Tb wr) (fun sv _ => strOf sv)
  case atStart => exact ⟨s, D, rfl, rfl, HD.out, Chg.refl g w, HTB.out⟩
  case round =>
    clear c0 HTB HD
    obtain ⟨t, D', rfl, hDt, hD, hC, hTb⟩ := hrel
    have hlen := congrArg List.length hDt
    rw [List.length_append, List.length_append, tl_size, tl_size] at hlen
    have hl2 : D'.length + t.size ≤ 1125899906842624 := by have := HL.out; omega
    by_cases ht : t.size = 0
    · have ht2 : t.toList = [] := List.eq_nil_of_length_eq_zero (by rw [tl_size]; exact ht)
      rw [ht2, List.append_nil] at hDt
      rw [hDt] at hD
      have HE := Lib.hid (And.intro hD hC)
      have e0 : ¬ 0 < t.size := by omega
      have e1 : ¬ (0 : Int) < (t.size : Int) := by omega
      clear hD hC hTb hDt ht ht2 hlen
      go_wp2_with fail
      go_end0
      exact ⟨rfl, HE.out.1, HE.out.2⟩
    · obtain ⟨R, hm, hr⟩ := hD
      obtain ⟨L, hL⟩ : ∃ L, D'.length = L := ⟨_, rfl⟩
      obtain ⟨u, hu⟩ : ∃ u, L % 128 = u := ⟨_, rfl⟩
      have hul : u < 128 := by omega
      obtain ⟨c, hc⟩ : ∃ c, Nat.min t.size (128 - u) = c := ⟨_, rfl⟩
      have hcm : c = min t.size (128 - u) := hc.symm
      have hc1 : 0 < c := by omega
      have hct : c ≤ t.size := by omega
      have hcu : u + c ≤ 128 := by omega
      have lc := hm.ln.cell 0 _ rfl
      have lf := hm.ln.froz 0 (by simp)
      rw [hL] at lc
      have f1 : IntKind.u64.wrap (128 : Int) = 128 := by decide
      have f2 : (L : Int).tmod 128 = (u : Int) := tmod_natS L 128 u hu
      have f3 : IntKind.u64.wrap (u : Int) = (u : Int) := u64_fit _ (by omega)
      have f4 : IntKind.i64.wrap (u : Int) = (u : Int) := i64_fit _ (by omega)
      have f5 : (u : Int) ≤ 128 := by omega
      have f6 : (0 : Int) ≤ (u : Int) := by omega
      have f7 : IntKind.u64.wrap (c : Int) = (c : Int) := u64_fit _ (by omega)
      obtain ⟨L2, hL2⟩ : ∃ x, L + c = x := ⟨_, rfl⟩
      have f8 : IntKind.u64.wrap ((L : Int) + (c : Int)) = (L2 : Int) := by rw [show (L : Int) + (c : Int) = (L2 : Int) by omega]; exact u64_fit _ (by omega)
      have f9 : c ≤ t.size := hct
      have f10 : (c : Int) ≤ (t.size : Int) := by omega
      have f11 : (0 : Int) ≤ (c : Int) := by omega
      have f12 : 0 < t.size := by omega
      have f14 : ¬ 128 = u := by omega
      have f13 : (0 : Int) < (t.size : Int) := by omega
      have hold : At wr g (9 + u) (bcells ((R.drop u).take c)) := by
        have h := hm.rs
        have e : R = R.take u ++ ((R.drop u).take c ++ R.drop (u + c)) := by rw [← List.drop_drop, List.take_append_drop, List.take_append_drop]
        rw [e, ← List.append_assoc, bcells_append, bcells_append] at h
        have h2 := h.sub
        rwa [bcells_length, List.length_take, hm.rl, Nat.min_eq_left (by omega)] at h2
      have holl : (bcells ((R.drop u).take c)).length = c := by rw [bcells_length, List.length_take, List.length_drop, hm.rl]; omega
      obtain ⟨X, hX⟩ : ∃ X, t.toList.take c = X := ⟨_, rfl⟩
      have hXl : X.length = c := by rw [← hX, List.length_take, tl_size]; omega
      have hu8 : (Tryz.prog.info? 5).map (·.size) = some 1 := by obtain ⟨i0, hi, hz0, hz1, hz2⟩ := info_parts info5; rw [hi]; simp [hz1]
      have hov := hm.over (u := u) (X := X) (by rw [hXl]; omega)
      have hov2 := hov.length L2
      obtain ⟨t2, ht2⟩ : ∃ t2, t.extract c t.size = t2 := ⟨_, rfl⟩
      have hXt : X ++ t2.toList = t.toList := by
        have he : (t.extract c t.size).toList = t.toList.drop c := by
          rw [Lib.toList_data, Lib.extract_data, ← Lib.toList_data]
          exact List.take_of_length_le (by rw [List.length_drop, tl_size]; exact Nat.le_refl _)
        rw [← hX, ← ht2, he, List.take_append_drop]
      have ht2s : t2.size < t.size := by
        have := congrArg List.length hXt
        rw [List.length_append, tl_size, tl_size, hXl] at this
        omega
      have hD2 : (D' ++ X) ++ t2.toList = D ++ s.toList := by rw [List.append_assoc, hXt, hDt]
      have HOLD := Lib.hid (And.intro hold holl)
      have HX := Lib.hid hX
      have HU8 := Lib.hid hu8
      have HCM := Lib.hid hc
      have HT2 := Lib.hid (And.intro hD2 ht2s)
      have HDL : Hid ((D' ++ X).length = L2) := by show _ = _; rw [List.length_append, hXl, hL, hL2]
      have HC := Lib.hid hC
      have HTB := Lib.hid hTb
      have HGL := Lib.hid hm.lt
      have hstH := (hs_ok 64 (Sh.kL 64) (Sh.hL kind) D' (hL_ok kind).1 (by have := (hL_ok kind).2; rw [bits_kb HK.out] at this; exact this) (D'.length / (2 * 64))).2
      have HOV := Lib.hid hov
      have HLL := Lib.hid hL
      by_cases hfull : u + c = 128
      · have hgf := gather_full (b := 64) (by decide) (Sh.kL 64) (Sh.hL kind) D' X R hm.rl hr (by rw [hL, hXl]; show L % 128 + c = 128; rw [hu]; exact hfull) (by decide)
        rw [show D'.length % (2 * 64) = u by rw [hL]; exact hu] at hgf
        have HG := Lib.hid hgf
        have HSH := Lib.hid hstH
        have g1 : (u : Int) + (c : Int) = 128 := by omega
        have g2 : IntKind.i64.wrap ((u : Int) + (c : Int)) = 128 := by rw [g1]; decide
        clear hm hr hov hov2 hold holl hX hu8 hc hcm hD2 hC hTb hgf hstH hfull hL hu hL2 hXt hDt hlen ht hul hcu hXl
        go_wp2_with (refine wpList_copy_text rfl (.tmp 34) (.tmp 35) 54 9 rfl 5 Tryz.underlying54 HU8.out g (9 + u) (128 - u) (128 - u) rfl t rfl (bcells ((R.drop u).take c)) HOLD.out.1 c HCM.out HOLD.out.2 ?_; intro w2 hw2; have hq : wr.setCells g (9 + u) (bcells X) = w2 := (by rw [← HX.out]; exact hw2.out.symm); have HO2 := HOV.out; rw [hq] at HO2; have k2 := HO2.ln.cell 0 _ rfl; rw [HLL.out] at k2; have k3 := HO2.ln.froz 0 (by simp); have HO3 := Lib.hid HO2; have HC2 := Lib.hid (HC.out.trans (hq ▸ Chg.ofSets g (bcells X) (9 + u) wr)); have HT3 := Lib.hid (HTB.out.chg (hq ▸ Chg.ofSets g (bcells X) (9 + u) wr) hg); clear HO2 hq hw2)
        have HM5 := Lib.hid (HO3.out.length L2)
        have HT5 := Lib.hid (HT3.out.chg ((Chg.refl g w2).setCell 137 (.int .u64 (L2 : Int))) hg)
        have HC5 := Lib.hid (HC2.out.setCell 137 (.int .u64 (L2 : Int)))
        clear k2 k3 lc lf f1 f2 f3 f4 f5 f6 f7 f8 f9 f10 f11 g1 g2
        refine (block_any _ g 64 kind HK.out _ _ _ HM5.out HSH.out HT5.out hg).mono ?_
        rintro e w6 ⟨rfl, hm6, hc6⟩
        rw [← HDL.out] at hm6
        have hm7 : HM w6 g kind (Sh.hs 64 (Sh.kL 64) (Sh.hL kind) (D' ++ X) ((D' ++ X).length / (2 * 64))) (over R X u) (D' ++ X).length := by rw [HG.out.1]; exact hm6
        have HM7 := Lib.hid hm7
        have HC7 := Lib.hid (HC5.out.trans hc6)
        have HT7 := Lib.hid (HT5.out.chg hc6 hg)
        clear hm6 hm7 hc6
        go_wp2_with fail
        go_roundw
        case rel => exact ⟨t2, D' ++ X, rfl, HT2.out.1, ⟨over R X u, HM7.out, HG.out.2⟩, HC7.out, HT7.out⟩
        case measure => exact ht2s
      · have hgf := gather_less (b := 64) (by decide) (Sh.kL 64) (Sh.hL kind) D' X R hm.rl hr (by rw [hL, hXl]; show L % 128 + c < 128; rw [hu]; omega) (by decide)
        rw [show D'.length % (2 * 64) = u by rw [hL]; exact hu] at hgf
        have HG := Lib.hid hgf
        obtain ⟨v, hv⟩ : ∃ v, u + c = v := ⟨_, rfl⟩
        have g1 : (u : Int) + (c : Int) = (v : Int) := by omega
        have g2 : IntKind.i64.wrap (v : Int) = (v : Int) := i64_fit _ (by omega)
        have g3 : ((v : Int) == 128) = false := by rw [beq_eq_false_iff_ne]; omega
        clear hm hr hov hov2 hold holl hX hu8 hc hcm hD2 hC hTb hgf hstH hfull hL hu hL2 hXt hDt hlen ht hul hcu hXl hv
        go_wp2_with (refine wpList_copy_text rfl (.tmp 34) (.tmp 35) 54 9 rfl 5 Tryz.underlying54 HU8.out g (9 + u) (128 - u) (128 - u) rfl t rfl (bcells ((R.drop u).take c)) HOLD.out.1 c HCM.out HOLD.out.2 ?_; intro w2 hw2; have hq : wr.setCells g (9 + u) (bcells X) = w2 := (by rw [← HX.out]; exact hw2.out.symm); have HO2 := HOV.out; rw [hq] at HO2; have k2 := HO2.ln.cell 0 _ rfl; rw [HLL.out] at k2; have k3 := HO2.ln.froz 0 (by simp); have HO3 := Lib.hid HO2; have HC2 := Lib.hid (HC.out.trans (hq ▸ Chg.ofSets g (bcells X) (9 + u) wr)); have HT3 := Lib.hid (HTB.out.chg (hq ▸ Chg.ofSets g (bcells X) (9 + u) wr) hg); clear HO2 hq hw2)
        have hm6 := HO3.out.length L2
        rw [← HDL.out] at hm6 ⊢
        have hm7 : HM (w2.setCell ⟨g, 137, none⟩ (.int .u64 (((D' ++ X).length : Nat) : Int))) g kind (Sh.hs 64 (Sh.kL 64) (Sh.hL kind) (D' ++ X) ((D' ++ X).length / (2 * 64))) (over R X u) (D' ++ X).length := by rw [HG.out.1]; exact hm6
        have HM7 := Lib.hid hm7
        have HC7 := Lib.hid (HC2.out.setCell 137 (.int .u64 (((D' ++ X).length : Nat) : Int)))
        have HT7 := Lib.hid (HT3.out.chg ((Chg.refl g w2).setCell 137 (.int .u64 (((D' ++ X).length : Nat) : Int))) hg)
        clear hm6 hm7
        go_roundw
        case rel => exact ⟨t2, D' ++ X, rfl, HT2.out.1, ⟨over R X u, HM7.out, HG.out.2⟩, HC7.out, HT7.out⟩
        case measure => exact ht2s
end Go.Proofs.YtjlmmlnldjandaaGreatDoor
