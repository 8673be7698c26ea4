/- The walk of CtrPieces. -/
import Derived.Test.YtigegblpledogaaCtrE
namespace Go.Proofs.Ytigegblpledogaa
open Go.RowKit
set_option linter.unusedVariables false
set_option linter.unusedSimpArgs false
theorem u64_inN (t : Nat) (h : t < 1000000) : IntKind.u64.wrap (t : Int) = (t : Int) := by simp [IntKind.wrap, IntKind.bits, IntKind.signed]; omega
/-- a slice of texts that came in -/
structure Texts (W : World) (ad : Option Addr) (len : Nat) (ss : List ByteArray) : Prop where
  at_ : 0 < len → ∃ b off, ad = some ⟨b, off, none⟩ ∧ b < W.heap.size ∧ ∀ j, j < len → W.cell? ⟨b, off + j, none⟩ = some (.string (ss.getD j ByteArray.empty))
  small : ∀ j, j < len → (ss.getD j ByteArray.empty).size ≤ maxLen
/-- what is asked of key, start and width -/
def ctrV (k n : Nat) (wd : Int) : Prop := (k = 16 ∨ k = 24 ∨ k = 32) ∧ n = 16 ∧ 1 ≤ wd ∧ wd ≤ 16
theorem ctrE_of {k n t : Nat} {wd : Int} (h : ctrV k n wd) (ht : t ≤ 70000) : ctrE k n wd t = 0 := by
  obtain ⟨hk, hn, h1, h2⟩ := h
  have hm : mayE n wd = 0 := by rw [mayE, if_pos hn, if_neg (by omega)]
  rw [ctrE, if_pos (keyOk_yes hk), if_pos hm, if_neg (by omega)]
theorem ctrL_nil (K S : List UInt8) (k : Nat) : (ByteArray.mk #[]).toList = ctrL K S k (ByteArray.mk #[]).toList := by
  rw [tl_mk]
  rfl
set_option maxRecDepth 100000 in
set_option maxHeartbeats 3200000 in
theorem ctrPieces_walk (key s : ByteArray) (k : Int) (ad : Option Addr) (len cap : Nat) (ss : List ByteArray) (W : World) (hlen : len ≤ 140737488355328) (hT : Texts W ad len ss) :
    Calls Try.prog 10 #[.string key, .agg #[.string s, .int .i64 k], .slice ad len cap] W (RetT W) := by
  have HT := Lib.hid hT
  have hlm : len ≤ maxLen := by unfold maxLen; omega
  unfold maxLen at hlm
  clear hT
  go_enter Try.func10, Try.ntmps10
  go_wp2_with fail
  obtain ⟨w0, hw0, hA0, hb0⟩ := box_count W s k
  rw [hw0]
  obtain ⟨hc0, hc1⟩ := hA0.two
  have hl0 := hA0.lt2
  clear hw0
  refine (wakes7_any _).mono ?_
  rintro e w1 ⟨rfl, hb1⟩
  have hb01 := below2 hb0 hb1
  have HC1 : Hid (w1.cell? ⟨W.heap.size, 0, none⟩ = some (.string s) ∧ w1.cell? ⟨W.heap.size, 1, none⟩ = some (.int .i64 k)) := Lib.hid ⟨(hb1.cell (p := ⟨W.heap.size, 0, none⟩) hl0).trans hc0, (hb1.cell (p := ⟨W.heap.size, 1, none⟩) hl0).trans hc1⟩
  have hl1 : W.heap.size < w1.heap.size := Nat.lt_of_lt_of_le hl0 hb1.size
  obtain ⟨B, hB⟩ : ∃ B, W.heap.size = B := ⟨_, rfl⟩
  rw [hB] at HC1 hl1 ⊢
  have HB := Lib.hid hB
  clear hc0 hc1 hA0 hb0 hb1 hl0 hB
  go_wp2_with fail
  go_loopw [7, 8, 21] (fun va vo vi wr => ∃ (i : Nat) (all out : ByteArray), va = .string all ∧ vo = .string out ∧ vi = .int .i64 (i : Int) ∧ i ≤ len ∧ all.size ≤ 2000 ∧ out.size ≤ 2000 ∧ (i < len → all.size % 16 = 0) ∧ out.toList = ctrL key.toList s.toList k.toNat all.toList ∧ (0 < i → ctrV key.size s.size k) ∧ Below W.heap.size W wr ∧ (wr.cell? ⟨B, 0, none⟩ = some (.string s) ∧ wr.cell? ⟨B, 1, none⟩ = some (.int .i64 k)) ∧ B < wr.heap.size) (fun _ _ vi _ => len - (intOf vi).toNat)
  case atStart => exact ⟨0, _, _, rfl, rfl, rfl, Nat.zero_le _, Nat.zero_le _, Nat.zero_le _, fun _ => rfl, ctrL_nil _ _ _, fun h => absurd h (by omega), hb01, HC1.out, hl1⟩
  case round =>
    clear hb01 HC1 hl1
    obtain ⟨i, all, out, rfl, rfl, rfl, hil, has, hos, hmod, hout, hval, hbel, ⟨hc0, hc1⟩, hsz⟩ := hrel
    have HMOD := Lib.hid hmod
    have HOUT := Lib.hid hout
    have HVAL := Lib.hid hval
    clear hmod hout hval
    by_cases hlt : i < len
    · have hltI : (i : Int) < (len : Int) := by omega
      obtain ⟨b, off, rfl, hbW, hcells⟩ := HT.out.at_ (by omega)
      obtain ⟨li, hli⟩ : ∃ li, ss.getD i ByteArray.empty = li := ⟨_, rfl⟩
      have hci : wr.cell? ⟨b, off + i, none⟩ = some (.string li) := by rw [← hli, ← hcells i hlt]; exact hbel.cell (p := ⟨b, off + i, none⟩) hbW
      have hls : li.size ≤ 9223372036854775807 := by rw [← hli]; exact HT.out.small i hlt
      clear hcells hli
      by_cases h1 : 1000 < all.size
      · have h1I : (1000 : Int) < (all.size : Int) := by omega
        clear hc0 hc1
        go_wp2_with fail
        go_ret
        exact ⟨rfl, hbel⟩
      · have h1I : ¬ (1000 : Int) < (all.size : Int) := by omega
        by_cases h2 : 1000 < li.size
        · have h2I : (1000 : Int) < (li.size : Int) := by omega
          clear hc0 hc1
          go_wp2_with fail
          go_ret
          exact ⟨rfl, hbel⟩
        · have h2I : ¬ (1000 : Int) < (li.size : Int) := by omega
          obtain ⟨n, hn⟩ : ∃ n, n = all.size / 16 := ⟨_, rfl⟩
          have n1 : (all.size : Int) / 16 = (n : Int) := by omega
          have n2 : IntKind.i64.wrap (n : Int) = (n : Int) := wrap_in _ (by omega) (by omega)
          have n3 := u64_inN n (by omega)
          have hn64 : n < 2 ^ 64 := by omega
          have HN : Hid (all.toList.length = 16 * n) := by show _ = _; rw [tl_size]; have := HMOD.out hlt; omega
          have l1 : (len : Int) - 1 = ((len - 1 : Nat) : Int) := by omega
          obtain ⟨L1, hL1⟩ : ∃ L1, L1 = len - 1 := ⟨_, rfl⟩
          rw [← hL1] at l1
          have l2 : IntKind.i64.wrap (L1 : Int) = (L1 : Int) := wrap_in _ (by omega) (by omega)
          by_cases hcut : i < L1
          · have hcutI : (i : Int) < (L1 : Int) := by omega
            obtain ⟨q, hq⟩ : ∃ q, q = li.size / 16 := ⟨_, rfl⟩
            obtain ⟨m, hm⟩ : ∃ m, m = q * 16 := ⟨_, rfl⟩
            have q1 : (li.size : Int) / 16 = (q : Int) := by omega
            have q2 : IntKind.i64.wrap (q : Int) = (q : Int) := wrap_in _ (by omega) (by omega)
            have q3 : (q : Int) * 16 = (m : Int) := by omega
            have q4 : IntKind.i64.wrap (m : Int) = (m : Int) := wrap_in _ (by omega) (by omega)
            have q5 : (0 : Int) ≤ (m : Int) := by omega
            have q6 : (m : Int) ≤ (li.size : Int) := by omega
            have q7 : m ≤ li.size := by omega
            obtain ⟨pc, hpc⟩ : ∃ pc, li.extract 0 m = pc := ⟨_, rfl⟩
            have hpcs : pc.size = m := by rw [← hpc, ← tl_size, tl_ext0, List.length_take, tl_size]; omega
            have HPS : Hid (pc.size ≤ 1000) := by show _ ≤ _; omega
            have HPM : Hid (i + 1 < len → pc.size % 16 = 0) := by show _ → _; intro _; omega
            have hLi : ¬ len ≤ i + 1 := by omega
            clear hpcs hq hm hn hL1
            go_wp2_with fail
            refine (cnext_any s k n _ hn64).mono ?_
            rintro e w2 ⟨st, rfl, hst, hb2⟩
            have HC2 : Hid (w2.cell? ⟨B, 0, none⟩ = some (.string s) ∧ w2.cell? ⟨B, 1, none⟩ = some (.int .i64 k)) := Lib.hid ⟨(hb2.cell (p := ⟨B, 0, none⟩) hsz).trans hc0, (hb2.cell (p := ⟨B, 1, none⟩) hsz).trans hc1⟩
            have hc2 := HC2.out.2
            have hb02 := hbel.trans (hb2.mono hbel.size)
            have hsz2 : B < w2.heap.size := Nat.lt_of_lt_of_le hsz hb2.size
            clear hc0 hc1 hb2 hbel hsz hci
            by_cases hm : mayE s.size k = 0
            · obtain ⟨hs16, hk1, hk2⟩ := may_zero hm
              have hstl : st.toList = nxt s.toList k.toNat n := by rw [hst, nextL, tl_size, if_pos hm]
              have hsts : st.size = 16 := by rw [← tl_size, hstl, nxt_length _ _ _ (by rw [tl_size]; exact hs16)]
              rw [hm]
              have HST := Lib.hid hstl
              have HSTS := Lib.hid hsts
              have HS16 := Lib.hid hs16
              clear hm hst hstl hsts hs16
              go_wp2_with fail
              refine (cxor_any key st pc k _).mono ?_
              rintro e w3 ⟨t, rfl, ht, hb3⟩
              have HC3 : Hid (w3.cell? ⟨B, 0, none⟩ = some (.string s) ∧ w3.cell? ⟨B, 1, none⟩ = some (.int .i64 k)) := Lib.hid ⟨(hb3.cell (p := ⟨B, 0, none⟩) hsz2).trans HC2.out.1, (hb3.cell (p := ⟨B, 1, none⟩) hsz2).trans HC2.out.2⟩
              have hb03 := hb02.trans (hb3.mono hb02.size)
              have hsz3 : B < w3.heap.size := Nat.lt_of_lt_of_le hsz2 hb3.size
              clear hb3 hb02 hsz2 hc2
              rcases key_cases key with hk | ⟨k1, k2, k3⟩
              · have hE : ctrE key.size st.size k pc.size = 0 := ctrE_of ⟨hk, HSTS.out, hk1, hk2⟩ (by have := HPS.out; omega)
                have htl : t.toList = ctrL key.toList (nxt s.toList k.toNat n) k.toNat pc.toList := by rw [ht, ctrR, tl_size, tl_size, tl_size, hE, if_pos rfl, HST.out]
                have hts : t.size = pc.size := by rw [← tl_size, htl, ctrL_length, tl_size]
                rw [hE]
                have hov1 : ¬ 9223372036854775807 < all.size + pc.size := by have := HPS.out; omega
                have hov2 : ¬ 9223372036854775807 < out.size + t.size := by have := HPS.out; omega
                have hal : (all ++ pc).size ≤ 2000 := by rw [ByteArray.size_append]; have := HPS.out; omega
                have hol : (out ++ t).size ≤ 2000 := by rw [ByteArray.size_append, hts]; have := HPS.out; have h9 : out.size = all.size := by { rw [← tl_size, HOUT.out, ctrL_length, tl_size] }; omega
                have hmod2 : i + 1 < len → (all ++ pc).size % 16 = 0 := fun h => by rw [ByteArray.size_append]; have := HPM.out h; have := HMOD.out hlt; omega
                have hout2 : (out ++ t).toList = ctrL key.toList s.toList k.toNat (all ++ pc).toList := by rw [tl_append, tl_append, HOUT.out, htl, ctrL_app _ _ _ n _ _ (by rw [tl_size]; exact HS16.out) HN.out]
                have HAL := Lib.hid hal
                have HOL := Lib.hid hol
                have HMOD2 := Lib.hid hmod2
                have HOUT2 := Lib.hid hout2
                have HV2 : Hid (ctrV key.size s.size k) := ⟨hk, HS16.out, hk1, hk2⟩
                clear hE ht htl hts hal hol hmod2 hout2
                go_wp2_with fail
                go_roundw
                case rel => exact ⟨i + 1, _, _, rfl, rfl, by go_num, hlt, HAL.out, HOL.out, HMOD2.out, HOUT2.out, fun _ => HV2.out, hb03, HC3.out, hsz3⟩
                case measure => simp [intOf]; omega
              · have hE : ctrE key.size st.size k pc.size = 3 := by rw [ctrE, keyOk_no k1 k2 k3]; rfl
                rw [hE]
                clear hE ht k1 k2 k3
                go_wp2_with fail
                go_ret
                exact ⟨rfl, hb03⟩
            · obtain ⟨c0, hc0⟩ : ∃ c, mayE s.size k = c := ⟨_, rfl⟩
              rw [hc0] at hm ⊢
              have e1 : (c0 != 0) = true := by rw [bne_iff_ne]; exact hm
              clear hm hc0 hst
              go_wp2_with fail
              refine (cxor_any key st pc k _).mono ?_
              rintro e w3 ⟨t, rfl, ht, hb3⟩
              have hb03 := hb02.trans (hb3.mono hb02.size)
              obtain ⟨d, hd⟩ : ∃ d, ctrE key.size st.size k pc.size = d := ⟨_, rfl⟩
              rw [hd]
              clear hd ht hb3 hb02 hsz2 hc2
              go_wp2_with fail
              go_ret
              exact ⟨rfl, hb03⟩
          · have hcutI : ¬ (i : Int) < (L1 : Int) := by omega
            obtain ⟨pc, rfl⟩ : ∃ pc, pc = li := ⟨_, rfl⟩
            have HPS : Hid (pc.size ≤ 1000) := by show _ ≤ _; omega
            have HPM : Hid (i + 1 < len → pc.size % 16 = 0) := by show _ → _; intro _; omega
            have hLi : len ≤ i + 1 := by omega
            clear hn hL1
            go_wp2_with fail
            refine (cnext_any s k n _ hn64).mono ?_
            rintro e w2 ⟨st, rfl, hst, hb2⟩
            have HC2 : Hid (w2.cell? ⟨B, 0, none⟩ = some (.string s) ∧ w2.cell? ⟨B, 1, none⟩ = some (.int .i64 k)) := Lib.hid ⟨(hb2.cell (p := ⟨B, 0, none⟩) hsz).trans hc0, (hb2.cell (p := ⟨B, 1, none⟩) hsz).trans hc1⟩
            have hc2 := HC2.out.2
            have hb02 := hbel.trans (hb2.mono hbel.size)
            have hsz2 : B < w2.heap.size := Nat.lt_of_lt_of_le hsz hb2.size
            clear hc0 hc1 hb2 hbel hsz hci
            by_cases hm : mayE s.size k = 0
            · obtain ⟨hs16, hk1, hk2⟩ := may_zero hm
              have hstl : st.toList = nxt s.toList k.toNat n := by rw [hst, nextL, tl_size, if_pos hm]
              have hsts : st.size = 16 := by rw [← tl_size, hstl, nxt_length _ _ _ (by rw [tl_size]; exact hs16)]
              rw [hm]
              have HST := Lib.hid hstl
              have HSTS := Lib.hid hsts
              have HS16 := Lib.hid hs16
              clear hm hst hstl hsts hs16
              go_wp2_with fail
              refine (cxor_any key st pc k _).mono ?_
              rintro e w3 ⟨t, rfl, ht, hb3⟩
              have HC3 : Hid (w3.cell? ⟨B, 0, none⟩ = some (.string s) ∧ w3.cell? ⟨B, 1, none⟩ = some (.int .i64 k)) := Lib.hid ⟨(hb3.cell (p := ⟨B, 0, none⟩) hsz2).trans HC2.out.1, (hb3.cell (p := ⟨B, 1, none⟩) hsz2).trans HC2.out.2⟩
              have hb03 := hb02.trans (hb3.mono hb02.size)
              have hsz3 : B < w3.heap.size := Nat.lt_of_lt_of_le hsz2 hb3.size
              clear hb3 hb02 hsz2 hc2
              rcases key_cases key with hk | ⟨k1, k2, k3⟩
              · have hE : ctrE key.size st.size k pc.size = 0 := ctrE_of ⟨hk, HSTS.out, hk1, hk2⟩ (by have := HPS.out; omega)
                have htl : t.toList = ctrL key.toList (nxt s.toList k.toNat n) k.toNat pc.toList := by rw [ht, ctrR, tl_size, tl_size, tl_size, hE, if_pos rfl, HST.out]
                have hts : t.size = pc.size := by rw [← tl_size, htl, ctrL_length, tl_size]
                rw [hE]
                have hov1 : ¬ 9223372036854775807 < all.size + pc.size := by have := HPS.out; omega
                have hov2 : ¬ 9223372036854775807 < out.size + t.size := by have := HPS.out; omega
                have hal : (all ++ pc).size ≤ 2000 := by rw [ByteArray.size_append]; have := HPS.out; omega
                have hol : (out ++ t).size ≤ 2000 := by rw [ByteArray.size_append, hts]; have := HPS.out; have h9 : out.size = all.size := by { rw [← tl_size, HOUT.out, ctrL_length, tl_size] }; omega
                have hmod2 : i + 1 < len → (all ++ pc).size % 16 = 0 := fun h => by rw [ByteArray.size_append]; have := HPM.out h; have := HMOD.out hlt; omega
                have hout2 : (out ++ t).toList = ctrL key.toList s.toList k.toNat (all ++ pc).toList := by rw [tl_append, tl_append, HOUT.out, htl, ctrL_app _ _ _ n _ _ (by rw [tl_size]; exact HS16.out) HN.out]
                have HAL := Lib.hid hal
                have HOL := Lib.hid hol
                have HMOD2 := Lib.hid hmod2
                have HOUT2 := Lib.hid hout2
                have HV2 : Hid (ctrV key.size s.size k) := ⟨hk, HS16.out, hk1, hk2⟩
                clear hE ht htl hts hal hol hmod2 hout2
                go_wp2_with fail
                go_roundw
                case rel => exact ⟨i + 1, _, _, rfl, rfl, by go_num, hlt, HAL.out, HOL.out, HMOD2.out, HOUT2.out, fun _ => HV2.out, hb03, HC3.out, hsz3⟩
                case measure => simp [intOf]; omega
              · have hE : ctrE key.size st.size k pc.size = 3 := by rw [ctrE, keyOk_no k1 k2 k3]; rfl
                rw [hE]
                clear hE ht k1 k2 k3
                go_wp2_with fail
                go_ret
                exact ⟨rfl, hb03⟩
            · obtain ⟨c0, hc0⟩ : ∃ c, mayE s.size k = c := ⟨_, rfl⟩
              rw [hc0] at hm ⊢
              have e1 : (c0 != 0) = true := by rw [bne_iff_ne]; exact hm
              clear hm hc0 hst
              go_wp2_with fail
              refine (cxor_any key st pc k _).mono ?_
              rintro e w3 ⟨t, rfl, ht, hb3⟩
              have hb03 := hb02.trans (hb3.mono hb02.size)
              obtain ⟨d, hd⟩ : ∃ d, ctrE key.size st.size k pc.size = d := ⟨_, rfl⟩
              rw [hd]
              clear hd ht hb3 hb02 hsz2 hc2
              go_wp2_with fail
              go_ret
              exact ⟨rfl, hb03⟩
    · have hil2 : i = len := by omega
      subst hil2
      have hltI : ¬ (i : Int) < (i : Int) := by omega
      go_wp2_with fail
      refine (cxor_any key s all k _).mono ?_
      rintro e w2 ⟨t, rfl, ht, hb2⟩
      have hb02 := hbel.trans (hb2.mono hbel.size)
      clear hb2 hbel hc0 hc1 hsz
      by_cases hi0 : i = 0
      · have e1 : ((i : Int) == 0) = true := by rw [beq_iff_eq]; omega
        obtain ⟨d, hd⟩ : ∃ d, ctrE key.size s.size k all.size = d := ⟨_, rfl⟩
        rw [hd]
        clear hd ht hi0
        go_wp2_with fail
        go_ret
        exact ⟨rfl, hb02⟩
      · have e1 : ((i : Int) == 0) = false := by rw [beq_eq_false_iff_ne]; omega
        have hv := HVAL.out (by omega)
        have hE : ctrE key.size s.size k all.size = 0 := ctrE_of hv (by omega)
        obtain rfl : t = out := tl_inj (by rw [ht, ctrR, tl_size, tl_size, tl_size, hE, if_pos rfl, HOUT.out])
        rw [hE]
        clear hE ht hi0 hv
        go_wp2_with fail
        go_ret
        exact ⟨rfl, hb02⟩
end Go.Proofs.Ytigegblpledogaa
