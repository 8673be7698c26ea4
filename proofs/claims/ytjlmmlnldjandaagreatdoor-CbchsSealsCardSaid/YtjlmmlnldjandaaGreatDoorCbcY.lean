/- Joined by merge.py: AesBd RowS CbcK CbcL CbcQ CbcN CbcO CbcR CbcS CbcT CbcU. -/
import Derived.Test.YtjlmmlnldjandaaGreatDoorAesBe
import Derived.Test.YtjlmmlnldjandaaGreatDoorRowX
import Derived.Test.YtjlmmlnldjandaaGreatDoorCbcX
namespace Go.Proofs.YtjlmmlnldjandaaGreatDoor
open Go.RowKit
set_option linter.unusedVariables false
set_option linter.unusedSimpArgs false
def rdecN (W : List UInt32) (M : Nat) : Nat → List UInt32 → List UInt32
  | 0, s => s
  | j + 1, s => rdecN W M j (lasL gback 3 2 1 (if j + 1 < M then colL 14 11 13 9 (addL s W (4 * (j + 1))) else addL s W (4 * (j + 1))))
theorem rdecN_dec (W : List UInt32) (M : Nat) : ∀ (n : Nat) (s : List UInt32), n < M → rdecN W M n s = decN W n s
  | 0, s, h => rfl
  | n + 1, s, h => by rw [rdecN, if_pos h, rdecN_dec W M n _ (by omega), decN, umxL_col _ (addL_length _ _ _)]
theorem rdecN_all (W : List UInt32) (m : Nat) (s : List UInt32) : rdecN W (m + 1) (m + 1) s = decN W m (lasL gback 3 2 1 (addL s W (4 * (m + 1)))) := by
  rw [rdecN, if_neg (Nat.lt_irrefl _), rdecN_dec W (m + 1) m _ (by omega)]
theorem lasb_byte (f : UInt8 → UInt8) (S : List UInt32) (i r : Nat) (hr : r < 4) (hi : i < 4) : rw_ (lasF f 3 2 1 S i) r = f (rw_ (S.getD ((i + 4 - r) % 4) 0) r) := by
  match r, hr with
  | 0, _ => rw [lasF, rw_wd0, show (i + 4 - 0) % 4 = i by omega]
  | 1, _ => rw [lasF, rw_wd1]; rfl
  | 2, _ => rw [lasF, rw_wd2]; rfl
  | 3, _ => rw [lasF, rw_wd3]; rfl
theorem txt_lasb (f : UInt8 → UInt8) (S : List UInt32) (k : Nat) (hk : k < 16) : txtF (lasL f 3 2 1 S) k = f (rw_ (S.getD ((k / 4 + 4 - k % 4) % 4) 0) (k % 4)) := by
  have h4 : k / 4 < 4 := by omega
  rw [txtF, ← lasb_byte f S (k / 4) (k % 4) (by omega) h4]
  congr 1
  simp [lasL, List.getD, h4]
def pos (k : Nat) : Nat := 4 * ((k / 4 + k % 4) % 4) + k % 4
def pin (k : Nat) : Nat := 4 * ((k / 4 + 4 - k % 4) % 4) + k % 4
theorem pos_pin : ∀ i : Fin 16, ∀ k : Fin 16, (pin i.val = k.val) ↔ (i.val = pos k.val) := by decide +kernel
theorem pos_q : ∀ k : Fin 16, (pos k.val / 4 + 4 - pos k.val % 4) % 4 = k.val / 4 ∧ pos k.val % 4 = k.val % 4 := by decide +kernel
theorem pin_lt : ∀ i : Fin 16, pin i.val < 16 := by decide +kernel
/-- the first c columns mixed back -/
def myP (T : List UInt32) (c : Nat) : List UInt32 := mixP 4 (fun i => colG 14 11 13 9 (T.getD i 0)) (fun i => T.getD i 0) c
theorem myP_zero (T : List UInt32) (h : T.length = 4) : myP T 0 = T := by rw [myP, mixP_zero, map_getD _ _ _ h]
theorem myP_four (T : List UInt32) (h : T.length = 4) : myP T 4 = colL 14 11 13 9 T := by
  rw [myP, mixP_full]
  obtain ⟨a, b, c, d, rfl⟩ := four T h
  rfl
theorem myP_step (T : List UInt32) (c : Nat) (hc : c < 4) : (myP T c).set c (colG 14 11 13 9 ((myP T c).getD c 0)) = myP T (c + 1) := by
  rw [myP, mixP_at _ _ _ _ _ _ hc, if_neg (Nat.lt_irrefl c)]
  exact mixP_set 4 (fun i => colG 14 11 13 9 (T.getD i 0)) (fun i => T.getD i 0) c
theorem myP_length (T : List UInt32) (c : Nat) : (myP T c).length = 4 := by rw [myP, mixP_length]
theorem col_myx (S : List UInt32) (c : Nat) (w : World) (hS : S.length = 4) (hc : c < 4) :
    Calls Tryz.prog 61 #[.agg (bcells (txtL S)).toArray, .int .i64 (c : Int), .agg #[.int .u8 14, .int .u8 11, .int .u8 13, .int .u8 9]] w (RetA8 (txtL (S.set c (colG 14 11 13 9 (S.getD c 0)))) w) := column_any S c 14 11 13 9 w hS hc
set_option maxRecDepth 100000 in
set_option maxHeartbeats 1600000 in
theorem rdecrypt_any (b : ByteArray) (w : World) (g : Nat) (K : List UInt8) (hB : Box w g K) (hK : K.length = 16 ∨ K.length = 24 ∨ K.length = 32) (hb : b.size = 16) :
    Calls Tryz.prog 79 #[.pointer (some ⟨g, 0, none⟩), .string b] w (RetS (decL K b.toList) w) := by
  obtain ⟨M, hM, hM1, hM2⟩ := wlen hK
  have HB := Lib.hid hB
  have HM := Lib.hid hM
  have Hb := Lib.hid hb
  have hg := hB.lt
  clear hB hM hb
  go_enter Tryz.func79, Tryz.ntmps79
  go_wp2_with fail
  obtain ⟨w0, hw0, hA0, hb0, hs0⟩ := one_by w
  rw [hw0]
  clear hw0 hs0
  have hA0' : At w0 w.heap.size 0 (bcells (mixP 16 (at0 b.toList) (fun _ => 0) 0)) := hA0
  clear hA0
  go_loopw [6] (fun i wr => ∃ k : Nat, k ≤ 16 ∧ i = .int .i64 k ∧ At wr w.heap.size 0 (bcells (mixP 16 (at0 b.toList) (fun _ => 0) k)) ∧ Below w.heap.size w wr) (fun i _ => 16 - (intOf i).toNat)
  case atStart => exact ⟨0, Nat.zero_le _, rfl, hA0', hb0⟩
  case round =>
    clear hA0' hb0
    obtain ⟨k, hk, rfl, hA0, hb0⟩ := hrel
    have H0 := Lib.hid hA0
    clear hA0
    by_cases hlt : k < 16
    · have hkI : (k : Int) < 16 := by omega
      have hkb : k < b.size := by have := Hb.out; omega
      have hc0 := H0.out.b8 k (by rw [mixP_length]; exact hlt)
      have hfr := H0.out.froz k (by rw [bcells_length, mixP_length]; exact hlt)
      rw [Nat.zero_add] at hc0 hfr
      go_wp2_with fail
      go_roundw
      case rel =>
        refine ⟨k + 1, by omega, by go_num, ?_, hb0.setCell (p := ⟨w.heap.size, k, none⟩) (Nat.le_refl _) _⟩
        have h := H0.out.b8set k (at0 b.toList k)
        rw [mixP_set, Nat.zero_add, at0_tl _ _ hkb] at h
        exact h
      case measure => simp [intOf]; omega
    · have hkn : k = 16 := by omega
      subst hkn
      have hA1 := H0.out
      rw [mixP_key _ (by rw [tl_size]; exact Hb.out)] at hA1
      have HA1 := Lib.hid hA1
      clear H0 hlt hk hA1
      obtain ⟨gw, cap, hcw, hW⟩ := (HB.out.below hb0 (Nat.le_refl _)).word
      obtain ⟨N1, hN1⟩ : ∃ N1 : Nat, N1 = M + 1 := ⟨_, rfl⟩
      have hdv : (((expW K).length : Nat) : Int) / 4 = (N1 : Int) := by rw [HM.out]; omega
      have hsb : (N1 : Int) - 1 = (M : Int) := by omega
      clear hN1 hW
      rw [show ((16 : Nat) : Int) = (16 : Int) from rfl]
      go_wp2_with fail
      clear hcw hdv hsb
      go_loopw [8] (fun i wr => ∃ j : Nat, ∃ s : List UInt32, j ≤ M ∧ i = .int .i64 j ∧ s.length = 4 ∧ rdecN (expW K) M j s = rdecN (expW K) M M (keyL b.toList 4) ∧ At wr w.heap.size 0 (bcells (txtL s)) ∧ Below w.heap.size w wr) (fun i _ => (intOf i).toNat)
      case atStart => exact ⟨M, _, Nat.le_refl _, rfl, keyL_length _ _, rfl, HA1.out, hb0⟩
      case round =>
        clear HA1 hb0
        obtain ⟨j, s, hjM, rfl, hs, hrun, hA, hbl⟩ := hrel
        have HR := Lib.hid hrun
        have HS := Lib.hid hs
        have hsz := hA.lt (by intro h; have := congrArg List.length h; rw [bcells_length, txtL_length] at this; simp at this)
        clear hrun hs
        by_cases hlt : 1 ≤ j
        · obtain ⟨j', rfl⟩ : ∃ j', j = j' + 1 := ⟨j - 1, by omega⟩
          obtain ⟨jj, hjj⟩ : ∃ jj : Nat, jj = j' + 1 := ⟨_, rfl⟩
          rw [← hjj] at hlt hjM ⊢
          have hjI : (1 : Int) ≤ (jj : Int) := by omega
          have HJ := Lib.hid hjj
          clear hjj
          go_wp2_with (refine wpList_load_at 84 (.tmp 5) w.heap.size 0 (bcells (txtL s)) _ hA Tryz.underlying84 rfl (blen16 _ (txtL_length _)) ⟨rfl, rfl, rfl⟩ ?_)
          refine (radd_any s jj _ g K (HB.out.below hbl (Nat.le_refl _)) HS.out (by rw [HM.out]; omega) (by rw [HM.out]; omega)).mono ?_
          rintro e w7 ⟨rfl, hb7⟩
          obtain ⟨u, hu⟩ : ∃ u, addL s (expW K) (4 * jj) = u := ⟨_, rfl⟩
          have hul : u.length = 4 := by rw [← hu, addL_length]
          rw [hu]
          obtain ⟨hst7, hA7, hbs7, hsz7⟩ := st16 (hA.below hb7 (by omega)) (txtL_length _) (txtL_length u)
          have hwl : (bcells (txtL u)).length = 16 := by rw [bcells_length, txtL_length]
          have hbl7 := (hbl.trans (hb7.mono hbl.size)).trans hbs7
          have hA8 : At (w7.setCells w.heap.size 0 (bcells (txtL u))) w.heap.size 0 (bcells (txtL (myP u 0))) := by rw [myP_zero _ hul]; exact hA7
          have HA8 := Lib.hid hA8
          have HUL := Lib.hid hul
          have HU := Lib.hid hu
          obtain ⟨cN, hcN⟩ : ∃ cN, cN = if jj < M then 4 else 0 := ⟨_, rfl⟩
          have HcN := Lib.hid hcN
          have hc4 : cN ≤ 4 := by rw [hcN]; split <;> omega
          clear hcN hA7 hA8 hA hbs7 hsz7 hb7 hbl hu hul
          go_wp2_with fail
          go_loopw [9] (fun i wr => ∃ c : Nat, c ≤ cN ∧ i = .int .i64 c ∧ At wr w.heap.size 0 (bcells (txtL (myP u c))) ∧ Below w.heap.size w wr) (fun i _ => 4 - (intOf i).toNat)
          case atStart => exact ⟨0, Nat.zero_le _, rfl, HA8.out, hbl7⟩
          case round =>
            clear HA8 hbl7 hst7 hwl
            obtain ⟨c, hc, rfl, hY, hbl⟩ := hrel
            have HT := Lib.hid (myP_length u c)
            have hszy := hY.lt (by intro h; have := congrArg List.length h; rw [bcells_length, txtL_length] at this; simp at this)
            by_cases hcl : c < cN
            · have hcI : (c : Int) < 4 := by omega
              have hjl : (jj : Int) < (M : Int) := by
                have h := HcN.out
                by_cases hj : jj < M
                · omega
                · rw [if_neg hj] at h; omega
              go_wp2_with (refine wpList_load_at 84 (.tmp 5) w.heap.size 0 (bcells (txtL (myP u c))) _ hY Tryz.underlying84 rfl (blen16 _ (txtL_length _)) ⟨rfl, rfl, rfl⟩ ?_)
              refine (col_myx (myP u c) c _ HT.out (by omega)).mono ?_
              rintro e w8 ⟨rfl, hb8⟩
              rw [myP_step _ _ (show c < 4 by omega)]
              obtain ⟨hst8, hA8, hbs8, hsz8⟩ := st16 (hY.below hb8 hszy) (txtL_length _) (txtL_length (myP u (c + 1)))
              have hwl : (bcells (txtL (myP u (c + 1)))).length = 16 := by rw [bcells_length, txtL_length]
              have hbl8 := (hbl.trans (hb8.mono hbl.size)).trans hbs8
              have HA8 := Lib.hid hA8
              clear hA8 hY hbs8 hsz8 hb8 hbl
              go_wp2_with fail
              go_roundw
              case rel => exact ⟨c + 1, by omega, by go_num, HA8.out, hbl8⟩
              case measure => simp [intOf]; omega
            · have hcE : c = cN := by omega
              have hfin : myP u c = if jj < M then colL 14 11 13 9 u else u := by
                have h := HcN.out
                rw [hcE]
                by_cases hj : jj < M
                · rw [if_pos hj] at h ⊢
                  rw [h, myP_four _ HUL.out]
                · rw [if_neg hj] at h ⊢
                  rw [h, myP_zero _ HUL.out]
              obtain ⟨t, ht⟩ : ∃ t, myP u c = t := ⟨_, rfl⟩
              rw [ht] at hY hfin HT
              have hstep : rdecN (expW K) M j' (lasL gback 3 2 1 t) = rdecN (expW K) M M (keyL b.toList 4) := by
                rw [← HR.out, rdecN, ← HJ.out, HU.out, ← hfin]
              have HST := Lib.hid hstep
              have hcc : (¬ (c : Int) < 4) ∨ ((c : Int) < 4 ∧ ¬ (jj : Int) < (M : Int)) := by
                have h := HcN.out
                by_cases hj : jj < M
                · rw [if_pos hj] at h; left; omega
                · right; rw [if_neg hj] at h; omega
              have HY := Lib.hid hY
              clear hcE ht hfin hstep hY
              rcases hcc with hcI | ⟨hcI, hjl⟩
              all_goals
                go_wp2_with fail
                obtain ⟨w5, hw5, hZ, hb5, hs5⟩ := one_by wr
                rw [hw5]
                have HX5 := Lib.hid (HY.out.below hb5 hszy)
                have hbl5 := hbl.trans (hb5.mono hbl.size)
                obtain ⟨gy, hgy⟩ : ∃ gy, wr.heap.size = gy := ⟨_, rfl⟩
                rw [hgy] at hZ hszy ⊢
                have hZ' : At w5 gy 0 (bcells (ovr (txtF (lasL gback 3 2 1 t)) (fun _ => 0) 16 (fun i => decide (pin i < 0)))) := by
                  rw [ovr_zero _ _ _ _ (by intro i hi; rw [decide_eq_false_iff_not]; omega)]
                  exact hZ
                have HZ5 := Lib.hid hZ'
                clear hw5 hZ hZ' HY hbl hb5 hs5 hgy
                go_loopw [11] (fun i wr => ∃ k : Nat, k ≤ 16 ∧ i = .int .i64 k ∧ At wr w.heap.size 0 (bcells (txtL t)) ∧ At wr gy 0 (bcells (ovr (txtF (lasL gback 3 2 1 t)) (fun _ => 0) 16 (fun i => decide (pin i < k)))) ∧ Below w.heap.size w wr) (fun i _ => 16 - (intOf i).toNat)
                case atStart => exact ⟨0, Nat.zero_le _, rfl, HX5.out, HZ5.out, hbl5⟩
                case round =>
                  clear HX5 HZ5 hbl5
                  obtain ⟨k, hk, rfl, hX, hY, hbl⟩ := hrel
                  have HX := Lib.hid hX
                  have HY := Lib.hid hY
                  clear hX hY
                  by_cases hlk : k < 16
                  · obtain ⟨q, hq⟩ : ∃ q : Nat, q = k / 4 := ⟨_, rfl⟩
                    obtain ⟨r, hr⟩ : ∃ r : Nat, r = k % 4 := ⟨_, rfl⟩
                    obtain ⟨e, he⟩ : ∃ e : Nat, e = q + r := ⟨_, rfl⟩
                    obtain ⟨m, hm⟩ : ∃ m : Nat, m = e % 4 := ⟨_, rfl⟩
                    obtain ⟨m4, hm4⟩ : ∃ m4 : Nat, m4 = 4 * m := ⟨_, rfl⟩
                    obtain ⟨x, hx⟩ : ∃ x : Nat, x = m4 + r := ⟨_, rfl⟩
                    have hxp : x = pos k := by rw [pos, ← hq, ← hr, ← he, ← hm, ← hm4, ← hx]
                    have hr4 : r < 4 := by omega
                    have hm3 : m < 4 := by omega
                    have hx16 : x < 16 := by omega
                    have hkI : (k : Int) < 16 := by omega
                    have hxI : (x : Int) < 16 := by omega
                    have hw1 : (k : Int).tdiv 4 = (q : Int) := tdiv_nat k 4 q hq
                    have hw2 : IntKind.i64.wrap (q : Int) = (q : Int) := wrap_in _ (by omega) (by omega)
                    have hw3 : (k : Int).tmod 4 = (r : Int) := tmod_nat k 4 r hr
                    have hw4 : IntKind.i64.wrap ((q : Int) + (r : Int)) = (e : Int) := by rw [wrap_in _ (by omega) (by omega)]; omega
                    have hw5 : (e : Int).tmod 4 = (m : Int) := tmod_nat e 4 m hm
                    have hw6 : IntKind.i64.wrap (4 * (m : Int)) = (m4 : Int) := by rw [wrap_in _ (by omega) (by omega)]; omega
                    have hw7 : IntKind.i64.wrap ((m4 : Int) + (r : Int)) = (x : Int) := by rw [wrap_in _ (by omega) (by omega)]; omega
                    have hcx := HX.out.b8 k (by rw [txtL_length]; exact hlk)
                    have htx : (txtL t).getD k 0 = rw_ (t.getD q 0) r := by
                      rw [show (txtL t).getD k 0 = txtF t k by simp [txtL, List.getD, hlk], txtF, hq, hr]
                    have hta := txt_lasb gback t x hx16
                    have hpq := pos_q ⟨k, hlk⟩
                    simp only at hpq
                    rw [hxp, hpq.1, hpq.2, ← hq, ← hr, ← hxp] at hta
                    obtain ⟨v, hv⟩ : ∃ v, rw_ (t.getD q 0) r = v := ⟨_, rfl⟩
                    rw [htx, hv, Nat.zero_add] at hcx
                    rw [hv] at hta
                    have hvb := v.toNat_lt
                    have hvI : (v.toNat : Int) < 256 := by omega
                    obtain ⟨gw2, cap2, hS0, hS1, hS2, hS3⟩ := HB.out.below hbl (Nat.le_refl _)
                    have hcs := hS1.b8 v.toNat (by rw [backC_length]; exact hvb)
                    rw [backC_get] at hcs
                    obtain ⟨z, hz⟩ : ∃ z, gback v = z := ⟨_, rfl⟩
                    rw [hz] at hcs hta
                    have hcy := HY.out.b8 x (by rw [ovr_length]; exact hx16)
                    have hfr := HY.out.froz x (by rw [bcells_length, ovr_length]; exact hx16)
                    rw [Nat.zero_add] at hcy hfr
                    have HTA : Hid (z = txtF (lasL gback 3 2 1 t) x) := hta.symm
                    have HXP := Lib.hid hxp
                    clear hq hr he hm hm4 hx htx hta hv hz hS0 hS1 hS2 hS3 hvb hxp hpq
                    go_wp2_with fail
                    go_still_tail 19, (by kernel_rfl)
                    change wpList _ _ _ _ _ wr.drew
                    go_wp2_with fail
                    go_roundw
                    case rel =>
                      refine ⟨k + 1, by omega, by go_num, HX.out.drew.other _ _ _ (.inl (by omega)), ?_, hbl.drew.setCell (p := ⟨gy, x, none⟩) (by simp only; omega) _⟩
                      have h := HY.out.drew.b8set x z
                      rw [HTA.out, ovr_set _ _ _ _ (fun i => decide (pin i < k + 1)) x (by
                        intro i hi
                        have hp := pos_pin ⟨i, hi⟩ ⟨k, hlk⟩
                        simp only at hp
                        have hxp := HXP.out
                        rw [Bool.eq_iff_iff]
                        simp only [Bool.or_eq_true, decide_eq_true_eq, beq_iff_eq]
                        rw [hxp, ← hp]
                        omega), Nat.zero_add, ← HTA.out] at h
                      exact h
                    case measure => simp [intOf]; omega
                  · have hkn : k = 16 := by omega
                    subst hkn
                    have hY := HY.out
                    rw [ovr_fill _ _ _ _ (by
                      intro i hi hp
                      have := pin_lt ⟨i, hi⟩
                      rw [decide_eq_false_iff_not] at hp
                      exact absurd this hp)] at hY
                    have hY' : At wr gy 0 (bcells (txtL (lasL gback 3 2 1 t))) := hY
                    obtain ⟨hst9, hA9, hbs9, hsz9⟩ := st16 HX.out (txtL_length _) (txtL_length (lasL gback 3 2 1 t))
                    have hwl : (bcells (txtL (lasL gback 3 2 1 t))).length = 16 := by rw [bcells_length, txtL_length]
                    have hbl9 := hbl.trans hbs9
                    have HA9 := Lib.hid hA9
                    have hji : (jj : Int) - 1 = (j' : Int) := by have := HJ.out; omega
                    clear hA9 hY hbs9 hsz9 hbl HY HX
                    generalize hw10 : wr.setCells w.heap.size 0 (bcells (txtL (lasL gback 3 2 1 t))) = w10 at hst9 HA9 hbl9
                    clear hw10
                    go_wp2_with (refine wpList_load_at 84 (.tmp 10) gy 0 (bcells (txtL (lasL gback 3 2 1 t))) _ hY' Tryz.underlying84 rfl (blen16 _ (txtL_length _)) ⟨rfl, rfl, rfl⟩ ?_)
                    go_roundw
                    case rel => exact ⟨j', _, by have := HJ.out; omega, by try go_num, lasL_length _ _ _ _ _, HST.out, HA9.out, hbl9⟩
                    case measure => have := HJ.out; simp [intOf]; omega
        · have hj0 : j = 0 := by omega
          subst hj0
          have hrun := HR.out
          rw [rdecN] at hrun
          have hend : txtL (addL s (expW K) 0) = decL K b.toList := by
            obtain ⟨m, rfl⟩ : ∃ m, M = m + 1 := ⟨M - 1, by omega⟩
            rw [hrun, decL, decW, rdecN_all, HM.out, show (4 * (m + 1) + 4) / 4 - 2 = m by omega, show 4 * (m + 1) + 4 - 4 = 4 * (m + 1) by omega]
          have HE := Lib.hid hend
          clear hrun hend HR
          rw [show ((0 : Nat) : Int) = (0 : Int) from rfl]
          go_wp2_with (refine wpList_load_at 84 (.tmp 5) w.heap.size 0 (bcells (txtL s)) _ hA Tryz.underlying84 rfl (blen16 _ (txtL_length _)) ⟨rfl, rfl, rfl⟩ ?_)
          refine (radd_any s 0 _ g K (HB.out.below hbl (Nat.le_refl _)) HS.out (by rw [HM.out]; omega) (by rw [HM.out]; omega)).mono ?_
          rintro e w7 ⟨rfl, hb7⟩
          rw [Nat.mul_zero, HE.out]
          have hdl : (decL K b.toList).length = 16 := decL_length _ _
          obtain ⟨hst7, hA7, hbs7, hsz7⟩ := st16 (hA.below hb7 (by omega)) (txtL_length _) hdl
          have hwl : (bcells (decL K b.toList)).length = 16 := by rw [bcells_length, hdl]
          have hbl7 := (hbl.trans (hb7.mono hbl.size)).trans hbs7
          have hcv := convert_at (P := Tryz.prog) (cap := 16) hA7 54 9 5 16 hdl Tryz.underlying54 Tryz.underlying5 Tryz.underlying9
          clear hA7 hbs7 hsz7 hdl hA hb7 hbl
          go_wp2_with fail
          go_ret
          exact ⟨_, rfl, tl_mk _, hbl7⟩
end Go.Proofs.YtjlmmlnldjandaaGreatDoor
namespace Go.Proofs.YtjlmmlnldjandaaGreatDoor
open Go.RowKit
set_option linter.unusedVariables false
set_option linter.unusedSimpArgs false
theorem infoS : (Tryz.prog.info? 9).map (fun i => (i.zero, i.size, i.bytes)) = some (some (.string ByteArray.empty), 1, 16) := by kernel_rfl
def scells (l : List ByteArray) : List Value := l.map Value.string
theorem scells_length (l : List ByteArray) : (scells l).length = l.length := by simp [scells]
theorem scells_append (l m : List ByteArray) : scells (l ++ m) = scells l ++ scells m := by simp [scells]
theorem scells_get (l : List ByteArray) (j : Nat) (hj : j < l.length) : (scells l)[j]? = some (.string l[j]) := by simp [scells, hj]
theorem scells_one (l : List ByteArray) : ∀ u ∈ scells l, u.oneCell' = true := by
  intro u hu
  simp only [scells, List.mem_map] at hu
  obtain ⟨b, _, rfl⟩ := hu
  rfl
theorem scells_one1 {w : World} {g : Nat} {u : ByteArray} (h : w.cell? ⟨g, 0, none⟩ = some (.string u)) : ∀ j x, (scells [u])[j]? = some x → w.cell? ((⟨g, 0, none⟩ : Addr).add j) = some x := by
  intro j x hx
  match j, hx with
  | 0, hx => simp [scells] at hx; subst hx; exact h
section
variable {P : Program} {w : World}
theorem wpList_append_str {ops : Array Oper} {rest : List Oper} {o : Oper} {a : Act} {Q : Exit → Act → World → Prop} (hgd : o.guard = none) (s x : Operand) (t : TypeId)
    (ho : o.op = .call { callee := .builtin .append, args := #[s, x], argTypes := #[t, t] })
    (base : Nat) (e : TypeId) (i : TypeInfo) (ht : P.underlying t = some (.slice e)) (hi : P.info? e = some i) (hz : i.zero = some (.string ByteArray.empty)) (hsize : i.size = 1) (hby : i.bytes = 16)
    (v : Value) (n : Nat) (l : List ByteArray) (hs : a.eval s = v) (hown : w.ownsRow base e 1 v n (scells l))
    (g c : Nat) (u : ByteArray) (hx : a.eval x = .slice (some ⟨g, 0, none⟩) 1 c) (hcell : w.cell? ⟨g, 0, none⟩ = some (.string u))
    (hn : n ≤ 8796093022207) (hbase : base ≤ w.heap.size)
    (h : ∀ v' w', w'.ownsRow base e 1 v' (n + 1) (scells (l ++ [u])) → w.grownBy w' v.ownBlock → wpList P ops Q rest (a.put o.dst v') w') : wpList P ops Q (o :: rest) a w := by
  refine wpList_append_own w hgd s x t ho base e i (.string ByteArray.empty) 1 16 ht hi hz hsize hby rfl (by decide) v n (scells l) hs hown ⟨g, 0, none⟩ 1 c (scells [u]) hx (by rw [scells_length]; rfl) (scells_one1 hcell) (scells_one _) (by unfold maxLen; omega) (by omega) hbase ?_
  intro v' w' h1 h2 _
  rw [← scells_append] at h1
  exact h v' w' h1 h2
end
theorem own_formS {w : World} {B e size n : Nat} {v : Value} {xs : List Value} (h : w.ownsRow B e size v n xs) : ∃ a c, v = .slice a n c ∧ (0 < n → ∃ g, a = some ⟨g, 0, none⟩) := by
  rcases h.2 with ⟨rfl, rfl⟩ | ⟨g, cap, cur, rfl, _⟩
  · exact ⟨none, 0, rfl, fun h => absurd h (by omega)⟩
  · exact ⟨_, _, rfl, fun _ => ⟨g, rfl⟩⟩
theorem scell {w : World} {B e n cap g : Nat} {l : List ByteArray} (h : w.ownsRow B e 1 (.slice (some ⟨g, 0, none⟩) n cap) n (scells l)) (k : Nat) (u : ByteArray) (hu : l[k]? = some u) :
    w.cell? ⟨g, k, none⟩ = some (.string u) := by
  obtain ⟨hk, rfl⟩ := List.getElem?_eq_some_iff.1 hu
  rw [h.cellAt k (by have := h.1; rw [scells_length] at this; omega), scells_get _ _ hk]
/-- a row of texts is handed back -/
def RetL (l : List ByteArray) (w : World) (e : Ending) (w' : World) : Prop := ∃ v, e = .returned v ∧ w'.ownsRow w.heap.size 9 1 v l.length (scells l) ∧ Below w.heap.size w w'
end Go.Proofs.YtjlmmlnldjandaaGreatDoor
namespace Go.Proofs.YtjlmmlnldjandaaGreatDoor
open Go.RowKit
set_option linter.unusedVariables false
set_option linter.unusedSimpArgs false
def wroE (k n : Nat) : Int := if keyOk k then if n = 16 then 0 else 4 else 3
set_option maxRecDepth 100000 in
theorem wrong_any (key iv : ByteArray) (w : World) : Calls Tryz.prog 33 #[.string key, .string iv] w (RetI64 (wroE key.size iv.size) w) := by
  rcases key_cases key with hk | ⟨h1, h2, h3⟩
  · by_cases hv : iv.size = 16
    · have hE : wroE key.size iv.size = 0 := by rw [wroE, if_pos (keyOk_yes hk), if_pos hv]
      rw [hE]
      have e1 : ((iv.size : Int) != 16) = false := by rw [bne_eq_false_iff_eq]; omega
      clear hE hv
      go_enter Tryz.func33, Tryz.ntmps33
      go_wp2_with fail
      refine (right_yes key _ hk).mono ?_
      rintro e w1 ⟨rfl, rfl⟩
      go_wp2_with fail
      go_ret
      exact ⟨rfl, rfl⟩
    · have hE : wroE key.size iv.size = 4 := by rw [wroE, if_pos (keyOk_yes hk), if_neg hv]
      rw [hE]
      have e1 : ((iv.size : Int) != 16) = true := by rw [bne_iff_ne]; omega
      clear hE hv
      go_enter Tryz.func33, Tryz.ntmps33
      go_wp2_with fail
      refine (right_yes key _ hk).mono ?_
      rintro e w1 ⟨rfl, rfl⟩
      go_wp2_with fail
      go_ret
      exact ⟨rfl, rfl⟩
  · have hE : wroE key.size iv.size = 3 := by rw [wroE, keyOk_no h1 h2 h3]; rfl
    rw [hE]
    clear hE
    go_enter Tryz.func33, Tryz.ntmps33
    go_wp2_with fail
    refine (right_no key _ h1 h2 h3).mono ?_
    rintro e w1 ⟨rfl, rfl⟩
    go_wp2_with fail
    go_ret
    exact ⟨rfl, rfl⟩
end Go.Proofs.YtjlmmlnldjandaaGreatDoor
namespace Go.Proofs.YtjlmmlnldjandaaGreatDoor
open Go.RowKit
set_option linter.unusedVariables false
set_option linter.unusedSimpArgs false
def blkB (s : ByteArray) (i : Nat) : ByteArray := s.extract (16 * i) (16 * i + 16)
def blksB (s : ByteArray) (n : Nat) : List ByteArray := (List.range n).map (blkB s)
theorem blksB_length (s : ByteArray) (n : Nat) : (blksB s n).length = n := by simp [blksB]
theorem blksB_succ (s : ByteArray) (n : Nat) : blksB s (n + 1) = blksB s n ++ [blkB s n] := by simp [blksB, List.range_succ]
theorem blksB_get (s : ByteArray) (n i : Nat) (h : i < n) : (blksB s n)[i]? = some (blkB s i) := by simp [blksB, h]
theorem blkB_tl (s : ByteArray) (i : Nat) : (blkB s i).toList = blkL s.toList i := by
  rw [blkB, tl_ext, blkL]
  congr 1
  omega
theorem blkB_size (s : ByteArray) (i : Nat) (h : 16 * (i + 1) ≤ s.size) : (blkB s i).size = 16 := by
  rw [← tl_size, blkB_tl, blkL_length _ _ (by rw [tl_size]; exact h)]
set_option maxRecDepth 100000 in
set_option maxHeartbeats 1600000 in
theorem rblocks_any (s : ByteArray) (w : World) (hs : s.size ≤ 140737488351232) : Calls Tryz.prog 35 #[.string s] w (RetL (blksB s (s.size / 16)) w) := by
  obtain ⟨i0, hi, hz0, hz1, hz2⟩ := info_parts infoS
  obtain ⟨n, hn⟩ : ∃ n, s.size / 16 = n := ⟨_, rfl⟩
  rw [hn]
  have HN := Lib.hid hn
  clear hn
  go_enter Tryz.func35, Tryz.ntmps35
  go_wp2_with fail
  obtain ⟨B, hB⟩ : ∃ B, w.heap.size = B := ⟨_, rfl⟩
  have HB := Lib.hid hB
  clear hB
  go_loopw [3, 4] (fun v a wr => ∃ k o : Nat, o = 16 * k ∧ a = .int .i64 (o : Int) ∧ k ≤ n ∧ wr.ownsRow B 9 1 v k (scells (blksB s k)) ∧ Below B w wr) (fun _ a _ => s.size - (intOf a).toNat)
  case atStart => exact ⟨0, 0, rfl, rfl, Nat.zero_le _, World.ownsRow_nil _ _ _ _, by rw [← HB.out]; exact Below.refl _ _⟩
  case round =>
    obtain ⟨k, o, ho, rfl, hk, hown, hbel⟩ := hrel
    obtain ⟨e, he⟩ : ∃ e : Nat, e = o + 16 := ⟨_, rfl⟩
    have f1 : (o : Int) + 16 = (e : Int) := by omega
    have HO := Lib.hid ho
    have HE := Lib.hid he
    have HOWN := Lib.hid hown
    have hsz : B ≤ wr.heap.size := by rw [← HB.out]; exact hbel.size
    by_cases hlt : e ≤ s.size
    · have hltI : (e : Int) ≤ (s.size : Int) := by omega
      have f2 : IntKind.i64.wrap (e : Int) = (e : Int) := wrap_in _ (by omega) (by omega)
      have hoe : o ≤ e := by omega
      have hoeI : (o : Int) ≤ (e : Int) := by omega
      have ho0 : (0 : Int) ≤ (o : Int) := by omega
      have he0 : (0 : Int) ≤ (e : Int) := by omega
      clear ho he hown
      go_wp2_with (at_builtin; refine wpList_append_str rfl (.tmp 12) (.tmp 18) 52 rfl B 9 i0 Tryz.underlying52 hi hz0 hz1 hz2 _ k (blksB s k) rfl (HOWN.out.alloc _) wr.heap.size 1 (s.extract o e) rfl ((At.ofAlloc wr #[Value.string (s.extract o e)] 9).cell 0 _ rfl) (by have := HN.out; omega) (by simp; omega) ?_; intro v' w1 hown1 hgrow1)
      have hb1 := below_own (hbel.alloc hsz (Obj.cells #[Value.string (s.extract o e)] 9)) hgrow1 (by simp; omega) (HOWN.out.alloc _)
      have hex : s.extract o e = blkB s k := by rw [blkB, HE.out, HO.out]
      rw [hex, ← blksB_succ] at hown1
      have HOWN1 := Lib.hid hown1
      clear hown1 hgrow1 hex
      go_wp2_with fail
      go_roundw
      case rel => exact ⟨k + 1, e, by rw [HE.out, HO.out]; omega, rfl, by have := HN.out; have := HO.out; have := HE.out; omega, HOWN1.out, hb1⟩
      case measure => have := HE.out; simp [intOf]; omega
    · have hltI : ¬ (e : Int) ≤ (s.size : Int) := by omega
      have f2 : IntKind.i64.wrap (e : Int) = (e : Int) := wrap_in _ (by omega) (by have := HN.out; omega)
      have hkn : k = n := by have := HN.out; omega
      subst hkn
      clear ho he hown
      go_wp2_with fail
      go_ret
      exact ⟨_, rfl, by rw [blksB_length, HB.out]; exact HOWN.out, by rw [HB.out]; exact hbel⟩
end Go.Proofs.YtjlmmlnldjandaaGreatDoor
namespace Go.Proofs.YtjlmmlnldjandaaGreatDoor
open Go.RowKit
set_option linter.unusedVariables false
set_option linter.unusedSimpArgs false
theorem xorL_comm (A B : List UInt8) : xorL A B = xorL B A := by
  unfold xorL
  rw [List.zipWith_comm]
  congr 1
  funext a b
  exact UInt8.xor_comm _ _
def filM (T : List UInt8) : List UInt8 := T ++ zer ((16 - T.length % 16) % 16)
theorem filM_mod (T : List UInt8) : (filM T).length = 16 * ((filM T).length / 16) := by
  have hl : (filM T).length = T.length + (16 - T.length % 16) % 16 := by rw [filM, List.length_append, zer_length]
  omega
theorem filM_size (T : List UInt8) : (filM T).length < T.length + 16 := by
  have hl : (filM T).length = T.length + (16 - T.length % 16) % 16 := by rw [filM, List.length_append, zer_length]
  omega
theorem filM_more (T : List UInt8) (h : T.length % 16 ≠ 0) : filM (T ++ [0]) = filM T := by
  have hl : (T ++ [(0 : UInt8)]).length = T.length + 1 := by rw [List.length_append]; rfl
  rw [filM, filM, hl, List.append_assoc]
  congr 1
  rw [show ([0] : List UInt8) = zer 1 from rfl, ← zer_add]
  congr 1
  omega
def macE (k n : Nat) : Int := if keyOk k then if n ≤ 140000 then 0 else 6 else 3
def macF (K T : List UInt8) : List UInt8 := chA K (zer 16) (filM T) ((filM T).length / 16)
def macR (K T : List UInt8) : List UInt8 := if macE K.length T.length = 0 then macF K T else []
theorem chA_last (K V T : List UInt8) (h : V.length = 16) : ∀ n, (V ++ chS K V T n).drop (16 * n) = chA K V T n
  | 0 => by simp [chS, chA]
  | n + 1 => by
    have : (V ++ chS K V T n).length = 16 * (n + 1) := by rw [List.length_append, chS_length, h]; omega
    rw [chS, ← List.append_assoc, ← this, List.drop_left]
end Go.Proofs.YtjlmmlnldjandaaGreatDoor
namespace Go.Proofs.YtjlmmlnldjandaaGreatDoor
open Go.RowKit
set_option linter.unusedVariables false
set_option linter.unusedSimpArgs false
theorem cbg_wro (k n : Nat) (b : Bool) : cbgE k n b = if wroE k n = 0 then (if b then 0 else 6) else wroE k n := by
  unfold cbgE wroE
  by_cases h1 : keyOk k = true
  · by_cases h2 : n = 16
    · simp [h1, h2]
    · simp [h1, h2]
  · simp [h1]
theorem wro_zero {k n : Nat} (h : wroE k n = 0) : (k = 16 ∨ k = 24 ∨ k = 32) ∧ n = 16 := by
  unfold wroE at h
  split at h
  · rename_i hk
    split at h
    · rename_i hn; exact ⟨by simpa [keyOk] using hk, hn⟩
    · cases h
  · cases h
section
variable {P : Program} {w : World}
/-- append of a text to a row of the call's own -/
theorem wpList_append_txt {ops : Array Oper} {rest : List Oper} {o : Oper} {a : Act} {Q : Exit → Act → World → Prop} (hgd : o.guard = none) (sl x : Operand) (t u : TypeId)
    (ho : o.op = .call { callee := .builtin .append, args := #[sl, x], argTypes := #[t, u] })
    (base : Nat) (e : TypeId) (i : TypeInfo) (ht : P.underlying t = some (.slice e)) (hu : P.underlying u = some .string) (hi : P.info? e = some i) (hz : i.zero = some (.int .u8 0)) (hsize : i.size = 1) (hby : i.bytes = 1)
    (v : Value) (n m : Nat) (l : List UInt8) (hs : a.eval sl = v) (hown : w.ownsRow base e 1 v n (bcells l)) (s : ByteArray) (hx : a.eval x = .string s) (hm : s.size = m) (hb : n + m ≤ 140737488355328) (hbase : base ≤ w.heap.size)
    (h : ∀ v' w', w'.ownsRow base e 1 v' (n + m) (bcells (l ++ s.toList)) → w.grownBy w' v.ownBlock → wpList P ops Q rest (a.put o.dst v') w') : wpList P ops Q (o :: rest) a w := by
  subst hm
  refine Lib.wpList_append_own_string w hgd sl x t u ho base e i ht hu hi hz hsize hby v n _ hs hown s hx (by unfold maxLen; omega) hb hbase ?_
  intro v' w' h1 h2 _
  have e1 : Lib.strCells s = bcells s.toList := by
    rw [Lib.toList_data]
    simp [Lib.strCells, bcells]
  rw [e1, ← bcells_append] at h1
  exact h v' w' h1 h2
theorem step_append_txt {ops : Array Oper} {o : Oper} {a : Act} {K : Act → World → Prop} {Q : Exit → Act → World → Prop} {E : Prop} (hgd : o.guard = none) (sl x : Operand) (t u : TypeId)
    (ho : o.op = .call { callee := .builtin .append, args := #[sl, x], argTypes := #[t, u] })
    (base : Nat) (e : TypeId) (i : TypeInfo) (ht : P.underlying t = some (.slice e)) (hu : P.underlying u = some .string) (hi : P.info? e = some i) (hz : i.zero = some (.int .u8 0)) (hsize : i.size = 1) (hby : i.bytes = 1)
    (v : Value) (n m : Nat) (l : List UInt8) (hs : a.eval sl = v) (hown : w.ownsRow base e 1 v n (bcells l)) (s : ByteArray) (hx : a.eval x = .string s) (hm : s.size = m) (hb : n + m ≤ 140737488355328) (hbase : base ≤ w.heap.size)
    (h : ∀ v' w', w'.ownsRow base e 1 v' (n + m) (bcells (l ++ s.toList)) → w.grownBy w' v.ownBlock → K (a.put o.dst v') w') :
    if Region.wanted o (yielded ops a.tmps) = true then Oper.wp P o a w K Q else E := by
  subst hm
  have hw : Region.wanted o (yielded ops a.tmps) = true := by simp [Region.wanted, hgd]
  rw [if_pos hw]
  obtain ⟨v', w', hr, h2, h3, h4⟩ := Lib.run_append_own_string (P := P) w base t u o.type e i ht hu hi hz hsize hby v n _ hown s (by unfold maxLen; omega) hb hbase
  have e1 : Lib.strCells s = bcells s.toList := by
    rw [Lib.toList_data]
    simp [Lib.strCells, bcells]
  rw [e1, ← bcells_append] at h2
  unfold Oper.wp execOp
  simp only [ho, resolve, invoke, builtin, Sem.run_bind, Sem.run_pure, Result.andThen_ok, List.map_toArray, List.map_cons, List.map_nil, hs, hx, hr]
  exact h v' w' h2 h3
end
set_option maxRecDepth 100000 in
set_option maxHeartbeats 1600000 in
theorem rChain_ok (key iv text : ByteArray) (w : World) (hw : wroE key.size iv.size = 0) (hm : text.size % 16 = 0) (hf : text.size ≤ 70016) :
    Calls Tryz.prog 18 #[.string key, .string iv, .string text] w (RetSE (chS key.toList iv.toList text.toList (text.size / 16)) 0 w) := by
  obtain ⟨i0, hi, hz0, hz1, hz2⟩ := info_parts info5
  obtain ⟨hk, hv⟩ := wro_zero hw
  have hK : Hid (key.toList.length = 16 ∨ key.toList.length = 24 ∨ key.toList.length = 32) := by rw [tl_size]; exact hk
  obtain ⟨n, hn⟩ : ∃ n, text.size / 16 = n := ⟨_, rfl⟩
  have ht : text.size = 16 * n := by omega
  have e3 : (text.size : Int).tmod 16 = 0 := tmod_nat text.size 16 0 (by omega)
  have e7 : ¬ (70016 : Int) < (text.size : Int) := by omega
  have hnb : n ≤ 4376 := by omega
  have HV := Lib.hid hv
  have HN := Lib.hid hn
  have HT := Lib.hid ht
  have HW := Lib.hid hw
  have HZ : Hid (text.size ≤ 140737488351232) := by show _ ≤ _; omega
  rw [hn]
  clear hv hn ht hm hf hw
  go_enter Tryz.func18, Tryz.ntmps18
  go_wp2_with fail
  refine (wrong_any key iv _).mono ?_
  rintro e w0 ⟨rfl, rfl⟩
  rw [HW.out]
  go_wp2_with fail
  refine (rnew_any key _ hk).mono ?_
  rintro e w1 ⟨g, hg, rfl, hB, hb1⟩
  go_wp2_with fail
  refine (rblocks_any text _ HZ.out).mono ?_
  rintro e w2 ⟨v, rfl, hown, hb2⟩
  rw [blksB_length, HN.out] at hown
  obtain ⟨ad, cp, rfl, had⟩ := own_formS hown
  have hb12 := hb1.trans (hb2.mono hb1.size)
  have HB := Lib.hid (hB.below hb2 (Nat.le_refl _))
  have HO := Lib.hid hown
  have HAD := Lib.hid had
  clear hown had hB hb1 hb2
  go_wp2_with fail
  go_loopw [1, 11, 12] (fun vi vo vk wr => ∃ (k m : Nat) (s : ByteArray), m = 16 * k ∧ vi = .string s ∧ vk = .int .i64 (k : Int) ∧ k ≤ n ∧ s.size = 16 ∧ s.toList = chA key.toList iv.toList text.toList k ∧ wr.ownsRow w2.heap.size 5 1 vo m (bcells (chS key.toList iv.toList text.toList k)) ∧ Below w2.heap.size w2 wr) (fun _ _ vk _ => n - (intOf vk).toNat)
  case atStart => exact ⟨0, 0, iv, rfl, rfl, rfl, Nat.zero_le _, HV.out, rfl, World.ownsRow_nil _ _ _ _, Below.refl _ _⟩
  case round =>
    obtain ⟨k, m, s, hm, rfl, rfl, hkn, hss, hs, hO, hbel⟩ := hrel
    have HMK := Lib.hid hm
    have HSS := Lib.hid hss
    have HS := Lib.hid hs
    have HOO := Lib.hid hO
    by_cases hlt : k < n
    · have hltI : (k : Int) < (n : Int) := by omega
      obtain ⟨gl, rfl⟩ := HAD.out (by omega)
      have hc := scell (own_below HO.out hbel (Nat.le_refl _)) k (blkB text k) (blksB_get text n k hlt)
      have hbs : (blkB text k).size = 16 := blkB_size text k (by rw [HT.out]; omega)
      have HBZ : Hid ((blkB text k).size ≤ 140737488351232) := by show _ ≤ _; omega
      have HSZ : Hid (s.size ≤ 140737488351232) := by show _ ≤ _; omega
      obtain ⟨bk, hbk⟩ : ∃ b, blkB text k = b := ⟨_, rfl⟩
      rw [hbk] at hc hbs HBZ
      have hbl : bk.toList = blkL text.toList k := by rw [← hbk, blkB_tl]
      have HBL := Lib.hid hbl
      have HBS := Lib.hid hbs
      clear hm hss hs hO hbs hbk hbl
      go_wp2_with fail
      refine (rxor_any bk s _ HBZ.out HSZ.out).mono ?_
      rintro e w3 ⟨x, rfl, hx, hb3⟩
      have hxs : x.size = 16 := by rw [← tl_size, hx, xorL_length, tl_size, tl_size, HBS.out, HSS.out]; rfl
      have hb03 := hbel.trans (hb3.mono hbel.size)
      have HO3 := Lib.hid (own_below HOO.out hb3 (Nat.le_refl _))
      have HX := Lib.hid hx
      clear hx hb3 hc
      go_wp2_with fail
      refine (rencrypt_any x _ g key.toList (HB.out.below hb03 (Nat.le_refl _)) hK.out hxs).mono ?_
      rintro e w4 ⟨y, rfl, hy, hb4⟩
      have hys : y.size = 16 := by rw [← tl_size, hy, encL_length]
      have hyl : y.toList = chA key.toList iv.toList text.toList (k + 1) := by rw [hy, HX.out, HBL.out, HS.out, chA]
      have hb04 := hb03.trans (hb4.mono hb03.size)
      have HO4 := Lib.hid (own_below HO3.out hb4 (Nat.le_refl _))
      have HY := Lib.hid hyl
      have HYS := Lib.hid hys
      clear hy hyl hys hxs hb4 hb03 HO3 hbel
      go_wp2_with (at_builtin; refine wpList_append_txt rfl (.tmp 46) (.tmp 47) 54 9 rfl w2.heap.size 5 i0 Tryz.underlying54 Tryz.underlying9 hi hz0 hz1 hz2 _ m 16 _ rfl HO4.out y rfl HYS.out (by have := HMK.out; omega) hb04.size ?_; intro v' w5 hown5 hgrow5)
      have hb05 := hb04.grown hgrow5 hb04.size (fun b hb => (HO4.out.lt b hb).1)
      have hstep : chS key.toList iv.toList text.toList k ++ y.toList = chS key.toList iv.toList text.toList (k + 1) := by rw [chS, HY.out]
      rw [hstep] at hown5
      have HO5 := Lib.hid hown5
      clear hown5 hgrow5 hstep HO4 hb04
      go_wp2_with fail
      go_roundw
      case rel => exact ⟨k + 1, m + 16, y, by have := HMK.out; omega, rfl, by go_num, hlt, HYS.out, HY.out, HO5.out, hb05⟩
      case measure => simp [intOf]; omega
    · have hkn2 : k = n := by omega
      subst hkn2
      have hltI : ¬ (k : Int) < (k : Int) := by omega
      have hcv := run_convert_own (P := Tryz.prog) hO 54 9 Tryz.underlying54 Tryz.underlying5 Tryz.underlying9
      clear hm hss hs hO
      go_wp2_with fail
      go_ret2
      exact ret_se (tl_mk _) rfl rfl (hb12.trans (hbel.mono hb12.size))
theorem blk_pv (V T : List UInt8) (hv : V.length = 16) (i : Nat) : blkL (V ++ T) i = if i = 0 then V else blkL T (i - 1) := by
  cases i with
  | zero => rw [blkL, Nat.mul_zero, List.drop_zero, List.take_left' hv]; rfl
  | succ j =>
    rw [blkL, if_neg (by omega), Nat.add_sub_cancel, blkL, show 16 * (j + 1) = 16 + 16 * j by omega, ← List.drop_drop, List.drop_left' hv]
theorem blk_pvL (V T : List UInt8) (hv : V.length = 16) (i : Nat) : blkL (V ++ T) i = pvL V T i := by
  rw [blk_pv V T hv]
  cases i with
  | zero => rfl
  | succ j => rw [if_neg (by omega), Nat.add_sub_cancel]; rfl
set_option maxRecDepth 100000 in
set_option maxHeartbeats 1600000 in
theorem rUnchain_ok (key iv text : ByteArray) (w : World) (hw : wroE key.size iv.size = 0) (hm : text.size % 16 = 0) (hf : text.size ≤ 70016) :
    Calls Tryz.prog 53 #[.string key, .string iv, .string text] w (RetSE (unS key.toList iv.toList text.toList (text.size / 16)) 0 w) := by
  obtain ⟨i0, hi, hz0, hz1, hz2⟩ := info_parts info5
  obtain ⟨hk, hv⟩ := wro_zero hw
  have hK : Hid (key.toList.length = 16 ∨ key.toList.length = 24 ∨ key.toList.length = 32) := by rw [tl_size]; exact hk
  obtain ⟨n, hn⟩ : ∃ n, text.size / 16 = n := ⟨_, rfl⟩
  have ht : text.size = 16 * n := by omega
  have e3 : (text.size : Int).tmod 16 = 0 := tmod_nat text.size 16 0 (by omega)
  have e7 : ¬ (70016 : Int) < (text.size : Int) := by omega
  have hnb : n ≤ 4376 := by omega
  have hov : ¬ 9223372036854775807 < iv.size + text.size := by omega
  have hjs : (iv ++ text).size = 16 * (n + 1) := by rw [ByteArray.size_append]; omega
  have HJZ : Hid ((iv ++ text).size ≤ 140737488351232) := by show _ ≤ _; omega
  have HJN : Hid ((iv ++ text).size / 16 = n + 1) := by show _ = _; omega
  have HJS := Lib.hid hjs
  have HJL : Hid ((iv ++ text).toList = iv.toList ++ text.toList) := tl_append _ _
  have HV := Lib.hid hv
  have HN := Lib.hid hn
  have HT := Lib.hid ht
  have HW := Lib.hid hw
  rw [hn]
  clear hv hn ht hm hf hw hjs
  go_enter Tryz.func53, Tryz.ntmps53
  go_wp2_with fail
  refine (wrong_any key iv _).mono ?_
  rintro e w0 ⟨rfl, rfl⟩
  rw [HW.out]
  go_wp2_with fail
  refine (rnew_any key _ hk).mono ?_
  rintro e w1 ⟨g, hg, rfl, hB, hb1⟩
  go_wp2_with fail
  refine (rblocks_any (iv ++ text) _ HJZ.out).mono ?_
  rintro e w2 ⟨v, rfl, hown, hb2⟩
  rw [blksB_length, HJN.out] at hown
  obtain ⟨ad, cp, rfl, had⟩ := own_formS hown
  obtain ⟨gl, rfl⟩ := had (by omega)
  obtain ⟨J, hJ⟩ : ∃ J, J = n + 1 := ⟨_, rfl⟩
  rw [← hJ] at hown ⊢
  have hJb : J ≤ 4377 := by omega
  have HJ := Lib.hid hJ
  have hb12 := hb1.trans (hb2.mono hb1.size)
  have HB := Lib.hid (hB.below hb2 (Nat.le_refl _))
  have HO := Lib.hid hown
  clear hown had hB hb1 hb2 hJ
  go_wp2_with fail
  go_loopw [11, 12] (fun vo vk wr => ∃ (i k m : Nat), i = k + 1 ∧ m = 16 * k ∧ vk = .int .i64 (i : Int) ∧ k ≤ n ∧ wr.ownsRow w2.heap.size 5 1 vo m (bcells (unS key.toList iv.toList text.toList k)) ∧ Below w2.heap.size w2 wr) (fun _ vk _ => J - (intOf vk).toNat)
  case atStart => exact ⟨1, 0, 0, rfl, rfl, rfl, Nat.zero_le _, World.ownsRow_nil _ _ _ _, Below.refl _ _⟩
  case round =>
    obtain ⟨i, k, m, hik, hm, rfl, hkn, hO, hbel⟩ := hrel
    have HIK := Lib.hid hik
    have HMK := Lib.hid hm
    have HOO := Lib.hid hO
    by_cases hlt : i < J
    · have hkn1 : k < n := by have := HJ.out; omega
      have hltI : (i : Int) < (J : Int) := by omega
      have p1 : (i : Int) - 1 = (k : Int) := by omega
      have p2 : IntKind.i64.wrap (k : Int) = (k : Int) := wrap_in _ (by omega) (by omega)
      have p3 : (0 : Int) ≤ (i : Int) := by omega
      have p4 : (0 : Int) ≤ (k : Int) := by omega
      have p5 : (k : Int) < (J : Int) := by omega
      have p6 : k < J := by omega
      have hc1 := scell (own_below HO.out hbel (Nat.le_refl _)) i (blkB (iv ++ text) i) (blksB_get _ J i hlt)
      have hc2 := scell (own_below HO.out hbel (Nat.le_refl _)) k (blkB (iv ++ text) k) (blksB_get _ J k (by omega))
      have hbs1 : (blkB (iv ++ text) i).size = 16 := blkB_size _ i (by rw [HJS.out]; have := HJ.out; omega)
      have hbs2 : (blkB (iv ++ text) k).size = 16 := blkB_size _ k (by rw [HJS.out]; have := HJ.out; omega)
      have hbl1 : (blkB (iv ++ text) i).toList = blkL text.toList k := by rw [blkB_tl, HJL.out, blk_pvL _ _ (by rw [tl_size]; exact HV.out), hik]; rfl
      have hbl2 : (blkB (iv ++ text) k).toList = pvL iv.toList text.toList k := by rw [blkB_tl, HJL.out, blk_pvL _ _ (by rw [tl_size]; exact HV.out)]
      obtain ⟨b1, hb1⟩ : ∃ b, blkB (iv ++ text) i = b := ⟨_, rfl⟩
      obtain ⟨b2, hb2⟩ : ∃ b, blkB (iv ++ text) k = b := ⟨_, rfl⟩
      rw [hb1] at hc1 hbs1 hbl1
      rw [hb2] at hc2 hbs2 hbl2
      have HC : Hid (wr.drew.cell? ⟨gl, i, none⟩ = some (.string b1) ∧ wr.drew.cell? ⟨gl, k, none⟩ = some (.string b2)) := ⟨hc1, hc2⟩
      have hgl0 : gl < w2.heap.size := (HO.out.lt gl rfl).2
      have hgl : gl < wr.heap.size := Nat.lt_of_lt_of_le hgl0 hbel.size
      have HBS1 := Lib.hid hbs1
      have HBL1 := Lib.hid hbl1
      have HBL2 := Lib.hid hbl2
      have HB2Z : Hid (b2.size ≤ 140737488351232) := by show _ ≤ _; omega
      have HBD : Hid (Below w2.heap.size w2 wr.drew) := hbel.drew
      have HBX : Hid (Box wr.drew g key.toList) := HB.out.below hbel.drew (Nat.le_refl _)
      have HOD : Hid (wr.drew.ownsRow w2.heap.size 5 1 u11 m (bcells (unS key.toList iv.toList text.toList k))) := hO
      clear hm hO hbs1 hbs2 hbl1 hbl2 hb1 hb2 hik
      go_wp2_with fail
      go_region_held3 (fun w' => w'.cell? ⟨gl, i, none⟩ = some (.string b1) ∧ w'.cell? ⟨gl, k, none⟩ = some (.string b2)) (first | exact HC5.out | exact HC4.out | exact HC3.out | exact HC.out) (first | (go_at_call 79; refine (rdecrypt_any b1 _ g key.toList HBX.out hK.out HBS1.out).mono ?_; rintro e w3 ⟨x, rfl, hx, hb3⟩; have HX := Lib.hid hx; have HBL3 := Lib.hid (HBD.out.trans (hb3.mono HBD.out.size)); have HC3 : Hid (w3.cell? ⟨gl, i, none⟩ = some (.string b1) ∧ w3.cell? ⟨gl, k, none⟩ = some (.string b2)) := Lib.hid ⟨(hb3.cell (p := ⟨gl, i, none⟩) hgl).trans HC.out.1, (hb3.cell (p := ⟨gl, k, none⟩) hgl).trans HC.out.2⟩; have HO3 := Lib.hid (own_below HOD.out hb3 (Nat.le_refl _)); have HXZ : Hid (x.size ≤ 140737488351232) := (by show _ ≤ _; rw [← tl_size, HX.out, decL_length]; decide); have hgl3 : gl < w3.heap.size := Nat.lt_of_lt_of_le hgl hb3.size; clear hx) | (go_at_call 37; refine (rxor_any x b2 _ HXZ.out HB2Z.out).mono ?_; rintro e w4 ⟨y, rfl, hy, hb4⟩; have HBL4 := Lib.hid (HBL3.out.trans (hb4.mono HBL3.out.size)); have HC4 : Hid (w4.cell? ⟨gl, i, none⟩ = some (.string b1) ∧ w4.cell? ⟨gl, k, none⟩ = some (.string b2)) := Lib.hid ⟨(hb4.cell (p := ⟨gl, i, none⟩) hgl3).trans HC3.out.1, (hb4.cell (p := ⟨gl, k, none⟩) hgl3).trans HC3.out.2⟩; have HO4 := Lib.hid (own_below HO3.out hb4 (Nat.le_refl _)); have HY : Hid (y.toList = xorL (decL key.toList (blkL text.toList k)) (pvL iv.toList text.toList k)) := (by show _ = _; rw [hy, HX.out, HBL1.out, HBL2.out]); have HYS : Hid (y.size = 16) := (by show _ = _; rw [← tl_size, HY.out, xorL_length, decL_length, pvL_length _ _ (by rw [tl_size]; exact HV.out) _ (by rw [tl_size, HT.out]; omega)]; rfl); clear hy) | (refine step_append_txt rfl (.tmp 40) (.tmp 52) 54 9 rfl w2.heap.size 5 i0 Tryz.underlying54 Tryz.underlying9 hi hz0 hz1 hz2 u11 m 16 _ rfl HO4.out y rfl HYS.out (by have := HMK.out; omega) HBL4.out.size ?_; intro v' w5 hown5 hgrow5; have hb45 := (Below.refl _ w4).grown hgrow5 HBL4.out.size (fun b hb => (HO4.out.lt b hb).1); have HC5 : Hid (w5.cell? ⟨gl, i, none⟩ = some (.string b1) ∧ w5.cell? ⟨gl, k, none⟩ = some (.string b2)) := Lib.hid ⟨(hb45.cell (p := ⟨gl, i, none⟩) hgl0).trans HC4.out.1, (hb45.cell (p := ⟨gl, k, none⟩) hgl0).trans HC4.out.2⟩))
      have hb05 := HBL4.out.trans hb45
      have hstep : unS key.toList iv.toList text.toList k ++ y.toList = unS key.toList iv.toList text.toList (k + 1) := by rw [unS, HY.out]
      rw [hstep] at hown5
      have HO5 := Lib.hid hown5
      clear hown5 hgrow5 hstep HO4 HC HC3 HC4 HC5 hb45 HBL4 HBL3 HBD HOD HBX HO3 hbel hb3 hb4
      go_wp2_with fail
      go_roundw
      case rel => exact ⟨i + 1, k + 1, m + 16, by have := HIK.out; omega, by have := HMK.out; omega, by go_num, hkn1, HO5.out, hb05⟩
      case measure => simp [intOf]; omega
    · have hkn2 : k = n := by have := HJ.out; omega
      subst hkn2
      have hltI : ¬ (i : Int) < (J : Int) := by omega
      have hcv := run_convert_own (P := Tryz.prog) hO 54 9 Tryz.underlying54 Tryz.underlying5 Tryz.underlying9
      clear hm hO hik
      go_wp2_with fail
      go_ret2
      exact ret_se (tl_mk _) rfl rfl (hb12.trans (hbel.mono hb12.size))
end Go.Proofs.YtjlmmlnldjandaaGreatDoor
namespace Go.Proofs.YtjlmmlnldjandaaGreatDoor
open Go.RowKit
set_option linter.unusedVariables false
set_option linter.unusedSimpArgs false
theorem RetSE.of {l l' : List UInt8} {c c' : Int} {w w' : World} {e : Ending} (h : RetSE l c w e w') (hl : l = l') (hc : c = c') : RetSE l' c' w e w' := by
  subst hl hc
  exact h
set_option maxRecDepth 100000 in
set_option maxHeartbeats 800000 in
theorem rChain_wro (key iv text : ByteArray) (w : World) (c : Int) (hc : wroE key.size iv.size = c) (hc0 : c ≠ 0) : Calls Tryz.prog 18 #[.string key, .string iv, .string text] w (RetSE [] c w) := by
  have HC := Lib.hid hc
  have e1 : (c != 0) = true := by rw [bne_iff_ne]; exact hc0
  clear hc
  go_enter Tryz.func18, Tryz.ntmps18
  go_wp2_with fail
  refine (wrong_any key iv _).mono ?_
  rintro e w0 ⟨rfl, rfl⟩
  rw [HC.out]
  go_wp2_with fail
  go_ret2
  exact ret_se (tl_mk []) rfl rfl (Below.refl _ _)
set_option maxRecDepth 100000 in
set_option maxHeartbeats 800000 in
theorem rUnchain_wro (key iv text : ByteArray) (w : World) (c : Int) (hc : wroE key.size iv.size = c) (hc0 : c ≠ 0) : Calls Tryz.prog 53 #[.string key, .string iv, .string text] w (RetSE [] c w) := by
  have HC := Lib.hid hc
  have e1 : (c != 0) = true := by rw [bne_iff_ne]; exact hc0
  clear hc
  go_enter Tryz.func53, Tryz.ntmps53
  go_wp2_with fail
  refine (wrong_any key iv _).mono ?_
  rintro e w0 ⟨rfl, rfl⟩
  rw [HC.out]
  go_wp2_with fail
  go_ret2
  exact ret_se (tl_mk []) rfl rfl (Below.refl _ _)
set_option maxRecDepth 100000 in
set_option maxHeartbeats 800000 in
theorem rSeal_wro (key iv text : ByteArray) (w : World) (c : Int) (hc : wroE key.size iv.size = c) (hc0 : c ≠ 0) : Calls Tryz.prog 26 #[.string key, .string iv, .string text] w (RetSE [] c w) := by
  have HC := Lib.hid hc
  have e1 : (c != 0) = true := by rw [bne_iff_ne]; exact hc0
  clear hc
  go_enter Tryz.func26, Tryz.ntmps26
  go_wp2_with fail
  refine (wrong_any key iv _).mono ?_
  rintro e w0 ⟨rfl, rfl⟩
  rw [HC.out]
  go_wp2_with fail
  go_ret2
  exact ret_se (tl_mk []) rfl rfl (Below.refl _ _)
set_option maxRecDepth 100000 in
set_option maxHeartbeats 800000 in
theorem rOpen_wro (key iv text : ByteArray) (w : World) (c : Int) (hc : wroE key.size iv.size = c) (hc0 : c ≠ 0) : Calls Tryz.prog 30 #[.string key, .string iv, .string text] w (RetSE [] c w) := by
  have HC := Lib.hid hc
  have e1 : (c != 0) = true := by rw [bne_iff_ne]; exact hc0
  clear hc
  go_enter Tryz.func30, Tryz.ntmps30
  go_wp2_with fail
  refine (wrong_any key iv _).mono ?_
  rintro e w0 ⟨rfl, rfl⟩
  rw [HC.out]
  go_wp2_with fail
  go_ret2
  exact ret_se (tl_mk []) rfl rfl (Below.refl _ _)
set_option maxRecDepth 100000 in
set_option maxHeartbeats 800000 in
theorem rChain_fit (key iv text : ByteArray) (w : World) (hw : wroE key.size iv.size = 0) (h : cfit text.size = false) : Calls Tryz.prog 18 #[.string key, .string iv, .string text] w (RetSE [] 6 w) := by
  have hc := of_decide_eq_false h
  have HW := Lib.hid hw
  obtain ⟨r, hr⟩ : ∃ r, text.size % 16 = r := ⟨_, rfl⟩
  have e3 : (text.size : Int).tmod 16 = (r : Int) := tmod_nat text.size 16 r hr.symm
  have e4 : IntKind.i64.wrap (r : Int) = (r : Int) := wrap_in _ (by omega) (by omega)
  by_cases hr0 : r = 0
  · subst hr0
    have e5 : (((0 : Nat) : Int) != 0) = false := rfl
    have e2 : (70016 : Int) < (text.size : Int) := by omega
    clear hr hc h hw
    go_enter Tryz.func18, Tryz.ntmps18
    go_wp2_with fail
    refine (wrong_any key iv _).mono ?_
    rintro e w0 ⟨rfl, rfl⟩
    rw [HW.out]
    go_wp2_with fail
    go_ret2
    exact ret_se (tl_mk []) rfl rfl (Below.refl _ _)
  · have e5 : ((r : Int) != 0) = true := by rw [bne_iff_ne]; omega
    clear hr hc h hr0 hw
    go_enter Tryz.func18, Tryz.ntmps18
    go_wp2_with fail
    refine (wrong_any key iv _).mono ?_
    rintro e w0 ⟨rfl, rfl⟩
    rw [HW.out]
    go_wp2_with fail
    go_ret2
    exact ret_se (tl_mk []) rfl rfl (Below.refl _ _)
theorem rChain_any (key iv text : ByteArray) (w : World) : Calls Tryz.prog 18 #[.string key, .string iv, .string text] w (RetSE (chaL key.toList iv.toList text.toList) (cbgE key.size iv.size (cfit text.size)) w) := by
  rw [chaL, tl_size, tl_size, tl_size, cbg_wro]
  by_cases hw : wroE key.size iv.size = 0
  · rw [if_pos hw]
    cases hf : cfit text.size
    · exact rChain_fit key iv text w hw hf
    · have hd := of_decide_eq_true hf
      exact rChain_ok key iv text w hw hd.1 hd.2
  · rw [if_neg hw, if_neg hw]
    exact rChain_wro key iv text w _ rfl hw
set_option maxRecDepth 100000 in
set_option maxHeartbeats 800000 in
theorem rUnchain_fit (key iv text : ByteArray) (w : World) (hw : wroE key.size iv.size = 0) (h : cfit text.size = false) : Calls Tryz.prog 53 #[.string key, .string iv, .string text] w (RetSE [] 6 w) := by
  have hc := of_decide_eq_false h
  have HW := Lib.hid hw
  obtain ⟨r, hr⟩ : ∃ r, text.size % 16 = r := ⟨_, rfl⟩
  have e3 : (text.size : Int).tmod 16 = (r : Int) := tmod_nat text.size 16 r hr.symm
  have e4 : IntKind.i64.wrap (r : Int) = (r : Int) := wrap_in _ (by omega) (by omega)
  by_cases hr0 : r = 0
  · subst hr0
    have e5 : (((0 : Nat) : Int) != 0) = false := rfl
    have e2 : (70016 : Int) < (text.size : Int) := by omega
    clear hr hc h hw
    go_enter Tryz.func53, Tryz.ntmps53
    go_wp2_with fail
    refine (wrong_any key iv _).mono ?_
    rintro e w0 ⟨rfl, rfl⟩
    rw [HW.out]
    go_wp2_with fail
    go_ret2
    exact ret_se (tl_mk []) rfl rfl (Below.refl _ _)
  · have e5 : ((r : Int) != 0) = true := by rw [bne_iff_ne]; omega
    clear hr hc h hr0 hw
    go_enter Tryz.func53, Tryz.ntmps53
    go_wp2_with fail
    refine (wrong_any key iv _).mono ?_
    rintro e w0 ⟨rfl, rfl⟩
    rw [HW.out]
    go_wp2_with fail
    go_ret2
    exact ret_se (tl_mk []) rfl rfl (Below.refl _ _)
theorem rUnchain_any (key iv text : ByteArray) (w : World) : Calls Tryz.prog 53 #[.string key, .string iv, .string text] w (RetSE (uchL key.toList iv.toList text.toList) (cbgE key.size iv.size (cfit text.size)) w) := by
  rw [uchL, tl_size, tl_size, tl_size, cbg_wro]
  by_cases hw : wroE key.size iv.size = 0
  · rw [if_pos hw]
    cases hf : cfit text.size
    · exact rUnchain_fit key iv text w hw hf
    · have hd := of_decide_eq_true hf
      exact rUnchain_ok key iv text w hw hd.1 hd.2
  · rw [if_neg hw, if_neg hw]
    exact rUnchain_wro key iv text w _ rfl hw
set_option maxRecDepth 100000 in
set_option maxHeartbeats 800000 in
theorem rSeal_fit (key iv text : ByteArray) (w : World) (hw : wroE key.size iv.size = 0) (h : cfitS text.size = false) : Calls Tryz.prog 26 #[.string key, .string iv, .string text] w (RetSE [] 6 w) := by
  have hc := of_decide_eq_false h
  have HW := Lib.hid hw
  have e2 : (70000 : Int) < (text.size : Int) := by omega
  clear hc h hw
  go_enter Tryz.func26, Tryz.ntmps26
  go_wp2_with fail
  refine (wrong_any key iv _).mono ?_
  rintro e w0 ⟨rfl, rfl⟩
  rw [HW.out]
  go_wp2_with fail
  go_ret2
  exact ret_se (tl_mk []) rfl rfl (Below.refl _ _)
set_option maxRecDepth 100000 in
set_option maxHeartbeats 800000 in
theorem rSeal_ok (key iv text : ByteArray) (w : World) (hw : wroE key.size iv.size = 0) (h : cfitS text.size = true) : Calls Tryz.prog 26 #[.string key, .string iv, .string text] w (RetSE (chS key.toList iv.toList (padL text.toList 16) ((padL text.toList 16).length / 16)) 0 w) := by
  have hc := of_decide_eq_true h
  have HW := Lib.hid hw
  have e2 : ¬ (70000 : Int) < (text.size : Int) := by omega
  have HC := Lib.hid hc
  clear hc h hw
  go_enter Tryz.func26, Tryz.ntmps26
  go_wp2_with fail
  refine (wrong_any key iv _).mono ?_
  rintro e w0 ⟨rfl, rfl⟩
  rw [HW.out]
  go_wp2_with fail
  refine (rpad_ok text 16 _ (by decide) (by decide) (by have := HC.out; omega)).mono ?_
  rintro e w1 ⟨p, rfl, hp, hb1⟩
  have hl1 := padL_mod text.toList
  have hl2 := padL_size text.toList
  rw [tl_size] at hl2
  rw [← hp, tl_size] at hl1 hl2
  have HP := Lib.hid hp
  have HM : Hid (p.size % 16 = 0) := by show _ = _; omega
  have HZ : Hid (p.size ≤ 70016) := by show _ ≤ _; have := HC.out; omega
  clear hp hl1 hl2
  go_wp2_with fail
  refine (rChain_ok key iv p _ HW.out HM.out HZ.out).mono ?_
  rintro e w2 ⟨s, rfl, hs, hb2⟩
  go_wp2_with fail
  go_ret2
  exact ret_se hs (by rw [← HP.out, tl_size]) rfl (below2 hb1 hb2)
theorem rSeal_any (key iv text : ByteArray) (w : World) : Calls Tryz.prog 26 #[.string key, .string iv, .string text] w (RetSE (selL key.toList iv.toList text.toList) (cbgE key.size iv.size (cfitS text.size)) w) := by
  rw [selL, tl_size, tl_size, tl_size, cbg_wro]
  by_cases hw : wroE key.size iv.size = 0
  · rw [if_pos hw]
    cases hf : cfitS text.size
    · exact rSeal_fit key iv text w hw hf
    · exact rSeal_ok key iv text w hw hf
  · rw [if_neg hw, if_neg hw]
    exact rSeal_wro key iv text w _ rfl hw
set_option maxRecDepth 100000 in
set_option maxHeartbeats 800000 in
theorem rOpen_none (key iv text : ByteArray) (w : World) (hw : wroE key.size iv.size = 0) (h : text.size = 0) : Calls Tryz.prog 30 #[.string key, .string iv, .string text] w (RetSE [] 6 w) := by
  have HW := Lib.hid hw
  have e2 : ((text.size : Int) == 0) = true := by rw [beq_iff_eq]; omega
  clear h hw
  go_enter Tryz.func30, Tryz.ntmps30
  go_wp2_with fail
  refine (wrong_any key iv _).mono ?_
  rintro e w0 ⟨rfl, rfl⟩
  rw [HW.out]
  go_wp2_with fail
  go_ret2
  exact ret_se (tl_mk []) rfl rfl (Below.refl _ _)
set_option maxRecDepth 100000 in
set_option maxHeartbeats 800000 in
theorem rOpen_fit (key iv text : ByteArray) (w : World) (hw : wroE key.size iv.size = 0) (h0 : text.size ≠ 0) (h : cfit text.size = false) : Calls Tryz.prog 30 #[.string key, .string iv, .string text] w (RetSE [] 6 w) := by
  have HW := Lib.hid hw
  have HF := Lib.hid h
  have e2 : ((text.size : Int) == 0) = false := by rw [beq_eq_false_iff_ne]; omega
  clear h h0 hw
  go_enter Tryz.func30, Tryz.ntmps30
  go_wp2_with fail
  refine (wrong_any key iv _).mono ?_
  rintro e w0 ⟨rfl, rfl⟩
  rw [HW.out]
  go_wp2_with fail
  refine (rUnchain_fit key iv text _ HW.out HF.out).mono ?_
  rintro e w1 ⟨s, rfl, hs, hb1⟩
  go_wp2_with fail
  go_ret2
  exact ret_se (tl_mk []) rfl rfl hb1
set_option maxRecDepth 100000 in
set_option maxHeartbeats 800000 in
theorem rOpen_ok (key iv text : ByteArray) (w : World) (hw : wroE key.size iv.size = 0) (h0 : text.size ≠ 0) (h : cfit text.size = true) : Calls Tryz.prog 30 #[.string key, .string iv, .string text] w (RetSE (unpL (opeX key.toList iv.toList text.toList) 16) (unpE (opeX key.toList iv.toList text.toList) 16) w) := by
  have HW := Lib.hid hw
  have hd := of_decide_eq_true h
  have HD := Lib.hid hd
  have hv := (wro_zero hw).2
  have HV := Lib.hid hv
  have e2 : ((text.size : Int) == 0) = false := by rw [beq_eq_false_iff_ne]; omega
  clear h h0 hw hd hv
  go_enter Tryz.func30, Tryz.ntmps30
  go_wp2_with fail
  refine (wrong_any key iv _).mono ?_
  rintro e w0 ⟨rfl, rfl⟩
  rw [HW.out]
  go_wp2_with fail
  refine (rUnchain_ok key iv text _ HW.out HD.out.1 HD.out.2).mono ?_
  rintro e w1 ⟨s, rfl, hs, hb1⟩
  have hss : s.size ≤ 140737488351232 := by
    rw [← tl_size, hs, unS_length _ _ _ (by rw [tl_size]; exact HV.out) _ (by rw [tl_size]; have := HD.out; omega)]
    have := HD.out
    omega
  have HSS := Lib.hid hss
  have HS : Hid (s.toList = opeX key.toList iv.toList text.toList) := by show _ = _; rw [hs, opeX, tl_size]
  clear hs hss
  go_wp2_with fail
  refine (runpad_ok s 16 _ (by decide) (by decide) HSS.out).mono ?_
  rintro e w2 ⟨t, rfl, ht, hb2⟩
  rw [HS.out] at ht
  rw [HS.out]
  obtain ⟨c, hc⟩ : ∃ c, unpE (opeX key.toList iv.toList text.toList) 16 = c := ⟨_, rfl⟩
  have HC := Lib.hid hc
  rw [hc]
  clear hc
  go_wp2_with fail
  go_ret2
  exact ret_se ht rfl (by first | rfl | exact HC.out.symm) (below2 hb1 hb2)
theorem fitO_ne {n : Nat} (h : n ≠ 0) : cfitO n = cfit n := by
  rw [cfitO, cfit]
  congr 1
  apply propext
  omega
theorem rOpen_any (key iv text : ByteArray) (w : World) : Calls Tryz.prog 30 #[.string key, .string iv, .string text] w (RetSE (opeL key.toList iv.toList text.toList) (opeE key.toList iv.toList text.toList) w) := by
  rw [opeL, opeE, tl_size, tl_size, tl_size, cbg_wro]
  by_cases hw : wroE key.size iv.size = 0
  · rw [if_pos hw]
    by_cases h0 : text.size = 0
    · have : cfitO text.size = false := by rw [cfitO, decide_eq_false_iff_not]; omega
      rw [this]
      exact rOpen_none key iv text w hw h0
    · rw [fitO_ne h0]
      cases hf : cfit text.size
      · exact rOpen_fit key iv text w hw h0 hf
      · exact rOpen_ok key iv text w hw h0 hf
  · rw [if_neg hw, if_neg hw, if_neg hw]
    exact rOpen_wro key iv text w _ rfl hw
end Go.Proofs.YtjlmmlnldjandaaGreatDoor
namespace Go.Proofs.YtjlmmlnldjandaaGreatDoor
open Go.RowKit
set_option linter.unusedVariables false
set_option linter.unusedSimpArgs false
def lonB (n : Nat) : Bool := decide (3000 < n ∧ n ≤ 140000)
def RetBq (b : Bool) (w : World) (e : Ending) (w' : World) : Prop := e = .returned (.bool b) ∧ w = w'
end Go.Proofs.YtjlmmlnldjandaaGreatDoor
namespace Go.Proofs.YtjlmmlnldjandaaGreatDoor
open Go.RowKit
set_option linter.unusedVariables false
set_option linter.unusedSimpArgs false
theorem macE_key {k n : Nat} (h1 : k ≠ 16) (h2 : k ≠ 24) (h3 : k ≠ 32) : macE k n = 3 := by rw [macE, keyOk_no h1 h2 h3]; rfl
theorem macE_yes {k n : Nat} (hk : k = 16 ∨ k = 24 ∨ k = 32) : macE k n = if n ≤ 140000 then 0 else 6 := by rw [macE, if_pos (keyOk_yes hk)]
theorem nought_tl : (ByteArray.mk #[0]).toList = [0] := tl_mk _
end Go.Proofs.YtjlmmlnldjandaaGreatDoor
namespace Go.Proofs.YtjlmmlnldjandaaGreatDoor
open Go.RowKit
set_option linter.unusedVariables false
set_option linter.unusedSimpArgs false
theorem Bag.whole {w : World} {B : Nat} {v : Value} {l : List UInt8} (h : Bag w B v l) : ∃ g cap, v = .slice (some ⟨g, 0, none⟩) l.length cap ∧ B ≤ g ∧ l.length ≤ cap := by
  obtain ⟨g, cap, sp, hv, hb, hc, hs, ha⟩ := h
  exact ⟨g, cap, hv, hb, hc⟩
theorem wpList_bytes_len {P : Program} (w : World) {ops : Array Oper} {rest : List Oper} {o : Oper} {a : Act} {Q : Exit → Act → World → Prop}
    (hg : o.guard = none) (x : Operand) (src dst e : TypeId) (hop : o.op = Op.convert src dst x) (h1 : P.underlying src = some .string) (h2 : P.underlying dst = some (.slice e)) (h3 : P.underlying e = some (.int .u8))
    (s : ByteArray) (hx : a.eval x = .string s) (B : Nat) (hB : B ≤ w.heap.size)
    (hK : ∀ g cap w', Hid (Bag w' B (.slice (some ⟨g, 0, none⟩) s.size cap) s.toList) → Below B w w' → wpList P ops Q rest (a.put o.dst (.slice (some ⟨g, 0, none⟩) s.size cap)) w') :
    wpList P ops Q (o :: rest) a w := by
  refine wpList_bytes_bag w hg x src dst e hop h1 h2 h3 s hx B hB ?_
  intro v w' hb hbel
  obtain ⟨g, cap, rfl, hgB, hcap⟩ := hb.whole
  rw [tl_size] at hb ⊢
  exact hK g cap w' hb hbel
end Go.Proofs.YtjlmmlnldjandaaGreatDoor
namespace Go.Proofs.YtjlmmlnldjandaaGreatDoor
open Go.RowKit
set_option linter.unusedVariables false
set_option linter.unusedSimpArgs false
theorem macE_zero {k n : Nat} (h : macE k n = 0) : (k = 16 ∨ k = 24 ∨ k = 32) ∧ n ≤ 140000 := by
  unfold macE at h
  split at h
  · rename_i hk
    split at h
    · exact ⟨by simpa [keyOk] using hk, by assumption⟩
    · omega
  · omega
end Go.Proofs.YtjlmmlnldjandaaGreatDoor
