/- The contract of the document's Decrypt. -/
import Derived.Test.YtigegblpledogaaAesBe
namespace Go.Proofs.Ytigegblpledogaa
open Go.RowKit
set_option linter.unusedVariables false
set_option linter.unusedSimpArgs false
def rdecN (W : List UInt32) (M : Nat) : Nat → List UInt32 → List UInt32
  | 0, s => s
  | j + 1, s => rdecN W M j (lasL gback 3 2 1 (if j + 1 < M then colL 14 11 13 9 (addL s W (4 * (j + 1))) else addL s W (4 * (j + 1))))
theorem rdecN_dec (W : List UInt32) (M : Nat) : ∀ (n : Nat) (s : List UInt32), n < M → rdecN W M n s = decN W n s
  | 0, s, h => rfl
  | n + 1, s, h => by rw [rdecN, if_pos h, rdecN_dec W M n _ (by omega), decN, umxL_col _ (addL_length _ _ _)]
theorem rdecN_all (W : List UInt32) (m : Nat) (s : List UInt32) : rdecN W (m + 1) (m + 1) s = decN W m (lasL gback 3 2 1 (addL s W (4 * (m + 1)))) := by
  rw [rdecN, if_neg (Nat.lt_irrefl _), rdecN_dec W (m + 1) m _ (by omega)]
theorem lasb_byte (f : UInt8 → UInt8) (S : List UInt32) (i r : Nat) (hr : r < 4) (hi : i < 4) : rw_ (lasF f 3 2 1 S i) r = f (rw_ (S.getD ((i + 4 - r) % 4) 0) r) := by
  match r, hr with
  | 0, _ => rw [lasF, rw_wd0, show (i + 4 - 0) % 4 = i by omega]
  | 1, _ => rw [lasF, rw_wd1]; rfl
  | 2, _ => rw [lasF, rw_wd2]; rfl
  | 3, _ => rw [lasF, rw_wd3]; rfl
theorem txt_lasb (f : UInt8 → UInt8) (S : List UInt32) (k : Nat) (hk : k < 16) : txtF (lasL f 3 2 1 S) k = f (rw_ (S.getD ((k / 4 + 4 - k % 4) % 4) 0) (k % 4)) := by
  have h4 : k / 4 < 4 := by omega
  rw [txtF, ← lasb_byte f S (k / 4) (k % 4) (by omega) h4]
  congr 1
  simp [lasL, List.getD, h4]
def pos (k : Nat) : Nat := 4 * ((k / 4 + k % 4) % 4) + k % 4
def pin (k : Nat) : Nat := 4 * ((k / 4 + 4 - k % 4) % 4) + k % 4
theorem pos_pin : ∀ i : Fin 16, ∀ k : Fin 16, (pin i.val = k.val) ↔ (i.val = pos k.val) := by decide +kernel
theorem pos_q : ∀ k : Fin 16, (pos k.val / 4 + 4 - pos k.val % 4) % 4 = k.val / 4 ∧ pos k.val % 4 = k.val % 4 := by decide +kernel
theorem pin_lt : ∀ i : Fin 16, pin i.val < 16 := by decide +kernel
/-- the first c columns mixed back -/
def myP (T : List UInt32) (c : Nat) : List UInt32 := mixP 4 (fun i => colG 14 11 13 9 (T.getD i 0)) (fun i => T.getD i 0) c
theorem myP_zero (T : List UInt32) (h : T.length = 4) : myP T 0 = T := by rw [myP, mixP_zero, map_getD _ _ _ h]
theorem myP_four (T : List UInt32) (h : T.length = 4) : myP T 4 = colL 14 11 13 9 T := by
  rw [myP, mixP_full]
  obtain ⟨a, b, c, d, rfl⟩ := four T h
  rfl
theorem myP_step (T : List UInt32) (c : Nat) (hc : c < 4) : (myP T c).set c (colG 14 11 13 9 ((myP T c).getD c 0)) = myP T (c + 1) := by
  rw [myP, mixP_at _ _ _ _ _ _ hc, if_neg (Nat.lt_irrefl c)]
  exact mixP_set 4 (fun i => colG 14 11 13 9 (T.getD i 0)) (fun i => T.getD i 0) c
theorem myP_length (T : List UInt32) (c : Nat) : (myP T c).length = 4 := by rw [myP, mixP_length]
theorem col_myx (S : List UInt32) (c : Nat) (w : World) (hS : S.length = 4) (hc : c < 4) :
    Calls Try.prog 78 #[.agg (bcells (txtL S)).toArray, .int .i64 (c : Int), .agg #[.int .u8 14, .int .u8 11, .int .u8 13, .int .u8 9]] w (RetA8 (txtL (S.set c (colG 14 11 13 9 (S.getD c 0)))) w) := column_any S c 14 11 13 9 w hS hc
set_option maxRecDepth 100000 in
set_option maxHeartbeats 1600000 in
theorem rdecrypt_any (b : ByteArray) (w : World) (g : Nat) (K : List UInt8) (hB : Box w g K) (hK : K.length = 16 ∨ K.length = 24 ∨ K.length = 32) (hb : b.size = 16) :
    Calls Try.prog 54 #[.pointer (some ⟨g, 0, none⟩), .string b] w (RetS (decL K b.toList) w) := by
  obtain ⟨M, hM, hM1, hM2⟩ := wlen hK
  have HB := Lib.hid hB
  have HM := Lib.hid hM
  have Hb := Lib.hid hb
  have hg := hB.lt
  clear hB hM hb
  go_enter Try.func54, Try.ntmps54
  go_wp2_with fail
  obtain ⟨w0, hw0, hA0, hb0, hs0⟩ := one_by w
  rw [hw0]
  clear hw0 hs0
  have hA0' : At w0 w.heap.size 0 (bcells (mixP 16 (at0 b.toList) (fun _ => 0) 0)) := hA0
  clear hA0
  go_loopw [6] (fun i wr => ∃ k : Nat, k ≤ 16 ∧ i = .int .i64 k ∧ At wr w.heap.size 0 (bcells (mixP 16 (at0 b.toList) (fun _ => 0) k)) ∧ Below w.heap.size w wr) (fun i _ => 16 - (intOf i).toNat)
  case atStart => exact ⟨0, Nat.zero_le _, rfl, hA0', hb0⟩
  case round =>
    clear hA0' hb0
    obtain ⟨k, hk, rfl, hA0, hb0⟩ := hrel
    have H0 := Lib.hid hA0
    clear hA0
    by_cases hlt : k < 16
    · have hkI : (k : Int) < 16 := by omega
      have hkb : k < b.size := by have := Hb.out; omega
      have hc0 := H0.out.b8 k (by rw [mixP_length]; exact hlt)
      have hfr := H0.out.froz k (by rw [bcells_length, mixP_length]; exact hlt)
      rw [Nat.zero_add] at hc0 hfr
      go_wp2_with fail
      go_roundw
      case rel =>
        refine ⟨k + 1, by omega, by go_num, ?_, hb0.setCell (p := ⟨w.heap.size, k, none⟩) (Nat.le_refl _) _⟩
        have h := H0.out.b8set k (at0 b.toList k)
        rw [mixP_set, Nat.zero_add, at0_tl _ _ hkb] at h
        exact h
      case measure => simp [intOf]; omega
    · have hkn : k = 16 := by omega
      subst hkn
      have hA1 := H0.out
      rw [mixP_key _ (by rw [tl_size]; exact Hb.out)] at hA1
      have HA1 := Lib.hid hA1
      clear H0 hlt hk hA1
      obtain ⟨gw, cap, hcw, hW⟩ := (HB.out.below hb0 (Nat.le_refl _)).word
      obtain ⟨N1, hN1⟩ : ∃ N1 : Nat, N1 = M + 1 := ⟨_, rfl⟩
      have hdv : (((expW K).length : Nat) : Int) / 4 = (N1 : Int) := by rw [HM.out]; omega
      have hsb : (N1 : Int) - 1 = (M : Int) := by omega
      clear hN1 hW
      rw [show ((16 : Nat) : Int) = (16 : Int) from rfl]
      go_wp2_with fail
      clear hcw hdv hsb
      go_loopw [8] (fun i wr => ∃ j : Nat, ∃ s : List UInt32, j ≤ M ∧ i = .int .i64 j ∧ s.length = 4 ∧ rdecN (expW K) M j s = rdecN (expW K) M M (keyL b.toList 4) ∧ At wr w.heap.size 0 (bcells (txtL s)) ∧ Below w.heap.size w wr) (fun i _ => (intOf i).toNat)
      case atStart => exact ⟨M, _, Nat.le_refl _, rfl, keyL_length _ _, rfl, HA1.out, hb0⟩
      case round =>
        clear HA1 hb0
        obtain ⟨j, s, hjM, rfl, hs, hrun, hA, hbl⟩ := hrel
        have HR := Lib.hid hrun
        have HS := Lib.hid hs
        have hsz := hA.lt (by intro h; have := congrArg List.length h; rw [bcells_length, txtL_length] at this; simp at this)
        clear hrun hs
        by_cases hlt : 1 ≤ j
        · obtain ⟨j', rfl⟩ : ∃ j', j = j' + 1 := ⟨j - 1, by omega⟩
          obtain ⟨jj, hjj⟩ : ∃ jj : Nat, jj = j' + 1 := ⟨_, rfl⟩
          rw [← hjj] at hlt hjM ⊢
          have hjI : (1 : Int) ≤ (jj : Int) := by omega
          have HJ := Lib.hid hjj
          clear hjj
          go_wp2_with (refine wpList_load_at 85 (.tmp 5) w.heap.size 0 (bcells (txtL s)) _ hA Try.underlying85 rfl (blen16 _ (txtL_length _)) ⟨rfl, rfl, rfl⟩ ?_)
          refine (radd_any s jj _ g K (HB.out.below hbl (Nat.le_refl _)) HS.out (by rw [HM.out]; omega) (by rw [HM.out]; omega)).mono ?_
          rintro e w7 ⟨rfl, hb7⟩
          obtain ⟨u, hu⟩ : ∃ u, addL s (expW K) (4 * jj) = u := ⟨_, rfl⟩
          have hul : u.length = 4 := by rw [← hu, addL_length]
          rw [hu]
          obtain ⟨hst7, hA7, hbs7, hsz7⟩ := st16 (hA.below hb7 (by omega)) (txtL_length _) (txtL_length u)
          have hwl : (bcells (txtL u)).length = 16 := by rw [bcells_length, txtL_length]
          have hbl7 := (hbl.trans (hb7.mono hbl.size)).trans hbs7
          have hA8 : At (w7.setCells w.heap.size 0 (bcells (txtL u))) w.heap.size 0 (bcells (txtL (myP u 0))) := by rw [myP_zero _ hul]; exact hA7
          have HA8 := Lib.hid hA8
          have HUL := Lib.hid hul
          have HU := Lib.hid hu
          obtain ⟨cN, hcN⟩ : ∃ cN, cN = if jj < M then 4 else 0 := ⟨_, rfl⟩
          have HcN := Lib.hid hcN
          have hc4 : cN ≤ 4 := by rw [hcN]; split <;> omega
          clear hcN hA7 hA8 hA hbs7 hsz7 hb7 hbl hu hul
          go_wp2_with fail
          go_loopw [9] (fun i wr => ∃ c : Nat, c ≤ cN ∧ i = .int .i64 c ∧ At wr w.heap.size 0 (bcells (txtL (myP u c))) ∧ Below w.heap.size w wr) (fun i _ => 4 - (intOf i).toNat)
          case atStart => exact ⟨0, Nat.zero_le _, rfl, HA8.out, hbl7⟩
          case round =>
            clear HA8 hbl7 hst7 hwl
            obtain ⟨c, hc, rfl, hY, hbl⟩ := hrel
            have HT := Lib.hid (myP_length u c)
            have hszy := hY.lt (by intro h; have := congrArg List.length h; rw [bcells_length, txtL_length] at this; simp at this)
            by_cases hcl : c < cN
            · have hcI : (c : Int) < 4 := by omega
              have hjl : (jj : Int) < (M : Int) := by
                have h := HcN.out
                by_cases hj : jj < M
                · omega
                · rw [if_neg hj] at h; omega
              go_wp2_with (refine wpList_load_at 85 (.tmp 5) w.heap.size 0 (bcells (txtL (myP u c))) _ hY Try.underlying85 rfl (blen16 _ (txtL_length _)) ⟨rfl, rfl, rfl⟩ ?_)
              refine (col_myx (myP u c) c _ HT.out (by omega)).mono ?_
              rintro e w8 ⟨rfl, hb8⟩
              rw [myP_step _ _ (show c < 4 by omega)]
              obtain ⟨hst8, hA8, hbs8, hsz8⟩ := st16 (hY.below hb8 hszy) (txtL_length _) (txtL_length (myP u (c + 1)))
              have hwl : (bcells (txtL (myP u (c + 1)))).length = 16 := by rw [bcells_length, txtL_length]
              have hbl8 := (hbl.trans (hb8.mono hbl.size)).trans hbs8
              have HA8 := Lib.hid hA8
              clear hA8 hY hbs8 hsz8 hb8 hbl
              go_wp2_with fail
              go_roundw
              case rel => exact ⟨c + 1, by omega, by go_num, HA8.out, hbl8⟩
              case measure => simp [intOf]; omega
            · have hcE : c = cN := by omega
              have hfin : myP u c = if jj < M then colL 14 11 13 9 u else u := by
                have h := HcN.out
                rw [hcE]
                by_cases hj : jj < M
                · rw [if_pos hj] at h ⊢
                  rw [h, myP_four _ HUL.out]
                · rw [if_neg hj] at h ⊢
                  rw [h, myP_zero _ HUL.out]
              obtain ⟨t, ht⟩ : ∃ t, myP u c = t := ⟨_, rfl⟩
              rw [ht] at hY hfin HT
              have hstep : rdecN (expW K) M j' (lasL gback 3 2 1 t) = rdecN (expW K) M M (keyL b.toList 4) := by
                rw [← HR.out, rdecN, ← HJ.out, HU.out, ← hfin]
              have HST := Lib.hid hstep
              have hcc : (¬ (c : Int) < 4) ∨ ((c : Int) < 4 ∧ ¬ (jj : Int) < (M : Int)) := by
                have h := HcN.out
                by_cases hj : jj < M
                · rw [if_pos hj] at h; left; omega
                · right; rw [if_neg hj] at h; omega
              have HY := Lib.hid hY
              clear hcE ht hfin hstep hY
              rcases hcc with hcI | ⟨hcI, hjl⟩
              all_goals
                go_wp2_with fail
                obtain ⟨w5, hw5, hZ, hb5, hs5⟩ := one_by wr
                rw [hw5]
                have HX5 := Lib.hid (HY.out.below hb5 hszy)
                have hbl5 := hbl.trans (hb5.mono hbl.size)
                obtain ⟨gy, hgy⟩ : ∃ gy, wr.heap.size = gy := ⟨_, rfl⟩
                rw [hgy] at hZ hszy ⊢
                have hZ' : At w5 gy 0 (bcells (ovr (txtF (lasL gback 3 2 1 t)) (fun _ => 0) 16 (fun i => decide (pin i < 0)))) := by
                  rw [ovr_zero _ _ _ _ (by intro i hi; rw [decide_eq_false_iff_not]; omega)]
                  exact hZ
                have HZ5 := Lib.hid hZ'
                clear hw5 hZ hZ' HY hbl hb5 hs5 hgy
                go_loopw [11] (fun i wr => ∃ k : Nat, k ≤ 16 ∧ i = .int .i64 k ∧ At wr w.heap.size 0 (bcells (txtL t)) ∧ At wr gy 0 (bcells (ovr (txtF (lasL gback 3 2 1 t)) (fun _ => 0) 16 (fun i => decide (pin i < k)))) ∧ Below w.heap.size w wr) (fun i _ => 16 - (intOf i).toNat)
                case atStart => exact ⟨0, Nat.zero_le _, rfl, HX5.out, HZ5.out, hbl5⟩
                case round =>
                  clear HX5 HZ5 hbl5
                  obtain ⟨k, hk, rfl, hX, hY, hbl⟩ := hrel
                  have HX := Lib.hid hX
                  have HY := Lib.hid hY
                  clear hX hY
                  by_cases hlk : k < 16
                  · obtain ⟨q, hq⟩ : ∃ q : Nat, q = k / 4 := ⟨_, rfl⟩
                    obtain ⟨r, hr⟩ : ∃ r : Nat, r = k % 4 := ⟨_, rfl⟩
                    obtain ⟨e, he⟩ : ∃ e : Nat, e = q + r := ⟨_, rfl⟩
                    obtain ⟨m, hm⟩ : ∃ m : Nat, m = e % 4 := ⟨_, rfl⟩
                    obtain ⟨m4, hm4⟩ : ∃ m4 : Nat, m4 = 4 * m := ⟨_, rfl⟩
                    obtain ⟨x, hx⟩ : ∃ x : Nat, x = m4 + r := ⟨_, rfl⟩
                    have hxp : x = pos k := by rw [pos, ← hq, ← hr, ← he, ← hm, ← hm4, ← hx]
                    have hr4 : r < 4 := by omega
                    have hm3 : m < 4 := by omega
                    have hx16 : x < 16 := by omega
                    have hkI : (k : Int) < 16 := by omega
                    have hxI : (x : Int) < 16 := by omega
                    have hw1 : (k : Int).tdiv 4 = (q : Int) := tdiv_nat k 4 q hq
                    have hw2 : IntKind.i64.wrap (q : Int) = (q : Int) := wrap_in _ (by omega) (by omega)
                    have hw3 : (k : Int).tmod 4 = (r : Int) := tmod_nat k 4 r hr
                    have hw4 : IntKind.i64.wrap ((q : Int) + (r : Int)) = (e : Int) := by rw [wrap_in _ (by omega) (by omega)]; omega
                    have hw5 : (e : Int).tmod 4 = (m : Int) := tmod_nat e 4 m hm
                    have hw6 : IntKind.i64.wrap (4 * (m : Int)) = (m4 : Int) := by rw [wrap_in _ (by omega) (by omega)]; omega
                    have hw7 : IntKind.i64.wrap ((m4 : Int) + (r : Int)) = (x : Int) := by rw [wrap_in _ (by omega) (by omega)]; omega
                    have hcx := HX.out.b8 k (by rw [txtL_length]; exact hlk)
                    have htx : (txtL t).getD k 0 = rw_ (t.getD q 0) r := by
                      rw [show (txtL t).getD k 0 = txtF t k by simp [txtL, List.getD, hlk], txtF, hq, hr]
                    have hta := txt_lasb gback t x hx16
                    have hpq := pos_q ⟨k, hlk⟩
                    simp only at hpq
                    rw [hxp, hpq.1, hpq.2, ← hq, ← hr, ← hxp] at hta
                    obtain ⟨v, hv⟩ : ∃ v, rw_ (t.getD q 0) r = v := ⟨_, rfl⟩
                    rw [htx, hv, Nat.zero_add] at hcx
                    rw [hv] at hta
                    have hvb := v.toNat_lt
                    have hvI : (v.toNat : Int) < 256 := by omega
                    obtain ⟨gw2, cap2, hS0, hS1, hS2, hS3⟩ := HB.out.below hbl (Nat.le_refl _)
                    have hcs := hS1.b8 v.toNat (by rw [backC_length]; exact hvb)
                    rw [backC_get] at hcs
                    obtain ⟨z, hz⟩ : ∃ z, gback v = z := ⟨_, rfl⟩
                    rw [hz] at hcs hta
                    have hcy := HY.out.b8 x (by rw [ovr_length]; exact hx16)
                    have hfr := HY.out.froz x (by rw [bcells_length, ovr_length]; exact hx16)
                    rw [Nat.zero_add] at hcy hfr
                    have HTA : Hid (z = txtF (lasL gback 3 2 1 t) x) := hta.symm
                    have HXP := Lib.hid hxp
                    clear hq hr he hm hm4 hx htx hta hv hz hS0 hS1 hS2 hS3 hvb hxp hpq
                    go_wp2_with fail
                    go_still_tail 19, (by kernel_rfl)
                    change wpList _ _ _ _ _ wr.drew
                    go_wp2_with fail
                    go_roundw
                    case rel =>
                      refine ⟨k + 1, by omega, by go_num, HX.out.drew.other _ _ _ (.inl (by omega)), ?_, hbl.drew.setCell (p := ⟨gy, x, none⟩) (by simp only; omega) _⟩
                      have h := HY.out.drew.b8set x z
                      rw [HTA.out, ovr_set _ _ _ _ (fun i => decide (pin i < k + 1)) x (by
                        intro i hi
                        have hp := pos_pin ⟨i, hi⟩ ⟨k, hlk⟩
                        simp only at hp
                        have hxp := HXP.out
                        rw [Bool.eq_iff_iff]
                        simp only [Bool.or_eq_true, decide_eq_true_eq, beq_iff_eq]
                        rw [hxp, ← hp]
                        omega), Nat.zero_add, ← HTA.out] at h
                      exact h
                    case measure => simp [intOf]; omega
                  · have hkn : k = 16 := by omega
                    subst hkn
                    have hY := HY.out
                    rw [ovr_fill _ _ _ _ (by
                      intro i hi hp
                      have := pin_lt ⟨i, hi⟩
                      rw [decide_eq_false_iff_not] at hp
                      exact absurd this hp)] at hY
                    have hY' : At wr gy 0 (bcells (txtL (lasL gback 3 2 1 t))) := hY
                    obtain ⟨hst9, hA9, hbs9, hsz9⟩ := st16 HX.out (txtL_length _) (txtL_length (lasL gback 3 2 1 t))
                    have hwl : (bcells (txtL (lasL gback 3 2 1 t))).length = 16 := by rw [bcells_length, txtL_length]
                    have hbl9 := hbl.trans hbs9
                    have HA9 := Lib.hid hA9
                    have hji : (jj : Int) - 1 = (j' : Int) := by have := HJ.out; omega
                    clear hA9 hY hbs9 hsz9 hbl HY HX
                    generalize hw10 : wr.setCells w.heap.size 0 (bcells (txtL (lasL gback 3 2 1 t))) = w10 at hst9 HA9 hbl9
                    clear hw10
                    go_wp2_with (refine wpList_load_at 85 (.tmp 10) gy 0 (bcells (txtL (lasL gback 3 2 1 t))) _ hY' Try.underlying85 rfl (blen16 _ (txtL_length _)) ⟨rfl, rfl, rfl⟩ ?_)
                    go_roundw
                    case rel => exact ⟨j', _, by have := HJ.out; omega, by try go_num, lasL_length _ _ _ _ _, HST.out, HA9.out, hbl9⟩
                    case measure => have := HJ.out; simp [intOf]; omega
        · have hj0 : j = 0 := by omega
          subst hj0
          have hrun := HR.out
          rw [rdecN] at hrun
          have hend : txtL (addL s (expW K) 0) = decL K b.toList := by
            obtain ⟨m, rfl⟩ : ∃ m, M = m + 1 := ⟨M - 1, by omega⟩
            rw [hrun, decL, decW, rdecN_all, HM.out, show (4 * (m + 1) + 4) / 4 - 2 = m by omega, show 4 * (m + 1) + 4 - 4 = 4 * (m + 1) by omega]
          have HE := Lib.hid hend
          clear hrun hend HR
          rw [show ((0 : Nat) : Int) = (0 : Int) from rfl]
          go_wp2_with (refine wpList_load_at 85 (.tmp 5) w.heap.size 0 (bcells (txtL s)) _ hA Try.underlying85 rfl (blen16 _ (txtL_length _)) ⟨rfl, rfl, rfl⟩ ?_)
          refine (radd_any s 0 _ g K (HB.out.below hbl (Nat.le_refl _)) HS.out (by rw [HM.out]; omega) (by rw [HM.out]; omega)).mono ?_
          rintro e w7 ⟨rfl, hb7⟩
          rw [Nat.mul_zero, HE.out]
          have hdl : (decL K b.toList).length = 16 := decL_length _ _
          obtain ⟨hst7, hA7, hbs7, hsz7⟩ := st16 (hA.below hb7 (by omega)) (txtL_length _) hdl
          have hwl : (bcells (decL K b.toList)).length = 16 := by rw [bcells_length, hdl]
          have hbl7 := (hbl.trans (hb7.mono hbl.size)).trans hbs7
          have hcv := convert_at (P := Try.prog) (cap := 16) hA7 52 9 5 16 hdl Try.underlying52 Try.underlying5 Try.underlying9
          clear hA7 hbs7 hsz7 hdl hA hb7 hbl
          go_wp2_with fail
          go_ret
          exact ⟨_, rfl, tl_mk _, hbl7⟩
end Go.Proofs.Ytigegblpledogaa
