/- The contract of the document's Encrypt. -/
import Derived.Test.YtjlmmlnldjandaaGreatDoorAesBx
import Derived.Test.YtjlmmlnldjandaaGreatDoorAesBc
namespace Go.Proofs.YtjlmmlnldjandaaGreatDoor
open Go.RowKit
set_option linter.unusedVariables false
set_option linter.unusedSimpArgs false
def rencN (W : List UInt32) (M : Nat) : Nat → Nat → List UInt32 → List UInt32
  | 0, _, s => s
  | n + 1, j, s => rencN W M n (j + 1) (addL (if j < M then colL 2 3 1 1 (lasL gsub 1 2 3 s) else lasL gsub 1 2 3 s) W (4 * j))
theorem rencN_enc (W : List UInt32) (M : Nat) : ∀ (n j : Nat) (s : List UInt32), j + n = M → rencN W M (n + 1) j s = addL (lasL gsub 1 2 3 (encN W n j s)) W (4 * M)
  | 0, j, s, h => by
    have : j = M := by omega
    subst this
    rw [rencN, rencN, encN, if_neg (Nat.lt_irrefl j)]
  | n + 1, j, s, h => by
    rw [rencN, if_pos (by omega), ← rouL_col, rencN_enc W M n (j + 1) _ (by omega), encN]
theorem las_byte (f : UInt8 → UInt8) (S : List UInt32) (i r : Nat) (hr : r < 4) (hi : i < 4) : rw_ (lasF f 1 2 3 S i) r = f (rw_ (S.getD ((i + r) % 4) 0) r) := by
  match r, hr with
  | 0, _ => rw [lasF, rw_wd0, Nat.add_zero, Nat.mod_eq_of_lt hi]
  | 1, _ => rw [lasF, rw_wd1]
  | 2, _ => rw [lasF, rw_wd2]
  | 3, _ => rw [lasF, rw_wd3]
theorem txt_las (f : UInt8 → UInt8) (S : List UInt32) (k : Nat) (hk : k < 16) : txtF (lasL f 1 2 3 S) k = f (rw_ (S.getD ((k / 4 + k % 4) % 4) 0) (k % 4)) := by
  have h4 : k / 4 < 4 := by omega
  rw [txtF, ← las_byte f S (k / 4) (k % 4) (by omega) h4]
  congr 1
  simp [lasL, List.getD, h4]
/-- the first c columns mixed -/
def mxP (T : List UInt32) (c : Nat) : List UInt32 := mixP 4 (fun i => colG 2 3 1 1 (T.getD i 0)) (fun i => T.getD i 0) c
theorem mxP_zero (T : List UInt32) (h : T.length = 4) : mxP T 0 = T := by rw [mxP, mixP_zero, map_getD _ _ _ h]
theorem mxP_four (T : List UInt32) (h : T.length = 4) : mxP T 4 = colL 2 3 1 1 T := by
  rw [mxP, mixP_full]
  obtain ⟨a, b, c, d, rfl⟩ := four T h
  rfl
theorem mxP_step (T : List UInt32) (c : Nat) (hc : c < 4) : (mxP T c).set c (colG 2 3 1 1 ((mxP T c).getD c 0)) = mxP T (c + 1) := by
  rw [mxP, mixP_at _ _ _ _ _ _ hc, if_neg (Nat.lt_irrefl c)]
  exact mixP_set 4 (fun i => colG 2 3 1 1 (T.getD i 0)) (fun i => T.getD i 0) c
theorem mxP_length (T : List UInt32) (c : Nat) : (mxP T c).length = 4 := by rw [mxP, mixP_length]
theorem col_mix (S : List UInt32) (c : Nat) (w : World) (hS : S.length = 4) (hc : c < 4) :
    Calls Tryz.prog 61 #[.agg (bcells (txtL S)).toArray, .int .i64 (c : Int), .agg #[.int .u8 2, .int .u8 3, .int .u8 1, .int .u8 1]] w (RetA8 (txtL (S.set c (colG 2 3 1 1 (S.getD c 0)))) w) := column_any S c 2 3 1 1 w hS hc
theorem one_by (w : World) : ∃ w0, w.alloc zb = w0 ∧ At w0 w.heap.size 0 (bcells (List.replicate 16 0)) ∧ Below w.heap.size w w0 ∧ w0.heap.size = w.heap.size + 1 := by
  refine ⟨_, rfl, ?_, (Below.refl _ _).alloc (Nat.le_refl _) _, by simp⟩
  exact At.ofAlloc w #[Value.int .u8 0, Value.int .u8 0, Value.int .u8 0, Value.int .u8 0, Value.int .u8 0, Value.int .u8 0, Value.int .u8 0, Value.int .u8 0, Value.int .u8 0, Value.int .u8 0, Value.int .u8 0, Value.int .u8 0, Value.int .u8 0, Value.int .u8 0, Value.int .u8 0, Value.int .u8 0] 84
theorem mixP_key (B : List UInt8) (h : B.length = 16) : mixP 16 (at0 B) (fun _ => (0 : UInt8)) 16 = txtL (keyL B 4) := by
  rw [mixP_full, txt_key B h]
  exact map_getD B 0 16 h
theorem st16 {w : World} {g : Nat} {old new : List UInt8} (h : At w g 0 (bcells old)) (ho : old.length = 16) (hn : new.length = 16) :
    (storeCells ⟨g, 0, none⟩ (bcells new)).run Tryz.prog w = .ok () (w.setCells g 0 (bcells new)) ∧ At (w.setCells g 0 (bcells new)) g 0 (bcells new) ∧ Below g w (w.setCells g 0 (bcells new)) ∧ (w.setCells g 0 (bcells new)).heap.size = w.heap.size :=
  ⟨run_store_at (P := Tryz.prog) h (by rw [bcells_length, bcells_length, ho, hn]) (bcells_one _), h.ofSets (by rw [bcells_length, bcells_length, ho, hn]), below_sets _ _ (Nat.le_refl _) _ _ _ _ (Below.refl _ _), size_sets _ _ _ _⟩
set_option maxRecDepth 100000 in
set_option maxHeartbeats 6400000 in
theorem rencrypt_any (b : ByteArray) (w : World) (g : Nat) (K : List UInt8) (hB : Box w g K) (hK : K.length = 16 ∨ K.length = 24 ∨ K.length = 32) (hb : b.size = 16) :
    Calls Tryz.prog 36 #[.pointer (some ⟨g, 0, none⟩), .string b] w (RetS (encL K b.toList) w) := by
  obtain ⟨M, hM, hM1, hM2⟩ := wlen hK
  have HB := Lib.hid hB
  have HM := Lib.hid hM
  have Hb := Lib.hid hb
  have hg := hB.lt
  clear hB hM hb
  go_enter Tryz.func36, Tryz.ntmps36
  go_wp2_with fail
  obtain ⟨w0, hw0, hA0, hb0, hs0⟩ := one_by w
  rw [hw0]
  clear hw0 hs0
  have hA0' : At w0 w.heap.size 0 (bcells (mixP 16 (at0 b.toList) (fun _ => 0) 0)) := hA0
  clear hA0
  go_loopw [6] (fun i wr => ∃ k : Nat, k ≤ 16 ∧ i = .int .i64 k ∧ At wr w.heap.size 0 (bcells (mixP 16 (at0 b.toList) (fun _ => 0) k)) ∧ Below w.heap.size w wr) (fun i _ => 16 - (intOf i).toNat)
  case atStart => exact ⟨0, Nat.zero_le _, rfl, hA0', hb0⟩
  case round =>
    clear hA0' hb0
    obtain ⟨k, hk, rfl, hA0, hb0⟩ := hrel
    have H0 := Lib.hid hA0
    clear hA0
    by_cases hlt : k < 16
    · have hkI : (k : Int) < 16 := by omega
      have hkb : k < b.size := by have := Hb.out; omega
      have hc0 := H0.out.b8 k (by rw [mixP_length]; exact hlt)
      have hfr := H0.out.froz k (by rw [bcells_length, mixP_length]; exact hlt)
      rw [Nat.zero_add] at hc0 hfr
      go_wp2_with fail
      go_roundw
      case rel =>
        refine ⟨k + 1, by omega, by go_num, ?_, hb0.setCell (p := ⟨w.heap.size, k, none⟩) (Nat.le_refl _) _⟩
        have h := H0.out.b8set k (at0 b.toList k)
        rw [mixP_set, Nat.zero_add, at0_tl _ _ hkb] at h
        exact h
      case measure => simp [intOf]; omega
    · have hkn : k = 16 := by omega
      subst hkn
      have hA1 := H0.out
      rw [mixP_key _ (by rw [tl_size]; exact Hb.out)] at hA1
      clear H0 hlt hk
      go_wp2_with (refine wpList_load_at 84 (.tmp 5) w.heap.size 0 (bcells (txtL (keyL b.toList 4))) _ hA1 Tryz.underlying84 rfl (blen16 _ (txtL_length _)) ⟨rfl, rfl, rfl⟩ ?_)
      refine (radd_any (keyL b.toList 4) 0 wr g K (HB.out.below hb0 (Nat.le_refl _)) (keyL_length _ _) (by rw [HM.out]; omega) (by rw [HM.out]; omega)).mono ?_
      rintro e w3 ⟨rfl, hb3⟩
      have hsz0 := hA1.lt (by intro h; have := congrArg List.length h; rw [bcells_length, txtL_length] at this; simp at this)
      have hA3 := hA1.below hb3 hsz0
      obtain ⟨hst3, hA4, hbs, hsz⟩ := st16 hA3 (txtL_length _) (txtL_length (addL (keyL b.toList 4) (expW K) 0))
      have hb4 := (hb0.trans (hb3.mono hb0.size)).trans hbs
      have hwl : (bcells (txtL (addL (keyL b.toList 4) (expW K) 0))).length = 16 := by rw [bcells_length, txtL_length]
      have hs4 : w.heap.size < (w3.setCells w.heap.size 0 (bcells (txtL (addL (keyL b.toList 4) (expW K) 0)))).heap.size := by rw [hsz]; have := hb3.size; omega
      generalize hw4 : w3.setCells w.heap.size 0 (bcells (txtL (addL (keyL b.toList 4) (expW K) 0))) = w4 at hst3 hA4 hb4 hs4
      obtain ⟨gw, cap, hcw, hW⟩ := (HB.out.below hb4 (Nat.le_refl _)).word
      obtain ⟨N1, hN1⟩ : ∃ N1 : Nat, N1 = M + 1 := ⟨_, rfl⟩
      have hdv : (((expW K).length : Nat) : Int) / 4 = (N1 : Int) := by rw [HM.out]; omega
      have hsb : (N1 : Int) - 1 = (M : Int) := by omega
      have HA4 := Lib.hid hA4
      clear hw4 hA1 hA3 hA4 hbs hsz hb3 hb0 hsz0 hN1 hW
      rw [Nat.mul_zero]
      go_wp2_with fail
      clear hst3 hcw hdv hsb hwl
      go_loopw [8] (fun i wr => ∃ j : Nat, ∃ s : List UInt32, 1 ≤ j ∧ j ≤ M + 1 ∧ i = .int .i64 j ∧ s.length = 4 ∧ rencN (expW K) M (M + 1 - j) j s = rencN (expW K) M M 1 (addL (keyL b.toList 4) (expW K) 0) ∧ At wr w.heap.size 0 (bcells (txtL s)) ∧ Below w.heap.size w wr) (fun i _ => M + 1 - (intOf i).toNat)
      case atStart => exact ⟨1, _, Nat.le_refl _, by omega, rfl, addL_length _ _ _, by rw [Nat.add_sub_cancel], HA4.out, hb4⟩
      case round =>
        clear HA4 hb4 hs4
        obtain ⟨j, s, hj1, hjM, rfl, hs, hrun, hA, hbl⟩ := hrel
        have HA := Lib.hid hA
        have HR := Lib.hid hrun
        have HS := Lib.hid hs
        have hsz := hA.lt (by intro h; have := congrArg List.length h; rw [bcells_length, txtL_length] at this; simp at this)
        clear hA hrun hs
        by_cases hlt : j ≤ M
        · have hjI : (j : Int) ≤ (M : Int) := by omega
          go_wp2_with fail
          obtain ⟨w5, hw5, hY, hb5, hs5⟩ := one_by wr
          rw [hw5]
          have HX5 := Lib.hid (HA.out.below hb5 hsz)
          have hbl5 := hbl.trans (hb5.mono hbl.size)
          obtain ⟨gy, hgy⟩ : ∃ gy, wr.heap.size = gy := ⟨_, rfl⟩
          rw [hgy] at hY hsz ⊢
          have hY' : At w5 gy 0 (bcells (mixP 16 (txtF (lasL gsub 1 2 3 s)) (fun _ => 0) 0)) := hY
          have HY5 := Lib.hid hY'
          clear hw5 hY hY' HA hbl hb5 hs5 hgy
          go_loopw [10] (fun i wr => ∃ k : Nat, k ≤ 16 ∧ i = .int .i64 k ∧ At wr w.heap.size 0 (bcells (txtL s)) ∧ At wr gy 0 (bcells (mixP 16 (txtF (lasL gsub 1 2 3 s)) (fun _ => 0) k)) ∧ Below w.heap.size w wr) (fun i _ => 16 - (intOf i).toNat)
          case atStart => exact ⟨0, Nat.zero_le _, rfl, HX5.out, HY5.out, hbl5⟩
          case round =>
            clear HX5 HY5 hbl5
            obtain ⟨k, hk, rfl, hX, hY, hbl⟩ := hrel
            have HX := Lib.hid hX
            have HY := Lib.hid hY
            clear hX hY
            by_cases hlk : k < 16
            · obtain ⟨q, hq⟩ : ∃ q : Nat, q = k / 4 := ⟨_, rfl⟩
              obtain ⟨r, hr⟩ : ∃ r : Nat, r = k % 4 := ⟨_, rfl⟩
              obtain ⟨e, he⟩ : ∃ e : Nat, e = q + r := ⟨_, rfl⟩
              obtain ⟨m, hm⟩ : ∃ m : Nat, m = e % 4 := ⟨_, rfl⟩
              obtain ⟨m4, hm4⟩ : ∃ m4 : Nat, m4 = 4 * m := ⟨_, rfl⟩
              obtain ⟨x, hx⟩ : ∃ x : Nat, x = m4 + r := ⟨_, rfl⟩
              have hr4 : r < 4 := by omega
              have hm3 : m < 4 := by omega
              have hx16 : x < 16 := by omega
              have hkI : (k : Int) < 16 := by omega
              have hxI : (x : Int) < 16 := by omega
              have hw1 : (k : Int).tdiv 4 = (q : Int) := tdiv_nat k 4 q hq
              have hw2 : IntKind.i64.wrap (q : Int) = (q : Int) := wrap_in _ (by omega) (by omega)
              have hw3 : (k : Int).tmod 4 = (r : Int) := tmod_nat k 4 r hr
              have hw4 : IntKind.i64.wrap ((q : Int) + (r : Int)) = (e : Int) := by rw [wrap_in _ (by omega) (by omega)]; omega
              have hw5 : (e : Int).tmod 4 = (m : Int) := tmod_nat e 4 m hm
              have hw6 : IntKind.i64.wrap (4 * (m : Int)) = (m4 : Int) := by rw [wrap_in _ (by omega) (by omega)]; omega
              have hw7 : IntKind.i64.wrap ((m4 : Int) + (r : Int)) = (x : Int) := by rw [wrap_in _ (by omega) (by omega)]; omega
              have hcx := HX.out.b8 x (by rw [txtL_length]; exact hx16)
              have htx : (txtL s).getD x 0 = rw_ (s.getD m 0) r := by
                rw [show (txtL s).getD x 0 = txtF s x by simp [txtL, List.getD, hx16], txtF, show x / 4 = m by omega, show x % 4 = r by omega]
              have hta := txt_las gsub s k hlk
              rw [← hq, ← hr, ← he, ← hm] at hta
              obtain ⟨v, hv⟩ : ∃ v, rw_ (s.getD m 0) r = v := ⟨_, rfl⟩
              rw [htx, hv, Nat.zero_add] at hcx
              rw [hv] at hta
              have hvb := v.toNat_lt
              have hvI : (v.toNat : Int) < 256 := by omega
              obtain ⟨gw2, cap2, hS0, hS1, hS2, hS3⟩ := HB.out.below hbl (Nat.le_refl _)
              have hcs := hS0.b8 v.toNat (by rw [sboxL_length]; exact hvb)
              rw [sboxL_get, Nat.zero_add] at hcs
              obtain ⟨u, hu⟩ : ∃ u, gsub v = u := ⟨_, rfl⟩
              rw [hu] at hcs hta
              have hcy := HY.out.b8 k (by rw [mixP_length]; exact hlk)
              have hfr := HY.out.froz k (by rw [bcells_length, mixP_length]; exact hlk)
              rw [Nat.zero_add] at hcy hfr
              have HT := Lib.hid hta
              clear hq hr he hm hm4 hx htx hta hv hu hS0 hS1 hS2 hS3 hvb
              go_wp2_with fail
              go_still_tail 19, (by kernel_rfl)
              change wpList _ _ _ _ _ wr.drew
              go_wp2_with fail
              go_roundw
              case rel =>
                refine ⟨k + 1, by omega, by go_num, HX.out.drew.other _ _ _ (.inl (by omega)), ?_, hbl.drew.setCell (p := ⟨gy, k, none⟩) (Nat.le_of_lt hsz) _⟩
                have h := HY.out.drew.b8set k u
                rw [← HT.out, mixP_set, HT.out, Nat.zero_add] at h
                exact h
              case measure => simp [intOf]; omega
            · have hkn : k = 16 := by omega
              subst hkn
              have hY := HY.out
              rw [mixP_full, show (List.range 16).map (txtF (lasL gsub 1 2 3 s)) = txtL (mxP (lasL gsub 1 2 3 s) 0) by rw [mxP_zero _ (lasL_length _ _ _ _ _)]; rfl] at hY
              have HY6 := Lib.hid hY
              have HX6 := HX
              have hbl6 := hbl
              clear hY HY HX hbl hlk hk
              obtain ⟨cN, hcN⟩ : ∃ cN, cN = if j < M then 4 else 0 := ⟨_, rfl⟩
              have HcN := Lib.hid hcN
              have hc4 : cN ≤ 4 := by rw [hcN]; split <;> omega
              clear hcN
              rw [show ((16 : Nat) : Int) = (16 : Int) from rfl]
              go_wp2_with fail
              go_loopw [11] (fun i wr => ∃ c : Nat, c ≤ cN ∧ i = .int .i64 c ∧ At wr w.heap.size 0 (bcells (txtL s)) ∧ At wr gy 0 (bcells (txtL (mxP (lasL gsub 1 2 3 s) c))) ∧ Below w.heap.size w wr) (fun i _ => 4 - (intOf i).toNat)
              case atStart => exact ⟨0, Nat.zero_le _, rfl, HX6.out, HY6.out, hbl6⟩
              case round =>
                clear HX6 HY6 hbl6
                obtain ⟨c, hc, rfl, hX, hY, hbl⟩ := hrel
                have HX := Lib.hid hX
                have HT := Lib.hid (mxP_length (lasL gsub 1 2 3 s) c)
                have hszy := hY.lt (by intro h; have := congrArg List.length h; rw [bcells_length, txtL_length] at this; simp at this)
                clear hX
                by_cases hcl : c < cN
                · have hcI : (c : Int) < 4 := by omega
                  have hjl : (j : Int) < (M : Int) := by
                    have h := HcN.out
                    by_cases hj : j < M
                    · omega
                    · rw [if_neg hj] at h; omega
                  go_wp2_with (refine wpList_load_at 84 (.tmp 9) gy 0 (bcells (txtL (mxP (lasL gsub 1 2 3 s) c))) _ hY Tryz.underlying84 rfl (blen16 _ (txtL_length _)) ⟨rfl, rfl, rfl⟩ ?_)
                  refine (col_mix (mxP (lasL gsub 1 2 3 s) c) c _ HT.out (by omega)).mono ?_
                  rintro e w7 ⟨rfl, hb7⟩
                  rw [mxP_step _ _ (show c < 4 by omega)]
                  obtain ⟨hst7, hA7, hbs7, hsz7⟩ := st16 (hY.below hb7 hszy) (txtL_length _) (txtL_length (mxP (lasL gsub 1 2 3 s) (c + 1)))
                  have hwl : (bcells (txtL (mxP (lasL gsub 1 2 3 s) (c + 1)))).length = 16 := by rw [bcells_length, txtL_length]
                  have hX7 := (HX.out.below hb7 (by omega)).below hbs7 hsz
                  have hbl7 := (hbl.trans (hb7.mono hbl.size)).trans (hbs7.mono (Nat.le_of_lt hsz))
                  have HX7 := Lib.hid hX7
                  have HA7 := Lib.hid hA7
                  clear hX7 hA7 hY HX hbs7 hsz7 hb7 hbl
                  go_wp2_with fail
                  go_roundw
                  case rel => exact ⟨c + 1, by omega, by go_num, HX7.out, HA7.out, hbl7⟩
                  case measure => simp [intOf]; omega
                · have hcE : c = cN := by omega
                  have hfin : mxP (lasL gsub 1 2 3 s) c = if j < M then colL 2 3 1 1 (lasL gsub 1 2 3 s) else lasL gsub 1 2 3 s := by
                    have h := HcN.out
                    rw [hcE]
                    by_cases hj : j < M
                    · rw [if_pos hj] at h ⊢
                      rw [h, mxP_four _ (lasL_length _ _ _ _ _)]
                    · rw [if_neg hj] at h ⊢
                      rw [h, mxP_zero _ (lasL_length _ _ _ _ _)]
                  obtain ⟨t, ht⟩ : ∃ t, mxP (lasL gsub 1 2 3 s) c = t := ⟨_, rfl⟩
                  rw [ht] at hY hfin HT
                  have HF := Lib.hid hfin
                  clear ht hfin
                  have hstep : rencN (expW K) M (M + 1 - (j + 1)) (j + 1) (addL t (expW K) (4 * j)) = rencN (expW K) M M 1 (addL (keyL b.toList 4) (expW K) 0) := by
                    rw [← HR.out, show M + 1 - j = (M + 1 - (j + 1)) + 1 by omega, rencN, HF.out]
                  have HST := Lib.hid hstep
                  clear hstep
                  have hcc : (¬ (c : Int) < 4) ∨ ((c : Int) < 4 ∧ ¬ (j : Int) < (M : Int)) := by
                    have h := HcN.out
                    by_cases hj : j < M
                    · rw [if_pos hj] at h; left; omega
                    · right; rw [if_neg hj] at h; omega
                  clear hcE
                  rcases hcc with hcI | ⟨hcI, hjl⟩
                  all_goals
                    go_wp2_with (refine wpList_load_at 84 (.tmp 9) gy 0 (bcells (txtL t)) _ hY Tryz.underlying84 rfl (blen16 _ (txtL_length _)) ⟨rfl, rfl, rfl⟩ ?_)
                    refine (radd_any t j _ g K (HB.out.below hbl (Nat.le_refl _)) HT.out (by rw [HM.out]; omega) (by rw [HM.out]; omega)).mono ?_
                    rintro e w7 ⟨rfl, hb7⟩
                    obtain ⟨hst7, hA7, hbs7, hsz7⟩ := st16 (HX.out.below hb7 (by omega)) (txtL_length _) (txtL_length (addL t (expW K) (4 * j)))
                    have hwl : (bcells (txtL (addL t (expW K) (4 * j)))).length = 16 := by rw [bcells_length, txtL_length]
                    have hbl7 := (hbl.trans (hb7.mono hbl.size)).trans hbs7
                    have HA7 := Lib.hid hA7
                    clear hA7 hY HX hbs7 hsz7 hb7 hbl
                    go_wp2_with fail
                    go_roundw
                    case rel => exact ⟨j + 1, _, by omega, by omega, by go_num, addL_length _ _ _, HST.out, HA7.out, hbl7⟩
                    case measure => simp [intOf]; omega
        · have hjE : j = M + 1 := by omega
          have hjI : ¬ (j : Int) ≤ (M : Int) := by omega
          have h1 := HA.out
          have hrun := HR.out
          rw [hjE, Nat.sub_self, rencN] at hrun
          have hM' : M = (M - 1) + 1 := by omega
          have hend : txtL s = encL K b.toList := by
            have hre := rencN_enc (expW K) M (M - 1) 1 (addL (keyL b.toList 4) (expW K) 0) (by omega)
            rw [← hM'] at hre
            rw [hrun, encL, encW, hre, HM.out, show (4 * M + 4) / 4 - 2 = M - 1 by omega, show 4 * M + 4 - 4 = 4 * M by omega]
          have HE := Lib.hid hend
          have hcv := convert_at (P := Tryz.prog) (cap := 16) h1 54 9 5 16 (txtL_length _) Tryz.underlying54 Tryz.underlying5 Tryz.underlying9
          clear hrun hM' hend h1 HA HR
          go_wp2_with fail
          go_ret
          exact ⟨_, rfl, by rw [tl_mk, HE.out], hbl⟩
end Go.Proofs.YtjlmmlnldjandaaGreatDoor
