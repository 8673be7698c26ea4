/- The program's block of words of 64 bits. -/
import Derived.Test.YtjlmmlnldjandaaGreatDoorShL
namespace Go.Proofs.YtjlmmlnldjandaaGreatDoor
open Go.RowKit
set_option linter.unusedVariables false
set_option linter.unusedSimpArgs false
set_option maxRecDepth 100000 in
set_option maxHeartbeats 64000000 in
theorem block64_any (w : World) (g : Nat) (kind : Int) (H : List Nat) (R : List UInt8) (n : Nat) (hm : HM w g kind H R n) (hH : ∀ x ∈ H, x < 2 ^ 64) (hT : Tb w) (hg : 2 < g) :
    Calls Tryz.prog 144 #[.pointer (some ⟨g, 0, none⟩)] w (RetHB g kind (Sh.comp 64 (Sh.kL 64) H (Sh.wordsOf 64 (R.take 128))) R n w) := by
  obtain ⟨M, hM⟩ : ∃ M, Sh.wordsOf 64 (R.take 128) = M := ⟨_, rfl⟩
  have hMl : M.length = 16 := by rw [← hM]; exact wordsOf_length _ _
  have hMt : ∀ x ∈ M, x < 2 ^ 64 := by rw [← hM]; exact wordsOf_lt 64 (by decide) _
  rw [hM]
  have HM0 := Lib.hid hm
  have HHT := Lib.hid hH
  have HTB := Lib.hid hT
  have HMW := Lib.hid hM
  have HML := Lib.hid hMl
  have HMT := Lib.hid hMt
  have hgl := hm.lt
  clear hm hH hT hM hMl hMt
  go_enter Tryz.func144, Tryz.ntmps144
  go_upto_region 1 with (refine wpList_alloc_at 193 (.agg (ucells (List.replicate 80 0)).toArray) 80 (by kernel_rfl) ⟨rfl, rfl⟩ ?_; intro w0 hA0 hb0 hs0)
  have hP0 : Pk w w0 g w.heap.size kind H R n (ucells (Zr 80 (Wl 64 M 0))) := ⟨HM0.out.below hb0 hgl, hA0, HTB.out.below hb0 HTB.out.2.2, Chg.ofBelow hb0, by omega, hg, Nat.le_refl _⟩
  obtain ⟨gw, hgw⟩ : ∃ x, w.heap.size = x := ⟨_, rfl⟩
  rw [hgw] at hP0 hA0 hgl ⊢
  have hgw1 : 2 < gw := by omega
  have HGW := Lib.hid hgw
  have HP0 := Lib.hid hP0
  clear hA0 hb0 hs0 hgw hP0
  go_wp2_with fail
  go_loopw [26] (fun iv wr => ∃ i : Nat, i ≤ 16 ∧ iv = .int .i64 (i : Int) ∧ Pk w wr g gw kind H R n (ucells (Zr 80 (Wl 64 M i)))) (fun iv _ => 16 - (intOf iv).toNat)
  case atStart => exact ⟨0, by omega, rfl, HP0.out⟩
  case round =>
    clear HP0
    obtain ⟨i, hi16, rfl, hP⟩ := hrel
    have hWl := Wl_length 64 M HML.out i
    by_cases hlt : i < 16
    · have hltI : (i : Int) < 16 := by omega
      have hZ0 := Zr_zero 80 (Wl 64 M i) (by omega)
      rw [hWl] at hZ0
      rw [← hZ0] at hP
      have HP := Lib.hid hP
      have HWL := Lib.hid hWl
      have HZ0 := Lib.hid hZ0
      clear hP hWl hZ0
      go_wp2_with fail
      go_loopw [29] (fun kv wr => ∃ k x : Nat, k ≤ 8 ∧ kv = .int .i64 (k : Int) ∧ x = ofBe ((((R.take 128).drop (8 * i)).take 8).take k) ∧ Pk w wr g gw kind H R n (ucells ((Zr 80 (Wl 64 M i)).set i x))) (fun kv _ => 8 - (intOf kv).toNat)
      case atStart => exact ⟨0, 0, by omega, rfl, rfl, HP.out⟩
      case round =>
        clear HP
        obtain ⟨k, x, hk8, rfl, hx, hP⟩ := hrel
        have hZl : i < (Zr 80 (Wl 64 M i)).length := by rw [Zr_length _ _ (by rw [HWL.out]; omega)]; omega
        by_cases hkl : k < 8
        · obtain ⟨q, hq⟩ : ∃ q, 8 * i + k = q := ⟨_, rfl⟩
          obtain ⟨p, hp⟩ : ∃ p, 8 * i = p := ⟨_, rfl⟩
          have hR : (R.take 128) = R := List.take_of_length_le (by rw [hP.hm.rl]; decide)
          have hst := word_stepL (R.take 128) (8 * i) 8 k hkl (by rw [List.length_take, hP.hm.rl]; omega)
          have hx7 := ofBe_lt7 (((R.take 128).drop (8 * i)).take 8) k (by omega)
          rw [← hx] at hst hx7
          rw [hq, hR] at hst
          have cr := hP.row.u i (by rw [List.length_set]; exact hZl)
          rw [set_at _ _ _ hZl, Nat.zero_add] at cr
          have cb := hP.hm.rs.b8 q (by rw [hP.hm.rl]; omega)
          obtain ⟨u, hu⟩ : ∃ u, R.getD q 0 = u := ⟨_, rfl⟩
          rw [hu] at cb hst
          have hub := u.toNat_lt
          have hor := or_join x u (by omega)
          obtain ⟨y, hy⟩ : ∃ y, x * 256 + u.toNat = y := ⟨_, rfl⟩
          rw [hy] at hor hst
          obtain ⟨x2, hx2⟩ : ∃ z, x * 256 = z := ⟨_, rfl⟩
          rw [show (x : Int) * 256 = (x2 : Int) by omega] at hor
          have e1 : IntKind.u64.wrap ((x : Int) * 256) = (x2 : Int) := by rw [show (x : Int) * 256 = (x2 : Int) by omega]; exact u64_fit _ (by omega)
          have e2 : IntKind.u64.wrap (u.toNat : Int) = (u.toNat : Int) := u64_fit _ (by omega)
          have e3 : (8 : Int) * (i : Int) = (p : Int) := by omega
          have e4 : IntKind.i64.wrap (p : Int) = (p : Int) := i64_fit _ (by omega)
          have e5 : (p : Int) + (k : Int) = (q : Int) := by omega
          have e6 : IntKind.i64.wrap (q : Int) = (q : Int) := i64_fit _ (by omega)
          have e7 : (q : Int) < 128 := by omega
          have e8 : (0 : Int) ≤ (q : Int) := by omega
          have e9 : (i : Int) < 80 := by omega
          have hklI : (k : Int) < 8 := by omega
          obtain ⟨cr1, cr2⟩ := cr
          have HX : Hid (y = ofBe ((((R.take 128).drop (8 * i)).take 8).take (k + 1))) := by show _ = _; rw [hR, hst]
          have HP := Lib.hid hP
          clear hP hst hx7 hx hu hub hy hx2 hq hp hR hZl
          go_wp2_with fail
          go_still_tail 17, (by kernel_rfl)
          change wpList _ _ _ _ _ wr.drew
          go_wp2_with fail
          go_roundw
          case rel =>
            refine ⟨k + 1, y, by omega, by go_num, HX.out, ?_⟩
            have h := HP.out.drew.uput hgw1 i y
            rw [List.set_set] at h
            exact h
          case measure => first | (simp [intOf]; done) | (simp [intOf]; omega)
        · have hk : k = 8 := by omega
          have hxM : x = Sh.g M i := by
            rw [← HMW.out, word_at _ _ _ hlt, hx, List.take_of_length_le (by rw [hk]; exact List.length_take_le _ _)]
          have hZp := Zr_put 80 (Wl 64 M i) x (by rw [HWL.out]; omega)
          rw [HWL.out] at hZp
          rw [hZp, hxM, ← Wl_low 64 M HML.out i hlt] at hP
          have HP := Lib.hid hP
          have hge : ¬ (k : Int) < 8 := by omega
          clear hP hZp hxM hx hk hZl hkl
          go_wp2_with fail
          go_roundw
          case rel => exact ⟨i + 1, by omega, by go_num, HP.out⟩
          case measure => first | (simp [intOf]; done) | (simp [intOf]; omega)
    · have hi : i = 16 := by omega
      have hge : ¬ (i : Int) < 16 := by omega
      have HP : Hid (Pk w wr g gw kind H R n (ucells (Zr 80 (Wl 64 M 16)))) := by rw [← hi]; exact hP
      clear hP hWl hi hlt hi16
      go_wp2_with fail
      go_loopw [5] (fun iv wr => ∃ i : Nat, 16 ≤ i ∧ i ≤ 80 ∧ iv = .int .i64 (i : Int) ∧ Pk w wr g gw kind H R n (ucells (Zr 80 (Wl 64 M i)))) (fun iv _ => 80 - (intOf iv).toNat)
      case atStart => exact ⟨16, by omega, by omega, rfl, HP.out⟩
      case round =>
        clear HP
        obtain ⟨i, hi16, hi80, rfl, hP⟩ := hrel
        have hWl := Wl_length 64 M HML.out i
        by_cases hlt : i < 80
        · have hltI : (i : Int) < 80 := by omega
          obtain ⟨m, hn⟩ : ∃ m, m + 16 = i := ⟨i - 16, by omega⟩
          have hWt := Wl_lt 64 M HMT.out i
          have HW1 := Wl_high 64 M HML.out m
          rw [hn] at HW1
          have hZp := fun u => Zr_put 80 (Wl 64 M i) u (by rw [hWl]; omega)
          obtain ⟨W, hW⟩ : ∃ W, Wl 64 M i = W := ⟨_, rfl⟩
          rw [hW] at hP hWt HW1 hWl hZp
          rw [hWl] at hZp
          have hZl := Zr_length 80 W (by omega)
          have c14 := (hP.row.u (m + 14) (by omega)).1
          have c9 := (hP.row.u (m + 9) (by omega)).1
          have c1 := (hP.row.u (m + 1) (by omega)).1
          have cn := (hP.row.u m (by omega)).1
          have ci := (hP.row.u i (by omega)).2
          have ci0 := (hP.row.u i (by omega)).1
          rw [Zr_get _ _ _ (by omega), Nat.zero_add] at c14 c9 c1 cn
          rw [Nat.zero_add] at ci ci0
          have t14 := g_lt hWt (by decide) (m + 14)
          have t9 := g_lt hWt (by decide) (m + 9)
          have t1 := g_lt hWt (by decide) (m + 1)
          have tn := g_lt hWt (by decide) m
          have hnx : Sh.nxw 64 W m = (Sh.sB 64 3 (Sh.g W (m + 14)) + Sh.g W (m + 9) + Sh.sB 64 0 (Sh.g W (m + 1)) + Sh.g W m) % 2 ^ 64 := rfl
          obtain ⟨x14, hx14⟩ : ∃ x, Sh.g W (m + 14) = x := ⟨_, rfl⟩
          obtain ⟨x9, hx9⟩ : ∃ x, Sh.g W (m + 9) = x := ⟨_, rfl⟩
          obtain ⟨x1, hx1⟩ : ∃ x, Sh.g W (m + 1) = x := ⟨_, rfl⟩
          obtain ⟨x0, hx0⟩ : ∃ x, Sh.g W m = x := ⟨_, rfl⟩
          rw [hx14] at c14 t14 hnx
          rw [hx9] at c9 t9 hnx
          rw [hx1] at c1 t1 hnx
          rw [hx0] at cn tn hnx
          have hrl : ∀ x k, Sh.rotR 64 x k < 18446744073709551616 := fun x k => Nat.mod_lt _ (by decide)
          have hsl : ∀ x k, x < 2 ^ 64 → x >>> k < 18446744073709551616 := fun x k h => by rw [Nat.shiftRight_eq_div_pow]; exact Nat.lt_of_le_of_lt (Nat.div_le_self _ _) h
          have xa := sh_xor (Sh.rotR 64 x1 1) (Sh.rotR 64 x1 8) (hrl _ _) (hrl _ _)
          have xb := sh_xor (Sh.rotR 64 x1 1 ^^^ Sh.rotR 64 x1 8) (x1 >>> 7) (Nat.xor_lt_two_pow (n := 64) (hrl _ _) (hrl _ _)) (hsl _ _ t1)
          have sa := sh_shr x1 7
          have ya := sh_xor (Sh.rotR 64 x14 19) (Sh.rotR 64 x14 61) (hrl _ _) (hrl _ _)
          have yb := sh_xor (Sh.rotR 64 x14 19 ^^^ Sh.rotR 64 x14 61) (x14 >>> 6) (Nat.xor_lt_two_pow (n := 64) (hrl _ _) (hrl _ _)) (hsl _ _ t14)
          have sb := sh_shr x14 6
          rw [show Sh.rotR 64 x1 1 ^^^ Sh.rotR 64 x1 8 ^^^ x1 >>> 7 = Sh.sB 64 0 x1 from rfl] at xb
          rw [show Sh.rotR 64 x14 19 ^^^ Sh.rotR 64 x14 61 ^^^ x14 >>> 6 = Sh.sB 64 3 x14 from rfl] at yb
          rw [show (2 : Int) ^ 7 = 128 by decide] at sa
          rw [show (2 : Int) ^ 6 = 64 by decide] at sb
          have R1 := Lib.hid (rot64_1 x1 t1)
          have R8 := Lib.hid (rot64_8 x1 t1)
          have R19 := Lib.hid (rot64_19 x14 t14)
          have R61 := Lib.hid (rot64_61 x14 t14)
          obtain ⟨a1, ha1⟩ : ∃ a, Sh.rotR 64 x1 1 = a := ⟨_, rfl⟩
          obtain ⟨a8, ha8⟩ : ∃ a, Sh.rotR 64 x1 8 = a := ⟨_, rfl⟩
          obtain ⟨a19, ha19⟩ : ∃ a, Sh.rotR 64 x14 19 = a := ⟨_, rfl⟩
          obtain ⟨a61, ha61⟩ : ∃ a, Sh.rotR 64 x14 61 = a := ⟨_, rfl⟩
          rw [ha1] at xa xb R1
          rw [ha8] at xa xb R8
          rw [ha19] at ya yb R19
          rw [ha61] at ya yb R61
          obtain ⟨b1, hb1⟩ : ∃ a, a1 ^^^ a8 = a := ⟨_, rfl⟩
          obtain ⟨b2, hb2⟩ : ∃ a, a19 ^^^ a61 = a := ⟨_, rfl⟩
          obtain ⟨d1, hd1⟩ : ∃ a, x1 >>> 7 = a := ⟨_, rfl⟩
          obtain ⟨d2, hd2⟩ : ∃ a, x14 >>> 6 = a := ⟨_, rfl⟩
          rw [hb1] at xa xb
          rw [hb2] at ya yb
          rw [hd1] at sa xb
          rw [hd2] at sb yb
          obtain ⟨y0, hy0⟩ : ∃ y, Sh.sB 64 0 x1 = y := ⟨_, rfl⟩
          obtain ⟨y3, hy3⟩ : ∃ y, Sh.sB 64 3 x14 = y := ⟨_, rfl⟩
          rw [hy0] at xb hnx
          rw [hy3] at yb hnx
          obtain ⟨z1, hz1⟩ : ∃ z, (y3 + x9) % 2 ^ 64 = z := ⟨_, rfl⟩
          obtain ⟨z2, hz2⟩ : ∃ z, (z1 + y0) % 2 ^ 64 = z := ⟨_, rfl⟩
          obtain ⟨z3, hz3⟩ : ∃ z, (z2 + x0) % 2 ^ 64 = z := ⟨_, rfl⟩
          have s1 := u64_add y3 x9 z1 hz1
          have s2 := u64_add z1 y0 z2 hz2
          have s3 := u64_add z2 x0 z3 hz3
          have hfin : z3 = Sh.nxw 64 W m := by rw [hnx]; omega
          rw [← hfin] at HW1
          have HZP := Lib.hid (hZp z3)
          obtain ⟨p14, hp14⟩ : ∃ p, m + 14 = p := ⟨_, rfl⟩
          obtain ⟨p9, hp9⟩ : ∃ p, m + 9 = p := ⟨_, rfl⟩
          obtain ⟨p1, hp1⟩ : ∃ p, m + 1 = p := ⟨_, rfl⟩
          rw [hp14] at c14
          rw [hp9] at c9
          rw [hp1] at c1
          have q14 : IntKind.i64.wrap ((i : Int) - 2) = (p14 : Int) := by rw [show (i : Int) - 2 = (p14 : Int) by omega]; exact i64_fit _ (by omega)
          have q9 : IntKind.i64.wrap ((i : Int) - 7) = (p9 : Int) := by rw [show (i : Int) - 7 = (p9 : Int) by omega]; exact i64_fit _ (by omega)
          have q1 : IntKind.i64.wrap ((i : Int) - 15) = (p1 : Int) := by rw [show (i : Int) - 15 = (p1 : Int) by omega]; exact i64_fit _ (by omega)
          have q0 : IntKind.i64.wrap ((i : Int) - 16) = (m : Int) := by rw [show (i : Int) - 16 = (m : Int) by omega]; exact i64_fit _ (by omega)
          have g14 : (p14 : Int) < 80 := by omega
          have g9 : (p9 : Int) < 80 := by omega
          have g1 : (p1 : Int) < 80 := by omega
          have g0 : (m : Int) < 80 := by omega
          have j14 : (0 : Int) ≤ (p14 : Int) := by omega
          have j9 : (0 : Int) ≤ (p9 : Int) := by omega
          have j1 : (0 : Int) ≤ (p1 : Int) := by omega
          have j0 : (0 : Int) ≤ (m : Int) := by omega
          have HWW := Lib.hid hW
          have HW2 := Lib.hid HW1
          have HP := Lib.hid hP
          clear hP hW HW1 hWl hWt t14 t9 t1 tn hnx hx14 hx9 hx1 hx0 hrl hsl ha1 ha8 ha19 ha61 hb1 hb2 hd1 hd2 hy0 hy3 hz1 hz2 hz3 hfin hZp hp14 hp9 hp1 hn hZl
          go_wp2_with fail
          go_quiet (fail)
          have hcs : ∀ o, (wr.drewN nq).cell? ⟨gw, o, none⟩ = wr.cell? ⟨gw, o, none⟩ := fun _ => rfl
          have hfs : ∀ o, (wr.drewN nq).frozen? ⟨gw, o, none⟩ = wr.frozen? ⟨gw, o, none⟩ := fun _ => rfl
          rw [← hcs] at c9 cn ci0
          rw [← hfs] at ci
          have HP2 := Lib.hid (HP.out.drewN nq)
          clear HP hcs hfs c14 c1 q14 q1 g14 g1 j14 j1
          generalize wr.drewN nq = w3 at *
          go_wp2_with fail
          refine (R1.out _).mono ?_
          rintro e w4 ⟨rfl, rfl⟩
          go_wp2_with fail
          refine (R8.out _).mono ?_
          rintro e w4 ⟨rfl, rfl⟩
          go_wp2_with fail
          refine (R19.out _).mono ?_
          rintro e w4 ⟨rfl, rfl⟩
          go_wp2_with fail
          refine (R61.out _).mono ?_
          rintro e w4 ⟨rfl, rfl⟩
          clear R1 R8 R19 R61 xa sa
          go_wp2_with fail
          go_still_tail 15, (by kernel_rfl)
          change wpList _ _ _ _ _ w3.drew
          have HP3 : Hid (Pk w (w3.drew.setCell ⟨gw, i, none⟩ (.int .u64 (z3 : Int))) g gw kind H R n (ucells (Zr 80 (Wl 64 M (i + 1))))) := by
            have h := HP2.out.drew.uput hgw1 i z3
            rw [HZP.out, ← HW2.out] at h
            exact h
          clear HP2 sb xb ya yb s1 s2 s3 q9 q0 g9 g0 j9 j0 cn c9
          go_wp2_with fail
          go_roundw
          case rel => exact ⟨i + 1, by omega, by omega, by go_num, HP3.out⟩
          case measure => first | (simp [intOf]; done) | (simp [intOf]; omega)
        · have hi : i = 80 := by omega
          have hge : ¬ (i : Int) < 80 := by omega
          have hWS : Wl 64 M 80 = Sh.sched 64 M (80 - 16) := rfl
          have hWl80 := Wl_length 64 M HML.out 80
          obtain ⟨W, hW⟩ : ∃ W, Wl 64 M 80 = W := ⟨_, rfl⟩
          rw [hi, hW] at hP
          rw [hW] at hWS hWl80
          have hZ : Zr 80 W = W := by rw [Zr, hWl80]; exact List.append_nil _
          rw [hZ] at hP
          have HP := Lib.hid hP
          have HWS := Lib.hid hWS
          have HWL := Lib.hid hWl80
          have hHl := hP.hm.hl
          obtain ⟨h0, h1, h2, h3, h4, h5, h6, h7, hHe⟩ := eight_ex H hHl
          have HHE := Lib.hid hHe
          have hi8 := info8 H hHl
          have HI8 := Lib.hid hi8
          have HHL := Lib.hid hHl
          have hglw : gw < wr.heap.size := hP.row.lt (by intro e; have := congrArg List.length e; rw [ucells_length, hWl80, List.length_nil] at this; omega)
          have hggw : g < wr.heap.size := hP.hm.lt
          have hnw : ucells W ≠ [] := by intro e; have := congrArg List.length e; rw [ucells_length, hWl80, List.length_nil] at this; omega
          have HNW := Lib.hid hnw
          clear hP hW hWS hWl80 hZ hHl hHe hi8 hWl hi hlt hi80 hi16 hnw
          go_upto_region 18 with (first
            | (refine wpList_load_at 102 (.tmp 96) g 1 (ucells H) _ HP.out.hm.bl Tryz.underlying102 rfl HI8.out ⟨rfl, rfl, rfl⟩ ?_)
            | (refine wpList_alloc_at 102 (.agg #[.int .u64 0, .int .u64 0, .int .u64 0, .int .u64 0, .int .u64 0, .int .u64 0, .int .u64 0, .int .u64 0]) 8 (by kernel_rfl) ⟨rfl, rfl⟩ ?_; intro wv hAv hbv hsv)
            | (refine wpList_store_at 102 (.tmp 10) (.tmp 97) wr.heap.size 0 (ucells [0, 0, 0, 0, 0, 0, 0, 0]) (ucells H) hAv (by rw [ucells_length, ucells_length, HHL.out]; rfl) HI8.out (ucells_one _) ⟨rfl, rfl, rfl, rfl⟩ ?_))
          have hPv := HP.out.below HNW.out hbv
          have hPs : Pk w (wv.setCells wr.heap.size 0 (ucells H)) g gw kind H R n (ucells W) := ⟨hPv.hm.others _ _ _ (by omega), hPv.row.apartSets (.inl (by omega)), hPv.tb.below (B := wr.heap.size) (below_sets _ _ (Nat.le_refl _) _ _ _ _ (Below.refl _ _)) (by omega), Chg.setsNew HP.out.chg.size _ _ _ hPv.chg, hPv.ne⟩
          have hS := At.ofSets (vs := ucells H) hAv (by rw [ucells_length, HHL.out]; rfl)
          obtain ⟨gv, hgv⟩ : ∃ x, wr.heap.size = x := ⟨_, rfl⟩
          rw [hgv] at hPs hS ⊢
          obtain ⟨w5, hw5⟩ : ∃ x, wv.setCells gv 0 (ucells H) = x := ⟨_, rfl⟩
          rw [hw5] at hPs hS ⊢
          rw [HHE.out] at hS
          obtain ⟨y0, y1, y2, y3, y4, y5, y6, y7⟩ := eight hS
          have HP5 := Lib.hid hPs
          clear hPv hPs hS hw5 hgv hAv hbv hsv HP hglw hggw
          go_wp2_with fail
          go_quiet (fail)
          have HP6 := Lib.hid (HP5.out.drewN nq)
          clear HP5 y0 y1 y2 y3 y4 y5 y6 y7
          generalize w5.drewN nq = w6 at *
          obtain ⟨f0, f1, f2, f3, f4, f5, f6, f7⟩ := g_hL _ _ _ _ _ _ _ _ _ HHE.out
          have HF := Lib.hid (And.intro f0 (And.intro f1 (And.intro f2 (And.intro f3 (And.intro f4 (And.intro f5 (And.intro f6 f7)))))))
          clear f0 f1 f2 f3 f4 f5 f6 f7
          go_wp2_with fail
          go_loopw [11, 12, 13, 14, 15, 16, 17, 18, 114] (fun a b c d e f g' h iv wr => ∃ (i k : Nat), i ≤ 80 ∧ iv = .int .i64 (i : Int) ∧ wr = w6.drewN k ∧ a = .int .u64 ((Sh.g (Sh.rnds 64 (Sh.kL 64) W H i) 0 : Nat) : Int) ∧ b = .int .u64 ((Sh.g (Sh.rnds 64 (Sh.kL 64) W H i) 1 : Nat) : Int) ∧ c = .int .u64 ((Sh.g (Sh.rnds 64 (Sh.kL 64) W H i) 2 : Nat) : Int) ∧ d = .int .u64 ((Sh.g (Sh.rnds 64 (Sh.kL 64) W H i) 3 : Nat) : Int) ∧ e = .int .u64 ((Sh.g (Sh.rnds 64 (Sh.kL 64) W H i) 4 : Nat) : Int) ∧ f = .int .u64 ((Sh.g (Sh.rnds 64 (Sh.kL 64) W H i) 5 : Nat) : Int) ∧ g' = .int .u64 ((Sh.g (Sh.rnds 64 (Sh.kL 64) W H i) 6 : Nat) : Int) ∧ h = .int .u64 ((Sh.g (Sh.rnds 64 (Sh.kL 64) W H i) 7 : Nat) : Int)) (fun _ _ _ _ _ _ _ _ iv _ => 80 - (intOf iv).toNat)
          case atStart =>
            obtain ⟨f0, f1, f2, f3, f4, f5, f6, f7⟩ := HF.out
            refine ⟨0, 0, by omega, rfl, rfl, ?_⟩
            rw [Sh.rnds, f0, f1, f2, f3, f4, f5, f6, f7]
            exact ⟨rfl, rfl, rfl, rfl, rfl, rfl, rfl, rfl⟩
          case round =>
            obtain ⟨i, k, hi80, rfl, rfl, rfl, rfl, rfl, rfl, rfl, rfl, rfl, rfl⟩ := hrel
            obtain ⟨hVl, hVt⟩ := rnds_ok 64 (Sh.kL 64) W H HHL.out HHT.out i
            have hP := HP6.out.drewN k
            by_cases hlt : i < 80
            · have hltI : (i : Int) < 80 := by omega
              have hi0 : (0 : Int) ≤ (i : Int) := by omega
              have hrn : Sh.rnds 64 (Sh.kL 64) W H (i + 1) = Sh.rnd 64 (Sh.g (Sh.kL 64) i) (Sh.g W i) (Sh.rnds 64 (Sh.kL 64) W H i) := rfl
              obtain ⟨V, hVe⟩ : ∃ V, Sh.rnds 64 (Sh.kL 64) W H i = V := ⟨_, rfl⟩
              rw [hVe] at hVl hVt hrn ⊢
              have cki := HP6.out.tb.1 i hlt
              have cwi := (HP6.out.row.u i (by rw [HWL.out]; exact hlt)).1
              rw [Nat.zero_add] at cwi
              have hkk0 : Sh.g (Sh.kL 64) i = Sh.roundL.getD i 0 := by rw [kL64]; rfl
              rw [← hkk0] at cki
              change World.cell? _ _ = some (.int .u64 ((Sh.g W i : Nat) : Int)) at cwi
              have l0 := g_lt hVt (by decide) 0
              have l1 := g_lt hVt (by decide) 1
              have l2 := g_lt hVt (by decide) 2
              have l3 := g_lt hVt (by decide) 3
              have l4 := g_lt hVt (by decide) 4
              have l5 := g_lt hVt (by decide) 5
              have l6 := g_lt hVt (by decide) 6
              have l7 := g_lt hVt (by decide) 7
              simp only [Sh.rnd, Sh.tt, Sh.uu, Sh.ch, Sh.maj] at hrn
              obtain ⟨kk, hkk⟩ : ∃ x, Sh.g (Sh.kL 64) i = x := ⟨_, rfl⟩
              obtain ⟨ww, hww⟩ : ∃ x, Sh.g W i = x := ⟨_, rfl⟩
              obtain ⟨v0, hv0⟩ : ∃ x, Sh.g V 0 = x := ⟨_, rfl⟩
              obtain ⟨v1, hv1⟩ : ∃ x, Sh.g V 1 = x := ⟨_, rfl⟩
              obtain ⟨v2, hv2⟩ : ∃ x, Sh.g V 2 = x := ⟨_, rfl⟩
              obtain ⟨v3, hv3⟩ : ∃ x, Sh.g V 3 = x := ⟨_, rfl⟩
              obtain ⟨v4, hv4⟩ : ∃ x, Sh.g V 4 = x := ⟨_, rfl⟩
              obtain ⟨v5, hv5⟩ : ∃ x, Sh.g V 5 = x := ⟨_, rfl⟩
              obtain ⟨v6, hv6⟩ : ∃ x, Sh.g V 6 = x := ⟨_, rfl⟩
              obtain ⟨v7, hv7⟩ : ∃ x, Sh.g V 7 = x := ⟨_, rfl⟩
              rw [hkk] at cki hrn
              rw [hww] at cwi hrn
              rw [hv0] at l0 hrn ⊢
              rw [hv1] at l1 hrn ⊢
              rw [hv2] at l2 hrn ⊢
              rw [hv3] at l3 hrn ⊢
              rw [hv4] at l4 hrn ⊢
              rw [hv5] at l5 hrn ⊢
              rw [hv6] at l6 hrn ⊢
              rw [hv7] at l7 hrn ⊢
              have hrl : ∀ x k, Sh.rotR 64 x k < 18446744073709551616 := fun x k => Nat.mod_lt _ (by decide)
              have Ea := sh_xor (Sh.rotR 64 v4 14) (Sh.rotR 64 v4 18) (hrl _ _) (hrl _ _)
              have Eb := sh_xor (Sh.rotR 64 v4 14 ^^^ Sh.rotR 64 v4 18) (Sh.rotR 64 v4 41) (Nat.xor_lt_two_pow (n := 64) (hrl _ _) (hrl _ _)) (hrl _ _)
              rw [show Sh.rotR 64 v4 14 ^^^ Sh.rotR 64 v4 18 ^^^ Sh.rotR 64 v4 41 = Sh.sA 64 9 v4 from rfl] at Eb
              have R14 := Lib.hid (rot64_14 v4 l4)
              have R18 := Lib.hid (rot64_18 v4 l4)
              have R41 := Lib.hid (rot64_41 v4 l4)
              obtain ⟨r14, hr14⟩ : ∃ a, Sh.rotR 64 v4 14 = a := ⟨_, rfl⟩
              obtain ⟨r18, hr18⟩ : ∃ a, Sh.rotR 64 v4 18 = a := ⟨_, rfl⟩
              obtain ⟨r41, hr41⟩ : ∃ a, Sh.rotR 64 v4 41 = a := ⟨_, rfl⟩
              rw [hr14] at Ea Eb R14
              rw [hr18] at Ea Eb R18
              rw [hr41] at Eb R41
              obtain ⟨xE, hxE⟩ : ∃ a, r14 ^^^ r18 = a := ⟨_, rfl⟩
              rw [hxE] at Ea Eb
              have Aa := sh_xor (Sh.rotR 64 v0 28) (Sh.rotR 64 v0 34) (hrl _ _) (hrl _ _)
              have Ab := sh_xor (Sh.rotR 64 v0 28 ^^^ Sh.rotR 64 v0 34) (Sh.rotR 64 v0 39) (Nat.xor_lt_two_pow (n := 64) (hrl _ _) (hrl _ _)) (hrl _ _)
              rw [show Sh.rotR 64 v0 28 ^^^ Sh.rotR 64 v0 34 ^^^ Sh.rotR 64 v0 39 = Sh.sA 64 6 v0 from rfl] at Ab
              have R28 := Lib.hid (rot64_28 v0 l0)
              have R34 := Lib.hid (rot64_34 v0 l0)
              have R39 := Lib.hid (rot64_39 v0 l0)
              obtain ⟨r28, hr28⟩ : ∃ a, Sh.rotR 64 v0 28 = a := ⟨_, rfl⟩
              obtain ⟨r34, hr34⟩ : ∃ a, Sh.rotR 64 v0 34 = a := ⟨_, rfl⟩
              obtain ⟨r39, hr39⟩ : ∃ a, Sh.rotR 64 v0 39 = a := ⟨_, rfl⟩
              rw [hr28] at Aa Ab R28
              rw [hr34] at Aa Ab R34
              rw [hr39] at Ab R39
              obtain ⟨xA, hxA⟩ : ∃ a, r28 ^^^ r34 = a := ⟨_, rfl⟩
              rw [hxA] at Aa Ab
              obtain ⟨y9, hy9⟩ : ∃ y, Sh.sA 64 9 v4 = y := ⟨_, rfl⟩
              obtain ⟨y6, hy6⟩ : ∃ y, Sh.sA 64 6 v0 = y := ⟨_, rfl⟩
              rw [hy9] at Eb hrn
              rw [hy6] at Ab hrn
              rw [← not_xor 64 v4 v6 (by decide) l4 l6] at hrn
              obtain ⟨ne, hne⟩ : ∃ x, (2 ^ 64 - 1) ^^^ v4 = x := ⟨_, rfl⟩
              have hnel : ne < 18446744073709551616 := by rw [← hne]; exact Nat.xor_lt_two_pow (n := 64) (by decide) l4
              rw [hne] at hrn
              have bn := u64_not v4 ne l4 hne
              have b1 := sh_and v4 v5 l4 l5
              have b2 := sh_and ne v6 hnel l6
              have b4 := sh_and v0 v1 l0 l1
              have b5 := sh_and v0 v2 l0 l2
              have b7 := sh_and v1 v2 l1 l2
              have o1 : v4 &&& v5 < 18446744073709551616 := Nat.and_lt_two_pow (n := 64) v4 l5
              have o2 : ne &&& v6 < 18446744073709551616 := Nat.and_lt_two_pow (n := 64) ne l6
              have o4 : v0 &&& v1 < 18446744073709551616 := Nat.and_lt_two_pow (n := 64) v0 l1
              have o5 : v0 &&& v2 < 18446744073709551616 := Nat.and_lt_two_pow (n := 64) v0 l2
              have o7 : v1 &&& v2 < 18446744073709551616 := Nat.and_lt_two_pow (n := 64) v1 l2
              obtain ⟨d1, hd1⟩ : ∃ x, v4 &&& v5 = x := ⟨_, rfl⟩
              obtain ⟨d2, hd2⟩ : ∃ x, ne &&& v6 = x := ⟨_, rfl⟩
              obtain ⟨d4, hd4⟩ : ∃ x, v0 &&& v1 = x := ⟨_, rfl⟩
              obtain ⟨d5, hd5⟩ : ∃ x, v0 &&& v2 = x := ⟨_, rfl⟩
              obtain ⟨d7, hd7⟩ : ∃ x, v1 &&& v2 = x := ⟨_, rfl⟩
              rw [hd1] at b1 o1 hrn
              rw [hd2] at b2 o2 hrn
              rw [hd4] at b4 o4 hrn
              rw [hd5] at b5 o5 hrn
              rw [hd7] at b7 o7 hrn
              have b3 := sh_xor d1 d2 o1 o2
              have b6 := sh_xor d4 d5 o4 o5
              have o6 : d4 ^^^ d5 < 18446744073709551616 := Nat.xor_lt_two_pow (n := 64) o4 o5
              obtain ⟨e3, he3⟩ : ∃ x, d1 ^^^ d2 = x := ⟨_, rfl⟩
              obtain ⟨e6, he6⟩ : ∃ x, d4 ^^^ d5 = x := ⟨_, rfl⟩
              rw [he3] at b3 hrn
              rw [he6] at b6 o6 hrn
              have b8 := sh_xor e6 d7 o6 o7
              obtain ⟨e8, he8⟩ : ∃ x, e6 ^^^ d7 = x := ⟨_, rfl⟩
              rw [he8] at b8 hrn
              obtain ⟨s1, hs1⟩ : ∃ z, (v7 + y9) % 2 ^ 64 = z := ⟨_, rfl⟩
              obtain ⟨s2, hs2⟩ : ∃ z, (s1 + e3) % 2 ^ 64 = z := ⟨_, rfl⟩
              obtain ⟨s3, hs3⟩ : ∃ z, (s2 + kk) % 2 ^ 64 = z := ⟨_, rfl⟩
              obtain ⟨s4, hs4⟩ : ∃ z, (s3 + ww) % 2 ^ 64 = z := ⟨_, rfl⟩
              obtain ⟨s5, hs5⟩ : ∃ z, (y6 + e8) % 2 ^ 64 = z := ⟨_, rfl⟩
              obtain ⟨n0, hn0⟩ : ∃ z, (s4 + s5) % 2 ^ 64 = z := ⟨_, rfl⟩
              obtain ⟨n4, hn4⟩ : ∃ z, (v3 + s4) % 2 ^ 64 = z := ⟨_, rfl⟩
              have a1 := u64_add v7 y9 s1 hs1
              have a2 := u64_add s1 e3 s2 hs2
              have a3 := u64_add s2 kk s3 hs3
              have a4 := u64_add s3 ww s4 hs4
              have a5 := u64_add y6 e8 s5 hs5
              have a6 := u64_add s4 s5 n0 hn0
              have a7 := u64_add v3 s4 n4 hn4
              have hrn2 : Sh.rnds 64 (Sh.kL 64) W H (i + 1) = [n0, v0, v1, v2, n4, v4, v5, v6] := by
                rw [hrn, show (v7 + y9 + e3 + kk + ww + (y6 + e8)) % 2 ^ 64 = n0 by omega, show (v3 + (v7 + y9 + e3 + kk + ww)) % 2 ^ 64 = n4 by omega]
              have HRN := Lib.hid hrn2
              clear hVl hVt hrn hrn2 hVe l0 l1 l2 l3 l4 l5 l6 l7 o1 o2 o4 o5 o6 o7 hnel hkk hww hv0 hv1 hv2 hv3 hv4 hv5 hv6 hv7 hy9 hy6 hne hd1 hd2 hd4 hd5 hd7 he3 he6 he8 hs1 hs2 hs3 hs4 hs5 hn0 hn4 hrl hr14 hr18 hr41 hr28 hr34 hr39 hxE hxA hkk0 hP
              go_wp2_with fail
              refine (R14.out _).mono ?_
              rintro e w4 ⟨rfl, rfl⟩
              go_wp2_with fail
              refine (R18.out _).mono ?_
              rintro e w4 ⟨rfl, rfl⟩
              go_wp2_with fail
              refine (R41.out _).mono ?_
              rintro e w4 ⟨rfl, rfl⟩
              clear R14 R18 R41
              go_wp2_with fail
              go_quiet (fail)
              go_wp2_with fail
              clear Ea Eb bn b1 b2 b3 a1 a2 a3 a4 cki cwi
              refine (R28.out _).mono ?_
              rintro e w4 ⟨rfl, hw4⟩
              subst hw4
              go_wp2_with fail
              refine (R34.out _).mono ?_
              rintro e w4 ⟨rfl, hw4⟩
              subst hw4
              go_wp2_with fail
              refine (R39.out _).mono ?_
              rintro e w4 ⟨rfl, hw4⟩
              subst hw4
              clear R28 R34 R39
              go_wp2_with fail
              go_roundw
              case rel =>
                refine ⟨i + 1, k + nq, by omega, by go_num, by first | rfl | trivial, ?_⟩
                rw [HRN.out]
                exact ⟨rfl, rfl, rfl, rfl, rfl, rfl, rfl, rfl⟩
              case measure => first | (simp [intOf]; done) | (simp [intOf]; omega)
            · have hi : i = 80 := by omega
              have hge2 : ¬ (i : Int) < 80 := by omega
              have hcomp : Sh.comp 64 (Sh.kL 64) H M = Sh.addw 64 H (Sh.rnds 64 (Sh.kL 64) W H 80) := by rw [Sh.comp, show Sh.rounds 64 = 80 from rfl, ← HWS.out]
              obtain ⟨V, hVe⟩ : ∃ V, Sh.rnds 64 (Sh.kL 64) W H 80 = V := ⟨_, rfl⟩
              rw [hi, hVe] at hVl hVt
              rw [hVe] at hcomp
              rw [hi, hVe]
              obtain ⟨F, hF⟩ : ∃ F : Nat → Nat, (fun j => Sh.g (Sh.addw 64 H V) j) = F := ⟨_, rfl⟩
              have hFj : ∀ j, j < 8 → F j = (Sh.g H j + Sh.g V j) % 2 ^ 64 := fun j hj => by rw [← hF]; exact add_get 64 H V j (by rw [HHL.out]; exact hj) (by rw [hVl]; exact hj)
              have hFa : mixP 8 F (Sh.g H) 8 = Sh.addw 64 H V := by
                rw [mixP_full, ← hF]
                exact map_getD _ 0 8 (by rw [Sh.addw, List.length_zipWith, HHL.out, hVl]; rfl)
              have hF0 : mixP 8 F (Sh.g H) 0 = H := by
                rw [mixP_zero]
                exact map_getD _ 0 8 HHL.out
              obtain ⟨w7, hw7⟩ : ∃ x, w6.drewN k = x := ⟨_, rfl⟩
              rw [hw7] at hP ⊢
              have hm7 := hP.hm
              have hc7 := hP.chg
              rw [← hF0] at hm7
              have hix : ∀ j : Nat, j < 8 → ∀ wx : World, (Instr.index 102 (.agg #[.int .u64 ((Sh.g V 0 : Nat) : Int), .int .u64 ((Sh.g V 1 : Nat) : Int), .int .u64 ((Sh.g V 2 : Nat) : Int), .int .u64 ((Sh.g V 3 : Nat) : Int), .int .u64 ((Sh.g V 4 : Nat) : Int), .int .u64 ((Sh.g V 5 : Nat) : Int), .int .u64 ((Sh.g V 6 : Nat) : Int), .int .u64 ((Sh.g V 7 : Nat) : Int)]) (.int .i64 (j : Int))).run Tryz.prog wx = .ok (.int .u64 ((Sh.g V j : Nat) : Int)) wx := by
                intro j hj wx
                have h8 : j = 0 ∨ j = 1 ∨ j = 2 ∨ j = 3 ∨ j = 4 ∨ j = 5 ∨ j = 6 ∨ j = 7 := by omega
                rcases h8 with rfl | rfl | rfl | rfl | rfl | rfl | rfl | rfl <;> rfl
              have HCOMP := Lib.hid hcomp
              have HFA := Lib.hid hFa
              have HFJ := Lib.hid hFj
              have HIX := Lib.hid hix
              clear hcomp hFa hFj hix hF hF0 hVe hVl hVt hw7 HP6 hP HF hi80 hlt hi
              go_wp2_with fail
              go_loopw [188] (fun iv wr => ∃ i : Nat, i ≤ 8 ∧ iv = .int .i64 (i : Int) ∧ HM wr g kind (mixP 8 F (Sh.g H) i) R n ∧ Chg g w wr) (fun iv _ => 8 - (intOf iv).toNat)
              case atStart => exact ⟨0, by omega, rfl, hm7, hc7⟩
              case round =>
                clear hm7 hc7
                obtain ⟨i, hi8, rfl, hm, hc⟩ := hrel
                by_cases hlt : i < 8
                · have hltI : (i : Int) < 8 := by omega
                  have hi0 : (0 : Int) ≤ (i : Int) := by omega
                  have hixi := HIX.out i hlt
                  have c4 := hm.bl.u i (by rw [mixP_length]; exact hlt)
                  rw [mixP_at _ _ _ _ _ _ hlt, if_neg (by omega)] at c4
                  have hfi := HFJ.out i hlt
                  obtain ⟨a, ha⟩ : ∃ a, Sh.g H i = a := ⟨_, rfl⟩
                  obtain ⟨c, hc'⟩ : ∃ c, Sh.g V i = c := ⟨_, rfl⟩
                  rw [ha] at c4 hfi
                  rw [hc'] at hixi hfi
                  obtain ⟨z, hz⟩ : ∃ z, (a + c) % 2 ^ 64 = z := ⟨_, rfl⟩
                  have a1 := u64_add a c z hz
                  rw [hz] at hfi
                  obtain ⟨ca, cf⟩ := c4
                  have HST : Hid (HM (wr.drew.setCell ⟨g, 1 + i, none⟩ (.int .u64 (z : Int))) g kind (mixP 8 F (Sh.g H) (i + 1)) R n) := by
                    have h := (hm.drewN 1).word i z hlt
                    rw [← hfi, mixP_set] at h
                    rw [hfi] at h
                    exact h
                  have HCH := Lib.hid hc
                  clear hm hc hfi hz ha hc'
                  go_wp2_with fail
                  clear hixi
                  go_still_tail 11, (by kernel_rfl)
                  change wpList _ _ _ _ _ wr.drew
                  go_wp2_with fail
                  go_roundw
                  case rel => exact ⟨i + 1, by omega, by go_num, HST.out, HCH.out.drew.setCell _ _⟩
                  case measure => first | (simp [intOf]; done) | (simp [intOf]; omega)
                · have hi : i = 8 := by omega
                  have hge8 : ¬ (i : Int) < 8 := by omega
                  rw [hi, HFA.out, ← HCOMP.out] at hm
                  have HMF := Lib.hid hm
                  clear hm hi hlt hi8
                  go_wp2_with fail
                  go_end0
                  exact ⟨rfl, HMF.out, hc⟩
end Go.Proofs.YtjlmmlnldjandaaGreatDoor
