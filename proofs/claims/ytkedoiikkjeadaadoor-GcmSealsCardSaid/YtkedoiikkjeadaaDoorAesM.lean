/- What is encrypted is decrypted, and the other way round: plain. -/
import Derived.Test.YtkedoiikkjeadaaDoorAesDe
namespace Go.Proofs.YtkedoiikkjeadaaDoor
open Go.RowKit
set_option linter.unusedVariables false
set_option linter.unusedSimpArgs false
/-! ### words and their bytes -/
theorem rw_wd0 (a b c d : UInt8) : rw_ (wd a b c d) 0 = a := by
  have ha := a.toNat_lt
  have hb := b.toNat_lt
  have hc := c.toNat_lt
  have hd := d.toNat_lt
  apply UInt8.toNat_inj.1
  rw [rw_, wd_nat, UInt8.toNat_ofNat', show 2 ^ (24 - 8 * 0) = 16777216 from rfl]
  omega
theorem rw_wd1 (a b c d : UInt8) : rw_ (wd a b c d) 1 = b := by
  have ha := a.toNat_lt
  have hb := b.toNat_lt
  have hc := c.toNat_lt
  have hd := d.toNat_lt
  apply UInt8.toNat_inj.1
  rw [rw_, wd_nat, UInt8.toNat_ofNat', show 2 ^ (24 - 8 * 1) = 65536 from rfl]
  omega
theorem rw_wd2 (a b c d : UInt8) : rw_ (wd a b c d) 2 = c := by
  have ha := a.toNat_lt
  have hb := b.toNat_lt
  have hc := c.toNat_lt
  have hd := d.toNat_lt
  apply UInt8.toNat_inj.1
  rw [rw_, wd_nat, UInt8.toNat_ofNat', show 2 ^ (24 - 8 * 2) = 256 from rfl]
  omega
theorem rw_wd3 (a b c d : UInt8) : rw_ (wd a b c d) 3 = d := by
  have ha := a.toNat_lt
  have hb := b.toNat_lt
  have hc := c.toNat_lt
  have hd := d.toNat_lt
  apply UInt8.toNat_inj.1
  rw [rw_, wd_nat, UInt8.toNat_ofNat', show 2 ^ (24 - 8 * 3) = 1 from rfl]
  omega
theorem wd_rw (x : UInt32) : wd (rw_ x 0) (rw_ x 1) (rw_ x 2) (rw_ x 3) = x := by
  have hx := x.toNat_lt
  apply UInt32.toNat_inj.1
  rw [wd_nat, rw_, rw_, rw_, rw_, UInt8.toNat_ofNat', UInt8.toNat_ofNat', UInt8.toNat_ofNat', UInt8.toNat_ofNat', show 2 ^ (24 - 8 * 0) = 16777216 from rfl, show 2 ^ (24 - 8 * 1) = 65536 from rfl, show 2 ^ (24 - 8 * 2) = 256 from rfl, show 2 ^ (24 - 8 * 3) = 1 from rfl]
  omega
theorem rw_xor (x y : UInt32) (n : Nat) : rw_ (x ^^^ y) n = rw_ x n ^^^ rw_ y n := by
  apply UInt8.toNat_inj.1
  rw [UInt8.toNat_xor, rw_, rw_, rw_, UInt8.toNat_ofNat', UInt8.toNat_ofNat', UInt8.toNat_ofNat', UInt32.toNat_xor, ← Nat.shiftRight_eq_div_pow, ← Nat.shiftRight_eq_div_pow, ← Nat.shiftRight_eq_div_pow, Nat.shiftRight_xor_distrib, Nat.xor_mod_two_pow]
theorem wd_xor (a b c d a' b' c' d' : UInt8) : wd a b c d ^^^ wd a' b' c' d' = wd (a ^^^ a') (b ^^^ b') (c ^^^ c') (d ^^^ d') := by
  rw [← wd_rw (wd a b c d ^^^ wd a' b' c' d')]
  simp only [rw_xor, rw_wd0, rw_wd1, rw_wd2, rw_wd3]
theorem rotl_wd0 (a b c d : UInt8) : rotl32 (wd a b c d) 0 = wd a b c d := by
  have hw := (wd a b c d).toNat_lt
  apply UInt32.toNat_inj.1
  rw [rot32_nat _ _ (by omega), show 2 ^ (32 - 0) = 4294967296 from rfl]
  omega
theorem rotl_wd8 (a b c d : UInt8) : rotl32 (wd a b c d) 8 = wd b c d a := by
  have ha := a.toNat_lt
  have hb := b.toNat_lt
  have hc := c.toNat_lt
  have hd := d.toNat_lt
  apply UInt32.toNat_inj.1
  rw [rot32_nat _ _ (by omega), wd_nat, wd_nat, show 2 ^ (32 - 8) = 16777216 from rfl]
  omega
theorem rotl_wd16 (a b c d : UInt8) : rotl32 (wd a b c d) 16 = wd c d a b := by
  have ha := a.toNat_lt
  have hb := b.toNat_lt
  have hc := c.toNat_lt
  have hd := d.toNat_lt
  apply UInt32.toNat_inj.1
  rw [rot32_nat _ _ (by omega), wd_nat, wd_nat, show 2 ^ (32 - 16) = 65536 from rfl]
  omega
theorem rotl_wd24 (a b c d : UInt8) : rotl32 (wd a b c d) 24 = wd d a b c := by
  have ha := a.toNat_lt
  have hb := b.toNat_lt
  have hc := c.toNat_lt
  have hd := d.toNat_lt
  apply UInt32.toNat_inj.1
  rw [rot32_nat _ _ (by omega), wd_nat, wd_nat, show 2 ^ (32 - 24) = 256 from rfl]
  omega
theorem rcol_wd (p q r t : UInt8 → UInt8) (pick : Nat → UInt32) : rcol (fun b => wd (p b) (q b) (r b) (t b)) pick 4 =
    wd (p (rw_ (pick 0) 0) ^^^ t (rw_ (pick 1) 1) ^^^ r (rw_ (pick 2) 2) ^^^ q (rw_ (pick 3) 3))
      (q (rw_ (pick 0) 0) ^^^ p (rw_ (pick 1) 1) ^^^ t (rw_ (pick 2) 2) ^^^ r (rw_ (pick 3) 3))
      (r (rw_ (pick 0) 0) ^^^ q (rw_ (pick 1) 1) ^^^ p (rw_ (pick 2) 2) ^^^ t (rw_ (pick 3) 3))
      (t (rw_ (pick 0) 0) ^^^ r (rw_ (pick 1) 1) ^^^ q (rw_ (pick 2) 2) ^^^ p (rw_ (pick 3) 3)) := by
  simp only [rcol, show tn 0 = 0 from rfl, show tn 1 = 24 from rfl, show tn 2 = 16 from rfl, show tn 3 = 8 from rfl, rotl_wd0, rotl_wd8, rotl_wd16, rotl_wd24, UInt32.zero_xor, wd_xor]
/-! ### a column that is mixed, and mixed back -/
/-- by four factors, as the document has it -/
def colG (f0 f1 f2 f3 : UInt8) (x : UInt32) : UInt32 :=
  wd (gmul f0 (rw_ x 0) ^^^ gmul f1 (rw_ x 1) ^^^ gmul f2 (rw_ x 2) ^^^ gmul f3 (rw_ x 3)) (gmul f3 (rw_ x 0) ^^^ gmul f0 (rw_ x 1) ^^^ gmul f1 (rw_ x 2) ^^^ gmul f2 (rw_ x 3))
    (gmul f2 (rw_ x 0) ^^^ gmul f3 (rw_ x 1) ^^^ gmul f0 (rw_ x 2) ^^^ gmul f1 (rw_ x 3)) (gmul f1 (rw_ x 0) ^^^ gmul f2 (rw_ x 1) ^^^ gmul f3 (rw_ x 2) ^^^ gmul f0 (rw_ x 3))
theorem gm2 (b : UInt8) : gmul 2 b = dbl b := by
  revert b
  exact u8_all (by decide +kernel)
theorem gm3 (b : UInt8) : gmul 3 b = dbl b ^^^ b := by
  revert b
  exact u8_all (by decide +kernel)
theorem mixB_col (pick : Nat → UInt32) (x : UInt32) (h0 : rw_ x 0 = gsub (rw_ (pick 0) 0)) (h1 : rw_ x 1 = gsub (rw_ (pick 1) 1)) (h2 : rw_ x 2 = gsub (rw_ (pick 2) 2)) (h3 : rw_ x 3 = gsub (rw_ (pick 3) 3)) :
    rcol mixB pick 4 = colG 2 3 1 1 x := by
  have h := rcol_wd (fun b => dbl (gsub b)) gsub gsub (fun b => dbl (gsub b) ^^^ gsub b) pick
  rw [show mixB = fun b => wd (dbl (gsub b)) (gsub b) (gsub b) (dbl (gsub b) ^^^ gsub b) from rfl, h]
  simp only [colG, gm2, gm3, gone, h0, h1, h2, h3]
theorem unm_col (x : UInt32) : rcol unmW (fun _ => x) 4 = colG 14 11 13 9 x := by
  have h := rcol_wd (fun b => gmul b 14) (fun b => gmul b 9) (fun b => gmul b 13) (fun b => gmul b 11) (fun _ => x)
  rw [show unmW = fun b => wd (gmul b 14) (gmul b 9) (gmul b 13) (gmul b 11) from rfl, h]
  simp only [colG, gmul_comm 14, gmul_comm 11, gmul_comm 13, gmul_comm 9]
theorem gr_x (a x y : UInt8) : gmul a (x ^^^ y) = gmul a x ^^^ gmul a y := gmul_right a x y
theorem gl_x (x y b : UInt8) : gmul (x ^^^ y) b = gmul x b ^^^ gmul y b := gmul_left b x y
theorem grp (a0 a1 a2 a3 b0 b1 b2 b3 c0 c1 c2 c3 d0 d1 d2 d3 : UInt8) : (a0 ^^^ b0 ^^^ c0 ^^^ d0) ^^^ (a1 ^^^ b1 ^^^ c1 ^^^ d1) ^^^ (a2 ^^^ b2 ^^^ c2 ^^^ d2) ^^^ (a3 ^^^ b3 ^^^ c3 ^^^ d3) =
    (a0 ^^^ a1 ^^^ a2 ^^^ a3) ^^^ (b0 ^^^ b1 ^^^ b2 ^^^ b3) ^^^ (c0 ^^^ c1 ^^^ c2 ^^^ c3) ^^^ (d0 ^^^ d1 ^^^ d2 ^^^ d3) := by ac_rfl
theorem dots (m0 m1 m2 m3 p0 p1 p2 p3 q0 q1 q2 q3 r0 r1 r2 r3 s0 s1 s2 s3 a b c d : UInt8) :
    gmul m0 (gmul p0 a ^^^ gmul p1 b ^^^ gmul p2 c ^^^ gmul p3 d) ^^^ gmul m1 (gmul q0 a ^^^ gmul q1 b ^^^ gmul q2 c ^^^ gmul q3 d) ^^^ gmul m2 (gmul r0 a ^^^ gmul r1 b ^^^ gmul r2 c ^^^ gmul r3 d) ^^^ gmul m3 (gmul s0 a ^^^ gmul s1 b ^^^ gmul s2 c ^^^ gmul s3 d) =
    gmul (gmul m0 p0 ^^^ gmul m1 q0 ^^^ gmul m2 r0 ^^^ gmul m3 s0) a ^^^ gmul (gmul m0 p1 ^^^ gmul m1 q1 ^^^ gmul m2 r1 ^^^ gmul m3 s1) b ^^^ gmul (gmul m0 p2 ^^^ gmul m1 q2 ^^^ gmul m2 r2 ^^^ gmul m3 s2) c ^^^ gmul (gmul m0 p3 ^^^ gmul m1 q3 ^^^ gmul m2 r3 ^^^ gmul m3 s3) d := by
  simp only [gr_x, gl_x, gmul_assoc]
  exact grp _ _ _ _ _ _ _ _ _ _ _ _ _ _ _ _
theorem col_back (x : UInt32) : colG 14 11 13 9 (colG 2 3 1 1 x) = x := by
  have h00 : (gmul 14 2 ^^^ gmul 11 1 ^^^ gmul 13 1 ^^^ gmul 9 3 : UInt8) = 1 := by decide +kernel
  have h01 : (gmul 14 3 ^^^ gmul 11 2 ^^^ gmul 13 1 ^^^ gmul 9 1 : UInt8) = 0 := by decide +kernel
  have h02 : (gmul 14 1 ^^^ gmul 11 3 ^^^ gmul 13 2 ^^^ gmul 9 1 : UInt8) = 0 := by decide +kernel
  have h03 : (gmul 14 1 ^^^ gmul 11 1 ^^^ gmul 13 3 ^^^ gmul 9 2 : UInt8) = 0 := by decide +kernel
  have h10 : (gmul 9 2 ^^^ gmul 14 1 ^^^ gmul 11 1 ^^^ gmul 13 3 : UInt8) = 0 := by decide +kernel
  have h11 : (gmul 9 3 ^^^ gmul 14 2 ^^^ gmul 11 1 ^^^ gmul 13 1 : UInt8) = 1 := by decide +kernel
  have h12 : (gmul 9 1 ^^^ gmul 14 3 ^^^ gmul 11 2 ^^^ gmul 13 1 : UInt8) = 0 := by decide +kernel
  have h13 : (gmul 9 1 ^^^ gmul 14 1 ^^^ gmul 11 3 ^^^ gmul 13 2 : UInt8) = 0 := by decide +kernel
  have h20 : (gmul 13 2 ^^^ gmul 9 1 ^^^ gmul 14 1 ^^^ gmul 11 3 : UInt8) = 0 := by decide +kernel
  have h21 : (gmul 13 3 ^^^ gmul 9 2 ^^^ gmul 14 1 ^^^ gmul 11 1 : UInt8) = 0 := by decide +kernel
  have h22 : (gmul 13 1 ^^^ gmul 9 3 ^^^ gmul 14 2 ^^^ gmul 11 1 : UInt8) = 1 := by decide +kernel
  have h23 : (gmul 13 1 ^^^ gmul 9 1 ^^^ gmul 14 3 ^^^ gmul 11 2 : UInt8) = 0 := by decide +kernel
  have h30 : (gmul 11 2 ^^^ gmul 13 1 ^^^ gmul 9 1 ^^^ gmul 14 3 : UInt8) = 0 := by decide +kernel
  have h31 : (gmul 11 3 ^^^ gmul 13 2 ^^^ gmul 9 1 ^^^ gmul 14 1 : UInt8) = 0 := by decide +kernel
  have h32 : (gmul 11 1 ^^^ gmul 13 3 ^^^ gmul 9 2 ^^^ gmul 14 1 : UInt8) = 0 := by decide +kernel
  have h33 : (gmul 11 1 ^^^ gmul 13 1 ^^^ gmul 9 3 ^^^ gmul 14 2 : UInt8) = 1 := by decide +kernel
  rw [← wd_rw x]
  generalize rw_ x 0 = a
  generalize rw_ x 1 = b
  generalize rw_ x 2 = c
  generalize rw_ x 3 = d
  simp only [colG, rw_wd0, rw_wd1, rw_wd2, rw_wd3, dots]
  rw [h00, h01, h02, h03, h10, h11, h12, h13, h20, h21, h22, h23, h30, h31, h32, h33]
  simp only [gone, gmul_zero, UInt8.xor_zero, UInt8.zero_xor]
theorem col_forth (x : UInt32) : colG 2 3 1 1 (colG 14 11 13 9 x) = x := by
  have h00 : (gmul 2 14 ^^^ gmul 3 9 ^^^ gmul 1 13 ^^^ gmul 1 11 : UInt8) = 1 := by decide +kernel
  have h01 : (gmul 2 11 ^^^ gmul 3 14 ^^^ gmul 1 9 ^^^ gmul 1 13 : UInt8) = 0 := by decide +kernel
  have h02 : (gmul 2 13 ^^^ gmul 3 11 ^^^ gmul 1 14 ^^^ gmul 1 9 : UInt8) = 0 := by decide +kernel
  have h03 : (gmul 2 9 ^^^ gmul 3 13 ^^^ gmul 1 11 ^^^ gmul 1 14 : UInt8) = 0 := by decide +kernel
  have h10 : (gmul 1 14 ^^^ gmul 2 9 ^^^ gmul 3 13 ^^^ gmul 1 11 : UInt8) = 0 := by decide +kernel
  have h11 : (gmul 1 11 ^^^ gmul 2 14 ^^^ gmul 3 9 ^^^ gmul 1 13 : UInt8) = 1 := by decide +kernel
  have h12 : (gmul 1 13 ^^^ gmul 2 11 ^^^ gmul 3 14 ^^^ gmul 1 9 : UInt8) = 0 := by decide +kernel
  have h13 : (gmul 1 9 ^^^ gmul 2 13 ^^^ gmul 3 11 ^^^ gmul 1 14 : UInt8) = 0 := by decide +kernel
  have h20 : (gmul 1 14 ^^^ gmul 1 9 ^^^ gmul 2 13 ^^^ gmul 3 11 : UInt8) = 0 := by decide +kernel
  have h21 : (gmul 1 11 ^^^ gmul 1 14 ^^^ gmul 2 9 ^^^ gmul 3 13 : UInt8) = 0 := by decide +kernel
  have h22 : (gmul 1 13 ^^^ gmul 1 11 ^^^ gmul 2 14 ^^^ gmul 3 9 : UInt8) = 1 := by decide +kernel
  have h23 : (gmul 1 9 ^^^ gmul 1 13 ^^^ gmul 2 11 ^^^ gmul 3 14 : UInt8) = 0 := by decide +kernel
  have h30 : (gmul 3 14 ^^^ gmul 1 9 ^^^ gmul 1 13 ^^^ gmul 2 11 : UInt8) = 0 := by decide +kernel
  have h31 : (gmul 3 11 ^^^ gmul 1 14 ^^^ gmul 1 9 ^^^ gmul 2 13 : UInt8) = 0 := by decide +kernel
  have h32 : (gmul 3 13 ^^^ gmul 1 11 ^^^ gmul 1 14 ^^^ gmul 2 9 : UInt8) = 0 := by decide +kernel
  have h33 : (gmul 3 9 ^^^ gmul 1 13 ^^^ gmul 1 11 ^^^ gmul 2 14 : UInt8) = 1 := by decide +kernel
  rw [← wd_rw x]
  generalize rw_ x 0 = a
  generalize rw_ x 1 = b
  generalize rw_ x 2 = c
  generalize rw_ x 3 = d
  simp only [colG, rw_wd0, rw_wd1, rw_wd2, rw_wd3, dots]
  rw [h00, h01, h02, h03, h10, h11, h12, h13, h20, h21, h22, h23, h30, h31, h32, h33]
  simp only [gone, gmul_zero, UInt8.xor_zero, UInt8.zero_xor]
/-! ### four words -/
theorem four {α : Type} (S : List α) (h : S.length = 4) : ∃ a b c d, S = [a, b, c, d] := by
  match S, h with
  | [a, b, c, d], _ => exact ⟨a, b, c, d, rfl⟩
def colL (f0 f1 f2 f3 : UInt8) (S : List UInt32) : List UInt32 := S.map (colG f0 f1 f2 f3)
theorem colL_length (f0 f1 f2 f3 : UInt8) (S : List UInt32) : (colL f0 f1 f2 f3 S).length = S.length := by simp [colL]
theorem rouL_col (S : List UInt32) : rouL S = colL 2 3 1 1 (lasL gsub 1 2 3 S) := by
  rw [rouL, colL, lasL, List.map_map]
  apply List.map_congr_left
  intro i hi
  have hi4 : i < 4 := by simpa using hi
  refine mixB_col _ _ ?_ ?_ ?_ ?_
  · rw [lasF, rw_wd0, Nat.add_zero, Nat.mod_eq_of_lt hi4]
  · rw [lasF, rw_wd1]
  · rw [lasF, rw_wd2]
  · rw [lasF, rw_wd3]
theorem umxL_col (S : List UInt32) (h : S.length = 4) : umxL S = colL 14 11 13 9 S := by
  obtain ⟨a, b, c, d, rfl⟩ := four S h
  rw [show umxL [a, b, c, d] = [umxF [a, b, c, d] 0, umxF [a, b, c, d] 1, umxF [a, b, c, d] 2, umxF [a, b, c, d] 3] from rfl]
  simp only [umxF, unm_col]
  rfl
theorem las_back (S : List UInt32) (h : S.length = 4) : lasL gback 3 2 1 (lasL gsub 1 2 3 S) = S := by
  obtain ⟨a, b, c, d, rfl⟩ := four S h
  have e : lasL gsub 1 2 3 [a, b, c, d] = [wd (gsub (rw_ a 0)) (gsub (rw_ b 1)) (gsub (rw_ c 2)) (gsub (rw_ d 3)), wd (gsub (rw_ b 0)) (gsub (rw_ c 1)) (gsub (rw_ d 2)) (gsub (rw_ a 3)), wd (gsub (rw_ c 0)) (gsub (rw_ d 1)) (gsub (rw_ a 2)) (gsub (rw_ b 3)), wd (gsub (rw_ d 0)) (gsub (rw_ a 1)) (gsub (rw_ b 2)) (gsub (rw_ c 3))] := rfl
  rw [e]
  have e2 : ∀ x y z u : UInt32, lasL gback 3 2 1 [x, y, z, u] = [wd (gback (rw_ x 0)) (gback (rw_ u 1)) (gback (rw_ z 2)) (gback (rw_ y 3)), wd (gback (rw_ y 0)) (gback (rw_ x 1)) (gback (rw_ u 2)) (gback (rw_ z 3)), wd (gback (rw_ z 0)) (gback (rw_ y 1)) (gback (rw_ x 2)) (gback (rw_ u 3)), wd (gback (rw_ u 0)) (gback (rw_ z 1)) (gback (rw_ y 2)) (gback (rw_ x 3))] := fun _ _ _ _ => rfl
  rw [e2]
  simp only [rw_wd0, rw_wd1, rw_wd2, rw_wd3, gback_gsub, wd_rw]
theorem las_forth (S : List UInt32) (h : S.length = 4) : lasL gsub 1 2 3 (lasL gback 3 2 1 S) = S := by
  obtain ⟨a, b, c, d, rfl⟩ := four S h
  have e : ∀ a b c d : UInt32, lasL gsub 1 2 3 [a, b, c, d] = [wd (gsub (rw_ a 0)) (gsub (rw_ b 1)) (gsub (rw_ c 2)) (gsub (rw_ d 3)), wd (gsub (rw_ b 0)) (gsub (rw_ c 1)) (gsub (rw_ d 2)) (gsub (rw_ a 3)), wd (gsub (rw_ c 0)) (gsub (rw_ d 1)) (gsub (rw_ a 2)) (gsub (rw_ b 3)), wd (gsub (rw_ d 0)) (gsub (rw_ a 1)) (gsub (rw_ b 2)) (gsub (rw_ c 3))] := fun _ _ _ _ => rfl
  have e2 : ∀ x y z u : UInt32, lasL gback 3 2 1 [x, y, z, u] = [wd (gback (rw_ x 0)) (gback (rw_ u 1)) (gback (rw_ z 2)) (gback (rw_ y 3)), wd (gback (rw_ y 0)) (gback (rw_ x 1)) (gback (rw_ u 2)) (gback (rw_ z 3)), wd (gback (rw_ z 0)) (gback (rw_ y 1)) (gback (rw_ x 2)) (gback (rw_ u 3)), wd (gback (rw_ u 0)) (gback (rw_ z 1)) (gback (rw_ y 2)) (gback (rw_ x 3))] := fun _ _ _ _ => rfl
  rw [e2, e]
  simp only [rw_wd0, rw_wd1, rw_wd2, rw_wd3, gsub_gback, wd_rw]
theorem add_back (S W : List UInt32) (o : Nat) (h : S.length = 4) : addL (addL S W o) W o = S := by
  obtain ⟨a, b, c, d, rfl⟩ := four S h
  have e : ∀ x y z u : UInt32, addL [x, y, z, u] W o = [x ^^^ W.getD (o + 0) 0, y ^^^ W.getD (o + 1) 0, z ^^^ W.getD (o + 2) 0, u ^^^ W.getD (o + 3) 0] := fun _ _ _ _ => rfl
  rw [e, e]
  simp only [UInt32.xor_assoc, UInt32.xor_self, UInt32.xor_zero]
theorem col_back_L (S : List UInt32) : colL 14 11 13 9 (colL 2 3 1 1 S) = S := by
  rw [colL, colL, List.map_map]
  conv => rhs; rw [← List.map_id S]
  exact List.map_congr_left fun x _ => col_back x
theorem col_forth_L (S : List UInt32) : colL 2 3 1 1 (colL 14 11 13 9 S) = S := by
  rw [colL, colL, List.map_map]
  conv => rhs; rw [← List.map_id S]
  exact List.map_congr_left fun x _ => col_forth x
theorem key_txt (S : List UInt32) (h : S.length = 4) : keyL (txtL S) 4 = S := by
  obtain ⟨a, b, c, d, rfl⟩ := four S h
  rw [show keyL (txtL [a, b, c, d]) 4 = [wd (rw_ a 0) (rw_ a 1) (rw_ a 2) (rw_ a 3), wd (rw_ b 0) (rw_ b 1) (rw_ b 2) (rw_ b 3), wd (rw_ c 0) (rw_ c 1) (rw_ c 2) (rw_ c 3), wd (rw_ d 0) (rw_ d 1) (rw_ d 2) (rw_ d 3)] from rfl]
  simp only [wd_rw]
theorem txt_key (B : List UInt8) (h : B.length = 16) : txtL (keyL B 4) = B := by
  match B, h with
  | [b0, b1, b2, b3, b4, b5, b6, b7, b8, b9, b10, b11, b12, b13, b14, b15], _ =>
    rw [show keyL [b0, b1, b2, b3, b4, b5, b6, b7, b8, b9, b10, b11, b12, b13, b14, b15] 4 = [wd b0 b1 b2 b3, wd b4 b5 b6 b7, wd b8 b9 b10 b11, wd b12 b13 b14 b15] from rfl]
    rw [show ∀ a b c d : UInt32, txtL [a, b, c, d] = [rw_ a 0, rw_ a 1, rw_ a 2, rw_ a 3, rw_ b 0, rw_ b 1, rw_ b 2, rw_ b 3, rw_ c 0, rw_ c 1, rw_ c 2, rw_ c 3, rw_ d 0, rw_ d 1, rw_ d 2, rw_ d 3] from fun _ _ _ _ => rfl]
    simp only [rw_wd0, rw_wd1, rw_wd2, rw_wd3]
/-! ### the rounds, forth and back -/
theorem encN_length (W : List UInt32) : ∀ (n j : Nat) (s : List UInt32), s.length = 4 → (encN W n j s).length = 4
  | 0, _, s, h => h
  | n + 1, j, s, h => by rw [encN]; exact encN_length W n (j + 1) _ (addL_length _ _ _)
theorem encN_last (W : List UInt32) : ∀ (n j : Nat) (s : List UInt32), encN W (n + 1) j s = addL (rouL (encN W n j s)) W (4 * (j + n))
  | 0, j, s => rfl
  | n + 1, j, s => by
    rw [encN, encN_last W n (j + 1), encN]
    congr 1
    omega
theorem dec_enc_N (W : List UInt32) (s : List UInt32) (h : s.length = 4) : ∀ n, decN W n (encN W n 1 s) = s
  | 0 => rfl
  | n + 1 => by
    have hl := encN_length W n 1 s h
    rw [encN_last, decN, show 1 + n = n + 1 by omega, add_back _ _ _ (rouL_length _), umxL_col _ (rouL_length _), rouL_col, col_back_L, las_back _ hl]
    exact dec_enc_N W s h n
theorem decN_length (W : List UInt32) : ∀ (n : Nat) (s : List UInt32), s.length = 4 → (decN W n s).length = 4
  | 0, s, h => h
  | n + 1, s, h => by rw [decN]; exact decN_length W n _ (lasL_length _ _ _ _ _)
theorem enc_dec_N (W : List UInt32) : ∀ (n : Nat) (t : List UInt32), t.length = 4 → encN W n 1 (decN W n t) = t
  | 0, _, _ => rfl
  | n + 1, t, h => by
    have hu : (umxL (addL t W (4 * (n + 1)))).length = 4 := umxL_length _
    rw [encN_last, decN, enc_dec_N W n _ (lasL_length _ _ _ _ _), rouL_col, las_forth _ hu, umxL_col _ (addL_length _ _ _), col_forth_L, show 1 + n = n + 1 by omega, add_back _ _ _ h]
theorem dec_enc (K B : List UInt8) (h : B.length = 16) : decL K (encL K B) = B := by
  have hk := keyL_length B 4
  rw [decL, encL, decW, encW, key_txt _ (addL_length _ _ _), add_back _ _ _ (lasL_length _ _ _ _ _), las_back _ (encN_length _ _ _ _ (addL_length _ _ _)), dec_enc_N _ _ (addL_length _ _ _), add_back _ _ _ hk, txt_key _ h]
theorem enc_dec (K B : List UInt8) (h : B.length = 16) : encL K (decL K B) = B := by
  have hk := keyL_length B 4
  rw [decL, encL, decW, encW, key_txt _ (addL_length _ _ _), add_back _ _ _ (decN_length _ _ _ (lasL_length _ _ _ _ _)), enc_dec_N _ _ _ (lasL_length _ _ _ _ _), las_forth _ (addL_length _ _ _), add_back _ _ _ hk, txt_key _ h]
theorem enc_inj (K A B : List UInt8) (ha : A.length = 16) (hb : B.length = 16) (h : encL K A = encL K B) : A = B := by
  rw [← dec_enc K A ha, h, dec_enc K B hb]
end Go.Proofs.YtkedoiikkjeadaaDoor
