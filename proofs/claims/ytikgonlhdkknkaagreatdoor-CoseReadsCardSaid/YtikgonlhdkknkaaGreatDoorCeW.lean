import Derived.Test.YtikgonlhdkknkaaGreatDoorCuD
set_option maxRecDepth 100000
set_option maxHeartbeats 40000000
set_option linter.unusedVariables false
set_option linter.unusedSimpArgs false
open Go.Lib (hid)
namespace Go.Proofs.YtikgonlhdkknkaaGreatDoor
open Go.RowKit
namespace Ce
open Co (Am Ra up rcells rv)
theorem i64_inZ (z : Int) (h1 : -9000000000000000000 ≤ z) (h2 : z ≤ 9000000000000000000) : IntKind.i64.wrap z = z := by simp [IntKind.wrap, IntKind.bits, IntKind.signed]; omega
theorem tag_row (n : Int) : tagOf n = (rowZ n).2.2 ∧ ivOf n = (rowZ n).2.1 := by
 rw [tagOf, ivOf, rowZ]
 cases rowOf n with
 | none => exact ⟨rfl, rfl⟩
 | some r => exact ⟨rfl, rfl⟩
theorem ext_take (s : ByteArray) (y : Nat) : (s.extract 0 y).toList = s.toList.take y := by
 rw [Lib.toList_data, Lib.toList_data, ByteArray.data_extract, Array.toList_extract]
 simp
theorem ext_drop (s : ByteArray) (y n : Nat) (hn : s.size = n) : (s.extract y n).toList = s.toList.drop y := by
 rw [Lib.toList_data, Lib.toList_data, ByteArray.data_extract, Array.toList_extract]
 subst hn
 show (s.data.toList.drop y).take (s.size - y) = _
 apply List.take_of_length_le
 rw [List.length_drop]
 exact nle _
theorem len_done {g : Nat} {w : World} {F A : Int} {vT : Value} {h lo aa tx ci : ByteArray} {d i b r : Int} {vp vl vs : Value} {y cn : Nat} (hM : Mm g w F A vT h lo aa tx (ci.extract 0 y) (ci.extract y cn) d i b r vp vl vs) (hc : ci.size = cn) (hy : y ≤ cn) :
  Mm g w F A vT h lo aa (bs tx.toList) (bs (ci.toList.take y)) (bs (ci.toList.drop y)) d i b r vp vl vs := by
 rw [bs_of, ← ext_take, ← ext_drop ci y cn hc, bs_of, bs_of]
 exact hM
def RetLen (g : Nat) (w : World) (F A : Int) (vT : Value) (h lo aa : ByteArray) (d i b r : Int) (vp vl vs : Value) (E : Int × List UInt8 × List UInt8 × List UInt8) (e : Ending) (w' : World) : Prop :=
 e = .returned (.int .i64 E.1) ∧ Bg g w w' ∧ (E.1 = 0 → Mm g w' F A vT h lo aa (bs E.2.1) (bs E.2.2.1) (bs E.2.2.2) d i b r vp vl vs)
theorem clengths_any (g : Nat) (w : World) (F A : Int) (vT : Value) (h lo aa ci tg : ByteArray) (d i b r : Int) (vp vl vs : Value) (ps : List (Am × Am))
  (hM : Mm g w F A vT h lo aa ⟨#[]⟩ ci tg d i b r vp vl vs) (hg : g < w.heap.size) (hp : Px g w vs ps) (hl : ps.length ≤ 100000) (hF : F = 5 ∨ F = 6) (hfm : fmtOf A = F) (hcs : ci.size ≤ 140737488351232) (hts : tg.size ≤ 140737488351232) :
  Calls Tryz.prog 19 #[.pointer (some ⟨g, 0, none⟩)] w (RetLen g w F A vT h lo aa d i b r vp vl vs (lenP F A ps ci.toList tg.toList)) := by
 have hr : rowOf A ≠ none := fun h => by rw [fmtOf, h] at hfm; simp only at hfm; omega
 have h60 : F = 6 → (rowZ A).2.1 = 0 := fun h => by
  subst h
  rw [fmt_row] at hfm
  by_cases h1 : rowOf A = none ∨ 4 ≤ A ∧ A ≤ 6
  ·rw [if_pos h1] at hfm; omega
  ·rw [if_neg h1] at hfm
   by_cases h0 : (rowZ A).2.1 = 0
   ·exact h0
   ·rw [if_neg h0] at hfm; omega
 have HM := hid hM
 have HG := hid hg
 have HFF := hid hF
 have HP := hid hp
 obtain ⟨E, hE⟩ : ∃ E, lenP F A ps ci.toList tg.toList = E := ⟨_, rfl⟩
 rw [hE]
 rw [lenP] at hE
 have OF := hid (of_any A w)
 unfold RetOf at OF
 have hrk := row_key hr
 rw [if_neg hr] at OF
 have htr := tag_row A
 obtain ⟨rk, hrk1⟩ : ∃ k, (rowZ A).1 = k := ⟨_, rfl⟩
 obtain ⟨riI, hri⟩ : ∃ k, (rowZ A).2.1 = k := ⟨_, rfl⟩
 obtain ⟨rtI, hrt⟩ : ∃ k, (rowZ A).2.2 = k := ⟨_, rfl⟩
 rw [hrk1, hri, hrt] at OF
 rw [hri, hrt] at hrk
 rw [hri, hrt] at htr
 obtain ⟨ri, rfl⟩ : ∃ n : Nat, riI = (n : Int) := ⟨riI.toNat, by omega⟩
 obtain ⟨rt, rfl⟩ : ∃ n : Nat, rtI = (n : Int) := ⟨rtI.toNat, by omega⟩
 rw [htr.1, htr.2, Int.toNat_natCast] at hE
 have H60 : Hid (F = 6 → ri = 0) := fun h => by have h9 := h60 h; rw [hri] at h9; omega
 have hri16 : ri ≤ 16 := by omega
 have hrt64 : rt ≤ 64 := by omega
 have FD := hid (fun (w' : World) h1 h2 => cfind_any g g 5 vs ps w' h1 h2 hl)
 have m1 := hM.z 1 _ rfl
 obtain ⟨cn, hcn⟩ : ∃ n, ci.toList.length = n := ⟨_, rfl⟩
 obtain ⟨tn, htn⟩ : ∃ n, tg.toList.length = n := ⟨_, rfl⟩
 have hcn2 : ci.size = cn := by rw [← tl_size, hcn]
 have htn2 : tg.size = tn := by rw [← tl_size, htn]
 rw [hcn, htn] at hE
 have HE := hid hE
 have HSZ : Hid (cn ≤ 140737488351232 ∧ tn ≤ 140737488351232 ∧ ci.size = cn ∧ tg.size = tn ∧ rt ≤ 64 ∧ ri ≤ 16) := ⟨by omega, by omega, hcn2, htn2, hrt64, hri16⟩
 have qN := eqN
 have qS := eqS
 clear hp hl hE hM hg hF hr h60 hfm hrk htr hrk1 hri hrt hcs hts hri16 hrt64 hcn htn hcn2 htn2
 go_enter Tryz.func19, Tryz.ntmps19
 go_wp2_with fail
 refine OF.out.mono ?_
 rintro e w1 ⟨rfl, hb1⟩
 have HM1 := hid (HM.out.below hb1 HG.out)
 have HB1 : Hid (Bg g w w1) := Bg.of hb1
 have HG1 : Hid (g < w1.heap.size) := nlt HG.out hb1.size
 have hMa := HM1.out.alloc (Obj.cells #[.int .i64 rk, .int .i64 (ri : Int), .int .i64 (rt : Int)] 88)
 have hAa := At.ofAlloc w1 #[.int .i64 rk, .int .i64 (ri : Int), .int .i64 (rt : Int)] 88
 have HB2 : Hid (Bg g w (w1.alloc (Obj.cells #[.int .i64 rk, .int .i64 (ri : Int), .int .i64 (rt : Int)] 88))) := HB1.out.alloc _
 clear hb1 m1
 go_upto_region 2 with fail
 obtain ⟨B, hB⟩ : ∃ B, w1.heap.size = B := ⟨_, rfl⟩
 rw [hB] at hAa ⊢
 obtain ⟨w2, hw2⟩ : ∃ x, w1.alloc (Obj.cells #[.int .i64 rk, .int .i64 (ri : Int), .int .i64 (rt : Int)] 88) = x := ⟨_, rfl⟩
 have HS2 : Hid (w2.heap.size = B + 1 ∧ g < B) := by refine ⟨by rw [← hw2, ← hB]; simp, by rw [← hB]; exact HG1.out⟩
 rw [hw2] at hMa hAa HB2 ⊢
 clear hw2
 have HM2 := hid hMa
 have HA2 := hid hAa
 clear hMa hAa
 have k0 := HM2.out.z 0 _ rfl
 have k7 := HM2.out.z 7 _ rfl
 have k8 := HM2.out.z 8 _ rfl
 have a1 := HA2.out.z 1 _ rfl
 have a2 := HA2.out.z 2 _ rfl
 have hcsz := HSZ.out.2.2.1
 have htsz := HSZ.out.2.2.2.1
 rcases HFF.out with rfl | rfl
 case inr =>
  have HE2 := HE.out
  rw [if_pos rfl] at HE2
  by_cases h1 : (tn : Int) = (rt : Int)
  case neg =>
   rw [if_pos h1] at HE2
   have HE3 := hid HE2
   have f1 : ((tn : Int) != (rt : Int)) = true := by simpa using h1
   have f1n : ¬ tn = rt := by omega
   clear HE2 h1
   go_wp2_with fail
   go_quiet (fail)
   go_wp2_with fail
   go_ret
   exact ⟨by rw [← HE3.out]; rfl, HB2.out.drewN _, fun h => by rw [← HE3.out] at h; cases h⟩
  obtain rfl : tn = rt := by omega
  rw [if_neg (by simp)] at HE2
  by_cases h2 : 70000 < cn
  ·rw [if_pos h2] at HE2
   have HE3 := hid HE2
   have f2 : (70000 : Int) < (cn : Int) := by omega
   clear HE2 h1 h2
   go_wp2_with fail
   go_quiet (fail)
   go_wp2_with fail
   go_ret
   exact ⟨by rw [← HE3.out]; rfl, HB2.out.drewN _, fun h => by rw [← HE3.out] at h; cases h⟩
  ·rw [if_neg h2] at HE2
   have HE3 := hid HE2
   have f2 : ¬ (70000 : Int) < (cn : Int) := by omega
   obtain rfl : ri = 0 := H60.out rfl
   clear HE2 h1 h2
   go_wp2_with fail
   go_quiet (fail)
   go_wp2_with fail
   go_ret
   refine ⟨by rw [← HE3.out]; rfl, HB2.out.drewN _, fun _ => ?_⟩
   rw [← HE3.out]
   show Mm g _ 6 A vT h lo aa (bs []) (bs ci.toList) (bs tg.toList) d i b r vp vl vs
   rw [bs_of, bs_of]
   exact HM2.out.drewN _
 case inl =>
  have HE2 := HE.out
  rw [if_neg (by decide)] at HE2
  have HP2 : Hid (Px g w2 vs ps) := HP.out.bg HB2.out
  have HG2 : Hid (g < w2.heap.size) := by show g < _; rw [HS2.out.1]; have := HS2.out.2; omega
  have F2 := hid (FD.out w2 (by have := HM2.out.cell 15 _ rfl; rwa [Nat.zero_add] at this) HP2.out)
  go_wp2_with fail
  refine F2.out.mono ?_
  rintro e w3 ⟨hn, hs, hb3⟩
  have HM3 := hid (HM2.out.below hb3 HG2.out)
  have HA3 := hid (HA2.out.below hb3 (by rw [HS2.out.1]; omega))
  have HB3 : Hid (Bg g w w3) := HB2.out.trans (Bg.of hb3)
  have HSW3 : Hid (w2.heap.size ≤ w3.heap.size) := hb3.size
  have HG3 : Hid (g < w3.heap.size) := nlt HG2.out hb3.size
  clear k0 k7 k8 a1 a2
  have k7 := HM3.out.z 7 _ rfl
  have a1 := HA3.out.z 1 _ rfl
  have a2 := HA3.out.z 2 _ rfl
  have e9 : IntKind.i64.wrap ((cn : Int) - (rt : Int)) = (cn : Int) - (rt : Int) := i64_inZ _ (by have h1 := HSZ.out; omega) (by have h1 := HSZ.out; omega)
  cases hf : find 5 ps with
  | none =>
   rw [hf] at HE2
   simp only at HE2
   have HE3 := hid HE2
   rw [hn hf]
   clear hn hs hb3 hf HE2
   go_wp2_with fail
   go_quiet (fail)
   go_wp2_with fail
   go_region
   all_goals
    go_wp2_with fail
    go_ret
   exact ⟨by rw [← HE3.out]; rfl, (HB3.out.drewN _).drew, fun h => by rw [← HE3.out] at h; cases h⟩
  | some v =>
   rw [hf] at HE2
   simp only at HE2
   obtain ⟨v1, P, rfl, hW, hP, hv⟩ := hs v hf
   obtain ⟨gp, op, pl, cp, rfl, hpl0, hx, hg1, hne1⟩ := hW.head hP
   rw [hv] at hx
   obtain ⟨kd, hkd⟩ : ∃ t, v.kind = t := ⟨_, rfl⟩
   obtain ⟨tx, htx⟩ : ∃ b : ByteArray, bs v.text = b := ⟨_, rfl⟩
   have htl : v.text = tx.toList := by rw [← htx, bs_list]
   obtain ⟨z, hz⟩ : ∃ z, tx.size = z := ⟨_, rfl⟩
   have hts : v.text.length = z := by rw [htl, tl_size, hz]
   rw [hkd, htx] at hx
   rw [hkd, hts, htl] at HE2
   have HX := hid (aIn hx (aIn hg1 hne1))
   have n0 := hx.cell 0 _ rfl
   have n2 := hx.cell 2 _ rfl
   rw [Nat.add_zero] at n0
   clear hn hs hb3 hf hx hg1 hne1 hv hP hkd htx htl hts
   go_upto_region 6 with fail
   go_quiet (fail)
   obtain ⟨w4, hw4⟩ : ∃ x, x = w3.drewN nq := ⟨_, rfl⟩
   have HM4 : Hid (Mm g w4 5 A vT h lo aa ⟨#[]⟩ ci tg d i b r vp vl vs) := by rw [hw4]; exact HM3.out.drewN nq
   have HA4 : Hid (At w4 B 0 [.int .i64 rk, .int .i64 (ri : Int), .int .i64 (rt : Int)]) := by rw [hw4]; exact HA3.out.drewN nq
   have HB4 : Hid (Bg g w w4) := by rw [hw4]; exact HB3.out.drewN nq
   have HX4 : Hid (At w4 gp op [.int .i64 (kd : Int), .int .u64 (v.num : Int), .string tx]) := by rw [hw4]; exact HX.out.1.drewN nq
   have HSW4 : Hid (w2.heap.size ≤ w4.heap.size) := by rw [hw4]; exact HSW3.out
   have HG4 : Hid (g < w4.heap.size ∧ gp < w4.heap.size) := by rw [hw4]; exact ⟨HG3.out, HX.out.2.1⟩
   rw [← hw4]
   clear hw4 n0 n2 k7 a1 a2
   have k7 := HM4.out.z 7 _ rfl
   have a1 := HA4.out.z 1 _ rfl
   have a2 := HA4.out.z 2 _ rfl
   have n0 := HX4.out.cell 0 _ rfl
   have n2 := HX4.out.cell 2 _ rfl
   rw [Nat.add_zero] at n0
   by_cases h2 : kd = 2
   case neg =>
    rw [if_pos (.inl h2)] at HE2
    have HE3 := hid HE2
    have f2 : ¬ (kd : Int) = 2 := by omega
    have f2b : ((kd : Int) != 2) = true := by simp; omega
    clear h2 HE2
    go_wp2_with fail
    go_region
    all_goals
     go_wp2_with fail
     go_ret
    exact ⟨by rw [← HE3.out]; rfl, HB4.out.drewN _, fun h => by rw [← HE3.out] at h; cases h⟩
   subst h2
   rw [show ((2 : Nat) : Int) = (2 : Int) from rfl] at n0
   by_cases h3 : z = ri
   case neg =>
    rw [if_pos (.inr (.inl (by omega)))] at HE2
    have HE3 := hid HE2
    have f3 : ¬ (z : Int) = (ri : Int) := by omega
    have f3b : ((z : Int) != (ri : Int)) = true := by simp; omega
    clear h3 HE2
    go_wp2_with fail
    go_region
    all_goals
     go_wp2_with fail
     go_ret
     exact ⟨by rw [← HE3.out]; rfl, HB4.out.drewN _, fun h => by rw [← HE3.out] at h; cases h⟩
   subst h3
   by_cases h4 : cn < rt
   ·rw [if_pos (.inr (.inr (by omega)))] at HE2
    have HE3 := hid HE2
    have f4 : (cn : Int) - (rt : Int) < 0 := by omega
    have f4b : decide ((cn : Int) - (rt : Int) < 0) = true := dtr f4
    clear h4 HE2
    go_wp2_with fail
    go_region
    all_goals
     go_wp2_with fail
     go_ret
     exact ⟨by rw [← HE3.out]; rfl, HB4.out.drewN _, fun h => by rw [← HE3.out] at h; cases h⟩
   rw [if_neg (by simp; omega)] at HE2
   obtain ⟨y, hy⟩ : ∃ y, cn - rt = y := ⟨_, rfl⟩
   have hyI : (cn : Int) - (rt : Int) = (y : Int) := by omega
   rw [hy] at HE2
   rw [hyI]
   have HY : Hid (y + rt = cn) := by show _ = _; omega
   clear h4 hy hyI e9
   have f4 : ¬ (y : Int) < 0 := by omega
   go_wp2_with fail
   go_region
   all_goals
    go_wp2_with fail
   obtain ⟨wa, hwa⟩ : ∃ x, x = w4.drew := ⟨_, rfl⟩
   rw [← hwa]
   have HMA : Hid (Mm g wa 5 A vT h lo aa ⟨#[]⟩ ci tg d i b r vp vl vs) := by rw [hwa]; exact HM4.out.drew
   have HXA : Hid (At wa gp op [.int .i64 2, .int .u64 (v.num : Int), .string tx]) := by rw [hwa]; exact HX4.out.drew
   have HBA : Hid (Bg g w wa) := by rw [hwa]; exact HB4.out.drew
   have HAA : Hid (At wa B 0 [.int .i64 rk, .int .i64 (z : Int), .int .i64 (rt : Int)]) := by rw [hwa]; exact HA4.out.drew
   have HGA : Hid (g < wa.heap.size ∧ gp < wa.heap.size ∧ B < wa.heap.size ∧ g ≠ B) := by rw [hwa]; exact ⟨HG4.out.1, HG4.out.2, nlt (by rw [HS2.out.1]; omega) HSW4.out, by have := HS2.out.2; omega⟩
   clear hwa k7 a1 a2 n0 n2
   have hcx1 : (ci.extract 0 y).size ≤ 281474976710656 := by have h1 := HSZ.out; have h2 := HY.out; rw [ByteArray.size_extract]; omega
   have hcx2 : (ci.extract y cn).size ≤ 281474976710656 := by have h1 := HSZ.out; rw [ByteArray.size_extract]; omega
   have CL1 := hid (fun w' => Co.cclone_any (ci.extract 0 y) w' hcx1)
   have CL2 := hid (fun w' => Co.cclone_any (ci.extract y cn) w' hcx2)
   have k7 := HMA.out.z 7 _ rfl
   have n2 := HXA.out.cell 2 _ rfl
   have e1 : (y : Int) ≤ (cn : Int) := by have := HY.out; omega
   have e2 : (0 : Int) ≤ (y : Int) := by omega
   clear hcx1 hcx2
   have hgb := HGA.out.2.2.2
   go_cut [] from 65 to 96 (fun wx => Hid (Mm g wx 5 A vT h lo aa tx (ci.extract 0 y) (ci.extract y cn) d i b r vp vl vs) ∧ Hid (Bg g w wx) ∧ Hid (At wx B 0 [.int .i64 rk, .int .i64 (z : Int), .int .i64 (rt : Int)]))
   case first =>
    clear hgb
    have HGB9 := hid HGA.out.2.2.2
    go_region_with (first
     | (go_at_call 38; refine (CL2.out w5).mono ?_; rintro e w6 ⟨rfl, HC6⟩; have HM6 := hid (HM5.out.below HC6.out HG5.out); have HB6 : Hid (Bg g w w6) := HB5.out.trans (Bg.of HC6.out); have S1 := hid (HM6.out.set 6 (.string tx)); have S2 := hid (S1.out.set 7 (.string (ci.extract 0 y))); have S3 := hid (S2.out.set 8 (.string (ci.extract y cn))); have z6 := HM6.out.zf 6 (by simp [mcells]); have d6 := HM6.out.z 6 _ rfl; have z7 := S1.out.zf 7 (by simp [mcells]); have d7 := S1.out.z 7 _ rfl; have z8 := S2.out.zf 8 (by simp [mcells]); have d8 := S2.out.z 8 _ rfl; have HX6 := hid (HX5.out.below HC6.out HG5x.out); have n2c := HX6.out.cell 2 _ rfl; have HA6 := hid (HA5.out.below HC6.out HG5y.out))
     | (go_at_call 38; refine (CL1.out _).mono ?_; rintro e w5 ⟨rfl, HC5⟩; have HM5 := hid ((HMA.out.drewN 1).below HC5.out HGA.out.1); have HX5 := hid ((HXA.out.drewN 1).below HC5.out HGA.out.2.1); have k7b := HM5.out.z 7 _ rfl; have n2b := HX5.out.cell 2 _ rfl; have HG5 : Hid (g < w5.heap.size) := nlt HGA.out.1 HC5.out.size; have HG5x : Hid (gp < w5.heap.size) := nlt HGA.out.2.1 HC5.out.size; have HG5y : Hid (B < w5.heap.size) := nlt HGA.out.2.2.1 HC5.out.size; have HB5 : Hid (Bg g w w5) := HBA.out.drew.trans (Bg.of HC5.out); have HA5 := hid ((HAA.out.drewN 1).below HC5.out HGA.out.2.2.1)))
    all_goals
     go_wp2_with fail
     go_meet
     case rel => exact ⟨S3.out, ((HB6.out.set 6 _).set 7 _).set 8 _, ((HA6.out.other g 6 _ (Or.inl HGB9.out)).other g 7 _ (Or.inl HGB9.out)).other g 8 _ (Or.inl HGB9.out)⟩
   case rest =>
    obtain ⟨HM9, HB9, HA9⟩ := hcut
    obtain ⟨wz, hwz⟩ : ∃ x, x = wc := ⟨_, rfl⟩
    subst hwz
    clear k7 n2 hgb
    have p7 := HM9.out.z 7 _ rfl
    have p1 := HA9.out.z 1 _ rfl
    have hsz9 : (ci.extract 0 y).size = y := by have h1 := HSZ.out; have h2 := HY.out; rw [ByteArray.size_extract]; omega
    obtain ⟨cx, hcx⟩ : ∃ b, ci.extract 0 y = b := ⟨_, rfl⟩
    rw [hcx] at p7 hsz9
    have HCX := hid hcx
    clear hcx e1 e2
    by_cases h7 : 70000 < y
    ·rw [if_pos (.inl h7)] at HE2
     have HE3 := hid HE2
     have f7 : (70000 : Int) < (y : Int) := by omega
     clear h7 HE2
     go_wp2_with fail
     go_ret
     exact ⟨by rw [← HE3.out]; rfl, HB9.out, fun h => by rw [← HE3.out] at h; cases h⟩
    have f7 : ¬ (70000 : Int) < (y : Int) := by omega
    by_cases h13 : z = 13
    ·subst h13
     rw [show ((13 : Nat) : Int) = (13 : Int) from rfl] at p1
     by_cases h65 : 65536 ≤ y
     ·rw [if_pos (.inr ⟨rfl, h65⟩)] at HE2
      have HE3 := hid HE2
      have f8 : (65536 : Int) ≤ (y : Int) := by omega
      clear h65 h7 HE2
      go_wp2_with fail
      go_ret
      exact ⟨by rw [← HE3.out]; rfl, HB9.out, fun h => by rw [← HE3.out] at h; cases h⟩
     ·rw [if_neg (by simp; omega)] at HE2
      have HE3 := hid HE2
      have f8 : ¬ (65536 : Int) ≤ (y : Int) := by omega
      clear h65 h7 HE2
      go_wp2_with fail
      go_ret
      refine ⟨by rw [← HE3.out]; rfl, HB9.out, fun _ => ?_⟩
      rw [← HE3.out]
      exact len_done HM9.out HSZ.out.2.2.1 (by have := HY.out; omega)
    ·rw [if_neg (by simp; omega)] at HE2
     have HE3 := hid HE2
     have f9 : ¬ (z : Int) = 13 := by omega
     have f9b : ((z : Int) == 13) = false := by simp; omega
     clear h13 h7 HE2
     go_wp2_with fail
     go_ret
     refine ⟨by rw [← HE3.out]; rfl, HB9.out, fun _ => ?_⟩
     rw [← HE3.out]
     exact len_done HM9.out HSZ.out.2.2.1 (by have := HY.out; omega)
end Ce
end Go.Proofs.YtikgonlhdkknkaaGreatDoor
