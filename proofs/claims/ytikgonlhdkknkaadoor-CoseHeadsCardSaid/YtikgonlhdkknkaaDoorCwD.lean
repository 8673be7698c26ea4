/- Heads: the program's walk. -/
import Derived.Test.YtikgonlhdkknkaaDoorCwC
import Derived.Test.YtikgonlhdkknkaaDoorCuF
namespace Go.Proofs.YtikgonlhdkknkaaDoor
open Go.RowKit
set_option linter.unusedVariables false
set_option linter.unusedSimpArgs false
namespace Ce
open Co (Am Ra up rcells rv UT DecR enc Its holds tell okA hdN infN widN bytesN)
set_option maxRecDepth 100000 in
set_option maxHeartbeats 6400000 in
theorem cheads_any (alg : Int) (name iv : List UInt8) (w : World) (hn : name.length ≤ 140737488351232) (hv : iv.length ≤ 140737488351232) (hU : UT w.heap.size w) :
    Calls Tryd.prog 13 #[.int .i64 alg, .string (bs name), .string (bs iv)] w (fun e w' => e = .returned (.tuple #[.string (bs (headsP alg name iv).1), .string (bs (headsP alg name iv).2.1), .int .i64 (headsP alg name iv).2.2]) ∧ Below w.heap.size w w') := by
  obtain ⟨Rz, hRz⟩ : ∃ R, headsP alg name iv = R := ⟨_, rfl⟩
  rw [hRz]
  have HR := Lib.hid hRz
  have HU := Lib.hid hU
  have z1 : (bs name).size = name.length := rfl
  have z2 : (bs iv).size = iv.length := rfl
  obtain ⟨B, hB⟩ : ∃ B, w.heap.size = B := ⟨_, rfl⟩
  have HBB := Lib.hid hB
  clear hRz hU
  go_enter Tryd.func13, Tryd.ntmps13
  go_wp2_with fail
  refine (formatOf_any alg w).mono ?_
  rintro e w1 ⟨rfl, hb1⟩
  have HB1 : Hid (Below w.heap.size w w1) := hb1
  clear hb1 hB
  obtain ⟨F, hF⟩ : ∃ F, fmtOf alg = F := ⟨_, rfl⟩
  have HF := Lib.hid hF
  rw [hF]
  clear hF
  by_cases h0 : F = 0
  case pos =>
    subst h0
    have HE : Hid (Rz = ([], [], 11)) := by show _ = _; rw [← HR.out, headsP, if_pos HF.out]
    go_wp2_with fail
    go_ret3
    exact ⟨by rw [HE.out]; rfl, HB1.out⟩
  case neg =>
  have f0 : (F == 0) = false := by simpa using h0
  have HNL := numH_lt alg (by rw [HF.out]; exact h0)
  have HN0 : Hid (¬ fmtOf alg = 0) := by show ¬ _; rw [HF.out]; exact h0
  rw [HF.out] at HNL
  have HNL := Lib.hid HNL
  by_cases h1 : 128 < name.length
  case pos =>
    have HE : Hid (Rz = ([], [], 2)) := by show _ = _; rw [← HR.out, headsP, if_neg HN0.out, if_pos (.inl h1)]
    have f1 : (128 : Int) < (name.length : Int) := by omega
    clear h0 h1
    go_wp2_with fail
    go_ret3
    exact ⟨by rw [HE.out]; rfl, HB1.out⟩
  case neg =>
  have f1 : ¬ (128 : Int) < (name.length : Int) := by omega
  by_cases h2 : 16 < iv.length
  case pos =>
    have HE : Hid (Rz = ([], [], 2)) := by show _ = _; rw [← HR.out, headsP, if_neg HN0.out, if_pos (.inr h2)]
    have f2 : (16 : Int) < (iv.length : Int) := by omega
    clear h0 h1 h2
    go_wp2_with fail
    go_ret3
    exact ⟨by rw [HE.out]; rfl, HB1.out⟩
  case neg =>
  have f2 : ¬ (16 : Int) < (iv.length : Int) := by omega
  have HE : Hid (Rz = (proH alg, looH name iv, 0)) := by show _ = _; rw [← HR.out, headsP, if_neg HN0.out, if_neg (by omega)]
  have HLN : Hid (name.length ≤ 128 ∧ iv.length ≤ 16) := ⟨by omega, by omega⟩
  obtain ⟨bb, hbb⟩ : ∃ b, (F == 6) = b := ⟨_, rfl⟩
  clear h0 h1 h2 hn hv
  go_upto_if 30 with fail
  have HBN := Lib.hid hbb
  clear hbb f0 f1 f2 z1 z2
  go_cut [10] from 30 to 34 (fun v10 wx => v10 = .int .i64 (numH alg : Int) ∧ Hid (Below w.heap.size w wx))
  case first =>
    cases bb
    case false =>
      have h6 : ¬ F = 6 := by have h := HBN.out; simpa using h
      have HAL := Lib.hid (HNL.out.2.2 h6)
      clear h6
      go_wp2_with fail
      go_meet
      case rel => exact ⟨by rw [← HAL.out], HB1.out⟩
    case true =>
      have h6 : F = 6 := by have h := HBN.out; simpa using h
      have HAL := Lib.hid (HNL.out.2.1 h6)
      have e1 : alg - 100 = (numH alg : Int) := HAL.out
      have e2 : IntKind.i64.wrap (numH alg : Int) = (numH alg : Int) := Co.wrap_fit (numH alg) (by have := HNL.out.1; unfold maxLen; omega)
      clear h6
      go_wp2_with fail
      go_meet
      case rel => exact ⟨rfl, HB1.out⟩
  case rest =>
  obtain ⟨rfl, HB⟩ := hcut
  obtain ⟨m, hm⟩ : ∃ m, numH alg = m := ⟨_, rfl⟩
  have HM : Hid (m ≤ 50 ∧ numH alg = m) := ⟨by rw [← hm]; exact HNL.out.1, hm⟩
  rw [hm]
  have e3 : IntKind.u64.wrap (m : Int) = (m : Int) := by have := HM.out.1; rw [IntKind.wrap_u64]; omega
  have hbx : Below wc.heap.size wc (wc.alloc (Obj.cells #[.int .i64 5, .int .u64 1, .string ⟨#[]⟩, .int .i64 0, .int .u64 1, .string ⟨#[]⟩, .int .i64 0, .int .u64 (m : Int), .string ⟨#[]⟩] 51)) := (Below.refl _ _).alloc (Nat.le_refl _) _
  have HBX : Hid (Below w.heap.size w (wc.alloc (Obj.cells #[.int .i64 5, .int .u64 1, .string ⟨#[]⟩, .int .i64 0, .int .u64 1, .string ⟨#[]⟩, .int .i64 0, .int .u64 (m : Int), .string ⟨#[]⟩] 51))) := HB.out.trans (hbx.mono HB.out.size)
  have EN := Co.cencode_anyO [⟨5, 1, []⟩, ⟨0, 1, []⟩, ⟨0, m, []⟩] (.slice (some ⟨wc.heap.size, 0, none⟩) 3 3) (wc.alloc (Obj.cells #[.int .i64 5, .int .u64 1, .string ⟨#[]⟩, .int .i64 0, .int .u64 1, .string ⟨#[]⟩, .int .i64 0, .int .u64 (m : Int), .string ⟨#[]⟩] 51))
    ⟨some ⟨wc.heap.size, 0, none⟩, 3, rfl, fun _ => ⟨wc.heap.size, 0, rfl, At.ofAlloc wc #[.int .i64 5, .int .u64 1, .string ⟨#[]⟩, .int .i64 0, .int .u64 1, .string ⟨#[]⟩, .int .i64 0, .int .u64 (m : Int), .string ⟨#[]⟩] 51, by simp⟩⟩
    (by intro a ha; simp only [List.mem_cons, List.mem_nil_iff, or_false] at ha; rcases ha with rfl | rfl | rfl; exact (by decide : (1 : Nat) < 18446744073709551616); exact (by decide : (1 : Nat) < 18446744073709551616); show m < _; have := HM.out.1; omega) (by intro a ha; simp only [List.mem_cons, List.mem_nil_iff, or_false] at ha; rcases ha with rfl | rfl | rfl <;> exact Nat.zero_le _) (by show 3 ≤ 140737488351232; decide) (HU.out.at HBX.out)
  rw [enc_pro m HM.out.1] at EN
  have EN := Lib.hid EN
  clear hbx hm
  go_wp2_with fail
  refine EN.out.mono ?_
  clear EN
  rintro e w2 ⟨s2, rfl, hs2, hb2⟩
  obtain rfl : s2 = bs (proH alg) := tl_inj (by rw [hs2, bs_list, proH, HM.out.2])
  have HB2 : Hid (Below w.heap.size w w2) := HBX.out.trans (hb2.mono HBX.out.size)
  dsimp only
  clear hs2 hb2
  obtain ⟨T, hT⟩ : ∃ T, w2.heap.size = T := ⟨_, rfl⟩
  go_upto_region 11 with fail
  obtain ⟨w3, hw3⟩ : ∃ q, w2.alloc (Obj.cells #[.int .i64 5, .int .u64 0, .string ⟨#[]⟩] 51) = q := ⟨_, rfl⟩
  have hO3 : w3.ownsRow T 51 3 (.slice (some ⟨T, 0, none⟩) 1 1) 1 (rcells [⟨5, 0, []⟩]) := by
    rw [← hw3, ← hT]
    exact World.ownsRow_lit (base := w2.heap.size) (e := 51) (size := 3) w2 #[.int .i64 5, .int .u64 0, .string ⟨#[]⟩] 1 (Nat.le_refl _) (by unfold maxLen; omega) rfl
  have HO3 := Lib.hid hO3
  have HB3 : Hid (Below w.heap.size w w3) := by show Below _ _ _; rw [← hw3]; exact HB2.out.alloc HB2.out.size _
  have HS3 : Hid (T < w3.heap.size ∧ w.heap.size ≤ T) := ⟨by rw [← hw3, ← hT]; simp, by rw [← hT]; exact HB2.out.size⟩
  rw [hw3]
  try rw [hT]
  clear hw3 hT hO3
  obtain ⟨i0, hi, hq⟩ := Option.map_eq_some_iff.1 Co.infoA
  simp only [Prod.mk.injEq] at hq
  obtain ⟨hz0, hz1, hz2⟩ := hq
  have HTW : Hid (w.heap.size ≤ T) := HS3.out.2
  obtain ⟨b1, hb1⟩ : ∃ b, (bs name).toList.isEmpty = b := ⟨_, rfl⟩
  go_upto_if 46 with fail
  have HB1N := Lib.hid hb1
  clear hb1
  go_cut [13] from 45 to 60 (fun v13 wx => ∃ g k c, v13 = .slice (some ⟨g, 0, none⟩) k c ∧ Hid (k = 1 + (prtH 4 name).length) ∧ Hid (wx.ownsRow T 51 3 (.slice (some ⟨g, 0, none⟩) k c) k (rcells (⟨5, oneH name, []⟩ :: prtH 4 name))) ∧ Hid (Below w.heap.size w wx) ∧ Hid (T < wx.heap.size))
  case first =>
    cases b1
    case true =>
      have hnm : name = [] := by have h := HB1N.out; rw [bs_list] at h; simpa using h
      have HP : Hid (prtH 4 name = [] ∧ oneH name = 0) := ⟨by rw [prtH, if_pos hnm], by rw [oneH, if_pos hnm]⟩
      clear hnm
      go_wp2_with fail
      go_meet
      case rel => exact ⟨T, 1, 1, rfl, by rw [HP.out.1]; rfl, by rw [HP.out.1, HP.out.2]; exact HO3.out, HB3.out, HS3.out.1⟩
    case false =>
      have hnm : ¬ name = [] := by have h := HB1N.out; rw [bs_list] at h; simpa using h
      have HP : Hid (prtH 4 name = [⟨0, 4, []⟩, ⟨2, 0, name⟩] ∧ oneH name = 1) := ⟨by rw [prtH, if_neg hnm], by rw [oneH, if_neg hnm]⟩
      have c1 := (At.ofOwnN HO3.out).cell 1 _ rfl
      have f1 := (At.ofOwnN HO3.out 1 _ rfl).2
      rw [Nat.zero_add] at c1 f1
      have hin := own_inc HO3.out 1
      have hBs : Below w.heap.size w (w3.setCell ⟨T, 1, none⟩ (.int .u64 1)) := HB3.out.setCell (p := ⟨T, 1, none⟩) HTW.out _
      clear hnm
      go_upto_region 13 with fail
      obtain ⟨w4, hw4⟩ : ∃ q, w3.setCell ⟨T, 1, none⟩ (.int .u64 1) = q := ⟨_, rfl⟩
      have hs4 : T < w4.heap.size := by rw [← hw4, Co.set_size]; exact HS3.out.1
      have hO4 : w4.ownsRow T 51 3 (.slice (some ⟨T, 0, none⟩) 1 1) 1 (rcells [⟨5, 1, []⟩]) := by rw [← hw4]; exact hin
      rw [hw4] at hBs
      try rw [hw4]
      have HO4 := Lib.hid hO4
      have HB4 := Lib.hid hBs
      have HS4 := Lib.hid hs4
      clear hin hBs hw4 c1 f1 hs4 hO4
      go_wp2_with fail
      refine (cbytes_any _ _).mono ?_
      rintro e w5 ⟨rfl, hb5⟩
      have HB5 : Hid (Below w.heap.size w w5) := HB4.out.trans (hb5.mono HB4.out.size)
      have HO5 := Lib.hid (own_below HO4.out hb5 (Nat.le_refl _))
      have HS5 : Hid (T < w5.heap.size) := Nat.lt_of_lt_of_le HS4.out hb5.size
      have hb6 : Below w5.heap.size w5 (w5.alloc (Obj.cells #[.int .i64 0, .int .u64 4, .string ⟨#[]⟩, .int .i64 2, .int .u64 0, .string (bs name)] 51)) := (Below.refl _ _).alloc (Nat.le_refl _) _
      have HO6 := Lib.hid (own_below HO5.out hb6 (Nat.le_refl _))
      clear hb5 hb6
      go_wp2_with (at_builtin; refine wpList_append_own _ rfl (.tmp 54) (.tmp 58) 46 rfl T 51 i0 _ 3 32 Tryd.underlying46 hi hz0 hz1 hz2 rfl (by decide) _ 1 (rcells [⟨5, 1, []⟩]) rfl HO6.out ⟨w5.heap.size, 0, none⟩ 2 2 (rcells [⟨0, 4, []⟩, ⟨2, 0, name⟩]) rfl rfl (Co.at_cellsO (At.ofAlloc w5 #[.int .i64 0, .int .u64 4, .string ⟨#[]⟩, .int .i64 2, .int .u64 0, .string (bs name)] 51)) (Co.rcells_one _) (by skip; unfold maxLen; omega) (by skip; omega) (by have := HS5.out; simp; omega) ?_; intro v9 w9 hown9 hgrow9 _; rw [← Co.rcells_append] at hown9; obtain ⟨a9, c9, rfl, hg9⟩ := own_form hown9; have HO9 := Lib.hid hown9; have HG9 := Lib.hid hg9; have HB9 : Hid (Below w.heap.size w w9) := (HB5.out.alloc HB5.out.size _).grown hgrow9 (by have h1 := HB5.out.size; simp; omega) (fun k hk => by have h1 := (HO6.out.lt k hk).1; have h2 := HTW.out; omega); have HS9 : Hid (T < w9.heap.size) := by { have h1 := hgrow9.size; have h2 := HS5.out; rw [World.size_alloc] at h1; show T < _; omega }; clear hown9 hgrow9 hg9)
      obtain ⟨g, rfl⟩ := HG9.out (by omega)
      go_wp2_with fail
      go_meet
      case rel => exact ⟨g, 1 + 2, c9, rfl, by rw [HP.out.1]; rfl, by rw [HP.out.1, HP.out.2]; exact HO9.out, HB9.out, HS9.out⟩
  case rest =>
  obtain ⟨g, k, c, rfl, hk, HOr, HBr, HSr⟩ := hcut
  have HK := hk
  obtain ⟨n1, hn1⟩ : ∃ n, oneH name = n := ⟨_, rfl⟩
  have hn1' : n1 ≤ 1 := by rw [← hn1, oneH]; split <;> omega
  rw [hn1] at HOr
  have HN1 := Lib.hid (And.intro hn1 hn1')
  have HKL : Hid (k ≤ 3) := by
    show k ≤ 3
    rw [HK.out, prtH]
    split <;> simp
  clear hn1 hn1' hk
  obtain ⟨b2, hb2⟩ : ∃ b, (bs iv).toList.isEmpty = b := ⟨_, rfl⟩
  go_upto_if 61 with fail
  have HB2N := Lib.hid hb2
  clear hb2
  go_cut [13] from 60 to 75 (fun v13 wx => ∃ g k c, v13 = .slice (some ⟨g, 0, none⟩) k c ∧ Hid (wx.ownsRow T 51 3 (.slice (some ⟨g, 0, none⟩) k c) k (rcells (lstH name iv))) ∧ Hid ((lstH name iv).length = k) ∧ Hid (Below w.heap.size w wx) ∧ Hid (T < wx.heap.size))
  case first =>
    cases b2
    case true =>
      have hnm : iv = [] := by have h := HB2N.out; rw [bs_list] at h; simpa using h
      have HP : Hid (lstH name iv = ⟨5, n1, []⟩ :: prtH 4 name) := by show _ = _; rw [lstH, prtH.eq_def 5, oneH.eq_def iv, if_pos hnm, if_pos hnm, HN1.out.1]; simp
      clear hnm
      go_wp2_with fail
      go_meet
      case rel => exact ⟨g, k, c, rfl, by rw [HP.out]; exact HOr.out, by show (lstH name iv).length = k; rw [HP.out, List.length_cons, HK.out, Nat.add_comm], HBr.out, HSr.out⟩
    case false =>
      have hnm : ¬ iv = [] := by have h := HB2N.out; rw [bs_list] at h; simpa using h
      obtain ⟨m2, hm2⟩ : ∃ q, n1 + 1 = q := ⟨_, rfl⟩
      have HP : Hid (lstH name iv = (⟨5, m2, []⟩ :: prtH 4 name) ++ [⟨0, 5, []⟩, ⟨2, 0, iv⟩]) := by show _ = _; rw [lstH, prtH.eq_def 5, oneH.eq_def iv, if_neg hnm, if_neg hnm, HN1.out.1, hm2]; rfl
      have e4 : (n1 : Int) + 1 = (m2 : Int) := by omega
      have e5 : IntKind.u64.wrap (m2 : Int) = (m2 : Int) := by have := HN1.out.2; rw [IntKind.wrap_u64]; omega
      have c1 := (At.ofOwnN HOr.out).cell 1 _ rfl
      have f1 := (At.ofOwnN HOr.out 1 _ rfl).2
      rw [Nat.zero_add] at c1 f1
      have hk1 : (0 : Int) < (k : Int) := by have := HK.out; omega
      have hgT := (HOr.out.lt g rfl).1
      have hin := own_inc HOr.out m2
      have hBs : Below w.heap.size w (wc.setCell ⟨g, 1, none⟩ (.int .u64 (m2 : Int))) := HBr.out.setCell (p := ⟨g, 1, none⟩) (Nat.le_trans HTW.out hgT) _
      clear hnm hm2 hgT
      go_upto_region 16 with fail
      obtain ⟨w4, hw4⟩ : ∃ q, wc.setCell ⟨g, 1, none⟩ (.int .u64 (m2 : Int)) = q := ⟨_, rfl⟩
      have hs4 : T < w4.heap.size := by rw [← hw4, Co.set_size]; exact HSr.out
      rw [hw4] at hBs hin
      try rw [hw4]
      have HO4 := Lib.hid hin
      have HB4 := Lib.hid hBs
      have HS4 := Lib.hid hs4
      clear hin hBs hw4 c1 f1 hs4 hk1 e4 e5
      go_wp2_with fail
      refine (cbytes_any _ _).mono ?_
      rintro e w5 ⟨rfl, hb5⟩
      have HB5 : Hid (Below w.heap.size w w5) := HB4.out.trans (hb5.mono HB4.out.size)
      have HO5 := Lib.hid (own_below HO4.out hb5 (Nat.le_refl _))
      have HS5 : Hid (T < w5.heap.size) := Nat.lt_of_lt_of_le HS4.out hb5.size
      have hb6 : Below w5.heap.size w5 (w5.alloc (Obj.cells #[.int .i64 0, .int .u64 5, .string ⟨#[]⟩, .int .i64 2, .int .u64 0, .string (bs iv)] 51)) := (Below.refl _ _).alloc (Nat.le_refl _) _
      have HO6 := Lib.hid (own_below HO5.out hb6 (Nat.le_refl _))
      clear hb5 hb6
      go_wp2_with (at_builtin; refine wpList_append_own _ rfl (.tmp 69) (.tmp 73) 46 rfl T 51 i0 _ 3 32 Tryd.underlying46 hi hz0 hz1 hz2 rfl (by decide) _ k (rcells (⟨5, m2, []⟩ :: prtH 4 name)) rfl HO6.out ⟨w5.heap.size, 0, none⟩ 2 2 (rcells [⟨0, 5, []⟩, ⟨2, 0, iv⟩]) rfl rfl (Co.at_cellsO (At.ofAlloc w5 #[.int .i64 0, .int .u64 5, .string ⟨#[]⟩, .int .i64 2, .int .u64 0, .string (bs iv)] 51)) (Co.rcells_one _) (by have := HKL.out; unfold maxLen; omega) (by have := HKL.out; omega) (by have := HS5.out; simp; omega) ?_; intro v9 w9 hown9 hgrow9 _; rw [← Co.rcells_append] at hown9; obtain ⟨a9, c9, rfl, hg9⟩ := own_form hown9; have HO9 := Lib.hid hown9; have HG9 := Lib.hid hg9; have HB9 : Hid (Below w.heap.size w w9) := (HB5.out.alloc HB5.out.size _).grown hgrow9 (by have h1 := HB5.out.size; simp; omega) (fun k hk => by have h1 := (HO6.out.lt k hk).1; have h2 := HTW.out; omega); have HS9 : Hid (T < w9.heap.size) := by { have h1 := hgrow9.size; have h2 := HS5.out; rw [World.size_alloc] at h1; show T < _; omega }; clear hown9 hgrow9 hg9)
      obtain ⟨g2, rfl⟩ := HG9.out (by omega)
      go_wp2_with fail
      go_meet
      case rel => exact ⟨g2, k + 2, c9, rfl, by rw [HP.out]; exact HO9.out, by show (lstH name iv).length = k + 2; rw [HP.out, List.length_append, List.length_cons, HK.out, Nat.add_comm 1]; rfl, HB9.out, HS9.out⟩
  case rest =>
  obtain ⟨g2, k2, c2, rfl, HOz, hkz, HBz, HSz⟩ := hcut
  have EN := Co.cencode_anyO (lstH name iv) _ _ (sr_own HOz.out hkz.out) lst_num (lst_text HLN.out.1 HLN.out.2) (Nat.le_trans lst_len (by decide)) (HU.out.at HBz.out)
  rw [enc_lst name iv HLN.out.1 HLN.out.2] at EN
  have EN := Lib.hid EN
  go_wp2_with fail
  refine EN.out.mono ?_
  clear EN
  rintro e w9 ⟨s9, rfl, hs9, hb9⟩
  obtain rfl : s9 = bs (looH name iv) := tl_inj (by rw [hs9, bs_list])
  have HB9 : Hid (Below w.heap.size w w9) := HBz.out.trans (hb9.mono HBz.out.size)
  clear hs9 hb9
  go_wp2_with fail
  go_ret3
  exact ⟨by rw [HE.out]; rfl, HB9.out⟩
end Ce
end Go.Proofs.YtikgonlhdkknkaaDoor
