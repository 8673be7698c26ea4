/- Heads: the document's; the law's walk. -/
import Derived.Test.YtikgonlhdkknkaaDoorCwD
import Derived.Test.YtikgonlhdkknkaaDoorCuG
namespace Go.Proofs.YtikgonlhdkknkaaDoor
open Go.RowKit
set_option linter.unusedVariables false
set_option linter.unusedSimpArgs false
namespace Ce
open Co (Am Ra up rcells rv UT DecR enc Its holds tell okA hdN infN widN bytesN)
def prbH (k : UInt8) (s : List UInt8) : List UInt8 := if s = [] then [] else k :: byt s
set_option maxRecDepth 100000 in
set_option maxHeartbeats 6400000 in
theorem rheads_any (alg : Int) (name iv : List UInt8) (w : World) (hn : name.length ≤ 140737488351232) (hv : iv.length ≤ 140737488351232) :
    Calls Tryd.prog 14 #[.int .i64 alg, .string (bs name), .string (bs iv)] w (fun e w' => e = .returned (.tuple #[.string (bs (headsP alg name iv).1), .string (bs (headsP alg name iv).2.1), .int .i64 (headsP alg name iv).2.2]) ∧ Below w.heap.size w w') := by
  obtain ⟨Rz, hRz⟩ : ∃ R, headsP alg name iv = R := ⟨_, rfl⟩
  rw [hRz]
  have HR := Lib.hid hRz
  have z1 : (bs name).size = name.length := rfl
  have z2 : (bs iv).size = iv.length := rfl
  obtain ⟨B, hB⟩ : ∃ B, w.heap.size = B := ⟨_, rfl⟩
  have HBB := Lib.hid hB
  have HRR := Lib.hid (r13 alg)
  clear hRz
  go_enter Tryd.func14, Tryd.ntmps14
  go_wp2_with fail
  refine (rof_any alg w).mono ?_
  rintro e w1 ⟨rfl, hb1⟩
  have HB1 : Hid (Below w.heap.size w w1) := hb1
  clear hb1 hB
  obtain ⟨r, hr⟩ : ∃ r, of13 alg = r := ⟨_, rfl⟩
  have HRE := Lib.hid hr
  rw [hr]
  rw [show (Value.agg (r5v r).toArray) = .agg #[.int .i64 r.alg, .int .i64 r.key, .int .i64 r.iv, .int .i64 r.tag, .int .i64 r.layer] from rfl]
  clear hr
  go_upto_region 2 with fail
  obtain ⟨w2, hw2⟩ : ∃ q, w1.alloc (Obj.cells #[.int .i64 r.alg, .int .i64 r.key, .int .i64 r.iv, .int .i64 r.tag, .int .i64 r.layer] 66) = q := ⟨_, rfl⟩
  have hA2 : At w2 w1.heap.size 0 [.int .i64 r.alg, .int .i64 r.key, .int .i64 r.iv, .int .i64 r.tag, .int .i64 r.layer] := by rw [← hw2]; exact At.ofAlloc w1 _ 66
  have HB2 : Hid (Below w.heap.size w w2) := by show Below _ _ _; rw [← hw2]; exact HB1.out.alloc HB1.out.size _
  rw [hw2]
  have a0 := hA2.cell 0 _ rfl
  have a2 := hA2.cell 2 _ rfl
  rw [Nat.zero_add] at a0 a2
  clear hw2 hA2
  by_cases h0 : fmtOf alg = 0
  case pos =>
    have HE : Hid (Rz = ([], [], 11)) := by show _ = _; rw [← HR.out, headsP, if_pos h0]
    rcases HRR.out.1 h0 with hz | ⟨hz, hz2⟩
    · rw [HRE.out] at hz
      have f0 : (r.alg == 0) = true := by simpa using hz
      clear h0
      go_wp2_with fail
      go_ret3
      exact ⟨by rw [HE.out]; rfl, HB2.out⟩
    · rw [HRE.out] at hz hz2
      have f0 : (r.alg == 0) = false := by simpa using hz
      have f1 : (r.iv == 16) = true := by simpa using hz2
      clear h0
      go_wp2_with fail
      go_ret3
      exact ⟨by rw [HE.out]; rfl, HB2.out⟩
  case neg =>
  obtain ⟨hz, hz2, hz3, -, -⟩ := HRR.out.2 h0
  rw [HRE.out] at hz hz2 hz3
  have f0 : (r.alg == 0) = false := by simpa using hz
  have f16 : (r.iv == 16) = false := by simpa using hz2
  have HZ3 := Lib.hid hz3
  have HN0 := Lib.hid h0
  have HNL := Lib.hid (numH_lt alg h0)
  clear hz3
  by_cases h1 : 128 < name.length
  case pos =>
    have HE : Hid (Rz = ([], [], 2)) := by show _ = _; rw [← HR.out, headsP, if_neg HN0.out, if_pos (.inl h1)]
    have f1 : (128 : Int) < (name.length : Int) := by omega
    clear h0 h1
    go_wp2_with fail
    go_ret3
    exact ⟨by rw [HE.out]; rfl, HB2.out⟩
  case neg =>
  have f1 : ¬ (128 : Int) < (name.length : Int) := by omega
  by_cases h2 : 16 < iv.length
  case pos =>
    have HE : Hid (Rz = ([], [], 2)) := by show _ = _; rw [← HR.out, headsP, if_neg HN0.out, if_pos (.inr h2)]
    have f2 : (16 : Int) < (iv.length : Int) := by omega
    clear h0 h1 h2
    go_wp2_with fail
    go_ret3
    exact ⟨by rw [HE.out]; rfl, HB2.out⟩
  case neg =>
  have f2 : ¬ (16 : Int) < (iv.length : Int) := by omega
  have HE : Hid (Rz = (proH alg, looH name iv, 0)) := by show _ = _; rw [← HR.out, headsP, if_neg HN0.out, if_neg (by omega)]
  have HLN : Hid (name.length ≤ 128 ∧ iv.length ≤ 16) := ⟨by omega, by omega⟩
  obtain ⟨bb, hbb⟩ : ∃ b, (r.iv == 0) = b := ⟨_, rfl⟩
  clear h0 h1 h2 hn hv
  go_upto_if 34 with fail
  have HBN := Lib.hid hbb
  clear hbb f0 f1 f2 f16 a0 a2 hz hz2
  go_cut [10] from 31 to 37 (fun v10 wx => v10 = .int .i64 (numH alg : Int) ∧ Hid (Below w.heap.size w wx))
  case first =>
    cases bb
    case false =>
      have h6 : ¬ fmtOf alg = 6 := by have h := HBN.out; rw [beq_eq_false_iff_ne] at h; exact fun h6 => h (HZ3.out.2 h6)
      have HAL := Lib.hid (HNL.out.2.2 h6)
      clear h6
      go_wp2_with fail
      go_meet
      case rel => exact ⟨by rw [← HAL.out], HB2.out⟩
    case true =>
      have h6 : fmtOf alg = 6 := by have h := HBN.out; rw [beq_iff_eq] at h; exact HZ3.out.1 h
      have e1 : alg - 100 = (numH alg : Int) := HNL.out.2.1 h6
      have e2 : IntKind.i64.wrap (numH alg : Int) = (numH alg : Int) := Co.wrap_fit (numH alg) (by have := HNL.out.1; unfold maxLen; omega)
      clear h6
      go_wp2_with fail
      go_meet
      case rel => exact ⟨rfl, HB2.out⟩
  case rest =>
  obtain ⟨rfl, HB⟩ := hcut
  obtain ⟨m, hm⟩ : ∃ m, numH alg = m := ⟨_, rfl⟩
  have HM : Hid (m ≤ 50 ∧ numH alg = m) := ⟨by rw [← hm]; exact HNL.out.1, hm⟩
  rw [hm]
  clear hm
  have z1 : (bs name).size = name.length := rfl
  have z2 : (bs iv).size = iv.length := rfl
  obtain ⟨b1, hb1⟩ : ∃ b, decide (0 < name.length) = b := ⟨_, rfl⟩
  go_upto_if 39 with fail
  have HB1N := Lib.hid hb1
  clear hb1 z1
  go_cut [11, 12] from 37 to 47 (fun v11 v12 wx => v11 = .string (bs (prbH 4 name)) ∧ v12 = .int .u64 (oneH name : Int) ∧ Hid (Below w.heap.size w wx))
  case first =>
    cases b1
    case false =>
      have hnm : name = [] := by have h := HB1N.out; simp at h; exact h
      have HP : Hid (prbH 4 name = [] ∧ oneH name = 0) := ⟨by rw [prbH, if_pos hnm], by rw [oneH, if_pos hnm]⟩
      clear hnm
      go_wp2_with fail
      go_meet
      case rel => exact ⟨by rw [HP.out.1]; rfl, by rw [HP.out.2]; rfl, HB.out⟩
    case true =>
      have hnm : ¬ name = [] := by have h := HB1N.out; intro h2; rw [h2] at h; simp at h
      have HP : Hid (prbH 4 name = 4 :: byt name ∧ oneH name = 1) := ⟨by rw [prbH, if_neg hnm], by rw [oneH, if_neg hnm]⟩
      have q1 : (⟨#[4]⟩ : ByteArray) ++ bs (byt name) = bs (4 :: byt name) := by rw [show (4 :: byt name) = [4] ++ byt name from rfl, ← ss_app]; rfl
      have hbl := byt_len2 name
      have hov1 : ¬ 9223372036854775807 < 1 + (bs (byt name)).size := by rw [bs_size]; have := HLN.out.1; omega
      have q2 : (⟨#[]⟩ : ByteArray) ++ bs (4 :: byt name) = bs (4 :: byt name) := by rw [show (⟨#[]⟩ : ByteArray) = bs [] from rfl, ss_app]; rfl
      have hov2 : ¬ 9223372036854775807 < (bs (4 :: byt name)).size := by rw [bs_size, List.length_cons]; have := HLN.out.1; omega
      clear hnm hbl
      go_wp2_with fail
      refine (rbytes_any name (by have := HLN.out.1; omega) _).mono ?_
      rintro e w3 ⟨rfl, hb3⟩
      have HB3 : Hid (Below w.heap.size w w3) := HB.out.trans (hb3.mono HB.out.size)
      clear hb3
      go_wp2_with fail
      go_meet
      case rel => exact ⟨by rw [HP.out.1], by rw [HP.out.2]; rfl, HB3.out⟩
  case rest =>
  obtain ⟨rfl, rfl, HBr⟩ := hcut
  obtain ⟨n1, hn1⟩ : ∃ n, oneH name = n := ⟨_, rfl⟩
  have hn1' : n1 ≤ 1 := by rw [← hn1, oneH]; split <;> omega
  obtain ⟨P, hP⟩ : ∃ P, prbH 4 name = P := ⟨_, rfl⟩
  have HN1 : Hid (oneH name = n1 ∧ n1 ≤ 1 ∧ prbH 4 name = P ∧ P.length ≤ 138) := ⟨hn1, hn1', hP, by
    rw [← hP, prbH]
    split
    · exact Nat.zero_le _
    · have h1 := byt_len2 name
      have h2 := HLN.out.1
      rw [List.length_cons]; omega⟩
  rw [hn1, hP]
  clear hn1 hn1' hP
  have z2 : (bs iv).size = iv.length := rfl
  obtain ⟨b2, hb2⟩ : ∃ b, decide (0 < iv.length) = b := ⟨_, rfl⟩
  go_upto_if 49 with fail
  have HB2N := Lib.hid hb2
  clear hb2 z2
  go_cut [11, 12] from 47 to 57 (fun v11 v12 wx => ∃ c : Nat, v11 = .string (bs (P ++ prbH 5 iv)) ∧ v12 = .int .u64 (c : Int) ∧ Hid (c = n1 + oneH iv) ∧ Hid (Below w.heap.size w wx))
  case first =>
    cases b2
    case false =>
      have hnm : iv = [] := by have h := HB2N.out; simp at h; exact h
      have HP : Hid (prbH 5 iv = [] ∧ oneH iv = 0) := ⟨by rw [prbH, if_pos hnm], by rw [oneH, if_pos hnm]⟩
      clear hnm
      go_wp2_with fail
      go_meet
      case rel => exact ⟨n1, by rw [HP.out.1, List.append_nil], rfl, by rw [HP.out.2]; rfl, HBr.out⟩
    case true =>
      have hnm : ¬ iv = [] := by have h := HB2N.out; intro h2; rw [h2] at h; simp at h
      have HP : Hid (prbH 5 iv = 5 :: byt iv ∧ oneH iv = 1) := ⟨by rw [prbH, if_neg hnm], by rw [oneH, if_neg hnm]⟩
      have q1 : (⟨#[5]⟩ : ByteArray) ++ bs (byt iv) = bs (5 :: byt iv) := by rw [show (5 :: byt iv) = [5] ++ byt iv from rfl, ← ss_app]; rfl
      have hbl := byt_len2 iv
      have hov1 : ¬ 9223372036854775807 < 1 + (bs (byt iv)).size := by rw [bs_size]; have := HLN.out.2; omega
      have q2 : bs P ++ bs (5 :: byt iv) = bs (P ++ 5 :: byt iv) := ss_app _ _
      have hov2 : ¬ 9223372036854775807 < (bs P).size + (bs (5 :: byt iv)).size := by rw [bs_size, bs_size, List.length_cons]; have := HLN.out.2; have := HN1.out.2.2.2; omega
      obtain ⟨m2, hm2⟩ : ∃ q, n1 + 1 = q := ⟨_, rfl⟩
      have e4 : (n1 : Int) + 1 = (m2 : Int) := by omega
      have e5 : IntKind.u64.wrap (m2 : Int) = (m2 : Int) := by have := HN1.out.2.1; rw [IntKind.wrap_u64]; omega
      have HM2 := Lib.hid hm2
      clear hnm hbl hm2
      go_wp2_with fail
      refine (rbytes_any iv (by have := HLN.out.2; omega) _).mono ?_
      rintro e w3 ⟨rfl, hb3⟩
      have HB3 : Hid (Below w.heap.size w w3) := HBr.out.trans (hb3.mono HBr.out.size)
      clear hb3
      go_wp2_with fail
      go_meet
      case rel => exact ⟨m2, by rw [HP.out.1], rfl, by rw [HP.out.2]; exact HM2.out.symm, HB3.out⟩
  case rest =>
  obtain ⟨c, rfl, rfl, hc, HBz⟩ := hcut
  have e3 : IntKind.u64.wrap (m : Int) = (m : Int) := by have := HM.out.1; rw [IntKind.wrap_u64]; omega
  have HC : Hid (c = cntH name iv ∧ c ≤ 2) := by
    have h1 := hc.out
    rw [← HN1.out.1] at h1
    refine ⟨h1, ?_⟩
    have h2 : oneH name ≤ 1 := by rw [oneH]; split <;> omega
    have h3 : oneH iv ≤ 1 := by rw [oneH]; split <;> omega
    omega
  have HLO : Hid (hdN 5 c ++ (P ++ prbH 5 iv) = looH name iv) := by
    show _ = _
    rw [looH, ← HC.out.1, ← HN1.out.2.2.1]
    rfl
  have hq1 : (⟨#[161, 1]⟩ : ByteArray) ++ bs (hdN 0 m) = bs (proH alg) := by rw [proH, HM.out.2, ← ss_app]; rfl
  have hov1 : ¬ 9223372036854775807 < 2 + (bs (hdN 0 m)).size := by rw [bs_size, Co.hdN_length]; have := widN_le m; omega
  obtain ⟨Q, hQ⟩ : ∃ Q, P ++ prbH 5 iv = Q := ⟨_, rfl⟩
  have hql : Q.length ≤ 200 := by
    have h1 := HN1.out.2.2.2
    have h2 := byt_len2 iv
    have h3 := HLN.out.2
    rw [← hQ, List.length_append, prbH]
    split
    · simp; omega
    · rw [List.length_cons]; omega
  have hq2 : bs (hdN 5 c) ++ bs Q = bs (looH name iv) := by rw [ss_app, ← hQ, HLO.out]
  have hov2 : ¬ 9223372036854775807 < (bs (hdN 5 c)).size + (bs Q).size := by rw [bs_size, bs_size, Co.hdN_length]; have := widN_le c; omega
  rw [hQ]
  clear hc hQ hql
  go_wp2_with fail
  refine (Co.rhead_any 0 m (by decide) (by have := HM.out.1; omega) _).mono ?_
  rintro e w4 ⟨s4, rfl, hs4, hb4⟩
  obtain rfl : s4 = bs (hdN 0 m) := tl_inj (hs4.trans (bs_list _).symm)
  have HB4 : Hid (Below w.heap.size w w4) := HBz.out.trans (hb4.mono HBz.out.size)
  clear hs4 hb4
  go_wp2_with fail
  refine (Co.rhead_any 5 c (by decide) (by have := HC.out.2; omega) w4).mono ?_
  rintro e w5 ⟨s5, rfl, hs5, hb5⟩
  obtain rfl : s5 = bs (hdN 5 c) := tl_inj (hs5.trans (bs_list _).symm)
  have HB5 : Hid (Below w.heap.size w w5) := HB4.out.trans (hb5.mono HB4.out.size)
  clear hs5 hb5
  go_wp2_with fail
  go_ret3
  exact ⟨by rw [HE.out]; rfl, HB5.out⟩
set_option maxRecDepth 100000 in
set_option maxHeartbeats 3200000 in
theorem coseHeads_walk (alg : Int) (name iv : List UInt8) (w : World) (hn : name.length ≤ 140737488351232) (hv : iv.length ≤ 140737488351232) (hU : UT w.heap.size w) :
    Calls Tryd.prog 5 #[.int .i64 alg, .string (bs name), .string (bs iv)] w (Co.RetT w) := by
  have HU := Lib.hid hU
  have CH := Lib.hid (fun w' hU => cheads_any alg name iv w' hn hv hU)
  have RH := Lib.hid (fun w' => rheads_any alg name iv w' hn hv)
  have WK := Lib.hid (fun w hU => wakes25_any w hU)
  clear hU hn hv
  obtain ⟨A, hA⟩ : ∃ A, bs (headsP alg name iv).1 = A := ⟨_, rfl⟩
  obtain ⟨C, hC⟩ : ∃ A, bs (headsP alg name iv).2.1 = A := ⟨_, rfl⟩
  obtain ⟨D, hD⟩ : ∃ A, (headsP alg name iv).2.2 = A := ⟨_, rfl⟩
  rw [hA, hC, hD] at CH RH
  clear hA hC hD
  go_enter Tryd.func5, Tryd.ntmps5
  go_wp2_with fail
  refine (CH.out w HU.out).mono ?_
  rintro e w1 ⟨rfl, hb1⟩
  have HB1 : Hid (Below w.heap.size w w1) := hb1
  clear hb1
  go_wp2_with fail
  refine (RH.out w1).mono ?_
  rintro e w2 ⟨rfl, hb2⟩
  have HB2 : Hid (Below w.heap.size w w2) := HB1.out.trans (hb2.mono HB1.out.size)
  clear hb2
  go_wp2_with fail
  refine (WK.out w2 (HU.out.at HB2.out)).mono ?_
  rintro e w3 ⟨rfl, hb3⟩
  have HB3 : Hid (Below w.heap.size w w3) := HB2.out.trans (hb3.mono HB2.out.size)
  clear hb3
  go_wp2_with fail
  go_ret
  exact ⟨rfl, HB3.out⟩
end Ce
end Go.Proofs.YtikgonlhdkknkaaDoor
