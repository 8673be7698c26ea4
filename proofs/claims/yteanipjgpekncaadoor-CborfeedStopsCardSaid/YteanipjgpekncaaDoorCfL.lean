/- Behind a fault nothing more is taken. -/
import Derived.Test.YteanipjgpekncaaDoorCfH
import Derived.Test.YteanipjgpekncaaDoorCpU
namespace Go.Proofs.YteanipjgpekncaaDoor
open Go.RowKit
set_option linter.unusedVariables false
set_option linter.unusedSimpArgs false
namespace Cf
open Co
open Dr (Rs Lm has lack at0S)
set_option maxRecDepth 100000 in
set_option maxHeartbeats 1600000 in
theorem stops_walk (s t : ByteArray) (d i b ro : Int) (hz : s.size ≤ 140737488351232) (hzt : t.size ≤ 140737488351232) (w : World) (hU : UT w.heap.size w) :
    Calls Tryd.prog 12 #[.string s, .string t, .agg #[.int .i64 d, .int .i64 i, .int .i64 b, .int .i64 ro]] w (RetT w) := by
  have HU := Lib.hid hU
  have WK := Lib.hid (fun w hU => wakes20_any w hU)
  have HB0 : Hid (Below w.heap.size w (w.alloc (Obj.cells #[.int .i64 d, .int .i64 i, .int .i64 b, .int .i64 ro] 23))) := (Below.refl _ _).alloc (Nat.le_refl _) _
  have HL0 := Lib.hid (Lm4.ofAlloc w d i b ro)
  obtain ⟨B, hB⟩ : ∃ B, w.heap.size = B := ⟨_, rfl⟩
  rw [hB] at HL0
  have HBB := Lib.hid hB
  have HZ := Lib.hid (And.intro hz hzt)
  clear hU hz hzt
  go_enter Tryd.func12, Tryd.ntmps12
  go_wp2_with fail
  try rw [hB]
  clear hB
  obtain ⟨w0, hw0⟩ : ∃ x, w.alloc (Obj.cells #[.int .i64 d, .int .i64 i, .int .i64 b, .int .i64 ro] 23) = x := ⟨_, rfl⟩
  rw [hw0] at HL0 HB0
  rw [hw0]
  clear hw0
  refine (WK.out _ (HU.out.at HB0.out)).mono ?_
  rintro e w1 ⟨rfl, hb1⟩
  have HB1 : Hid (Below w.heap.size w w1) := HB0.out.trans (hb1.mono HB0.out.size)
  have HL1 := Lib.hid (HL0.out.below hb1)
  clear hb1
  have l0 := HL1.out.at0.cell 0 _ rfl
  have l1 := HL1.out.at0.cell 1 _ rfl
  have l2 := HL1.out.at0.cell 2 _ rfl
  have l3 := HL1.out.at0.cell 3 _ rfl
  rw [Nat.zero_add] at l0 l1 l2 l3
  cases hm : mayOk d i b ro with
  | false =>
    have NE := Lib.hid (new_no d i b ro w1 hm)
    have RM := Lib.hid (fun w => rmay_any d i b ro w)
    rw [hm] at RM
    clear hm
    go_wp2_with fail
    refine NE.out.mono ?_
    rintro e w2 ⟨rfl, hb2⟩
    have HB2 : Hid (Below w.heap.size w w2) := HB1.out.trans (hb2.mono HB1.out.size)
    have HL2 := Lib.hid (HL1.out.below hb2)
    clear hb2 l0 l1 l2 l3
    have l0 := HL2.out.at0.cell 0 _ rfl
    have l1 := HL2.out.at0.cell 1 _ rfl
    have l2 := HL2.out.at0.cell 2 _ rfl
    have l3 := HL2.out.at0.cell 3 _ rfl
    rw [Nat.zero_add] at l0 l1 l2 l3
    go_wp2_with fail
    refine (RM.out _).mono ?_
    rintro e w3 ⟨rfl, hb3⟩
    have HB3 : Hid (Below w.heap.size w w3) := HB2.out.trans (hb3.mono HB2.out.size)
    clear hb3
    go_wp2_with fail
    go_ret
    exact ⟨rfl, HB3.out⟩
  | true =>
    have NE := Lib.hid (new_yes d i b ro w1 hm)
    have HOK := Lib.hid (lok hm)
    clear hm
    go_wp2_with fail
    refine NE.out.mono ?_
    rintro e w2 ⟨g, rfl, hg, HF2, hb2⟩
    have HG : Hid (w.heap.size ≤ g) := Nat.le_trans HB1.out.size hg
    have HB2 : Hid (Below w.heap.size w w2) := HB1.out.trans (hb2.out.mono HB1.out.size)
    clear hg hb2 l0 l1 l2 l3
    have WR := Lib.hid (write_any w2 g (g + 1) (limL d i b) ro [] s _ _ _ HF2.out (UTg HU.out HB2.out HG.out) HOK.out HZ.out.1)
    rw [List.nil_append] at WR
    obtain ⟨F, hF⟩ : ∃ F, f0.feed Lib.validD (limL d i b) s.toList = F := ⟨_, rfl⟩
    rw [hF] at WR
    have HFE := Lib.hid (And.intro hF hF)
    clear hF
    go_wp2_with fail
    refine WR.out.mono ?_
    rintro e w3 ⟨rfl, vT3, vN3, vS3, HF3, hb3⟩
    have HB3 : Hid (Below w.heap.size w w3) := HB2.out.trans (hb3.out.low HG.out (Nat.lt_succ_self g))
    obtain ⟨ee, hee⟩ : ∃ e, F.e = e := ⟨_, rfl⟩
    rw [hee]
    clear hb3
    by_cases he : ee = 0
    · have WR2 := Lib.hid (write_any w3 g (g + 1) (limL d i b) ro s.toList ⟨#[]⟩ _ _ _ (by rw [HFE.out.1]; exact HF3.out) (UTg HU.out HB3.out HG.out) HOK.out (by decide))
      rw [show (⟨#[]⟩ : ByteArray).toList = [] from tl_mk [], List.append_nil, HFE.out.1] at WR2
      have HEE := Lib.hid hee
      subst he
      clear hee
      go_wp2_with fail
      refine WR2.out.mono ?_
      rintro e w4 ⟨rfl, vT4, vN4, vS4, HF4, hb4⟩
      rw [HEE.out]
      have HB4 : Hid (Below w.heap.size w w4) := HB3.out.trans (hb4.out.low HG.out (Nat.lt_succ_self g))
      clear hb4
      go_wp2_with fail
      go_ret
      exact ⟨rfl, HB4.out⟩
    · have x1 : (ee == 0) = false := by rw [beq_eq_false_iff_ne]; exact he
      have hans : ans F = .no ee F.pl false := by rw [ans, if_pos (by rw [hee]; exact he), hee]
      have EN := Lib.hid (end_any w3 g (g + 1) (limL d i b) ro F _ _ _ HF3.out HOK.out.p (fun h => absurd (hee.symm.trans h) he) (fun h => absurd (hee.symm.trans h) he))
      have HA := Lib.hid hans
      have HEE := Lib.hid (And.intro hee he)
      clear hee he hans
      go_wp2_with fail
      refine EN.out.mono ?_
      rintro e w4 ⟨v4, rfl, ho4, hb4⟩
      have HF4 := Lib.hid (Fm.below HF3.out hb4)
      have HB4 : Hid (Below w.heap.size w w4) := HB3.out.trans (hb4.mono HB3.out.size)
      have ST := Lib.hid (state_any w4 g (g + 1) (limL d i b) ro F _ _ _ HF4.out HOK.out.p)
      rw [HA.out]
      rw [show decP (.no ee F.pl false) = F.pl from rfl, show decE (.no ee F.pl false) = ee from rfl]
      clear ho4 hb4
      obtain ⟨pl, hpl⟩ : ∃ p, F.pl = p := ⟨_, rfl⟩
      obtain ⟨nT, hnT⟩ : ∃ p, F.T.length = p := ⟨_, rfl⟩
      obtain ⟨nG, hnG⟩ : ∃ p, F.G.length = p := ⟨_, rfl⟩
      rw [hpl]
      rw [hnT, hnG] at ST
      have HPL := Lib.hid (And.intro hpl (And.intro hnT hnG))
      clear hpl hnT hnG
      go_wp2_with fail
      refine ST.out.mono ?_
      rintro e w5 ⟨rfl, k5, rfl⟩
      have HF5 := Lib.hid (Fm.drewN HF4.out k5)
      have HB5 : Hid (Below w.heap.size w (w4.drewN k5)) := HB4.out.trans (Co.below_drewN _ _ _)
      generalize w4.drewN k5 = w5 at HF5 HB5 ⊢
      have WR2 := Lib.hid (write_any w5 g (g + 1) (limL d i b) ro s.toList t _ _ _ (by rw [HFE.out.1]; exact HF5.out) (UTg HU.out HB5.out HG.out) HOK.out HZ.out.2)
      have hfb : f0.feed Lib.validD (limL d i b) (s.toList ++ t.toList) = F := by rw [feed_append, HFE.out.1]; exact feed_bad _ _ (by rw [HEE.out.1]; exact HEE.out.2)
      rw [hfb] at WR2
      clear hfb
      go_wp2_with fail
      refine WR2.out.mono ?_
      rintro e w6 ⟨rfl, vT6, vN6, vS6, HF6, hb6⟩
      rw [HEE.out.1]
      have HB6 : Hid (Below w.heap.size w w6) := HB5.out.trans (hb6.out.low HG.out (Nat.lt_succ_self g))
      clear hb6
      have EN2 := Lib.hid (end_any w6 g (g + 1) (limL d i b) ro F _ _ _ HF6.out HOK.out.p (fun h => absurd (HEE.out.1.symm.trans h) HEE.out.2) (fun h => absurd (HEE.out.1.symm.trans h) HEE.out.2))
      go_wp2_with fail
      refine EN2.out.mono ?_
      rintro e w7 ⟨v7, rfl, ho7, hb7⟩
      have HF7 := Lib.hid (Fm.below HF6.out hb7)
      have HB7 : Hid (Below w.heap.size w w7) := HB6.out.trans (hb7.mono HB6.out.size)
      have ST2 := Lib.hid (state_any w7 g (g + 1) (limL d i b) ro F _ _ _ HF7.out HOK.out.p)
      rw [HPL.out.2.1, HPL.out.2.2] at ST2
      rw [HA.out] at ho7 ⊢
      obtain ⟨aV, cV, rfl, -⟩ := own_form ho7
      rw [show decP (.no ee F.pl false) = F.pl from rfl, show decE (.no ee F.pl false) = ee from rfl, HPL.out.1, show (decL (.no ee pl false)).length = 0 from rfl]
      clear ho7 hb7
      go_wp2_with fail
      refine ST2.out.mono ?_
      rintro e w8 ⟨rfl, k8, rfl⟩
      go_wp2_with fail
      go_ret
      exact ⟨rfl, HB7.out.trans (Co.below_drewN _ _ _)⟩
theorem cborfeedStops_walk (s t : ByteArray) (d i b ro : Int) (hz : s.size ≤ 140737488351232) (hzt : t.size ≤ 140737488351232) (w : World) (hU : UT w.heap.size w) :
    Calls Tryd.prog 12 #[.string s, .string t, .agg #[.int .i64 d, .int .i64 i, .int .i64 b, .int .i64 ro]] w (RetT w) := stops_walk s t d i b ro hz hzt w hU
end Cf
end Go.Proofs.YteanipjgpekncaaDoor
