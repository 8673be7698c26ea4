/- A text cut anywhere is read as at once. -/
import Derived.Test.YteanipjgpekncaaDoorCfH
import Derived.Test.YteanipjgpekncaaDoorCpU
namespace Go.Proofs.YteanipjgpekncaaDoor
open Go.RowKit
set_option linter.unusedVariables false
set_option linter.unusedSimpArgs false
namespace Cf
open Co
open Dr (Rs Lm has lack at0S)
theorem feed_inv (txt : List UInt8 → Bool) (L : Lm) (S : List UInt8) (he : (f0.feed txt L S).e = 0) : Inv S L txt (f0.feed txt L S) := by
  have h := (feed_fine S L txt S.length (Nat.le_refl _)).good
  rw [List.take_length] at h
  exact h.2 he
theorem runs_ne {S : List UInt8} {L : Lm} {txt : List UInt8 → Bool} {l : List Am} (h : Runs S L txt Op.bytesLess (.el [] [] 0) (.ok l)) : l ≠ [] := by
  cases h with
  | el h1 h2 =>
    have h3 := elS_len h1
    have h4 := Runs.long h2 l rfl
    intro h5
    rw [h5, h3] at h4
    simp at h4
theorem feed_ne {L : Lm} {txt : List UInt8 → Bool} {S : List UInt8} (he : (f0.feed txt L S).e = 0) (hm : (f0.feed txt L S).m = 3) : (f0.feed txt L S).l ≠ [] := by
  have h := feed_runs S L txt
  rw [ans, if_neg (fun h => h he), if_pos hm] at h
  exact runs_ne h
/-- a list that lies below beta, beside the feed -/
def SlB (g β : Nat) (w : World) (v : Value) (l : List Am) : Prop := ∃ a cap, v = .slice a l.length cap ∧ (l ≠ [] → ∃ k, a = some ⟨k, 0, none⟩ ∧ At w k 0 (rcells (l.map up)) ∧ k < β ∧ k ≠ g)
theorem i64_wf {a : Int} (h : (Lit.int .i64 a).wf = true) : -9223372036854775808 ≤ a ∧ a ≤ 9223372036854775807 := by
  have h2 : IntKind.i64.min ≤ a ∧ a ≤ IntKind.i64.max := by simpa [Lit.wf] using h
  have e1 : IntKind.i64.min = -9223372036854775808 := by decide
  have e2 : IntKind.i64.max = 9223372036854775807 := by decide
  omega
theorem SlB.ofOwn {w : World} {g β B : Nat} {v : Value} {l : List Am} (h : w.ownsRow B 75 3 v l.length (rcells (l.map up))) (hg : g < B) (hb : w.heap.size ≤ β) : SlB g β w v l := by
  obtain ⟨a, c, hv, ha⟩ := own_form h
  refine ⟨a, c, hv, fun hl => ?_⟩
  obtain ⟨k, rfl⟩ := ha (List.length_pos_iff.2 hl)
  rw [hv] at h
  have h1 := h.lt k rfl
  exact ⟨k, rfl, At.ofOwnN h, by omega, by omega⟩
theorem At.bx {g β k o : Nat} {w w' : World} {cs : List Value} (h : At w k o cs) (hb : Bx g β w w') (h1 : k < β) (h2 : k ≠ g) : At w' k o cs := fun j v hv => by
  obtain ⟨h3, h4⟩ := h j v hv
  have h5 := hb.block k h1 h2
  refine ⟨?_, ?_⟩
  · rw [← h3]; simp only [World.cell?, h5]
  · rw [← h4]; simp only [World.frozen?, h5]
theorem SlB.bx {g β : Nat} {w w' : World} {v : Value} {l : List Am} (h : SlB g β w v l) (hb : Bx g β w w') : SlB g β w' v l := by
  obtain ⟨a, c, hv, h1⟩ := h
  exact ⟨a, c, hv, fun hl => by obtain ⟨k, h2, h3, h4, h5⟩ := h1 hl; exact ⟨k, h2, At.bx h3 hb h4 h5, h4, h5⟩⟩
theorem SlB.sl {g β : Nat} {w : World} {v : Value} {l : List Am} (h : SlB g β w v l) (hb : β ≤ w.heap.size) : Sr w v (l.map up) := by
  obtain ⟨a, c, hv, h1⟩ := h
  exact ⟨a, c, by rw [List.length_map]; exact hv, fun hl => by obtain ⟨k, h2, h3, h4, h5⟩ := h1 (fun h => hl (by rw [h]; rfl)); exact ⟨k, h2, h3, by omega⟩⟩
theorem rebase {w : World} {g β : Nat} {L : Lm} {ro : Int} (h : FmS w g β L ro f0 (.slice none 0 0) (.slice none 0 0) (.slice none 0 0)) : FmS w g w.heap.size L ro f0 (.slice none 0 0) (.slice none 0 0) (.slice none 0 0) :=
  ⟨h.at0, World.ownsRow_nil _ _ _ _, World.ownsRow_nil _ _ _ _, World.ownsRow_nil _ _ _ _, h.lt, Nat.le_refl _⟩
set_option maxRecDepth 100000 in
set_option maxHeartbeats 1600000 in
theorem same_walk (s : ByteArray) (at_ d i b ro : Int) (hz : s.size ≤ 140737488351232) (hat : (Lit.int .i64 at_).wf = true) (w : World) (hU : UT w.heap.size w) :
    Calls Tryd.prog 11 #[.string s, .int .i64 at_, .agg #[.int .i64 d, .int .i64 i, .int .i64 b, .int .i64 ro]] w (RetT w) := by
  have HU := Lib.hid hU
  have WK := Lib.hid (fun w hU => wakes20_any w hU)
  have D1 := Lib.hid (fun w hU => decode_any s d i b ro w hz hU)
  have HB0 : Hid (Below w.heap.size w (w.alloc (Obj.cells #[.int .i64 d, .int .i64 i, .int .i64 b, .int .i64 ro] 23))) := (Below.refl _ _).alloc (Nat.le_refl _) _
  have HL0 := Lib.hid (Lm4.ofAlloc w d i b ro)
  obtain ⟨B, hB⟩ : ∃ B, w.heap.size = B := ⟨_, rfl⟩
  rw [hB] at HL0
  have HBB := Lib.hid hB
  have HZ := Lib.hid hz
  have HAT := Lib.hid hat
  clear hU hz hat
  go_enter Tryd.func11, Tryd.ntmps11
  go_wp2_with fail
  try rw [hB]
  clear hB
  obtain ⟨w0, hw0⟩ : ∃ x, w.alloc (Obj.cells #[.int .i64 d, .int .i64 i, .int .i64 b, .int .i64 ro] 23) = x := ⟨_, rfl⟩
  rw [hw0] at HL0 HB0
  rw [hw0]
  clear hw0
  refine (WK.out _ (HU.out.at HB0.out)).mono ?_
  rintro e w1 ⟨rfl, hb1⟩
  have HB1 : Hid (Below w.heap.size w w1) := HB0.out.trans (hb1.mono HB0.out.size)
  have HL1 := Lib.hid (HL0.out.below hb1)
  clear hb1
  have l0 := HL1.out.at0.cell 0 _ rfl
  have l1 := HL1.out.at0.cell 1 _ rfl
  have l2 := HL1.out.at0.cell 2 _ rfl
  have l3 := HL1.out.at0.cell 3 _ rfl
  rw [Nat.zero_add] at l0 l1 l2 l3
  cases hm : mayOk d i b ro with
  | false =>
    have NE := Lib.hid (new_no d i b ro w1 hm)
    have HM := Lib.hid hm
    clear hm
    go_wp2_with fail
    refine NE.out.mono ?_
    rintro e w2 ⟨rfl, hb2⟩
    have HB2 : Hid (Below w.heap.size w w2) := HB1.out.trans (hb2.mono HB1.out.size)
    have HL2 := Lib.hid (HL1.out.below hb2)
    clear hb2 l0 l1 l2 l3
    have l0 := HL2.out.at0.cell 0 _ rfl
    have l1 := HL2.out.at0.cell 1 _ rfl
    have l2 := HL2.out.at0.cell 2 _ rfl
    have l3 := HL2.out.at0.cell 3 _ rfl
    rw [Nat.zero_add] at l0 l1 l2 l3
    go_wp2_with fail
    refine (D1.out _ (HU.out.at HB2.out)).mono ?_
    rintro e w3 ⟨r, hr, v, rfl, ho, hb3⟩
    obtain rfl := hr.2 HM.out
    have HB3 : Hid (Below w.heap.size w w3) := HB2.out.trans (hb3.mono HB2.out.size)
    clear hb3 ho hr
    rw [show decE (.no 2 0 false) = 2 from rfl]
    go_wp2_with fail
    go_ret
    exact ⟨rfl, HB3.out⟩
  | true =>
    have NE := Lib.hid (new_yes d i b ro w1 hm)
    have HOK := Lib.hid (lok hm)
    have HM := Lib.hid hm
    clear hm
    go_wp2_with fail
    refine NE.out.mono ?_
    rintro e w2 ⟨g, rfl, hg, HF2, hb2⟩
    have HG : Hid (w.heap.size ≤ g) := Nat.le_trans HB1.out.size hg
    have HB2 : Hid (Below w.heap.size w w2) := HB1.out.trans (hb2.out.mono HB1.out.size)
    have HL2 := Lib.hid (HL1.out.below hb2.out)
    clear hg hb2 l0 l1 l2 l3
    have l0 := HL2.out.at0.cell 0 _ rfl
    have l1 := HL2.out.at0.cell 1 _ rfl
    have l2 := HL2.out.at0.cell 2 _ rfl
    have l3 := HL2.out.at0.cell 3 _ rfl
    rw [Nat.zero_add] at l0 l1 l2 l3
    go_wp2_with fail
    refine (D1.out _ (HU.out.at HB2.out)).mono ?_
    rintro e w3 ⟨r, hr, v, rfl, ho, hb3⟩
    have HB3 : Hid (Below w.heap.size w w3) := HB2.out.trans (hb3.mono HB2.out.size)
    have HF3 := Lib.hid (rebase (Fm.below HF2.out hb3))
    obtain ⟨β, hβ⟩ : ∃ b, w3.heap.size = b := ⟨_, rfl⟩
    rw [hβ] at HF3
    have HSL := Lib.hid (SlB.ofOwn (g := g) (β := β) ho (HF2.out.lt) (Nat.le_of_eq hβ))
    have HGB : Hid (g < β) := HF3.out.gb
    have hrr := Runs.same _ _ _ _ (hr.1 HM.out) (feed_runs s.toList (limL d i b) Lib.validD)
    obtain ⟨F, hF⟩ : ∃ F, f0.feed Lib.validD (limL d i b) s.toList = F := ⟨_, rfl⟩
    rw [hF] at hrr
    have hli := fun h1 => Nat.le_trans (feed_inv Lib.validD (limL d i b) s.toList h1).li HOK.out.i
    have hne := fun h1 h2 => feed_ne (txt := Lib.validD) (L := limL d i b) (S := s.toList) h1 h2
    rw [hF] at hli hne
    have HFE := Lib.hid (And.intro hF (And.intro hrr (And.intro hli hne)))
    clear hβ hb3 ho hr hF hrr hli hne l0 l1 l2 l3
    obtain ⟨pp, hpp⟩ : ∃ x, decP r = x := ⟨_, rfl⟩
    obtain ⟨ee, hee⟩ : ∃ x, decE r = x := ⟨_, rfl⟩
    rw [hpp, hee]
    have HPE := Lib.hid (And.intro hpp hee)
    obtain ⟨n, hn⟩ : ∃ n, s.size = n := ⟨_, rfl⟩
    have HN := Lib.hid hn
    clear hpp hee
    obtain ⟨k, hk⟩ : ∃ k : Nat, k = if 0 < at_ then (at_ % ((n : Int) + 1)).toNat else 0 := ⟨_, rfl⟩
    have hkn : k ≤ n := by
      rw [hk]
      split
      · have h1 := Int.emod_lt_of_pos at_ (show (0 : Int) < (n : Int) + 1 by omega)
        omega
      · omega
    have hwf := i64_wf HAT.out
    have HK := Lib.hid (And.intro hk hkn)
    have hnn : (n : Int) ≤ 140737488351232 := by have := HZ.out; omega
    have hnm : IntKind.i64.wrap ((n : Int) + 1) = (n : Int) + 1 := by have h9 := wrap_fit (n + 1) (by unfold maxLen; omega); rw [show ((n + 1 : Nat) : Int) = (n : Int) + 1 by omega] at h9; exact h9
    clear hk hkn
    go_upto_if 35 with fail
    go_cut [12] from 34 to 40 (fun v wx => v = .int .i64 (k : Int) ∧ wx = w3)
    case first =>
      by_cases hp : 0 < at_
      · have hpe : at_ % ((n : Int) + 1) = (k : Int) := by
          have h9 := HK.out.1
          rw [if_pos hp] at h9
          have h8 := Int.emod_nonneg at_ (show (n : Int) + 1 ≠ 0 by omega)
          omega
        have hp0 : 0 ≤ at_ := by omega
        have hsz : s.size = n := HN.out
        go_wp2_with fail
        go_meet
        case rel => exact ⟨by rw [hpe], rfl⟩
      · have h9 := HK.out.1
        rw [if_neg hp] at h9
        subst h9
        clear hnm
        go_wp2_with fail
        go_meet
        case rel => exact ⟨rfl, rfl⟩
    case rest =>
      obtain ⟨rfl, hwc⟩ := hcut
      subst hwc
      have hkn := HK.out.2
      have hsz : s.size = n := HN.out
      have e1 : (k : Int) ≤ (n : Int) := by omega
      obtain ⟨p1, hp1⟩ : ∃ p, s.extract 0 k = p := ⟨_, rfl⟩
      obtain ⟨p2, hp2⟩ : ∃ p, s.extract k n = p := ⟨_, rfl⟩
      have h1 : p1.toList = s.toList.take k := by rw [← hp1, tl_extract, List.drop_zero, Nat.sub_zero]
      have h2 : p2.toList = s.toList.drop k := by
        rw [← hp2, tl_extract]
        exact List.take_of_length_le (by rw [List.length_drop, tl_size, hsz]; exact Nat.le_refl _)
      have z1 : p1.size ≤ 140737488351232 := by rw [← tl_size, h1, List.length_take, tl_size]; have := HZ.out; omega
      have z2 : p2.size ≤ 140737488351232 := by rw [← tl_size, h2, List.length_drop, tl_size]; have := HZ.out; omega
      have W1 := Lib.hid (write_any wc g β (limL d i b) ro [] p1 _ _ _ HF3.out (UTg HU.out HB3.out HG.out) HOK.out z1)
      rw [List.nil_append] at W1
      have HPP := Lib.hid (And.intro h1 (And.intro h2 z2))
      clear h1 h2 z1 z2 hkn hnm hnn
      go_wp2_with fail
      refine W1.out.mono ?_
      rintro e w4 ⟨rfl, vT4, vN4, vS4, HF4, hb4⟩
      have HB4 : Hid (Below w.heap.size w w4) := HB3.out.trans (hb4.out.low HG.out HGB.out)
      have HS4 := Lib.hid (HSL.out.bx hb4.out)
      have W2 := Lib.hid (write_any w4 g β (limL d i b) ro p1.toList p2 _ _ _ HF4.out (UTg HU.out HB4.out HG.out) HOK.out HPP.out.2.2)
      rw [HPP.out.1, HPP.out.2.1, List.take_append_drop, HFE.out.1] at W2
      obtain ⟨e4, he4⟩ : ∃ e, (f0.feed Lib.validD (limL d i b) p1.toList).e = e := ⟨_, rfl⟩
      rw [he4]
      clear he4 hb4
      go_wp2_with fail
      refine W2.out.mono ?_
      rintro e w5 ⟨rfl, vT5, vN5, vS5, HF5, hb5⟩
      have HB5 : Hid (Below w.heap.size w w5) := HB4.out.trans (hb5.out.low HG.out HGB.out)
      have HS5 := Lib.hid (HS4.out.bx hb5.out)
      have EN := Lib.hid (end_any w5 g β (limL d i b) ro F _ _ _ HF5.out HOK.out.p (fun h _ => HFE.out.2.2.1 h) HFE.out.2.2.2)
      obtain ⟨e5, he5⟩ : ∃ e, F.e = e := ⟨_, rfl⟩
      rw [he5]
      clear he5 hb5
      go_wp2_with fail
      refine EN.out.mono ?_
      rintro e w6 ⟨v6, rfl, ho6, hb6⟩
      have HB6 : Hid (Below w.heap.size w w6) := HB5.out.trans (hb6.mono HB5.out.size)
      rw [← HFE.out.2.1] at ho6 ⊢
      rw [HPE.out.1, HPE.out.2]
      have HL6 := Lib.hid ((HS5.out.sl HF5.out.bs).below hb6)
      have HM6 := Lib.hid (Sr.ofOwnA ho6)
      have hln : (decL r).length ≤ 140737488351232 := by
        rw [HFE.out.2.1]
        rw [ans]
        by_cases h8 : F.e = 0
        · have h9 := HFE.out.2.2.1 h8
          rw [if_neg (fun h => h h8)]
          split
          · show F.l.length ≤ _; omega
          · exact Nat.zero_le _
        · rw [if_pos h8]
          exact Nat.zero_le _
      have SA := Lib.hid (csame_any ((decL r).map up) ((decL r).map up) v v6 w6 HL6.out HM6.out (by rw [List.length_map]; exact hln) (by rw [List.length_map]; exact hln))
      rw [decide_eq_true rfl] at SA
      have hp1 : ((pp : Int) == (pp : Int)) = true := by rw [beq_iff_eq]
      have he1 : (ee == ee) = true := by rw [beq_iff_eq]
      clear ho6 hb6 hln
      go_wp2_with (first | (go_at_call 17; refine SA.out.mono ?_; rintro e w7 ⟨rfl, hb7⟩; have HB7 : Hid (Below w.heap.size w w7) := HB6.out.trans (hb7.mono HB6.out.size); clear hb7))
      go_ret
      exact ⟨rfl, HB7.out⟩
theorem cborfeedSame_walk (s : ByteArray) (at_ d i b ro : Int) (hz : s.size ≤ 140737488351232) (hat : (Lit.int .i64 at_).wf = true) (w : World) (hU : UT w.heap.size w) :
    Calls Tryd.prog 11 #[.string s, .int .i64 at_, .agg #[.int .i64 d, .int .i64 i, .int .i64 b, .int .i64 ro]] w (RetT w) := same_walk s at_ d i b ro hz hat w hU
end Cf
end Go.Proofs.YteanipjgpekncaaDoor
