/- JsonNormal: the walk. -/
import Derived.Test.YtilfidcomeandaaDoorJhC
import Derived.Test.YtilfidcomeandaaDoorJnE
namespace Go.Proofs.YtilfidcomeandaaDoor
open Go.RowKit
set_option linter.unusedVariables false
set_option linter.unusedSimpArgs false
namespace Jg
open Js Je Jh
open Jd (decL decP decE RetDec DecR)
open Dr (Rs Lm has lack)
set_option maxRecDepth 100000 in
set_option maxHeartbeats 6400000 in
theorem jsonNormal_walk (s : ByteArray) (d i b ro : Int) (hz : s.size ≤ 140737488351232) (w : World) (hU : UT w.heap.size w) :
    Calls Tryd.prog 6 #[.string s, .agg #[.int .i64 d, .int .i64 i, .int .i64 b, .int .i64 ro]] w (RetT w) := by
  have WK := Lib.hid (fun w hU => wakes16_any w hU)
  have D1 := Lib.hid (fun w => Jd.decode_any s d i b ro w hz)
  have MO := Lib.hid (fun w' => most_any w')
  have HU := Lib.hid hU
  have HZ := Lib.hid hz
  have HB0 : Hid (Below w.heap.size w (w.alloc (Obj.cells #[.int .i64 d, .int .i64 i, .int .i64 b, .int .i64 ro] 23))) := (Below.refl _ _).alloc (Nat.le_refl _) _
  have HL0 := Lib.hid (Lm4.ofAlloc w d i b ro)
  obtain ⟨B, hB⟩ : ∃ B, w.heap.size = B := ⟨_, rfl⟩
  rw [hB] at HL0
  have HBB := Lib.hid hB
  clear hz hU
  go_enter Tryd.func6, Tryd.ntmps6
  go_wp2_with fail
  try rw [hB]
  clear hB
  obtain ⟨w0, hw0⟩ : ∃ w0, (w.alloc (Obj.cells #[.int .i64 d, .int .i64 i, .int .i64 b, .int .i64 ro] 23)) = w0 := ⟨_, rfl⟩
  rw [hw0] at HL0 HB0
  rw [hw0]
  clear hw0
  refine (WK.out _ (HU.out.at HB0.out)).mono ?_
  rintro e w1 ⟨rfl, hb1⟩
  have HB1 : Hid (Below w.heap.size w w1) := HB0.out.trans (hb1.mono HB0.out.size)
  have HL1 := Lib.hid (HL0.out.below hb1)
  clear hb1
  have l0 := HL1.out.at0.cell 0 _ rfl
  have l1 := HL1.out.at0.cell 1 _ rfl
  have l2 := HL1.out.at0.cell 2 _ rfl
  have l3 := HL1.out.at0.cell 3 _ rfl
  rw [Nat.zero_add] at l0 l1 l2 l3
  go_wp2_with fail
  refine (D1.out _).mono ?_
  rintro e w2 ⟨r, hr, v, rfl, ho, hb2⟩
  have HB2 : Hid (Below w.heap.size w w2) := HB1.out.trans (hb2.mono HB1.out.size)
  obtain ⟨a, c, rfl, ha⟩ := own_form ho
  clear l0 l1 l2 l3 ha hb2
  cases r with
  | no c0 q b0 =>
    have hc : ¬ c0 = 0 := by
      cases hm : mayOk d i b ro with
      | false => have h9 := hr.2 hm; cases h9; decide
      | true => exact dec_ne (hr.1 hm)
    rw [show decE (.no c0 q b0) = c0 from rfl, show decL (.no c0 q b0) = [] from rfl]
    clear ho hr
    go_wp2_with fail
    go_ret
    exact ⟨rfl, HB2.out⟩
  | ok l =>
    rw [show decE (.ok l) = 0 from rfl, show decL (.ok l) = l from rfl]
    have HJ := Lib.hid (just_of hr)
    have HS2 := Lib.hid (SvE.ofOwn ho)
    rw [show decL (.ok l) = l from rfl] at HS2
    have hln : l.length ≤ 4096 := by have h1 := HJ.out.len; have h2 := HJ.out.may; omega
    have hsz : s.toList.length ≤ 262144 := by rw [tl_size]; have h1 := HJ.out.size; have h2 := HJ.out.may; omega
    have hdp : (limL d i b).depth ≤ 32 := by have h2 := HJ.out.may; show d.toNat ≤ 32; omega
    have hfit : ∀ x ∈ l, Fit x := Jn2.fit_normal hdp hln hsz HJ.out.run
    have HE := Lib.hid (Jn2.enc_normal hdp hln HJ.out.run)
    have EN := Lib.hid (fun v' w' hS' hU' => jencode_any l v' w' hS' hfit hU' (by omega))
    have HLN := Lib.hid hln
    clear hfit hsz hdp ho hr
    obtain ⟨n, hn⟩ : ∃ n, l.length = n := ⟨_, rfl⟩
    rw [hn] at HS2
    rw [hn]
    clear hn hln
    obtain ⟨pp, hpp⟩ : ∃ x, decP (.ok l) = x := ⟨_, rfl⟩
    rw [hpp]
    clear hpp
    rcases HE.out with ⟨S, hE⟩ | ⟨hE, hbig⟩
    · rw [hE] at EN
      obtain ⟨hl1, hts0, hrun⟩ := Jb.back hE
      obtain ⟨t, ht0⟩ : ∃ t : ByteArray, (⟨S.toArray⟩ : ByteArray) = t := ⟨_, rfl⟩
      have ht : t.toList = S := by rw [← ht0, Lib.toList_data]
      have hts : t.size ≤ 140737488351232 := by
        rw [← tl_size, ht]
        exact Nat.le_trans hts0 (by decide)
      have hr2 : ∃ tt k, RunsT t.toList (limL 32 4096 262144) st0 0 (.ok l) tt k := by rw [ht]; exact hrun
      have D2 := Lib.hid (fun w' => Jd.decode_any t 32 4096 262144 4096 w' hts)
      have HR := Lib.hid hr2
      have SA := Lib.hid (fun v' u' w' h1 h2 => vsame_eq l v' u' w' h1 h2 (by have := HLN.out; omega))
      have EN2 : Hid (∀ (v' : Value) (w' : World), SvE w' v' l → UT w'.heap.size w' → Calls Tryd.prog 13 #[v'] w' (fun e w'' => e = .returned (.tuple #[.string t, .int .i64 0]) ∧ Below w'.heap.size w' w'')) := fun v' w' h1 h2 => by
        have h := EN.out v' w' h1 h2
        rw [← ht0]
        exact h
      clear EN hE hl1 hts0 hrun ht0 ht hts hr2
      go_wp2_with fail
      refine (EN2.out _ _ HS2.out (HU.out.at HB2.out)).mono ?_
      rintro e w3 ⟨rfl, hb3⟩
      have HB3 : Hid (Below w.heap.size w w3) := HB2.out.trans (hb3.mono HB2.out.size)
      have HS3 := Lib.hid (HS2.out.below hb3)
      clear hb3
      go_wp2_with fail
      refine (MO.out _).mono ?_
      rintro e w4 ⟨rfl, hb4⟩
      have HB4 : Hid (Below w.heap.size w w4) := HB3.out.trans (hb4.mono HB3.out.size)
      have HS4 := Lib.hid (HS3.out.below hb4)
      clear hb4
      go_wp2_with fail
      refine (D2.out _).mono ?_
      rintro e w5 ⟨r, hr, v5, rfl, ho5, hb5⟩
      have HB5 : Hid (Below w.heap.size w w5) := HB4.out.trans (hb5.mono HB4.out.size)
      have HS5 := Lib.hid (HS4.out.below hb5)
      obtain ⟨tt, kk, h8⟩ := HR.out
      obtain ⟨tt2, kk2, h7⟩ := hr.1 (by decide)
      obtain ⟨rfl, -, -⟩ := RunsT.same _ _ h8 h7
      have HV5 : Hid (SvE w5 v5 l) := SvE.ofOwn ho5
      rw [show decE (.ok l) = 0 from rfl, show ((decP (.ok l) : Nat) : Int) = 0 from rfl]
      clear h8 h7 hb5 ho5 hr
      go_wp2_with fail
      refine (EN2.out _ _ HV5.out (HU.out.at HB5.out)).mono ?_
      rintro e w6 ⟨rfl, hb6⟩
      have HB6 : Hid (Below w.heap.size w w6) := HB5.out.trans (hb6.mono HB5.out.size)
      have HS6 := Lib.hid (HS5.out.below hb6)
      have HV6 := Lib.hid (HV5.out.below hb6)
      have SB := Lib.hid (SA.out _ _ _ HS6.out HV6.out)
      have htt : (t.toList == t.toList) = true := beq_self_eq_true _
      clear hb6
      go_wp2_with (first | (go_at_call 12; refine SB.out.mono ?_; rintro e w7 ⟨rfl, hb7⟩; have HB7 : Hid (Below w.heap.size w w7) := HB6.out.trans (hb7.mono HB6.out.size); clear hb7))
      go_ret
      exact ⟨rfl, HB7.out⟩
    · rw [hE] at EN
      rw [tl_size] at hbig
      have hb2 : 43690 < (s.size : Int) := by omega
      have hz9 : (s.size : Int) ≤ 140737488351232 := by have := HZ.out; omega
      clear hE
      go_wp2_with fail
      refine (EN.out _ _ HS2.out (HU.out.at HB2.out)).mono ?_
      rintro e w3 ⟨rfl, hb3⟩
      have HB3 : Hid (Below w.heap.size w w3) := HB2.out.trans (hb3.mono HB2.out.size)
      clear hb3
      go_wp2_with fail
      go_ret
      exact ⟨rfl, HB3.out⟩
end Jg
end Go.Proofs.YtilfidcomeandaaDoor
