/- The document's Decode of JSON; JsonReads' walk. -/
import Derived.Test.YtilfidcomeandaaDoorJgA
import Derived.Test.YtilfidcomeandaaDoorJrY
namespace Go.Proofs.YtilfidcomeandaaDoor
open Go.RowKit
set_option linter.unusedVariables false
set_option linter.unusedSimpArgs false
namespace Jg
open Js Je
open Jd (decL decP decE RetDec DecR)
open Dr (Rs Lm has lack)
set_option maxRecDepth 100000 in
set_option maxHeartbeats 1600000 in
theorem rdecode_any (s : ByteArray) (d i b ro : Int) (w : World) (hz : s.size ≤ 140737488351232) :
    Calls Tryd.prog 11 #[.string s, .agg #[.int .i64 d, .int .i64 i, .int .i64 b, .int .i64 ro]] w (RetDec s d i b ro w) := by
  have M := Lib.hid (fun w => rmay_any d i b ro w)
  have HL := Lib.hid (Lm4.ofAlloc w d i b ro)
  have HB0 : Hid (Below w.heap.size w (w.alloc (Obj.cells #[.int .i64 d, .int .i64 i, .int .i64 b, .int .i64 ro] 23))) := (Below.refl _ _).alloc (Nat.le_refl _) _
  cases hm : mayOk d i b ro with
  | false =>
    rw [hm] at M
    have HM := Lib.hid hm
    clear hm hz
    go_enter Tryd.func11, Tryd.ntmps11
    go_wp2_with (first | (go_at_call 17; refine (M.out _).mono ?_; rintro e w1 ⟨rfl, hb1⟩))
    go_ret3
    exact ⟨.no 2 0 false, ⟨fun h => (by rw [HM.out] at h; cases h), fun _ => rfl⟩, _, rfl, World.ownsRow_nil _ _ _ _, HB0.out.trans (hb1.mono HB0.out.size)⟩
  | true =>
    rw [hm] at M
    have HM := Lib.hid hm
    have hy := mayOk_yes hm
    have RD := Lib.hid (fun w' => Jr.rread_any s (limL d i b) d i b ro (by show ((d.toNat : Nat) : Int) = d; omega) (by show ((i.toNat : Nat) : Int) = i; omega) (by show ((b.toNat : Nat) : Int) = b; omega) (by show i.toNat ≤ 4096; omega) (by show d.toNat ≤ 32; omega) (by show b.toNat ≤ 262144; omega) hz w')
    obtain ⟨B, hB⟩ : ∃ B, w.heap.size = B := ⟨_, rfl⟩
    rw [hB] at HL
    have HBB := Lib.hid hB
    clear hm hz hy
    go_enter Tryd.func11, Tryd.ntmps11
    go_wp2_with fail
    try rw [hB]
    clear hB
    obtain ⟨w0, hw0⟩ : ∃ x, w.alloc (Obj.cells #[.int .i64 d, .int .i64 i, .int .i64 b, .int .i64 ro] 23) = x := ⟨_, rfl⟩
    rw [hw0] at HL HB0
    rw [hw0]
    clear hw0
    refine (M.out _).mono ?_
    rintro e w1 ⟨rfl, hb1⟩
    have HB1 : Hid (Below w.heap.size w w1) := HB0.out.trans (hb1.mono HB0.out.size)
    have HL1 := Lib.hid (HL.out.below hb1)
    clear hb1
    have l0 := HL1.out.at0.cell 0 _ rfl
    have l1 := HL1.out.at0.cell 1 _ rfl
    have l2 := HL1.out.at0.cell 2 _ rfl
    have l3 := HL1.out.at0.cell 3 _ rfl
    rw [Nat.zero_add] at l0 l1 l2 l3
    go_wp2_with fail
    refine (RD.out _).mono ?_
    rintro e w2 (⟨l, v, tk, fr, hr, rfl, ho, hb2⟩ | ⟨c, q, bb, tk, fr, hr, rfl, hb2⟩)
    · have HB2 : Hid (Below w.heap.size w w2) := HB1.out.trans (hb2.out.mono HB1.out.size)
      have HO : Hid (w2.ownsRow (w.heap.size + 1) 61 3 v l.length (vcells l)) := Jr.own_base ho.out (Nat.succ_le_succ HB1.out.size)
      have HR := Lib.hid hr
      unfold Jr.rg11
      clear l0 l1 l2 l3 hb2 hr ho
      go_wp2_with fail
      go_quiet (fail)
      go_wp2_with fail
      go_ret3
      exact ⟨.ok l, ⟨fun _ => ⟨_, _, HR.out⟩, fun h => (by rw [HM.out] at h; cases h)⟩, _, rfl, Jr.own_base (own_drewN (HO.out.alloc _) _) (Nat.le_succ _), (HB2.out.alloc HB2.out.size _).trans (Js.below_drewN _ _ _)⟩
    · have HB2 : Hid (Below w.heap.size w w2) := HB1.out.trans (hb2.out.mono HB1.out.size)
      have HR := Lib.hid hr
      unfold Jr.rg11
      clear l0 l1 l2 l3 hb2 hr
      go_wp2_with fail
      go_quiet (fail)
      go_wp2_with fail
      go_ret3
      exact ⟨.no c q bb, ⟨fun _ => ⟨_, _, HR.out⟩, fun h => (by rw [HM.out] at h; cases h)⟩, _, rfl, World.ownsRow_nil _ _ _ _, (HB2.out.alloc HB2.out.size _).trans (Js.below_drewN _ _ _)⟩
theorem runs_len {S : List UInt8} {d i b ro : Int} {r : Rs (List Vl)} (h : DecR S d i b ro r) : (decL r).length ≤ 4096 := by
  cases hm : mayOk d i b ro with
  | false => rw [h.2 hm]; exact Nat.zero_le _
  | true =>
    rw [(dec_of h hm).1]
    have h1 := ansL_len ((finv0 (limL d i b)).write S)
    have h2 := (lok hm).i
    omega
set_option maxRecDepth 100000 in
set_option maxHeartbeats 1600000 in
theorem jsonReads_walk (s : ByteArray) (d i b ro : Int) (hz : s.size ≤ 140737488351232) (w : World) (hU : UT w.heap.size w) :
    Calls Tryd.prog 3 #[.string s, .agg #[.int .i64 d, .int .i64 i, .int .i64 b, .int .i64 ro]] w (RetT w) := by
  have WK := Lib.hid (fun w hU => wakes16_any w hU)
  have D1 := Lib.hid (fun w => Jd.decode_any s d i b ro w hz)
  have D2 := Lib.hid (fun w => rdecode_any s d i b ro w hz)
  have HU := Lib.hid hU
  have HB0 : Hid (Below w.heap.size w (w.alloc (Obj.cells #[.int .i64 d, .int .i64 i, .int .i64 b, .int .i64 ro] 23))) := (Below.refl _ _).alloc (Nat.le_refl _) _
  have HL0 := Lib.hid (Lm4.ofAlloc w d i b ro)
  obtain ⟨B, hB⟩ : ∃ B, w.heap.size = B := ⟨_, rfl⟩
  rw [hB] at HL0
  have HBB := Lib.hid hB
  clear hz hU
  go_enter Tryd.func3, Tryd.ntmps3
  go_wp2_with fail
  try rw [hB]
  clear hB
  obtain ⟨w0, hw0⟩ : ∃ x, w.alloc (Obj.cells #[.int .i64 d, .int .i64 i, .int .i64 b, .int .i64 ro] 23) = x := ⟨_, rfl⟩
  rw [hw0] at HL0 HB0
  rw [hw0]
  clear hw0
  refine (WK.out _ (HU.out.at HB0.out)).mono ?_
  rintro e w1 ⟨rfl, hb1⟩
  have HB1 : Hid (Below w.heap.size w w1) := HB0.out.trans (hb1.mono HB0.out.size)
  have HL1 := Lib.hid (HL0.out.below hb1)
  clear hb1
  have l0 := HL1.out.at0.cell 0 _ rfl
  have l1 := HL1.out.at0.cell 1 _ rfl
  have l2 := HL1.out.at0.cell 2 _ rfl
  have l3 := HL1.out.at0.cell 3 _ rfl
  rw [Nat.zero_add] at l0 l1 l2 l3
  go_wp2_with fail
  refine (D1.out _).mono ?_
  rintro e w2 ⟨r, hr, v, rfl, ho, hb2⟩
  have HB2 : Hid (Below w.heap.size w w2) := HB1.out.trans (hb2.mono HB1.out.size)
  have HL2 := Lib.hid (HL1.out.below hb2)
  have HS2 : Hid (SvE w2 v (decL r)) := SvE.ofOwn ho
  have HR := Lib.hid hr
  clear hb2 hr ho l0 l1 l2 l3
  have l0 := HL2.out.at0.cell 0 _ rfl
  have l1 := HL2.out.at0.cell 1 _ rfl
  have l2 := HL2.out.at0.cell 2 _ rfl
  have l3 := HL2.out.at0.cell 3 _ rfl
  rw [Nat.zero_add] at l0 l1 l2 l3
  obtain ⟨pp, hpp⟩ : ∃ x, decP r = x := ⟨_, rfl⟩
  obtain ⟨dd, hdd⟩ : ∃ x, decE r = x := ⟨_, rfl⟩
  rw [hpp, hdd]
  have HPD := Lib.hid (And.intro hpp hdd)
  clear hpp hdd
  go_wp2_with fail
  refine (D2.out _).mono ?_
  rintro e w3 ⟨r2, hr2, v2, rfl, ho, hb3⟩
  obtain rfl := HR.out.same hr2
  have HB3 : Hid (Below w.heap.size w w3) := HB2.out.trans (hb3.mono HB2.out.size)
  have HS3 := Lib.hid (HS2.out.below hb3)
  have HS4 : Hid (SvE w3 v2 (decL r)) := SvE.ofOwn ho
  rw [HPD.out.1, HPD.out.2]
  have SA := Lib.hid (vsame_eq (decL r) v v2 w3 HS3.out HS4.out (by have := runs_len HR.out; omega))
  clear hb3 hr2 ho l0 l1 l2 l3
  go_wp2_with (first | (go_at_call 12; refine SA.out.mono ?_; rintro e w6 ⟨rfl, hb6⟩; have HB6 : Hid (Below w.heap.size w w6) := HB3.out.trans (hb6.mono HB3.out.size); clear hb6))
  go_ret
  exact ⟨rfl, HB6.out⟩
end Jg
end Go.Proofs.YtilfidcomeandaaDoor
