/- A text in any pieces: the walk. -/
import Derived.Test.YtilfidcomeandaaJfO
import Derived.Test.YtilfidcomeandaaJfL
namespace Go.Proofs.Ytilfidcomeandaa
open Go.RowKit
set_option linter.unusedVariables false
set_option linter.unusedSimpArgs false
namespace Jn
open Js Jf
open Dr (Rs Lm has lack)
theorem tl_ap (a b : ByteArray) : (a ++ b).toList = a.toList ++ b.toList := by
  have h : ∀ x : ByteArray, x.toList = x.data.toList := fun x => by simp [Lib.toList_data]
  rw [h, h, h]; simp
/-- a slice of texts that came in -/
structure TextsF (W : World) (ad : Option Addr) (len : Nat) (ss : List ByteArray) : Prop where
  at_ : 0 < len → ∃ b off, ad = some ⟨b, off, none⟩ ∧ b < W.heap.size ∧ ∀ j, j < len → W.cell? ⟨b, off + j, none⟩ = some (.string (ss.getD j ByteArray.empty))
set_option maxRecDepth 100000 in
set_option maxHeartbeats 3200000 in
theorem pieces_walk (ad : Option Addr) (len cap : Nat) (ss : List ByteArray) (d i b ro : Int) (w : World) (hT : TextsF w ad len ss) :
    Calls Try.prog 3 #[.slice ad len cap, .agg #[.int .i64 d, .int .i64 i, .int .i64 b, .int .i64 ro]] w (RetT w) := by
  have HT := Lib.hid hT
  have WK := Lib.hid (fun w => wakes19_any w)
  have RM := Lib.hid (fun w => rmay_any d i b ro w)
  have HB0 : Hid (Below w.heap.size w (w.alloc (Obj.cells #[.int .i64 d, .int .i64 i, .int .i64 b, .int .i64 ro] 24))) := (Below.refl _ _).alloc (Nat.le_refl _) _
  have HL0 := Lib.hid (Lm4.ofAlloc w d i b ro)
  obtain ⟨B, hB⟩ : ∃ B, w.heap.size = B := ⟨_, rfl⟩
  rw [hB] at HL0
  have HBB := Lib.hid hB
  clear hT
  go_enter Try.func3, Try.ntmps3
  go_wp2_with fail
  try rw [hB]
  clear hB
  obtain ⟨w0, hw0⟩ : ∃ x, w.alloc (Obj.cells #[.int .i64 d, .int .i64 i, .int .i64 b, .int .i64 ro] 24) = x := ⟨_, rfl⟩
  rw [hw0] at HL0 HB0
  rw [hw0]
  clear hw0
  refine (WK.out _).mono ?_
  rintro e w1 ⟨rfl, hb1⟩
  have HB1 : Hid (Below w.heap.size w w1) := HB0.out.trans (hb1.mono HB0.out.size)
  have HL1 := Lib.hid (HL0.out.below hb1)
  clear hb1
  have l0 := HL1.out.at0.cell 0 _ rfl
  have l1 := HL1.out.at0.cell 1 _ rfl
  have l2 := HL1.out.at0.cell 2 _ rfl
  have l3 := HL1.out.at0.cell 3 _ rfl
  rw [Nat.zero_add] at l0 l1 l2 l3
  cases hm : mayOk d i b ro with
  | false =>
    have NE := Lib.hid (new_no d i b ro w1 hm)
    rw [hm] at RM
    clear hm
    go_wp2_with fail
    refine NE.out.mono ?_
    rintro e w2 ⟨rfl, hb2⟩
    have HB2 : Hid (Below w.heap.size w w2) := HB1.out.trans (hb2.mono HB1.out.size)
    have HL2 := Lib.hid (HL1.out.below hb2)
    clear hb2 l0 l1 l2 l3
    have l0 := HL2.out.at0.cell 0 _ rfl
    have l1 := HL2.out.at0.cell 1 _ rfl
    have l2 := HL2.out.at0.cell 2 _ rfl
    have l3 := HL2.out.at0.cell 3 _ rfl
    rw [Nat.zero_add] at l0 l1 l2 l3
    go_wp2_with fail
    refine (RM.out _).mono ?_
    rintro e w3 ⟨rfl, hb3⟩
    have HB3 : Hid (Below w.heap.size w w3) := HB2.out.trans (hb3.mono HB2.out.size)
    clear hb3
    go_wp2_with fail
    go_ret
    exact ⟨rfl, HB3.out⟩
  | true =>
    have NE := Lib.hid (new_yes d i b ro w1 hm)
    have HOK := Lib.hid (lok hm)
    have HM := Lib.hid hm
    rw [hm] at RM
    clear hm
    go_wp2_with fail
    refine NE.out.mono ?_
    rintro e w2 ⟨g, rfl, hg, HF2, hb2⟩
    have HG : Hid (w.heap.size ≤ g) := Nat.le_trans HB1.out.size hg
    have HB2 : Hid (Below w.heap.size w w2) := HB1.out.trans (hb2.out.mono HB1.out.size)
    have HL2 := Lib.hid (HL1.out.below hb2.out)
    have HJ : Hid (B < g) := Nat.lt_of_lt_of_le HL1.out.lt hg
    clear hg hb2 l0 l1 l2 l3
    have l0 := HL2.out.at0.cell 0 _ rfl
    have l1 := HL2.out.at0.cell 1 _ rfl
    have l2 := HL2.out.at0.cell 2 _ rfl
    have l3 := HL2.out.at0.cell 3 _ rfl
    rw [Nat.zero_add] at l0 l1 l2 l3
    go_wp2_with fail
    refine (RM.out _).mono ?_
    rintro e w3 ⟨rfl, hb3⟩
    have HB3 : Hid (Below w.heap.size w w3) := HB2.out.trans (hb3.mono HB2.out.size)
    have HF3 := Lib.hid (FM.below HF2.out hb3)
    have HL3 := Lib.hid (HL2.out.below hb3)
    clear hb3 l0 l1 l2 l3
    by_cases hlen : 100 < len
    · have e1 : (100 : Int) < (len : Int) := by omega
      clear hlen
      go_wp2_with fail
      go_ret
      exact ⟨rfl, HB3.out⟩
    · have e1 : ¬ (100 : Int) < (len : Int) := by omega
      have HLEN := Lib.hid hlen
      clear hlen
      have HST : Hid (FM w3 g (g + 1) (limL d i b) ro (f0.write (limL d i b) (ByteArray.mk #[]).toList)) := by rw [show (ByteArray.mk #[]).toList = [] from tl_mk []]; exact HF3.out
      go_wp2_with fail
      clear e1
      go_loopw [7, 8, 9, 10, 11, 12, 13, 14, 15, 60] (fun v7 v8 v9 v10 v11 v12 v13 v14 v15 vi wr => ∃ (k : Nat) (all : ByteArray), v7 = .string all ∧ vi = .int .i64 (k : Int) ∧ k ≤ len ∧ all.size ≤ 4000 ∧ Hid (FM wr g (g + 1) (limL d i b) ro (f0.write (limL d i b) all.toList)) ∧ Hid (Lm4 wr B d i b ro) ∧ Hid (Below w.heap.size w wr)) (fun _ _ _ _ _ _ _ _ _ vi _ => len - (intOf vi).toNat)
      case atStart => exact ⟨0, _, rfl, rfl, Nat.zero_le _, Nat.zero_le _, HST, HL3, HB3⟩
      case round =>
        obtain ⟨k, all, rfl, rfl, hkl, has, HF, HL, HB⟩ := hrel
        clear HST HF3 HL3 HB3
        by_cases hlt : k < len
        · have e1 : (k : Int) < (len : Int) := by omega
          obtain ⟨bb, off, rfl, hbW, hcells⟩ := HT.out.at_ (by omega)
          obtain ⟨li, hli⟩ : ∃ li, ss.getD k ByteArray.empty = li := ⟨_, rfl⟩
          have HCJ : Hid (∀ w4, Below w.heap.size w w4 → w4.cell? ⟨bb, off + k, none⟩ = some (.string li)) := fun w4 h4 => by rw [← hli, ← hcells k hlt]; exact h4.cell (p := ⟨bb, off + k, none⟩) hbW
          have hci := HCJ.out wr HB.out
          have e2 : (0 : Int) ≤ (k : Int) := by omega
          have e9 : (k : Int) ≤ 100 := by have := HLEN.out; omega
          have HKL := Lib.hid hlt
          clear hcells hli hbW hkl hlt
          by_cases ha : 2000 < all.size
          · have e3 : (2000 : Int) < (all.size : Int) := by omega
            clear ha has
            go_wp2_with fail
            go_ret
            exact ⟨rfl, HB.out⟩
          · have e3 : ¬ (2000 : Int) < (all.size : Int) := by omega
            by_cases hl : 2000 < li.size
            · have e4 : (2000 : Int) < (li.size : Int) := by omega
              clear ha has hl
              go_wp2_with fail
              go_ret
              exact ⟨rfl, HB.out⟩
            · have e4 : ¬ (2000 : Int) < (li.size : Int) := by omega
              have q1 : ¬ 9223372036854775807 < all.size + li.size := by omega
              have WR := Lib.hid (write_any wr g (g + 1) (limL d i b) ro _ HF.out ((finv0 _).write _) HOK.out li (by omega))
              rw [← write_app, ← tl_ap] at WR
              obtain ⟨al2, hal2⟩ : ∃ a, all ++ li = a := ⟨_, rfl⟩
              have has2 : al2.size ≤ 4000 := by rw [← hal2, ByteArray.size_append]; omega
              rw [hal2] at WR
              have RDX := Lib.hid (fun w' => read_any al2 d i b ro HM.out (by omega) w')
              obtain ⟨F, hF⟩ : ∃ F, f0.write (limL d i b) al2.toList = F := ⟨_, rfl⟩
              rw [hF] at WR RDX
              have HFE := Lib.hid hF
              have HAS := Lib.hid has2
              clear ha has hl hF has2
              go_wp2_with fail
              refine WR.out.mono ?_
              rintro e w4 ⟨rfl, HF4, hb4⟩
              have HB4 : Hid (Below w.heap.size w w4) := HB.out.trans (low_bx hb4.out HG.out)
              have HL4 : Hid (Lm4 w4 B d i b ro) := ⟨HL.out.at0.below (low_bx hb4.out (Nat.le_refl g)) HJ.out, Nat.lt_of_lt_of_le HL.out.lt hb4.out.size⟩
              obtain ⟨ee, hee⟩ : ∃ e, F.e = e := ⟨_, rfl⟩
              rw [hee]
              have HNOW := Lib.hid hee
              have l0 := HL4.out.at0.cell 0 _ rfl
              have l1 := HL4.out.at0.cell 1 _ rfl
              have l2 := HL4.out.at0.cell 2 _ rfl
              have l3 := HL4.out.at0.cell 3 _ rfl
              rw [Nat.zero_add] at l0 l1 l2 l3
              clear hb4 hee hci
              go_wp2_with fail
              refine (RDX.out _).mono ?_
              rintro e w5 ⟨v, rfl, -, hb5⟩
              have HB5 : Hid (Below w.heap.size w w5) := HB4.out.trans (hb5.out.mono HB4.out.size)
              have HF5 := Lib.hid (FM.below HF4.out hb5.out)
              have HL5 := Lib.hid (HL4.out.below hb5.out)
              rw [HNOW.out]
              obtain ⟨pp, hpp⟩ : ∃ x, F.ansP = x := ⟨_, rfl⟩
              obtain ⟨dd, hdd⟩ : ∃ x, F.ansE = x := ⟨_, rfl⟩
              obtain ⟨tk, htk⟩ : ∃ x, F.taken = x := ⟨_, rfl⟩
              obtain ⟨fr, hfr⟩ : ∃ x, F.frames = x := ⟨_, rfl⟩
              rw [hpp, hdd, htk, hfr]
              clear hb5 hpp hdd htk hfr l0 l1 l2 l3
              go_wp2_with fail
              go_roundw
              case rel => exact ⟨k + 1, al2, rfl, by go_num, HKL.out, HAS.out, by rw [HFE.out]; exact HF5, HL5, HB5⟩
              case measure => have h9 := HKL.out; simp [intOf]; omega
        · obtain rfl : k = len := by omega
          have e1 : ¬ (k : Int) < (k : Int) := by omega
          have hFI : FInv (limL d i b) (f0.write (limL d i b) all.toList) := (finv0 _).write _
          have RDX := Lib.hid (fun w' => read_any all d i b ro HM.out (by omega) w')
          obtain ⟨F, hF⟩ : ∃ F, f0.write (limL d i b) all.toList = F := ⟨_, rfl⟩
          rw [hF] at hFI HF RDX
          have EN := Lib.hid (end_any wr g (g + 1) (limL d i b) ro F HF.out hFI HOK.out)
          have HLI : Hid (F.ansL.length ≤ 140737488351232) := by show _ ≤ _; have h1 := ansL_len hFI; have := HOK.out.i; omega
          clear hFI hF hlt hkl has
          go_wp2_with fail
          refine EN.out.mono ?_
          rintro e w4 ⟨v4, rfl, ho4, hb4⟩
          have HB4 : Hid (Below w.heap.size w w4) := HB.out.trans (hb4.mono HB.out.size)
          have HL4 := Lib.hid (HL.out.below hb4)
          have HS4 := Lib.hid (Sv.ofOwn ho4)
          have l0 := HL4.out.at0.cell 0 _ rfl
          have l1 := HL4.out.at0.cell 1 _ rfl
          have l2 := HL4.out.at0.cell 2 _ rfl
          have l3 := HL4.out.at0.cell 3 _ rfl
          rw [Nat.zero_add] at l0 l1 l2 l3
          obtain ⟨pp, hpp⟩ : ∃ x, F.ansP = x := ⟨_, rfl⟩
          obtain ⟨dd, hdd⟩ : ∃ x, F.ansE = x := ⟨_, rfl⟩
          rw [hpp, hdd]
          have HPD := Lib.hid (And.intro hpp hdd)
          clear hb4 ho4 hpp hdd
          go_wp2_with fail
          refine (RDX.out _).mono ?_
          rintro e w5 ⟨v5, rfl, HS5, hb5⟩
          have HB5 : Hid (Below w.heap.size w w5) := HB4.out.trans (hb5.out.mono HB4.out.size)
          have HS45 := Lib.hid (HS4.out.below hb5.out)
          rw [HPD.out.1, HPD.out.2]
          have SA := Lib.hid (vsame_eq F.ansL v4 v5 w5 HS45.out HS5.out HLI.out)
          obtain ⟨tk, htk⟩ : ∃ x, F.taken = x := ⟨_, rfl⟩
          obtain ⟨fr, hfr⟩ : ∃ x, F.frames = x := ⟨_, rfl⟩
          obtain ⟨nn, hnn⟩ : ∃ x, F.e = x := ⟨_, rfl⟩
          rw [htk, hfr, hnn]
          clear hb5 hnn htk hfr l0 l1 l2 l3
          go_wp2_with (first | (go_at_call 14; refine SA.out.mono ?_; rintro e w6 ⟨rfl, hb6⟩; have HB6 : Hid (Below w.heap.size w w6) := HB5.out.trans (hb6.mono HB5.out.size); clear hb6))
          go_ret
          exact ⟨rfl, HB6.out⟩
theorem jsonfeedPieces_walk (ad : Option Addr) (len cap : Nat) (ss : List ByteArray) (d i b ro : Int) (w : World) (hT : TextsF w ad len ss) :
    Calls Try.prog 3 #[.slice ad len cap, .agg #[.int .i64 d, .int .i64 i, .int .i64 b, .int .i64 ro]] w (RetT w) := pieces_walk ad len cap ss d i b ro w hT
end Jn
end Go.Proofs.Ytilfidcomeandaa
