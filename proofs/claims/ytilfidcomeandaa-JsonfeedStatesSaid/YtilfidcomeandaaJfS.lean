/- The states of a feed behind each piece: the walk. -/
import Derived.Test.YtilfidcomeandaaJfO
import Derived.Test.YtilfidcomeandaaJfL
namespace Go.Proofs.Ytilfidcomeandaa
open Go.RowKit
set_option linter.unusedVariables false
set_option linter.unusedSimpArgs false
namespace Jn
open Js Jf
open Dr (Rs Lm has lack)
theorem tl_ap (a b : ByteArray) : (a ++ b).toList = a.toList ++ b.toList := by
  have h : ∀ x : ByteArray, x.toList = x.data.toList := fun x => by simp [Lib.toList_data]
  rw [h, h, h]; simp
/-- a slice of texts that came in -/
structure TextsF (W : World) (ad : Option Addr) (len : Nat) (ss : List ByteArray) : Prop where
  at_ : 0 < len → ∃ b off, ad = some ⟨b, off, none⟩ ∧ b < W.heap.size ∧ ∀ j, j < len → W.cell? ⟨b, off + j, none⟩ = some (.string (ss.getD j ByteArray.empty))
set_option maxRecDepth 100000 in
set_option maxHeartbeats 3200000 in
theorem states_walk (ad : Option Addr) (len cap : Nat) (ss : List ByteArray) (d i b ro : Int) (w : World) (hT : TextsF w ad len ss) :
    Calls Try.prog 4 #[.slice ad len cap, .agg #[.int .i64 d, .int .i64 i, .int .i64 b, .int .i64 ro]] w (RetT w) := by
  have HT := Lib.hid hT
  have WK := Lib.hid (fun w => wakes19_any w)
  have RM := Lib.hid (fun w => rmay_any d i b ro w)
  have HB0 : Hid (Below w.heap.size w (w.alloc (Obj.cells #[.int .i64 d, .int .i64 i, .int .i64 b, .int .i64 ro] 24))) := (Below.refl _ _).alloc (Nat.le_refl _) _
  have HL0 := Lib.hid (Lm4.ofAlloc w d i b ro)
  obtain ⟨B, hB⟩ : ∃ B, w.heap.size = B := ⟨_, rfl⟩
  rw [hB] at HL0
  have HBB := Lib.hid hB
  clear hT
  go_enter Try.func4, Try.ntmps4
  go_wp2_with fail
  try rw [hB]
  clear hB
  obtain ⟨w0, hw0⟩ : ∃ x, w.alloc (Obj.cells #[.int .i64 d, .int .i64 i, .int .i64 b, .int .i64 ro] 24) = x := ⟨_, rfl⟩
  rw [hw0] at HL0 HB0
  rw [hw0]
  clear hw0
  refine (WK.out _).mono ?_
  rintro e w1 ⟨rfl, hb1⟩
  have HB1 : Hid (Below w.heap.size w w1) := HB0.out.trans (hb1.mono HB0.out.size)
  have HL1 := Lib.hid (HL0.out.below hb1)
  clear hb1
  have l0 := HL1.out.at0.cell 0 _ rfl
  have l1 := HL1.out.at0.cell 1 _ rfl
  have l2 := HL1.out.at0.cell 2 _ rfl
  have l3 := HL1.out.at0.cell 3 _ rfl
  rw [Nat.zero_add] at l0 l1 l2 l3
  cases hm : mayOk d i b ro with
  | false =>
    have NE := Lib.hid (new_no d i b ro w1 hm)
    rw [hm] at RM
    clear hm
    go_wp2_with fail
    refine NE.out.mono ?_
    rintro e w2 ⟨rfl, hb2⟩
    have HB2 : Hid (Below w.heap.size w w2) := HB1.out.trans (hb2.mono HB1.out.size)
    have HL2 := Lib.hid (HL1.out.below hb2)
    clear hb2 l0 l1 l2 l3
    have l0 := HL2.out.at0.cell 0 _ rfl
    have l1 := HL2.out.at0.cell 1 _ rfl
    have l2 := HL2.out.at0.cell 2 _ rfl
    have l3 := HL2.out.at0.cell 3 _ rfl
    rw [Nat.zero_add] at l0 l1 l2 l3
    go_wp2_with fail
    refine (RM.out _).mono ?_
    rintro e w3 ⟨rfl, hb3⟩
    have HB3 : Hid (Below w.heap.size w w3) := HB2.out.trans (hb3.mono HB2.out.size)
    clear hb3
    go_wp2_with fail
    go_ret
    exact ⟨rfl, HB3.out⟩
  | true =>
    have NE := Lib.hid (new_yes d i b ro w1 hm)
    have HOK := Lib.hid (lok hm)
    have HM := Lib.hid hm
    rw [hm] at RM
    clear hm
    go_wp2_with fail
    refine NE.out.mono ?_
    rintro e w2 ⟨g, rfl, hg, HF2, hb2⟩
    have HG : Hid (w.heap.size ≤ g) := Nat.le_trans HB1.out.size hg
    have HB2 : Hid (Below w.heap.size w w2) := HB1.out.trans (hb2.out.mono HB1.out.size)
    have HL2 := Lib.hid (HL1.out.below hb2.out)
    have HJ : Hid (B < g) := Nat.lt_of_lt_of_le HL1.out.lt hg
    clear hg hb2 l0 l1 l2 l3
    by_cases hlen : 100 < len
    · have e1 : (100 : Int) < (len : Int) := by omega
      clear hlen
      go_wp2_with fail
      go_ret
      exact ⟨rfl, HB2.out⟩
    · have e1 : ¬ (100 : Int) < (len : Int) := by omega
      have HLEN := Lib.hid hlen
      have hlb := mayOk_yes HM.out
      clear hlen
      have HST : Hid (FM w2 g (g + 1) (limL d i b) ro (f0.write (limL d i b) (ByteArray.mk #[]).toList)) := by rw [show (ByteArray.mk #[]).toList = [] from tl_mk []]; exact HF2.out
      have HLB : Hid ((∀ n : Nat, n ≤ (limL d i b).bytes → (n : Int) ≤ b) ∧ (∀ n : Nat, n ≤ (limL d i b).depth → (n : Int) ≤ d)) := by
        show (∀ n : Nat, n ≤ b.toNat → (n : Int) ≤ b) ∧ (∀ n : Nat, n ≤ d.toNat → (n : Int) ≤ d)
        exact ⟨fun n h => by omega, fun n h => by omega⟩
      clear hlb
      go_wp2_with fail
      clear e1
      go_loopw [7, 8, 9, 10, 11, 12, 13, 14, 15, 16, 40] (fun v7 v8 v9 v10 v11 v12 v13 v14 v15 v16 vi wr => ∃ (k : Nat) (all : ByteArray), v7 = .string all ∧ vi = .int .i64 (k : Int) ∧ k ≤ len ∧ all.size ≤ 4000 ∧ Hid (FM wr g (g + 1) (limL d i b) ro (f0.write (limL d i b) all.toList)) ∧ Hid (Lm4 wr B d i b ro) ∧ Hid (Below w.heap.size w wr)) (fun _ _ _ _ _ _ _ _ _ _ vi _ => len - (intOf vi).toNat)
      case atStart => exact ⟨0, _, rfl, rfl, Nat.zero_le _, Nat.zero_le _, HST, HL2, HB2⟩
      case round =>
        obtain ⟨k, all, rfl, rfl, hkl, has, HF, HL, HB⟩ := hrel
        clear HST HF2 HL2 HB2
        by_cases hlt : k < len
        · have e1 : (k : Int) < (len : Int) := by omega
          obtain ⟨bb, off, rfl, hbW, hcells⟩ := HT.out.at_ (by omega)
          obtain ⟨li, hli⟩ : ∃ li, ss.getD k ByteArray.empty = li := ⟨_, rfl⟩
          have HCJ : Hid (∀ w4, Below w.heap.size w w4 → w4.cell? ⟨bb, off + k, none⟩ = some (.string li)) := fun w4 h4 => by rw [← hli, ← hcells k hlt]; exact h4.cell (p := ⟨bb, off + k, none⟩) hbW
          have hci := HCJ.out wr HB.out
          have e2 : (0 : Int) ≤ (k : Int) := by omega
          have e9 : (k : Int) ≤ 100 := by have := HLEN.out; omega
          have HKL := Lib.hid hlt
          clear hcells hli hbW hkl hlt
          by_cases ha : 2000 < all.size
          · have e3 : (2000 : Int) < (all.size : Int) := by omega
            clear ha has
            go_wp2_with fail
            go_ret
            exact ⟨rfl, HB.out⟩
          · have e3 : ¬ (2000 : Int) < (all.size : Int) := by omega
            by_cases hl : 2000 < li.size
            · have e4 : (2000 : Int) < (li.size : Int) := by omega
              clear ha has hl
              go_wp2_with fail
              go_ret
              exact ⟨rfl, HB.out⟩
            · have e4 : ¬ (2000 : Int) < (li.size : Int) := by omega
              have q1 : ¬ 9223372036854775807 < all.size + li.size := by omega
              have WR := Lib.hid (write_any wr g (g + 1) (limL d i b) ro _ HF.out ((finv0 _).write _) HOK.out li (by omega))
              rw [← write_app, ← tl_ap] at WR
              obtain ⟨al2, hal2⟩ : ∃ a, all ++ li = a := ⟨_, rfl⟩
              have has2 : al2.size ≤ 4000 := by rw [← hal2, ByteArray.size_append]; omega
              rw [hal2] at WR
              have RDX := Lib.hid (fun w' => read_any al2 d i b ro HM.out (by omega) w')
              have hFI : FInv (limL d i b) (f0.write (limL d i b) al2.toList) := (finv0 _).write _
              obtain ⟨F, hF⟩ : ∃ F, f0.write (limL d i b) al2.toList = F := ⟨_, rfl⟩
              rw [hF] at WR RDX hFI
              have hbd : F.taken ≤ (limL d i b).bytes ∧ F.frames ≤ (limL d i b).depth := by
                cases F with
                | run s k => exact ⟨hFI.2, hFI.1.deep⟩
                | dead e q n k => exact hFI.2
              have HBD : Hid ((F.taken : Int) ≤ b ∧ (F.frames : Int) ≤ d) := ⟨HLB.out.1 _ hbd.1, HLB.out.2 _ hbd.2⟩
              have HFI := Lib.hid hFI
              have HFE := Lib.hid hF
              have HAS := Lib.hid has2
              clear ha has hl hF has2 hFI hbd
              go_wp2_with fail
              refine WR.out.mono ?_
              rintro e w4 ⟨rfl, HF4, hb4⟩
              have HB4 : Hid (Below w.heap.size w w4) := HB.out.trans (low_bx hb4.out HG.out)
              have HL4 : Hid (Lm4 w4 B d i b ro) := ⟨HL.out.at0.below (low_bx hb4.out (Nat.le_refl g)) HJ.out, Nat.lt_of_lt_of_le HL.out.lt hb4.out.size⟩
              have EN := Lib.hid (end_any w4 g (g + 1) (limL d i b) ro F HF4.out HFI.out HOK.out)
              obtain ⟨ee, hee⟩ : ∃ e, F.e = e := ⟨_, rfl⟩
              rw [hee]
              clear hb4 hee hci
              go_wp2_with fail
              refine EN.out.mono ?_
              rintro e w5 ⟨v5, rfl, ho5, hb5⟩
              have HB5 : Hid (Below w.heap.size w w5) := HB4.out.trans (hb5.mono HB4.out.size)
              have HF5 := Lib.hid (FM.below HF4.out hb5)
              have HL5 := Lib.hid (HL4.out.below hb5)
              have ST := Lib.hid (state_any w5 g (g + 1) (limL d i b) ro F HF5.out HOK.out.p)
              obtain ⟨pp, hpp⟩ : ∃ x, F.ansP = x := ⟨_, rfl⟩
              obtain ⟨dd, hdd⟩ : ∃ x, F.ansE = x := ⟨_, rfl⟩
              obtain ⟨nn, hnn⟩ : ∃ x, F.e = x := ⟨_, rfl⟩
              obtain ⟨nT, hnT⟩ : ∃ x, F.taken = x := ⟨_, rfl⟩
              obtain ⟨nG, hnG⟩ : ∃ x, F.frames = x := ⟨_, rfl⟩
              have HVS := Lib.hid (And.intro hnn (And.intro hpp hdd))
              have HTG := Lib.hid (And.intro hnT hnG)
              rw [hpp, hdd]
              rw [hnT, hnG] at ST HBD
              clear hb5 ho5 hpp hdd hnn hnT hnG
              go_wp2_with fail
              refine ST.out.mono ?_
              rintro e w6 ⟨rfl, k6, rfl⟩
              have hb6 : Below w5.heap.size w5 (w5.drewN k6) := Js.below_drewN _ _ _
              have HB6 : Hid (Below w.heap.size w (w5.drewN k6)) := HB5.out.trans (hb6.mono HB5.out.size)
              have HF6 := Lib.hid (FM.below HF5.out hb6)
              have HL6 := Lib.hid (HL5.out.below hb6)
              generalize w5.drewN k6 = w6 at HB6 HF6 HL6 ⊢
              have l0 := HL6.out.at0.cell 0 _ rfl
              have l1 := HL6.out.at0.cell 1 _ rfl
              have l2 := HL6.out.at0.cell 2 _ rfl
              have l3 := HL6.out.at0.cell 3 _ rfl
              rw [Nat.zero_add] at l0 l1 l2 l3
              clear hb6
              go_wp2_with fail
              refine (RDX.out _).mono ?_
              rintro e w7 ⟨v7, rfl, -, hb7⟩
              have HB7 : Hid (Below w.heap.size w w7) := HB6.out.trans (hb7.out.mono HB6.out.size)
              have HF7 := Lib.hid (FM.below HF6.out hb7.out)
              have HL7 := Lib.hid (HL6.out.below hb7.out)
              have l0 := HL7.out.at0.cell 0 _ rfl
              have l1 := HL7.out.at0.cell 1 _ rfl
              have l2 := HL7.out.at0.cell 2 _ rfl
              have l3 := HL7.out.at0.cell 3 _ rfl
              rw [Nat.zero_add] at l0 l1 l2 l3
              rw [HVS.out.1, HVS.out.2.1, HVS.out.2.2, HTG.out.1, HTG.out.2]
              have e5 : ¬ b < (nT : Int) := by have := HBD.out; omega
              have e6 : ¬ d < (nG : Int) := by have := HBD.out; omega
              clear hb7
              go_wp2_with fail
              go_roundw
              case rel => exact ⟨k + 1, al2, rfl, by go_num, HKL.out, HAS.out, by rw [HFE.out]; exact HF7, HL7, HB7⟩
              case measure => have h9 := HKL.out; simp [intOf]; omega
        · obtain rfl : k = len := by omega
          have e1 : ¬ (k : Int) < (k : Int) := by omega
          clear hlt hkl has
          go_wp2_with fail
          go_ret
          exact ⟨rfl, HB.out⟩
theorem jsonfeedStates_walk (ad : Option Addr) (len cap : Nat) (ss : List ByteArray) (d i b ro : Int) (w : World) (hT : TextsF w ad len ss) :
    Calls Try.prog 4 #[.slice ad len cap, .agg #[.int .i64 d, .int .i64 i, .int .i64 b, .int .i64 ro]] w (RetT w) := states_walk ad len cap ss d i b ro w hT
end Jn
end Go.Proofs.Ytilfidcomeandaa
