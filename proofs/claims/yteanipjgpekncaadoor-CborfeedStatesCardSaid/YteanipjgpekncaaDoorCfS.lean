/- The states of a feed behind each piece: the walk. -/
import Derived.Test.YteanipjgpekncaaDoorCfM
import Derived.Test.YteanipjgpekncaaDoorCfQ
import Derived.Test.YteanipjgpekncaaDoorCzG
namespace Go.Proofs.YteanipjgpekncaaDoor
open Go.RowKit
set_option linter.unusedVariables false
set_option linter.unusedSimpArgs false
namespace Cf
open Co
open Cs (RunsT feed_runsT)
open Dr (Rs Lm has lack at0S)
/-- a slice of texts that came in -/
structure TextsF (W : World) (ad : Option Addr) (len : Nat) (ss : List ByteArray) : Prop where
  at_ : 0 < len → ∃ b off, ad = some ⟨b, off, none⟩ ∧ b < W.heap.size ∧ ∀ j, j < len → W.cell? ⟨b, off + j, none⟩ = some (.string (ss.getD j ByteArray.empty))
def nowE : Rs (List Am) → Int
  | .ok _ => 0
  | .no e _ b => if b = true then 0 else e
theorem now_ans (f : Fs) : nowE (ans f) = f.e := by
  rw [ans]
  split
  · rfl
  · rename_i h
    have h1 : f.e = 0 := by simpa using h
    split
    · rw [h1]; rfl
    · rw [h1]; rfl
def RetReadT (r : Rs (List Am)) (tk fr : Nat) (w : World) (e : Ending) (w' : World) : Prop := ∃ v, e = .returned (.tuple #[v, .int .i64 (decP r : Int), .int .i64 (decE r), .int .i64 (tk : Int), .int .i64 (fr : Int), .int .i64 (nowE r)]) ∧ Hid (Below w.heap.size w w')
set_option maxRecDepth 100000 in
set_option maxHeartbeats 1600000 in
theorem read_anyT (s : ByteArray) (d i b ro : Int) (hm : mayOk d i b ro = true) (hz : s.size ≤ 140737488351232) (w : World) :
    Calls Tryd.prog 26 #[.string s, .agg #[.int .i64 d, .int .i64 i, .int .i64 b, .int .i64 ro]] w (RetReadT (ans (f0.feed Lib.validD (limL d i b) s.toList)) (f0.feed Lib.validD (limL d i b) s.toList).T.length (f0.feed Lib.validD (limL d i b) s.toList).G.length w) := by
  have hrun := (feed_runsT s.toList (limL d i b) Lib.validD).1
  generalize f0.feed Lib.validD (limL d i b) s.toList = F at hrun ⊢
  obtain ⟨R, hR⟩ : ∃ R, ans F = R := ⟨_, rfl⟩
  obtain ⟨nT, hnT⟩ : ∃ R, F.T.length = R := ⟨_, rfl⟩
  obtain ⟨nG, hnG⟩ : ∃ R, F.G.length = R := ⟨_, rfl⟩
  rw [hR, hnT, hnG] at hrun ⊢
  clear hnT hnG
  have HRUN := Lib.hid hrun
  have hy := mayOk_yes hm
  have RD := Lib.hid (fun w' => Cz.rread_any s (limL d i b) d i b ro (by show ((d.toNat : Nat) : Int) = d; omega) (by show ((i.toNat : Nat) : Int) = i; omega) (by show ((b.toNat : Nat) : Int) = b; omega) (by show i.toNat ≤ 4096; omega) (by show d.toNat ≤ 32; omega) hz w')
  have HB0 : Hid (Below w.heap.size w (w.alloc (Obj.cells #[.int .i64 d, .int .i64 i, .int .i64 b, .int .i64 ro] 23))) := (Below.refl _ _).alloc (Nat.le_refl _) _
  clear hR hrun hy hm hz
  go_enter Tryd.func26, Tryd.ntmps26
  go_wp2_with fail
  refine (RD.out _).mono ?_
  rintro e w2 (⟨l, v, tk, fr, hr, rfl, -, hb2⟩ | ⟨c, q, bb, tk, fr, hr, rfl, hb2⟩)
  · have HB2 : Hid (Below w.heap.size w w2) := HB0.out.trans (hb2.out.mono HB0.out.size)
    obtain ⟨rfl, rfl, rfl⟩ := RunsT.same hr HRUN.out
    unfold Cz.rg11
    clear hb2 hr
    go_wp2_with fail
    go_quiet (fail)
    go_wp2_with fail
    exact bodyPost_ret (v := .tuple #[v, .int .i64 0, .int .i64 0, .int .i64 (tk : Int), .int .i64 (fr : Int), .int .i64 0]) (by simp [results, Tryd.results26, go_sem]) rfl ⟨v, rfl, (HB2.out.alloc HB2.out.size _).trans (Co.below_drewN _ _ _)⟩
  · have HB2 : Hid (Below w.heap.size w w2) := HB0.out.trans (hb2.out.mono HB0.out.size)
    obtain ⟨rfl, rfl, rfl⟩ := RunsT.same hr HRUN.out
    unfold Cz.rg11
    clear hb2 hr
    cases bb with
    | true =>
      go_wp2_with fail
      go_quiet (fail)
      go_wp2_with fail
      exact bodyPost_ret (v := .tuple #[.slice none 0 0, .int .i64 (q : Int), .int .i64 c, .int .i64 (tk : Int), .int .i64 (fr : Int), .int .i64 0]) (by simp [results, Tryd.results26, go_sem]) rfl ⟨_, rfl, (HB2.out.alloc HB2.out.size _).trans (Co.below_drewN _ _ _)⟩
    | false =>
      go_wp2_with fail
      go_quiet (fail)
      go_wp2_with fail
      exact bodyPost_ret (v := .tuple #[.slice none 0 0, .int .i64 (q : Int), .int .i64 c, .int .i64 (tk : Int), .int .i64 (fr : Int), .int .i64 c]) (by simp [results, Tryd.results26, go_sem]) rfl ⟨_, rfl, (HB2.out.alloc HB2.out.size _).trans (Co.below_drewN _ _ _)⟩
set_option maxRecDepth 100000 in
set_option maxHeartbeats 3200000 in
theorem states_walk (ad : Option Addr) (len cap : Nat) (ss : List ByteArray) (d i b ro : Int) (w : World) (hT : TextsF w ad len ss) (hU : UT w.heap.size w) :
    Calls Tryd.prog 10 #[.slice ad len cap, .agg #[.int .i64 d, .int .i64 i, .int .i64 b, .int .i64 ro]] w (RetT w) := by
  have HU := Lib.hid hU
  have HT := Lib.hid hT
  have WK := Lib.hid (fun w hU => wakes20_any w hU)
  have RM := Lib.hid (fun w => rmay_any d i b ro w)
  have HB0 : Hid (Below w.heap.size w (w.alloc (Obj.cells #[.int .i64 d, .int .i64 i, .int .i64 b, .int .i64 ro] 23))) := (Below.refl _ _).alloc (Nat.le_refl _) _
  have HL0 := Lib.hid (Lm4.ofAlloc w d i b ro)
  obtain ⟨B, hB⟩ : ∃ B, w.heap.size = B := ⟨_, rfl⟩
  rw [hB] at HL0
  have HBB := Lib.hid hB
  clear hU hT
  go_enter Tryd.func10, Tryd.ntmps10
  go_wp2_with fail
  try rw [hB]
  clear hB
  obtain ⟨w0, hw0⟩ : ∃ x, w.alloc (Obj.cells #[.int .i64 d, .int .i64 i, .int .i64 b, .int .i64 ro] 23) = x := ⟨_, rfl⟩
  rw [hw0] at HL0 HB0
  rw [hw0]
  clear hw0
  refine (WK.out _ (HU.out.at HB0.out)).mono ?_
  rintro e w1 ⟨rfl, hb1⟩
  have HB1 : Hid (Below w.heap.size w w1) := HB0.out.trans (hb1.mono HB0.out.size)
  have HL1 := Lib.hid (HL0.out.below hb1)
  clear hb1
  have l0 := HL1.out.at0.cell 0 _ rfl
  have l1 := HL1.out.at0.cell 1 _ rfl
  have l2 := HL1.out.at0.cell 2 _ rfl
  have l3 := HL1.out.at0.cell 3 _ rfl
  rw [Nat.zero_add] at l0 l1 l2 l3
  cases hm : mayOk d i b ro with
  | false =>
    have NE := Lib.hid (new_no d i b ro w1 hm)
    rw [hm] at RM
    clear hm
    go_wp2_with fail
    refine NE.out.mono ?_
    rintro e w2 ⟨rfl, hb2⟩
    have HB2 : Hid (Below w.heap.size w w2) := HB1.out.trans (hb2.mono HB1.out.size)
    have HL2 := Lib.hid (HL1.out.below hb2)
    clear hb2 l0 l1 l2 l3
    have l0 := HL2.out.at0.cell 0 _ rfl
    have l1 := HL2.out.at0.cell 1 _ rfl
    have l2 := HL2.out.at0.cell 2 _ rfl
    have l3 := HL2.out.at0.cell 3 _ rfl
    rw [Nat.zero_add] at l0 l1 l2 l3
    go_wp2_with fail
    refine (RM.out _).mono ?_
    rintro e w3 ⟨rfl, hb3⟩
    have HB3 : Hid (Below w.heap.size w w3) := HB2.out.trans (hb3.mono HB2.out.size)
    clear hb3
    go_wp2_with fail
    go_ret
    exact ⟨rfl, HB3.out⟩
  | true =>
    have NE := Lib.hid (new_yes d i b ro w1 hm)
    have HOK := Lib.hid (lok hm)
    have HM := Lib.hid hm
    rw [hm] at RM
    clear hm
    go_wp2_with fail
    refine NE.out.mono ?_
    rintro e w2 ⟨g, rfl, hg, HF2, hb2⟩
    have HG : Hid (w.heap.size ≤ g) := Nat.le_trans HB1.out.size hg
    have HB2 : Hid (Below w.heap.size w w2) := HB1.out.trans (hb2.out.mono HB1.out.size)
    have HL2 := Lib.hid (HL1.out.below hb2.out)
    have HJ : Hid (B < g) := Nat.lt_of_lt_of_le HL1.out.lt hg
    clear hg hb2 l0 l1 l2 l3
    by_cases hlen : 100 < len
    · have e1 : (100 : Int) < (len : Int) := by omega
      clear hlen
      go_wp2_with fail
      go_ret
      exact ⟨rfl, HB2.out⟩
    · have e1 : ¬ (100 : Int) < (len : Int) := by omega
      have HLEN := Lib.hid hlen
      have hlb := mayOk_yes HM.out
      clear hlen
      have HST : Hid (FmS w2 g (g + 1) (limL d i b) ro (f0.feed Lib.validD (limL d i b) (ByteArray.mk #[]).toList) (.slice none 0 0) (.slice none 0 0) (.slice none 0 0)) := by rw [show (ByteArray.mk #[]).toList = [] from tl_mk []]; exact HF2.out
      have HLB : Hid ((∀ n : Nat, n ≤ (limL d i b).bytes → (n : Int) ≤ b) ∧ (∀ n : Nat, n ≤ (limL d i b).depth → (n : Int) ≤ d)) := by
        show (∀ n : Nat, n ≤ b.toNat → (n : Int) ≤ b) ∧ (∀ n : Nat, n ≤ d.toNat → (n : Int) ≤ d)
        exact ⟨fun n h => by omega, fun n h => by omega⟩
      clear hlb
      go_wp2_with fail
      clear e1
      go_loopw [7, 8, 9, 10, 11, 12, 13, 14, 15, 16, 40] (fun v7 v8 v9 v10 v11 v12 v13 v14 v15 v16 vi wr => ∃ (k : Nat) (all : ByteArray) (vT vN vS : Value), v7 = .string all ∧ vi = .int .i64 (k : Int) ∧ k ≤ len ∧ all.size ≤ 4000 ∧ Hid (FmS wr g (g + 1) (limL d i b) ro (f0.feed Lib.validD (limL d i b) all.toList) vT vN vS) ∧ Hid (Lm4 wr B d i b ro) ∧ Hid (Below w.heap.size w wr)) (fun _ _ _ _ _ _ _ _ _ _ vi _ => len - (intOf vi).toNat)
      case atStart => exact ⟨0, _, _, _, _, rfl, rfl, Nat.zero_le _, Nat.zero_le _, HST, HL2, HB2⟩
      case round =>
        obtain ⟨k, all, vT, vN, vS, rfl, rfl, hkl, has, HF, HL, HB⟩ := hrel
        clear HST HF2 HL2 HB2
        by_cases hlt : k < len
        · have e1 : (k : Int) < (len : Int) := by omega
          obtain ⟨bb, off, rfl, hbW, hcells⟩ := HT.out.at_ (by omega)
          obtain ⟨li, hli⟩ : ∃ li, ss.getD k ByteArray.empty = li := ⟨_, rfl⟩
          have HCJ : Hid (∀ w4, Below w.heap.size w w4 → w4.cell? ⟨bb, off + k, none⟩ = some (.string li)) := fun w4 h4 => by rw [← hli, ← hcells k hlt]; exact h4.cell (p := ⟨bb, off + k, none⟩) hbW
          have hci := HCJ.out wr HB.out
          have e2 : (0 : Int) ≤ (k : Int) := by omega
          have e9 : (k : Int) ≤ 100 := by have := HLEN.out; omega
          have HKL := Lib.hid hlt
          clear hcells hli hbW hkl hlt
          by_cases ha : 2000 < all.size
          · have e3 : (2000 : Int) < (all.size : Int) := by omega
            clear ha has
            go_wp2_with fail
            go_ret
            exact ⟨rfl, HB.out⟩
          · have e3 : ¬ (2000 : Int) < (all.size : Int) := by omega
            by_cases hl : 2000 < li.size
            · have e4 : (2000 : Int) < (li.size : Int) := by omega
              clear ha has hl
              go_wp2_with fail
              go_ret
              exact ⟨rfl, HB.out⟩
            · have e4 : ¬ (2000 : Int) < (li.size : Int) := by omega
              have q1 : ¬ 9223372036854775807 < all.size + li.size := by omega
              have WR := Lib.hid (write_any wr g (g + 1) (limL d i b) ro all.toList li vT vN vS HF.out (UTg HU.out HB.out HG.out) HOK.out (by omega))
              rw [← tl_app] at WR
              obtain ⟨al2, hal2⟩ : ∃ a, all ++ li = a := ⟨_, rfl⟩
              have has2 : al2.size ≤ 4000 := by rw [← hal2, ByteArray.size_append]; omega
              rw [hal2] at WR
              have RDX := Lib.hid (fun w' => read_anyT al2 d i b ro HM.out (by omega) w')
              have hli := fun h1 => Nat.le_trans (feed_inv Lib.validD (limL d i b) al2.toList h1).li HOK.out.i
              have hne := fun h1 h2 => feed_ne (txt := Lib.validD) (L := limL d i b) (S := al2.toList) h1 h2
              have hbd := (feed_runsT al2.toList (limL d i b) Lib.validD).2
              obtain ⟨F, hF⟩ : ∃ F, f0.feed Lib.validD (limL d i b) al2.toList = F := ⟨_, rfl⟩
              rw [hF] at WR RDX hli hne hbd
              have HLI := Lib.hid hli
              have HNE := Lib.hid hne
              have HBD : Hid ((F.T.length : Int) ≤ b ∧ (F.G.length : Int) ≤ d) := ⟨HLB.out.1 _ hbd.1, HLB.out.2 _ hbd.2⟩
              have HFE := Lib.hid hF
              have HAS := Lib.hid has2
              clear ha has hl hF has2 hli hne hbd
              go_wp2_with fail
              refine WR.out.mono ?_
              rintro e w4 ⟨rfl, vT4, vN4, vS4, HF4, hb4⟩
              have HB4 : Hid (Below w.heap.size w w4) := HB.out.trans (hb4.out.low HG.out (Nat.lt_succ_self g))
              have HL4 : Hid (Lm4 w4 B d i b ro) := ⟨HL.out.at0.below (hb4.out.low (Nat.le_refl _) (Nat.lt_succ_self g)) HJ.out, Nat.lt_of_lt_of_le HL.out.lt hb4.out.size⟩
              have EN := Lib.hid (end_any w4 g (g + 1) (limL d i b) ro F _ _ _ HF4.out HOK.out.p (fun h _ => HLI.out h) HNE.out)
              obtain ⟨ee, hee⟩ : ∃ e, F.e = e := ⟨_, rfl⟩
              rw [hee]
              clear hb4 hee hci
              go_wp2_with fail
              refine EN.out.mono ?_
              rintro e w5 ⟨v5, rfl, ho5, hb5⟩
              have HB5 : Hid (Below w.heap.size w w5) := HB4.out.trans (hb5.mono HB4.out.size)
              have HF5 := Lib.hid (Fm.below HF4.out hb5)
              have HL5 := Lib.hid (HL4.out.below hb5)
              have ST := Lib.hid (state_any w5 g (g + 1) (limL d i b) ro F _ _ _ HF5.out HOK.out.p)
              obtain ⟨pp, hpp⟩ : ∃ x, decP (ans F) = x := ⟨_, rfl⟩
              obtain ⟨dd, hdd⟩ : ∃ x, decE (ans F) = x := ⟨_, rfl⟩
              obtain ⟨nn, hnn⟩ : ∃ x, nowE (ans F) = x := ⟨_, rfl⟩
              obtain ⟨nT, hnT⟩ : ∃ x, F.T.length = x := ⟨_, rfl⟩
              obtain ⟨nG, hnG⟩ : ∃ x, F.G.length = x := ⟨_, rfl⟩
              have HVS := Lib.hid (And.intro hnn (And.intro hpp hdd))
              have HTG := Lib.hid (And.intro hnT hnG)
              rw [hpp, hdd]
              rw [hnT, hnG] at ST HBD
              clear hb5 ho5 hpp hdd hnn hnT hnG
              go_wp2_with fail
              refine ST.out.mono ?_
              rintro e w6 ⟨rfl, k6, rfl⟩
              have hb6 : Below w5.heap.size w5 (w5.drewN k6) := Co.below_drewN _ _ _
              have HB6 : Hid (Below w.heap.size w (w5.drewN k6)) := HB5.out.trans (hb6.mono HB5.out.size)
              have HF6 := Lib.hid (Fm.below HF5.out hb6)
              have HL6 := Lib.hid (HL5.out.below hb6)
              generalize w5.drewN k6 = w6 at HB6 HF6 HL6 ⊢
              have l0 := HL6.out.at0.cell 0 _ rfl
              have l1 := HL6.out.at0.cell 1 _ rfl
              have l2 := HL6.out.at0.cell 2 _ rfl
              have l3 := HL6.out.at0.cell 3 _ rfl
              rw [Nat.zero_add] at l0 l1 l2 l3
              clear hb6
              go_wp2_with fail
              refine (RDX.out _).mono ?_
              rintro e w7 ⟨v7, rfl, hb7⟩
              have HB7 : Hid (Below w.heap.size w w7) := HB6.out.trans (hb7.out.mono HB6.out.size)
              have HF7 := Lib.hid (Fm.below HF6.out hb7.out)
              have HL7 := Lib.hid (HL6.out.below hb7.out)
              have l0 := HL7.out.at0.cell 0 _ rfl
              have l1 := HL7.out.at0.cell 1 _ rfl
              have l2 := HL7.out.at0.cell 2 _ rfl
              have l3 := HL7.out.at0.cell 3 _ rfl
              rw [Nat.zero_add] at l0 l1 l2 l3
              rw [HVS.out.1, HVS.out.2.1, HVS.out.2.2, HTG.out.1, HTG.out.2]
              have e5 : ¬ b < (nT : Int) := by have := HBD.out; omega
              have e6 : ¬ d < (nG : Int) := by have := HBD.out; omega
              clear hb7
              go_wp2_with fail
              go_roundw
              case rel => exact ⟨k + 1, al2, vT4, vN4, vS4, rfl, by go_num, HKL.out, HAS.out, by rw [HFE.out]; exact HF7, HL7, HB7⟩
              case measure => have h9 := HKL.out; simp [intOf]; omega
        · obtain rfl : k = len := by omega
          have e1 : ¬ (k : Int) < (k : Int) := by omega
          clear hlt hkl has
          go_wp2_with fail
          go_ret
          exact ⟨rfl, HB.out⟩
theorem cborfeedStates_walk (ad : Option Addr) (len cap : Nat) (ss : List ByteArray) (d i b ro : Int) (w : World) (hT : TextsF w ad len ss) (hU : UT w.heap.size w) :
    Calls Tryd.prog 10 #[.slice ad len cap, .agg #[.int .i64 d, .int .i64 i, .int .i64 b, .int .i64 ro]] w (RetT w) := states_walk ad len cap ss d i b ro w hT hU
end Cf
end Go.Proofs.YteanipjgpekncaaDoor
