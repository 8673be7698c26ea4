/- What wakes (layer 19); a feed that is not there; behind a fault nothing more is taken. -/
import Derived.Test.YtilfidcomeandaaJfK
namespace Go.Proofs.Ytilfidcomeandaa
open Go.RowKit
set_option linter.unusedVariables false
set_option linter.unusedSimpArgs false
namespace Jf
open Js
open Dr (Rs Lm has lack)
def S6 : List UInt8 := [91, 116, 114, 117, 101, 93]
def L4 : Lm := limL 32 4096 262144
theorem wake_e (i : Nat) (h : i ≤ 6) : (f0.write L4 (S6.take i)).e = 0 := by
  rcases (by omega : i = 0 ∨ i = 1 ∨ i = 2 ∨ i = 3 ∨ i = 4 ∨ i = 5 ∨ i = 6) with rfl | rfl | rfl | rfl | rfl | rfl | rfl <;> decide +kernel
theorem wake_p : (f0.write L4 S6).ansP = 0 := by decide +kernel
theorem wake_x : (f0.write L4 S6).ansE = 0 := by decide +kernel
theorem wake_l : (f0.write L4 S6).ansL.length = 2 := by decide +kernel
theorem wake_T : (f0.write L4 S6).taken = 6 := by decide +kernel
theorem wake_G : (f0.write L4 S6).frames = 0 := by decide +kernel
theorem low_bx {g : Nat} {w w' : World} (h : Bx g (g + 1) w w') {B : Nat} (h1 : B ≤ g) : Below B w w' := ⟨h.os, h.tape, h.output, h.size, fun k hk => h.block k (by omega) (by omega)⟩
set_option maxRecDepth 100000 in
set_option maxHeartbeats 1600000 in
theorem wakes19_any (w : World) : Calls Try.prog 8 #[] w (fun e w' => e = .returned (.bool true) ∧ Below w.heap.size w w') := by
  have MO := Lib.hid (fun w' => most_any w')
  have NE := Lib.hid (fun w' => new_yes 32 4096 262144 4096 w' (by decide))
  go_enter Try.func8, Try.ntmps8
  go_wp2_with fail
  refine (MO.out _).mono ?_
  rintro e w1 ⟨rfl, hb1⟩
  have HB1 := Lib.hid hb1
  clear hb1
  go_wp2_with fail
  refine (NE.out _).mono ?_
  rintro e w2 ⟨g, rfl, hg, HF2, hb2⟩
  have HG : Hid (w.heap.size ≤ g) := Nat.le_trans HB1.out.size hg
  have HB2 : Hid (Below w.heap.size w w2) := HB1.out.trans (hb2.out.mono HB1.out.size)
  obtain ⟨s, hs⟩ : ∃ s : ByteArray, (⟨#[91, 116, 114, 117, 101, 93]⟩ : ByteArray) = s := ⟨_, rfl⟩
  have hsl : s.toList = S6 := by rw [← hs]; exact tl_mk [91, 116, 114, 117, 101, 93]
  have hss : s.size = 6 := by rw [← tl_size, hsl]; rfl
  have HS := Lib.hid (And.intro hsl hss)
  have HST : Hid (FM w2 g (g + 1) L4 4096 (f0.write L4 (S6.take 0))) := HF2
  clear hg hb2 hsl
  go_wp2_with fail
  rw [hs]
  clear hs hss
  go_loopw [4, 23] (fun v4 v10 wr => ∃ (i : Nat), v10 = .int .i64 (i : Int) ∧ i ≤ 6 ∧ Hid (FM wr g (g + 1) L4 4096 (f0.write L4 (S6.take i))) ∧ Hid (Below w.heap.size w wr)) (fun _ v10 _ => 6 - (intOf v10).toNat)
  case atStart => exact ⟨0, rfl, Nat.zero_le _, HST, HB2⟩
  case round =>
    obtain ⟨i, rfl, hi, HF, HB⟩ := hrel
    clear HST
    by_cases hin : i < 6
    · have e1 : (i : Int) < 6 := by omega
      have e2 : (i : Int) ≤ 6 := by omega
      have e3 : (i : Int) + 1 ≤ 6 := by omega
      obtain ⟨pc, hpc⟩ : ∃ p, s.extract i (i + 1) = p := ⟨_, rfl⟩
      have hpl : S6.take i ++ pc.toList = S6.take (i + 1) := by
        rw [← hpc, tl_extract, HS.out.1, show i + 1 - i = 1 by omega, List.take_add]
      have hps : pc.size ≤ 140737488351232 := by
        rw [← tl_size, ← hpc, tl_extract, List.length_take]; omega
      have he := wake_e (i + 1) (by omega)
      have WR := Lib.hid (write_any wr g (g + 1) L4 4096 (f0.write L4 (S6.take i)) HF.out ((finv0 L4).write _) (lok (d := 32) (i := 4096) (b := 262144) (r := 4096) (by decide)) pc hps)
      rw [← write_app, hpl] at WR
      have HE := Lib.hid he
      have HIN := Lib.hid (And.intro hin hpc)
      clear hpl hps he hi
      have hss : s.size = 6 := HS.out.2
      go_wp2_with fail
      refine WR.out.mono ?_
      rintro e w5 ⟨rfl, hF5, hB5⟩
      rw [HE.out]
      have HB5 : Hid (Below w.heap.size w w5) := HB.out.trans (low_bx hB5.out HG.out)
      clear hB5
      go_wp2_with fail
      go_roundw
      case rel => exact ⟨i + 1, by go_num, by have := HIN.out.1; omega, hF5, HB5⟩
      case measure => have h9 := HIN.out.1; simp [intOf]; omega
    · obtain rfl : i = 6 := by omega
      have e1 : ¬ (6 : Int) < 6 := by omega
      have HF4 : Hid (FM wr g (g + 1) L4 4096 (f0.write L4 S6)) := HF
      have EN := Lib.hid (end_any wr g (g + 1) L4 4096 _ HF4.out ((finv0 L4).write S6) (lok (d := 32) (i := 4096) (b := 262144) (r := 4096) (by decide)))
      have hss : s.size = 6 := HS.out.2
      rw [show (((6 : Nat) : Int)) = (6 : Int) from rfl]
      clear hin hi
      go_wp2_with fail
      refine EN.out.mono ?_
      rintro e w5 ⟨v, rfl, ho, hb⟩
      rw [wake_l] at ho
      obtain ⟨aV, cV, rfl, -⟩ := own_form ho
      have HF5 := Lib.hid (FM.below HF4.out hb)
      have HB5 : Hid (Below w.heap.size w w5) := HB.out.trans (hb.mono HB.out.size)
      have ST := Lib.hid (state_any w5 g (g + 1) L4 4096 _ HF5.out (by decide))
      rw [wake_T, wake_G] at ST
      rw [wake_p, wake_x, show (((0 : Nat) : Int)) = (0 : Int) from rfl]
      clear ho hb
      go_wp2_with fail
      refine ST.out.mono ?_
      rintro e w6 ⟨rfl, k, rfl⟩
      rw [show (((0 : Nat) : Int)) = (0 : Int) from rfl, show (((6 : Nat) : Int)) = (6 : Int) from rfl]
      go_wp2_with fail
      go_ret
      exact ⟨rfl, HB5.out.trans (below_drewN _ _ _)⟩
set_option maxRecDepth 100000 in
set_option maxHeartbeats 1600000 in
theorem nil_walk (s : ByteArray) (hz : s.size ≤ 140737488351232) (w : World) :
    Calls Try.prog 7 #[.string s] w (RetT w) := by
  have WK := Lib.hid (fun w => wakes19_any w)
  clear hz
  go_enter Try.func7, Try.ntmps7
  go_wp2_with fail
  have HB0 : Hid (Below w.heap.size w (w.alloc (Obj.cells #[.int .i64 0, .int .i64 0, .int .i64 0, .int .i64 0, .int .i64 0, .slice none 0 0, .slice none 0 0, .int .i64 0, .nilIface, .bool false, .int .i64 0, .int .i64 0, .int .i64 0] 48))) := (Below.refl _ _).alloc (Nat.le_refl _) _
  have HZ : Hid (At (w.alloc (Obj.cells #[.int .i64 0, .int .i64 0, .int .i64 0, .int .i64 0, .int .i64 0, .slice none 0 0, .slice none 0 0, .int .i64 0, .nilIface, .bool false, .int .i64 0, .int .i64 0, .int .i64 0] 48)) w.heap.size 0 (#[.int .i64 0, .int .i64 0, .int .i64 0, .int .i64 0, .int .i64 0, .slice none 0 0, .slice none 0 0, .int .i64 0, .nilIface, .bool false, .int .i64 0, .int .i64 0, .int .i64 0] : Array Value).toList) := At.ofAlloc w #[.int .i64 0, .int .i64 0, .int .i64 0, .int .i64 0, .int .i64 0, .slice none 0 0, .slice none 0 0, .int .i64 0, .nilIface, .bool false, .int .i64 0, .int .i64 0, .int .i64 0] 48
  have HLT : Hid (w.heap.size < (w.alloc (Obj.cells #[.int .i64 0, .int .i64 0, .int .i64 0, .int .i64 0, .int .i64 0, .slice none 0 0, .slice none 0 0, .int .i64 0, .nilIface, .bool false, .int .i64 0, .int .i64 0, .int .i64 0] 48)).heap.size) := by show w.heap.size < _; simp
  generalize w.alloc (Obj.cells #[.int .i64 0, .int .i64 0, .int .i64 0, .int .i64 0, .int .i64 0, .slice none 0 0, .slice none 0 0, .int .i64 0, .nilIface, .bool false, .int .i64 0, .int .i64 0, .int .i64 0] 48) = w1 at HB0 HZ HLT ⊢
  obtain ⟨J, hJ⟩ : ∃ J, w.heap.size = J := ⟨_, rfl⟩
  rw [hJ] at HZ HLT ⊢
  have HJ := Lib.hid hJ
  clear hJ
  have Z1 := Lib.hid (none_zero w1 J (HZ.out.cell 0 _ rfl))
  have E0 := Lib.hid (end_none w1 _ (none_nil w1))
  have E1 := Lib.hid (end_none w1 _ Z1.out)
  have S0 := Lib.hid (state_none w1 _ (none_nil w1))
  have S1 := Lib.hid (state_none w1 _ Z1.out)
  refine E0.out.mono ?_
  rintro e w2 ⟨rfl, rfl⟩
  go_wp2_with fail
  refine E1.out.mono ?_
  rintro e w2 ⟨rfl, rfl⟩
  go_wp2_with fail
  refine S0.out.mono ?_
  rintro e w2 ⟨rfl, rfl⟩
  go_wp2_with fail
  refine S1.out.mono ?_
  rintro e w2 ⟨rfl, rfl⟩
  go_wp2_with fail
  refine (WK.out _).mono ?_
  rintro e w3 ⟨rfl, hb3⟩
  have HZ3 := Lib.hid (HZ.out.below hb3 HLT.out)
  have HB3 : Hid (Below w.heap.size w w3) := HB0.out.trans (hb3.mono HB0.out.size)
  have W0 := Lib.hid (write_none w3 _ (none_nil w3) s)
  have W1 := Lib.hid (write_none w3 _ (none_zero w3 J (HZ3.out.cell 0 _ rfl)) s)
  clear hb3
  go_wp2_with fail
  refine W0.out.mono ?_
  rintro e w4 ⟨rfl, rfl⟩
  go_wp2_with fail
  refine W1.out.mono ?_
  rintro e w4 ⟨rfl, rfl⟩
  go_wp2_with fail
  go_ret
  exact ⟨rfl, HB3.out⟩
theorem jsonfeedNil_walk (s : ByteArray) (hz : s.size ≤ 140737488351232) (w : World) :
    Calls Try.prog 7 #[.string s] w (RetT w) := nil_walk s hz w
set_option maxRecDepth 100000 in
set_option maxHeartbeats 1600000 in
theorem stops_walk (s t : ByteArray) (d i b ro : Int) (hz : s.size ≤ 140737488351232) (hzt : t.size ≤ 140737488351232) (w : World) :
    Calls Try.prog 6 #[.string s, .string t, .agg #[.int .i64 d, .int .i64 i, .int .i64 b, .int .i64 ro]] w (RetT w) := by
  have WK := Lib.hid (fun w => wakes19_any w)
  have HB0 : Hid (Below w.heap.size w (w.alloc (Obj.cells #[.int .i64 d, .int .i64 i, .int .i64 b, .int .i64 ro] 24))) := (Below.refl _ _).alloc (Nat.le_refl _) _
  have HL0 := Lib.hid (Lm4.ofAlloc w d i b ro)
  obtain ⟨B, hB⟩ : ∃ B, w.heap.size = B := ⟨_, rfl⟩
  rw [hB] at HL0
  have HBB := Lib.hid hB
  have HZ := Lib.hid (And.intro hz hzt)
  clear hz hzt
  go_enter Try.func6, Try.ntmps6
  go_wp2_with fail
  try rw [hB]
  clear hB
  obtain ⟨w0, hw0⟩ : ∃ x, w.alloc (Obj.cells #[.int .i64 d, .int .i64 i, .int .i64 b, .int .i64 ro] 24) = x := ⟨_, rfl⟩
  rw [hw0] at HL0 HB0
  rw [hw0]
  clear hw0
  refine (WK.out _).mono ?_
  rintro e w1 ⟨rfl, hb1⟩
  have HB1 : Hid (Below w.heap.size w w1) := HB0.out.trans (hb1.mono HB0.out.size)
  have HL1 := Lib.hid (HL0.out.below hb1)
  clear hb1
  have l0 := HL1.out.at0.cell 0 _ rfl
  have l1 := HL1.out.at0.cell 1 _ rfl
  have l2 := HL1.out.at0.cell 2 _ rfl
  have l3 := HL1.out.at0.cell 3 _ rfl
  rw [Nat.zero_add] at l0 l1 l2 l3
  cases hm : mayOk d i b ro with
  | false =>
    have NE := Lib.hid (new_no d i b ro w1 hm)
    have RM := Lib.hid (fun w => rmay_any d i b ro w)
    rw [hm] at RM
    clear hm
    go_wp2_with fail
    refine NE.out.mono ?_
    rintro e w2 ⟨rfl, hb2⟩
    have HB2 : Hid (Below w.heap.size w w2) := HB1.out.trans (hb2.mono HB1.out.size)
    have HL2 := Lib.hid (HL1.out.below hb2)
    clear hb2 l0 l1 l2 l3
    have l0 := HL2.out.at0.cell 0 _ rfl
    have l1 := HL2.out.at0.cell 1 _ rfl
    have l2 := HL2.out.at0.cell 2 _ rfl
    have l3 := HL2.out.at0.cell 3 _ rfl
    rw [Nat.zero_add] at l0 l1 l2 l3
    go_wp2_with fail
    refine (RM.out _).mono ?_
    rintro e w3 ⟨rfl, hb3⟩
    have HB3 : Hid (Below w.heap.size w w3) := HB2.out.trans (hb3.mono HB2.out.size)
    clear hb3
    go_wp2_with fail
    go_ret
    exact ⟨rfl, HB3.out⟩
  | true =>
    have NE := Lib.hid (new_yes d i b ro w1 hm)
    have HOK := Lib.hid (lok hm)
    clear hm
    go_wp2_with fail
    refine NE.out.mono ?_
    rintro e w2 ⟨g, rfl, hg, HF2, hb2⟩
    have HG : Hid (w.heap.size ≤ g) := Nat.le_trans HB1.out.size hg
    have HB2 : Hid (Below w.heap.size w w2) := HB1.out.trans (hb2.out.mono HB1.out.size)
    clear hg hb2 l0 l1 l2 l3
    have WR := Lib.hid (write_any w2 g (g + 1) (limL d i b) ro f0 HF2.out (finv0 _) HOK.out s HZ.out.1)
    obtain ⟨F, hF⟩ : ∃ F, f0.write (limL d i b) s.toList = F := ⟨_, rfl⟩
    have hFI : FInv (limL d i b) F := by rw [← hF]; exact (finv0 _).write _
    rw [hF] at WR
    have HFE := Lib.hid (And.intro hF hFI)
    clear hF hFI
    go_wp2_with fail
    refine WR.out.mono ?_
    rintro e w3 ⟨rfl, HF3, hb3⟩
    have HB3 : Hid (Below w.heap.size w w3) := HB2.out.trans (low_bx hb3.out HG.out)
    obtain ⟨ee, hee⟩ : ∃ e, F.e = e := ⟨_, rfl⟩
    rw [hee]
    clear hb3
    by_cases he : ee = 0
    · have WR2 := Lib.hid (write_any w3 g (g + 1) (limL d i b) ro F HF3.out HFE.out.2 HOK.out ⟨#[]⟩ (by decide))
      rw [show (⟨#[]⟩ : ByteArray).toList = [] from tl_mk [], show F.write (limL d i b) [] = F from rfl] at WR2
      have HEE := Lib.hid hee
      subst he
      clear hee
      go_wp2_with fail
      refine WR2.out.mono ?_
      rintro e w4 ⟨rfl, HF4, hb4⟩
      rw [HEE.out]
      have HB4 : Hid (Below w.heap.size w w4) := HB3.out.trans (low_bx hb4.out HG.out)
      clear hb4
      go_wp2_with fail
      go_ret
      exact ⟨rfl, HB4.out⟩
    · have x1 : (ee == 0) = false := by rw [beq_eq_false_iff_ne]; exact he
      obtain ⟨q, nn, kk, rfl⟩ : ∃ q n k, F = .dead ee q n k := by
        cases F with
        | run s k => exact absurd hee.symm he
        | dead c q n k => cases hee; exact ⟨q, n, k, rfl⟩
      have EN := Lib.hid (end_any w3 g (g + 1) (limL d i b) ro _ HF3.out HFE.out.2 HOK.out)
      have HEE := Lib.hid he
      clear hee he
      go_wp2_with fail
      refine EN.out.mono ?_
      rintro e w4 ⟨v4, rfl, ho4, hb4⟩
      have HF4 := Lib.hid (FM.below HF3.out hb4)
      have HB4 : Hid (Below w.heap.size w w4) := HB3.out.trans (hb4.mono HB3.out.size)
      have ST := Lib.hid (state_any w4 g (g + 1) (limL d i b) ro _ HF4.out HOK.out.p)
      rw [show (Fs.dead ee q nn kk).taken = kk from rfl, show (Fs.dead ee q nn kk).frames = nn from rfl] at ST
      rw [show (Fs.dead ee q nn kk).ansP = q from rfl, show (Fs.dead ee q nn kk).ansE = ee from rfl]
      clear ho4 hb4
      go_wp2_with fail
      refine ST.out.mono ?_
      rintro e w5 ⟨rfl, k5, rfl⟩
      have HF5 := Lib.hid (FM.drewN HF4.out k5)
      have HB5 : Hid (Below w.heap.size w (w4.drewN k5)) := HB4.out.trans (below_drewN _ _ _)
      generalize w4.drewN k5 = w5 at HF5 HB5 ⊢
      have WR2 := Lib.hid (write_any w5 g (g + 1) (limL d i b) ro _ HF5.out HFE.out.2 HOK.out t HZ.out.2)
      rw [write_dead] at WR2
      go_wp2_with fail
      refine WR2.out.mono ?_
      rintro e w6 ⟨rfl, HF6, hb6⟩
      rw [show (Fs.dead ee q nn kk).e = ee from rfl]
      have HB6 : Hid (Below w.heap.size w w6) := HB5.out.trans (low_bx hb6.out HG.out)
      clear hb6
      have EN2 := Lib.hid (end_any w6 g (g + 1) (limL d i b) ro _ HF6.out HFE.out.2 HOK.out)
      go_wp2_with fail
      refine EN2.out.mono ?_
      rintro e w7 ⟨v7, rfl, ho7, hb7⟩
      have HF7 := Lib.hid (FM.below HF6.out hb7)
      have HB7 : Hid (Below w.heap.size w w7) := HB6.out.trans (hb7.mono HB6.out.size)
      have ST2 := Lib.hid (state_any w7 g (g + 1) (limL d i b) ro _ HF7.out HOK.out.p)
      rw [show (Fs.dead ee q nn kk).taken = kk from rfl, show (Fs.dead ee q nn kk).frames = nn from rfl] at ST2
      rw [show (Fs.dead ee q nn kk).ansL.length = 0 from rfl] at ho7
      obtain ⟨aV, cV, rfl, -⟩ := own_form ho7
      rw [show (Fs.dead ee q nn kk).ansP = q from rfl, show (Fs.dead ee q nn kk).ansE = ee from rfl]
      clear ho7 hb7
      go_wp2_with fail
      refine ST2.out.mono ?_
      rintro e w8 ⟨rfl, k8, rfl⟩
      go_wp2_with fail
      go_ret
      exact ⟨rfl, HB7.out.trans (below_drewN _ _ _)⟩
theorem jsonfeedStops_walk (s t : ByteArray) (d i b ro : Int) (hz : s.size ≤ 140737488351232) (hzt : t.size ≤ 140737488351232) (w : World) :
    Calls Try.prog 6 #[.string s, .string t, .agg #[.int .i64 d, .int .i64 i, .int .i64 b, .int .i64 ro]] w (RetT w) := stops_walk s t d i b ro hz hzt w
end Jf
end Go.Proofs.Ytilfidcomeandaa
