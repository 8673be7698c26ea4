/- A feed of items in memory: New, State, End, none; what wakes. -/
import Derived.Test.YteanipjgpekncaaDoorCfG
import Derived.Test.YteanipjgpekncaaDoorCpT
namespace Go.Proofs.YteanipjgpekncaaDoor
open Go.RowKit
set_option linter.unusedVariables false
set_option linter.unusedSimpArgs false
namespace Cf
open Co
open Dr (Rs Lm has lack at0S)
theorem at_cellsF {w : World} {k : Nat} {cs : List Value} (h : At w k 0 cs) : ∀ j u, cs[j]? = some u → w.cell? ((⟨k, 0, none⟩ : Addr).add j) = some u := at_cells rfl h
theorem lok {d i b r : Int} (h : mayOk d i b r = true) : Lok (limL d i b) := by
  have h1 := mayOk_yes h
  exact ⟨by show i.toNat ≤ 4096; omega, by show d.toNat ≤ 32; omega, by show b.toNat ≤ 262144; omega, by show 0 < d.toNat; omega⟩
def RetNew (d i b r : Int) (w : World) (e : Ending) (w' : World) : Prop := ∃ g, e = .returned (.tuple #[.pointer (some ⟨g, 0, none⟩), .int .i64 0]) ∧ w.heap.size ≤ g ∧ Hid (FmS w' g (g + 1) (limL d i b) r f0 (.slice none 0 0) (.slice none 0 0) (.slice none 0 0)) ∧ Hid (Below w.heap.size w w')
set_option maxRecDepth 100000 in
set_option maxHeartbeats 1600000 in
theorem new_yes (d i b r : Int) (w : World) (hm : mayOk d i b r = true) :
    Calls Tryd.prog 24 #[.agg #[.int .i64 d, .int .i64 i, .int .i64 b, .int .i64 r]] w (RetNew d i b r w) := by
  have h1 := mayOk_yes hm
  have MA := Lib.hid (fun w => may_any d i b r w)
  rw [hm] at MA
  have HD : Hid (((limL d i b).depth : Int) = d ∧ ((limL d i b).items : Int) = i ∧ ((limL d i b).bytes : Int) = b) := ⟨by show ((d.toNat : Nat) : Int) = d; omega, by show ((i.toNat : Nat) : Int) = i; omega, by show ((b.toNat : Nat) : Int) = b; omega⟩
  have HB0 : Hid (Below w.heap.size w (w.alloc (Obj.cells #[.int .i64 d, .int .i64 i, .int .i64 b, .int .i64 r] 23))) := (Below.refl _ _).alloc (Nat.le_refl _) _
  have HL0 := Lib.hid (Lm4.ofAlloc w d i b r)
  obtain ⟨B, hB⟩ : ∃ B, w.heap.size = B := ⟨_, rfl⟩
  rw [hB] at HL0
  have HBB := Lib.hid hB
  clear h1 hm
  go_enter Tryd.func24, Tryd.ntmps24
  go_wp2_with fail
  try rw [hB]
  clear hB
  obtain ⟨w0, hw0⟩ : ∃ x, w.alloc (Obj.cells #[.int .i64 d, .int .i64 i, .int .i64 b, .int .i64 r] 23) = x := ⟨_, rfl⟩
  rw [hw0] at HL0 HB0
  rw [hw0]
  clear hw0
  refine (MA.out _).mono ?_
  rintro e w1 ⟨rfl, hb1⟩
  have HB1 : Hid (Below w.heap.size w w1) := HB0.out.trans (hb1.mono HB0.out.size)
  have HL1 := Lib.hid (HL0.out.below hb1)
  clear hb1
  have l0 := HL1.out.at0.cell 0 _ rfl
  have l1 := HL1.out.at0.cell 1 _ rfl
  have l2 := HL1.out.at0.cell 2 _ rfl
  have l3 := HL1.out.at0.cell 3 _ rfl
  rw [Nat.zero_add] at l0 l1 l2 l3
  go_wp2_with fail
  go_ret2
  refine ⟨w1.heap.size, rfl, HB1.out.size, ⟨?_, World.ownsRow_nil _ _ _ _, World.ownsRow_nil _ _ _ _, World.ownsRow_nil _ _ _ _, Nat.lt_succ_self _, by simp⟩, HB1.out.alloc HB1.out.size _⟩
  rw [HD.out.1, HD.out.2.1, HD.out.2.2]
  exact At.ofAlloc w1 #[.int .i64 d, .int .i64 i, .int .i64 b, .int .i64 r, .slice none 0 0, .slice none 0 0, .slice none 0 0, .int .i64 0, .int .i64 0, .int .i64 0, .int .i64 0, .int .i64 0, .int .u64 0, .int .u64 0] 60
set_option maxRecDepth 100000 in
set_option maxHeartbeats 1600000 in
theorem new_no (d i b r : Int) (w : World) (hm : mayOk d i b r = false) :
    Calls Tryd.prog 24 #[.agg #[.int .i64 d, .int .i64 i, .int .i64 b, .int .i64 r]] w (fun e w' => e = .returned (.tuple #[.pointer none, .int .i64 2]) ∧ Below w.heap.size w w') := by
  have MA := Lib.hid (fun w => may_any d i b r w)
  rw [hm] at MA
  have HB0 : Hid (Below w.heap.size w (w.alloc (Obj.cells #[.int .i64 d, .int .i64 i, .int .i64 b, .int .i64 r] 23))) := (Below.refl _ _).alloc (Nat.le_refl _) _
  clear hm
  go_enter Tryd.func24, Tryd.ntmps24
  go_wp2_with (first | (go_at_call 29; refine (MA.out _).mono ?_; rintro e w1 ⟨rfl, hb1⟩; have HB1 : Hid (Below w.heap.size w w1) := HB0.out.trans (hb1.mono HB0.out.size); clear hb1))
  go_ret2
  exact ⟨rfl, HB1.out⟩
set_option maxRecDepth 100000 in
set_option maxHeartbeats 1600000 in
theorem state_any (w : World) (g β : Nat) (L : Lm) (ro : Int) (f : Fs) (vT vN vS : Value) (h : FmS w g β L ro f vT vN vS) (hd : 0 < L.depth) :
    Calls Tryd.prog 28 #[.pointer (some ⟨g, 0, none⟩)] w (fun e w' => e = .returned (.tuple #[.int .i64 (f.T.length : Int), .int .i64 (f.G.length : Int)]) ∧ ∃ k, w' = w.drewN k) := by
  have hgb : g < β := h.gb
  have NO := Lib.hid (none_any w g β L ro _ vT vN vS h hd)
  have c4 := h.at0.cell 4 _ rfl
  have c6 := h.at0.cell 6 _ rfl
  obtain ⟨aT, cT, rfl, -⟩ := own_form h.text
  obtain ⟨aS, cS, rfl, -⟩ := own_form h.stack
  clear h
  go_enter Tryd.func28, Tryd.ntmps28
  go_wp2_with (first | (go_at_call 39; refine NO.out.mono ?_; rintro e w1 ⟨rfl, rfl⟩))
  go_quiet (fail)
  go_wp2_with fail
  go_ret2
  exact ⟨rfl, _, rfl⟩
theorem run_eql_sa (a : Addr) (n c : Nat) (w : World) : (binOp BinOp.eql 25 (.slice (some a) n c) (.slice none 0 0)).run Tryd.prog w = .ok (.bool false) w := by
  kernel_rfl
set_option maxRecDepth 100000 in
set_option maxHeartbeats 1600000 in
theorem clone_any (l : List Am) (g cap : Nat) (w : World) (hA : At w g 0 (rcells (l.map up))) (hg : g < w.heap.size) (hn : l.length ≤ 4096) : Calls Tryd.prog 42 #[.slice (some ⟨g, 0, none⟩) l.length cap] w (RetRas (l.map up) w) := by
  obtain ⟨i0, hi, hq⟩ := Option.map_eq_some_iff.1 infoA
  simp only [Prod.mk.injEq] at hq
  obtain ⟨hz0, hz1, hz2⟩ := hq
  obtain ⟨n, hn0⟩ : ∃ n, l.length = n := ⟨_, rfl⟩
  have HA := Lib.hid (And.intro hA (And.intro hg (And.intro hn hn0)))
  have hlen : (rcells (l.map up)).length = n * 3 := by rw [rcells_length, List.length_map, hn0, Nat.mul_comm]
  have HLN := Lib.hid hlen
  have HO := Lib.hid (World.ownsRow_lit (base := w.heap.size) (e := 75) (size := 3) w #[] 0 (Nat.le_refl _) (by decide) rfl)
  have hqn := run_eql_sa ⟨g, 0, none⟩ n cap w
  rw [hn0]
  clear hA hg hn hn0 hlen
  go_enter Tryd.func42, Tryd.ntmps42
  go_wp2_with (at_builtin; refine wpList_append_own _ rfl (.tmp 5) (.tmp 6) 25 rfl w.heap.size 75 i0 _ 3 32 Tryd.underlying25 hi hz0 hz1 hz2 rfl (by decide) _ 0 [] rfl HO.out ⟨g, 0, none⟩ n cap (rcells (l.map up)) rfl HLN.out (at_cellsF ((HA.out.1).alloc _)) (rcells_one (l.map up)) (by have := HA.out.2.2; unfold maxLen; omega) (by have := HA.out.2.2; omega) (by simp) ?_; intro v' w1 hown1 hgrow1 _; have HO1 := Lib.hid hown1; have HB1 : Hid (Below w.heap.size w w1) := Below.grown ((Below.refl _ _).alloc (Nat.le_refl _) _) hgrow1 (by simp) (fun k hk => (HO.out.lt k hk).1); clear hown1 hgrow1)
  go_ret
  exact ⟨v', rfl, by have h1 := HO1.out; rw [Nat.zero_add, List.nil_append] at h1; rw [List.length_map, HA.out.2.2.2]; exact h1, HB1.out⟩
/-- what a feed tells at its end -/
def RetEnd (f : Fs) (w : World) (e : Ending) (w' : World) : Prop := ∃ v, e = .returned (.tuple #[v, .int .i64 (decP (ans f) : Int), .int .i64 (decE (ans f))]) ∧ w'.ownsRow w.heap.size 75 3 v (decL (ans f)).length (rcells ((decL (ans f)).map up)) ∧ Below w.heap.size w w'
set_option maxRecDepth 100000 in
set_option maxHeartbeats 1600000 in
theorem end_any (w : World) (g β : Nat) (L : Lm) (ro : Int) (f : Fs) (vT vN vS : Value) (h : FmS w g β L ro f vT vN vS) (hd : 0 < L.depth) (hl : f.e = 0 → f.m = 3 → f.l.length ≤ 4096) (hl2 : f.e = 0 → f.m = 3 → f.l ≠ []) :
    Calls Tryd.prog 27 #[.pointer (some ⟨g, 0, none⟩)] w (RetEnd f w) := by
  have hgb : g < β := h.gb
  have NO := Lib.hid (none_any w g β L ro _ vT vN vS h hd)
  obtain ⟨R, hR⟩ : ∃ R, ans f = R := ⟨_, rfl⟩
  have HF := Lib.hid h
  have c9 := h.at0.cell 8 _ rfl
  obtain ⟨ee, hee⟩ : ∃ e, f.e = e := ⟨_, rfl⟩
  rw [hee] at c9
  by_cases he : ee = 0
  · have x1 : (ee != 0) = false := by rw [he]; rfl
    obtain ⟨mm, hmm⟩ : ∃ m, f.m = m := ⟨_, rfl⟩
    have c8 := h.at0.cell 7 _ rfl
    rw [hmm] at c8
    by_cases hm : f.m = 3
    · have x2 : ((mm : Int) != 3) = false := by rw [bne_eq_false_iff_eq]; omega
      have hne := hl2 (hee.trans he) hm
      obtain ⟨aN, cN, rfl, haN⟩ := own_form h.nodes
      obtain ⟨gn, rfl⟩ := haN (List.length_pos_iff.2 hne)
      have c5 := h.at0.cell 5 _ rfl
      have hAN := At.ofOwnN h.nodes
      have hlt := (h.nodes.lt gn rfl).2
      have CL := Lib.hid (clone_any f.l gn cN w hAN hlt (hl (hee.trans he) hm))
      have hans : ans f = .ok f.l := by rw [ans, if_neg (fun h => h (hee.trans he)), if_pos hm]
      have HA := Lib.hid hans
      clear h hR hee he hl hl2 hm hmm hne haN hAN hlt hans
      go_enter Tryd.func27, Tryd.ntmps27
      go_wp2_with (first | (go_at_call 39; refine NO.out.mono ?_; rintro e w1 ⟨rfl, rfl⟩))
      refine CL.out.mono ?_
      rintro e w2 ⟨v, rfl, ho, hb⟩
      have HO := Lib.hid (And.intro ho hb)
      clear ho hb
      go_wp2_with fail
      go_ret3
      exact ⟨v, by rw [HA.out]; rfl, by have h9 := HO.out.1; rw [List.length_map] at h9; rw [HA.out]; exact h9, HO.out.2⟩
    · have x2 : ((mm : Int) != 3) = true := by rw [bne_iff_ne]; omega
      have c4 := h.at0.cell 4 _ rfl
      obtain ⟨aT, cT, rfl, -⟩ := own_form h.text
      have hans : ans f = .no 9 f.T.length true := by rw [ans, if_neg (fun h => h (hee.trans he)), if_neg hm]
      have HA := Lib.hid hans
      clear h hR hee he hl hl2 hm hmm hans
      go_enter Tryd.func27, Tryd.ntmps27
      go_wp2_with (first | (go_at_call 39; refine NO.out.mono ?_; rintro e w1 ⟨rfl, rfl⟩))
      go_quiet (fail)
      go_wp2_with fail
      go_ret3
      exact ⟨_, by rw [HA.out]; rfl, by rw [HA.out]; exact World.ownsRow_nil _ _ _ _, Co.below_drewN _ _ _⟩
  · have x1 : (ee != 0) = true := by rw [bne_iff_ne]; exact he
    have c10 := h.at0.cell 9 _ rfl
    have hans : ans f = .no ee f.pl false := by rw [ans, if_pos (by rw [hee]; exact he), hee]
    have HA := Lib.hid hans
    clear h hR hee he hl hl2 hans
    go_enter Tryd.func27, Tryd.ntmps27
    go_wp2_with (first | (go_at_call 39; refine NO.out.mono ?_; rintro e w1 ⟨rfl, rfl⟩))
    go_quiet (fail)
    go_wp2_with fail
    go_ret3
    exact ⟨_, by rw [HA.out]; rfl, by rw [HA.out]; exact World.ownsRow_nil _ _ _ _, Co.below_drewN _ _ _⟩
/-! none -/
set_option maxRecDepth 100000 in
theorem none_nil (w : World) : Calls Tryd.prog 39 #[.pointer none] w (fun x w' => x = .returned (.bool true) ∧ w = w') := by
  go_enter Tryd.func39, Tryd.ntmps39
  go_wp2_with fail
  go_ret
  exact ⟨rfl, rfl⟩
set_option maxRecDepth 100000 in
theorem none_zero (w : World) (g : Nat) (h7 : w.cell? ⟨g, 0, none⟩ = some (.int .i64 0)) : Calls Tryd.prog 39 #[.pointer (some ⟨g, 0, none⟩)] w (fun x w' => x = .returned (.bool true) ∧ w = w') := by
  go_enter Tryd.func39, Tryd.ntmps39
  go_wp2_with fail
  go_ret
  exact ⟨rfl, rfl⟩
section
variable (w : World) (v : Value) (hv : Calls Tryd.prog 39 #[v] w (fun x w' => x = .returned (.bool true) ∧ w = w'))
include hv
set_option maxRecDepth 100000 in
theorem write_none (s : ByteArray) : Calls Tryd.prog 25 #[v, .string s] w (fun x w' => x = .returned (.int .i64 1) ∧ w = w') := by
  have NO := Lib.hid hv
  clear hv
  go_enter Tryd.func25, Tryd.ntmps25
  go_wp2_with (first | (go_at_call 39; refine NO.out.mono ?_; rintro e w1 ⟨rfl, rfl⟩))
  go_ret
  exact ⟨rfl, rfl⟩
set_option maxRecDepth 100000 in
theorem end_none : Calls Tryd.prog 27 #[v] w (fun x w' => x = .returned (.tuple #[.slice none 0 0, .int .i64 0, .int .i64 1]) ∧ w = w') := by
  have NO := Lib.hid hv
  clear hv
  go_enter Tryd.func27, Tryd.ntmps27
  go_wp2_with (first | (go_at_call 39; refine NO.out.mono ?_; rintro e w1 ⟨rfl, rfl⟩))
  go_ret3
  exact ⟨rfl, rfl⟩
set_option maxRecDepth 100000 in
theorem state_none : Calls Tryd.prog 28 #[v] w (fun x w' => x = .returned (.tuple #[.int .i64 0, .int .i64 0]) ∧ w = w') := by
  have NO := Lib.hid hv
  clear hv
  go_enter Tryd.func28, Tryd.ntmps28
  go_wp2_with (first | (go_at_call 39; refine NO.out.mono ?_; rintro e w1 ⟨rfl, rfl⟩))
  go_ret2
  exact ⟨rfl, rfl⟩
end
def S4 : List UInt8 := [130, 1, 65, 97]
def L4 : Lm := limL 32 4096 262144
theorem wake_e (i : Nat) (h : i ≤ 4) : (f0.feed Lib.validD L4 (S4.take i)).e = 0 := by
  rcases (by omega : i = 0 ∨ i = 1 ∨ i = 2 ∨ i = 3 ∨ i = 4) with rfl | rfl | rfl | rfl | rfl <;> decide +kernel
theorem wake_m : (f0.feed Lib.validD L4 S4).m = 3 := by decide +kernel
theorem wake_l : (f0.feed Lib.validD L4 S4).l = [⟨4, 2, []⟩, ⟨0, 1, []⟩, ⟨2, 0, [97]⟩] := by decide +kernel
theorem wake_T : (f0.feed Lib.validD L4 S4).T.length = 4 := by decide +kernel
theorem wake_G : (f0.feed Lib.validD L4 S4).G.length = 0 := by decide +kernel
theorem UTg {w w' : World} {g : Nat} (h : UT w.heap.size w) (hb : Below w.heap.size w w') (hg : w.heap.size ≤ g) : UT g w' := (h.below hb).mono hg
set_option maxRecDepth 100000 in
set_option maxHeartbeats 1600000 in
theorem wakes20_any (w : World) (hU : UT w.heap.size w) : Calls Tryd.prog 23 #[] w (fun e w' => e = .returned (.bool true) ∧ Below w.heap.size w w') := by
  have HU := Lib.hid hU
  have MO := Lib.hid (fun w' => most_any w')
  have NE := Lib.hid (fun w' => new_yes 32 4096 262144 4096 w' (by decide))
  clear hU
  go_enter Tryd.func23, Tryd.ntmps23
  go_wp2_with fail
  refine (MO.out _).mono ?_
  rintro e w1 ⟨rfl, hb1⟩
  have HB1 := Lib.hid hb1
  clear hb1
  go_wp2_with fail
  refine (NE.out _).mono ?_
  rintro e w2 ⟨g, rfl, hg, HF2, hb2⟩
  have HG : Hid (w.heap.size ≤ g) := Nat.le_trans HB1.out.size hg
  have HB2 : Hid (Below w.heap.size w w2) := HB1.out.trans (hb2.out.mono HB1.out.size)
  obtain ⟨s, hs⟩ : ∃ s : ByteArray, (⟨#[130, 1, 65, 97]⟩ : ByteArray) = s := ⟨_, rfl⟩
  have hsl : s.toList = S4 := by rw [← hs]; exact tl_mk [130, 1, 65, 97]
  have hss : s.size = 4 := by rw [← tl_size, hsl]; rfl
  have HS := Lib.hid (And.intro hsl hss)
  have HST : Hid (FmS w2 g (g + 1) L4 4096 (f0.feed Lib.validD L4 (S4.take 0)) (.slice none 0 0) (.slice none 0 0) (.slice none 0 0)) := HF2
  clear hg hb2 hsl
  go_wp2_with fail
  rw [hs]
  clear hs hss
  go_loopw [4, 23] (fun v4 v10 wr => ∃ (i : Nat) (vT vN vS : Value), v10 = .int .i64 (i : Int) ∧ i ≤ 4 ∧ Hid (FmS wr g (g + 1) L4 4096 (f0.feed Lib.validD L4 (S4.take i)) vT vN vS) ∧ Hid (Below w.heap.size w wr)) (fun _ v10 _ => 4 - (intOf v10).toNat)
  case atStart => exact ⟨0, _, _, _, rfl, Nat.zero_le _, HST, HB2⟩
  case round =>
    obtain ⟨i, vT, vN, vS, rfl, hi, HF, HB⟩ := hrel
    clear HST
    by_cases hin : i < 4
    · have e1 : (i : Int) < 4 := by omega
      have e2 : (i : Int) ≤ 4 := by omega
      have e3 : (i : Int) + 1 ≤ 4 := by omega
      obtain ⟨pc, hpc⟩ : ∃ p, s.extract i (i + 1) = p := ⟨_, rfl⟩
      have hpl : S4.take i ++ pc.toList = S4.take (i + 1) := by
        rw [← hpc, tl_extract, HS.out.1, show i + 1 - i = 1 by omega, List.take_add]
      have hps : pc.size ≤ 140737488351232 := by
        rw [← tl_size, ← hpc, tl_extract, List.length_take]; omega
      have he := wake_e (i + 1) (by omega)
      have WR := Lib.hid (write_any wr g (g + 1) L4 4096 (S4.take i) pc vT vN vS HF.out (UTg HU.out HB.out HG.out) (lok (d := 32) (i := 4096) (b := 262144) (r := 4096) (by decide)) hps)
      rw [hpl] at WR
      have HE := Lib.hid he
      have HIN := Lib.hid (And.intro hin hpc)
      clear hpl hps he hi
      have hss : s.size = 4 := HS.out.2
      go_wp2_with fail
      refine WR.out.mono ?_
      rintro e w5 ⟨rfl, vT5, vN5, vS5, hF5, hB5⟩
      rw [HE.out]
      have HB5 : Hid (Below w.heap.size w w5) := HB.out.trans (hB5.out.low HG.out (Nat.lt_succ_self g))
      clear hB5
      go_wp2_with fail
      go_roundw
      case rel => exact ⟨i + 1, vT5, vN5, vS5, by go_num, by have := HIN.out.1; omega, hF5, HB5⟩
      case measure => have h9 := HIN.out.1; simp [intOf]; omega
    · obtain rfl : i = 4 := by omega
      have e1 : ¬ (4 : Int) < 4 := by omega
      have HF4 : Hid (FmS wr g (g + 1) L4 4096 (f0.feed Lib.validD L4 S4) vT vN vS) := HF
      have hans : ans (f0.feed Lib.validD L4 S4) = .ok [⟨4, 2, []⟩, ⟨0, 1, []⟩, ⟨2, 0, [97]⟩] := by rw [ans, show (f0.feed Lib.validD L4 S4).e = 0 from wake_e 4 (Nat.le_refl _), if_neg (by decide), wake_m, if_pos rfl, wake_l]
      have EN := Lib.hid (end_any wr g (g + 1) L4 4096 _ vT vN vS HF4.out (by decide) (fun _ _ => by rw [wake_l]; decide) (fun _ _ => by rw [wake_l]; exact List.cons_ne_nil _ _))
      have HA := Lib.hid hans
      have hss : s.size = 4 := HS.out.2
      rw [show (((4 : Nat) : Int)) = (4 : Int) from rfl]
      clear hans hin hi
      go_wp2_with fail
      refine EN.out.mono ?_
      rintro e w5 ⟨v, rfl, ho, hb⟩
      rw [HA.out] at ho ⊢
      obtain ⟨aV, cV, rfl, -⟩ := own_form ho
      have HF5 := Lib.hid (Fm.below HF4.out hb)
      have HB5 : Hid (Below w.heap.size w w5) := HB.out.trans (hb.mono HB.out.size)
      have ST := Lib.hid (state_any w5 g (g + 1) L4 4096 _ vT vN vS HF5.out (by decide))
      rw [wake_T, wake_G] at ST
      rw [show decP (.ok [⟨4, 2, []⟩, ⟨0, 1, []⟩, ⟨2, 0, [97]⟩]) = 0 from rfl, show decE (.ok [⟨4, 2, []⟩, ⟨0, 1, []⟩, ⟨2, 0, [97]⟩]) = 0 from rfl, show (decL (.ok [(⟨4, 2, []⟩ : Am), ⟨0, 1, []⟩, ⟨2, 0, [97]⟩])).length = 3 from rfl, show (((0 : Nat) : Int)) = (0 : Int) from rfl]
      clear ho hb
      go_wp2_with fail
      refine ST.out.mono ?_
      rintro e w6 ⟨rfl, k, rfl⟩
      rw [show (((0 : Nat) : Int)) = (0 : Int) from rfl, show (((4 : Nat) : Int)) = (4 : Int) from rfl]
      go_wp2_with fail
      go_ret
      exact ⟨rfl, HB5.out.trans (Co.below_drewN _ _ _)⟩
end Cf
end Go.Proofs.YteanipjgpekncaaDoor
