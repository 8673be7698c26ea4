/- The laws' own: the greatest limits, sameness, copies, what wakes. -/
import Derived.Test.YteanipjgpekncaaDoorCpS
namespace Go.Proofs.YteanipjgpekncaaDoor
open Go.RowKit
set_option linter.unusedVariables false
set_option linter.unusedSimpArgs false
namespace Co
open Dr (Rs Lm has lack at0S)
set_option maxRecDepth 100000 in
theorem most_any (w : World) : Calls Tryd.prog 21 #[] w (fun e w' => e = .returned (.agg #[.int .i64 32, .int .i64 4096, .int .i64 262144, .int .i64 4096]) ∧ Below w.heap.size w w') := by
  go_enter Tryd.func21, Tryd.ntmps21
  go_wp2_with fail
  have hA := At.ofAlloc w #[.int .i64 32, .int .i64 4096, .int .i64 262144, .int .i64 4096] 23
  refine bodyPost_ret (results_at rfl _ w.heap.size _ _ rfl hA Tryd.underlying23 rfl (by kernel_rfl)) rfl ?_
  exact ⟨rfl, (Below.refl _ _).alloc (Nat.le_refl _) _⟩
theorem Sr.ofOwn {w : World} {B : Nat} {v : Value} {l : List Ra} (h : w.ownsRow B 75 3 v l.length (rcells l)) : Sr w v l := by
  obtain ⟨a, c, rfl, ha⟩ := own_form h
  refine ⟨a, c, rfl, fun hl => ?_⟩
  obtain ⟨g, rfl⟩ := ha (List.length_pos_iff.2 hl)
  exact ⟨g, rfl, At.ofOwnN h, (h.lt g rfl).2⟩
theorem ra_ne {a b : Ra} (h : ¬ a = b) : ¬ a.kind = b.kind ∨ (a.kind = b.kind ∧ ¬ (a.num : Int) = (b.num : Int)) ∨ (a.kind = b.kind ∧ (a.num : Int) = (b.num : Int) ∧ ¬ a.text = b.text) := by
  by_cases h1 : a.kind = b.kind
  · by_cases h2 : (a.num : Int) = (b.num : Int)
    · refine .inr (.inr ⟨h1, h2, fun h3 => h ?_⟩)
      rcases a with ⟨t, k, l⟩
      rcases b with ⟨t', k', l'⟩
      have h6 : t = t' := h1
      have h7 : (k : Int) = (k' : Int) := h2
      have h8 : l = l' := h3
      have h9 : k = k' := by omega
      rw [h6, h9, h8]
    · exact .inr (.inl ⟨h1, h2⟩)
  · exact .inl h1
theorem take_eqD (l m : List Ra) (i : Nat) (hi : i < l.length) (hj : i < m.length) (h : l.take i = m.take i) (he : l.getD i ra0 = m.getD i ra0) : l.take (i + 1) = m.take (i + 1) := by
  rw [List.take_add_one, List.take_add_one, h, List.getElem?_eq_getElem hi, List.getElem?_eq_getElem hj]
  rw [List.getD, List.getD, List.getElem?_eq_getElem hi, List.getElem?_eq_getElem hj] at he
  have he : l[i] = m[i] := he
  rw [he]
set_option maxRecDepth 100000 in
set_option maxHeartbeats 1600000 in
theorem csame_any (l m : List Ra) (v u : Value) (w : World) (hS : Sr w v l) (hM : Sr w u m) (hl : l.length ≤ 140737488351232) (hm : m.length ≤ 140737488351232) :
    Calls Tryd.prog 17 #[v, u] w (RetBb (decide (l = m)) w) := by
  obtain ⟨R, hR⟩ : ∃ R, decide (l = m) = R := ⟨_, rfl⟩
  rw [hR]
  obtain ⟨a, cl, rfl, hl1⟩ := hS
  obtain ⟨b, cm, rfl, hm1⟩ := hM
  obtain ⟨n, hn⟩ : ∃ n, l.length = n := ⟨_, rfl⟩
  obtain ⟨k, hk⟩ : ∃ n, m.length = n := ⟨_, rfl⟩
  rw [hn] at hl
  rw [hk] at hm
  have HL := Lib.hid (And.intro hl1 hn)
  have HM := Lib.hid (And.intro hm1 hk)
  rw [hn, hk]
  by_cases hnk : n = k
  · subst hnk
    have HR := Lib.hid hR
    have HNN := Lib.hid hl
    clear hl1 hm1 hn hk hR hm hl
    go_enter Tryd.func17, Tryd.ntmps17
    go_wp2_with fail
    go_loopw [5] (fun vi wr => ∃ i : Nat, vi = .int .i64 (i : Int) ∧ i ≤ n ∧ Hid (l.take i = m.take i) ∧ Hid (Below w.heap.size w wr)) (fun vi _ => n - (intOf vi).toNat)
    case atStart => exact ⟨0, rfl, Nat.zero_le _, rfl, Below.refl _ _⟩
    case round =>
      obtain ⟨i, rfl, hi, HT, HB⟩ := hrel
      by_cases hin : i < n
      · have hil : i < l.length := by rw [HL.out.2]; exact hin
        have him : i < m.length := by rw [HM.out.2]; exact hin
        obtain ⟨g, rfl, hAg, hgl⟩ := HL.out.1 (fun h => by rw [h] at hil; simp at hil)
        obtain ⟨g2, rfl, hAg2, hgl2⟩ := HM.out.1 (fun h => by rw [h] at him; simp at him)
        have hNc := (rcell_at hAg i hil).below HB.out hgl
        have hNc2 := (rcell_at hAg2 i him).below HB.out hgl2
        obtain ⟨x, hx⟩ : ∃ nd, l.getD i ra0 = nd := ⟨_, rfl⟩
        obtain ⟨y, hy⟩ : ∃ nd, m.getD i ra0 = nd := ⟨_, rfl⟩
        rw [hx] at hNc
        rw [hy] at hNc2
        have n0 := hNc.cell 0 _ rfl
        have n1 := hNc.cell 1 _ rfl
        have n2 := hNc.cell 2 _ rfl
        rw [Nat.add_zero] at n0
        have m0 := hNc2.cell 0 _ rfl
        have m1 := hNc2.cell 1 _ rfl
        have m2 := hNc2.cell 2 _ rfl
        rw [Nat.add_zero] at m0
        have e2 : (i : Int) < (n : Int) := by omega
        have e9 : (i : Int) ≤ 140737488351232 := by have := HNN.out; omega
        have HXY := Lib.hid (And.intro hx (And.intro hy (And.intro hil him)))
        have HII := Lib.hid (show ∃ j, n = i + 1 + j from ⟨n - i - 1, by omega⟩)
        clear hNc hNc2 hAg hAg2 hgl hgl2 hx hy hil him hi hin
        by_cases hxy : x = y
        · subst hxy
          have HTT : Hid (l.take (i + 1) = m.take (i + 1)) := take_eqD l m i HXY.out.2.2.1 HXY.out.2.2.2 HT.out (by rw [HXY.out.1, HXY.out.2.1])
          go_wp2_with fail
          go_region
          go_wp2_with fail
          go_roundw
          case rel => exact ⟨i + 1, by go_num, by obtain ⟨j, hj⟩ := HII.out; omega, HTT, HB.out.drew⟩
          case measure => obtain ⟨j, hj⟩ := HII.out; simp [intOf]; omega
        · have HF : Hid (R = false) := by
            show R = _
            rw [← HR.out]
            exact decide_eq_false (fun h => hxy (by rw [← HXY.out.1, ← HXY.out.2.1, h]))
          have hne := ra_ne hxy
          obtain ⟨tx, htx⟩ : ∃ t, x.kind = t := ⟨_, rfl⟩
          obtain ⟨ty, hty⟩ : ∃ t, y.kind = t := ⟨_, rfl⟩
          obtain ⟨kx, hkx⟩ : ∃ t, x.num = t := ⟨_, rfl⟩
          obtain ⟨ky, hky⟩ : ∃ t, y.num = t := ⟨_, rfl⟩
          obtain ⟨bx, hbx⟩ : ∃ t, x.text = t := ⟨_, rfl⟩
          obtain ⟨by', hby⟩ : ∃ t, y.text = t := ⟨_, rfl⟩
          rw [htx, hty, hkx, hky, hbx, hby] at hne
          rw [htx] at n0
          rw [hkx] at n1
          rw [hbx] at n2
          rw [hty] at m0
          rw [hky] at m1
          rw [hby] at m2
          clear hxy htx hty hkx hky hbx hby
          rcases hne with h1 | ⟨h1, h2⟩ | ⟨h1, h2, h3⟩
          · have h1b : (tx == ty) = false := by rw [beq_eq_false_iff_ne]; exact h1
            go_wp2_with fail
            go_region
            go_wp2_with fail
            go_ret
            exact ⟨by rw [HF.out]; rfl, HB.out.drew⟩
          · obtain rfl : tx = ty := by omega
            clear h1
            go_wp2_with fail
            go_region
            go_wp2_with fail
            go_ret
            exact ⟨by rw [HF.out]; rfl, HB.out.drew⟩
          · obtain rfl : tx = ty := by omega
            obtain rfl : kx = ky := by omega
            clear h1
            go_wp2_with fail
            go_region
            go_wp2_with fail
            go_ret
            exact ⟨by rw [HF.out]; rfl, HB.out.drew⟩
      · obtain rfl : i = n := by omega
        have e2 : ¬ (i : Int) < (i : Int) := by omega
        rw [List.take_of_length_le (by rw [HL.out.2]; exact Nat.le_refl _), List.take_of_length_le (by rw [HM.out.2]; exact Nat.le_refl _)] at HT
        have HF : Hid (R = true) := by
          show R = _
          rw [← HR.out]
          exact decide_eq_true HT.out
        go_wp2_with fail
        go_ret
        exact ⟨by rw [HF.out]; rfl, HB.out⟩
  · have HF : Hid (R = false) := by
      show R = _
      rw [← hR]
      exact decide_eq_false (fun h => hnk (by rw [← hn, ← hk, h]))
    have e1 : ¬ (n : Int) = (k : Int) := by omega
    clear hl1 hm1 hn hk hR hm hl
    go_enter Tryd.func17, Tryd.ntmps17
    go_wp2_with fail
    go_ret
    exact ⟨by rw [HF.out]; rfl, Below.refl _ _⟩
def RetRas (l : List Ra) (w : World) (e : Ending) (w' : World) : Prop := ∃ v, e = .returned v ∧ w'.ownsRow w.heap.size 75 3 v l.length (rcells l) ∧ Below w.heap.size w w'
theorem rcells_one (l : List Ra) : ∀ u ∈ rcells l, u.oneCell' = true := by
  intro u hu
  simp only [rcells, List.mem_flatMap] at hu
  obtain ⟨n, _, hn⟩ := hu
  exact rv_one n u hn
set_option maxRecDepth 100000 in
set_option maxHeartbeats 1600000 in
theorem copied_ne (l : List Ra) (v : Value) (w : World) (hS : Sr w v l) (hn : l.length ≤ 1000000) (h0 : l ≠ []) : Calls Tryd.prog 19 #[v] w (RetRas l w) := by
  obtain ⟨i0, hi, hq⟩ := Option.map_eq_some_iff.1 infoA
  simp only [Prod.mk.injEq] at hq
  obtain ⟨hz0, hz1, hz2⟩ := hq
  obtain ⟨a, cap, rfl, hl⟩ := hS
  obtain ⟨g, rfl, hA, hg⟩ := hl h0
  obtain ⟨n, hn0⟩ : ∃ n, l.length = n := ⟨_, rfl⟩
  have HA := Lib.hid (And.intro hA (And.intro hg (And.intro hn hn0)))
  have hlen : (rcells l).length = n * 3 := by rw [rcells_length, hn0, Nat.mul_comm]
  have HLN := Lib.hid hlen
  have HO := Lib.hid (World.ownsRow_lit (base := w.heap.size) (e := 75) (size := 3) w #[] 0 (Nat.le_refl _) (by decide) rfl)
  rw [hn0]
  clear hl hA hg hn hn0 h0 hlen
  go_enter Tryd.func19, Tryd.ntmps19
  go_wp2_with (at_builtin; refine wpList_append_own _ rfl (.tmp 3) (.tmp 4) 25 rfl w.heap.size 75 i0 _ 3 32 Tryd.underlying25 hi hz0 hz1 hz2 rfl (by decide) _ 0 [] rfl HO.out ⟨g, 0, none⟩ n cap (rcells l) rfl HLN.out (at_cells rfl ((HA.out.1).alloc _)) (rcells_one l) (by have := HA.out.2.2; unfold maxLen; omega) (by have := HA.out.2.2; omega) (by simp) ?_; intro v' w1 hown1 hgrow1 _; have HO1 := Lib.hid hown1; have HB1 : Hid (Below w.heap.size w w1) := Below.grown ((Below.refl _ _).alloc (Nat.le_refl _) _) hgrow1 (by simp) (fun k hk => (HO.out.lt k hk).1); clear hown1 hgrow1)
  go_ret
  exact ⟨v', rfl, by have h1 := HO1.out; rw [Nat.zero_add, List.nil_append] at h1; rw [HA.out.2.2.2]; exact h1, HB1.out⟩
set_option maxRecDepth 100000 in
set_option maxHeartbeats 1600000 in
theorem copied_nil (a : Option Addr) (cap : Nat) (w : World) : Calls Tryd.prog 19 #[.slice a 0 cap] w (RetRas [] w) := by
  have HO := Lib.hid (World.ownsRow_lit (base := w.heap.size) (e := 75) (size := 3) w #[] 0 (Nat.le_refl _) (by decide) rfl)
  cases a with
  | none =>
    go_enter Tryd.func19, Tryd.ntmps19
    go_wp2_with fail
    go_ret
    exact ⟨_, rfl, HO.out, (Below.refl _ _).alloc (Nat.le_refl _) _⟩
  | some A =>
    go_enter Tryd.func19, Tryd.ntmps19
    go_wp2_with fail
    go_ret
    exact ⟨_, rfl, HO.out, (Below.refl _ _).alloc (Nat.le_refl _) _⟩
theorem copied_any (l : List Ra) (v : Value) (w : World) (hS : Sr w v l) (hn : l.length ≤ 1000000) : Calls Tryd.prog 19 #[v] w (RetRas l w) := by
  by_cases h0 : l = []
  · subst h0
    obtain ⟨a, cap, rfl, -⟩ := hS
    exact copied_nil a cap w
  · exact copied_ne l v w hS hn h0
/-- limits that one is handed, in memory -/
structure Lm4 (w : World) (g : Nat) (d i b r : Int) : Prop where
  at0 : At w g 0 [.int .i64 d, .int .i64 i, .int .i64 b, .int .i64 r]
  lt : g < w.heap.size
theorem Lm4.below {w w' : World} {g : Nat} {d i b r : Int} (h : Lm4 w g d i b r) (hb : Below w.heap.size w w') : Lm4 w' g d i b r := ⟨h.at0.below hb h.lt, Nat.lt_of_lt_of_le h.lt hb.size⟩
theorem Lm4.ofAlloc (w : World) (d i b r : Int) : Lm4 (w.alloc (Obj.cells #[.int .i64 d, .int .i64 i, .int .i64 b, .int .i64 r] 23)) w.heap.size d i b r := ⟨At.ofAlloc w #[.int .i64 d, .int .i64 i, .int .i64 b, .int .i64 r] 23, by simp⟩
theorem Lm4.alloc {w : World} {g : Nat} {d i b r : Int} (h : Lm4 w g d i b r) (o : Obj) : Lm4 (w.alloc o) g d i b r := ⟨h.at0.alloc o, by have := h.lt; simp; omega⟩
def wkL : List Am := [⟨4, 3, []⟩, ⟨0, 1, []⟩, ⟨1, 0, []⟩, ⟨2, 0, [97]⟩]
theorem enc_wake : enc Lib.validD (wkL.map up) = ([0x83, 1, 0x20, 0x41, 97], 0) := by decide +kernel
set_option maxRecDepth 100000 in
theorem runs_wake : RunsC [0x83, 1, 0x20, 0x41, 97] (limL 32 4096 262144) (.el [] [] 0) (.ok wkL) := by
  refine Runs.el (s := .loop [⟨0, 3, false, false, false, []⟩] [⟨4, 3, []⟩] 1) (by kernel_rfl) (Runs.loop ?_)
  refine Runs.el (s := .pend [⟨0, 3, false, false, false, []⟩] [⟨4, 3, []⟩, ⟨0, 1, []⟩] 1 2) (by kernel_rfl) ?_
  refine Runs.pend (s := .loop [⟨0, 2, false, false, false, []⟩] [⟨4, 3, []⟩, ⟨0, 1, []⟩] 2) (by kernel_rfl) (Runs.loop ?_)
  refine Runs.el (s := .pend [⟨0, 2, false, false, false, []⟩] [⟨4, 3, []⟩, ⟨0, 1, []⟩, ⟨1, 0, []⟩] 2 3) (by kernel_rfl) ?_
  refine Runs.pend (s := .loop [⟨0, 1, false, false, false, []⟩] [⟨4, 3, []⟩, ⟨0, 1, []⟩, ⟨1, 0, []⟩] 3) (by kernel_rfl) (Runs.loop ?_)
  refine Runs.el (s := .pend [⟨0, 1, false, false, false, []⟩] wkL 3 5) (by kernel_rfl) ?_
  refine Runs.pend (s := .loop [⟨0, 0, false, false, false, []⟩] wkL 5) (by kernel_rfl) (Runs.loop ?_)
  refine Runs.pend (s := .loop [] wkL 5) (by kernel_rfl) ?_
  exact Runs.fin
set_option maxRecDepth 100000 in
theorem runs_wake2 : RunsC [0xa2, 97, 98, 1, 97, 97, 1] (limL 32 4096 262144) (.el [] [] 0) (.no 9 4 false) := by
  refine Runs.el (s := .loop [⟨0, 2, true, false, false, []⟩] [⟨5, 2, []⟩] 1) (by kernel_rfl) (Runs.loop ?_)
  refine Runs.el (s := .pend [⟨0, 2, true, false, false, []⟩] [⟨5, 2, []⟩, ⟨3, 0, [98]⟩] 1 3) (by kernel_rfl) ?_
  refine Runs.pend (s := .loop [⟨0, 2, true, true, true, [97, 98]⟩] [⟨5, 2, []⟩, ⟨3, 0, [98]⟩] 3) (by kernel_rfl) (Runs.loop ?_)
  refine Runs.el (s := .pend [⟨0, 2, true, true, true, [97, 98]⟩] [⟨5, 2, []⟩, ⟨3, 0, [98]⟩, ⟨0, 1, []⟩] 3 4) (by kernel_rfl) ?_
  refine Runs.pend (s := .loop [⟨0, 1, true, false, true, [97, 98]⟩] [⟨5, 2, []⟩, ⟨3, 0, [98]⟩, ⟨0, 1, []⟩] 4) (by kernel_rfl) (Runs.loop ?_)
  refine Runs.el (s := .pend [⟨0, 1, true, false, true, [97, 98]⟩] [⟨5, 2, []⟩, ⟨3, 0, [98]⟩, ⟨0, 1, []⟩, ⟨3, 0, [97]⟩] 4 6) (by kernel_rfl) ?_
  exact Runs.pendNo (by kernel_rfl)
theorem wk_dec1 (w : World) (hU : UT w.heap.size w) : Calls Tryd.prog 15 #[.string ⟨#[131, 1, 32, 65, 97]⟩, .agg #[.int .i64 32, .int .i64 4096, .int .i64 262144, .int .i64 4096]] w (fun e w' => ∃ v, e = .returned (.tuple #[v, .int .i64 0, .int .i64 0]) ∧ w'.ownsRow w.heap.size 75 3 v 4 (rcells (wkL.map up)) ∧ Below w.heap.size w w') := by
  refine (decode_any ⟨#[131, 1, 32, 65, 97]⟩ 32 4096 262144 4096 w (by rw [show (⟨#[131, 1, 32, 65, 97]⟩ : ByteArray).size = 5 from rfl]; omega) hU).mono ?_
  rintro e w' ⟨r, hr, v, he, ho, hb⟩
  have h1 := hr.1 (by kernel_rfl)
  rw [show (⟨#[131, 1, 32, 65, 97]⟩ : ByteArray).toList = [131, 1, 32, 65, 97] from tl_mk [131, 1, 32, 65, 97]] at h1
  have h2 := Runs.same _ _ _ _ h1 runs_wake
  subst h2
  exact ⟨v, he, ho, hb⟩
theorem wk_dec2 (w : World) (hU : UT w.heap.size w) : Calls Tryd.prog 15 #[.string ⟨#[162, 97, 98, 1, 97, 97, 1]⟩, .agg #[.int .i64 32, .int .i64 4096, .int .i64 262144, .int .i64 4096]] w (fun e w' => ∃ v, e = .returned (.tuple #[v, .int .i64 4, .int .i64 9]) ∧ Below w.heap.size w w') := by
  refine (decode_any ⟨#[162, 97, 98, 1, 97, 97, 1]⟩ 32 4096 262144 4096 w (by rw [show (⟨#[162, 97, 98, 1, 97, 97, 1]⟩ : ByteArray).size = 7 from rfl]; omega) hU).mono ?_
  rintro e w' ⟨r, hr, v, he, ho, hb⟩
  have h1 := hr.1 (by kernel_rfl)
  rw [show (⟨#[162, 97, 98, 1, 97, 97, 1]⟩ : ByteArray).toList = [162, 97, 98, 1, 97, 97, 1] from tl_mk [162, 97, 98, 1, 97, 97, 1]] at h1
  have h2 := Runs.same _ _ _ _ h1 runs_wake2
  subst h2
  exact ⟨v, he, hb⟩
theorem wk_enc (w : World) (v : Value) (hS : Sr w v (wkL.map up)) (hU : UT w.heap.size w) : Calls Tryd.prog 18 #[v] w (fun e w' => e = .returned (.tuple #[.string ⟨#[131, 1, 32, 65, 97]⟩, .int .i64 0]) ∧ Below w.heap.size w w') := by
  refine (cencode_any (wkL.map up) v w hS (by intro n hn; simp [wkL, up] at hn; rcases hn with rfl | rfl | rfl | rfl <;> decide) (by intro n hn; simp [wkL, up] at hn; rcases hn with rfl | rfl | rfl | rfl <;> decide) (by simp [wkL]) hU).mono ?_
  rintro e w' ⟨s, he, hs, hb⟩
  rw [enc_wake] at he hs
  have h1 : s = ⟨#[131, 1, 32, 65, 97]⟩ := by
    have h2 : (⟨s.toList.toArray⟩ : ByteArray) = s := by rw [Lib.toList_data]
    rw [← h2, hs]
  subst h1
  exact ⟨he, hb⟩
set_option maxRecDepth 100000 in
set_option maxHeartbeats 1600000 in
theorem wakes17_any (w : World) (hU : UT w.heap.size w) : Calls Tryd.prog 14 #[] w (fun e w' => e = .returned (.bool true) ∧ Below w.heap.size w w') := by
  have HU := Lib.hid hU
  have D1 := Lib.hid (fun w' hU => wk_dec1 w' hU)
  have D2 := Lib.hid (fun w' hU => wk_dec2 w' hU)
  have EN := Lib.hid (fun w' v hS hU => wk_enc w' v hS hU)
  have MO := Lib.hid (fun w' => most_any w')
  clear hU
  go_enter Tryd.func14, Tryd.ntmps14
  go_wp2_with fail
  refine (MO.out _).mono ?_
  rintro e w2 ⟨rfl, hb2⟩
  have HB2 : Hid (Below w.heap.size w w2) := hb2
  clear hb2
  go_wp2_with fail
  refine (D1.out _ (HU.out.at HB2.out)).mono ?_
  rintro e w3 ⟨v, rfl, ho, hb3⟩
  have HB3 : Hid (Below w.heap.size w w3) := HB2.out.trans (hb3.mono HB2.out.size)
  have HS3 : Hid (Sr w3 v (wkL.map up)) := Sr.ofOwn ho
  obtain ⟨a, c, rfl, -⟩ := own_form ho
  clear ho hb3
  go_wp2_with fail
  refine (MO.out _).mono ?_
  rintro e w4 ⟨rfl, hb4⟩
  have HB4 : Hid (Below w.heap.size w w4) := HB3.out.trans (hb4.mono HB3.out.size)
  have HS4 := Lib.hid (HS3.out.below hb4)
  clear hb4
  go_wp2_with fail
  refine (D2.out _ (HU.out.at HB4.out)).mono ?_
  rintro e w5 ⟨v5, rfl, hb5⟩
  have HB5 : Hid (Below w.heap.size w w5) := HB4.out.trans (hb5.mono HB4.out.size)
  have HS5 := Lib.hid (HS4.out.below hb5)
  clear hb5
  go_wp2_with fail
  refine (EN.out _ _ HS5.out (HU.out.at HB5.out)).mono ?_
  rintro e w6 ⟨rfl, hb6⟩
  have HB6 : Hid (Below w.heap.size w w6) := HB5.out.trans (hb6.mono HB5.out.size)
  clear hb6
  go_wp2_with fail
  go_ret
  exact ⟨rfl, HB6.out⟩
end Co
end Go.Proofs.YteanipjgpekncaaDoor
