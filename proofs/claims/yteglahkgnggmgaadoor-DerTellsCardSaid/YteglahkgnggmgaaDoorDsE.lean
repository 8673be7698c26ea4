/- The laws' own: the greatest limits, sameness. -/
import Derived.Test.YteglahkgnggmgaaDoorDsD
namespace Go.Proofs.YteglahkgnggmgaaDoor
open Go.RowKit
set_option linter.unusedVariables false
set_option linter.unusedSimpArgs false
open Dr
set_option maxRecDepth 100000 in
theorem most_any (w : World) : Calls Tryd.prog 20 #[] w (fun e w' => e = .returned (.agg #[.int .i64 32, .int .i64 4096, .int .i64 262144, .int .i64 4096]) ∧ Below w.heap.size w w') := by
  go_enter Tryd.func20, Tryd.ntmps20
  go_wp2_with fail
  have hA := At.ofAlloc w #[.int .i64 32, .int .i64 4096, .int .i64 262144, .int .i64 4096] 23
  refine bodyPost_ret (results_at rfl _ w.heap.size _ _ rfl hA Tryd.underlying23 rfl (by kernel_rfl)) rfl ?_
  exact ⟨rfl, (Below.refl _ _).alloc (Nat.le_refl _) _⟩
theorem Sl.ofOwn {w : World} {B : Nat} {v : Value} {l : List Nd} (h : w.ownsRow B 63 3 v l.length (ncells l)) : Sl w v l := by
  obtain ⟨a, c, rfl, ha⟩ := own_form h
  refine ⟨a, c, rfl, fun hl => ?_⟩
  obtain ⟨g, rfl⟩ := ha (List.length_pos_iff.2 hl)
  exact ⟨g, rfl, At.ofOwnN h, (h.lt g rfl).2⟩
theorem nd_ne {a b : Nd} (h : ¬ a = b) : ¬ ((a.tag.toNat : Int) = (b.tag.toNat : Int)) ∨ ((a.tag.toNat : Int) = (b.tag.toNat : Int) ∧ ¬ a.kids = b.kids) ∨ ((a.tag.toNat : Int) = (b.tag.toNat : Int) ∧ a.kids = b.kids ∧ ¬ a.body = b.body) := by
  by_cases h1 : (a.tag.toNat : Int) = (b.tag.toNat : Int)
  · by_cases h2 : a.kids = b.kids
    · refine .inr (.inr ⟨h1, h2, fun h3 => h ?_⟩)
      rcases a with ⟨t, k, l⟩
      rcases b with ⟨t', k', l'⟩
      have h6 : t = t' := UInt8.toNat_inj.1 (by have h7 : (t.toNat : Int) = (t'.toNat : Int) := h1; omega)
      have h7 : k = k' := h2
      have h8 : l = l' := h3
      rw [h6, h7, h8]
    · exact .inr (.inl ⟨h1, h2⟩)
  · exact .inl h1
theorem take_eqD (l m : List Nd) (i : Nat) (hi : i < l.length) (hj : i < m.length) (h : l.take i = m.take i) (he : l.getD i ⟨0, 0, []⟩ = m.getD i ⟨0, 0, []⟩) : l.take (i + 1) = m.take (i + 1) := by
  rw [List.take_add_one, List.take_add_one, h, List.getElem?_eq_getElem hi, List.getElem?_eq_getElem hj]
  rw [List.getD, List.getD, List.getElem?_eq_getElem hi, List.getElem?_eq_getElem hj] at he
  have he : l[i] = m[i] := he
  rw [he]
set_option maxRecDepth 100000 in
set_option maxHeartbeats 1600000 in
theorem dsame_any (l m : List Nd) (v u : Value) (w : World) (hS : Sl w v l) (hM : Sl w u m) (hl : l.length ≤ 140737488351232) (hm : m.length ≤ 140737488351232) :
    Calls Tryd.prog 16 #[v, u] w (RetBb2 (decide (l = m)) w) := by
  obtain ⟨R, hR⟩ : ∃ R, decide (l = m) = R := ⟨_, rfl⟩
  rw [hR]
  obtain ⟨a, cl, rfl, hl1⟩ := hS
  obtain ⟨b, cm, rfl, hm1⟩ := hM
  obtain ⟨n, hn⟩ : ∃ n, l.length = n := ⟨_, rfl⟩
  obtain ⟨k, hk⟩ : ∃ n, m.length = n := ⟨_, rfl⟩
  rw [hn] at hl
  rw [hk] at hm
  have HL := Lib.hid (And.intro hl1 hn)
  have HM := Lib.hid (And.intro hm1 hk)
  rw [hn, hk]
  by_cases hnk : n = k
  · subst hnk
    have HR := Lib.hid hR
    have HNN := Lib.hid hl
    clear hl1 hm1 hn hk hR hm hl
    go_enter Tryd.func16, Tryd.ntmps16
    go_wp2_with fail
    go_loopw [5] (fun vi wr => ∃ i : Nat, vi = .int .i64 (i : Int) ∧ i ≤ n ∧ Hid (l.take i = m.take i) ∧ Hid (Below w.heap.size w wr)) (fun vi _ => n - (intOf vi).toNat)
    case atStart => exact ⟨0, rfl, Nat.zero_le _, rfl, Below.refl _ _⟩
    case round =>
      obtain ⟨i, rfl, hi, HT, HB⟩ := hrel
      by_cases hin : i < n
      · have hil : i < l.length := by rw [HL.out.2]; exact hin
        have him : i < m.length := by rw [HM.out.2]; exact hin
        obtain ⟨g, rfl, hAg, hgl⟩ := HL.out.1 (fun h => by rw [h] at hil; simp at hil)
        obtain ⟨g2, rfl, hAg2, hgl2⟩ := HM.out.1 (fun h => by rw [h] at him; simp at him)
        have hNc := (ncell_at hAg i hil).below HB.out hgl
        have hNc2 := (ncell_at hAg2 i him).below HB.out hgl2
        obtain ⟨x, hx⟩ : ∃ nd, l.getD i ⟨0, 0, []⟩ = nd := ⟨_, rfl⟩
        obtain ⟨y, hy⟩ : ∃ nd, m.getD i ⟨0, 0, []⟩ = nd := ⟨_, rfl⟩
        rw [hx] at hNc
        rw [hy] at hNc2
        have n0 := hNc.cell 0 _ rfl
        have n1 := hNc.cell 1 _ rfl
        have n2 := hNc.cell 2 _ rfl
        rw [Nat.add_zero] at n0
        have m0 := hNc2.cell 0 _ rfl
        have m1 := hNc2.cell 1 _ rfl
        have m2 := hNc2.cell 2 _ rfl
        rw [Nat.add_zero] at m0
        have e2 : (i : Int) < (n : Int) := by omega
        have e9 : (i : Int) ≤ 140737488351232 := by have := HNN.out; omega
        have HXY := Lib.hid (And.intro hx (And.intro hy (And.intro hil him)))
        have HII := Lib.hid (show ∃ j, n = i + 1 + j from ⟨n - i - 1, by omega⟩)
        clear hNc hNc2 hAg hAg2 hgl hgl2 hx hy hil him hi hin
        by_cases hxy : x = y
        · subst hxy
          have HTT : Hid (l.take (i + 1) = m.take (i + 1)) := take_eqD l m i HXY.out.2.2.1 HXY.out.2.2.2 HT.out (by rw [HXY.out.1, HXY.out.2.1])
          go_wp2_with fail
          go_region
          go_wp2_with fail
          go_roundw
          case rel => exact ⟨i + 1, by go_num, by obtain ⟨j, hj⟩ := HII.out; omega, HTT, HB.out.drew⟩
          case measure => obtain ⟨j, hj⟩ := HII.out; simp [intOf]; omega
        · have HF : Hid (R = false) := by
            show R = _
            rw [← HR.out]
            exact decide_eq_false (fun h => hxy (by rw [← HXY.out.1, ← HXY.out.2.1, h]))
          have hne := nd_ne hxy
          obtain ⟨tx, htx⟩ : ∃ t, x.tag.toNat = t := ⟨_, rfl⟩
          obtain ⟨ty, hty⟩ : ∃ t, y.tag.toNat = t := ⟨_, rfl⟩
          obtain ⟨kx, hkx⟩ : ∃ t, x.kids = t := ⟨_, rfl⟩
          obtain ⟨ky, hky⟩ : ∃ t, y.kids = t := ⟨_, rfl⟩
          obtain ⟨bx, hbx⟩ : ∃ t, x.body = t := ⟨_, rfl⟩
          obtain ⟨by', hby⟩ : ∃ t, y.body = t := ⟨_, rfl⟩
          rw [htx, hty, hkx, hky, hbx, hby] at hne
          rw [htx] at n0
          rw [hkx] at n1
          rw [hbx] at n2
          rw [hty] at m0
          rw [hky] at m1
          rw [hby] at m2
          clear hxy htx hty hkx hky hbx hby
          rcases hne with h1 | ⟨h1, h2⟩ | ⟨h1, h2, h3⟩
          · have h1b : ¬ tx = ty := by omega
            go_wp2_with fail
            go_region
            go_wp2_with fail
            go_ret
            exact ⟨by rw [HF.out]; rfl, HB.out.drew⟩
          · obtain rfl : tx = ty := by omega
            clear h1
            go_wp2_with fail
            go_region
            go_wp2_with fail
            go_ret
            exact ⟨by rw [HF.out]; rfl, HB.out.drew⟩
          · obtain rfl : tx = ty := by omega
            subst h2
            clear h1
            go_wp2_with fail
            go_region
            go_wp2_with fail
            go_ret
            exact ⟨by rw [HF.out]; rfl, HB.out.drew⟩
      · obtain rfl : i = n := by omega
        have e2 : ¬ (i : Int) < (i : Int) := by omega
        rw [List.take_of_length_le (by rw [HL.out.2]; exact Nat.le_refl _), List.take_of_length_le (by rw [HM.out.2]; exact Nat.le_refl _)] at HT
        have HF : Hid (R = true) := by
          show R = _
          rw [← HR.out]
          exact decide_eq_true HT.out
        go_wp2_with fail
        go_ret
        exact ⟨by rw [HF.out]; rfl, HB.out⟩
  · have HF : Hid (R = false) := by
      show R = _
      rw [← hR]
      exact decide_eq_false (fun h => hnk (by rw [← hn, ← hk, h]))
    have e1 : ¬ (n : Int) = (k : Int) := by omega
    clear hl1 hm1 hn hk hR hm hl
    go_enter Tryd.func16, Tryd.ntmps16
    go_wp2_with fail
    go_ret
    exact ⟨by rw [HF.out]; rfl, Below.refl _ _⟩
end Go.Proofs.YteglahkgnggmgaaDoor
