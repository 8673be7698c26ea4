/- A list of atoms that one is handed, at any place: copied, compared. -/
import Derived.Test.YteanipjgpekncaaDoorCpW
namespace Go.Proofs.YteanipjgpekncaaDoor
open Go.RowKit
set_option linter.unusedVariables false
set_option linter.unusedSimpArgs false
namespace Co
open Dr (Rs Lm has lack at0S)
def SrO (w : World) (v : Value) (l : List Ra) : Prop := ∃ a cap, v = .slice a l.length cap ∧ (l ≠ [] → ∃ g o, a = some ⟨g, o, none⟩ ∧ At w g o (rcells l) ∧ g < w.heap.size)
theorem SrO.below {w w' : World} {v : Value} {l : List Ra} (h : SrO w v l) (hb : Below w.heap.size w w') : SrO w' v l := by
  obtain ⟨a, cap, hv, h1⟩ := h
  exact ⟨a, cap, hv, fun hl => by obtain ⟨g, o, h2, h3, h4⟩ := h1 hl; exact ⟨g, o, h2, h3.below hb h4, Nat.lt_of_lt_of_le h4 hb.size⟩⟩
theorem at_cellsO {w : World} {k o : Nat} {cs : List Value} (h : At w k o cs) : ∀ j u, cs[j]? = some u → w.cell? ((⟨k, o, none⟩ : Addr).add j) = some u := fun j u hu => by
  have := (h j u hu).1
  unfold Addr.add
  split
  · rename_i h0; simpa [h0] using this
  · exact this
theorem rcell_atO {w : World} {g o : Nat} {l : List Ra} (h : At w g o (rcells l)) (i : Nat) (hi : i < l.length) : At w g (o + i * 3) (rv (l.getD i ra0)) := by
  obtain ⟨A, B, hAB, hA⟩ := rv_get l i hi
  rw [hAB] at h
  have h2 := At.sub h
  rw [hA] at h2
  exact h2
set_option maxRecDepth 100000 in
set_option maxHeartbeats 1600000 in
theorem copied_neO (l : List Ra) (v : Value) (w : World) (hS : SrO w v l) (hn : l.length ≤ 4398046510976) (h0 : l ≠ []) : Calls Tryd.prog 19 #[v] w (RetRas l w) := by
  obtain ⟨i0, hi, hq⟩ := Option.map_eq_some_iff.1 infoA
  simp only [Prod.mk.injEq] at hq
  obtain ⟨hz0, hz1, hz2⟩ := hq
  obtain ⟨a, cap, rfl, hl⟩ := hS
  obtain ⟨g, o, rfl, hA, hg⟩ := hl h0
  obtain ⟨n, hn0⟩ : ∃ n, l.length = n := ⟨_, rfl⟩
  have HA := Lib.hid (And.intro hA (And.intro hg (And.intro hn hn0)))
  have hlen : (rcells l).length = n * 3 := by rw [rcells_length, hn0, Nat.mul_comm]
  have HLN := Lib.hid hlen
  have HO := Lib.hid (World.ownsRow_lit (base := w.heap.size) (e := 75) (size := 3) w #[] 0 (Nat.le_refl _) (by decide) rfl)
  rw [hn0]
  clear hl hA hg hn hn0 h0 hlen
  go_enter Tryd.func19, Tryd.ntmps19
  go_wp2_with (at_builtin; refine wpList_append_own _ rfl (.tmp 3) (.tmp 4) 25 rfl w.heap.size 75 i0 _ 3 32 Tryd.underlying25 hi hz0 hz1 hz2 rfl (by decide) _ 0 [] rfl HO.out ⟨g, o, none⟩ n cap (rcells l) rfl HLN.out (at_cellsO ((HA.out.1).alloc _)) (rcells_one l) (by have := HA.out.2.2; unfold maxLen; omega) (by have := HA.out.2.2; omega) (by simp) ?_; intro v' w1 hown1 hgrow1 _; have HO1 := Lib.hid hown1; have HB1 : Hid (Below w.heap.size w w1) := Below.grown ((Below.refl _ _).alloc (Nat.le_refl _) _) hgrow1 (by simp) (fun k hk => (HO.out.lt k hk).1); clear hown1 hgrow1)
  go_ret
  exact ⟨v', rfl, by have h1 := HO1.out; rw [Nat.zero_add, List.nil_append] at h1; rw [HA.out.2.2.2]; exact h1, HB1.out⟩
theorem copied_anyO (l : List Ra) (v : Value) (w : World) (hS : SrO w v l) (hn : l.length ≤ 4398046510976) : Calls Tryd.prog 19 #[v] w (RetRas l w) := by
  by_cases h0 : l = []
  · subst h0
    obtain ⟨a, cap, rfl, -⟩ := hS
    exact copied_nil a cap w
  · exact copied_neO l v w hS hn h0
set_option maxRecDepth 100000 in
set_option maxHeartbeats 1600000 in
theorem csame_anyO (l m : List Ra) (v u : Value) (w : World) (hS : SrO w v l) (hM : Sr w u m) (hl : l.length ≤ 140737488351232) (hm : m.length ≤ 140737488351232) :
    Calls Tryd.prog 17 #[v, u] w (RetBb (decide (l = m)) w) := by
  obtain ⟨R, hR⟩ : ∃ R, decide (l = m) = R := ⟨_, rfl⟩
  rw [hR]
  obtain ⟨a, cl, rfl, hl1⟩ := hS
  obtain ⟨b, cm, rfl, hm1⟩ := hM
  obtain ⟨n, hn⟩ : ∃ n, l.length = n := ⟨_, rfl⟩
  obtain ⟨k, hk⟩ : ∃ n, m.length = n := ⟨_, rfl⟩
  rw [hn] at hl
  rw [hk] at hm
  have HL := Lib.hid (And.intro hl1 hn)
  have HM := Lib.hid (And.intro hm1 hk)
  rw [hn, hk]
  by_cases hnk : n = k
  · subst hnk
    have HR := Lib.hid hR
    have HNN := Lib.hid hl
    clear hl1 hm1 hn hk hR hm hl
    go_enter Tryd.func17, Tryd.ntmps17
    go_wp2_with fail
    go_loopw [5] (fun vi wr => ∃ i : Nat, vi = .int .i64 (i : Int) ∧ i ≤ n ∧ Hid (l.take i = m.take i) ∧ Hid (Below w.heap.size w wr)) (fun vi _ => n - (intOf vi).toNat)
    case atStart => exact ⟨0, rfl, Nat.zero_le _, rfl, Below.refl _ _⟩
    case round =>
      obtain ⟨i, rfl, hi, HT, HB⟩ := hrel
      by_cases hin : i < n
      · have hil : i < l.length := by rw [HL.out.2]; exact hin
        have him : i < m.length := by rw [HM.out.2]; exact hin
        obtain ⟨g, o, rfl, hAg, hgl⟩ := HL.out.1 (fun h => by rw [h] at hil; simp at hil)
        obtain ⟨g2, rfl, hAg2, hgl2⟩ := HM.out.1 (fun h => by rw [h] at him; simp at him)
        have hNc := (rcell_atO hAg i hil).below HB.out hgl
        have hNc2 := (rcell_at hAg2 i him).below HB.out hgl2
        obtain ⟨x, hx⟩ : ∃ nd, l.getD i ra0 = nd := ⟨_, rfl⟩
        obtain ⟨y, hy⟩ : ∃ nd, m.getD i ra0 = nd := ⟨_, rfl⟩
        rw [hx] at hNc
        rw [hy] at hNc2
        have n0 := hNc.cell 0 _ rfl
        have n1 := hNc.cell 1 _ rfl
        have n2 := hNc.cell 2 _ rfl
        rw [Nat.add_zero] at n0
        have m0 := hNc2.cell 0 _ rfl
        have m1 := hNc2.cell 1 _ rfl
        have m2 := hNc2.cell 2 _ rfl
        rw [Nat.add_zero] at m0
        have e2 : (i : Int) < (n : Int) := by omega
        have e9 : (i : Int) ≤ 140737488351232 := by have := HNN.out; omega
        have HXY := Lib.hid (And.intro hx (And.intro hy (And.intro hil him)))
        have HII := Lib.hid (show ∃ j, n = i + 1 + j from ⟨n - i - 1, by omega⟩)
        clear hNc hNc2 hAg hAg2 hgl hgl2 hx hy hil him hi hin
        by_cases hxy : x = y
        · subst hxy
          have HTT : Hid (l.take (i + 1) = m.take (i + 1)) := take_eqD l m i HXY.out.2.2.1 HXY.out.2.2.2 HT.out (by rw [HXY.out.1, HXY.out.2.1])
          go_wp2_with fail
          go_region
          go_wp2_with fail
          go_roundw
          case rel => exact ⟨i + 1, by go_num, by obtain ⟨j, hj⟩ := HII.out; omega, HTT, HB.out.drew⟩
          case measure => obtain ⟨j, hj⟩ := HII.out; simp [intOf]; omega
        · have HF : Hid (R = false) := by
            show R = _
            rw [← HR.out]
            exact decide_eq_false (fun h => hxy (by rw [← HXY.out.1, ← HXY.out.2.1, h]))
          have hne := ra_ne hxy
          obtain ⟨tx, htx⟩ : ∃ t, x.kind = t := ⟨_, rfl⟩
          obtain ⟨ty, hty⟩ : ∃ t, y.kind = t := ⟨_, rfl⟩
          obtain ⟨kx, hkx⟩ : ∃ t, x.num = t := ⟨_, rfl⟩
          obtain ⟨ky, hky⟩ : ∃ t, y.num = t := ⟨_, rfl⟩
          obtain ⟨bx, hbx⟩ : ∃ t, x.text = t := ⟨_, rfl⟩
          obtain ⟨by', hby⟩ : ∃ t, y.text = t := ⟨_, rfl⟩
          rw [htx, hty, hkx, hky, hbx, hby] at hne
          rw [htx] at n0
          rw [hkx] at n1
          rw [hbx] at n2
          rw [hty] at m0
          rw [hky] at m1
          rw [hby] at m2
          clear hxy htx hty hkx hky hbx hby
          rcases hne with h1 | ⟨h1, h2⟩ | ⟨h1, h2, h3⟩
          · have h1b : (tx == ty) = false := by rw [beq_eq_false_iff_ne]; exact h1
            go_wp2_with fail
            go_region
            go_wp2_with fail
            go_ret
            exact ⟨by rw [HF.out]; rfl, HB.out.drew⟩
          · obtain rfl : tx = ty := by omega
            clear h1
            go_wp2_with fail
            go_region
            go_wp2_with fail
            go_ret
            exact ⟨by rw [HF.out]; rfl, HB.out.drew⟩
          · obtain rfl : tx = ty := by omega
            obtain rfl : kx = ky := by omega
            clear h1
            go_wp2_with fail
            go_region
            go_wp2_with fail
            go_ret
            exact ⟨by rw [HF.out]; rfl, HB.out.drew⟩
      · obtain rfl : i = n := by omega
        have e2 : ¬ (i : Int) < (i : Int) := by omega
        rw [List.take_of_length_le (by rw [HL.out.2]; exact Nat.le_refl _), List.take_of_length_le (by rw [HM.out.2]; exact Nat.le_refl _)] at HT
        have HF : Hid (R = true) := by
          show R = _
          rw [← HR.out]
          exact decide_eq_true HT.out
        go_wp2_with fail
        go_ret
        exact ⟨by rw [HF.out]; rfl, HB.out⟩
  · have HF : Hid (R = false) := by
      show R = _
      rw [← hR]
      exact decide_eq_false (fun h => hnk (by rw [← hn, ← hk, h]))
    have e1 : ¬ (n : Int) = (k : Int) := by omega
    clear hl1 hm1 hn hk hR hm hl
    go_enter Tryd.func17, Tryd.ntmps17
    go_wp2_with fail
    go_ret
    exact ⟨by rw [HF.out]; rfl, Below.refl _ _⟩
end Co
end Go.Proofs.YteanipjgpekncaaDoor
