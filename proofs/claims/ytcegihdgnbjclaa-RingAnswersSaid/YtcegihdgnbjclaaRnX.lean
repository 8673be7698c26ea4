/- Keys by their names: the document's Find and Only; lists of names are alike. -/
import Derived.Test.YtcegihdgnbjclaaRnR
import Derived.Test.YtcegihdgnbjclaaRnO
namespace Go.Proofs.Ytcegihdgnbjclaa
open Go.RowKit Go.Maps Go.Sort
open Go.Proofs (encStr)
set_option linter.unusedVariables false
set_option linter.unusedSimpArgs false
namespace Rn
theorem Rf.bump {w : World} {B x g n c : Nat} {vL : Value} {L : List En} {C : List Nat} (h : Rf w B x vL (.slice (some ⟨g, 0, none⟩) n c) L C) (hn : L.length = n) (i : Nat) (hL : ∀ k, vL.ownBlock = some k → k ≠ g) :
    Rf (w.setCell ⟨g, i, none⟩ (.int .i64 ((C.getD i 0 + 1 : Nat) : Int))) B x vL (.slice (some ⟨g, 0, none⟩) n c) L (C.set i (C.getD i 0 + 1)) where
  at0 := at_same h.at0 (heap_set_ne w _ _ x (fun e => h.nx.2 (by rw [← e]; rfl)))
  oL := own_set h.oL _ _ (fun k hk e => hL k hk e.symm)
  oT := by
    have h0 := h.oT
    rw [hn] at h0 ⊢
    have h1 := (h0.stored i (.int .i64 ((C.getD i 0 + 1 : Nat) : Int))).1
    rw [ncells_set] at h1
    exact h1
  cl := by rw [List.length_set]; exact h.cl
  ge := h.ge
  nx := h.nx
theorem Rf.apart {w : World} {B x : Nat} {vL vT : Value} {L : List En} {C : List Nat} (h : Rf w B x vL vT L C) : ∀ k, vL.ownBlock = some k → ∀ g, vT.ownBlock = some g → k ≠ g := fun k hk g hg e => by
  subst e
  rcases own_ne h.oL h.oT (by decide) with h1 | h1
  · rw [h1] at hk; cases hk
  · exact h1 (hk.trans hg.symm)
section
variable (w : World) (B x : Nat) (vL vT : Value) (L : List En) (C : List Nat)
def RetRFind (s : List UInt8) (e : Ending) (w' : World) : Prop :=
  e = .returned (.tuple #[.string ⟨(findK L s).toArray⟩, .int .i64 (findC L s)]) ∧ Rf w' B x vL vT L (findN L C s) ∧ Kp (fun k => some k = vT.ownBlock) w w'
set_option maxRecDepth 100000 in
set_option maxHeartbeats 1600000 in
theorem rfind_any (hR : Rf w B x vL vT L C) (s : ByteArray) (hn : L.length ≤ 64) (hC : ∀ i, C.getD i 0 ≤ 1000000) :
    Calls Try.prog 15 #[.pointer (some ⟨x, 0, none⟩), .string s] w (RetRFind w B x vL vT L C s.toList) := by
  have AA := rat_any w B x vL vT L C hR s hn
  have a0 := hR.at0.cell 0 _ rfl
  have a1 := hR.at0.cell 1 _ rfl
  rw [Nat.zero_add] at a0 a1
  cases hp : plc s.toList L with
  | none =>
    rw [hp] at AA
    replace AA := Lib.hid AA
    have e1 : pI none = -1 := rfl
    rw [e1] at AA
    have HH := Lib.hid (And.intro hp hR)
    clear hR hn hp hC
    go_enter Try.func15, Try.ntmps15
    go_wp2_with (go_at_call 17; refine (AA.out).mono ?_; rintro e w ⟨rfl, rfl⟩)
    go_ret2
    refine ⟨?_, ?_, Kp.refl _ _⟩
    · rw [findK, findC, HH.out.1]; rfl
    · rw [findN, HH.out.1]; exact HH.out.2
  | some i =>
    rw [hp] at AA
    have hi := plc_lt hp
    replace AA := Lib.hid AA
    have e1 : pI (some i) = (i : Int) := rfl
    rw [e1] at AA
    have hap := hR.apart
    obtain ⟨aT, cT, rfl, hg⟩ := own_form hR.oT
    obtain ⟨g, rfl⟩ := hg (by omega)
    obtain ⟨aL, cL, rfl, hgL⟩ := own_form hR.oL
    obtain ⟨gL, rfl⟩ := hgL (by omega)
    obtain ⟨n, hn0⟩ : ∃ n, L.length = n := ⟨_, rfl⟩
    have hgg : ¬ gL = g := hap gL rfl g rfl
    have hxL : ¬ x = gL := fun h => hR.nx.1 (by rw [h]; rfl)
    have hxT : ¬ x = g := fun h => hR.nx.2 (by rw [h]; rfl)
    have hT := At.ofOwnN hR.oT
    have c0 := hT.cell i _ (ncells_get C i (by rw [hR.cl]; exact hi))
    have z0 := hT.froz i (by rw [ncells_length, hR.cl]; exact hi)
    have hE := entry_at (At.ofOwnN hR.oL) i hi
    obtain ⟨e, he⟩ : ∃ e, L.getD i e0 = e := ⟨_, rfl⟩
    rw [he, Nat.zero_add] at hE
    have x1 := hE.cell 1 _ rfl
    rw [Nat.zero_add] at c0 z0
    obtain ⟨c, hc⟩ : ∃ c, C.getD i 0 = c := ⟨_, rfl⟩
    have hcb := hC i
    have hR2 := hR.bump rfl i (fun k hk => hap k hk g rfl)
    have hcc : ((c + 1 : Nat) : Int) = (c : Int) + 1 := by omega
    rw [hc] at c0 hcb hR2
    rw [hcc] at hR2
    have hcw2 : wrap64 ((c : Int) + 1) = (c : Int) + 1 := by have h9 := w64n (c + 1) (by omega); rw [hcc] at h9; exact h9
    rw [hn0] at hi hn a1 a0
    have e2 : (i : Int) < (n : Int) := by omega
    have e3 : (0 : Int) ≤ (i : Int) := by omega
    have e4 : (i : Int) ≤ 64 := by omega
    have e5 : ¬ (i : Int) < 0 := by omega
    have HH := Lib.hid (And.intro hp (And.intro hR2 (And.intro hc (And.intro he hn0))))
    try rw [hn0]
    clear hR hR2 hn hp hi hn0 hg hc he hC hap hgL hT hE hcc
    go_enter Try.func15, Try.ntmps15
    go_wp2_with (go_at_call 17; refine (AA.out).mono ?_; rintro e w ⟨rfl, rfl⟩)
    go_region
    all_goals
      go_wp2_with fail
      go_ret2
      obtain ⟨hp, hR2, hc, he, hn0⟩ := HH.out
      refine ⟨?_, ?_, (Kp.set (S := fun k => some k = some g) (Kp.refl _ w) ⟨g, i, none⟩ _ (fun _ => rfl)).drewN 1⟩
      · rw [findK, findC, hp]
        show _ = Ending.returned (.tuple #[.string ⟨(L.getD i e0).key.toArray⟩, .int .i64 0])
        rw [he]; rfl
      · rw [findN, hp]
        show Rf _ _ _ _ _ _ (C.set i (C.getD i 0 + 1))
        rw [hc, ← hn0]
        exact hR2.same (fun k hk => rfl)
def RetROnly (e : Ending) (w' : World) : Prop :=
  e = .returned (.tuple #[.string ⟨(onlyE L).name.toArray⟩, .string ⟨(onlyE L).key.toArray⟩, .int .i64 (onlyC L)]) ∧ Rf w' B x vL vT L (onlyN L C) ∧ Kp (fun k => some k = vT.ownBlock) w w'
set_option maxRecDepth 100000 in
set_option maxHeartbeats 1600000 in
theorem ronly_any (hR : Rf w B x vL vT L C) (hn : L.length ≤ 64) (hC : ∀ i, C.getD i 0 ≤ 1000000) :
    Calls Try.prog 19 #[.pointer (some ⟨x, 0, none⟩)] w (RetROnly w B x vL vT L C) := by
  have a0 := hR.at0.cell 0 _ rfl
  have a1 := hR.at0.cell 1 _ rfl
  rw [Nat.zero_add] at a0 a1
  rcases only_cases L with ⟨e, rfl⟩ | ⟨h1, h2, h3, h4⟩
  · have hap := hR.apart
    obtain ⟨aT, cT, rfl, hg⟩ := own_form hR.oT
    obtain ⟨g, rfl⟩ := hg (by simp)
    obtain ⟨aL, cL, rfl, hgL⟩ := own_form hR.oL
    obtain ⟨gL, rfl⟩ := hgL (by simp)
    have hgg : ¬ gL = g := hap gL rfl g rfl
    have hxL : ¬ x = gL := fun h => hR.nx.1 (by rw [h]; rfl)
    have hxT : ¬ x = g := fun h => hR.nx.2 (by rw [h]; rfl)
    have hT := At.ofOwnN hR.oT
    have hcl : 0 < C.length := by rw [hR.cl]; simp
    have c0 := hT.cell 0 _ (ncells_get C 0 hcl)
    have z0 := hT.froz 0 (by rw [ncells_length]; exact hcl)
    have hE := entry_at (At.ofOwnN hR.oL) 0 (by simp)
    have x0 := hE.cell 0 _ rfl
    have x1 := hE.cell 1 _ rfl
    rw [Nat.zero_add] at c0 z0
    obtain ⟨c, hc⟩ : ∃ c, C.getD 0 0 = c := ⟨_, rfl⟩
    have hcb := hC 0
    have hR2 := hR.bump rfl 0 (fun k hk => hap k hk g rfl)
    have hcc : ((c + 1 : Nat) : Int) = (c : Int) + 1 := by omega
    rw [hc] at c0 hcb hR2
    rw [hcc] at hR2
    have hcw2 : wrap64 ((c : Int) + 1) = (c : Int) + 1 := by have h9 := w64n (c + 1) (by omega); rw [hcc] at h9; exact h9
    have i1 : ∀ w, (Instr.indexAt 74 (.slice (some ⟨g, 0, none⟩) 1 cT) (.int .i64 0)).run Try.prog w = .ok (.pointer (some ⟨g, 0, none⟩)) w := fun w => by kernel_rfl
    have i2 : ∀ w, (Instr.indexAt 22 (.slice (some ⟨gL, 0, none⟩) 1 cL) (.int .i64 0)).run Try.prog w = .ok (.pointer (some ⟨gL, 0, none⟩)) w := fun w => by kernel_rfl
    have HH := Lib.hid (And.intro hR2 hc)
    rw [show ([e] : List En).length = 1 from rfl] at a0 a1
    rw [show ([e] : List En).getD 0 e0 = e from rfl] at x0 x1
    rw [show 0 + 0 * 2 + 0 = 0 from rfl] at x0
    rw [show 0 + 0 * 2 + 1 = 1 from rfl] at x1
    clear hR hR2 hn hg hc hC hap hgL hT hE hcc hcl
    go_enter Try.func19, Try.ntmps19
    go_wp2_with fail
    go_region
    all_goals
      go_wp2_with fail
      go_region
      all_goals
        go_wp2_with fail
        go_ret3
        obtain ⟨hR2, hc⟩ := HH.out
        refine ⟨rfl, ?_, ((Kp.set (S := fun k => some k = some g) (Kp.refl _ w) ⟨g, 0, none⟩ _ (fun _ => rfl)).drewN 1).drewN 1⟩
        show Rf _ _ _ _ _ _ (C.set 0 (C.getD 0 0 + 1))
        rw [hc]
        exact hR2.same (fun k hk => rfl)
  · obtain ⟨aL, cL, rfl, hgL⟩ := own_form hR.oL
    have hne : ((L.length : Int) != 1) = true := by rw [bne_iff_ne]; omega
    have HH := Lib.hid (And.intro hR (And.intro h2 (And.intro h3 h4)))
    obtain ⟨m, hm⟩ : ∃ m, L.length = m := ⟨_, rfl⟩
    rw [hm] at hne a0 HH
    try rw [hm]
    have HM := Lib.hid hm
    clear hR h1 h2 h3 h4 hm hC hn hgL
    go_enter Try.func19, Try.ntmps19
    go_wp2_with fail
    go_ret3
    obtain ⟨hR, h2, h3, h4⟩ := HH.out
    exact ⟨by rw [h2, h3]; rfl, by rw [h4]; exact hR, Kp.refl _ _⟩
/-- a list of names in memory -/
def Sl (w : World) (v : Value) (l : List (List UInt8)) : Prop := ∃ a cap, v = .slice a l.length cap ∧ (l ≠ [] → ∃ g, a = some ⟨g, 0, none⟩ ∧ At w g 0 (l.map encStr) ∧ g < w.heap.size)
theorem Sl.of {w : World} {B : Nat} {v : Value} {l : List (List UInt8)} (h : w.ownsRow B 9 1 v l.length (l.map encStr)) : Sl w v l := by
  obtain ⟨a, c, rfl, hg⟩ := own_form h
  refine ⟨a, c, rfl, fun hl => ?_⟩
  obtain ⟨g, rfl⟩ := hg (List.length_pos_iff.2 hl)
  exact ⟨g, rfl, At.ofOwnN h, (h.lt g rfl).2⟩
set_option maxRecDepth 100000 in
set_option maxHeartbeats 1600000 in
theorem same_any (l m : List (List UInt8)) (v u : Value) (hl : Sl w v l) (hm : Sl w u m) (hn : l.length ≤ 1000) :
    Calls Try.prog 11 #[v, u] w (fun e w' => e = .returned (.bool (decide (l = m))) ∧ Below w.heap.size w w') := by
  obtain ⟨R, hR⟩ : ∃ R, decide (l = m) = R := ⟨_, rfl⟩
  rw [hR]
  obtain ⟨a, cl, rfl, hl1⟩ := hl
  obtain ⟨b, cm, rfl, hm1⟩ := hm
  obtain ⟨n, hn0⟩ : ∃ n, l.length = n := ⟨_, rfl⟩
  obtain ⟨k, hk0⟩ : ∃ n, m.length = n := ⟨_, rfl⟩
  have HL := Lib.hid (And.intro hl1 hn0)
  have HM := Lib.hid (And.intro hm1 hk0)
  rw [hn0] at hn
  rw [hn0, hk0]
  by_cases hnk : n = k
  · subst hnk
    have HR := Lib.hid hR
    have HNN := Lib.hid hn
    clear hl1 hm1 hn0 hk0 hR hn
    go_enter Try.func11, Try.ntmps11
    go_wp2_with fail
    go_loopw [5] (fun vi wr => ∃ i : Nat, vi = .int .i64 (i : Int) ∧ i ≤ n ∧ Hid (l.take i = m.take i) ∧ Hid (Below w.heap.size w wr)) (fun vi _ => n - (intOf vi).toNat)
    case atStart => exact ⟨0, rfl, Nat.zero_le _, rfl, Below.refl _ _⟩
    case round =>
      obtain ⟨i, rfl, hi, HT, HB⟩ := hrel
      by_cases hin : i < n
      · have hil : i < l.length := by rw [HL.out.2]; exact hin
        have him : i < m.length := by rw [HM.out.2]; exact hin
        obtain ⟨g, rfl, hAg, hgl⟩ := HL.out.1 (fun h => by rw [h] at hil; simp at hil)
        obtain ⟨g2, rfl, hAg2, hgl2⟩ := HM.out.1 (fun h => by rw [h] at him; simp at him)
        obtain ⟨p, hp⟩ : ∃ p : ByteArray, (⟨l[i].toArray⟩ : ByteArray) = p := ⟨_, rfl⟩
        obtain ⟨q, hq⟩ : ∃ p : ByteArray, (⟨m[i].toArray⟩ : ByteArray) = p := ⟨_, rfl⟩
        have c1 := (hAg.below HB.out hgl).cell i (.string p) (by rw [List.getElem?_map, List.getElem?_eq_getElem hil, ← hp]; rfl)
        have c2 := (hAg2.below HB.out hgl2).cell i (.string q) (by rw [List.getElem?_map, List.getElem?_eq_getElem him, ← hq]; rfl)
        rw [Nat.zero_add] at c1 c2
        have hpt : p.toList = l[i] := by rw [← hp, tl_mk]
        have hqt : q.toList = m[i] := by rw [← hq, tl_mk]
        have e1 : (i : Int) < (n : Int) := by omega
        have e2 : (0 : Int) ≤ (i : Int) := by omega
        have e3 : (i : Int) ≤ 1000 := by have := HNN.out; omega
        have HI := Lib.hid hin
        by_cases heq : l[i] = m[i]
        · have g1 : (p.toList != q.toList) = false := by rw [hpt, hqt, heq]; simp
          have g1' : (p.toList == q.toList) = true := by rw [hpt, hqt, heq]; simp
          have HT2 : Hid (l.take (i + 1) = m.take (i + 1)) := by show _ = _; rw [List.take_succ_eq_append_getElem hil, List.take_succ_eq_append_getElem him, HT.out, heq]
          clear hil him hAg hAg2 hgl hgl2 hp hq hpt hqt heq hin
          go_wp2_with fail
          go_quiet (fail)
          go_wp2_with fail
          go_roundw
          case rel => exact ⟨i + 1, by go_num, HI.out, HT2, HB.out.trans ⟨rfl, rfl, rfl, Nat.le_refl _, fun _ _ => rfl⟩⟩
          case measure => have h9 := HI.out; simp [intOf]; omega
        · have g1 : (p.toList != q.toList) = true := by rw [hpt, hqt]; simpa using heq
          have g1' : (p.toList == q.toList) = false := by rw [hpt, hqt]; simpa using heq
          have HF : Hid (R = false) := by
            show R = false
            rw [← HR.out, decide_eq_false_iff_not]
            intro h
            subst h
            exact heq rfl
          clear hil him hAg hAg2 hgl hgl2 hp hq hpt hqt heq hin
          go_wp2_with fail
          go_quiet (fail)
          go_wp2_with fail
          go_ret
          exact ⟨by rw [HF.out]; rfl, HB.out.trans ⟨rfl, rfl, rfl, Nat.le_refl _, fun _ _ => rfl⟩⟩
      · obtain rfl : i = n := by omega
        have e1 : ¬ (i : Int) < (i : Int) := by omega
        have HF : Hid (R = true) := by
          show R = true
          have h1 := HT.out
          rw [List.take_of_length_le (by rw [HL.out.2]; exact Nat.le_refl _), List.take_of_length_le (by rw [HM.out.2]; exact Nat.le_refl _)] at h1
          rw [← HR.out, decide_eq_true_iff]
          exact h1
        clear hin
        go_wp2_with fail
        go_ret
        exact ⟨by rw [HF.out]; rfl, HB.out⟩
  · have hne : ((n : Int) != (k : Int)) = true := by rw [bne_iff_ne]; omega
    have hne2 : ((n : Int) == (k : Int)) = false := by rw [beq_eq_false_iff_ne]; omega
    have HF : Hid (R = false) := by
      show R = false
      rw [← hR, decide_eq_false_iff_not]
      intro h
      subst h
      exact hnk (hn0.symm.trans hk0)
    clear hl1 hm1 hn0 hk0 hR hn hnk HL HM
    go_enter Try.func11, Try.ntmps11
    go_wp2_with fail
    go_ret
    exact ⟨by rw [HF.out]; rfl, Below.refl _ _⟩
end
end Rn
end Go.Proofs.Ytcegihdgnbjclaa
