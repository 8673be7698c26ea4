/- Keys by their names: the document's Names. -/
import Derived.Test.YtcegihdgnbjclaaRnX
namespace Go.Proofs.Ytcegihdgnbjclaa
open Go.RowKit Go.Maps Go.Sort
open Go.Proofs (encStr)
set_option linter.unusedVariables false
set_option linter.unusedSimpArgs false
namespace Rn
/-- the names put in their places so far -/
structure So (w : World) (B : Nat) (v : Value) (i : Nat) (M O : List (List UInt8)) : Prop where
  pm : O.Perm M
  so : O.Pairwise fun a b => leB a b = true
  ln : O.length = i
  ow : w.ownsRow B 9 1 v i (O.map encStr)
def RetRNames (w : World) (L : List En) (e : Ending) (w' : World) : Prop :=
  ∃ v, e = .returned v ∧ w'.ownsRow w.heap.size 9 1 v L.length ((srt L).map encStr) ∧ Below w.heap.size w w'
theorem set_mid (A B : List Value) (x u : Value) (k : Nat) (h : A.length = k) : (A ++ x :: B).set k u = A ++ u :: B := by
  rw [List.set_append_right _ _ (by omega), h, Nat.sub_self]; rfl
section
variable (w : World) (B x : Nat) (vL vT : Value) (L : List En) (C : List Nat)
set_option maxRecDepth 100000 in
set_option maxHeartbeats 6400000 in
theorem rnames_any (hR : Rf w B x vL vT L C) (hn : L.length ≤ 64) :
    Calls Try.prog 13 #[.pointer (some ⟨x, 0, none⟩)] w (RetRNames w L) := by
  obtain ⟨i0, hi0, hz0, hz1, hz2⟩ := info_parts infoS
  obtain ⟨n, hn0⟩ : ∃ n, L.length = n := ⟨_, rfl⟩
  obtain ⟨aL, cL, rfl, hg⟩ := own_form hR.oL
  rw [hn0] at hg hR
  obtain ⟨H0, hH0⟩ : ∃ k, w.heap.size = k := ⟨_, rfl⟩
  have HR := Lib.hid (And.intro hn0 (And.intro hg hR))
  have HN : Hid (n ≤ 64) := by rw [← hn0]; exact hn
  have HH := Lib.hid hH0
  try rw [hn0]
  clear hn0 hg hR hn
  go_enter Try.func13, Try.ntmps13
  go_wp2_with fail
  go_loopw [3, 4] (fun vo vi wr => ∃ (i : Nat) (O : List (List UInt8)), vi = .int .i64 (i : Int) ∧ i ≤ n ∧ Hid (So wr H0 vo i (names (L.take i)) O) ∧ Hid (Below H0 w wr) ∧ Hid (H0 ≤ wr.heap.size)) (fun _ vi _ => n - (intOf vi).toNat)
  case atStart => exact ⟨0, [], rfl, Nat.zero_le _, ⟨by simp [names], List.Pairwise.nil, rfl, World.ownsRow_nil _ _ _ _⟩, Below.refl _ _, Nat.le_of_eq hH0.symm⟩
  case round =>
    obtain ⟨i, O, rfl, hin, HS, HB, HW⟩ := hrel
    obtain ⟨hn0, hg, hR⟩ := HR.out
    have hRw : Rf wr B x (Value.slice aL n cL) vT L C := hR.same (fun k hk => HB.out.block k (by have h9 := (hR.lt k hk).2; omega))
    have a0 := hRw.at0.cell 0 _ rfl
    rw [Nat.zero_add] at a0
    by_cases hi : i < n
    · obtain ⟨g, rfl⟩ := hg (by omega)
      obtain ⟨e, he⟩ : ∃ e, L.getD i e0 = e := ⟨_, rfl⟩
      have hoL := hRw.oL
      rw [hn0] at hoL
      have hX := entry_at (At.ofOwnN hoL) i (by rw [hn0]; exact hi)
      rw [he, Nat.zero_add] at hX
      obtain ⟨sn, hsn⟩ : ∃ s : ByteArray, (⟨e.name.toArray⟩ : ByteArray) = s := ⟨_, rfl⟩
      rw [ev, hsn] at hX
      have x0 := hX.cell 0 _ rfl
      rw [Nat.add_zero] at x0
      have e1 : (i : Int) < (n : Int) := by omega
      have e2 : (0 : Int) ≤ (i : Int) := by omega
      have e3 : (i : Int) ≤ 64 := by have := HN.out; omega
      have htake : L.take (i + 1) = L.take i ++ [e] := by
        rw [List.take_succ_eq_append_getElem (by rw [hn0]; exact hi)]
        congr 2
        rw [← he, List.getD, List.getElem?_eq_getElem (by rw [hn0]; exact hi)]; rfl
      have HI := Lib.hid hi
      have HE := Lib.hid (And.intro hsn htake)
      obtain ⟨a, c, rfl, -⟩ := own_form HS.out.ow
      clear hn0 hg hR hRw hX hi he hsn hoL htake hin
      go_wp2_with (at_builtin; refine wpList_append_own _ rfl (.tmp 18) (.tmp 27) 33 rfl H0 9 i0 (.string ByteArray.empty) 1 16 Try.underlying33 hi0 hz0 hz1 hz2 rfl (by decide) _ i (O.map encStr) rfl (HS.out.ow.alloc _) ⟨wr.heap.size, 0, none⟩ 1 1 [Value.string sn] rfl rfl (cell_one_new _ _ _) (by simp [Value.oneCell']) (by have := HI.out; have := HN.out; unfold maxLen; omega) (by have := HI.out; have := HN.out; omega) (by have := HW.out; simp; omega) ?_; intro v5 w5 hown5 hgrow5 hnil5; obtain ⟨a5, c5, hv5, hg5⟩ := own_form hown5; subst hv5; obtain ⟨g5, hg5⟩ := hg5 (by omega); subst hg5; have HO5 := Lib.hid hown5; have HB5 : Hid (Below H0 w w5) := ((HB.out.alloc HW.out _).grown hgrow5 (by have := HW.out; simp; omega) (fun k hk => (HS.out.ow.lt k hk).1)); have HW5 : Hid (H0 ≤ w5.heap.size) := (by have h9 := hgrow5.size; have := HW.out; simp at h9; show _ ≤ _; omega); clear hown5 hgrow5 hnil5)
      have HS2 : Hid (O.Perm (names (L.take i)) ∧ (O.Pairwise fun a b => leB a b = true) ∧ O.length = i) := ⟨HS.out.pm, HS.out.so, HS.out.ln⟩
      have HO6 : Hid (w5.ownsRow H0 9 1 (.slice (some ⟨g5, 0, none⟩) (i + 1) c5) (i + 1) ((O ++ e.name :: []).map encStr)) := by
        have h9 := HO5.out
        rw [← HE.out.1] at h9
        show World.ownsRow _ _ _ _ _ _ _
        rw [List.map_append]
        exact h9
      clear HS HO5 HB HW hg5 a0 x0
      go_loopw [5] (fun va wr => ∃ (k : Nat) (P Q : List (List UInt8)), va = .int .i64 (k : Int) ∧ Hid (P.length = k ∧ k ≤ i) ∧ Hid (Ins O e.name P Q) ∧ Hid (wr.ownsRow H0 9 1 (.slice (some ⟨g5, 0, none⟩) (i + 1) c5) (i + 1) ((P ++ e.name :: Q).map encStr)) ∧ Hid (Below H0 w wr) ∧ Hid (H0 ≤ wr.heap.size)) (fun va _ => (intOf va).toNat)
      case atStart => exact ⟨i, O, [], rfl, ⟨HS2.out.2.2, Nat.le_refl _⟩, Ins.start _ _, HO6, HB5, HW5⟩
      case round =>
        obtain ⟨k, P, Q, rfl, HK, HIn, HOW, HBB, HWW⟩ := hrel
        have hfin : ∀ (wz : World), wz.ownsRow H0 9 1 (.slice (some ⟨g5, 0, none⟩) (i + 1) c5) (i + 1) ((P ++ e.name :: Q).map encStr) → (P = [] ∨ ∃ P' p, P = P' ++ [p] ∧ leB p e.name = true) → Hid (So wz H0 (.slice (some ⟨g5, 0, none⟩) (i + 1) c5) (i + 1) (names (L.take (i + 1))) (P ++ e.name :: Q)) := fun wz h1 h2 => by
          refine ⟨?_, HIn.out.done HS2.out.2.1 h2, ?_, h1⟩
          · rw [HE.out.2, names_app]
            exact HIn.out.perm.trans (HS2.out.1.append_right _)
          · have h3 := HIn.out.perm.length_eq
            rw [h3, List.length_append, HS2.out.2.2]; rfl
        have HFI := Lib.hid hfin
        clear hfin
        have k3 : (k : Int) ≤ 64 := by have := HK.out.2; have := HI.out; have := HN.out; omega
        by_cases hk0 : k = 0
        · have d0n : decide (0 < k) = false := by rw [decide_eq_false_iff_not]; omega
          have d0 : decide ((0 : Int) < (k : Int)) = false := by rw [decide_eq_false_iff_not]; omega
          have d1 : ¬ (0 : Int) < (k : Int) := by omega
          have HP0 : Hid (P = []) := List.length_eq_zero_iff.1 (by rw [HK.out.1]; exact hk0)
          clear hk0
          go_wp2_with fail
          go_quiet (fail)
          go_wp2_with fail
          go_roundw
          case rel => exact ⟨i + 1, P ++ e.name :: Q, by go_num, HI.out, HFI.out _ (own_drewN HOW.out _) (.inl HP0.out), HBB.out.trans ⟨rfl, rfl, rfl, Nat.le_refl _, fun _ _ => rfl⟩, HWW⟩
          case measure => have h9 := HI.out; simp [intOf]; omega
        · obtain ⟨k1, hk1⟩ : ∃ k1, k = k1 + 1 := ⟨k - 1, by omega⟩
          have d0n : decide (0 < k) = true := by rw [decide_eq_true_iff]; omega
          have d0 : decide ((0 : Int) < (k : Int)) = true := by rw [decide_eq_true_iff]; omega
          have d1 : (0 : Int) < (k : Int) := by omega
          have d2 : (k : Int) - 1 = (k1 : Int) := by omega
          have d3 : (k1 : Int) ≤ 64 := by omega
          have d4 : (0 : Int) ≤ (k1 : Int) := by omega
          have d5 : (0 : Int) ≤ (k : Int) := by omega
          have d6 : (k1 : Int) < (i : Int) + 1 := by have := HK.out.2; omega
          have d7 : (k : Int) < (i : Int) + 1 := by have := HK.out.2; omega
          obtain ⟨P', p, hP⟩ : ∃ P' p, P = P' ++ [p] := by
            rcases List.eq_nil_or_concat P with h | ⟨P', p, h⟩
            · have := HK.out.1; rw [h] at this; simp at this; omega
            · exact ⟨P', p, by rw [h]; simp⟩
          have hPl : P'.length = k1 := by have h9 := HK.out.1; rw [hP, List.length_append, List.length_singleton] at h9; omega
          obtain ⟨pb, hpb⟩ : ∃ s : ByteArray, (⟨p.toArray⟩ : ByteArray) = s := ⟨_, rfl⟩
          obtain ⟨sb, hsb⟩ : ∃ s : ByteArray, (⟨e.name.toArray⟩ : ByteArray) = s := ⟨_, rfl⟩
          have hA := At.ofOwnN HOW.out
          have hlist : (P ++ e.name :: Q).map encStr = P'.map encStr ++ Value.string pb :: Value.string sb :: Q.map encStr := by
            rw [hP, ← hpb, ← hsb]; simp
          rw [hlist] at hA
          have b1 := hA.cell k1 (.string pb) (by rw [List.getElem?_append_right (by rw [List.length_map]; omega), List.length_map, hPl, Nat.sub_self]; rfl)
          have b2 := hA.cell k (.string sb) (by rw [List.getElem?_append_right (by rw [List.length_map]; omega), List.length_map, hPl, hk1, Nat.add_sub_cancel_left]; rfl)
          have z1 := hA.froz k1 (by simp [hPl])
          have z2 := hA.froz k (by simp [hPl]; omega)
          rw [Nat.zero_add] at b1 b2 z1 z2
          have hpt : pb.toList = p := by rw [← hpb, tl_mk]
          have hst : sb.toList = e.name := by rw [← hsb, tl_mk]
          obtain ⟨gt, hgt⟩ : ∃ b, (!(Op.bytesLess pb.toList sb.toList || pb.toList == sb.toList)) = b := ⟨_, rfl⟩
          have hkk : ¬ k1 = k := by omega
          have HX := Lib.hid (And.intro hk1 (And.intro hP (And.intro hPl (And.intro hlist (And.intro hpt (And.intro hst (And.intro hpb hsb)))))))
          cases gt with
          | false =>
            have HLE : Hid (leB p e.name = true) := by rw [hpt, hst] at hgt; exact not_gt_leB hgt
            clear hk0 hk1 hP hPl hA hlist hpt hst hpb hsb
            go_wp2_with fail
            go_quiet (fail)
            go_wp2_with fail
            go_roundw
            case rel => exact ⟨i + 1, P ++ e.name :: Q, by go_num, HI.out, HFI.out _ (own_drewN HOW.out _) (.inr ⟨P', p, HX.out.2.1, HLE.out⟩), HBB.out.trans ⟨rfl, rfl, rfl, Nat.le_refl _, fun _ _ => rfl⟩, HWW⟩
            case measure => have h9 := HI.out; simp [intOf]; omega
          | true =>
            have HGT : Hid (leB e.name p = true) := by rw [hpt, hst] at hgt; exact gt_leB hgt
            clear hk0 hk1 hP hPl hA hlist hpt hst hpb hsb
            go_wp2_with fail
            go_quiet (fail)
            go_wp2_with fail
            go_roundw
            case rel =>
              obtain ⟨hk1, hP, hPl, hlist, hpt, hst, hpb, hsb⟩ := HX.out
              refine ⟨k1, P', p :: Q, by go_num, ⟨hPl, by have := HK.out.2; omega⟩, Ins.step (by rw [← hP]; exact HIn.out) HGT.out, ?_, ?_, ?_⟩
              · have h1 := ((own_drewN HOW.out nq).stored k1 (.string sb)).1
                have h2 := (h1.stored k (.string pb)).1
                rw [hlist, set_mid _ _ _ _ _ (by rw [List.length_map]; exact hPl)] at h2
                rw [show P'.map encStr ++ Value.string sb :: Value.string sb :: Q.map encStr = (P'.map encStr ++ [Value.string sb]) ++ Value.string sb :: Q.map encStr by simp, set_mid _ _ _ _ _ (by rw [List.length_append, List.length_map, hPl]; exact hk1.symm)] at h2
                have h3 : (P'.map encStr ++ [Value.string sb]) ++ Value.string pb :: Q.map encStr = (P' ++ e.name :: p :: Q).map encStr := by rw [← hpb, ← hsb]; simp
                rw [h3] at h2
                exact h2
              · have hlo := (HOW.out.lt g5 rfl).1
                exact ((HBB.out.trans (⟨rfl, rfl, rfl, Nat.le_refl _, fun _ _ => rfl⟩ : Below H0 wr (wr.drewN nq))).setCell (p := ⟨g5, k1, none⟩) hlo _).setCell (p := ⟨g5, k, none⟩) hlo _
              · show H0 ≤ (((wr.drewN nq).setCell _ _).setCell _ _).heap.size
                rw [World.size_setCell, World.size_setCell]
                exact HWW.out
            case measure => have h9 := HX.out.1; simp [intOf]; omega
    · obtain rfl : i = n := by omega
      have e1 : ¬ (i : Int) < (i : Int) := by omega
      have hS := HS.out
      rw [List.take_of_length_le (by rw [hn0]; exact Nat.le_refl _)] at hS
      have HSS := Lib.hid hS
      have HNN := Lib.hid hn0
      clear hS hn0 hg hR hRw hi hin
      go_wp2_with fail
      go_ret
      have h0 := HH.out
      refine ⟨_, rfl, ?_, by rw [h0]; exact HB.out⟩
      have h1 : O = srt L := sorted_eq HSS.out.pm HSS.out.so
      rw [h0, HNN.out, ← h1]
      exact HSS.out.ow
end
end Rn
end Go.Proofs.Ytcegihdgnbjclaa
