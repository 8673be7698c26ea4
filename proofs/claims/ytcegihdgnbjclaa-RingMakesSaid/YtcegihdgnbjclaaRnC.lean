/- Keys by their names: what is done to the lists that went in and came out changes nothing: the walk, whole. -/
import Derived.Test.YtcegihdgnbjclaaRnB
namespace Go.Proofs.Ytcegihdgnbjclaa
open Go.RowKit Go.Maps Go.Sort
open Go.Proofs (encStr)
set_option linter.unusedVariables false
set_option linter.unusedSimpArgs false
namespace Rn
set_option maxRecDepth 100000 in
set_option maxHeartbeats 3200000 in
theorem ringOwn_yes (l : List En) (f0 : En) (l0 : List En) (hll : l = f0 :: l0) (v : Value) (w : World) (hl : El w v l) (hn : l.length ≤ 4398046510976) (hc : newE l = 0) : Calls Try.prog 5 #[v] w (fun e w' => e = .returned (.bool true) ∧ Below w.heap.size w w') := by
  have hne : l ≠ [] := by rw [hll]; simp
  have h64 := (newE_nodup hc).2
  have hlen0 : 0 < l.length := List.length_pos_iff.2 hne
  have hEl := hl
  obtain ⟨a, cap, rfl, hmem⟩ := hl
  obtain ⟨k, o, rfl, hA, hk⟩ := hmem hne
  obtain ⟨sn, hsn⟩ : ∃ s : ByteArray, (⟨f0.name.toArray⟩ : ByteArray) = s := ⟨_, rfl⟩
  obtain ⟨sk, hsk⟩ : ∃ s : ByteArray, (⟨f0.key.toArray⟩ : ByteArray) = s := ⟨_, rfl⟩
  have hX := entry_at hA 0 hlen0
  rw [show l.getD 0 e0 = f0 by rw [hll]; rfl, ev, hsn, hsk, Nat.zero_mul, Nat.add_zero] at hX
  have hnt : sn.toList = f0.name := by rw [← hsn, tl_mk]
  have hkt : sk.toList = f0.key := by rw [← hsk, tl_mk]
  have hp0 : plc sn.toList l = some 0 := by rw [hnt, hll]; exact plc0 f0 l0
  have hfk : (⟨(findK l sn.toList).toArray⟩ : ByteArray) = sk := by rw [findK, hp0, ← hsk, hll]; rfl
  have hfc : findC l sn.toList = 0 := by rw [findC, hp0]
  have hsz : sn.size ≤ 140737488351232 := by rw [← tl_size, hnt]; exact Nat.le_trans (newE_ok hc f0 (by rw [hll]; simp)) (by decide)
  have hss : (sk.toList == sk.toList) = true := by simp
  obtain ⟨n, hn0⟩ : ∃ n, l.length = n := ⟨_, rfl⟩
  have hix := idx0 k o n cap (by rw [← hn0]; exact hlen0)
  have HE := Lib.hid hEl
  have HX := Lib.hid (And.intro hX hk)
  have HF := Lib.hid (And.intro hfk (And.intro hfc hsz))
  have HLN := Lib.hid hn
  have H64 : Hid (n ≤ 64 ∧ 0 < n) := by rw [← hn0]; exact ⟨h64, hlen0⟩
  have HN := Lib.hid hn0
  have H0 := Lib.hid hc
  have hnz : ((n : Int) == 0) = false := by rw [beq_eq_false_iff_ne]; omega
  have hnot : ∀ (x : Bool) (w : World), (Op.unary .not (.bool x)).run Try.prog w = .ok (.bool (!x)) w := fun _ _ => rfl
  have HWS : Hid (k < w.heap.size) := hk
  rw [hn0] at HE ⊢
  clear hll hne h64 hlen0 hEl hmem hA hk hX hnt hkt hp0 hfk hfc hsz hn0 hn hc hsn hsk
  go_enter Try.func5, Try.ntmps5
  go_wp2_with (first
    | (go_at_call 8; refine (copied_any l _ _ HE.out HLN.out).mono ?_; rintro e w1 ⟨v1, rfl, h1, b1⟩; have h1' := h1; rw [HN.out] at h1'; obtain ⟨a1, c1, hv1, hg1⟩ := own_form h1'; subst hv1; obtain ⟨g1, hg1⟩ := hg1 H64.out.2; subst hg1; rw [HN.out] at h1; have H1 := Lib.hid (And.intro h1 b1); clear h1 b1 h1')
    | (go_at_call 7; refine (new_any l _ w1 (El.own (B := w.heap.size) (by rw [HN.out]; exact H1.out.1))).mono ?_; rintro e w2 (⟨-, r, b, ps, rfl, hR2, b2⟩ | ⟨hbad, -, -⟩); rotate_left; exact absurd H0.out hbad; have H2 := Lib.hid (And.intro hR2 b2); clear hR2 b2)
    | (go_at_call 10; refine (wakes_any w2).mono ?_; rintro e w4 ⟨rfl, b4⟩; have H4 := Lib.hid b4; clear b4))
  have HW4 : Hid (Bes w w4 r b ps nilS false l (List.replicate l.length 0) g1 (n * 2)) := by
    obtain ⟨h1, b1⟩ := H1.out
    obtain ⟨hR2, b2⟩ := H2.out
    have hg := h1.lt g1 rfl
    refine ⟨(hR2.mono b1.size).same (fun k hk => H4.out.block k (hR2.lt k hk)), (b1.trans (b2.mono b1.size)).trans (H4.out.mono (Nat.le_trans b1.size b2.size)), ⟨ecells l, ((At.ofOwnN h1).below b2 hg.2).below H4.out (Nat.lt_of_lt_of_le hg.2 b2.size), by rw [ecells_length, HN.out, Nat.mul_comm]⟩, fun hb => ?_, hg.1⟩
    have h8 := hR2.base g1 hb
    omega
  clear H4 hg1
  go_loopw [43] (fun vi wr => ∃ i : Nat, vi = .int .i64 (i : Int) ∧ i ≤ n ∧ Hid (Bes w wr r b ps nilS false l (List.replicate l.length 0) g1 (n * 2))) (fun vi _ => n - (intOf vi).toNat)
  case atStart => exact ⟨0, rfl, Nat.zero_le _, HW4⟩
  case round =>
    obtain ⟨i, rfl, hin, HB⟩ := hrel
    by_cases hi : i < n
    · have e1 : (i : Int) < (n : Int) := by omega
      have e2 : (0 : Int) ≤ (i : Int) := by omega
      have e3 : (i : Int) ≤ 64 := by have := H64.out; omega
      obtain ⟨u0, c0, z0⟩ := HB.out.cell (i * 2) (by omega)
      obtain ⟨u1, c1', z1⟩ := HB.out.cell (i * 2 + 1) (by omega)
      have HI := Lib.hid hi
      clear hi hin
      go_wp2_with fail
      go_roundw
      case rel => exact ⟨i + 1, by go_num, HI.out, (HB.out.set (i * 2) (.string ⟨#[120]⟩)).set (i * 2 + 1) (.string ⟨#[120]⟩)⟩
      case measure => have h9 := HI.out; simp [intOf]; omega
    · obtain rfl : i = n := by omega
      have e1 : ¬ (i : Int) < (i : Int) := by omega
      have T1 : Hid (1 = 1) := rfl
      clear hi hin
      go_wp2_with (go_at_call 12; have tok := T1; clear tok T1; refine (names_any wr _ r b ps _ _ l _ HB.out.rg HB.out.bw.size).mono ?_; rintro e w5 ⟨v5, u5, rfl, hR5, hK5, hO5, hap5, hv5⟩; have hO5' := hO5; rw [HN.out] at hO5'; obtain ⟨a5, c5, hu5, hg5⟩ := own_form hO5'; subst hu5; obtain ⟨g5, hg5⟩ := hg5 H64.out.2; subst hg5; have H5 := Lib.hid (And.intro hR5 (And.intro hK5 (And.intro hO5' hap5))); clear hR5 hK5 hO5 hO5' hap5 hv5)
      have HW5 : Hid (Bes w w5 r b ps v5 true l (List.replicate l.length 0) g5 i) := by
        obtain ⟨hR5, hK5, hO5, hap5⟩ := H5.out
        have hg := hO5.lt g5 rfl
        exact ⟨hR5, HB.out.bw.trans (hK5.to (fun k hk => by rw [hk]; exact HB.out.rg.ge.1) HB.out.bw.size), ⟨_, At.ofOwnN hO5, by rw [List.length_map, srt_len, HN.out]⟩, hap5 g5 rfl, Nat.le_trans HB.out.bw.size hg.1⟩
      clear H5 hg5
      go_loopw [55] (fun vi wr => ∃ j : Nat, vi = .int .i64 (j : Int) ∧ j ≤ i ∧ Hid (Bes w wr r b ps v5 true l (List.replicate l.length 0) g5 i)) (fun vi _ => i - (intOf vi).toNat)
      case atStart => exact ⟨0, rfl, Nat.zero_le _, HW5⟩
      case round =>
        obtain ⟨j, rfl, hjn, HBB⟩ := hrel
        by_cases hj : j < i
        · have e1 : (j : Int) < (i : Int) := by omega
          have e2 : (0 : Int) ≤ (j : Int) := by omega
          have e3 : (j : Int) ≤ 64 := by have := H64.out; omega
          obtain ⟨u0, c0, z0⟩ := HBB.out.cell j hj
          have HJ := Lib.hid hj
          clear hj hjn
          go_wp2_with fail
          go_roundw
          case rel => exact ⟨j + 1, by go_num, HJ.out, HBB.out.set j (.string ⟨#[120]⟩)⟩
          case measure => have h9 := HJ.out; simp [intOf]; omega
        · obtain rfl : j = i := by omega
          have e1 : ¬ (j : Int) < (j : Int) := by omega
          have HC0 : Hid (∀ i, (List.replicate l.length 0).getD i 0 ≤ 1000000) := fun i => by
            rw [List.getD, List.getElem?_replicate]
            split <;> simp
          clear hj hjn
          go_wp2_with (first
            | (go_at_call 9; refine (rnew_any l _ wr (HE.out.below HBB.out.bw)).mono ?_; rintro e w6 (⟨-, x, vL, vT, rfl, hR6, b6⟩ | ⟨hbad, -, -⟩); rotate_left; exact absurd H0.out hbad; have H6 : Hid (Two w w6 r b ps v5 true x vL vT l (List.replicate l.length 0)) := ⟨HBB.out.rg.same (fun k hk => b6.block k (HBB.out.rg.lt k hk)), hR6.mono HBB.out.bw.size, HBB.out.bw.trans (b6.mono HBB.out.bw.size), fun k hb hf => (by have h8 := HBB.out.rg.lt k hb; have h9 := (hR6.lt k hf).1; omega)⟩; have x0 := (HX.out.1.below H6.out.bw HX.out.2).cell 0 _ rfl; rw [Nat.add_zero] at x0; clear hR6 b6)
            | (go_at_call 14; refine (find_any w6 _ r b ps v5 true l _ H6.out.rg HC0.out sn HF.out.2.2).mono ?_; rintro e w7 ⟨rfl, hR7, hK7⟩; rw [HF.out.1, HF.out.2.1]; have H7 : Hid (Rg w7 w.heap.size r b ps v5 true l (findN l (List.replicate l.length 0) sn.toList) ∧ Rf w7 w.heap.size x vL vT l (List.replicate l.length 0) ∧ Below w.heap.size w w7 ∧ ∀ k, Rb r b ps v5 k → ¬ Fb x vL vT k) := ⟨hR7, H6.out.rgs hR7 hK7 (fun k hk => .inr hk) (.inl rfl)⟩; clear hR7 hK7)
            | (go_at_call 12; refine (names_any w7 _ r b ps _ _ l _ H7.out.1 H7.out.2.2.1.size).mono ?_; rintro e w8 ⟨v8, u8, rfl, hR8, hK8, hO8, hap8, hv8⟩; have H8 : Hid (Rf w8 w.heap.size x vL vT l (List.replicate l.length 0) ∧ Below w.heap.size w w8) := ⟨H7.out.2.1.same (fun k hf => hK8.keep k (H7.out.2.1.lt k hf).2 (fun e => H7.out.2.2.2 k (.inl e) hf)), H7.out.2.2.1.trans (hK8.to (fun k hk => by rw [hk]; exact H7.out.1.ge.1) H7.out.2.2.1.size)⟩; have HO8 := Lib.hid hO8; clear hR8 hK8 hO8 hap8 hv8)
            | (go_at_call 13; refine (rnames_any w8 _ x vL vT l _ H8.out.1 (by rw [HN.out]; exact H64.out.1)).mono ?_; rintro e w9 ⟨v9, rfl, hO9, b9⟩; have H9 := Lib.hid (And.intro hO9 (And.intro (own_keep HO8.out b9) (H8.out.2.trans (b9.mono H8.out.2.size)))); clear hO9 b9)
            | (go_at_call 11; refine (same_any w9 (srt l) (srt l) _ _ (Sl.of (by rw [srt_len]; exact H9.out.2.1)) (Sl.of (by rw [srt_len]; exact H9.out.1)) (by rw [srt_len, HN.out]; exact Nat.le_trans H64.out.1 (by decide))).mono ?_; rintro e w10 ⟨rfl, b10⟩; rw [show decide (srt l = srt l) = true by simp]; have H10 : Hid (Below w.heap.size w w10) := H9.out.2.2.trans (b10.mono H9.out.2.2.size); have x1 := (HX.out.1.below H10.out HX.out.2).cell 1 _ rfl; clear b10))
          go_ret
          exact ⟨rfl, H10.out⟩
theorem ringOwn_walk (l : List En) (v : Value) (w : World) (hl : El w v l) (hn : l.length ≤ 4398046510976) : Calls Try.prog 5 #[v] w (fun e w' => e = .returned (.bool true) ∧ Below w.heap.size w w') := by
  by_cases hc : newE l = 0
  · cases l with
    | nil =>
      obtain ⟨a, cap, rfl, -⟩ := hl
      exact ringOwn_nil a cap w
    | cons f0 l0 => exact ringOwn_yes _ f0 l0 rfl v w hl hn hc
  · exact ringOwn_no l v w hl hn hc
end Rn
end Go.Proofs.Ytcegihdgnbjclaa
