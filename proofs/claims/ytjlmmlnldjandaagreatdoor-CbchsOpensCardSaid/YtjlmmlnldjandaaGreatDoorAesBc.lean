/- The contract of the document's column. -/
import Derived.Test.YtjlmmlnldjandaaGreatDoorAesBp
namespace Go.Proofs.YtjlmmlnldjandaaGreatDoor
open Go.RowKit
set_option linter.unusedVariables false
set_option linter.unusedSimpArgs false
def cpart (F : List UInt8) (x : UInt32) (r : Nat) : Nat → UInt8
  | 0 => 0
  | k + 1 => cpart F x r k ^^^ gmul (F.getD ((k + 4 - r) % 4) 0) (rw_ x k)
theorem cpart4 (f0 f1 f2 f3 : UInt8) (x : UInt32) (r : Nat) (hr : r < 4) : cpart [f0, f1, f2, f3] x r 4 = rw_ (colG f0 f1 f2 f3 x) r := by
  match r, hr with
  | 0, _ => rw [colG, rw_wd0]; simp [cpart]
  | 1, _ => rw [colG, rw_wd1]; simp [cpart]
  | 2, _ => rw [colG, rw_wd2]; simp [cpart]
  | 3, _ => rw [colG, rw_wd3]; simp [cpart]
theorem mixP_self {α : Type} (N : Nat) (f g : Nat → α) (k : Nat) : (mixP N f g k).set k (g k) = mixP N f g k := by
  apply List.ext_getElem
  · simp
  · intro i h1 h2
    rw [List.getElem_set]
    by_cases e : k = i
    · subst e
      rw [if_pos rfl]
      simp [mixP]
    · rw [if_neg e]
theorem mixP_getset {α : Type} (N : Nat) (f g : Nat → α) (k : Nat) (v d : α) (hk : k < N) : ((mixP N f g k).set k v).getD k d = v := by
  have hl : k < (mixP N f g k).length := by rw [mixP_length]; exact hk
  simp [List.getD, hl]
theorem ovr_zero (f g : Nat → UInt8) (n : Nat) (p : Nat → Bool) (h : ∀ i, i < n → p i = false) : ovr f g n p = (List.range n).map g := by
  rw [ovr]
  refine List.map_congr_left fun i hi => ?_
  rw [h i (by simpa using hi)]
  rfl
theorem ovr_fill (f g : Nat → UInt8) (n : Nat) (p : Nat → Bool) (h : ∀ i, i < n → p i = false → g i = f i) : ovr f g n p = (List.range n).map f := by
  rw [ovr]
  refine List.map_congr_left fun i hi => ?_
  cases hp : p i
  · exact h i (by simpa using hi) hp
  · rfl
theorem ovr_at (f g : Nat → UInt8) (n : Nat) (p : Nat → Bool) (i : Nat) (hi : i < n) : (ovr f g n p).getD i 0 = if p i then f i else g i := by simp [ovr, List.getD, hi]
theorem txt_set (S : List UInt32) (c : Nat) (z : UInt32) (hS : S.length = 4) (hc : c < 4) (j : Nat) : txtF (S.set c z) j = if j / 4 = c then rw_ z (j % 4) else txtF S j := by
  rw [txtF, txtF]
  by_cases h : j / 4 = c
  · rw [if_pos h, h]
    congr 1
    simp [List.getD, hS, hc]
  · rw [if_neg h]
    congr 1
    have h' : ¬ c = j / 4 := fun e => h e.symm
    simp [List.getD, h']
set_option maxRecDepth 100000 in
set_option maxHeartbeats 3200000 in
theorem column_any (S : List UInt32) (c : Nat) (f0 f1 f2 f3 : UInt8) (w : World) (hS : S.length = 4) (hc : c < 4) :
    Calls Tryz.prog 61 #[.agg (bcells (txtL S)).toArray, .int .i64 (c : Int), .agg (bcells [f0, f1, f2, f3]).toArray] w (RetA8 (txtL (S.set c (colG f0 f1 f2 f3 (S.getD c 0)))) w) := by
  obtain ⟨F, hF⟩ : ∃ F : List UInt8, F = [f0, f1, f2, f3] := ⟨_, rfl⟩
  obtain ⟨x, hx⟩ : ∃ x, x = S.getD c 0 := ⟨_, rfl⟩
  obtain ⟨z, hz⟩ : ∃ z, z = colG f0 f1 f2 f3 x := ⟨_, rfl⟩
  have HP : Hid (∀ r, r < 4 → cpart F x r 4 = rw_ z r) := by
    rw [hF, hz]
    exact cpart4 f0 f1 f2 f3 x
  have HF : Hid (F.length = 4) := by rw [hF]; exact rfl
  rw [← hx, ← hz, ← hF]
  have HX : Hid (∀ k, k < 4 → txtF S (4 * c + k) = rw_ x k) := by
    intro k hk
    rw [txtF, hx, show (4 * c + k) / 4 = c by omega, show (4 * c + k) % 4 = k by omega]
  have HT : Hid (∀ k, k < 4 → txtF (S.set c z) (4 * c + k) = rw_ z k) := by
    intro k hk
    rw [txt_set _ _ _ hS hc, if_pos (by omega), show (4 * c + k) % 4 = k by omega]
  have HN : Hid (∀ j, ¬ (4 * c ≤ j ∧ j < 4 * c + 4) → txtF S j = txtF (S.set c z) j) := by
    intro j hj
    rw [txt_set _ _ _ hS hc, if_neg (by omega)]
  have HS := Lib.hid hS
  clear hS hF hx hz
  obtain ⟨c4, hc4⟩ : ∃ c4 : Nat, c4 = 4 * c := ⟨_, rfl⟩
  have hw0 : IntKind.i64.wrap (4 * (c : Int)) = (c4 : Int) := by rw [wrap_in _ (by omega) (by omega)]; omega
  have hc4b : c4 ≤ 12 := by omega
  have HC := Lib.hid hc4
  clear hc4
  go_enter Tryz.func61, Tryz.ntmps61
  go_wp2_with fail
  obtain ⟨w0, hw0', hA0, hA1, hA2, hA3, hb0, hs0⟩ := four_by w (txtL S) F
  rw [hw0']
  clear hw0' hs0
  have hA3' : At w0 (w.heap.size + 3) 0 (bcells (mixP 4 (fun r => rw_ z r) (fun _ => 0) 0)) := hA3
  clear hA3
  go_loopw [8] (fun i wr => ∃ r : Nat, r ≤ 4 ∧ i = .int .i64 r ∧ At wr w.heap.size 0 (bcells (txtL S)) ∧ At wr (w.heap.size + 1) 0 (bcells F) ∧ At wr (w.heap.size + 2) 0 (bcells (List.replicate 16 0)) ∧ At wr (w.heap.size + 3) 0 (bcells (mixP 4 (fun r => rw_ z r) (fun _ => 0) r)) ∧ Below w.heap.size w wr) (fun i _ => 4 - (intOf i).toNat)
  case atStart => exact ⟨0, Nat.zero_le _, rfl, hA0, hA1, hA2, hA3', hb0⟩
  case round =>
    clear hA0 hA1 hA2 hA3' hb0
    obtain ⟨r, hr, rfl, hA0, hA1, hA2, hA3, hb0⟩ := hrel
    have H0 := Lib.hid hA0
    have H1 := Lib.hid hA1
    have H2 := Lib.hid hA2
    have H3 := Lib.hid hA3
    clear hA0 hA1 hA2 hA3
    by_cases hlt : r < 4
    · have hrI : (r : Int) < 4 := by omega
      go_wp2_with fail
      have H3' : Hid (At wr (w.heap.size + 3) 0 (bcells ((mixP 4 (fun r => rw_ z r) (fun _ => 0) r).set r (cpart F x r 0)))) := by
        rw [show cpart F x r 0 = (fun _ : Nat => (0 : UInt8)) r from rfl, mixP_self]
        exact H3
      have H0' := H0
      have H1' := H1
      have H2' := H2
      have hb0' := hb0
      clear H0 H1 H2 H3 hb0
      go_loopw [9] (fun i wr => ∃ k : Nat, k ≤ 4 ∧ i = .int .i64 k ∧ At wr w.heap.size 0 (bcells (txtL S)) ∧ At wr (w.heap.size + 1) 0 (bcells F) ∧ At wr (w.heap.size + 2) 0 (bcells (List.replicate 16 0)) ∧ At wr (w.heap.size + 3) 0 (bcells ((mixP 4 (fun r => rw_ z r) (fun _ => 0) r).set r (cpart F x r k))) ∧ Below w.heap.size w wr) (fun i _ => 4 - (intOf i).toNat)
      case atStart => exact ⟨0, Nat.zero_le _, rfl, H0'.out, H1'.out, H2'.out, H3'.out, hb0'⟩
      case round =>
        clear H0' H1' H2' H3' hb0'
        obtain ⟨k, hk, rfl, hA0, hA1, hA2, hA3, hb0⟩ := hrel
        have H0 := Lib.hid hA0
        have H1 := Lib.hid hA1
        have H2 := Lib.hid hA2
        have H3 := Lib.hid hA3
        clear hA0 hA1 hA2 hA3
        by_cases hlt2 : k < 4
        · obtain ⟨d, hd⟩ : ∃ d : Int, d = (k : Int) - (r : Int) := ⟨_, rfl⟩
          obtain ⟨e, he⟩ : ∃ e : Nat, e = k + 4 - r := ⟨_, rfl⟩
          obtain ⟨q, hq⟩ : ∃ q : Nat, q = e % 4 := ⟨_, rfl⟩
          obtain ⟨j, hj⟩ : ∃ j : Nat, j = c4 + k := ⟨_, rfl⟩
          have hw1 : IntKind.i64.wrap ((k : Int) - (r : Int)) = d := by rw [hd]; simp only [IntKind.wrap, IntKind.bits, IntKind.signed]; simp; omega
          have hw2 : IntKind.i64.wrap (d + 4) = (e : Int) := by rw [wrap_in _ (by omega) (by omega)]; omega
          have hw3 : (e : Int).tmod 4 = (q : Int) := tmod_nat e 4 q hq
          have hw4 : IntKind.i64.wrap ((c4 : Int) + (k : Int)) = (j : Int) := by rw [wrap_in _ (by omega) (by omega)]; omega
          have hq4 : q < 4 := by omega
          have hqI : (q : Int) < 4 := by omega
          have hkI : (k : Int) < 4 := by omega
          have hj16 : j < 16 := by omega
          have hjI : (j : Int) < 16 := by omega
          have hc0 := H0.out.b8 j (by rw [txtL_length]; omega)
          have hc1 := H1.out.b8 q (by rw [HF.out]; omega)
          have hc3 := H3.out.b8 r (by rw [List.length_set, mixP_length]; exact hlt)
          have hfr := H3.out.froz r (by rw [bcells_length, List.length_set, mixP_length]; exact hlt)
          rw [mixP_getset _ _ _ _ _ _ hlt] at hc3
          have htx : (txtL S).getD j 0 = rw_ x k := by
            rw [← HX.out k hlt2, ← HC.out, ← hj]
            simp [txtL, List.getD, hj16]
          rw [htx] at hc0
          rw [Nat.zero_add] at hc0 hc1 hc3 hfr
          obtain ⟨p, hp⟩ : ∃ p, cpart F x r k = p := ⟨_, rfl⟩
          obtain ⟨u, hu⟩ : ∃ u, F.getD q 0 = u := ⟨_, rfl⟩
          obtain ⟨v, hv⟩ : ∃ v, rw_ x k = v := ⟨_, rfl⟩
          rw [hp] at hc3
          rw [hu] at hc1
          rw [hv] at hc0
          obtain ⟨s, hs, hs2⟩ : ∃ s : UInt8, bits .xor .u8 (p.toNat : Int) ((gmul u v).toNat : Int) = (s.toNat : Int) ∧ s = p ^^^ gmul u v := ⟨_, u8x _ _, rfl⟩
          have HZ : Hid (cpart F x r (k + 1) = s) := by
            show _ = _
            rw [cpart, hp, ← he, ← hq, hu, hv, hs2]
          clear hs2 hp hu hv htx hd he hq hj
          go_wp2_with fail
          go_still_tail 20, (by kernel_rfl)
          still_call (still_y (rmul_any u v _))
          repeat still_step
          refine wpStill_nil ?_
          change wpList _ _ _ _ _ wr.drew
          go_wp2_with fail
          go_roundw
          case rel =>
            refine ⟨k + 1, by omega, by go_num, H0.out.drew.other _ _ _ (.inl (by omega)), H1.out.drew.other _ _ _ (.inl (by omega)), H2.out.drew.other _ _ _ (.inl (by omega)), ?_, hb0.drew.setCell (p := ⟨w.heap.size + 3, r, none⟩) (by simp only; omega) _⟩
            have h := H3.out.drew.b8set r s
            rw [List.set_set, Nat.zero_add] at h
            rw [HZ.out]
            exact h
          case measure => simp [intOf]; omega
        · have hkn : k = 4 := by omega
          subst hkn
          go_wp2_with fail
          go_roundw
          case rel =>
            refine ⟨r + 1, by omega, by go_num, H0.out, H1.out, H2.out, ?_, hb0⟩
            have h := H3.out
            rw [HP.out r hlt] at h
            rw [← mixP_set]
            exact h
          case measure => simp [intOf]; omega
    · have hkn : r = 4 := by omega
      subst hkn
      have hA3 := H3.out
      rw [mixP_full] at hA3
      have H3b := Lib.hid hA3
      clear hA3 H3
      go_wp2_with fail
      have hA0 : At wr w.heap.size 0 (bcells (ovr (txtF (S.set c z)) (txtF S) 16 (fun j => decide (4 * c ≤ j ∧ j < 4 * c + 0)))) := by
        rw [ovr_zero _ _ _ _ (by intro i hi; rw [decide_eq_false_iff_not]; omega)]
        exact H0.out
      have hA2 := H2.out
      have hA3 := H3b.out
      have hb1 := hb0
      clear H0 H1 H2 H3b hb0 hlt hr
      go_loopw [10] (fun i wr => ∃ r : Nat, r ≤ 4 ∧ i = .int .i64 r ∧ At wr w.heap.size 0 (bcells (ovr (txtF (S.set c z)) (txtF S) 16 (fun j => decide (4 * c ≤ j ∧ j < 4 * c + r)))) ∧ At wr (w.heap.size + 2) 0 (bcells (List.replicate 16 0)) ∧ At wr (w.heap.size + 3) 0 (bcells ((List.range 4).map (fun r => rw_ z r))) ∧ Below w.heap.size w wr) (fun i _ => 4 - (intOf i).toNat)
      case atStart => exact ⟨0, Nat.zero_le _, rfl, hA0, hA2, hA3, hb1⟩
      case round =>
        clear hA0 hA2 hA3 hb1
        obtain ⟨r, hr, rfl, hA0, hA2, hA3, hb0⟩ := hrel
        have H0 := Lib.hid hA0
        have H2 := Lib.hid hA2
        have H3 := Lib.hid hA3
        clear hA0 hA2 hA3
        by_cases hlt : r < 4
        · have hrI : (r : Int) < 4 := by omega
          obtain ⟨j, hj⟩ : ∃ j : Nat, j = c4 + r := ⟨_, rfl⟩
          have hw4 : IntKind.i64.wrap ((c4 : Int) + (r : Int)) = (j : Int) := by rw [wrap_in _ (by omega) (by omega)]; omega
          have hj16 : j < 16 := by omega
          have hjI : (j : Int) < 16 := by omega
          have hc3 := H3.out.b8 r (by simp; exact hlt)
          have hc0 := H0.out.b8 j (by rw [ovr_length]; exact hj16)
          have hfr := H0.out.froz j (by rw [bcells_length, ovr_length]; exact hj16)
          rw [show ((List.range 4).map (fun r => rw_ z r)).getD r 0 = rw_ z r by simp [List.getD, hlt]] at hc3
          rw [Nat.zero_add] at hc0 hc3 hfr
          obtain ⟨v, hv⟩ : ∃ v, rw_ z r = v := ⟨_, rfl⟩
          rw [hv] at hc3
          have HV : Hid (v = txtF (S.set c z) j) := by
            show _ = _
            rw [hj, HC.out, HT.out r hlt, hv]
          have HJ := Lib.hid hj
          clear hj hv
          go_wp2_with fail
          go_roundw
          case rel =>
            refine ⟨r + 1, by omega, by go_num, ?_, H2.out.other _ _ _ (.inl (by omega)), H3.out.other _ _ _ (.inl (by omega)), hb0.setCell (p := ⟨w.heap.size, j, none⟩) (Nat.le_refl _) _⟩
            have h := H0.out.b8set j v
            rw [HV.out, ovr_set _ _ _ _ (fun i => decide (4 * c ≤ i ∧ i < 4 * c + (r + 1))) j (by
              intro i hi
              rw [Bool.eq_iff_iff]
              simp only [Bool.or_eq_true, decide_eq_true_eq, beq_iff_eq]
              rw [HJ.out, HC.out]
              omega), Nat.zero_add, ← HV.out] at h
            exact h
          case measure => simp [intOf]; omega
        · have hkn : r = 4 := by omega
          subst hkn
          have h1 := H0.out
          rw [ovr_fill _ _ _ _ (by
            intro i hi hp
            refine HN.out i ?_
            rw [decide_eq_false_iff_not] at hp
            exact hp)] at h1
          have h1' : At wr w.heap.size 0 (bcells (txtL (S.set c z))) := h1
          have hl : (txtL (S.set c z)).length = 16 := txtL_length _
          clear h1
          have hst := run_store_at (P := Tryz.prog) H2.out (cs := bcells (txtL (S.set c z))) (by rw [bcells_length, bcells_length, hl, List.length_replicate]) (bcells_one _)
          have hfin : At (wr.setCells (w.heap.size + 2) 0 (bcells (txtL (S.set c z)))) (w.heap.size + 2) 0 (bcells (txtL (S.set c z))) := H2.out.ofSets (by rw [bcells_length, bcells_length, hl, List.length_replicate])
          have hbf := below_sets w.heap.size (w.heap.size + 2) (by omega) (bcells (txtL (S.set c z))) 0 w wr hb0
          have HL := Lib.hid hl
          clear hl
          go_wp2_with (refine wpList_load_at 84 (.tmp 3) w.heap.size 0 (bcells (txtL (S.set c z))) _ h1' Tryz.underlying84 rfl (blen16 _ HL.out) ⟨rfl, rfl, rfl⟩ ?_)
          (try simp only [Exit.inBlock, Exit.then])
          refine bodyPost_ret (results_at rfl _ (w.heap.size + 2) _ _ rfl hfin Tryz.underlying84 rfl (blen16 _ HL.out)) rfl ?_
          exact ⟨rfl, hbf⟩
end Go.Proofs.YtjlmmlnldjandaaGreatDoor
