/- The contract of unmixed. -/
import Derived.Test.YtigegblpledogaaAesOn
import Derived.Test.YtigegblpledogaaAesK
namespace Go.Proofs.Ytigegblpledogaa
open Go.RowKit
set_option linter.unusedVariables false
set_option linter.unusedSimpArgs false
def umxF (S : List UInt32) (i : Nat) : UInt32 := rcol unmW (fun _ => S.getD i 0) 4
def umxL (S : List UInt32) : List UInt32 := (List.range 4).map (umxF S)
theorem umxL_length (S : List UInt32) : (umxL S).length = 4 := by simp [umxL]
set_option maxRecDepth 100000 in
set_option maxHeartbeats 3200000 in
theorem unmixed_any (S : List UInt32) (w : World) (g : Nat) (hm : At w g 772 (wcells (unmL 256))) (hg : g < w.heap.size) (hS : S.length = 4) : Calls Try.prog 95 #[.pointer (some ⟨g, 0, none⟩), .agg (wcells S).toArray] w (RetK (umxL S) w) := by
  go_enter Try.func95, Try.ntmps95
  go_wp2_with fail
  obtain ⟨w0, hw0, hA0, hA1, hA2, hb0, hs0⟩ := three_cols w S
  rw [hw0]
  have hM0 : At w0 g 772 (wcells (unmL 256)) := hm.below hb0 hg
  clear hw0 hm
  have hA2' : At w0 (w.heap.size + 2) 0 (wcells (mixP 4 (umxF S) (fun _ => 0) 0)) := hA2
  clear hA2
  go_loopw [8] (fun i wr => ∃ k : Nat, k ≤ 4 ∧ i = .int .i64 k ∧ At wr w.heap.size 0 (wcells S) ∧ At wr (w.heap.size + 1) 0 (wcells [0, 0, 0, 0]) ∧ At wr (w.heap.size + 2) 0 (wcells (mixP 4 (umxF S) (fun _ => 0) k)) ∧ At wr g 772 (wcells (unmL 256)) ∧ Below w.heap.size w wr) (fun i _ => 4 - (intOf i).toNat)
  case atStart => exact ⟨0, Nat.zero_le _, rfl, hA0, hA1, hA2', hM0, hb0⟩
  case round =>
    clear hA0 hA1 hA2' hb0 hs0 hM0
    obtain ⟨k, hk, rfl, hA0, hA1, hA2, hM, hb0⟩ := hrel
    have H0 := Lib.hid hA0
    have H1 := Lib.hid hA1
    have H2 := Lib.hid hA2
    have HM := Lib.hid hM
    clear hA0 hA1 hA2 hM
    by_cases hlt : k < 4
    · have hkI : (k : Int) < 4 := by omega
      go_wp2_with fail
      have hset : (mixP 4 (umxF S) (fun _ => 0) k).set k (rcol unmW (fun _ => S.getD k 0) 0) = mixP 4 (umxF S) (fun _ => 0) k := by
        have hl : k < (mixP 4 (umxF S) (fun _ => 0) k).length := by rw [mixP_length]; exact hlt
        apply List.ext_getElem
        · simp
        · intro i h1 h2
          rw [List.getElem_set]
          by_cases e : k = i
          · subst e
            rw [if_pos rfl]
            simp [mixP, rcol]
          · rw [if_neg e]
      have H2' : Hid (At wr (w.heap.size + 2) 0 (wcells ((mixP 4 (umxF S) (fun _ => 0) k).set k (rcol unmW (fun _ => S.getD k 0) 0)))) := by
        rw [hset]
        exact H2
      have H0' := H0
      have H1' := H1
      have HM' := HM
      have hb0' := hb0
      clear H0 H1 H2 HM hb0 hset
      go_loopw [11] (fun i wr => ∃ n : Nat, n ≤ 4 ∧ i = .int .i64 n ∧ At wr w.heap.size 0 (wcells S) ∧ At wr (w.heap.size + 1) 0 (wcells [0, 0, 0, 0]) ∧ At wr (w.heap.size + 2) 0 (wcells ((mixP 4 (umxF S) (fun _ => 0) k).set k (rcol unmW (fun _ => S.getD k 0) n))) ∧ At wr g 772 (wcells (unmL 256)) ∧ Below w.heap.size w wr) (fun i _ => 4 - (intOf i).toNat)
      case atStart => exact ⟨0, Nat.zero_le _, rfl, H0'.out, H1'.out, H2'.out, HM'.out, hb0'⟩
      case round =>
        clear H0' H1' H2' HM' hb0'
        obtain ⟨n, hn, rfl, hA0, hA1, hA2, hM, hb0⟩ := hrel
        have H0 := Lib.hid hA0
        have H1 := Lib.hid hA1
        have H2 := Lib.hid hA2
        have HM := Lib.hid hM
        clear hA0 hA1 hA2 hM
        by_cases hlt2 : n < 4
        · obtain ⟨m, hm⟩ : ∃ m : Int, m = -8 * (n : Int) := ⟨_, rfl⟩
          have hwm : IntKind.i64.wrap (-8 * (n : Int)) = m := by
            subst hm
            have : ∀ j : Fin 4, IntKind.i64.wrap (-8 * (j.val : Int)) = -8 * (j.val : Int) := by decide
            exact this ⟨n, hlt2⟩
          have hc0 := H0.out.w32 k (by omega)
          obtain ⟨x, hx⟩ : ∃ x, S.getD k 0 = x := ⟨_, rfl⟩
          rw [hx, Nat.zero_add] at hc0
          have hxb := (rw_ x n).toNat_lt
          have hxI : ((rw_ x n).toNat : Int) < 256 := by omega
          have hcm := HM.out.w32 (rw_ x n).toNat (by rw [unmL_length]; omega)
          rw [unmL_get] at hcm
          have hc2 := H2.out.w32 k (by rw [List.length_set, mixP_length]; exact hlt)
          have hfr := H2.out.froz k (by rw [wcells_length, List.length_set, mixP_length]; exact hlt)
          have hget : ((mixP 4 (umxF S) (fun _ => 0) k).set k (rcol unmW (fun _ => S.getD k 0) n)).getD k 0 = rcol unmW (fun _ => S.getD k 0) n := by
            have hl : k < (mixP 4 (umxF S) (fun _ => 0) k).length := by rw [mixP_length]; exact hlt
            simp [List.getD, hl]
          rw [hget] at hc2
          rw [Nat.zero_add] at hc2 hfr
          obtain ⟨y, hy⟩ : ∃ y, rcol unmW (fun _ => S.getD k 0) n = y := ⟨_, rfl⟩
          obtain ⟨u, hu⟩ : ∃ u, unmW (rw_ x n) = u := ⟨_, rfl⟩
          rw [hy] at hc2
          rw [hu] at hcm
          obtain ⟨z, hz, hz2⟩ : ∃ z : UInt32, bits .xor .u32 (y.toNat : Int) ((rotl32 u (m % 32).toNat).toNat : Int) = (z.toNat : Int) ∧ rcol unmW (fun _ => S.getD k 0) (n + 1) = z := ⟨_, u32x _ _, by
            rw [rcol, hy, hx, hu, tn, ← hm]⟩
          have HZ := Lib.hid hz2
          have HY := Lib.hid hy
          have hn3 : n ≤ 3 := by omega
          clear hz2 hy hu hm hget hx
          go_wp2_with fail
          go_still_tail 18, (by kernel_rfl)
          still_call (still_y (row_nat x n _ hn3))
          repeat still_step
          still_call (still_w (rotl32_any u m _))
          repeat still_step
          refine wpStill_nil ?_
          change wpList _ _ _ _ _ wr.drew
          go_wp2_with fail
          go_roundw
          case rel =>
            refine ⟨n + 1, by omega, by go_num, H0.out.drew.other _ _ _ (.inl (by omega)), H1.out.drew.other _ _ _ (.inl (by omega)), ?_, HM.out.drew.other _ _ _ (.inl (by omega)), (hb0.drew.setCell (p := ⟨w.heap.size + 2, k, none⟩) (by simp only; omega) _)⟩
            have h := H2.out.drew.w32set k z
            rw [List.set_set, ← HZ.out, HZ.out, Nat.zero_add] at h
            rw [HZ.out]
            exact h
          case measure => simp [intOf]; omega
        · have hkn : n = 4 := by omega
          subst hkn
          go_wp2_with fail
          go_roundw
          case rel =>
            refine ⟨k + 1, by omega, by go_num, H0.out, H1.out, ?_, HM.out, hb0⟩
            have h := H2.out
            rw [show rcol unmW (fun _ => S.getD k 0) 4 = umxF S k from rfl, mixP_set] at h
            exact h
          case measure => simp [intOf]; omega
    · have hkn : k = 4 := by omega
      subst hkn
      have h1 := H2.out
      rw [mixP_full] at h1
      have hst := run_store_at (P := Try.prog) H1.out (cs := wcells (umxL S)) (by rw [wcells_length, wcells_length, umxL_length]; rfl) (wcells_one _)
      go_wp2_with (refine wpList_load_at 117 (.tmp 5) (w.heap.size + 2) 0 (wcells (umxL S)) _ h1 Try.underlying117 rfl (wlen4 _ (umxL_length _)) ⟨rfl, rfl, rfl⟩ ?_)
      have hfin : At (wr.setCells (w.heap.size + 1) 0 (wcells (umxL S))) (w.heap.size + 1) 0 (wcells (umxL S)) := H1.out.ofSets (by rw [wcells_length, wcells_length, umxL_length]; rfl)
      have hbf := below_sets w.heap.size (w.heap.size + 1) (by omega) (wcells (umxL S)) 0 w wr hb0
      (try simp only [Exit.inBlock, Exit.then])
      refine bodyPost_ret (results_at rfl _ (w.heap.size + 1) _ _ rfl hfin Try.underlying117 rfl (wlen4 _ (umxL_length _))) rfl ?_
      exact ⟨rfl, hbf⟩
end Go.Proofs.Ytigegblpledogaa
