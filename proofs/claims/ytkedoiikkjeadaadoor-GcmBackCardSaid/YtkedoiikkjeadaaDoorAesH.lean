/- The contracts of a block's way: round, lastRound, text. -/
import Derived.Test.YtkedoiikkjeadaaDoorAesG
namespace Go.Proofs.YtkedoiikkjeadaaDoor
open Go.RowKit
set_option linter.unusedVariables false
set_option linter.unusedSimpArgs false
theorem row_nat (x : UInt32) (n : Nat) (w : World) (h : n ≤ 3) : Calls Tryd.prog 91 #[.int .u32 (x.toNat : Int), .int .i64 (n : Int)] w (RetY (rw_ x n) w) := by
  have := row_any x (n : Int) w (by omega) (by omega)
  rwa [Int.toNat_natCast] at this
def tn (n : Nat) : Nat := ((-8 * (n : Int)) % 32).toNat
def rcol (f : UInt8 → UInt32) (pick : Nat → UInt32) : Nat → UInt32
  | 0 => 0
  | n + 1 => rcol f pick n ^^^ rotl32 (f (rw_ (pick n) n)) (tn n)
def mixB (b : UInt8) : UInt32 := wd (dbl (gsub b)) (gsub b) (gsub b) (dbl (gsub b) ^^^ gsub b)
theorem mixL_get (b : UInt8) : (mixL 256).getD b.toNat 0 = mixB b := by
  have := b.toNat_lt
  simp [mixL, List.getD, this, mixW, mixB]
def rouF (S : List UInt32) (i : Nat) : UInt32 := rcol mixB (fun n => S.getD ((i + n) % 4) 0) 4
def rouL (S : List UInt32) : List UInt32 := (List.range 4).map (rouF S)
theorem rouL_length (S : List UInt32) : (rouL S).length = 4 := by simp [rouL]
theorem three_cols (w : World) (S : List UInt32) : ∃ w0, ((w.alloc (Obj.cells (wcells S).toArray 119)).alloc zc).alloc zc = w0 ∧ At w0 w.heap.size 0 (wcells S) ∧ At w0 (w.heap.size + 1) 0 (wcells [0, 0, 0, 0]) ∧ At w0 (w.heap.size + 2) 0 (wcells [0, 0, 0, 0]) ∧ Below w.heap.size w w0 ∧ w0.heap.size = w.heap.size + 3 := by
  obtain ⟨w1, h1, hA, hB, hb, hs⟩ := box_cols w S
  rw [h1]
  refine ⟨_, rfl, hA.alloc _, hB.alloc _, ?_, hb.alloc (by omega) _, by simp [hs]⟩
  have h := At.ofAlloc w1 #[Value.int .u32 0, Value.int .u32 0, Value.int .u32 0, Value.int .u32 0] 119
  rw [hs] at h
  exact h
set_option maxRecDepth 100000 in
set_option maxHeartbeats 3200000 in
theorem round_any (S : List UInt32) (w : World) (g : Nat) (K : List UInt8) (hC : Ciph w g K) (hS : S.length = 4) : Calls Tryd.prog 74 #[.pointer (some ⟨g, 0, none⟩), .agg (wcells S).toArray] w (RetK (rouL S) w) := by
  obtain ⟨gw, cap, hgw, h0, hw, hx2, hm⟩ := hC
  have hg := h0.lt (by simp)
  clear hx2 h0 hw
  go_enter Tryd.func74, Tryd.ntmps74
  go_wp2_with fail
  obtain ⟨w0, hw0, hA0, hA1, hA2, hb0, hs0⟩ := three_cols w S
  rw [hw0]
  have hM0 : At w0 g 257 (wcells (mixL 256)) := hm.below hb0 hg
  clear hw0 hm
  have hA2' : At w0 (w.heap.size + 2) 0 (wcells (mixP 4 (rouF S) (fun _ => 0) 0)) := hA2
  clear hA2
  go_loopw [8] (fun i wr => ∃ k : Nat, k ≤ 4 ∧ i = .int .i64 k ∧ At wr w.heap.size 0 (wcells S) ∧ At wr (w.heap.size + 1) 0 (wcells [0, 0, 0, 0]) ∧ At wr (w.heap.size + 2) 0 (wcells (mixP 4 (rouF S) (fun _ => 0) k)) ∧ At wr g 257 (wcells (mixL 256)) ∧ Below w.heap.size w wr) (fun i _ => 4 - (intOf i).toNat)
  case atStart => exact ⟨0, Nat.zero_le _, rfl, hA0, hA1, hA2', hM0, hb0⟩
  case round =>
    clear hA0 hA1 hA2' hb0 hs0 hM0
    obtain ⟨k, hk, rfl, hA0, hA1, hA2, hM, hb0⟩ := hrel
    have H0 := Lib.hid hA0
    have H1 := Lib.hid hA1
    have H2 := Lib.hid hA2
    have HM := Lib.hid hM
    clear hA0 hA1 hA2 hM
    by_cases hlt : k < 4
    · have hkI : (k : Int) < 4 := by omega
      go_wp2_with fail
      have hset : (mixP 4 (rouF S) (fun _ => 0) k).set k (rcol mixB (fun n => S.getD ((k + n) % 4) 0) 0) = mixP 4 (rouF S) (fun _ => 0) k := by
        have hl : k < (mixP 4 (rouF S) (fun _ => 0) k).length := by rw [mixP_length]; exact hlt
        apply List.ext_getElem
        · simp
        · intro i h1 h2
          rw [List.getElem_set]
          by_cases e : k = i
          · subst e
            rw [if_pos rfl]
            simp [mixP, rcol]
          · rw [if_neg e]
      have H2' : Hid (At wr (w.heap.size + 2) 0 (wcells ((mixP 4 (rouF S) (fun _ => 0) k).set k (rcol mixB (fun n => S.getD ((k + n) % 4) 0) 0)))) := by
        rw [hset]
        exact H2
      have H0' := H0
      have H1' := H1
      have HM' := HM
      have hb0' := hb0
      clear H0 H1 H2 HM hb0 hset
      go_loopw [11] (fun i wr => ∃ n : Nat, n ≤ 4 ∧ i = .int .i64 n ∧ At wr w.heap.size 0 (wcells S) ∧ At wr (w.heap.size + 1) 0 (wcells [0, 0, 0, 0]) ∧ At wr (w.heap.size + 2) 0 (wcells ((mixP 4 (rouF S) (fun _ => 0) k).set k (rcol mixB (fun n => S.getD ((k + n) % 4) 0) n))) ∧ At wr g 257 (wcells (mixL 256)) ∧ Below w.heap.size w wr) (fun i _ => 4 - (intOf i).toNat)
      case atStart => exact ⟨0, Nat.zero_le _, rfl, H0'.out, H1'.out, H2'.out, HM'.out, hb0'⟩
      case round =>
        clear H0' H1' H2' HM' hb0'
        obtain ⟨n, hn, rfl, hA0, hA1, hA2, hM, hb0⟩ := hrel
        have H0 := Lib.hid hA0
        have H1 := Lib.hid hA1
        have H2 := Lib.hid hA2
        have HM := Lib.hid hM
        clear hA0 hA1 hA2 hM
        by_cases hlt2 : n < 4
        · obtain ⟨q, hq⟩ : ∃ q : Nat, q = k + n := ⟨_, rfl⟩
          obtain ⟨r, hr⟩ : ∃ r : Nat, r = q % 4 := ⟨_, rfl⟩
          have hwq : IntKind.i64.wrap ((k : Int) + (n : Int)) = (q : Int) := by rw [wrap_in _ (by omega) (by omega)]; omega
          have hwr : (q : Int).tmod 4 = (r : Int) := by rw [Int.tmod_eq_emod_of_nonneg (by omega)]; omega
          have hrl : r < 4 := by omega
          have hrI : (r : Int) < 4 := by omega
          obtain ⟨m, hm⟩ : ∃ m : Int, m = -8 * (n : Int) := ⟨_, rfl⟩
          have hwm : IntKind.i64.wrap (-8 * (n : Int)) = m := by
            subst hm
            have : ∀ j : Fin 4, IntKind.i64.wrap (-8 * (j.val : Int)) = -8 * (j.val : Int) := by decide
            exact this ⟨n, hlt2⟩
          have hc0 := H0.out.w32 r (by omega)
          obtain ⟨x, hx⟩ : ∃ x, S.getD r 0 = x := ⟨_, rfl⟩
          rw [hx, Nat.zero_add] at hc0
          have hxb := (rw_ x n).toNat_lt
          have hxI : ((rw_ x n).toNat : Int) < 256 := by omega
          have hcm := HM.out.w32 (rw_ x n).toNat (by rw [mixL_length]; omega)
          rw [mixL_get] at hcm
          have hc2 := H2.out.w32 k (by rw [List.length_set, mixP_length]; exact hlt)
          have hfr := H2.out.froz k (by rw [wcells_length, List.length_set, mixP_length]; exact hlt)
          have hget : ((mixP 4 (rouF S) (fun _ => 0) k).set k (rcol mixB (fun n => S.getD ((k + n) % 4) 0) n)).getD k 0 = rcol mixB (fun n => S.getD ((k + n) % 4) 0) n := by
            have hl : k < (mixP 4 (rouF S) (fun _ => 0) k).length := by rw [mixP_length]; exact hlt
            simp [List.getD, hl]
          rw [hget] at hc2
          rw [Nat.zero_add] at hc2 hfr
          obtain ⟨y, hy⟩ : ∃ y, rcol mixB (fun n => S.getD ((k + n) % 4) 0) n = y := ⟨_, rfl⟩
          obtain ⟨u, hu⟩ : ∃ u, mixB (rw_ x n) = u := ⟨_, rfl⟩
          rw [hy] at hc2
          rw [hu] at hcm
          obtain ⟨z, hz, hz2⟩ : ∃ z : UInt32, bits .xor .u32 (y.toNat : Int) ((rotl32 u (m % 32).toNat).toNat : Int) = (z.toNat : Int) ∧ rcol mixB (fun n => S.getD ((k + n) % 4) 0) (n + 1) = z := ⟨_, u32x _ _, by
            rw [rcol, hy, ← hq, ← hr, hx, hu, tn, ← hm]⟩
          have HZ := Lib.hid hz2
          have HY := Lib.hid hy
          have hn3 : n ≤ 3 := by omega
          clear hz2 hx hy hu hq hr hm hget
          go_wp2_with fail
          go_still_tail 21, (by kernel_rfl)
          still_call (still_y (row_nat x n _ hn3))
          repeat still_step
          still_call (still_w (rotl32_any u m _))
          repeat still_step
          refine wpStill_nil ?_
          change wpList _ _ _ _ _ wr.drew
          go_wp2_with fail
          go_roundw
          case rel =>
            refine ⟨n + 1, by omega, by go_num, H0.out.drew.other _ _ _ (.inl (by omega)), H1.out.drew.other _ _ _ (.inl (by omega)), ?_, HM.out.drew.other _ _ _ (.inl (by omega)), (hb0.drew.setCell (p := ⟨w.heap.size + 2, k, none⟩) (by simp only; omega) _)⟩
            have h := H2.out.drew.w32set k z
            rw [List.set_set, ← HZ.out, HZ.out, Nat.zero_add] at h
            rw [HZ.out]
            exact h
          case measure => simp [intOf]; omega
        · have hkn : n = 4 := by omega
          subst hkn
          go_wp2_with fail
          go_roundw
          case rel =>
            refine ⟨k + 1, by omega, by go_num, H0.out, H1.out, ?_, HM.out, hb0⟩
            have h := H2.out
            rw [show rcol mixB (fun n => S.getD ((k + n) % 4) 0) 4 = rouF S k from rfl, mixP_set] at h
            exact h
          case measure => simp [intOf]; omega
    · have hkn : k = 4 := by omega
      subst hkn
      have h1 := H2.out
      rw [mixP_full] at h1
      have hst := run_store_at (P := Tryd.prog) H1.out (cs := wcells (rouL S)) (by rw [wcells_length, wcells_length, rouL_length]; rfl) (wcells_one _)
      go_wp2_with (refine wpList_load_at 119 (.tmp 5) (w.heap.size + 2) 0 (wcells (rouL S)) _ h1 Tryd.underlying119 rfl (wlen4 _ (rouL_length _)) ⟨rfl, rfl, rfl⟩ ?_)
      have hfin : At (wr.setCells (w.heap.size + 1) 0 (wcells (rouL S))) (w.heap.size + 1) 0 (wcells (rouL S)) := H1.out.ofSets (by rw [wcells_length, wcells_length, rouL_length]; rfl)
      have hbf := below_sets w.heap.size (w.heap.size + 1) (by omega) (wcells (rouL S)) 0 w wr hb0
      (try simp only [Exit.inBlock, Exit.then])
      refine bodyPost_ret (results_at rfl _ (w.heap.size + 1) _ _ rfl hfin Tryd.underlying119 rfl (wlen4 _ (rouL_length _))) rfl ?_
      exact ⟨rfl, hbf⟩
end Go.Proofs.YtkedoiikkjeadaaDoor
