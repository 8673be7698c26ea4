/- The contract of lastRound. -/
import Derived.Test.YtkedoiikkjeadaaDoorAesH
namespace Go.Proofs.YtkedoiikkjeadaaDoor
open Go.RowKit
set_option linter.unusedVariables false
set_option linter.unusedSimpArgs false
def lasF (f : UInt8 → UInt8) (a b c : Nat) (S : List UInt32) (i : Nat) : UInt32 := wd (f (rw_ (S.getD i 0) 0)) (f (rw_ (S.getD ((i + a) % 4) 0) 1)) (f (rw_ (S.getD ((i + b) % 4) 0) 2)) (f (rw_ (S.getD ((i + c) % 4) 0) 3))
def lasL (f : UInt8 → UInt8) (a b c : Nat) (S : List UInt32) : List UInt32 := (List.range 4).map (lasF f a b c S)
theorem lasL_length (f : UInt8 → UInt8) (a b c : Nat) (S : List UInt32) : (lasL f a b c S).length = 4 := by simp [lasL]
set_option maxRecDepth 100000 in
set_option maxHeartbeats 6400000 in
theorem last_any (S : List UInt32) (w : World) (g : Nat) (T : List UInt8) (f : UInt8 → UInt8) (hm : At w g 1 (bcells T)) (hT : T.length = 256) (hTf : ∀ b : UInt8, T.getD b.toNat 0 = f b) (hg : g < w.heap.size) (hS : S.length = 4) : Calls Tryd.prog 75 #[.pointer (some ⟨g, 0, none⟩), .agg (wcells S).toArray] w (RetK (lasL f 1 2 3 S) w) := by
  go_enter Tryd.func75, Tryd.ntmps75
  go_wp2_with fail
  obtain ⟨w0, hw0, hA0, hA1, hA2, hb0, hs0⟩ := three_cols w S
  rw [hw0]
  have hM0 : At w0 g 1 (bcells T) := hm.below hb0 hg
  clear hw0 hm
  have hA2' : At w0 (w.heap.size + 2) 0 (wcells (mixP 4 (lasF f 1 2 3 S) (fun _ => 0) 0)) := hA2
  clear hA2
  go_loopw [7] (fun i wr => ∃ k : Nat, k ≤ 4 ∧ i = .int .i64 k ∧ At wr w.heap.size 0 (wcells S) ∧ At wr (w.heap.size + 1) 0 (wcells [0, 0, 0, 0]) ∧ At wr (w.heap.size + 2) 0 (wcells (mixP 4 (lasF f 1 2 3 S) (fun _ => 0) k)) ∧ At wr g 1 (bcells T) ∧ Below w.heap.size w wr) (fun i _ => 4 - (intOf i).toNat)
  case atStart => exact ⟨0, Nat.zero_le _, rfl, hA0, hA1, hA2', hM0, hb0⟩
  case round =>
    clear hA0 hA1 hA2' hb0 hs0 hM0
    obtain ⟨k, hk, rfl, hA0, hA1, hA2, hM, hb0⟩ := hrel
    have H0 := Lib.hid hA0
    have H1 := Lib.hid hA1
    have H2 := Lib.hid hA2
    have HM := Lib.hid hM
    clear hA0 hA1 hA2 hM
    by_cases hlt : k < 4
    · have HTf := Lib.hid hTf
      obtain ⟨q1, hq1⟩ : ∃ q : Nat, q = k + 1 := ⟨_, rfl⟩
      obtain ⟨r1, hr1⟩ : ∃ r : Nat, r = (k + 1) % 4 := ⟨_, rfl⟩
      have hwq1 : IntKind.i64.wrap ((k : Int) + 1) = (q1 : Int) := by rw [wrap_in _ (by omega) (by omega)]; omega
      have hwr1 : (q1 : Int).tmod 4 = (r1 : Int) := by rw [Int.tmod_eq_emod_of_nonneg (by omega)]; omega
      have hrI1 : (r1 : Int) < 4 := by omega
      obtain ⟨q2, hq2⟩ : ∃ q : Nat, q = k + 2 := ⟨_, rfl⟩
      obtain ⟨r2, hr2⟩ : ∃ r : Nat, r = (k + 2) % 4 := ⟨_, rfl⟩
      have hwq2 : IntKind.i64.wrap ((k : Int) + 2) = (q2 : Int) := by rw [wrap_in _ (by omega) (by omega)]; omega
      have hwr2 : (q2 : Int).tmod 4 = (r2 : Int) := by rw [Int.tmod_eq_emod_of_nonneg (by omega)]; omega
      have hrI2 : (r2 : Int) < 4 := by omega
      obtain ⟨q3, hq3⟩ : ∃ q : Nat, q = k + 3 := ⟨_, rfl⟩
      obtain ⟨r3, hr3⟩ : ∃ r : Nat, r = (k + 3) % 4 := ⟨_, rfl⟩
      have hwq3 : IntKind.i64.wrap ((k : Int) + 3) = (q3 : Int) := by rw [wrap_in _ (by omega) (by omega)]; omega
      have hwr3 : (q3 : Int).tmod 4 = (r3 : Int) := by rw [Int.tmod_eq_emod_of_nonneg (by omega)]; omega
      have hrI3 : (r3 : Int) < 4 := by omega
      have hkI : (k : Int) < 4 := by omega
      have hc0 := H0.out.w32 k (by omega)
      obtain ⟨x0, hx0⟩ : ∃ x, S.getD k 0 = x := ⟨_, rfl⟩
      rw [hx0, Nat.zero_add] at hc0
      have hxb0 := (rw_ x0 0).toNat_lt
      have hxI0 : ((rw_ x0 0).toNat : Int) < 256 := by omega
      have hcm0 := HM.out.b8 (rw_ x0 0).toNat (by omega)
      rw [hTf] at hcm0
      obtain ⟨y0, hy0⟩ : ∃ y, f (rw_ x0 0) = y := ⟨_, rfl⟩
      rw [hy0] at hcm0
      have hc1 := H0.out.w32 r1 (by omega)
      obtain ⟨x1, hx1⟩ : ∃ x, S.getD r1 0 = x := ⟨_, rfl⟩
      rw [hx1, Nat.zero_add] at hc1
      have hxb1 := (rw_ x1 1).toNat_lt
      have hxI1 : ((rw_ x1 1).toNat : Int) < 256 := by omega
      have hcm1 := HM.out.b8 (rw_ x1 1).toNat (by omega)
      rw [hTf] at hcm1
      obtain ⟨y1, hy1⟩ : ∃ y, f (rw_ x1 1) = y := ⟨_, rfl⟩
      rw [hy1] at hcm1
      have hc2 := H0.out.w32 r2 (by omega)
      obtain ⟨x2, hx2⟩ : ∃ x, S.getD r2 0 = x := ⟨_, rfl⟩
      rw [hx2, Nat.zero_add] at hc2
      have hxb2 := (rw_ x2 2).toNat_lt
      have hxI2 : ((rw_ x2 2).toNat : Int) < 256 := by omega
      have hcm2 := HM.out.b8 (rw_ x2 2).toNat (by omega)
      rw [hTf] at hcm2
      obtain ⟨y2, hy2⟩ : ∃ y, f (rw_ x2 2) = y := ⟨_, rfl⟩
      rw [hy2] at hcm2
      have hc3 := H0.out.w32 r3 (by omega)
      obtain ⟨x3, hx3⟩ : ∃ x, S.getD r3 0 = x := ⟨_, rfl⟩
      rw [hx3, Nat.zero_add] at hc3
      have hxb3 := (rw_ x3 3).toNat_lt
      have hxI3 : ((rw_ x3 3).toNat : Int) < 256 := by omega
      have hcm3 := HM.out.b8 (rw_ x3 3).toNat (by omega)
      rw [hTf] at hcm3
      obtain ⟨y3, hy3⟩ : ∃ y, f (rw_ x3 3) = y := ⟨_, rfl⟩
      rw [hy3] at hcm3
      have hc4 := H2.out.w32 k (by rw [mixP_length]; exact hlt)
      have hfr := H2.out.froz k (by rw [wcells_length, mixP_length]; exact hlt)
      rw [Nat.zero_add] at hc4 hfr
      have HZ : Hid (lasF f 1 2 3 S k = wd y0 y1 y2 y3) := by
        show _ = _
        rw [lasF, ← hr1, ← hr2, ← hr3, hx0, hx1, hx2, hx3, hy0, hy1, hy2, hy3]
      have HQ1 := Lib.hid hq1
      have HQ2 := Lib.hid hq2
      have HQ3 := Lib.hid hq3
      clear hq1 hq2 hq3 hr1 hr2 hr3 hx0 hx1 hx2 hx3 hy0 hy1 hy2 hy3
      clear hTf
      go_wp2_with fail
      go_still_tail 45, (by kernel_rfl)
      still_call (still_y (row_nat x0 0 _ (by omega)))
      repeat still_step
      still_call (still_y (row_nat x1 1 _ (by omega)))
      repeat still_step
      still_call (still_y (row_nat x2 2 _ (by omega)))
      repeat still_step
      still_call (still_y (row_nat x3 3 _ (by omega)))
      repeat still_step
      still_call (still_w (word_any y0 y1 y2 y3 _))
      repeat still_step
      refine wpStill_nil ?_
      change wpList _ _ _ _ _ wr.drew
      go_wp2_with fail
      go_roundw
      case rel =>
        refine ⟨k + 1, by omega, (by rw [HQ1.out]; try go_num), H0.out.drew.other _ _ _ (.inl (by omega)), H1.out.drew.other _ _ _ (.inl (by omega)), ?_, HM.out.drew.other _ _ _ (.inl (by omega)), (hb0.drew.setCell (p := ⟨w.heap.size + 2, k, none⟩) (by simp only; omega) _)⟩
        have h := H2.out.drew.w32set k (wd y0 y1 y2 y3)
        rw [← HZ.out, mixP_set, HZ.out, Nat.zero_add] at h
        exact h
      case measure =>
        have h1 := HQ1.out
        simp [intOf]
        omega
    · have hkn : k = 4 := by omega
      subst hkn
      have h1 := H2.out
      rw [mixP_full] at h1
      have hst := run_store_at (P := Tryd.prog) H1.out (cs := wcells (lasL f 1 2 3 S)) (by rw [wcells_length, wcells_length, lasL_length]; rfl) (wcells_one _)
      go_wp2_with (refine wpList_load_at 119 (.tmp 5) (w.heap.size + 2) 0 (wcells (lasL f 1 2 3 S)) _ h1 Tryd.underlying119 rfl (wlen4 _ (lasL_length _ _ _ _ _)) ⟨rfl, rfl, rfl⟩ ?_)
      have hfin : At (wr.setCells (w.heap.size + 1) 0 (wcells (lasL f 1 2 3 S))) (w.heap.size + 1) 0 (wcells (lasL f 1 2 3 S)) := H1.out.ofSets (by rw [wcells_length, wcells_length, lasL_length]; rfl)
      have hbf := below_sets w.heap.size (w.heap.size + 1) (by omega) (wcells (lasL f 1 2 3 S)) 0 w wr hb0
      (try simp only [Exit.inBlock, Exit.then])
      refine bodyPost_ret (results_at rfl _ (w.heap.size + 1) _ _ rfl hfin Tryd.underlying119 rfl (wlen4 _ (lasL_length _ _ _ _ _))) rfl ?_
      exact ⟨rfl, hbf⟩
end Go.Proofs.YtkedoiikkjeadaaDoor
