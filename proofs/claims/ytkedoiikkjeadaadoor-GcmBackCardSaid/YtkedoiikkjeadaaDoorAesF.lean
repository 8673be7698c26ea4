/- The contracts of a block's way: start. -/
import Derived.Test.YtkedoiikkjeadaaDoorAesE
import Derived.Test.YtkedoiikkjeadaaDoorRowB
namespace Go.Proofs.YtkedoiikkjeadaaDoor
open Go.RowKit
set_option linter.unusedVariables false
set_option linter.unusedSimpArgs false
theorem size71 : (Tryd.prog.info? 119).map (·.size) = some 4 := by kernel_rfl
/-- a column block that begins with zeros -/
abbrev zc : Obj := Obj.cells #[Value.int .u32 0, Value.int .u32 0, Value.int .u32 0, Value.int .u32 0] 119
theorem two_cols (w : World) : ∃ w0, (w.alloc zc).alloc zc = w0 ∧ At w0 w.heap.size 0 (wcells [0, 0, 0, 0]) ∧ At w0 (w.heap.size + 1) 0 (wcells [0, 0, 0, 0]) ∧ Below w.heap.size w w0 ∧ w0.heap.size = w.heap.size + 2 := by
  refine ⟨_, rfl, ?_, ?_, ?_, by simp⟩
  · exact (At.ofAlloc w _ _).alloc _
  · have h := At.ofAlloc (w.alloc zc) #[Value.int .u32 0, Value.int .u32 0, Value.int .u32 0, Value.int .u32 0] 119
    rw [World.size_alloc] at h
    exact h
  · exact ((Below.refl _ _).alloc (Nat.le_refl _) _).alloc (by simp) _
theorem wlen4 (l : List UInt32) (h : l.length = 4) : (Tryd.prog.info? 119).map (·.size) = some (wcells l).length := by rw [wcells_length, h]; exact size71
set_option maxRecDepth 100000 in
set_option maxHeartbeats 3200000 in
theorem start_any (b : ByteArray) (w : World) (g : Nat) (K : List UInt8) (hC : Ciph w g K) (hb : b.size = 16) : Calls Tryd.prog 72 #[.pointer (some ⟨g, 0, none⟩), .string b] w
    (fun e w' => e = .returned (.tuple #[.agg (wcells (keyL b.toList 4)).toArray, .int .i64 0]) ∧ Below w.heap.size w w') := by
  obtain ⟨gw, cap, hgw, h0, hx1, hx2, hx3⟩ := hC
  clear hx1 hx2 hx3
  have hg := h0.lt (by simp)
  have hc0 := h0.cell 0 _ rfl
  rw [Nat.add_zero] at hc0
  have hlen : ((((expW K).length : Nat) : Int) == 0) = false := by
    rw [beq_eq_false_iff_ne, expW_length]
    omega
  have hb2 : ((b.size : Int) != 16) = false := by rw [bne_eq_false_iff_eq]; omega
  go_enter Tryd.func72, Tryd.ntmps72
  go_wp2_with fail
  obtain ⟨w0, hw0, hA0, hA1, hb0, hs0⟩ := two_cols w
  rw [hw0]
  clear hc0 h0 hw0
  clear hlen hb2
  have hA1' : At w0 (w.heap.size + 1) 0 (wcells (keyL b.toList 0 ++ List.replicate (4 - (keyL b.toList 0).length) 0)) := hA1
  clear hA1
  go_loopw [23] (fun i wr => ∃ k : Nat, k ≤ 4 ∧ i = .int .i64 k ∧ At wr w.heap.size 0 (wcells [0, 0, 0, 0]) ∧ At wr (w.heap.size + 1) 0 (wcells (keyL b.toList k ++ List.replicate (4 - (keyL b.toList k).length) 0)) ∧ Below w.heap.size w wr) (fun i _ => 4 - (intOf i).toNat)
  case atStart => exact ⟨0, Nat.zero_le _, rfl, hA0, hA1', hb0⟩
  case round =>
    clear hA0 hA1' hb0 hs0
    obtain ⟨k, hk, rfl, hA0, hA1, hb0⟩ := hrel
    have H0 := Lib.hid hA0
    have H1 := Lib.hid hA1
    have HS := Lib.hid hb
    clear hA0 hA1 hb
    by_cases hlt : k < 4
    · have hks : 4 * k + 3 < b.size := by have := HS.out; omega
      obtain ⟨q0, q1, q2, q3, hq0, hq1, hq2, hq3⟩ : ∃ q0 q1 q2 q3 : Nat, q0 = 4 * k ∧ q1 = 4 * k + 1 ∧ q2 = 4 * k + 2 ∧ q3 = 4 * k + 3 := ⟨_, _, _, _, rfl, rfl, rfl, rfl⟩
      have hw0 : IntKind.i64.wrap (4 * (k : Int)) = (q0 : Int) := by rw [wrap_in _ (by omega) (by omega)]; omega
      have hw1 : IntKind.i64.wrap ((q0 : Int) + 1) = (q1 : Int) := by rw [wrap_in _ (by omega) (by omega)]; omega
      have hw2 : IntKind.i64.wrap ((q0 : Int) + 2) = (q2 : Int) := by rw [wrap_in _ (by omega) (by omega)]; omega
      have hw3 : IntKind.i64.wrap ((q0 : Int) + 3) = (q3 : Int) := by rw [wrap_in _ (by omega) (by omega)]; omega
      have hs0 : q0 < b.size := by omega
      have hs1 : q1 < b.size := by omega
      have hs2 : q2 < b.size := by omega
      have hs3 : q3 < b.size := by omega
      have HK : Hid (wd b[q0] b[q1] b[q2] b[q3] = keyW b.toList k) := by
        show _ = _
        rw [keyW, ← hq3, ← hq2, ← hq1, ← hq0, at0_tl _ _ hs0, at0_tl _ _ hs1, at0_tl _ _ hs2, at0_tl _ _ hs3]
      clear hq0 hq1 hq2 hq3 hks
      have hkI : (k : Int) < 4 := by omega
      have hcell := H1.out.w32 k (by simp; rw [keyL_length]; omega)
      have hfr := H1.out.froz k (by simp [wcells_length]; rw [keyL_length]; omega)
      rw [Nat.zero_add] at hcell hfr
      go_wp2_with fail
      go_still_tail 22, (by kernel_rfl)
      still_call (still_w (word_any _ _ _ _ _))
      repeat still_step
      refine wpStill_nil ?_
      change wpList _ _ _ _ _ wr.drew
      go_wp2_with fail
      go_roundw
      case rel =>
        refine ⟨k + 1, by omega, by go_num, H0.out.drew.other _ _ _ (.inl (by omega)), ?_, (hb0.drew.setCell (p := ⟨w.heap.size + 1, k, none⟩) (by simp only; omega) _)⟩
        have h := H1.out.drew.w32set k (keyW b.toList k)
        have h2 := grow_set (keyL b.toList k) 0 (keyW b.toList k) 4 (by rw [keyL_length]; exact hlt)
        rw [keyL_length] at h2
        rw [keyL_length, h2, ← keyL_succ, Nat.zero_add] at h
        rw [HK.out]
        exact h
      case measure => simp [intOf]; omega
    · have hkn : k = 4 := by omega
      subst hkn
      have h1 := H1.out
      rw [keyL_length, Nat.sub_self, List.replicate_zero, List.append_nil] at h1
      have hst := run_store_at (P := Tryd.prog) H0.out (cs := wcells (keyL b.toList 4)) (by rw [wcells_length, wcells_length, keyL_length]; rfl) (wcells_one _)
      go_wp2_with (refine wpList_load_at 119 (.tmp 6) (w.heap.size + 1) 0 _ _ h1 Tryd.underlying119 rfl (wlen4 _ (keyL_length _ _)) ⟨rfl, rfl, rfl⟩ ?_)
      have hfin : At (wr.setCells w.heap.size 0 (wcells (keyL b.toList 4))) w.heap.size 0 (wcells (keyL b.toList 4)) := H0.out.ofSets (by rw [wcells_length, wcells_length, keyL_length]; rfl)
      have hbf := below_sets w.heap.size w.heap.size (Nat.le_refl _) (wcells (keyL b.toList 4)) 0 w wr hb0
      (try simp only [Exit.inBlock, Exit.then])
      refine bodyPost_ret (results_at_two rfl _ w.heap.size _ _ rfl hfin Tryd.underlying119 rfl (wlen4 _ (keyL_length _ _)) _ rfl) rfl ?_
      exact ⟨rfl, hbf⟩
end Go.Proofs.YtkedoiikkjeadaaDoor
