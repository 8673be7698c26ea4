/- The contract of subs. -/
import Derived.Test.YtkedoiikkjeadaaDoorAesC
namespace Go.Proofs.YtkedoiikkjeadaaDoor
open Go.RowKit
set_option linter.unusedVariables false
set_option linter.unusedSimpArgs false
theorem zero45 : Tryd.zeroCells87.toList = bcells (List.replicate 256 0) := by kernel_rfl
theorem zero68 : Tryd.zeroCells91.toList = bcells (List.replicate 255 0) := by kernel_rfl
theorem size45 : (Tryd.prog.info? 87).map (·.size) = some 256 := by kernel_rfl
/-- an array of bytes -/
def RetA8 (l : List UInt8) (w : World) (e : Ending) (w' : World) : Prop := e = .returned (.agg (bcells l).toArray) ∧ Below w.heap.size w w'
set_option maxRecDepth 100000 in
set_option maxHeartbeats 3200000 in
theorem subs_any (w : World) : Calls Tryd.prog 69 #[] w (RetA8 sboxL w) := by
  go_enter Tryd.func69, Tryd.ntmps69
  go_wp2_with fail
  generalize hw0 : (w.alloc (Obj.cells Tryd.zeroCells87 87)).alloc (Obj.cells Tryd.zeroCells91 91) = w0
  have hA0 : At w0 w.heap.size 0 (bcells (List.replicate 256 0)) := by
    rw [← hw0, ← zero45]
    exact (At.ofAlloc w _ _).alloc _
  have hA1 : At w0 (w.heap.size + 1) 0 (bcells (pwL 0 ++ List.replicate (255 - (pwL 0).length) 0)) := by
    have h := At.ofAlloc (w.alloc (Obj.cells Tryd.zeroCells87 87)) Tryd.zeroCells91 91
    rw [zero68, World.size_alloc, hw0] at h
    exact h
  have hb0 : Below w.heap.size w w0 := by
    rw [← hw0]
    exact ((Below.refl _ _).alloc (Nat.le_refl _) _).alloc (by simp) _
  have hs0 : w0.heap.size = w.heap.size + 2 := by
    rw [← hw0]
    simp
  clear hw0
  go_loopw [2, 6] (fun p i wr => ∃ k : Nat, k ≤ 255 ∧ i = .int .i64 k ∧ p = .int .u8 ((pw k).toNat : Int) ∧ At wr w.heap.size 0 (bcells (List.replicate 256 0)) ∧ At wr (w.heap.size + 1) 0 (bcells (pwL k ++ List.replicate (255 - (pwL k).length) 0)) ∧ Below w.heap.size w wr ∧ wr.heap.size = w.heap.size + 2) (fun _ i _ => 255 - (intOf i).toNat)
  case atStart => exact ⟨0, Nat.zero_le _, rfl, rfl, hA0, hA1, hb0, hs0⟩
  case round =>
    clear hA0 hA1 hb0 hs0
    obtain ⟨k, hk, rfl, rfl, hA0, hA1, hb0, hs0⟩ := hrel
    have H0 := Lib.hid hA0
    have H1 := Lib.hid hA1
    clear hA0 hA1
    by_cases hlt : k < 255
    · have hcell := H1.out.cell k _ (bcells_get _ k (by simp; rw [pwL_length]; omega))
      have hfr := H1.out.froz k (by rw [bcells_length]; simp; rw [pwL_length]; omega)
      rw [Nat.zero_add] at hcell hfr
      have hkI : (k : Int) < 255 := by omega
      go_wp2_with fail
      refine (double_any (pw k) _).mono ?_
      rintro e w' ⟨rfl, rfl⟩
      obtain ⟨q, hq, hq2⟩ : ∃ q : UInt8, bits .xor .u8 ((pw k).toNat : Int) ((dbl (pw k)).toNat : Int) = (q.toNat : Int) ∧ q = pw (k + 1) := ⟨_, u8x _ _, rfl⟩
      have HQ := Lib.hid hq2
      clear hq2
      go_wp2_with fail
      go_roundw
      case rel =>
        refine ⟨k + 1, by omega, by go_num, by rw [HQ.out], H0.out.other _ _ _ (.inl (by omega)), ?_, hb0.setCell (p := ⟨w.heap.size + 1, k, none⟩) (by simp only; omega) _, by simp [World.setCell]; exact hs0⟩
        have h := H1.out.b8set k (pw k)
        have h2 := grow_set (pwL k) 0 (pw k) 255 (by rw [pwL_length]; exact hlt)
        rw [pwL_length] at h2
        rw [pwL_length, h2, ← pwL_succ, Nat.zero_add] at h
        exact h
      case measure => simp [intOf]; omega
    · have hkn : k = 255 := by omega
      subst hkn
      go_wp2_with fail
      have hA2 := At.ofAlloc wr Tryd.zeroCells87 87
      rw [zero45, hs0] at hA2
      have hA0 := H0.out.alloc (Obj.cells Tryd.zeroCells87 87)
      have hA1 := H1.out.alloc (Obj.cells Tryd.zeroCells87 87)
      rw [pwL_length, Nat.sub_self, List.replicate_zero, List.append_nil] at hA1
      have hb1 := hb0.alloc (by omega) (Obj.cells Tryd.zeroCells87 87)
      have hs1 : (wr.alloc (Obj.cells Tryd.zeroCells87 87)).heap.size = w.heap.size + 3 := by
        rw [World.size_alloc, hs0]
      generalize wr.alloc (Obj.cells Tryd.zeroCells87 87) = w1 at hA0 hA1 hA2 hb1 hs1 ⊢
      rw [show ((255 : Nat) : Int) = (255 : Int) from rfl]
      refine (spread_any 0 _).mono ?_
      rintro e w' ⟨rfl, rfl⟩
      have hcell := hA2.cell 0 _ (bcells_get _ 0 (by simp))
      have hfr := hA2.froz 0 (by rw [bcells_length]; simp)
      rw [Nat.zero_add] at hcell hfr
      have HA2 : Hid (At (w1.setCell ⟨w.heap.size + 2, 0, none⟩ (.int .u8 ((spr 0).toNat : Int))) (w.heap.size + 2) 0 (bcells (outL 0))) := hA2.b8set 0 (spr 0)
      have HA0 : Hid (At (w1.setCell ⟨w.heap.size + 2, 0, none⟩ (.int .u8 ((spr 0).toNat : Int))) w.heap.size 0 (bcells (List.replicate 256 0))) := hA0.other _ _ _ (.inl (by omega))
      have HA1 : Hid (At (w1.setCell ⟨w.heap.size + 2, 0, none⟩ (.int .u8 ((spr 0).toNat : Int))) (w.heap.size + 1) 0 (bcells (pwL 255))) := hA1.other _ _ _ (.inl (by omega))
      have hb2 := hb1.setCell (p := ⟨w.heap.size + 2, 0, none⟩) (by simp only; omega) (.int .u8 ((spr 0).toNat : Int))
      have hs2 : (w1.setCell ⟨w.heap.size + 2, 0, none⟩ (.int .u8 ((spr 0).toNat : Int))).heap.size = w.heap.size + 3 := by
        rw [← hs1]
        simp [World.setCell]
      clear hA0 hA1 hA2 H0 H1 hb0 hb1 hs0 hs1
      go_wp2_with fail
      go_loopw [19] (fun i wr => ∃ k : Nat, k ≤ 255 ∧ i = .int .i64 k ∧ At wr w.heap.size 0 (bcells (List.replicate 256 0)) ∧ At wr (w.heap.size + 1) 0 (bcells (pwL 255)) ∧ At wr (w.heap.size + 2) 0 (bcells (outL k)) ∧ Below w.heap.size w wr ∧ wr.heap.size = w.heap.size + 3) (fun i _ => 255 - (intOf i).toNat)
      case atStart => exact ⟨0, Nat.zero_le _, rfl, HA0.out, HA1.out, HA2.out, hb2, hs2⟩
      case round =>
        clear HA0 HA1 HA2 hb2 hs2 hcell hfr
        obtain ⟨k, hk, rfl, hA0, hA1, hA2, hb0, hs0⟩ := hrel
        have H0 := Lib.hid hA0
        have H1 := Lib.hid hA1
        have H2 := Lib.hid hA2
        clear hA0 hA1 hA2
        by_cases hlt : k < 255
        · obtain ⟨d, hd⟩ : ∃ d : Nat, d = 255 - k := ⟨_, rfl⟩
          obtain ⟨r, hr⟩ : ∃ r : Nat, r = (255 - k) % 255 := ⟨_, rfl⟩
          have hwd : IntKind.i64.wrap (255 - (k : Int)) = (d : Int) := by rw [wrap_in _ (by omega) (by omega)]; omega
          have hwr : (d : Int).tmod 255 = (r : Int) := by rw [Int.tmod_eq_emod_of_nonneg (by omega)]; omega
          have hrl : r < 255 := by omega
          have hb := (pw k).toNat_lt
          have hbI : ((pw k).toNat : Int) < 256 := by omega
          have hc1 := H1.out.b8 k (by rw [pwL_length]; omega)
          have hc2 := H1.out.b8 r (by rw [pwL_length]; omega)
          rw [pwL_get _ _ hlt] at hc1
          rw [pwL_get _ _ hrl] at hc2
          have hc3 := H2.out.b8 (pw k).toNat (by rw [outL_length]; omega)
          have hfr := H2.out.froz (pw k).toNat (by rw [bcells_length, outL_length]; omega)
          rw [Nat.zero_add] at hc1 hc2 hc3 hfr
          have hkI : (k : Int) < 255 := by omega
          have hrI : (r : Int) < 255 := by omega
          have HR := Lib.hid hr
          clear hr hd
          go_wp2_with fail
          go_still_tail 10, (by kernel_rfl)
          still_call (still_y (spread_any _ _))
          repeat still_step
          refine wpStill_nil ?_
          change wpList _ _ _ _ _ wr.drew
          go_wp2_with fail
          go_roundw
          case rel =>
            refine ⟨k + 1, by omega, by go_num, H0.out.drew.other _ _ _ (.inl (by omega)), H1.out.drew.other _ _ _ (.inl (by omega)), ?_, hb0.drew.setCell (p := ⟨w.heap.size + 2, (pw k).toNat, none⟩) (by simp only; omega) _, by simp [World.setCell]; exact hs0⟩
            have h := H2.out.drew.b8set (pw k).toNat (spr (pw r))
            rw [Nat.zero_add, HR.out] at h
            rw [HR.out]
            exact h
          case measure => simp [intOf]; omega
        · have hkn : k = 255 := by omega
          subst hkn
          have h1 : (Tryd.prog.info? 87).map (·.size) = some (bcells (outL 255)).length := by rw [bcells_length, outL_length]; exact size45
          have hst := run_store_at (P := Tryd.prog) H0.out (cs := bcells (outL 255)) (by rw [bcells_length, bcells_length, List.length_replicate, outL_length]) (bcells_one _)
          go_wp2_with fail
          refine wp_load_mid 87 (.tmp 4) rfl (w.heap.size + 2) 0 rfl (bcells (outL 255)) _ H2.out.range Tryd.underlying87 rfl h1 ?_
          go_wp2_with fail
          clear hst
          have hfin : At (wr.setCells w.heap.size 0 (bcells (outL 255))) w.heap.size 0 (bcells (outL 255)) := H0.out.ofSets (by rw [bcells_length, bcells_length, List.length_replicate, outL_length])
          have hbf := below_sets w.heap.size w.heap.size (Nat.le_refl _) (bcells (outL 255)) 0 w wr hb0
          generalize wr.setCells w.heap.size 0 (bcells (outL 255)) = w3 at hfin hbf ⊢
          go_wp2_with fail
          (try simp only [Exit.inBlock, Exit.then])
          refine bodyPost_ret (results_at rfl _ w.heap.size _ _ rfl hfin Tryd.underlying87 rfl h1) rfl ?_
          rw [outL_all]
          exact ⟨rfl, hbf⟩
end Go.Proofs.YtkedoiikkjeadaaDoor
