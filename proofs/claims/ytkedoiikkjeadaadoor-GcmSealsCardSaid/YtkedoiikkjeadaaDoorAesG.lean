/- The contracts of a block's way: add, round, lastRound, text. -/
import Derived.Test.YtkedoiikkjeadaaDoorAesF
namespace Go.Proofs.YtkedoiikkjeadaaDoor
open Go.RowKit
set_option linter.unusedVariables false
set_option linter.unusedSimpArgs false
def colV (S : List UInt32) : Value := .agg (wcells S).toArray
def RetK (S : List UInt32) (w : World) (e : Ending) (w' : World) : Prop := e = .returned (.agg (wcells S).toArray) ∧ Below w.heap.size w w'
def addF (S W : List UInt32) (o : Nat) (i : Nat) : UInt32 := S.getD i 0 ^^^ W.getD (o + i) 0
def addL (S W : List UInt32) (o : Nat) : List UInt32 := (List.range 4).map (addF S W o)
theorem addL_length (S W : List UInt32) (o : Nat) : (addL S W o).length = 4 := by simp [addL]
theorem box_cols (w : World) (S : List UInt32) : ∃ w0, (w.alloc (Obj.cells (wcells S).toArray 119)).alloc zc = w0 ∧ At w0 w.heap.size 0 (wcells S) ∧ At w0 (w.heap.size + 1) 0 (wcells [0, 0, 0, 0]) ∧ Below w.heap.size w w0 ∧ w0.heap.size = w.heap.size + 2 := by
  refine ⟨_, rfl, ?_, ?_, ?_, by simp⟩
  · have h := At.ofAlloc w (wcells S).toArray 119
    simp only at h
    exact h.alloc _
  · have h := At.ofAlloc (w.alloc (Obj.cells (wcells S).toArray 119)) #[Value.int .u32 0, Value.int .u32 0, Value.int .u32 0, Value.int .u32 0] 119
    rw [World.size_alloc] at h
    exact h
  · exact ((Below.refl _ _).alloc (Nat.le_refl _) _).alloc (by simp) _
set_option maxRecDepth 100000 in
set_option maxHeartbeats 3200000 in
theorem add_any (S : List UInt32) (o : Nat) (w : World) (g : Nat) (K : List UInt8) (hC : Ciph w g K) (hS : S.length = 4) (ho : o + 4 ≤ (expW K).length) (hK : (expW K).length ≤ 60) : Calls Tryd.prog 73 #[.pointer (some ⟨g, 0, none⟩), .agg (wcells S).toArray, .int .i64 (o : Int)] w (RetK (addL S (expW K) o) w) := by
  obtain ⟨gw, cap, hgw, h0, hw, hx2, hx3⟩ := hC
  clear hx2 hx3
  have hg := h0.lt (by simp)
  go_enter Tryd.func73, Tryd.ntmps73
  go_wp2_with fail
  obtain ⟨w0, hw0, hA0, hA1, hb0, hs0⟩ := box_cols w S
  rw [hw0]
  have hP0 : At w0 g 0 [.slice (some ⟨gw, 0, none⟩) (expW K).length cap] := h0.below hb0 hg
  have hQ0 : At w0 gw 0 (wcells (expW K)) := hw.below hb0 (by omega)
  clear hw0 h0 hw
  have hA0' : At w0 w.heap.size 0 (wcells (mixP 4 (addF S (expW K) o) (fun i => S.getD i 0) 0)) := by
    rw [mixP_zero, map_getD S 0 4 hS]
    exact hA0
  clear hA0
  go_loopw [8] (fun i wr => ∃ k : Nat, k ≤ 4 ∧ i = .int .i64 k ∧ At wr w.heap.size 0 (wcells (mixP 4 (addF S (expW K) o) (fun i => S.getD i 0) k)) ∧ At wr (w.heap.size + 1) 0 (wcells [0, 0, 0, 0]) ∧ At wr g 0 [.slice (some ⟨gw, 0, none⟩) (expW K).length cap] ∧ At wr gw 0 (wcells (expW K)) ∧ Below w.heap.size w wr) (fun i _ => 4 - (intOf i).toNat)
  case atStart => exact ⟨0, Nat.zero_le _, rfl, hA0', hA1, hP0, hQ0, hb0⟩
  case round =>
    clear hA0' hA1 hb0 hs0 hP0 hQ0
    obtain ⟨k, hk, rfl, hA0, hA1, hP, hQ, hb0⟩ := hrel
    have H0 := Lib.hid hA0
    have H1 := Lib.hid hA1
    have HP := Lib.hid hP
    have HQ := Lib.hid hQ
    clear hA0 hA1 hP hQ
    by_cases hlt : k < 4
    · obtain ⟨q, hq⟩ : ∃ q : Nat, q = o + k := ⟨_, rfl⟩
      have hwq : IntKind.i64.wrap ((o : Int) + (k : Int)) = (q : Int) := by rw [wrap_in _ (by omega) (by omega)]; omega
      have hql : q < (expW K).length := by omega
      have hqI : (q : Int) < ((expW K).length : Int) := by omega
      have hkI : (k : Int) < 4 := by omega
      have hc0 := H0.out.w32 k (by rw [mixP_length]; exact hlt)
      have hfr := H0.out.froz k (by rw [wcells_length, mixP_length]; exact hlt)
      rw [mixP_at _ _ _ _ _ _ hlt, if_neg (by omega)] at hc0
      have hcp := HP.out.cell 0 _ rfl
      have hcq := HQ.out.w32 q hql
      rw [Nat.zero_add] at hc0 hcq hfr
      rw [Nat.add_zero] at hcp
      obtain ⟨x, hx⟩ : ∃ x, S.getD k 0 = x := ⟨_, rfl⟩
      obtain ⟨y, hy⟩ : ∃ y, (expW K).getD q 0 = y := ⟨_, rfl⟩
      rw [hx] at hc0
      rw [hy] at hcq
      obtain ⟨z, hz, hz2⟩ : ∃ z : UInt32, bits .xor .u32 (x.toNat : Int) (y.toNat : Int) = (z.toNat : Int) ∧ addF S (expW K) o k = z := ⟨_, u32x _ _, by rw [addF, ← hq, hx, hy]⟩
      have HZ := Lib.hid hz2
      clear hz2 hx hy hq ho hK
      go_wp2_with fail
      go_still_tail 14, (by kernel_rfl)
      change wpList _ _ _ _ _ wr.drew
      go_wp2_with fail
      go_roundw
      case rel =>
        refine ⟨k + 1, by omega, by go_num, ?_, H1.out.drew.other _ _ _ (.inl (by omega)), HP.out.drew.other _ _ _ (.inl (by omega)), HQ.out.drew.other _ _ _ (.inl (by omega)), (hb0.drew.setCell (p := ⟨w.heap.size, k, none⟩) (Nat.le_refl _) _)⟩
        have h := H0.out.drew.w32set k z
        rw [← HZ.out, mixP_set, HZ.out, Nat.zero_add] at h
        exact h
      case measure => simp [intOf]; omega
    · have hkn : k = 4 := by omega
      subst hkn
      have h1 := H0.out
      rw [mixP_full] at h1
      have hst := run_store_at (P := Tryd.prog) H1.out (cs := wcells (addL S (expW K) o)) (by rw [wcells_length, wcells_length, addL_length]; rfl) (wcells_one _)
      go_wp2_with (refine wpList_load_at 119 (.tmp 4) w.heap.size 0 (wcells (addL S (expW K) o)) _ h1 Tryd.underlying119 rfl (wlen4 _ (addL_length _ _ _)) ⟨rfl, rfl, rfl⟩ ?_)
      have hfin : At (wr.setCells (w.heap.size + 1) 0 (wcells (addL S (expW K) o))) (w.heap.size + 1) 0 (wcells (addL S (expW K) o)) := H1.out.ofSets (by rw [wcells_length, wcells_length, addL_length]; rfl)
      have hbf := below_sets w.heap.size (w.heap.size + 1) (by omega) (wcells (addL S (expW K) o)) 0 w wr hb0
      (try simp only [Exit.inBlock, Exit.then])
      refine bodyPost_ret (results_at rfl _ (w.heap.size + 1) _ _ rfl hfin Tryd.underlying119 rfl (wlen4 _ (addL_length _ _ _))) rfl ?_
      exact ⟨rfl, hbf⟩
end Go.Proofs.YtkedoiikkjeadaaDoor
