/- The contract of the document's add. -/
import Derived.Test.YtjlmmlnldjandaaGreatDoorAesBp
namespace Go.Proofs.YtjlmmlnldjandaaGreatDoor
open Go.RowKit
set_option linter.unusedVariables false
set_option linter.unusedSimpArgs false
theorem txt_add (S W : List UInt32) (o k : Nat) (hk : k < 16) (hS : S.length = 4) : txtF (addL S W (4 * o)) k = txtF S k ^^^ rw_ (W.getD (4 * o + k / 4) 0) (k % 4) := by
  have h4 : k / 4 < 4 := by omega
  rw [txtF, txtF, ← rw_xor]
  congr 1
  simp [addL, addF, List.getD, h4]
set_option maxRecDepth 100000 in
set_option maxHeartbeats 3200000 in
theorem radd_any (S : List UInt32) (o : Nat) (w : World) (g : Nat) (K : List UInt8) (hB : Box w g K) (hS : S.length = 4) (ho : 4 * o + 4 ≤ (expW K).length) (hK : (expW K).length ≤ 60) :
    Calls Tryz.prog 60 #[.pointer (some ⟨g, 0, none⟩), .agg (bcells (txtL S)).toArray, .int .i64 (o : Int)] w (RetA8 (txtL (addL S (expW K) (4 * o))) w) := by
  have HB := Lib.hid hB
  have HS := Lib.hid hS
  have hob : o ≤ 14 := by omega
  have HO := Lib.hid ho
  clear hB hS ho
  go_enter Tryz.func60, Tryz.ntmps60
  go_wp2_with fail
  obtain ⟨w0, hw0, hA0, hA1, hb0, hs0⟩ := two_by w (txtL S)
  rw [hw0]
  clear hw0 hs0
  have hA0' : At w0 w.heap.size 0 (bcells (mixP 16 (txtF (addL S (expW K) (4 * o))) (txtF S) 0)) := by rw [mixP_zero]; exact hA0
  clear hA0
  go_loopw [7] (fun i wr => ∃ k : Nat, k ≤ 16 ∧ i = .int .i64 k ∧ At wr w.heap.size 0 (bcells (mixP 16 (txtF (addL S (expW K) (4 * o))) (txtF S) k)) ∧ At wr (w.heap.size + 1) 0 (bcells (List.replicate 16 0)) ∧ Below w.heap.size w wr) (fun i _ => 16 - (intOf i).toNat)
  case atStart => exact ⟨0, Nat.zero_le _, rfl, hA0', hA1, hb0⟩
  case round =>
    clear hA0' hA1 hb0
    obtain ⟨k, hk, rfl, hA0, hA1, hb0⟩ := hrel
    have H0 := Lib.hid hA0
    have H1 := Lib.hid hA1
    clear hA0 hA1
    by_cases hlt : k < 16
    · obtain ⟨gw, cap, hcw, hW⟩ := (HB.out.below hb0 (Nat.le_refl _)).word
      have HW := Lib.hid hW
      clear hW
      obtain ⟨q, hq⟩ : ∃ q : Nat, q = k / 4 := ⟨_, rfl⟩
      obtain ⟨r, hr⟩ : ∃ r : Nat, r = k % 4 := ⟨_, rfl⟩
      obtain ⟨o4, ho4⟩ : ∃ o4 : Nat, o4 = 4 * o := ⟨_, rfl⟩
      obtain ⟨j, hj⟩ : ∃ j : Nat, j = o4 + q := ⟨_, rfl⟩
      have hL := HO.out
      have hjl : j < (expW K).length := by omega
      have hrl : r < 4 := by omega
      have hwb := wbs_get (expW K) r hrl j hjl
      have hcb := HW.out.b8 (4 * j + r) (by rw [wbs_length]; omega)
      have hc0 := H0.out.b8 k (by rw [mixP_length]; exact hlt)
      have hfr := H0.out.froz k (by rw [bcells_length, mixP_length]; exact hlt)
      rw [mixP_at _ _ _ _ _ _ hlt, if_neg (Nat.lt_irrefl k)] at hc0
      rw [Nat.zero_add, hwb] at hcb
      rw [Nat.zero_add] at hc0 hfr
      have hta := txt_add S (expW K) o k hlt HS.out
      rw [← ho4, ← hq, ← hr, ← hj] at hta
      obtain ⟨p, hp⟩ : ∃ p, txtF S k = p := ⟨_, rfl⟩
      obtain ⟨u, hu⟩ : ∃ u, rw_ ((expW K).getD j 0) r = u := ⟨_, rfl⟩
      rw [hp] at hc0
      rw [hu] at hcb
      rw [hp, hu] at hta
      obtain ⟨z, hz, hz2⟩ : ∃ z : UInt8, bits .xor .u8 (p.toNat : Int) (u.toNat : Int) = (z.toNat : Int) ∧ z = p ^^^ u := ⟨_, u8x _ _, rfl⟩
      have HZ : Hid (txtF (addL S (expW K) (4 * o)) k = z) := by rw [hz2, ← ho4]; exact hta
      have hw1 : IntKind.i64.wrap (4 * (o : Int)) = (o4 : Int) := by rw [wrap_in _ (by omega) (by omega)]; omega
      have hw2 : (k : Int).tdiv 4 = (q : Int) := tdiv_nat k 4 q hq
      have hw5 : IntKind.i64.wrap (q : Int) = (q : Int) := wrap_in _ (by omega) (by omega)
      have hw3 : (k : Int).tmod 4 = (r : Int) := tmod_nat k 4 r hr
      have hw4 : IntKind.i64.wrap ((o4 : Int) + (q : Int)) = (j : Int) := by rw [wrap_in _ (by omega) (by omega)]; omega
      have hkI : (k : Int) < 16 := by omega
      have hrI : (r : Int) < 4 := by omega
      have hjI : (j : Int) < ((expW K).length : Int) := by omega
      clear hz2 hta hp hu hwb hL hq hr ho4 hj
      rw [Nat.mul_comm 4 j] at hcb
      go_wp2_with fail
      go_still_tail 20, (by kernel_rfl)
      change wpList _ _ _ _ _ wr.drew
      go_wp2_with fail
      go_roundw
      case rel =>
        refine ⟨k + 1, by omega, by go_num, ?_, H1.out.drew.other _ _ _ (.inl (by omega)), hb0.drew.setCell (p := ⟨w.heap.size, k, none⟩) (Nat.le_refl _) _⟩
        have h := H0.out.drew.b8set k z
        rw [← HZ.out, mixP_set, HZ.out, Nat.zero_add] at h
        exact h
      case measure => simp [intOf]; omega
    · have hkn : k = 16 := by omega
      subst hkn
      have h1 := H0.out
      rw [mixP_full] at h1
      have hl : (txtL (addL S (expW K) (4 * o))).length = 16 := txtL_length _
      have h1' : At wr w.heap.size 0 (bcells (txtL (addL S (expW K) (4 * o)))) := h1
      clear h1
      have hst := run_store_at (P := Tryz.prog) H1.out (cs := bcells (txtL (addL S (expW K) (4 * o)))) (by rw [bcells_length, bcells_length, hl, List.length_replicate]) (bcells_one _)
      have hfin : At (wr.setCells (w.heap.size + 1) 0 (bcells (txtL (addL S (expW K) (4 * o))))) (w.heap.size + 1) 0 (bcells (txtL (addL S (expW K) (4 * o)))) := H1.out.ofSets (by rw [bcells_length, bcells_length, hl, List.length_replicate])
      have hbf := below_sets w.heap.size (w.heap.size + 1) (by omega) (bcells (txtL (addL S (expW K) (4 * o)))) 0 w wr hb0
      have HL := Lib.hid hl
      clear hl
      go_wp2_with (refine wpList_load_at 84 (.tmp 4) w.heap.size 0 (bcells (txtL (addL S (expW K) (4 * o)))) _ h1' Tryz.underlying84 rfl (blen16 _ HL.out) ⟨rfl, rfl, rfl⟩ ?_)
      (try simp only [Exit.inBlock, Exit.then])
      refine bodyPost_ret (results_at rfl _ (w.heap.size + 1) _ _ rfl hfin Tryz.underlying84 rfl (blen16 _ HL.out)) rfl ?_
      exact ⟨rfl, hbf⟩
end Go.Proofs.YtjlmmlnldjandaaGreatDoor
