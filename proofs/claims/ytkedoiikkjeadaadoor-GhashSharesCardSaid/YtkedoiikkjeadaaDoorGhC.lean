/- The field of 128 bits: the document's Of. -/
import Derived.Test.YtkedoiikkjeadaaDoorGhB
namespace Go.Proofs.YtkedoiikkjeadaaDoor
open Go.RowKit
set_option linter.unusedVariables false
set_option linter.unusedSimpArgs false
/-! ### rows of bools -/
def lcells (l : List Bool) : List Value := l.map Value.bool
theorem lcells_length (l : List Bool) : (lcells l).length = l.length := by simp [lcells]
theorem lcells_get (l : List Bool) (j : Nat) (hj : j < l.length) : (lcells l)[j]? = some (.bool (l.getD j false)) := by simp [lcells, hj, List.getD]
theorem lcells_set (l : List Bool) (j : Nat) (u : Bool) : (lcells l).set j (.bool u) = lcells (l.set j u) := by simp [lcells, List.map_set]
theorem lcells_one (l : List Bool) : ∀ u ∈ lcells l, u.oneCell' = true := by
  intro u hu
  simp only [lcells, List.mem_map] at hu
  obtain ⟨b, _, rfl⟩ := hu
  rfl
theorem At.bl {w : World} {g o : Nat} {l : List Bool} (h : At w g o (lcells l)) (j : Nat) (hj : j < l.length) : w.cell? ⟨g, o + j, none⟩ = some (.bool (l.getD j false)) := h.cell j _ (lcells_get l j hj)
theorem At.blset {w : World} {g o : Nat} {l : List Bool} (h : At w g o (lcells l)) (j : Nat) (u : Bool) : At (w.setCell ⟨g, o + j, none⟩ (.bool u)) g o (lcells (l.set j u)) := by
  have := h.set j (.bool u)
  rwa [lcells_set] at this
def RetBs (l : List Bool) (w : World) (e : Ending) (w' : World) : Prop := e = .returned (.agg (lcells l).toArray) ∧ Below w.heap.size w w'
/-- the first k bits -/
def bitsK (v k : Nat) : List Bool := (Gh.bits v).take k ++ List.replicate (128 - k) false
theorem bitsK_length (v k : Nat) (h : k ≤ 128) : (bitsK v k).length = 128 := by rw [bitsK, List.length_append, List.length_take, List.length_replicate, Gh.bits_length]; omega
theorem bitsK_set (v k : Nat) (h : k < 128) : (bitsK v k).set k (Gh.co v k) = bitsK v (k + 1) := by
  have hl : ((Gh.bits v).take k).length = k := by rw [List.length_take, Gh.bits_length]; omega
  rw [bitsK, List.set_append_right _ _ (by omega), hl, Nat.sub_self, show 128 - k = (128 - (k + 1)) + 1 by omega, List.replicate_succ, List.set_cons_zero, bitsK, List.take_add_one, show (Gh.bits v)[k]? = some (Gh.co v k) by simp [Gh.bits, h]]
  simp
theorem bitsK_full (v : Nat) : bitsK v 128 = Gh.bits v := by rw [bitsK, List.take_of_length_le (by rw [Gh.bits_length]; exact Nat.le_refl _)]; simp
theorem zero128 : Tryd.zeroCells51.toList = lcells (List.replicate 128 false) := by kernel_rfl
theorem info128 (n : List Bool) (h : n.length = 128) : (Tryd.prog.info? 51).map (·.size) = some (lcells n).length := by rw [lcells_length, h]; kernel_rfl
theorem two_el (w : World) : ∃ w0, (w.alloc (Obj.cells Tryd.zeroCells51 51)).alloc (Obj.cells Tryd.zeroCells51 51) = w0 ∧ At w0 w.heap.size 0 (lcells (List.replicate 128 false)) ∧ At w0 (w.heap.size + 1) 0 (lcells (List.replicate 128 false)) ∧ Below w.heap.size w w0 := by
  have h1 := (At.ofAlloc w Tryd.zeroCells51 51).alloc (Obj.cells Tryd.zeroCells51 51)
  have h2 := At.ofAlloc (w.alloc (Obj.cells Tryd.zeroCells51 51)) Tryd.zeroCells51 51
  rw [World.size_alloc, zero128] at h2
  rw [zero128] at h1
  exact ⟨_, rfl, h1, h2, ((Below.refl _ _).alloc (Nat.le_refl _) _).alloc (by simp) _⟩
set_option maxRecDepth 100000 in
theorem rof_any (s : ByteArray) (hs : s.size = 16) (w : World) : Calls Tryd.prog 33 #[.string s] w (RetBs (Gh.bits (ofBe s.toList)) w) := by
  have hL : s.toList.length = 16 := by rw [tl_size]; exact hs
  have HL := Lib.hid hL
  have HS := Lib.hid hs
  clear hL hs
  go_enter Tryd.func33, Tryd.ntmps33
  go_wp2_with fail
  obtain ⟨w0, hw0, hA0, hA1, hb0⟩ := two_el w
  rw [hw0]
  clear hw0
  go_loopw [4] (fun i wr => ∃ k : Nat, k ≤ 128 ∧ i = .int .i64 (k : Int) ∧ At wr w.heap.size 0 (lcells (List.replicate 128 false)) ∧ At wr (w.heap.size + 1) 0 (lcells (bitsK (ofBe s.toList) k)) ∧ Below w.heap.size w wr) (fun i _ => 128 - (intOf i).toNat)
  case atStart => exact ⟨0, Nat.zero_le _, rfl, hA0, hA1, hb0⟩
  case round =>
    clear hA0 hA1 hb0
    obtain ⟨k, hk, rfl, hA0, hA1, hb0⟩ := hrel
    have H0 := Lib.hid hA0
    have H1 := Lib.hid hA1
    clear hA0 hA1
    by_cases hlt : k < 128
    · have hc0 := H1.out.bl k (by rw [bitsK_length _ _ hk]; exact hlt)
      have hfr := H1.out.froz k (by rw [lcells_length, bitsK_length _ _ hk]; exact hlt)
      rw [Nat.zero_add] at hc0 hfr
      have hq0 : k / 8 < s.size := by have := HS.out; omega
      have hb : (bits .and .u8 (((s[k / 8]'hq0).toNat : Int) / (2 : Int) ^ (7 - k % 8)) 1 == 1) = Gh.co (ofBe s.toList) k := by
        rw [u8n_bit _ _ (s[k / 8]'hq0).toNat_lt, co_of _ HL.out k hlt, List.getD, tl_get s (k / 8) hq0]
        show ((((s[k / 8]'hq0).toNat.testBit (7 - k % 8)).toNat : Int) == 1) = (s[k / 8]'hq0).toNat.testBit (7 - k % 8)
        cases (s[k / 8]'hq0).toNat.testBit (7 - k % 8) <;> rfl
      have HBI := Lib.hid hb
      have hsz : (s.size : Int) = 16 := by have := HS.out; omega
      clear hb
      go_wp2_with fail
      go_roundw
      case rel =>
        refine ⟨k + 1, by omega, by go_num, H0.out.other _ _ _ (.inl (by omega)), ?_, hb0.setCell (p := ⟨w.heap.size + 1, k, none⟩) (Nat.le_add_right _ _) _⟩
        rw [HBI.out]
        have h := H1.out.blset k (Gh.co (ofBe s.toList) k)
        rwa [bitsK_set _ _ hlt, Nat.zero_add] at h
      case measure => simp [intOf]; omega
    · have hkn : k = 128 := by omega
      subst hkn
      have h1 := H1.out
      rw [bitsK_full] at h1
      have hl : (Gh.bits (ofBe s.toList)).length = 128 := Gh.bits_length _
      have hst := run_store_at (P := Tryd.prog) H0.out (cs := lcells (Gh.bits (ofBe s.toList))) (by rw [lcells_length, lcells_length, hl, List.length_replicate]) (lcells_one _)
      have hfin : At (wr.setCells w.heap.size 0 (lcells (Gh.bits (ofBe s.toList)))) w.heap.size 0 (lcells (Gh.bits (ofBe s.toList))) := H0.out.ofSets (by rw [lcells_length, lcells_length, hl, List.length_replicate])
      have hbf := below_sets w.heap.size w.heap.size (Nat.le_refl _) (lcells (Gh.bits (ofBe s.toList))) 0 w wr hb0
      have HLB := Lib.hid hl
      clear hl
      go_wp2_with (refine wpList_load_at 51 (.tmp 3) (w.heap.size + 1) 0 (lcells (Gh.bits (ofBe s.toList))) _ h1 Tryd.underlying51 rfl (info128 _ HLB.out) ⟨rfl, rfl, rfl⟩ ?_)
      (try simp only [Exit.inBlock, Exit.then])
      refine bodyPost_ret (results_at rfl _ w.heap.size _ _ rfl hfin Tryd.underlying51 rfl (info128 _ HLB.out)) rfl ?_
      exact ⟨rfl, hbf⟩
end Go.Proofs.YtkedoiikkjeadaaDoor
