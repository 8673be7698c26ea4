/- The example of the chapter. -/
import Derived.Test.YtkedoiikkjeadaaDoorAesL
namespace Go.Proofs.YtkedoiikkjeadaaDoor
open Go.RowKit
set_option linter.unusedVariables false
set_option linter.unusedSimpArgs false
def exK : List UInt8 := [0, 1, 2, 3, 4, 5, 6, 7, 8, 9, 10, 11, 12, 13, 14, 15]
def exB : List UInt8 := [0x00, 0x11, 0x22, 0x33, 0x44, 0x55, 0x66, 0x77, 0x88, 0x99, 0xaa, 0xbb, 0xcc, 0xdd, 0xee, 0xff]
def exC : List UInt8 := [0x69, 0xc4, 0xe0, 0xd8, 0x6a, 0x7b, 0x04, 0x30, 0xd8, 0xcd, 0xb7, 0x80, 0x70, 0xb4, 0xc5, 0x5a]
theorem ex_enc : encL exK exB = exC := by decide +kernel
/-- start refuses -/
def RetErr (c : Int) (w : World) (e : Ending) (w' : World) : Prop := e = .returned (.tuple #[.agg (wcells [0, 0, 0, 0]).toArray, .int .i64 c]) ∧ Below w.heap.size w w'
theorem start_ret (w : World) : ∃ w0, ((w.alloc zc).alloc zc) = w0 ∧ At w0 w.heap.size 0 (wcells [0, 0, 0, 0]) ∧ At w0 (w.heap.size + 1) 0 (wcells [0, 0, 0, 0]) ∧ Below w.heap.size w w0 := by
  obtain ⟨w0, h1, h2, h3, h4, _⟩ := two_cols w
  exact ⟨w0, h1, h2, h3, h4⟩
set_option maxRecDepth 100000 in
theorem start_nil (b : ByteArray) (w : World) : Calls Tryd.prog 72 #[.pointer none, .string b] w (RetErr 1 w) := by
  obtain ⟨w0, hw0, hA0, hA1, hb0⟩ := start_ret w
  have hst := run_store_at (P := Tryd.prog) hA0 (cs := wcells [0, 0, 0, 0]) rfl (wcells_one _)
  have hwl : (wcells [0, 0, 0, 0]).length = 4 := rfl
  go_enter Tryd.func72, Tryd.ntmps72
  go_wp2_with (refine wpList_load_at 119 (.tmp 6) (w.heap.size + 1) 0 (wcells [0, 0, 0, 0]) _ hA1 Tryd.underlying119 rfl (wlen4 _ rfl) ⟨rfl, rfl, rfl⟩ ?_)
  have hfin : At (w0.setCells w.heap.size 0 (wcells [0, 0, 0, 0])) w.heap.size 0 (wcells [0, 0, 0, 0]) := hA0.ofSets rfl
  have hbf := below_sets w.heap.size w.heap.size (Nat.le_refl _) (wcells [0, 0, 0, 0]) 0 w w0 hb0
  (try simp only [Exit.inBlock, Exit.then])
  refine bodyPost_ret (results_at_two rfl _ w.heap.size _ _ rfl hfin Tryd.underlying119 rfl (wlen4 _ rfl) _ rfl) rfl ?_
  exact ⟨rfl, hbf⟩
set_option maxRecDepth 100000 in
theorem start_empty (b : ByteArray) (w : World) (g : Nat) (h0 : At w g 0 [.slice none 0 0]) : Calls Tryd.prog 72 #[.pointer (some ⟨g, 0, none⟩), .string b] w (RetErr 1 w) := by
  obtain ⟨w0, hw0, hA0, hA1, hb0⟩ := start_ret w
  have hst := run_store_at (P := Tryd.prog) hA0 (cs := wcells [0, 0, 0, 0]) rfl (wcells_one _)
  have hwl : (wcells [0, 0, 0, 0]).length = 4 := rfl
  have hg := h0.lt (by simp)
  have hc0 := (h0.below hb0 hg).cell 0 _ rfl
  have hc1 := h0.cell 0 _ rfl
  rw [Nat.add_zero] at hc0 hc1
  go_enter Tryd.func72, Tryd.ntmps72
  go_wp2_with (refine wpList_load_at 119 (.tmp 6) (w.heap.size + 1) 0 (wcells [0, 0, 0, 0]) _ hA1 Tryd.underlying119 rfl (wlen4 _ rfl) ⟨rfl, rfl, rfl⟩ ?_)
  have hfin : At (w0.setCells w.heap.size 0 (wcells [0, 0, 0, 0])) w.heap.size 0 (wcells [0, 0, 0, 0]) := hA0.ofSets rfl
  have hbf := below_sets w.heap.size w.heap.size (Nat.le_refl _) (wcells [0, 0, 0, 0]) 0 w w0 hb0
  (try simp only [Exit.inBlock, Exit.then])
  refine bodyPost_ret (results_at_two rfl _ w.heap.size _ _ rfl hfin Tryd.underlying119 rfl (wlen4 _ rfl) _ rfl) rfl ?_
  exact ⟨rfl, hbf⟩
set_option maxRecDepth 100000 in
theorem start_size (b : ByteArray) (w : World) (g : Nat) (K : List UInt8) (hC : Ciph w g K) (hb : b.size ≠ 16) : Calls Tryd.prog 72 #[.pointer (some ⟨g, 0, none⟩), .string b] w (RetErr 6 w) := by
  obtain ⟨w0, hw0, hA0, hA1, hb0⟩ := start_ret w
  have hst := run_store_at (P := Tryd.prog) hA0 (cs := wcells [0, 0, 0, 0]) rfl (wcells_one _)
  have hwl : (wcells [0, 0, 0, 0]).length = 4 := rfl
  have hg := hC.lt
  obtain ⟨gw, cap, hc1⟩ := hC.word
  have hc0 : w0.cell? ⟨g, 0, none⟩ = some (.slice (some ⟨gw, 0, none⟩) (expW K).length cap) := by rw [hb0.cell hg]; exact hc1
  have hlen : ((((expW K).length : Nat) : Int) == 0) = false := by
    rw [beq_eq_false_iff_ne, expW_length]
    omega
  have hb2 : ((b.size : Int) != 16) = true := by rw [bne_iff_ne]; omega
  go_enter Tryd.func72, Tryd.ntmps72
  go_wp2_with (refine wpList_load_at 119 (.tmp 6) (w.heap.size + 1) 0 (wcells [0, 0, 0, 0]) _ hA1 Tryd.underlying119 rfl (wlen4 _ rfl) ⟨rfl, rfl, rfl⟩ ?_)
  have hfin : At (w0.setCells w.heap.size 0 (wcells [0, 0, 0, 0])) w.heap.size 0 (wcells [0, 0, 0, 0]) := hA0.ofSets rfl
  have hbf := below_sets w.heap.size w.heap.size (Nat.le_refl _) (wcells [0, 0, 0, 0]) 0 w w0 hb0
  (try simp only [Exit.inBlock, Exit.then])
  refine bodyPost_ret (results_at_two rfl _ w.heap.size _ _ rfl hfin Tryd.underlying119 rfl (wlen4 _ rfl) _ rfl) rfl ?_
  exact ⟨rfl, hbf⟩
set_option maxRecDepth 100000 in
theorem enc_err (p : Value) (b : ByteArray) (w : World) (c : Int) (hc : c ≠ 0) (hs : Calls Tryd.prog 72 #[p, .string b] w (RetErr c w)) : Calls Tryd.prog 53 #[p, .string b] w (RetSE [] c w) := by
  have hc2 : (c != 0) = true := by rw [bne_iff_ne]; exact hc
  go_enter Tryd.func53, Tryd.ntmps53
  go_wp2_with fail
  refine hs.mono ?_
  rintro e w1 ⟨rfl, hb1⟩
  have hA1 := At.ofAlloc w1 #[Value.int .u32 0, Value.int .u32 0, Value.int .u32 0, Value.int .u32 0] 119
  have hst1 := run_store_at (P := Tryd.prog) hA1 (cs := wcells [0, 0, 0, 0]) rfl (wcells_one _)
  have hwl : (wcells [0, 0, 0, 0]).length = 4 := rfl
  have hb2 := below_sets w.heap.size w1.heap.size hb1.size (wcells [0, 0, 0, 0]) 0 w (w1.alloc zc) (hb1.alloc hb1.size zc)
  go_wp2_with fail
  go_ret2
  exact ret_se (tl_mk []) rfl rfl hb2
end Go.Proofs.YtkedoiikkjeadaaDoor
