/- The contract of New: what a cipher's block holds. -/
import Derived.Test.YtkedoiikkjeadaaDoorAesD
namespace Go.Proofs.YtkedoiikkjeadaaDoor
open Go.RowKit
set_option linter.unusedVariables false
set_option linter.unusedSimpArgs false
def mixW (i : Nat) : UInt32 := wd (dbl (gsub (UInt8.ofNat i))) (gsub (UInt8.ofNat i)) (gsub (UInt8.ofNat i)) (dbl (gsub (UInt8.ofNat i)) ^^^ gsub (UInt8.ofNat i))
def mixL (n : Nat) : List UInt32 := (List.range n).map mixW
theorem mixL_succ (n : Nat) : mixL (n + 1) = mixL n ++ [mixW n] := by simp [mixL, List.range_succ]
theorem mixL_length (n : Nat) : (mixL n).length = n := by simp [mixL]
/-- block g is a cipher of the key K: what Encrypt wants -/
def Ciph (w : World) (g : Nat) (K : List UInt8) : Prop := ∃ gw cap, gw < g ∧ At w g 0 [.slice (some ⟨gw, 0, none⟩) (expW K).length cap] ∧ At w gw 0 (wcells (expW K)) ∧ At w g 1 (bcells sboxL) ∧ At w g 257 (wcells (mixL 256))
/-- nobody has decrypted yet -/
def Fresh (w : World) (g : Nat) : Prop := At w g 513 [.int .u32 0, .int .i32 0, .int .u32 0] ∧ At w g 516 (bcells (List.replicate 256 0)) ∧ At w g 772 (wcells (List.replicate 256 0))
def tail59 : List Value := wcells (List.replicate 256 0) ++ ([.int .u32 0, .int .i32 0, .int .u32 0] ++ (bcells (List.replicate 256 0) ++ wcells (List.replicate 256 0)))
def zero59 : List Value := .slice none 0 0 :: (bcells (List.replicate 256 0) ++ tail59)
theorem cells59 : Tryd.zeroCells115.toList = zero59 := by kernel_rfl
theorem zero59_drop : zero59.drop (1 + 256) = tail59 := by
  rw [zero59, Nat.add_comm, List.drop_succ_cons, List.drop_left' (by rw [bcells_length, List.length_replicate])]
theorem zero59_len : zero59.length = 1028 := by
  rw [zero59, tail59, List.length_cons, List.length_append, List.length_append, List.length_append, List.length_append, bcells_length, wcells_length, List.length_replicate, List.length_replicate]
  rfl
theorem box59 (v : Value) (l : List UInt8) (hl : l.length = 256) : (List.foldl (fun (cs : Array Value) (x : Value × Nat) => cs.setIfInBounds (1 + x.2) x.1) (Tryd.zeroCells115.setIfInBounds 0 v) (bcells l).zipIdx).toList = v :: (bcells l ++ tail59) := by
  have hs : Tryd.zeroCells115.size = 1028 := by rw [← Array.length_toList, cells59, zero59_len]
  have h := lay_list (bcells l) 1 (Tryd.zeroCells115.setIfInBounds 0 v) 0 (by rw [Array.size_setIfInBounds, hs, bcells_length, hl]; decide)
  rw [h, Array.toList_setIfInBounds, cells59, bcells_length, hl]
  rw [List.drop_set_of_lt (by decide), show 1 + 0 + 256 = 1 + 256 from rfl, zero59_drop, zero59, List.set_cons_zero, Nat.add_zero, List.take_succ_cons, List.take_zero]
  rfl
theorem At.split {w : World} {g o : Nat} {a b : List Value} (h : At w g o (a ++ b)) : At w g o a ∧ At w g (o + a.length) b := by
  constructor
  · intro j v hv
    have hj : j < a.length := (List.getElem?_eq_some_iff.1 hv).1
    exact h j v (by rw [List.getElem?_append_left hj]; exact hv)
  · intro j v hv
    have := h (a.length + j) v (by rw [List.getElem?_append_right (by omega), Nat.add_sub_cancel_left]; exact hv)
    rw [Nat.add_assoc]
    exact this
/-- a cipher of its own -/
def RetC (K : List UInt8) (w : World) (e : Ending) (w' : World) : Prop := ∃ g, w.heap.size ≤ g ∧ e = .returned (.tuple #[.pointer (some ⟨g, 0, none⟩), .int .i64 0]) ∧ Ciph w' g K ∧ Fresh w' g ∧ Below w.heap.size w w'
set_option maxRecDepth 100000 in
theorem new_bad (key : ByteArray) (w : World) (h1 : key.size ≠ 16) (h2 : key.size ≠ 24) (h3 : key.size ≠ 32) : Calls Tryd.prog 52 #[.string key] w (fun e w' => e = .returned (.tuple #[.pointer none, .int .i64 3]) ∧ w = w') := by
  go_enter Tryd.func52, Tryd.ntmps52
  go_wp2_with fail
  refine (expand_bad key _ h1 h2 h3).mono ?_
  rintro e w' ⟨rfl, rfl⟩
  go_wp2_with fail
  go_ret2
  exact ⟨rfl, rfl⟩
set_option maxRecDepth 100000 in
set_option maxHeartbeats 3200000 in
theorem new_any (key : ByteArray) (w : World) (h : key.size = 16 ∨ key.size = 24 ∨ key.size = 32) : Calls Tryd.prog 52 #[.string key] w (RetC key.toList w) := by
  go_enter Tryd.func52, Tryd.ntmps52
  go_wp2_with fail
  refine (expand_any key _ h).mono ?_
  rintro e w1 ⟨cap, rfl, hW, hb⟩
  have hlt := hW.lt (by intro he; have := congrArg List.length he; rw [wcells_length, expW_length] at this; simp at this)
  have HW := Lib.hid hW
  clear hW
  go_wp2_with fail
  refine (subs_any _).mono ?_
  rintro e w2 ⟨rfl, hb2⟩
  go_wp2_with fail
  have hA2 := box59 (.slice (some ⟨w.heap.size, 0, none⟩) (expW key.toList).length cap) sboxL sboxL_length
  generalize List.foldl (fun (cs : Array Value) (x : Value × Nat) => cs.setIfInBounds (1 + x.2) x.1) (Tryd.zeroCells115.setIfInBounds 0 (.slice (some ⟨w.heap.size, 0, none⟩) (expW key.toList).length cap)) (bcells sboxL).zipIdx = A at hA2 ⊢
  have hAt := At.ofAlloc w2 A 115
  rw [hA2, ← List.singleton_append] at hAt
  have hW2 := (HW.out.below hb2 hlt).alloc (Obj.cells A 115)
  have hbA := (hb.trans (hb2.mono (Nat.le_of_lt hlt))).alloc (by have := hb2.size; omega) (Obj.cells A 115)
  have hg : w.heap.size < w2.heap.size := by have := hb2.size; omega
  generalize w2.alloc (Obj.cells A 115) = w3 at hAt hW2 hbA ⊢
  obtain ⟨g, hgg⟩ : ∃ g, w2.heap.size = g := ⟨_, rfl⟩
  rw [hgg] at hAt hg ⊢
  have h0 := hAt.split.1
  have h1 := hAt.split.2.split.1
  have h2 := hAt.split.2.split.2
  rw [bcells_length, sboxL_length, tail59] at h2
  have h3 := h2.split.1
  have h4 := h2.split.2
  rw [wcells_length, List.length_replicate] at h4
  have h5 := h4.split.1
  have h6 := h4.split.2.split.1
  have h7 := h4.split.2.split.2
  rw [bcells_length, List.length_replicate] at h7
  simp only [List.length_cons, List.length_nil, Nat.zero_add, Nat.reduceAdd] at h0 h1 h3 h5 h6 h7
  clear hAt h2 h4 hA2 hgg HW hb hb2
  have H0 := Lib.hid h0
  have H1 := Lib.hid h1
  have H5 := Lib.hid h5
  have H6 := Lib.hid h6
  have H7 := Lib.hid h7
  have HW := Lib.hid hW2
  clear h0 h1 h5 h6 h7 hW2
  have h3' : At w3 g 257 (wcells (mixL 0 ++ List.replicate (256 - (mixL 0).length) 0)) := h3
  clear h3 h
  go_loopw [21] (fun i wr => ∃ k : Nat, k ≤ 256 ∧ i = .int .i64 k ∧ At wr w.heap.size 0 (wcells (expW key.toList)) ∧ At wr g 0 [.slice (some ⟨w.heap.size, 0, none⟩) (expW key.toList).length cap] ∧ At wr g 1 (bcells sboxL) ∧ At wr g 257 (wcells (mixL k ++ List.replicate (256 - (mixL k).length) 0)) ∧ Fresh wr g ∧ Below w.heap.size w wr) (fun i _ => 256 - (intOf i).toNat)
  case atStart => exact ⟨0, Nat.zero_le _, rfl, HW.out, H0.out, H1.out, h3', ⟨H5.out, H6.out, H7.out⟩, hbA⟩
  case round =>
    clear h3' H0 H1 H5 H6 H7 HW hbA
    obtain ⟨k, hk, rfl, hW, h0, h1, h3, ⟨h5, h6, h7⟩, hb⟩ := hrel
    have H0 := Lib.hid h0
    have H1 := Lib.hid h1
    have H3 := Lib.hid h3
    have H5 := Lib.hid h5
    have H6 := Lib.hid h6
    have H7 := Lib.hid h7
    have HW := Lib.hid hW
    clear h0 h1 h3 h5 h6 h7 hW
    by_cases hlt : k < 256
    · obtain ⟨s, hs⟩ : ∃ s : UInt8, gsub (UInt8.ofNat k) = s := ⟨_, rfl⟩
      have hc1 := H1.out.b8 k (by rw [sboxL_length]; exact hlt)
      have hsb := sboxL_get (UInt8.ofNat k)
      rw [show (UInt8.ofNat k).toNat = k by simp; omega, hs] at hsb
      rw [hsb] at hc1
      have HS := Lib.hid hs
      have hc3 := H3.out.cell k _ (wcells_get _ k (by simp; rw [mixL_length]; omega))
      have hfr := H3.out.froz k (by rw [wcells_length]; simp; rw [mixL_length]; omega)
      have hkI : (k : Int) < 256 := by omega
      obtain ⟨q, hq, hq2⟩ : ∃ q : UInt8, bits .xor .u8 ((dbl s).toNat : Int) (s.toNat : Int) = (q.toNat : Int) ∧ q = dbl s ^^^ s := ⟨_, u8x _ _, rfl⟩
      have HQ := Lib.hid hq2
      clear hs hsb hq2
      go_wp2_with fail
      go_still_tail 14, (by kernel_rfl)
      still_call (still_y (double_any _ _))
      repeat still_step
      still_call (still_y (double_any _ _))
      repeat still_step
      still_call (still_w (word_any _ _ _ _ _))
      repeat still_step
      refine wpStill_nil ?_
      change wpList _ _ _ _ _ wr.drew
      go_wp2_with fail
      go_roundw
      case rel =>
        refine ⟨k + 1, by omega, by go_num, HW.out.drew.other _ _ _ (.inl (by omega)), H0.out.drew.other _ _ _ (.inr (.inr (by simp; omega))), H1.out.drew.other _ _ _ (.inr (.inr (by rw [bcells_length, sboxL_length]; omega))), ?_, ⟨H5.out.drew.other _ _ _ (.inr (.inl (by omega))), H6.out.drew.other _ _ _ (.inr (.inl (by omega))), H7.out.drew.other _ _ _ (.inr (.inl (by omega)))⟩, hb.drew.setCell (p := ⟨g, 257 + k, none⟩) (Nat.le_of_lt hg) _⟩
        have h := H3.out.drew.w32set k (wd (dbl s) s s q)
        have h2 := grow_set (mixL k) 0 (wd (dbl s) s s q) 256 (by rw [mixL_length]; exact hlt)
        rw [mixL_length] at h2
        rw [mixL_length, h2] at h
        have h4 : mixL k ++ [wd (dbl s) s s q] = mixL (k + 1) := by rw [mixL_succ, mixW, HS.out, HQ.out]
        rw [h4] at h
        exact h
      case measure => simp [intOf]; omega
    · have hkn : k = 256 := by omega
      subst hkn
      go_wp2_with fail
      go_ret2
      have h := H3.out
      rw [mixL_length, Nat.sub_self, List.replicate_zero, List.append_nil] at h
      exact ⟨g, Nat.le_of_lt hg, rfl, ⟨w.heap.size, cap, hg, H0.out, HW.out, H1.out, h⟩, ⟨H5.out, H6.out, H7.out⟩, hb⟩
end Go.Proofs.YtkedoiikkjeadaaDoor
