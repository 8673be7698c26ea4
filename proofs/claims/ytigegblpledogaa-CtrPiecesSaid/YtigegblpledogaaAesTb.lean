/- The contract of turnBack: the tables of the way back. -/
import Derived.Test.YtigegblpledogaaAesL
import Derived.Test.YtigegblpledogaaAesY
namespace Go.Proofs.Ytigegblpledogaa
open Go.RowKit
set_option linter.unusedVariables false
set_option linter.unusedSimpArgs false
/-- of block g the cells from lo on may be others, and there may be new blocks; all else is as it was -/
structure Turn (g lo : Nat) (w w' : World) : Prop where
  os : w'.os = w.os
  tape : w'.tape = w.tape
  output : w'.output = w.output
  size : w.heap.size ≤ w'.heap.size
  block : ∀ k, k < w.heap.size → k ≠ g → w'.heap[k]? = w.heap[k]?
  low : ∀ o, o < lo → w'.cell? ⟨g, o, none⟩ = w.cell? ⟨g, o, none⟩ ∧ w'.frozen? ⟨g, o, none⟩ = w.frozen? ⟨g, o, none⟩
theorem Turn.refl (g lo : Nat) (w : World) : Turn g lo w w := ⟨rfl, rfl, rfl, Nat.le_refl _, fun _ _ _ => rfl, fun _ _ => ⟨rfl, rfl⟩⟩
theorem Turn.trans {g lo : Nat} {a b c : World} (h : Turn g lo a b) (k : Turn g lo b c) : Turn g lo a c :=
  ⟨k.os.trans h.os, k.tape.trans h.tape, k.output.trans h.output, Nat.le_trans h.size k.size, fun i hi hg => (k.block i (Nat.lt_of_lt_of_le hi h.size) hg).trans (h.block i hi hg), fun o ho => ⟨(k.low o ho).1.trans (h.low o ho).1, (k.low o ho).2.trans (h.low o ho).2⟩⟩
theorem Turn.less {g lo lo' : Nat} {a b : World} (h : Turn g lo a b) (hl : lo' ≤ lo) : Turn g lo' a b := ⟨h.os, h.tape, h.output, h.size, h.block, fun o ho => h.low o (by omega)⟩
theorem Turn.drew {g lo : Nat} {a b : World} (h : Turn g lo a b) : Turn g lo a b.drew := ⟨h.os, h.tape, h.output, h.size, h.block, h.low⟩
theorem Turn.ofBelow {g lo : Nat} {a b : World} (h : Below a.heap.size a b) (hg : g < a.heap.size) : Turn g lo a b :=
  ⟨h.os, h.tape, h.output, h.size, fun k hk _ => h.block k hk, fun o ho => ⟨h.cell hg, h.frozen hg⟩⟩
theorem Turn.setCell {g lo : Nat} {a b : World} (h : Turn g lo a b) (o : Nat) (ho : lo ≤ o) (v : Value) : Turn g lo a (b.setCell ⟨g, o, none⟩ v) :=
  h.trans ⟨rfl, rfl, rfl, by simp [World.setCell], fun k _ hk => Below.heap_setCell _ _ _ _ hk, fun o' ho' => ⟨by
    rw [World.cell?_setCell_other]
    intro e
    injection e with _ e2
    omega, by rw [World.frozen?_setCell]⟩⟩
theorem At.turn {w w' : World} {g lo h o : Nat} {cs : List Value} (ha : At w h o cs) (ht : Turn g lo w w') (hne : h ≠ g ∨ o + cs.length ≤ lo) : At w' h o cs := fun j v hv => by
  have hj : j < cs.length := (List.getElem?_eq_some_iff.1 hv).1
  have hl := ha.lt (by rintro rfl; simp at hv)
  obtain ⟨h1, h2⟩ := ha j v hv
  by_cases e : h = g
  · subst e
    have hlo : o + j < lo := by
      rcases hne with hne | hne
      · exact absurd rfl hne
      · omega
    obtain ⟨h3, h4⟩ := ht.low (o + j) hlo
    exact ⟨h3.trans h1, h4.trans h2⟩
  · have hb := ht.block h hl e
    exact ⟨(World.cell?_of_block (w := w) hb).trans h1, (World.frozen?_of_block (w := w) hb).trans h2⟩
theorem Turn.below {g lo : Nat} {a b : World} (h : Turn g lo a b) : Below g a b ∨ True := .inr trivial
def unmW (a : UInt8) : UInt32 := wd (gmul a 14) (gmul a 9) (gmul a 13) (gmul a 11)
def unmL (n : Nat) : List UInt32 := (List.range n).map fun i => unmW (UInt8.ofNat i)
theorem unmL_succ (n : Nat) : unmL (n + 1) = unmL n ++ [unmW (UInt8.ofNat n)] := by simp [unmL, List.range_succ]
theorem unmL_length (n : Nat) : (unmL n).length = n := by simp [unmL]
theorem unmL_get (b : UInt8) : (unmL 256).getD b.toNat 0 = unmW b := by
  have := b.toNat_lt
  simp [unmL, List.getD, this]
def bkL : Nat → List UInt8
  | 0 => List.replicate 256 0
  | k + 1 => (bkL k).set (gsub (UInt8.ofNat k)).toNat (UInt8.ofNat k)
theorem bkL_length : ∀ k, (bkL k).length = 256
  | 0 => by rw [bkL, List.length_replicate]
  | k + 1 => by rw [bkL, List.length_set, bkL_length k]
theorem bkL_all : bkL 256 = backC := by decide +kernel
theorem backC_length : backC.length = 256 := by decide +kernel
theorem backC_get (b : UInt8) : backC.getD b.toNat 0 = gback b := rfl
/-- somebody has decrypted -/
def Done (w : World) (g : Nat) : Prop := At w g 513 [.int .u32 1, .int .i32 0, .int .u32 0] ∧ At w g 516 (bcells backC) ∧ At w g 772 (wcells (unmL 256))
set_option maxRecDepth 100000 in
set_option maxHeartbeats 3200000 in
theorem turnBack_any (w : World) (g : Nat) (hS : At w g 1 (bcells sboxL)) (hB : At w g 516 (bcells (List.replicate 256 0))) (hU : At w g 772 (wcells (List.replicate 256 0))) : Calls Try.prog 93 #[.pointer (some ⟨g, 0, none⟩)] w
    (fun e w' => e = .returned (.tuple #[]) ∧ At w' g 516 (bcells backC) ∧ At w' g 772 (wcells (unmL 256)) ∧ Turn g 516 w w' ∧ w'.heap.size = w.heap.size) := by
  go_enter Try.func93, Try.ntmps93
  go_wp2_with fail
  have hU' : At w g 772 (wcells (unmL 0 ++ List.replicate (256 - (unmL 0).length) 0)) := hU
  have hB' : At w g 516 (bcells (bkL 0)) := hB
  clear hU hB
  go_loopw [4] (fun i wr => ∃ k : Nat, k ≤ 256 ∧ i = .int .i64 k ∧ At wr g 1 (bcells sboxL) ∧ At wr g 516 (bcells (bkL k)) ∧ At wr g 772 (wcells (unmL k ++ List.replicate (256 - (unmL k).length) 0)) ∧ Turn g 516 w wr ∧ wr.heap.size = w.heap.size) (fun i _ => 256 - (intOf i).toNat)
  case atStart => exact ⟨0, Nat.zero_le _, rfl, hS, hB', hU', Turn.refl _ _ _, rfl⟩
  case round =>
    clear hS hB' hU'
    obtain ⟨k, hk, rfl, h1, h5, h7, ht, hs⟩ := hrel
    have H1 := Lib.hid h1
    have H5 := Lib.hid h5
    have H7 := Lib.hid h7
    clear h1 h5 h7
    by_cases hlt : k < 256
    · obtain ⟨b, rfl⟩ : ∃ b : UInt8, k = b.toNat := ⟨UInt8.ofNat k, by simp; omega⟩
      obtain ⟨s, hs'⟩ : ∃ s : UInt8, gsub b = s := ⟨_, rfl⟩
      have hc1 := H1.out.b8 b.toNat (by rw [sboxL_length]; exact hlt)
      rw [sboxL_get, hs'] at hc1
      have HS := Lib.hid hs'
      clear hs'
      have hsl := s.toNat_lt
      have hsI : (s.toNat : Int) < 256 := by omega
      have hbI : (b.toNat : Int) < 256 := by omega
      have hwb : IntKind.u8.wrap (b.toNat : Int) = (b.toNat : Int) := by
        rw [IntKind.wrap_u8]
        omega
      have hc5 := H5.out.b8 s.toNat (by rw [bkL_length]; omega)
      have hf5 := H5.out.froz s.toNat (by rw [bcells_length, bkL_length]; omega)
      go_wp2_with fail
      go_still_tail 12, (by kernel_rfl)
      change wpList _ _ _ _ _ wr.drew
      have hb5 : At (wr.setCell ⟨g, 516 + s.toNat, none⟩ (.int .u8 (b.toNat : Int))).drew g 516 (bcells ((bkL b.toNat).set s.toNat b)) := (H5.out.b8set s.toNat b).drew
      have hb1 : At ((wr.setCell ⟨g, 516 + s.toNat, none⟩ (.int .u8 (b.toNat : Int))).drew) g 1 (bcells sboxL) := (H1.out.other _ _ _ (.inr (.inr (by rw [bcells_length, sboxL_length]; omega)))).drew
      have hb7 : At ((wr.setCell ⟨g, 516 + s.toNat, none⟩ (.int .u8 (b.toNat : Int))).drew) g 772 (wcells (unmL b.toNat ++ List.replicate (256 - (unmL b.toNat).length) 0)) := (H7.out.other _ _ _ (.inr (.inl (by omega)))).drew
      have ht2 := (ht.setCell (516 + s.toNat) (by omega) (.int .u8 (b.toNat : Int))).drew
      have hs2 : ((wr.setCell ⟨g, 516 + s.toNat, none⟩ (.int .u8 (b.toNat : Int))).drew).heap.size = w.heap.size := by
        rw [← hs]
        simp [World.setCell]
      go_wp2_with fail
      generalize (wr.setCell ⟨g, 516 + s.toNat, none⟩ (.int .u8 (b.toNat : Int))).drew = w2 at hb5 hb1 hb7 ht2 hs2 ⊢
      have hbk : (bkL b.toNat).set s.toNat b = bkL (b.toNat + 1) := by rw [bkL, UInt8.ofNat_toNat, HS.out]
      rw [hbk] at hb5
      clear hc1 hc5 hf5 H1 H5 H7 hbk ht hs HS
      have H1 := Lib.hid hb1
      have H5 := Lib.hid hb5
      have H7 := Lib.hid hb7
      clear hb1 hb5 hb7
      have hc7 := H7.out.cell b.toNat _ (wcells_get _ b.toNat (by simp; rw [unmL_length]; omega))
      have hf7 := H7.out.froz b.toNat (by rw [wcells_length]; simp; rw [unmL_length]; omega)
      go_still_tail 14, (by kernel_rfl)
      still_call (still_y (mul_any b 14 _))
      repeat still_step
      still_call (still_y (mul_any b 9 _))
      repeat still_step
      still_call (still_y (mul_any b 13 _))
      repeat still_step
      still_call (still_y (mul_any b 11 _))
      repeat still_step
      still_call (still_w (word_any _ _ _ _ _))
      repeat still_step
      refine wpStill_nil ?_
      change wpList _ _ _ _ _ w2.drew
      go_wp2_with fail
      go_roundw
      case rel =>
        refine ⟨b.toNat + 1, by omega, by go_num, H1.out.drew.other _ _ _ (.inr (.inr (by rw [bcells_length, sboxL_length]; omega))), H5.out.drew.other _ _ _ (.inr (.inr (by rw [bcells_length, bkL_length]; omega))), ?_, ht2.drew.setCell (772 + b.toNat) (by omega) _, by rw [← hs2]; simp [World.setCell]⟩
        have h := H7.out.drew.w32set b.toNat (unmW b)
        have h2 := grow_set (unmL b.toNat) 0 (unmW b) 256 (by rw [unmL_length]; exact hlt)
        rw [unmL_length] at h2
        have h4 : unmL b.toNat ++ [unmW b] = unmL (b.toNat + 1) := by rw [unmL_succ, UInt8.ofNat_toNat]
        rw [unmL_length, h2, h4] at h
        exact h
      case measure => simp [intOf]; omega
    · have hkn : k = 256 := by omega
      subst hkn
      have h7 := H7.out
      rw [unmL_length, Nat.sub_self, List.replicate_zero, List.append_nil] at h7
      have h5 := H5.out
      rw [bkL_all] at h5
      go_wp2_with fail
      go_end0
      exact ⟨rfl, h5, h7, ht, hs⟩
end Go.Proofs.Ytigegblpledogaa
