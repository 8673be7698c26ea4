import Derived.Test.YtikgonlhdkknkaaGreatDoorCtA
set_option maxRecDepth 100000
set_option maxHeartbeats 3200000
set_option linter.unusedVariables false
set_option linter.unusedSimpArgs false
namespace Go.Proofs.YtikgonlhdkknkaaGreatDoor
open Go.RowKit
namespace Co
open Dr (Rs Lm has lack at0S)
theorem rhead_short (k n : Nat) (hk : k < 8) (hn : n < 24) (w : World) : Calls Tryz.prog 48 #[.int .i64 (k : Int), .int .u64 (n : Int)] w (RetS (hdN k n) w) := by
 obtain ⟨f, hf⟩ : ∃ f, 32 * k = f := ⟨_, rfl⟩
 have e1 : 32 * (k : Int) = (f : Int) := by omega
 have e2 : IntKind.i64.wrap (f : Int) = (f : Int) := wrap_fit f (by unfold maxLen; omega)
 have e3 : IntKind.u8.wrap (f : Int) = (f : Int) := u8_in f (by omega)
 have e4 : IntKind.u8.wrap (n : Int) = (n : Int) := u8_in n (by omega)
 have e5 : (n : Int) < 24 := by omega
 obtain ⟨x, hx⟩ : ∃ x, f + n = x := ⟨_, rfl⟩
 have e6 : (f : Int) + (n : Int) = (x : Int) := by omega
 have e7 : IntKind.u8.wrap (x : Int) = (x : Int) := u8_in x (by omega)
 obtain ⟨c, hc⟩ : ∃ c : ByteArray, c = ⟨[UInt8.ofNat x].toArray⟩ := ⟨_, rfl⟩
 have hcv := dcv_byte x (by omega) c hc
 have HF : Hid (c.toList = hdN k n) := by
  show c.toList = _
  rw [hc, tl_mk, hdN, widN, infN, if_pos hn, if_pos hn, bytesN, ← hx, ← hf]
 have e0 : (k : Int) ≤ 8 := by omega
 clear hf hx hc hn hk
 go_enter Tryz.func48, Tryz.ntmps48
 go_wp2_with fail
 go_ret
 exact ⟨_, rfl, HF.out, (Below.refl _ _).alloc (nle _) _⟩
theorem rhead_1 (k n : Nat) (hk : k < 8) (hlo : 24 ≤ n) (hhi : n < 256) (w : World) : Calls Tryz.prog 48 #[.int .i64 (k : Int), .int .u64 (n : Int)] w (RetS (hdN k n) w) := by
 obtain ⟨i0, hi, hz0, hz1, hz2⟩ := info_parts info5
 obtain ⟨f, hf⟩ : ∃ f, 32 * k = f := ⟨_, rfl⟩
 have e1 : 32 * (k : Int) = (f : Int) := by omega
 have e2 : IntKind.i64.wrap (f : Int) = (f : Int) := wrap_fit f (by unfold maxLen; omega)
 have p24 : ¬ (n : Int) < 24 := by omega
 have p256 : ¬ (256 : Int) ≤ (n : Int) := by omega
 have q256 : decide ((256 : Int) ≤ (n : Int)) = false := dfa p256
 obtain ⟨x, hx⟩ : ∃ x, f + 24 = x := ⟨_, rfl⟩
 have e6 : (f : Int) + 24 = (x : Int) := by omega
 have e8 : IntKind.i64.wrap (x : Int) = (x : Int) := wrap_fit x (by unfold maxLen; omega)
 have e7 : IntKind.u8.wrap (x : Int) = (x : Int) := u8_in x (by omega)
 have HF : Hid (hdN k n = UInt8.ofNat x :: bytesN 1 n) := by
  have h1 : infN n = 24 := by rw [infN]; simp only [if_neg (show ¬ n < 24 by omega), if_pos (show n < 256 by omega)]
  have h2 : widN n = 1 := by rw [widN]; simp only [if_neg (show ¬ n < 24 by omega), if_pos (show n < 256 by omega)]
  show hdN k n = _
  rw [hdN, h1, h2, ← hx, ← hf]
 have e9 : (x : Int) = ((UInt8.ofNat x).toNat : Int) := by simp; omega
 have HO0 : Hid ((w.alloc (Obj.cells #[.int .u8 (x : Int)] 5)).ownsRow w.heap.size 5 1 (.slice (some ⟨w.heap.size, 0, none⟩) 1 1) 1 (bcells (UInt8.ofNat x :: (bytesN 1 n).take 0))) := by
  have h1 := World.ownsRow_lit (base := w.heap.size) (e := 5) (size := 1) w #[Value.int .u8 (x : Int)] 1 (nle _) (by decide) rfl
  have h2 : bcells (UInt8.ofNat x :: (bytesN 1 n).take 0) = (#[Value.int .u8 (x : Int)]).toList := by
   rw [List.take_zero, e9]
   rfl
  rw [h2]
  exact h1
 have HB0 : Hid (Below w.heap.size w (w.alloc (Obj.cells #[.int .u8 (x : Int)] 5))) := (Below.refl _ _).alloc (nle _) _
 clear hf hx e9 hk hlo
 go_enter Tryz.func48, Tryz.ntmps48
 go_wp2_with fail
 go_loopw [5, 6] (fun va vb wr => ((va = .int .i64 1 ∧ vb = .int .i64 24)) ∧ wr = w) (fun va _ _ => 1 - (intOf va).toNat)
 case atStart => exact ⟨⟨rfl, rfl⟩, rfl⟩
 case round =>
  obtain ⟨hv, hw9⟩ := hrel
  have hw9 := hw9.symm
  subst hw9
  rcases hv with ⟨rfl, rfl⟩
  ·go_wp2_with fail
   go_loopw [7, 8] (fun vo vi wr2 => ∃ i : Nat, ((i = 0 ∧ vi = .int .i64 (0)) ∨ (i = 1 ∧ vi = .int .i64 (-1))) ∧ Hid (wr2.ownsRow w.heap.size 5 1 vo (1 + i) (bcells (UInt8.ofNat x :: (bytesN 1 n).take i))) ∧ Hid (Below w.heap.size w wr2)) (fun _ vi _ => ((intOf vi) + 1).toNat)
   case atStart => exact ⟨0, .inl ⟨rfl, rfl⟩, HO0, HB0⟩
   case round =>
    obtain ⟨i, hv, HO, HB⟩ := hrel
    clear HO0 HB0
    rcases hv with ⟨rfl, rfl⟩ | ⟨rfl, rfl⟩
    ·obtain ⟨z, hz⟩ : ∃ z, n / 1 = z := ⟨_, rfl⟩
     have e10 : (n : Int) / 1 = (z : Int) := by omega
     have e12 : IntKind.u8.wrap (n : Int) = ((UInt8.ofNat z).toNat : Int) := by rw [show n = z by omega]; exact u8_mod z
     have e11 := u8_mod z
     have HST : Hid ((bytesN 1 n).take (0 + 1) = (bytesN 1 n).take 0 ++ [UInt8.ofNat z]) := by show _ = _; rw [bytesN_take 1 n 0 (by decide), ← hz]
     clear hz
     go_wp2_with (at_builtin; refine wpList_append_u8 rfl (.tmp 45) (.tmp 52) 102 rfl w.heap.size 5 i0 Tryz.underlying102 hi hz0 hz1 hz2 _ (1 + 0) _ rfl (HO.out.alloc _) wr.heap.size 1 1 [UInt8.ofNat z] rfl rfl (cells_one (by simp)) (by decide) (by have := HB.out.size; simp; omega) ?_; intro v' w1 hown1 hgrow; have HO1 : Hid (w1.ownsRow w.heap.size 5 1 v' (1 + (0 + 1)) (bcells (UInt8.ofNat x :: (bytesN 1 n).take (0 + 1)))) := (by show World.ownsRow _ _ _ _ _ _ _; rw [HST.out]; exact hown1); have HB1 : Hid (Below w.heap.size w w1) := below_own (HB.out.alloc HB.out.size _) hgrow (by have := HB.out.size; simp; omega) (HO.out.alloc _); clear hown1 hgrow)
     go_roundw
     case rel => exact ⟨1, .inr (⟨rfl, rfl⟩), HO1, HB1⟩
     case measure => simp [intOf]
    ·have HL : Hid (bcells (UInt8.ofNat x :: (bytesN 1 n).take 1) = bcells (hdN k n)) := by
      show _ = _
      rw [List.take_of_length_le (by rw [bytesN_length]; exact nle _), HF.out]
     have hO := HO.out
     rw [HL.out] at hO
     have hcv := run_convert_own (P := Tryz.prog) hO 102 9 Tryz.underlying102 Tryz.underlying5 Tryz.underlying9
     clear hO
     go_wp2_with fail
     go_ret
     exact ⟨_, rfl, tl_mk _, HB.out⟩
theorem rhead_2 (k n : Nat) (hk : k < 8) (hlo : 256 ≤ n) (hhi : n < 65536) (w : World) : Calls Tryz.prog 48 #[.int .i64 (k : Int), .int .u64 (n : Int)] w (RetS (hdN k n) w) := by
 obtain ⟨i0, hi, hz0, hz1, hz2⟩ := info_parts info5
 obtain ⟨f, hf⟩ : ∃ f, 32 * k = f := ⟨_, rfl⟩
 have e1 : 32 * (k : Int) = (f : Int) := by omega
 have e2 : IntKind.i64.wrap (f : Int) = (f : Int) := wrap_fit f (by unfold maxLen; omega)
 have p24 : ¬ (n : Int) < 24 := by omega
 have p256 : (256 : Int) ≤ (n : Int) := by omega
 have p65536 : ¬ (65536 : Int) ≤ (n : Int) := by omega
 have q65536 : decide ((65536 : Int) ≤ (n : Int)) = false := dfa p65536
 obtain ⟨x, hx⟩ : ∃ x, f + 25 = x := ⟨_, rfl⟩
 have e6 : (f : Int) + 25 = (x : Int) := by omega
 have e8 : IntKind.i64.wrap (x : Int) = (x : Int) := wrap_fit x (by unfold maxLen; omega)
 have e7 : IntKind.u8.wrap (x : Int) = (x : Int) := u8_in x (by omega)
 have HF : Hid (hdN k n = UInt8.ofNat x :: bytesN 2 n) := by
  have h1 : infN n = 25 := by rw [infN]; simp only [if_neg (show ¬ n < 24 by omega), if_neg (show ¬ n < 256 by omega), if_pos (show n < 65536 by omega)]
  have h2 : widN n = 2 := by rw [widN]; simp only [if_neg (show ¬ n < 24 by omega), if_neg (show ¬ n < 256 by omega), if_pos (show n < 65536 by omega)]
  show hdN k n = _
  rw [hdN, h1, h2, ← hx, ← hf]
 have e9 : (x : Int) = ((UInt8.ofNat x).toNat : Int) := by simp; omega
 have HO0 : Hid ((w.alloc (Obj.cells #[.int .u8 (x : Int)] 5)).ownsRow w.heap.size 5 1 (.slice (some ⟨w.heap.size, 0, none⟩) 1 1) 1 (bcells (UInt8.ofNat x :: (bytesN 2 n).take 0))) := by
  have h1 := World.ownsRow_lit (base := w.heap.size) (e := 5) (size := 1) w #[Value.int .u8 (x : Int)] 1 (nle _) (by decide) rfl
  have h2 : bcells (UInt8.ofNat x :: (bytesN 2 n).take 0) = (#[Value.int .u8 (x : Int)]).toList := by
   rw [List.take_zero, e9]
   rfl
  rw [h2]
  exact h1
 have HB0 : Hid (Below w.heap.size w (w.alloc (Obj.cells #[.int .u8 (x : Int)] 5))) := (Below.refl _ _).alloc (nle _) _
 clear hf hx e9 hk hlo
 go_enter Tryz.func48, Tryz.ntmps48
 go_wp2_with fail
 go_loopw [5, 6] (fun va vb wr => ((va = .int .i64 1 ∧ vb = .int .i64 24) ∨ (va = .int .i64 2 ∧ vb = .int .i64 25)) ∧ wr = w) (fun va _ _ => 2 - (intOf va).toNat)
 case atStart => exact ⟨.inl ⟨rfl, rfl⟩, rfl⟩
 case round =>
  obtain ⟨hv, hw9⟩ := hrel
  have hw9 := hw9.symm
  subst hw9
  rcases hv with ⟨rfl, rfl⟩ | ⟨rfl, rfl⟩
  ·go_wp2_with fail
   go_roundw
   case rel => exact ⟨.inr (⟨rfl, rfl⟩), by first | rfl | trivial⟩
   case measure => simp [intOf]
  ·go_wp2_with fail
   go_loopw [7, 8] (fun vo vi wr2 => ∃ i : Nat, ((i = 0 ∧ vi = .int .i64 (1)) ∨ (i = 1 ∧ vi = .int .i64 (0)) ∨ (i = 2 ∧ vi = .int .i64 (-1))) ∧ Hid (wr2.ownsRow w.heap.size 5 1 vo (1 + i) (bcells (UInt8.ofNat x :: (bytesN 2 n).take i))) ∧ Hid (Below w.heap.size w wr2)) (fun _ vi _ => ((intOf vi) + 1).toNat)
   case atStart => exact ⟨0, .inl ⟨rfl, rfl⟩, HO0, HB0⟩
   case round =>
    obtain ⟨i, hv, HO, HB⟩ := hrel
    clear HO0 HB0
    rcases hv with ⟨rfl, rfl⟩ | ⟨rfl, rfl⟩ | ⟨rfl, rfl⟩
    ·obtain ⟨z, hz⟩ : ∃ z, n / 256 = z := ⟨_, rfl⟩
     have e10 : (n : Int) / 256 = (z : Int) := by omega
     have e11 := u8_mod z
     have HST : Hid ((bytesN 2 n).take (0 + 1) = (bytesN 2 n).take 0 ++ [UInt8.ofNat z]) := by show _ = _; rw [bytesN_take 2 n 0 (by decide), ← hz]
     clear hz
     go_wp2_with (at_builtin; refine wpList_append_u8 rfl (.tmp 45) (.tmp 52) 102 rfl w.heap.size 5 i0 Tryz.underlying102 hi hz0 hz1 hz2 _ (1 + 0) _ rfl (HO.out.alloc _) wr.heap.size 1 1 [UInt8.ofNat z] rfl rfl (cells_one (by simp)) (by decide) (by have := HB.out.size; simp; omega) ?_; intro v' w1 hown1 hgrow; have HO1 : Hid (w1.ownsRow w.heap.size 5 1 v' (1 + (0 + 1)) (bcells (UInt8.ofNat x :: (bytesN 2 n).take (0 + 1)))) := (by show World.ownsRow _ _ _ _ _ _ _; rw [HST.out]; exact hown1); have HB1 : Hid (Below w.heap.size w w1) := below_own (HB.out.alloc HB.out.size _) hgrow (by have := HB.out.size; simp; omega) (HO.out.alloc _); clear hown1 hgrow)
     go_roundw
     case rel => exact ⟨1, .inr (.inl ⟨rfl, rfl⟩), HO1, HB1⟩
     case measure => simp [intOf]
    ·obtain ⟨z, hz⟩ : ∃ z, n / 1 = z := ⟨_, rfl⟩
     have e10 : (n : Int) / 1 = (z : Int) := by omega
     have e12 : IntKind.u8.wrap (n : Int) = ((UInt8.ofNat z).toNat : Int) := by rw [show n = z by omega]; exact u8_mod z
     have e11 := u8_mod z
     have HST : Hid ((bytesN 2 n).take (1 + 1) = (bytesN 2 n).take 1 ++ [UInt8.ofNat z]) := by show _ = _; rw [bytesN_take 2 n 1 (by decide), ← hz]
     clear hz
     go_wp2_with (at_builtin; refine wpList_append_u8 rfl (.tmp 45) (.tmp 52) 102 rfl w.heap.size 5 i0 Tryz.underlying102 hi hz0 hz1 hz2 _ (1 + 1) _ rfl (HO.out.alloc _) wr.heap.size 1 1 [UInt8.ofNat z] rfl rfl (cells_one (by simp)) (by decide) (by have := HB.out.size; simp; omega) ?_; intro v' w1 hown1 hgrow; have HO1 : Hid (w1.ownsRow w.heap.size 5 1 v' (1 + (1 + 1)) (bcells (UInt8.ofNat x :: (bytesN 2 n).take (1 + 1)))) := (by show World.ownsRow _ _ _ _ _ _ _; rw [HST.out]; exact hown1); have HB1 : Hid (Below w.heap.size w w1) := below_own (HB.out.alloc HB.out.size _) hgrow (by have := HB.out.size; simp; omega) (HO.out.alloc _); clear hown1 hgrow)
     go_roundw
     case rel => exact ⟨2, .inr (.inr (⟨rfl, rfl⟩)), HO1, HB1⟩
     case measure => simp [intOf]
    ·have HL : Hid (bcells (UInt8.ofNat x :: (bytesN 2 n).take 2) = bcells (hdN k n)) := by
      show _ = _
      rw [List.take_of_length_le (by rw [bytesN_length]; exact nle _), HF.out]
     have hO := HO.out
     rw [HL.out] at hO
     have hcv := run_convert_own (P := Tryz.prog) hO 102 9 Tryz.underlying102 Tryz.underlying5 Tryz.underlying9
     clear hO
     go_wp2_with fail
     go_ret
     exact ⟨_, rfl, tl_mk _, HB.out⟩
theorem rhead_4 (k n : Nat) (hk : k < 8) (hlo : 65536 ≤ n) (hhi : n < 4294967296) (w : World) : Calls Tryz.prog 48 #[.int .i64 (k : Int), .int .u64 (n : Int)] w (RetS (hdN k n) w) := by
 obtain ⟨i0, hi, hz0, hz1, hz2⟩ := info_parts info5
 obtain ⟨f, hf⟩ : ∃ f, 32 * k = f := ⟨_, rfl⟩
 have e1 : 32 * (k : Int) = (f : Int) := by omega
 have e2 : IntKind.i64.wrap (f : Int) = (f : Int) := wrap_fit f (by unfold maxLen; omega)
 have p24 : ¬ (n : Int) < 24 := by omega
 have p256 : (256 : Int) ≤ (n : Int) := by omega
 have p65536 : (65536 : Int) ≤ (n : Int) := by omega
 have p4294967296 : ¬ (4294967296 : Int) ≤ (n : Int) := by omega
 have q4294967296 : decide ((4294967296 : Int) ≤ (n : Int)) = false := dfa p4294967296
 obtain ⟨x, hx⟩ : ∃ x, f + 26 = x := ⟨_, rfl⟩
 have e6 : (f : Int) + 26 = (x : Int) := by omega
 have e8 : IntKind.i64.wrap (x : Int) = (x : Int) := wrap_fit x (by unfold maxLen; omega)
 have e7 : IntKind.u8.wrap (x : Int) = (x : Int) := u8_in x (by omega)
 have HF : Hid (hdN k n = UInt8.ofNat x :: bytesN 4 n) := by
  have h1 : infN n = 26 := by rw [infN]; simp only [if_neg (show ¬ n < 24 by omega), if_neg (show ¬ n < 256 by omega), if_neg (show ¬ n < 65536 by omega), if_pos (show n < 4294967296 by omega)]
  have h2 : widN n = 4 := by rw [widN]; simp only [if_neg (show ¬ n < 24 by omega), if_neg (show ¬ n < 256 by omega), if_neg (show ¬ n < 65536 by omega), if_pos (show n < 4294967296 by omega)]
  show hdN k n = _
  rw [hdN, h1, h2, ← hx, ← hf]
 have e9 : (x : Int) = ((UInt8.ofNat x).toNat : Int) := by simp; omega
 have HO0 : Hid ((w.alloc (Obj.cells #[.int .u8 (x : Int)] 5)).ownsRow w.heap.size 5 1 (.slice (some ⟨w.heap.size, 0, none⟩) 1 1) 1 (bcells (UInt8.ofNat x :: (bytesN 4 n).take 0))) := by
  have h1 := World.ownsRow_lit (base := w.heap.size) (e := 5) (size := 1) w #[Value.int .u8 (x : Int)] 1 (nle _) (by decide) rfl
  have h2 : bcells (UInt8.ofNat x :: (bytesN 4 n).take 0) = (#[Value.int .u8 (x : Int)]).toList := by
   rw [List.take_zero, e9]
   rfl
  rw [h2]
  exact h1
 have HB0 : Hid (Below w.heap.size w (w.alloc (Obj.cells #[.int .u8 (x : Int)] 5))) := (Below.refl _ _).alloc (nle _) _
 clear hf hx e9 hk hlo
 go_enter Tryz.func48, Tryz.ntmps48
 go_wp2_with fail
 go_loopw [5, 6] (fun va vb wr => ((va = .int .i64 1 ∧ vb = .int .i64 24) ∨ (va = .int .i64 2 ∧ vb = .int .i64 25) ∨ (va = .int .i64 4 ∧ vb = .int .i64 26)) ∧ wr = w) (fun va _ _ => 4 - (intOf va).toNat)
 case atStart => exact ⟨.inl ⟨rfl, rfl⟩, rfl⟩
 case round =>
  obtain ⟨hv, hw9⟩ := hrel
  have hw9 := hw9.symm
  subst hw9
  rcases hv with ⟨rfl, rfl⟩ | ⟨rfl, rfl⟩ | ⟨rfl, rfl⟩
  ·go_wp2_with fail
   go_roundw
   case rel => exact ⟨.inr (.inl ⟨rfl, rfl⟩), by first | rfl | trivial⟩
   case measure => simp [intOf]
  ·go_wp2_with fail
   go_roundw
   case rel => exact ⟨.inr (.inr (⟨rfl, rfl⟩)), by first | rfl | trivial⟩
   case measure => simp [intOf]
  ·go_wp2_with fail
   go_loopw [7, 8] (fun vo vi wr2 => ∃ i : Nat, ((i = 0 ∧ vi = .int .i64 (3)) ∨ (i = 1 ∧ vi = .int .i64 (2)) ∨ (i = 2 ∧ vi = .int .i64 (1)) ∨ (i = 3 ∧ vi = .int .i64 (0)) ∨ (i = 4 ∧ vi = .int .i64 (-1))) ∧ Hid (wr2.ownsRow w.heap.size 5 1 vo (1 + i) (bcells (UInt8.ofNat x :: (bytesN 4 n).take i))) ∧ Hid (Below w.heap.size w wr2)) (fun _ vi _ => ((intOf vi) + 1).toNat)
   case atStart => exact ⟨0, .inl ⟨rfl, rfl⟩, HO0, HB0⟩
   case round =>
    obtain ⟨i, hv, HO, HB⟩ := hrel
    clear HO0 HB0
    rcases hv with ⟨rfl, rfl⟩ | ⟨rfl, rfl⟩ | ⟨rfl, rfl⟩ | ⟨rfl, rfl⟩ | ⟨rfl, rfl⟩
    ·obtain ⟨z, hz⟩ : ∃ z, n / 16777216 = z := ⟨_, rfl⟩
     have e10 : (n : Int) / 16777216 = (z : Int) := by omega
     have e11 := u8_mod z
     have HST : Hid ((bytesN 4 n).take (0 + 1) = (bytesN 4 n).take 0 ++ [UInt8.ofNat z]) := by show _ = _; rw [bytesN_take 4 n 0 (by decide), ← hz]
     clear hz
     go_wp2_with (at_builtin; refine wpList_append_u8 rfl (.tmp 45) (.tmp 52) 102 rfl w.heap.size 5 i0 Tryz.underlying102 hi hz0 hz1 hz2 _ (1 + 0) _ rfl (HO.out.alloc _) wr.heap.size 1 1 [UInt8.ofNat z] rfl rfl (cells_one (by simp)) (by decide) (by have := HB.out.size; simp; omega) ?_; intro v' w1 hown1 hgrow; have HO1 : Hid (w1.ownsRow w.heap.size 5 1 v' (1 + (0 + 1)) (bcells (UInt8.ofNat x :: (bytesN 4 n).take (0 + 1)))) := (by show World.ownsRow _ _ _ _ _ _ _; rw [HST.out]; exact hown1); have HB1 : Hid (Below w.heap.size w w1) := below_own (HB.out.alloc HB.out.size _) hgrow (by have := HB.out.size; simp; omega) (HO.out.alloc _); clear hown1 hgrow)
     go_roundw
     case rel => exact ⟨1, .inr (.inl ⟨rfl, rfl⟩), HO1, HB1⟩
     case measure => simp [intOf]
    ·obtain ⟨z, hz⟩ : ∃ z, n / 65536 = z := ⟨_, rfl⟩
     have e10 : (n : Int) / 65536 = (z : Int) := by omega
     have e11 := u8_mod z
     have HST : Hid ((bytesN 4 n).take (1 + 1) = (bytesN 4 n).take 1 ++ [UInt8.ofNat z]) := by show _ = _; rw [bytesN_take 4 n 1 (by decide), ← hz]
     clear hz
     go_wp2_with (at_builtin; refine wpList_append_u8 rfl (.tmp 45) (.tmp 52) 102 rfl w.heap.size 5 i0 Tryz.underlying102 hi hz0 hz1 hz2 _ (1 + 1) _ rfl (HO.out.alloc _) wr.heap.size 1 1 [UInt8.ofNat z] rfl rfl (cells_one (by simp)) (by decide) (by have := HB.out.size; simp; omega) ?_; intro v' w1 hown1 hgrow; have HO1 : Hid (w1.ownsRow w.heap.size 5 1 v' (1 + (1 + 1)) (bcells (UInt8.ofNat x :: (bytesN 4 n).take (1 + 1)))) := (by show World.ownsRow _ _ _ _ _ _ _; rw [HST.out]; exact hown1); have HB1 : Hid (Below w.heap.size w w1) := below_own (HB.out.alloc HB.out.size _) hgrow (by have := HB.out.size; simp; omega) (HO.out.alloc _); clear hown1 hgrow)
     go_roundw
     case rel => exact ⟨2, .inr (.inr (.inl ⟨rfl, rfl⟩)), HO1, HB1⟩
     case measure => simp [intOf]
    ·obtain ⟨z, hz⟩ : ∃ z, n / 256 = z := ⟨_, rfl⟩
     have e10 : (n : Int) / 256 = (z : Int) := by omega
     have e11 := u8_mod z
     have HST : Hid ((bytesN 4 n).take (2 + 1) = (bytesN 4 n).take 2 ++ [UInt8.ofNat z]) := by show _ = _; rw [bytesN_take 4 n 2 (by decide), ← hz]
     clear hz
     go_wp2_with (at_builtin; refine wpList_append_u8 rfl (.tmp 45) (.tmp 52) 102 rfl w.heap.size 5 i0 Tryz.underlying102 hi hz0 hz1 hz2 _ (1 + 2) _ rfl (HO.out.alloc _) wr.heap.size 1 1 [UInt8.ofNat z] rfl rfl (cells_one (by simp)) (by decide) (by have := HB.out.size; simp; omega) ?_; intro v' w1 hown1 hgrow; have HO1 : Hid (w1.ownsRow w.heap.size 5 1 v' (1 + (2 + 1)) (bcells (UInt8.ofNat x :: (bytesN 4 n).take (2 + 1)))) := (by show World.ownsRow _ _ _ _ _ _ _; rw [HST.out]; exact hown1); have HB1 : Hid (Below w.heap.size w w1) := below_own (HB.out.alloc HB.out.size _) hgrow (by have := HB.out.size; simp; omega) (HO.out.alloc _); clear hown1 hgrow)
     go_roundw
     case rel => exact ⟨3, .inr (.inr (.inr (.inl ⟨rfl, rfl⟩))), HO1, HB1⟩
     case measure => simp [intOf]
    ·obtain ⟨z, hz⟩ : ∃ z, n / 1 = z := ⟨_, rfl⟩
     have e10 : (n : Int) / 1 = (z : Int) := by omega
     have e12 : IntKind.u8.wrap (n : Int) = ((UInt8.ofNat z).toNat : Int) := by rw [show n = z by omega]; exact u8_mod z
     have e11 := u8_mod z
     have HST : Hid ((bytesN 4 n).take (3 + 1) = (bytesN 4 n).take 3 ++ [UInt8.ofNat z]) := by show _ = _; rw [bytesN_take 4 n 3 (by decide), ← hz]
     clear hz
     go_wp2_with (at_builtin; refine wpList_append_u8 rfl (.tmp 45) (.tmp 52) 102 rfl w.heap.size 5 i0 Tryz.underlying102 hi hz0 hz1 hz2 _ (1 + 3) _ rfl (HO.out.alloc _) wr.heap.size 1 1 [UInt8.ofNat z] rfl rfl (cells_one (by simp)) (by decide) (by have := HB.out.size; simp; omega) ?_; intro v' w1 hown1 hgrow; have HO1 : Hid (w1.ownsRow w.heap.size 5 1 v' (1 + (3 + 1)) (bcells (UInt8.ofNat x :: (bytesN 4 n).take (3 + 1)))) := (by show World.ownsRow _ _ _ _ _ _ _; rw [HST.out]; exact hown1); have HB1 : Hid (Below w.heap.size w w1) := below_own (HB.out.alloc HB.out.size _) hgrow (by have := HB.out.size; simp; omega) (HO.out.alloc _); clear hown1 hgrow)
     go_roundw
     case rel => exact ⟨4, .inr (.inr (.inr (.inr (⟨rfl, rfl⟩)))), HO1, HB1⟩
     case measure => simp [intOf]
    ·have HL : Hid (bcells (UInt8.ofNat x :: (bytesN 4 n).take 4) = bcells (hdN k n)) := by
      show _ = _
      rw [List.take_of_length_le (by rw [bytesN_length]; exact nle _), HF.out]
     have hO := HO.out
     rw [HL.out] at hO
     have hcv := run_convert_own (P := Tryz.prog) hO 102 9 Tryz.underlying102 Tryz.underlying5 Tryz.underlying9
     clear hO
     go_wp2_with fail
     go_ret
     exact ⟨_, rfl, tl_mk _, HB.out⟩
theorem rhead_8 (k n : Nat) (hk : k < 8) (hlo : 4294967296 ≤ n) (hhi : n < 18446744073709551616) (w : World) : Calls Tryz.prog 48 #[.int .i64 (k : Int), .int .u64 (n : Int)] w (RetS (hdN k n) w) := by
 obtain ⟨i0, hi, hz0, hz1, hz2⟩ := info_parts info5
 obtain ⟨f, hf⟩ : ∃ f, 32 * k = f := ⟨_, rfl⟩
 have e1 : 32 * (k : Int) = (f : Int) := by omega
 have e2 : IntKind.i64.wrap (f : Int) = (f : Int) := wrap_fit f (by unfold maxLen; omega)
 have p24 : ¬ (n : Int) < 24 := by omega
 have p256 : (256 : Int) ≤ (n : Int) := by omega
 have p65536 : (65536 : Int) ≤ (n : Int) := by omega
 have p4294967296 : (4294967296 : Int) ≤ (n : Int) := by omega
 obtain ⟨x, hx⟩ : ∃ x, f + 27 = x := ⟨_, rfl⟩
 have e6 : (f : Int) + 27 = (x : Int) := by omega
 have e8 : IntKind.i64.wrap (x : Int) = (x : Int) := wrap_fit x (by unfold maxLen; omega)
 have e7 : IntKind.u8.wrap (x : Int) = (x : Int) := u8_in x (by omega)
 have HF : Hid (hdN k n = UInt8.ofNat x :: bytesN 8 n) := by
  have h1 : infN n = 27 := by rw [infN]; simp only [if_neg (show ¬ n < 24 by omega), if_neg (show ¬ n < 256 by omega), if_neg (show ¬ n < 65536 by omega), if_neg (show ¬ n < 4294967296 by omega)]
  have h2 : widN n = 8 := by rw [widN]; simp only [if_neg (show ¬ n < 24 by omega), if_neg (show ¬ n < 256 by omega), if_neg (show ¬ n < 65536 by omega), if_neg (show ¬ n < 4294967296 by omega)]
  show hdN k n = _
  rw [hdN, h1, h2, ← hx, ← hf]
 have e9 : (x : Int) = ((UInt8.ofNat x).toNat : Int) := by simp; omega
 have HO0 : Hid ((w.alloc (Obj.cells #[.int .u8 (x : Int)] 5)).ownsRow w.heap.size 5 1 (.slice (some ⟨w.heap.size, 0, none⟩) 1 1) 1 (bcells (UInt8.ofNat x :: (bytesN 8 n).take 0))) := by
  have h1 := World.ownsRow_lit (base := w.heap.size) (e := 5) (size := 1) w #[Value.int .u8 (x : Int)] 1 (nle _) (by decide) rfl
  have h2 : bcells (UInt8.ofNat x :: (bytesN 8 n).take 0) = (#[Value.int .u8 (x : Int)]).toList := by
   rw [List.take_zero, e9]
   rfl
  rw [h2]
  exact h1
 have HB0 : Hid (Below w.heap.size w (w.alloc (Obj.cells #[.int .u8 (x : Int)] 5))) := (Below.refl _ _).alloc (nle _) _
 clear hf hx e9 hk hlo
 go_enter Tryz.func48, Tryz.ntmps48
 go_wp2_with fail
 go_loopw [5, 6] (fun va vb wr => ((va = .int .i64 1 ∧ vb = .int .i64 24) ∨ (va = .int .i64 2 ∧ vb = .int .i64 25) ∨ (va = .int .i64 4 ∧ vb = .int .i64 26) ∨ (va = .int .i64 8 ∧ vb = .int .i64 27)) ∧ wr = w) (fun va _ _ => 8 - (intOf va).toNat)
 case atStart => exact ⟨.inl ⟨rfl, rfl⟩, rfl⟩
 case round =>
  obtain ⟨hv, hw9⟩ := hrel
  have hw9 := hw9.symm
  subst hw9
  rcases hv with ⟨rfl, rfl⟩ | ⟨rfl, rfl⟩ | ⟨rfl, rfl⟩ | ⟨rfl, rfl⟩
  ·go_wp2_with fail
   go_roundw
   case rel => exact ⟨.inr (.inl ⟨rfl, rfl⟩), by first | rfl | trivial⟩
   case measure => simp [intOf]
  ·go_wp2_with fail
   go_roundw
   case rel => exact ⟨.inr (.inr (.inl ⟨rfl, rfl⟩)), by first | rfl | trivial⟩
   case measure => simp [intOf]
  ·go_wp2_with fail
   go_roundw
   case rel => exact ⟨.inr (.inr (.inr (⟨rfl, rfl⟩))), by first | rfl | trivial⟩
   case measure => simp [intOf]
  ·go_wp2_with fail
   go_loopw [7, 8] (fun vo vi wr2 => ∃ i : Nat, ((i = 0 ∧ vi = .int .i64 (7)) ∨ (i = 1 ∧ vi = .int .i64 (6)) ∨ (i = 2 ∧ vi = .int .i64 (5)) ∨ (i = 3 ∧ vi = .int .i64 (4)) ∨ (i = 4 ∧ vi = .int .i64 (3)) ∨ (i = 5 ∧ vi = .int .i64 (2)) ∨ (i = 6 ∧ vi = .int .i64 (1)) ∨ (i = 7 ∧ vi = .int .i64 (0)) ∨ (i = 8 ∧ vi = .int .i64 (-1))) ∧ Hid (wr2.ownsRow w.heap.size 5 1 vo (1 + i) (bcells (UInt8.ofNat x :: (bytesN 8 n).take i))) ∧ Hid (Below w.heap.size w wr2)) (fun _ vi _ => ((intOf vi) + 1).toNat)
   case atStart => exact ⟨0, .inl ⟨rfl, rfl⟩, HO0, HB0⟩
   case round =>
    obtain ⟨i, hv, HO, HB⟩ := hrel
    clear HO0 HB0
    rcases hv with ⟨rfl, rfl⟩ | ⟨rfl, rfl⟩ | ⟨rfl, rfl⟩ | ⟨rfl, rfl⟩ | ⟨rfl, rfl⟩ | ⟨rfl, rfl⟩ | ⟨rfl, rfl⟩ | ⟨rfl, rfl⟩ | ⟨rfl, rfl⟩
    ·obtain ⟨z, hz⟩ : ∃ z, n / 72057594037927936 = z := ⟨_, rfl⟩
     have e10 : (n : Int) / 72057594037927936 = (z : Int) := by omega
     have e11 := u8_mod z
     have HST : Hid ((bytesN 8 n).take (0 + 1) = (bytesN 8 n).take 0 ++ [UInt8.ofNat z]) := by show _ = _; rw [bytesN_take 8 n 0 (by decide), ← hz]
     clear hz
     go_wp2_with (at_builtin; refine wpList_append_u8 rfl (.tmp 45) (.tmp 52) 102 rfl w.heap.size 5 i0 Tryz.underlying102 hi hz0 hz1 hz2 _ (1 + 0) _ rfl (HO.out.alloc _) wr.heap.size 1 1 [UInt8.ofNat z] rfl rfl (cells_one (by simp)) (by decide) (by have := HB.out.size; simp; omega) ?_; intro v' w1 hown1 hgrow; have HO1 : Hid (w1.ownsRow w.heap.size 5 1 v' (1 + (0 + 1)) (bcells (UInt8.ofNat x :: (bytesN 8 n).take (0 + 1)))) := (by show World.ownsRow _ _ _ _ _ _ _; rw [HST.out]; exact hown1); have HB1 : Hid (Below w.heap.size w w1) := below_own (HB.out.alloc HB.out.size _) hgrow (by have := HB.out.size; simp; omega) (HO.out.alloc _); clear hown1 hgrow)
     go_roundw
     case rel => exact ⟨1, .inr (.inl ⟨rfl, rfl⟩), HO1, HB1⟩
     case measure => simp [intOf]
    ·obtain ⟨z, hz⟩ : ∃ z, n / 281474976710656 = z := ⟨_, rfl⟩
     have e10 : (n : Int) / 281474976710656 = (z : Int) := by omega
     have e11 := u8_mod z
     have HST : Hid ((bytesN 8 n).take (1 + 1) = (bytesN 8 n).take 1 ++ [UInt8.ofNat z]) := by show _ = _; rw [bytesN_take 8 n 1 (by decide), ← hz]
     clear hz
     go_wp2_with (at_builtin; refine wpList_append_u8 rfl (.tmp 45) (.tmp 52) 102 rfl w.heap.size 5 i0 Tryz.underlying102 hi hz0 hz1 hz2 _ (1 + 1) _ rfl (HO.out.alloc _) wr.heap.size 1 1 [UInt8.ofNat z] rfl rfl (cells_one (by simp)) (by decide) (by have := HB.out.size; simp; omega) ?_; intro v' w1 hown1 hgrow; have HO1 : Hid (w1.ownsRow w.heap.size 5 1 v' (1 + (1 + 1)) (bcells (UInt8.ofNat x :: (bytesN 8 n).take (1 + 1)))) := (by show World.ownsRow _ _ _ _ _ _ _; rw [HST.out]; exact hown1); have HB1 : Hid (Below w.heap.size w w1) := below_own (HB.out.alloc HB.out.size _) hgrow (by have := HB.out.size; simp; omega) (HO.out.alloc _); clear hown1 hgrow)
     go_roundw
     case rel => exact ⟨2, .inr (.inr (.inl ⟨rfl, rfl⟩)), HO1, HB1⟩
     case measure => simp [intOf]
    ·obtain ⟨z, hz⟩ : ∃ z, n / 1099511627776 = z := ⟨_, rfl⟩
     have e10 : (n : Int) / 1099511627776 = (z : Int) := by omega
     have e11 := u8_mod z
     have HST : Hid ((bytesN 8 n).take (2 + 1) = (bytesN 8 n).take 2 ++ [UInt8.ofNat z]) := by show _ = _; rw [bytesN_take 8 n 2 (by decide), ← hz]
     clear hz
     go_wp2_with (at_builtin; refine wpList_append_u8 rfl (.tmp 45) (.tmp 52) 102 rfl w.heap.size 5 i0 Tryz.underlying102 hi hz0 hz1 hz2 _ (1 + 2) _ rfl (HO.out.alloc _) wr.heap.size 1 1 [UInt8.ofNat z] rfl rfl (cells_one (by simp)) (by decide) (by have := HB.out.size; simp; omega) ?_; intro v' w1 hown1 hgrow; have HO1 : Hid (w1.ownsRow w.heap.size 5 1 v' (1 + (2 + 1)) (bcells (UInt8.ofNat x :: (bytesN 8 n).take (2 + 1)))) := (by show World.ownsRow _ _ _ _ _ _ _; rw [HST.out]; exact hown1); have HB1 : Hid (Below w.heap.size w w1) := below_own (HB.out.alloc HB.out.size _) hgrow (by have := HB.out.size; simp; omega) (HO.out.alloc _); clear hown1 hgrow)
     go_roundw
     case rel => exact ⟨3, .inr (.inr (.inr (.inl ⟨rfl, rfl⟩))), HO1, HB1⟩
     case measure => simp [intOf]
    ·obtain ⟨z, hz⟩ : ∃ z, n / 4294967296 = z := ⟨_, rfl⟩
     have e10 : (n : Int) / 4294967296 = (z : Int) := by omega
     have e11 := u8_mod z
     have HST : Hid ((bytesN 8 n).take (3 + 1) = (bytesN 8 n).take 3 ++ [UInt8.ofNat z]) := by show _ = _; rw [bytesN_take 8 n 3 (by decide), ← hz]
     clear hz
     go_wp2_with (at_builtin; refine wpList_append_u8 rfl (.tmp 45) (.tmp 52) 102 rfl w.heap.size 5 i0 Tryz.underlying102 hi hz0 hz1 hz2 _ (1 + 3) _ rfl (HO.out.alloc _) wr.heap.size 1 1 [UInt8.ofNat z] rfl rfl (cells_one (by simp)) (by decide) (by have := HB.out.size; simp; omega) ?_; intro v' w1 hown1 hgrow; have HO1 : Hid (w1.ownsRow w.heap.size 5 1 v' (1 + (3 + 1)) (bcells (UInt8.ofNat x :: (bytesN 8 n).take (3 + 1)))) := (by show World.ownsRow _ _ _ _ _ _ _; rw [HST.out]; exact hown1); have HB1 : Hid (Below w.heap.size w w1) := below_own (HB.out.alloc HB.out.size _) hgrow (by have := HB.out.size; simp; omega) (HO.out.alloc _); clear hown1 hgrow)
     go_roundw
     case rel => exact ⟨4, .inr (.inr (.inr (.inr (.inl ⟨rfl, rfl⟩)))), HO1, HB1⟩
     case measure => simp [intOf]
    ·obtain ⟨z, hz⟩ : ∃ z, n / 16777216 = z := ⟨_, rfl⟩
     have e10 : (n : Int) / 16777216 = (z : Int) := by omega
     have e11 := u8_mod z
     have HST : Hid ((bytesN 8 n).take (4 + 1) = (bytesN 8 n).take 4 ++ [UInt8.ofNat z]) := by show _ = _; rw [bytesN_take 8 n 4 (by decide), ← hz]
     clear hz
     go_wp2_with (at_builtin; refine wpList_append_u8 rfl (.tmp 45) (.tmp 52) 102 rfl w.heap.size 5 i0 Tryz.underlying102 hi hz0 hz1 hz2 _ (1 + 4) _ rfl (HO.out.alloc _) wr.heap.size 1 1 [UInt8.ofNat z] rfl rfl (cells_one (by simp)) (by decide) (by have := HB.out.size; simp; omega) ?_; intro v' w1 hown1 hgrow; have HO1 : Hid (w1.ownsRow w.heap.size 5 1 v' (1 + (4 + 1)) (bcells (UInt8.ofNat x :: (bytesN 8 n).take (4 + 1)))) := (by show World.ownsRow _ _ _ _ _ _ _; rw [HST.out]; exact hown1); have HB1 : Hid (Below w.heap.size w w1) := below_own (HB.out.alloc HB.out.size _) hgrow (by have := HB.out.size; simp; omega) (HO.out.alloc _); clear hown1 hgrow)
     go_roundw
     case rel => exact ⟨5, .inr (.inr (.inr (.inr (.inr (.inl ⟨rfl, rfl⟩))))), HO1, HB1⟩
     case measure => simp [intOf]
    ·obtain ⟨z, hz⟩ : ∃ z, n / 65536 = z := ⟨_, rfl⟩
     have e10 : (n : Int) / 65536 = (z : Int) := by omega
     have e11 := u8_mod z
     have HST : Hid ((bytesN 8 n).take (5 + 1) = (bytesN 8 n).take 5 ++ [UInt8.ofNat z]) := by show _ = _; rw [bytesN_take 8 n 5 (by decide), ← hz]
     clear hz
     go_wp2_with (at_builtin; refine wpList_append_u8 rfl (.tmp 45) (.tmp 52) 102 rfl w.heap.size 5 i0 Tryz.underlying102 hi hz0 hz1 hz2 _ (1 + 5) _ rfl (HO.out.alloc _) wr.heap.size 1 1 [UInt8.ofNat z] rfl rfl (cells_one (by simp)) (by decide) (by have := HB.out.size; simp; omega) ?_; intro v' w1 hown1 hgrow; have HO1 : Hid (w1.ownsRow w.heap.size 5 1 v' (1 + (5 + 1)) (bcells (UInt8.ofNat x :: (bytesN 8 n).take (5 + 1)))) := (by show World.ownsRow _ _ _ _ _ _ _; rw [HST.out]; exact hown1); have HB1 : Hid (Below w.heap.size w w1) := below_own (HB.out.alloc HB.out.size _) hgrow (by have := HB.out.size; simp; omega) (HO.out.alloc _); clear hown1 hgrow)
     go_roundw
     case rel => exact ⟨6, .inr (.inr (.inr (.inr (.inr (.inr (.inl ⟨rfl, rfl⟩)))))), HO1, HB1⟩
     case measure => simp [intOf]
    ·obtain ⟨z, hz⟩ : ∃ z, n / 256 = z := ⟨_, rfl⟩
     have e10 : (n : Int) / 256 = (z : Int) := by omega
     have e11 := u8_mod z
     have HST : Hid ((bytesN 8 n).take (6 + 1) = (bytesN 8 n).take 6 ++ [UInt8.ofNat z]) := by show _ = _; rw [bytesN_take 8 n 6 (by decide), ← hz]
     clear hz
     go_wp2_with (at_builtin; refine wpList_append_u8 rfl (.tmp 45) (.tmp 52) 102 rfl w.heap.size 5 i0 Tryz.underlying102 hi hz0 hz1 hz2 _ (1 + 6) _ rfl (HO.out.alloc _) wr.heap.size 1 1 [UInt8.ofNat z] rfl rfl (cells_one (by simp)) (by decide) (by have := HB.out.size; simp; omega) ?_; intro v' w1 hown1 hgrow; have HO1 : Hid (w1.ownsRow w.heap.size 5 1 v' (1 + (6 + 1)) (bcells (UInt8.ofNat x :: (bytesN 8 n).take (6 + 1)))) := (by show World.ownsRow _ _ _ _ _ _ _; rw [HST.out]; exact hown1); have HB1 : Hid (Below w.heap.size w w1) := below_own (HB.out.alloc HB.out.size _) hgrow (by have := HB.out.size; simp; omega) (HO.out.alloc _); clear hown1 hgrow)
     go_roundw
     case rel => exact ⟨7, .inr (.inr (.inr (.inr (.inr (.inr (.inr (.inl ⟨rfl, rfl⟩))))))), HO1, HB1⟩
     case measure => simp [intOf]
    ·obtain ⟨z, hz⟩ : ∃ z, n / 1 = z := ⟨_, rfl⟩
     have e10 : (n : Int) / 1 = (z : Int) := by omega
     have e12 : IntKind.u8.wrap (n : Int) = ((UInt8.ofNat z).toNat : Int) := by rw [show n = z by omega]; exact u8_mod z
     have e11 := u8_mod z
     have HST : Hid ((bytesN 8 n).take (7 + 1) = (bytesN 8 n).take 7 ++ [UInt8.ofNat z]) := by show _ = _; rw [bytesN_take 8 n 7 (by decide), ← hz]
     clear hz
     go_wp2_with (at_builtin; refine wpList_append_u8 rfl (.tmp 45) (.tmp 52) 102 rfl w.heap.size 5 i0 Tryz.underlying102 hi hz0 hz1 hz2 _ (1 + 7) _ rfl (HO.out.alloc _) wr.heap.size 1 1 [UInt8.ofNat z] rfl rfl (cells_one (by simp)) (by decide) (by have := HB.out.size; simp; omega) ?_; intro v' w1 hown1 hgrow; have HO1 : Hid (w1.ownsRow w.heap.size 5 1 v' (1 + (7 + 1)) (bcells (UInt8.ofNat x :: (bytesN 8 n).take (7 + 1)))) := (by show World.ownsRow _ _ _ _ _ _ _; rw [HST.out]; exact hown1); have HB1 : Hid (Below w.heap.size w w1) := below_own (HB.out.alloc HB.out.size _) hgrow (by have := HB.out.size; simp; omega) (HO.out.alloc _); clear hown1 hgrow)
     go_roundw
     case rel => exact ⟨8, .inr (.inr (.inr (.inr (.inr (.inr (.inr (.inr (⟨rfl, rfl⟩)))))))), HO1, HB1⟩
     case measure => simp [intOf]
    ·have HL : Hid (bcells (UInt8.ofNat x :: (bytesN 8 n).take 8) = bcells (hdN k n)) := by
      show _ = _
      rw [List.take_of_length_le (by rw [bytesN_length]; exact nle _), HF.out]
     have hO := HO.out
     rw [HL.out] at hO
     have hcv := run_convert_own (P := Tryz.prog) hO 102 9 Tryz.underlying102 Tryz.underlying5 Tryz.underlying9
     clear hO
     go_wp2_with fail
     go_ret
     exact ⟨_, rfl, tl_mk _, HB.out⟩
theorem rhead_any (k n : Nat) (hk : k < 8) (hn : n < 18446744073709551616) (w : World) : Calls Tryz.prog 48 #[.int .i64 (k : Int), .int .u64 (n : Int)] w (RetS (hdN k n) w) := by
 by_cases h1 : n < 24
 ·exact rhead_short k n hk h1 w
 by_cases h2 : n < 256
 ·exact rhead_1 k n hk (by omega) h2 w
 by_cases h3 : n < 65536
 ·exact rhead_2 k n hk (by omega) h3 w
 by_cases h4 : n < 4294967296
 ·exact rhead_4 k n hk (by omega) h4 w
 ·exact rhead_8 k n hk (by omega) hn w
end Co
end Go.Proofs.YtikgonlhdkknkaaGreatDoor
