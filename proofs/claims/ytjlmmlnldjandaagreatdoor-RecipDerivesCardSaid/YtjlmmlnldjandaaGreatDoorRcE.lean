/- wakes of layer 22. -/
import Derived.Test.YtjlmmlnldjandaaGreatDoorRcC
namespace Go.Proofs.YtjlmmlnldjandaaGreatDoor
open Go.RowKit
set_option linter.unusedVariables false
set_option linter.unusedSimpArgs false
theorem lockL_length (K V T F : List UInt8) (h : lockE K.length V.length T.length F.length = 0) : (lockL K V T F).length = laidN T.length := by
  obtain ⟨hw, h3, h255, hf⟩ := lock_zero h
  have hg := laidN_ge T.length
  have h272 := hg.2.2.2 h255
  have hs := fill_sum T.length
  have hl : (lockT T F).length = laidN T.length := by rw [lockT_length T F h3, hf]; exact hs
  have hl1 := (chain_back K V (lockT T F) (wro_cbg hw (by omega) (by omega))).1
  rw [hl] at hl1
  have hLl : (lastB (lockO K V T F)).length = 16 := by rw [lastB, List.length_drop, lockO, hl1]; omega
  have hl2 := (chain_back K (lastB (lockO K V T F)) (lockO K V T F) (by rw [hLl]; exact wro_cbg (wro_key hw) (by rw [lockO, hl1]; omega) (by rw [lockO, hl1]; omega))).1
  rw [lockL, if_pos h, hl2, lockO, hl1]
set_option maxRecDepth 100000 in
set_option maxHeartbeats 3200000 in
theorem wakes22_any (w : World) : Calls Tryz.prog 20 #[] w (RetT w) := by
  have hE : lockE (ByteArray.mk #[48, 49, 50, 51, 52, 53, 54, 55, 56, 57, 97, 98, 99, 100, 101, 102]).size (ByteArray.mk #[48, 49, 50, 51, 52, 53, 54, 55, 56, 57, 97, 98, 99, 100, 101, 102]).size (ByteArray.mk #[48, 49, 50, 51, 52, 53, 54, 55, 56, 57, 97, 98, 99, 100, 101, 102]).size (ByteArray.mk #[102, 105, 108, 108, 101, 100, 32, 117, 112, 32, 105, 116]).size = 0 := by decide
  have hE2 : lockE (ByteArray.mk #[48, 49, 50, 51, 52, 53, 54, 55, 56, 57, 97, 98, 99, 100, 101, 102]).toList.length (ByteArray.mk #[48, 49, 50, 51, 52, 53, 54, 55, 56, 57, 97, 98, 99, 100, 101, 102]).toList.length (ByteArray.mk #[48, 49, 50, 51, 52, 53, 54, 55, 56, 57, 97, 98, 99, 100, 101, 102]).toList.length (ByteArray.mk #[102, 105, 108, 108, 101, 100, 32, 117, 112, 32, 105, 116]).toList.length = 0 := by rw [tl_size, tl_size]; exact hE
  have hbk := lock_back _ _ _ _ hE2
  have hll := lockL_length _ _ _ _ hE2
  rw [tl_size, show laidN (ByteArray.mk #[48, 49, 50, 51, 52, 53, 54, 55, 56, 57, 97, 98, 99, 100, 101, 102]).size = 32 by decide] at hll
  have FI := Lib.hid (fun w => rcFill_any 16 w)
  unfold RetFl at FI
  rw [show fillV 16 = 12 by decide, show fillE 16 = 0 by decide] at FI
  have LK := Lib.hid (fun w => rcLock_any (ByteArray.mk #[48, 49, 50, 51, 52, 53, 54, 55, 56, 57, 97, 98, 99, 100, 101, 102]) (ByteArray.mk #[48, 49, 50, 51, 52, 53, 54, 55, 56, 57, 97, 98, 99, 100, 101, 102]) (ByteArray.mk #[48, 49, 50, 51, 52, 53, 54, 55, 56, 57, 97, 98, 99, 100, 101, 102]) (ByteArray.mk #[102, 105, 108, 108, 101, 100, 32, 117, 112, 32, 105, 116]) w)
  rw [hE] at LK
  have UL := Lib.hid (fun s hz w => rcUnlock_any (ByteArray.mk #[48, 49, 50, 51, 52, 53, 54, 55, 56, 57, 97, 98, 99, 100, 101, 102]) (ByteArray.mk #[48, 49, 50, 51, 52, 53, 54, 55, 56, 57, 97, 98, 99, 100, 101, 102]) s hz w)
  have HBK := Lib.hid hbk
  have HLL := Lib.hid hll
  clear hE hE2 hbk hll
  go_enter Tryz.func20, Tryz.ntmps20
  go_wp2_with fail
  refine (FI.out _).mono ?_
  rintro e w1 ⟨rfl, rfl⟩
  go_wp2_with fail
  refine (LK.out _).mono ?_
  rintro e w2 ⟨s, rfl, hs, hb2⟩
  have hss : s.size = 32 := by rw [← tl_size, hs]; exact HLL.out
  have hs2 : ((s.size : Int) == 32) = true := by rw [beq_iff_eq]; omega
  have UL2 := UL.out s (by omega) w2
  rw [hs, HBK.out.1, HBK.out.2] at UL2
  clear hs hss
  go_wp2_with fail
  refine UL2.mono ?_
  rintro e w3 ⟨t, rfl, ht, hb3⟩
  obtain rfl := tl_inj ht
  clear ht UL2
  go_wp2_with fail
  go_ret
  exact ⟨rfl, below2 hb2 hb3⟩
end Go.Proofs.YtjlmmlnldjandaaGreatDoor
