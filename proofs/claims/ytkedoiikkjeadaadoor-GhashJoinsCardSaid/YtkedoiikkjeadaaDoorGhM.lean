/- The walk of GhashField (where the table is laid). -/
import Derived.Test.YtkedoiikkjeadaaDoorGhJ
import Derived.Test.YtkedoiikkjeadaaDoorGhK
import Derived.Test.YtkedoiikkjeadaaDoorOctC
namespace Go.Proofs.YtkedoiikkjeadaaDoor
open Go.RowKit
set_option linter.unusedVariables false
set_option linter.unusedSimpArgs false
theorem gmul16 (a b : ByteArray) (ha : a.size = 16) (hb : b.size = 16) (w : World) (hF : Fal w) : Calls Tryd.prog 14 #[.string a, .string b] w (RetSE (gmL a.toList b.toList) 0 w) := by
  have h := gmul_any a b w hF
  have hok : gmOk a.toList b.toList = true := by rw [gmOk, tl_size, tl_size, ha, hb]; rfl
  rwa [gmT, gmE, hok, if_pos rfl, if_pos rfl] at h
set_option maxRecDepth 100000 in
theorem lxor8_any (a b : ByteArray) (w : World) (ha : a.size ≤ 140737488351232) (hb : b.size ≤ 140737488351232) :
    Calls Tryd.prog 16 #[.string a, .string b] w (RetS (xorL a.toList b.toList) w) := by
  have HX := Lib.hid (fun w => rxor_any a b w ha hb)
  clear ha hb
  go_enter Tryd.func16, Tryd.ntmps16
  go_wp2_with fail
  refine (HX.out _).mono ?_
  rintro e w1 ⟨s, rfl, hs, hb1⟩
  have HS := Lib.hid hs
  clear hs
  go_wp2_with fail
  go_ret
  exact ⟨_, rfl, HS.out, hb1⟩
theorem lxor16 (a b : ByteArray) (w : World) (ha : a.size = 16) (hb : b.size = 16) :
    Calls Tryd.prog 16 #[.string a, .string b] w (RetS (xorL a.toList b.toList) w) := lxor8_any a b w (by omega) (by omega)
theorem sz_gm {s : ByteArray} {A B : List UInt8} (h : s.toList = gmL A B) : s.size = 16 := by rw [← tl_size, h, gmL_length]
theorem sz_xor {s : ByteArray} {A B : List UInt8} (h : s.toList = xorL A B) (hA : A.length = 16) (hB : B.length = 16) : s.size = 16 := by rw [← tl_size, h, xorL_len, hA, hB]; rfl
set_option maxRecDepth 100000 in
theorem ghashField_walk (a b c : ByteArray) (w : World) (hF : Fal w) : Calls Tryd.prog 4 #[.string a, .string b, .string c] w (RetT w) := by
  have HF := Lib.hid hF
  clear hF
  by_cases ha : a.size = 16
  rotate_left
  · have e1 : ((a.size : Int) != 16) = true := by rw [bne_iff_ne]; omega
    go_enter Tryd.func4, Tryd.ntmps4
    go_wp2_with fail
    refine (wakes8_any _ HF.out).mono ?_
    rintro e w1 ⟨rfl, hb1⟩
    go_wp2_with fail
    go_ret
    exact ⟨rfl, hb1⟩
  by_cases hb : b.size = 16
  rotate_left
  · have e1 : ((a.size : Int) != 16) = false := by rw [ha]; rfl
    have e2 : ((b.size : Int) != 16) = true := by rw [bne_iff_ne]; omega
    go_enter Tryd.func4, Tryd.ntmps4
    go_wp2_with fail
    refine (wakes8_any _ HF.out).mono ?_
    rintro e w1 ⟨rfl, hb1⟩
    go_wp2_with fail
    go_ret
    exact ⟨rfl, hb1⟩
  by_cases hc : c.size = 16
  rotate_left
  · have e1 : ((a.size : Int) != 16) = false := by rw [ha]; rfl
    have e2 : ((b.size : Int) != 16) = false := by rw [hb]; rfl
    have e3 : ((c.size : Int) != 16) = true := by rw [bne_iff_ne]; omega
    go_enter Tryd.func4, Tryd.ntmps4
    go_wp2_with fail
    refine (wakes8_any _ HF.out).mono ?_
    rintro e w1 ⟨rfl, hb1⟩
    go_wp2_with fail
    go_ret
    exact ⟨rfl, hb1⟩
  have e1 : ((a.size : Int) != 16) = false := by rw [ha]; rfl
  have e2 : ((b.size : Int) != 16) = false := by rw [hb]; rfl
  have e3 : ((c.size : Int) != 16) = false := by rw [hc]; rfl
  have HA := Lib.hid ha
  have HB := Lib.hid hb
  have HC := Lib.hid hc
  have T1 := Lib.hid (gmL_assoc a.toList b.toList c.toList (by rw [tl_size]; exact hb) (by rw [tl_size]; exact hc))
  have T2 := Lib.hid (gmL_xor a.toList b.toList c.toList (by rw [tl_size]; exact hb) (by rw [tl_size]; exact hc))
  clear ha hb hc
  go_enter Tryd.func4, Tryd.ntmps4
  go_wp2_with fail
  refine (wakes8_any _ HF.out).mono ?_
  rintro e w1 ⟨rfl, hb01⟩
  have HF1 := Lib.hid (HF.out.below hb01 HF.out.2)
  go_wp2_with fail
  refine (gmul16 a b HA.out HB.out _ HF1.out).mono ?_
  rintro e w2 ⟨ab, rfl, hab, hb2⟩
  have hb02 := below2 hb01 hb2
  have HF2 := Lib.hid (HF.out.below hb02 HF.out.2)
  have SAB := Lib.hid hab
  clear hb01 hb2 hab
  go_wp2_with fail
  refine (gmul16 b c HB.out HC.out _ HF2.out).mono ?_
  rintro e w3 ⟨bc, rfl, hbc, hb3⟩
  have hb03 := below2 hb02 hb3
  have HF3 := Lib.hid (HF.out.below hb03 HF.out.2)
  have SBC := Lib.hid hbc
  clear hb02 hb3 hbc
  go_wp2_with fail
  refine (gmul16 a c HA.out HC.out _ HF3.out).mono ?_
  rintro e w4 ⟨ac, rfl, hac, hb4⟩
  have hb04 := below2 hb03 hb4
  have HF4 := Lib.hid (HF.out.below hb04 HF.out.2)
  have SAC := Lib.hid hac
  clear hb03 hb4 hac
  go_wp2_with fail
  refine (gmul16 ab c (sz_gm SAB.out) HC.out _ HF4.out).mono ?_
  rintro e w5 ⟨x, rfl, hx, hb5⟩
  have hb05 := below2 hb04 hb5
  have HF5 := Lib.hid (HF.out.below hb05 HF.out.2)
  have SX := Lib.hid hx
  clear hb04 hb5 hx
  go_wp2_with fail
  refine (gmul16 a bc HA.out (sz_gm SBC.out) _ HF5.out).mono ?_
  rintro e w6 ⟨y, rfl, hy, hb6⟩
  obtain rfl : x = y := tl_inj (by rw [SX.out, hy, SAB.out, SBC.out, T1.out])
  have hb06 := below2 hb05 hb6
  clear hb05 hb6 hy
  go_wp2_with fail
  refine (lxor16 b c _ HB.out HC.out).mono ?_
  rintro e w7 ⟨bxc, rfl, hbxc, hb7⟩
  have hb07 := below2 hb06 hb7
  have HF7 := Lib.hid (HF.out.below hb07 HF.out.2)
  have SBX := Lib.hid hbxc
  clear hb06 hb7 hbxc
  go_wp2_with fail
  refine (gmul16 a bxc HA.out (sz_xor SBX.out (by rw [tl_size]; exact HB.out) (by rw [tl_size]; exact HC.out)) _ HF7.out).mono ?_
  rintro e w8 ⟨z, rfl, hz, hb8⟩
  have hb08 := below2 hb07 hb8
  have SZ := Lib.hid hz
  have ex : (x.size : Int) = 16 := by rw [sz_gm SX.out]; rfl
  clear hb07 hb8 hz
  go_wp2_with fail
  refine (lxor16 ab ac _ (sz_gm SAB.out) (sz_gm SAC.out)).mono ?_
  rintro e w9 ⟨v, rfl, hv, hb9⟩
  obtain rfl : z = v := tl_inj (by rw [hv, SZ.out, SBX.out, T2.out, SAB.out, SAC.out])
  have hb09 := below2 hb08 hb9
  clear hb08 hb9 hv
  go_wp2_with fail
  go_ret
  exact ⟨rfl, hb09⟩
end Go.Proofs.YtkedoiikkjeadaaDoor
