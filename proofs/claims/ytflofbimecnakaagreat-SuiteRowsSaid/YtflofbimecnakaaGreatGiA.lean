/- The contracts of filled, bits, counter and begin: the program's. -/
import Derived.Test.YtflofbimecnakaaGreatGiP
namespace Go.Proofs.YtflofbimecnakaaGreat
open Go.RowKit
set_option linter.unusedVariables false
set_option linter.unusedSimpArgs false
set_option maxRecDepth 100000 in
set_option maxHeartbeats 1600000 in
theorem gfilled_any (s : ByteArray) (w : World) (hs : s.size ≤ 1000000) : Calls Tryz.prog 44 #[.string s] w (RetS (filM s.toList) w) := by
  obtain ⟨r, hr⟩ : ∃ r, s.size % 16 = r := ⟨_, rfl⟩
  obtain ⟨d, hd⟩ : ∃ d, d = 16 - r := ⟨_, rfl⟩
  obtain ⟨p, hp⟩ : ∃ p, p = d % 16 := ⟨_, rfl⟩
  have e1 : (s.size : Int).tmod 16 = (r : Int) := tmod_nat s.size 16 r hr.symm
  have e2 : IntKind.i64.wrap (r : Int) = (r : Int) := wrap_in _ (by omega) (by omega)
  have e3 : 16 - (r : Int) = (d : Int) := by omega
  have e4 : IntKind.i64.wrap (d : Int) = (d : Int) := wrap_in _ (by omega) (by omega)
  have e5 : (d : Int).tmod 16 = (p : Int) := tmod_nat d 16 p hp
  have e6 : IntKind.i64.wrap (p : Int) = (p : Int) := wrap_in _ (by omega) (by omega)
  have hpl : p ≤ 15 := by omega
  have HP : Hid ((16 - s.toList.length % 16) % 16 = p) := by show _ = _; rw [tl_size]; omega
  clear hr hd hp
  go_enter Tryz.func44, Tryz.ntmps44
  go_wp2_with fail
  refine (rep_any (ByteArray.mk #[0]) 0 p _ nought_tl (by omega)).mono ?_
  rintro e w1 ⟨z, rfl, hz, hb1⟩
  have hzs : z.size = p := by rw [← tl_size, hz]; simp
  have hov : ¬ 9223372036854775807 < s.size + z.size := by omega
  have HZ : Hid (z.toList = zer p) := hz
  clear hz hzs
  go_wp2_with fail
  go_ret
  exact ⟨_, rfl, by rw [tl_append, HZ.out, filM, HP.out], hb1⟩
theorem u64_in8 (t : Nat) (h : t < 100000000) : IntKind.u64.wrap (t : Int) = (t : Int) := by simp [IntKind.wrap, IntKind.bits, IntKind.signed]; omega
set_option maxRecDepth 100000 in
set_option maxHeartbeats 1600000 in
theorem gbits_any (s : ByteArray) (w : World) (hs : s.size ≤ 1000000) : Calls Tryz.prog 45 #[.string s] w (RetS (bitsL s.size) w) := by
  obtain ⟨m, hm⟩ : ∃ m, 8 * s.size = m := ⟨_, rfl⟩
  have c1 := u64_in8 s.size (by omega)
  have c2 := u64_in8 m (by omega)
  have c3 : 8 * (s.size : Int) = (m : Int) := by omega
  have hn64 : m < 2 ^ 64 := by omega
  have HB : Hid (bitsL s.size = be 8 m) := by show _ = _; rw [bitsL, hm]
  have HPF := Lib.hid (put8 m hn64)
  clear hm
  go_enter Tryz.func45, Tryz.ntmps45
  go_wp2_with fail
  refine (put_any m 8 _ hn64).mono ?_
  rintro e w1 ⟨x, rfl, hx, hb1⟩
  rw [HPF.out.1] at hx
  rw [HPF.out.2]
  have HX := Lib.hid hx
  clear hx
  go_wp2_with fail
  go_ret
  exact ⟨_, rfl, by rw [HX.out, HB.out], hb1⟩
end Go.Proofs.YtflofbimecnakaaGreat
