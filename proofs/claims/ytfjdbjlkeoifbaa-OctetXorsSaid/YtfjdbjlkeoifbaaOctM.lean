/- The walks of the laws. -/
import Derived.Test.YtfjdbjlkeoifbaaOctL
namespace Go.Proofs.Ytfjdbjlkeoifbaa
open Go.RowKit
set_option linter.unusedVariables false
set_option linter.unusedSimpArgs false
theorem enterWakes (vs : Array Value) (w : World) : (callFunc 9 vs).run Try.prog w = .ok (.enter 9 vs) w := by kernel_rfl
theorem enterXor (vs : Array Value) (w : World) : (callFunc 12 vs).run Try.prog w = .ok (.enter 12 vs) w := by kernel_rfl
theorem enterRXor (vs : Array Value) (w : World) : (callFunc 13 vs).run Try.prog w = .ok (.enter 13 vs) w := by kernel_rfl
theorem u64_of_wf {a : Int} (h : (Lit.int .u64 a).wf = true) : ∃ n : Nat, a = (n : Int) ∧ n < 2 ^ 64 := by
  have h2 : IntKind.u64.min ≤ a ∧ a ≤ IntKind.u64.max := by simpa [Lit.wf] using h
  have e1 : IntKind.u64.min = 0 := by decide
  have e2 : IntKind.u64.max = 18446744073709551615 := by decide
  obtain ⟨n, rfl⟩ := Int.eq_ofNat_of_zero_le (a := a) (by omega)
  exact ⟨n, rfl, by omega⟩
theorem octetSame_walk (a b : ByteArray) (ha : a.size ≤ 140737488351232) (hb : b.size ≤ 140737488351232) (w : World) :
    Calls Try.prog 3 #[.string a, .string b] w (RetT w) := by
  have ha2 : a.size ≤ maxLen := by unfold maxLen; omega
  have hb2 : b.size ≤ maxLen := by unfold maxLen; omega
  obtain ⟨r, hr⟩ : ∃ r, (a.toList == b.toList) = r := ⟨_, rfl⟩
  have c1 := fun w => same_any a b w ha2 hb2
  have c2 := fun w => rsame_any a b w
  have c3 := fun w => same_any a a w ha2 ha2
  rw [hr] at c1 c2
  rw [beq_self_eq_true] at c3
  have C1 := Lib.hid c1
  have C2 := Lib.hid c2
  have C3 := Lib.hid c3
  clear c1 c2 c3 hr
  go_enter Try.func3, Try.ntmps3
  go_wp2_with fail
  refine (wakes_any w).mono ?_
  rintro e w1 ⟨rfl, b1⟩
  have B1 := Lib.hid b1
  clear b1
  go_wp2_with fail
  refine (C1.out _).mono ?_
  rintro e w2 ⟨rfl, n1, rfl⟩
  go_wp2_with fail
  refine (C2.out _).mono ?_
  rintro e w2 ⟨rfl, n2, rfl⟩
  go_wp2_with fail
  refine (C3.out _).mono ?_
  rintro e w2 ⟨rfl, n3, rfl⟩
  go_wp2_with fail
  go_ret
  exact ⟨rfl, below_drewN B1.out _⟩
theorem octetGets_walk (s : ByteArray) (hs : s.size ≤ 140737488351232) (w : World) :
    Calls Try.prog 6 #[.string s] w (RetT w) := by
  have hs2 : s.size ≤ maxLen := by unfold maxLen; omega
  go_enter Try.func6, Try.ntmps6
  go_wp2_with fail
  refine (get_any s w hs2).mono ?_
  rintro e w1 ⟨rfl, rfl⟩
  go_wp2_with fail
  refine (rget_any s _ hs2).mono ?_
  rintro e w1 ⟨rfl, rfl⟩
  go_wp2_with fail
  refine (wakes_any _).mono ?_
  rintro e w1 ⟨rfl, b1⟩
  have B1 := Lib.hid b1
  clear b1
  go_wp2_with fail
  go_ret
  exact ⟨rfl, B1.out⟩
theorem octetPuts_walk (a m : Int) (wa : (Lit.int .u64 a).wf = true) (wm : (Lit.int .i64 m).wf = true) (w : World) :
    Calls Try.prog 5 #[.int .u64 a, .int .i64 m] w (RetT w) := by
  obtain ⟨n, rfl, hn⟩ := u64_of_wf wa
  clear wa wm
  go_enter Try.func5, Try.ntmps5
  go_wp2_with fail
  refine (put_any n m w hn).mono ?_
  rintro e w1 ⟨s1, rfl, h1, b1⟩
  have H1 := Lib.hid h1
  have B1 := Lib.hid b1
  clear h1 b1
  go_wp2_with fail
  refine (rput_any n m _ hn).mono ?_
  rintro e w2 ⟨s2, rfl, h2, b2⟩
  have t12 := eq_true_two H1.out h2
  have B2 := Lib.hid (below2 B1.out b2)
  clear h2 b2
  have hs1 : s1.size ≤ maxLen := by
    rw [← tl_size, H1.out, putL]
    split
    · rename_i hok
      have : 1 ≤ m ∧ m ≤ 8 ∧ n < 256 ^ m.toNat := by simpa [putOk] using hok
      rw [be_length]
      unfold maxLen
      omega
    · unfold maxLen
      simp
  go_wp2_with fail
  refine (get_any s1 _ hs1).mono ?_
  rintro e w3 ⟨rfl, rfl⟩
  go_wp2_with fail
  refine (wakes_any _).mono ?_
  rintro e w4 ⟨rfl, b4⟩
  have B4 := Lib.hid (below2 B2.out b4)
  clear b4
  by_cases hE : putE n m = 0
  · have he1 : (putE n m != 0) = false := by simp [hE]
    have hg := put_get n m hE
    rw [← H1.out] at hg
    obtain ⟨hg1, hg2⟩ := hg
    have hg3 : (getE s1.toList == 0) = true := by simp [hg1]
    have hg4 : ((getN s1.toList : Int) == (n : Int)) = true := by simp [hg2]
    clear hg1 hg2 hE
    go_wp2_with fail
    go_ret
    exact ⟨rfl, B4.out⟩
  · have he1 : (putE n m != 0) = true := by simp [hE]
    clear hE
    go_wp2_with fail
    go_ret
    exact ⟨rfl, B4.out⟩
set_option maxHeartbeats 800000 in
theorem octetAdds_walk (s : ByteArray) (a b : Int) (hs : s.size ≤ 140737488351232) (wa : (Lit.int .u64 a).wf = true) (wb : (Lit.int .u64 b).wf = true) (w : World) :
    Calls Try.prog 7 #[.string s, .int .u64 a, .int .u64 b] w (RetT w) := by
  obtain ⟨n, rfl, hn⟩ := u64_of_wf wa
  obtain ⟨m, rfl, hm⟩ := u64_of_wf wb
  clear wa wb
  by_cases h1 : (4611686018427387904 : Int) < (n : Int)
  · go_enter Try.func7, Try.ntmps7
    go_wp2_with fail
    refine (wakes_any _).mono ?_
    rintro e w1 ⟨rfl, b1⟩
    have B1 := Lib.hid b1
    clear b1
    go_wp2_with fail
    refine (add_any s n _ hs hn).mono ?_
    rintro e w2 ⟨s2, rfl, h2, b2⟩
    have H2 := Lib.hid h2
    have B2 := Lib.hid (below2 B1.out b2)
    clear h2 b2
    go_wp2_with fail
    refine (radd_any s n _ hs hn).mono ?_
    rintro e w3 ⟨s3, rfl, h3, b3⟩
    have t23 := eq_true_two H2.out h3
    have B3 := Lib.hid (below2 B2.out b3)
    clear h3 b3
    go_wp2_with fail
    go_ret
    exact ⟨rfl, B3.out⟩
  · by_cases h2 : (4611686018427387904 : Int) < (m : Int)
    · go_enter Try.func7, Try.ntmps7
      go_wp2_with fail
      refine (wakes_any _).mono ?_
      rintro e w1 ⟨rfl, b1⟩
      have B1 := Lib.hid b1
      clear b1
      go_wp2_with fail
      refine (add_any s n _ hs hn).mono ?_
      rintro e w2 ⟨s2, rfl, h2, b2⟩
      have H2 := Lib.hid h2
      have B2 := Lib.hid (below2 B1.out b2)
      clear h2 b2
      go_wp2_with fail
      refine (radd_any s n _ hs hn).mono ?_
      rintro e w3 ⟨s3, rfl, h3, b3⟩
      have t23 := eq_true_two H2.out h3
      have B3 := Lib.hid (below2 B2.out b3)
      clear h3 b3
      go_wp2_with fail
      go_ret
      exact ⟨rfl, B3.out⟩
    · go_enter Try.func7, Try.ntmps7
      go_wp2_with fail
      refine (wakes_any _).mono ?_
      rintro e w1 ⟨rfl, b1⟩
      have B1 := Lib.hid b1
      clear b1
      go_wp2_with fail
      refine (add_any s n _ hs hn).mono ?_
      rintro e w2 ⟨s2, rfl, h2, b2⟩
      have H2 := Lib.hid h2
      have B2 := Lib.hid (below2 B1.out b2)
      clear h2 b2
      go_wp2_with fail
      refine (radd_any s n _ hs hn).mono ?_
      rintro e w3 ⟨s3, rfl, h3, b3⟩
      have t23 := eq_true_two H2.out h3
      have B3 := Lib.hid (below2 B2.out b3)
      clear h3 b3
      have hs2 : s2.size ≤ 140737488351232 := by rw [← tl_size, H2.out, addL_length, tl_size]; exact hs
      go_wp2_with fail
      refine (add_any s2 m _ hs2 hm).mono ?_
      rintro e w4 ⟨s4, rfl, h4, b4⟩
      rw [H2.out, addL_addL] at h4
      have H4 := Lib.hid h4
      have B4 := Lib.hid (below2 B3.out b4)
      clear h4 b4
      go_wp2_with fail
      rw [show ((n : Int) + (m : Int)) = ((n + m : Nat) : Int) by omega]
      refine (add_any s (n + m) _ hs (by omega)).mono ?_
      rintro e w5 ⟨s5, rfl, h5, b5⟩
      have t45 := eq_true_two H4.out h5
      have B5 := Lib.hid (below2 B4.out b5)
      clear h5 b5
      go_wp2_with fail
      go_ret
      exact ⟨rfl, B5.out⟩
set_option maxRecDepth 100000 in
set_option maxHeartbeats 1600000 in
theorem octetHexes_walk (s : ByteArray) (hs : s.size ≤ 1048576) (w : World) :
    Calls Try.prog 8 #[.string s] w (RetT w) := by
  have hs1 : s.size ≤ 1073741824 := by omega
  have hs2 : s.size ≤ 140737488351232 := by omega
  go_enter Try.func8, Try.ntmps8
  go_wp2_with fail
  refine (hex_any s _ hs1).mono ?_
  rintro e w1 ⟨x, rfl, h1, b1⟩
  have H1 := Lib.hid h1
  have B1 := Lib.hid b1
  clear h1 b1
  go_wp2_with fail
  refine (unhex_any s _ hs2).mono ?_
  rintro e w2 ⟨s2, rfl, h2, b2⟩
  have H2 := Lib.hid h2
  have B2 := Lib.hid (below2 B1.out b2)
  clear h2 b2
  go_wp2_with fail
  refine (runhex_any s _ hs2).mono ?_
  rintro e w3 ⟨s3, rfl, h3, b3⟩
  have t23 := eq_true_two H2.out h3
  have B3 := Lib.hid (below2 B2.out b3)
  clear h3 b3
  have hx2 : x.size ≤ 140737488351232 := by rw [← tl_size, H1.out, hexL_length, tl_size]; omega
  go_wp2_with fail
  refine (unhex_any x _ hx2).mono ?_
  rw [H1.out, (unhex_hex _).1, (unhex_hex _).2.1, (unhex_hex _).2.2]
  rintro e w4 ⟨s4, rfl, h4, b4⟩
  have t4 := eq_true_two h4 (rfl : s.toList = s.toList)
  have B4 := Lib.hid (below2 B3.out b4)
  clear h4 b4
  go_wp2_with fail
  refine (wakes_any _).mono ?_
  rintro e w5 ⟨rfl, b5⟩
  have B5 := Lib.hid (below2 B4.out b5)
  clear b5
  go_wp2_with fail
  refine (rhex_any s _ hs1).mono ?_
  rintro e w6 ⟨s6, rfl, h6, b6⟩
  have t6 := eq_true_two H1.out h6
  have B6 := Lib.hid (below2 B5.out b6)
  clear h6 b6
  go_wp2_with fail
  go_ret
  exact ⟨rfl, B6.out⟩
end Go.Proofs.Ytfjdbjlkeoifbaa
