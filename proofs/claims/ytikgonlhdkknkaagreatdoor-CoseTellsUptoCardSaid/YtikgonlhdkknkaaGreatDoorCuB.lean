import Derived.Test.YtikgonlhdkknkaaGreatDoorRowX
import Derived.Test.YtikgonlhdkknkaaGreatDoorOctX
import Derived.Test.YtikgonlhdkknkaaGreatDoorCuC
set_option maxRecDepth 100000
set_option maxHeartbeats 1600000
set_option linter.unusedVariables false
set_option linter.unusedSimpArgs false
open Go.Lib (hid)
namespace Go.Proofs.YtikgonlhdkknkaaGreatDoor
open Go.RowKit
namespace Ce
def Ifs (c t : Value) : Prop := (∃ T x, c = .iface T x ∧ t = .nilIface) ∨ (∃ T x, c = .nilIface ∧ t = .iface T x) ∨ (c = .nilIface ∧ t = .nilIface)
def RetRow (a b c : Int) (w : World) (e : Ending) (w' : World) : Prop := ∃ x y, e = .returned (.agg #[.int .i64 a, .int .i64 b, .int .i64 c, x, y]) ∧ Ifs x y ∧ Below w.heap.size w w'
theorem fill5 {w : World} {T : Nat} {z0 z1 z2 z3 z4 : Value} (h : At w T 0 [z0, z1, z2, z3, z4]) (v0 v1 v2 v3 v4 : Value) : At (((((w.setCell ⟨T, 0, none⟩ v0).setCell ⟨T, 1, none⟩ v1).setCell ⟨T, 2, none⟩ v2).setCell ⟨T, 3, none⟩ v3).setCell ⟨T, 4, none⟩ v4) T 0 [v0, v1, v2, v3, v4] := ((((h.set 0 v0).set 1 v1).set 2 v2).set 3 v3).set 4 v4
theorem below5 {w0 w : World} {T B : Nat} (hb : Below B w0 w) (hT : B ≤ T) (v0 v1 v2 v3 v4 : Value) : Below B w0 (((((w.setCell ⟨T, 0, none⟩ v0).setCell ⟨T, 1, none⟩ v1).setCell ⟨T, 2, none⟩ v2).setCell ⟨T, 3, none⟩ v3).setCell ⟨T, 4, none⟩ v4) := ((((hb.setCell (p := ⟨T, 0, none⟩) hT v0).setCell (p := ⟨T, 1, none⟩) hT v1).setCell (p := ⟨T, 2, none⟩) hT v2).setCell (p := ⟨T, 3, none⟩) hT v3).setCell (p := ⟨T, 4, none⟩) hT v4
theorem ofCipher_any (a b c : Int) (t : TypeId) (v : Value) (w : World) :
  Calls Tryz.prog 85 #[.int .i64 a, .int .i64 b, .int .i64 c, .iface t v] w (fun e w' => e = .returned (.agg #[.int .i64 a, .int .i64 b, .int .i64 c, .iface t v, .nilIface]) ∧ Below w.heap.size w w') := by
 go_enter Tryz.func85, Tryz.ntmps85
 go_wp2_with fail
 refine bodyPost_ret (results_at rfl _ w.heap.size [.int .i64 a, .int .i64 b, .int .i64 c, .iface t v, .nilIface] _ rfl (At.ofAlloc w #[.int .i64 a, .int .i64 b, .int .i64 c, .iface t v, .nilIface] 121) Tryz.underlying121 rfl (by kernel_rfl)) rfl ?_
 exact ⟨rfl, (Below.refl w.heap.size w).alloc (nle _) _⟩
theorem ofTag_any (a c : Int) (t : TypeId) (v : Value) (w : World) :
  Calls Tryz.prog 86 #[.int .i64 a, .int .i64 c, .iface t v] w (fun e w' => e = .returned (.agg #[.int .i64 a, .int .i64 0, .int .i64 c, .nilIface, .iface t v]) ∧ Below w.heap.size w w') := by
 go_enter Tryz.func86, Tryz.ntmps86
 go_wp2_with fail
 refine bodyPost_ret (results_at rfl _ w.heap.size [.int .i64 a, .int .i64 0, .int .i64 c, .nilIface, .iface t v] _ rfl (At.ofAlloc w #[.int .i64 a, .int .i64 0, .int .i64 c, .nilIface, .iface t v] 121) Tryz.underlying121 rfl (by kernel_rfl)) rfl ?_
 exact ⟨rfl, (Below.refl w.heap.size w).alloc (nle _) _⟩
theorem fdl {w w1 : World} (hb1 : Below (w.alloc (Obj.cells #[.int .i64 0, .int .i64 0, .int .i64 0, .nilIface, .nilIface] 121)).heap.size (w.alloc (Obj.cells #[.int .i64 0, .int .i64 0, .int .i64 0, .nilIface, .nilIface] 121)) w1) : ∃ g, w.heap.size = g ∧ Hid (At w1 g 0 [.int .i64 0, .int .i64 0, .int .i64 0, .nilIface, .nilIface]) ∧ Hid (Below g w w1) ∧ w1.cell? ⟨g, 0, none⟩ = some (.int .i64 0) ∧ w1.cell? ⟨g, 1, none⟩ = some (.int .i64 0) ∧ w1.cell? ⟨g, 2, none⟩ = some (.int .i64 0) ∧ w1.cell? ⟨g, 3, none⟩ = some .nilIface ∧ w1.cell? ⟨g, 4, none⟩ = some .nilIface ∧ w1.frozen? ⟨g, 0, none⟩ = false ∧ w1.frozen? ⟨g, 1, none⟩ = false ∧ w1.frozen? ⟨g, 2, none⟩ = false ∧ w1.frozen? ⟨g, 3, none⟩ = false ∧ w1.frozen? ⟨g, 4, none⟩ = false := by
 have h := (At.ofAlloc w #[.int .i64 0, .int .i64 0, .int .i64 0, .nilIface, .nilIface] 121).below hb1 (by simp)
 have hB : Below w.heap.size w w1 := ((Below.refl w.heap.size w).alloc (nle _) _).trans (hb1.mono (by simp))
 exact ⟨_, rfl, h, hB, h.z 0 _ rfl, h.z 1 _ rfl, h.z 2 _ rfl, h.z 3 _ rfl, h.z 4 _ rfl, h.zf 0 (by decide), h.zf 1 (by decide), h.zf 2 (by decide), h.zf 3 (by decide), h.zf 4 (by decide)⟩
theorem find_1 (w : World) : Calls Tryz.prog 58 #[.int .i64 1] w (RetRow 16 12 16 w) := by
 have CI := hid (fun a b c t v w => ofCipher_any a b c t v w)
 go_enter Tryz.func58, Tryz.ntmps58
 go_wp2_with fail
 refine (CI.out 16 12 16 _ _ _).mono ?_
 rintro e w1 ⟨rfl, hb1⟩
 obtain ⟨g, hg, HA, HB, c0, c1, c2, c3, c4, f0, f1, f2, f3, f4⟩ := fdl hb1
 rw [hg]
 have HG := hid hg
 clear hg hb1
 go_wp2_with fail
 refine bodyPost_ret (results_at rfl _ g [.int .i64 16, .int .i64 12, .int .i64 16, _, _] _ rfl (fill5 HA.out _ _ _ _ _) Tryz.underlying121 rfl (by kernel_rfl)) rfl ?_
 exact ⟨_, _, rfl, .inl ⟨_, _, rfl, rfl⟩, by rw [HG.out]; exact below5 HB.out (nle _) _ _ _ _ _⟩
theorem find_2 (w : World) : Calls Tryz.prog 58 #[.int .i64 2] w (RetRow 24 12 16 w) := by
 have CI := hid (fun a b c t v w => ofCipher_any a b c t v w)
 go_enter Tryz.func58, Tryz.ntmps58
 go_wp2_with fail
 refine (CI.out 24 12 16 _ _ _).mono ?_
 rintro e w1 ⟨rfl, hb1⟩
 obtain ⟨g, hg, HA, HB, c0, c1, c2, c3, c4, f0, f1, f2, f3, f4⟩ := fdl hb1
 rw [hg]
 have HG := hid hg
 clear hg hb1
 go_wp2_with fail
 refine bodyPost_ret (results_at rfl _ g [.int .i64 24, .int .i64 12, .int .i64 16, _, _] _ rfl (fill5 HA.out _ _ _ _ _) Tryz.underlying121 rfl (by kernel_rfl)) rfl ?_
 exact ⟨_, _, rfl, .inl ⟨_, _, rfl, rfl⟩, by rw [HG.out]; exact below5 HB.out (nle _) _ _ _ _ _⟩
theorem find_3 (w : World) : Calls Tryz.prog 58 #[.int .i64 3] w (RetRow 32 12 16 w) := by
 have CI := hid (fun a b c t v w => ofCipher_any a b c t v w)
 go_enter Tryz.func58, Tryz.ntmps58
 go_wp2_with fail
 refine (CI.out 32 12 16 _ _ _).mono ?_
 rintro e w1 ⟨rfl, hb1⟩
 obtain ⟨g, hg, HA, HB, c0, c1, c2, c3, c4, f0, f1, f2, f3, f4⟩ := fdl hb1
 rw [hg]
 have HG := hid hg
 clear hg hb1
 go_wp2_with fail
 refine bodyPost_ret (results_at rfl _ g [.int .i64 32, .int .i64 12, .int .i64 16, _, _] _ rfl (fill5 HA.out _ _ _ _ _) Tryz.underlying121 rfl (by kernel_rfl)) rfl ?_
 exact ⟨_, _, rfl, .inl ⟨_, _, rfl, rfl⟩, by rw [HG.out]; exact below5 HB.out (nle _) _ _ _ _ _⟩
theorem find_4 (w : World) : Calls Tryz.prog 58 #[.int .i64 4] w (RetRow 32 16 16 w) := by
 have CI := hid (fun a b c t v w => ofCipher_any a b c t v w)
 go_enter Tryz.func58, Tryz.ntmps58
 go_wp2_with fail
 refine (CI.out 32 16 16 _ _ _).mono ?_
 rintro e w1 ⟨rfl, hb1⟩
 obtain ⟨g, hg, HA, HB, c0, c1, c2, c3, c4, f0, f1, f2, f3, f4⟩ := fdl hb1
 rw [hg]
 have HG := hid hg
 clear hg hb1
 go_wp2_with fail
 refine bodyPost_ret (results_at rfl _ g [.int .i64 32, .int .i64 16, .int .i64 16, _, _] _ rfl (fill5 HA.out _ _ _ _ _) Tryz.underlying121 rfl (by kernel_rfl)) rfl ?_
 exact ⟨_, _, rfl, .inl ⟨_, _, rfl, rfl⟩, by rw [HG.out]; exact below5 HB.out (nle _) _ _ _ _ _⟩
theorem find_5 (w : World) : Calls Tryz.prog 58 #[.int .i64 5] w (RetRow 48 16 24 w) := by
 have CI := hid (fun a b c t v w => ofCipher_any a b c t v w)
 go_enter Tryz.func58, Tryz.ntmps58
 go_wp2_with fail
 refine (CI.out 48 16 24 _ _ _).mono ?_
 rintro e w1 ⟨rfl, hb1⟩
 obtain ⟨g, hg, HA, HB, c0, c1, c2, c3, c4, f0, f1, f2, f3, f4⟩ := fdl hb1
 rw [hg]
 have HG := hid hg
 clear hg hb1
 go_wp2_with fail
 refine bodyPost_ret (results_at rfl _ g [.int .i64 48, .int .i64 16, .int .i64 24, _, _] _ rfl (fill5 HA.out _ _ _ _ _) Tryz.underlying121 rfl (by kernel_rfl)) rfl ?_
 exact ⟨_, _, rfl, .inl ⟨_, _, rfl, rfl⟩, by rw [HG.out]; exact below5 HB.out (nle _) _ _ _ _ _⟩
theorem find_6 (w : World) : Calls Tryz.prog 58 #[.int .i64 6] w (RetRow 64 16 32 w) := by
 have CI := hid (fun a b c t v w => ofCipher_any a b c t v w)
 go_enter Tryz.func58, Tryz.ntmps58
 go_wp2_with fail
 refine (CI.out 64 16 32 _ _ _).mono ?_
 rintro e w1 ⟨rfl, hb1⟩
 obtain ⟨g, hg, HA, HB, c0, c1, c2, c3, c4, f0, f1, f2, f3, f4⟩ := fdl hb1
 rw [hg]
 have HG := hid hg
 clear hg hb1
 go_wp2_with fail
 refine bodyPost_ret (results_at rfl _ g [.int .i64 64, .int .i64 16, .int .i64 32, _, _] _ rfl (fill5 HA.out _ _ _ _ _) Tryz.underlying121 rfl (by kernel_rfl)) rfl ?_
 exact ⟨_, _, rfl, .inl ⟨_, _, rfl, rfl⟩, by rw [HG.out]; exact below5 HB.out (nle _) _ _ _ _ _⟩
theorem find_10 (w : World) : Calls Tryz.prog 58 #[.int .i64 10] w (RetRow 16 13 8 w) := by
 have CI := hid (fun a b c t v w => ofCipher_any a b c t v w)
 go_enter Tryz.func58, Tryz.ntmps58
 go_wp2_with fail
 refine (CI.out 16 13 8 _ _ _).mono ?_
 rintro e w1 ⟨rfl, hb1⟩
 obtain ⟨g, hg, HA, HB, c0, c1, c2, c3, c4, f0, f1, f2, f3, f4⟩ := fdl hb1
 rw [hg]
 have HG := hid hg
 clear hg hb1
 go_wp2_with fail
 refine bodyPost_ret (results_at rfl _ g [.int .i64 16, .int .i64 13, .int .i64 8, _, _] _ rfl (fill5 HA.out _ _ _ _ _) Tryz.underlying121 rfl (by kernel_rfl)) rfl ?_
 exact ⟨_, _, rfl, .inl ⟨_, _, rfl, rfl⟩, by rw [HG.out]; exact below5 HB.out (nle _) _ _ _ _ _⟩
theorem find_11 (w : World) : Calls Tryz.prog 58 #[.int .i64 11] w (RetRow 32 13 8 w) := by
 have CI := hid (fun a b c t v w => ofCipher_any a b c t v w)
 go_enter Tryz.func58, Tryz.ntmps58
 go_wp2_with fail
 refine (CI.out 32 13 8 _ _ _).mono ?_
 rintro e w1 ⟨rfl, hb1⟩
 obtain ⟨g, hg, HA, HB, c0, c1, c2, c3, c4, f0, f1, f2, f3, f4⟩ := fdl hb1
 rw [hg]
 have HG := hid hg
 clear hg hb1
 go_wp2_with fail
 refine bodyPost_ret (results_at rfl _ g [.int .i64 32, .int .i64 13, .int .i64 8, _, _] _ rfl (fill5 HA.out _ _ _ _ _) Tryz.underlying121 rfl (by kernel_rfl)) rfl ?_
 exact ⟨_, _, rfl, .inl ⟨_, _, rfl, rfl⟩, by rw [HG.out]; exact below5 HB.out (nle _) _ _ _ _ _⟩
theorem find_12 (w : World) : Calls Tryz.prog 58 #[.int .i64 12] w (RetRow 16 7 8 w) := by
 have CI := hid (fun a b c t v w => ofCipher_any a b c t v w)
 go_enter Tryz.func58, Tryz.ntmps58
 go_wp2_with fail
 refine (CI.out 16 7 8 _ _ _).mono ?_
 rintro e w1 ⟨rfl, hb1⟩
 obtain ⟨g, hg, HA, HB, c0, c1, c2, c3, c4, f0, f1, f2, f3, f4⟩ := fdl hb1
 rw [hg]
 have HG := hid hg
 clear hg hb1
 go_wp2_with fail
 refine bodyPost_ret (results_at rfl _ g [.int .i64 16, .int .i64 7, .int .i64 8, _, _] _ rfl (fill5 HA.out _ _ _ _ _) Tryz.underlying121 rfl (by kernel_rfl)) rfl ?_
 exact ⟨_, _, rfl, .inl ⟨_, _, rfl, rfl⟩, by rw [HG.out]; exact below5 HB.out (nle _) _ _ _ _ _⟩
theorem find_13 (w : World) : Calls Tryz.prog 58 #[.int .i64 13] w (RetRow 32 7 8 w) := by
 have CI := hid (fun a b c t v w => ofCipher_any a b c t v w)
 go_enter Tryz.func58, Tryz.ntmps58
 go_wp2_with fail
 refine (CI.out 32 7 8 _ _ _).mono ?_
 rintro e w1 ⟨rfl, hb1⟩
 obtain ⟨g, hg, HA, HB, c0, c1, c2, c3, c4, f0, f1, f2, f3, f4⟩ := fdl hb1
 rw [hg]
 have HG := hid hg
 clear hg hb1
 go_wp2_with fail
 refine bodyPost_ret (results_at rfl _ g [.int .i64 32, .int .i64 7, .int .i64 8, _, _] _ rfl (fill5 HA.out _ _ _ _ _) Tryz.underlying121 rfl (by kernel_rfl)) rfl ?_
 exact ⟨_, _, rfl, .inl ⟨_, _, rfl, rfl⟩, by rw [HG.out]; exact below5 HB.out (nle _) _ _ _ _ _⟩
theorem find_30 (w : World) : Calls Tryz.prog 58 #[.int .i64 30] w (RetRow 16 13 16 w) := by
 have CI := hid (fun a b c t v w => ofCipher_any a b c t v w)
 go_enter Tryz.func58, Tryz.ntmps58
 go_wp2_with fail
 refine (CI.out 16 13 16 _ _ _).mono ?_
 rintro e w1 ⟨rfl, hb1⟩
 obtain ⟨g, hg, HA, HB, c0, c1, c2, c3, c4, f0, f1, f2, f3, f4⟩ := fdl hb1
 rw [hg]
 have HG := hid hg
 clear hg hb1
 go_wp2_with fail
 refine bodyPost_ret (results_at rfl _ g [.int .i64 16, .int .i64 13, .int .i64 16, _, _] _ rfl (fill5 HA.out _ _ _ _ _) Tryz.underlying121 rfl (by kernel_rfl)) rfl ?_
 exact ⟨_, _, rfl, .inl ⟨_, _, rfl, rfl⟩, by rw [HG.out]; exact below5 HB.out (nle _) _ _ _ _ _⟩
theorem find_31 (w : World) : Calls Tryz.prog 58 #[.int .i64 31] w (RetRow 32 13 16 w) := by
 have CI := hid (fun a b c t v w => ofCipher_any a b c t v w)
 go_enter Tryz.func58, Tryz.ntmps58
 go_wp2_with fail
 refine (CI.out 32 13 16 _ _ _).mono ?_
 rintro e w1 ⟨rfl, hb1⟩
 obtain ⟨g, hg, HA, HB, c0, c1, c2, c3, c4, f0, f1, f2, f3, f4⟩ := fdl hb1
 rw [hg]
 have HG := hid hg
 clear hg hb1
 go_wp2_with fail
 refine bodyPost_ret (results_at rfl _ g [.int .i64 32, .int .i64 13, .int .i64 16, _, _] _ rfl (fill5 HA.out _ _ _ _ _) Tryz.underlying121 rfl (by kernel_rfl)) rfl ?_
 exact ⟨_, _, rfl, .inl ⟨_, _, rfl, rfl⟩, by rw [HG.out]; exact below5 HB.out (nle _) _ _ _ _ _⟩
theorem find_32 (w : World) : Calls Tryz.prog 58 #[.int .i64 32] w (RetRow 16 7 16 w) := by
 have CI := hid (fun a b c t v w => ofCipher_any a b c t v w)
 go_enter Tryz.func58, Tryz.ntmps58
 go_wp2_with fail
 refine (CI.out 16 7 16 _ _ _).mono ?_
 rintro e w1 ⟨rfl, hb1⟩
 obtain ⟨g, hg, HA, HB, c0, c1, c2, c3, c4, f0, f1, f2, f3, f4⟩ := fdl hb1
 rw [hg]
 have HG := hid hg
 clear hg hb1
 go_wp2_with fail
 refine bodyPost_ret (results_at rfl _ g [.int .i64 16, .int .i64 7, .int .i64 16, _, _] _ rfl (fill5 HA.out _ _ _ _ _) Tryz.underlying121 rfl (by kernel_rfl)) rfl ?_
 exact ⟨_, _, rfl, .inl ⟨_, _, rfl, rfl⟩, by rw [HG.out]; exact below5 HB.out (nle _) _ _ _ _ _⟩
theorem find_33 (w : World) : Calls Tryz.prog 58 #[.int .i64 33] w (RetRow 32 7 16 w) := by
 have CI := hid (fun a b c t v w => ofCipher_any a b c t v w)
 go_enter Tryz.func58, Tryz.ntmps58
 go_wp2_with fail
 refine (CI.out 32 7 16 _ _ _).mono ?_
 rintro e w1 ⟨rfl, hb1⟩
 obtain ⟨g, hg, HA, HB, c0, c1, c2, c3, c4, f0, f1, f2, f3, f4⟩ := fdl hb1
 rw [hg]
 have HG := hid hg
 clear hg hb1
 go_wp2_with fail
 refine bodyPost_ret (results_at rfl _ g [.int .i64 32, .int .i64 7, .int .i64 16, _, _] _ rfl (fill5 HA.out _ _ _ _ _) Tryz.underlying121 rfl (by kernel_rfl)) rfl ?_
 exact ⟨_, _, rfl, .inl ⟨_, _, rfl, rfl⟩, by rw [HG.out]; exact below5 HB.out (nle _) _ _ _ _ _⟩
theorem find_104 (w : World) : Calls Tryz.prog 58 #[.int .i64 104] w (RetRow 32 0 8 w) := by
 have CI := hid (fun a c t v w => ofTag_any a c t v w)
 go_enter Tryz.func58, Tryz.ntmps58
 go_wp2_with fail
 refine (CI.out 32 8 _ _ _).mono ?_
 rintro e w1 ⟨rfl, hb1⟩
 obtain ⟨g, hg, HA, HB, c0, c1, c2, c3, c4, f0, f1, f2, f3, f4⟩ := fdl hb1
 rw [hg]
 have HG := hid hg
 clear hg hb1
 go_wp2_with fail
 refine bodyPost_ret (results_at rfl _ g [.int .i64 32, .int .i64 0, .int .i64 8, _, _] _ rfl (fill5 HA.out _ _ _ _ _) Tryz.underlying121 rfl (by kernel_rfl)) rfl ?_
 exact ⟨_, _, rfl, .inr (.inl ⟨_, _, rfl, rfl⟩), by rw [HG.out]; exact below5 HB.out (nle _) _ _ _ _ _⟩
theorem find_105 (w : World) : Calls Tryz.prog 58 #[.int .i64 105] w (RetRow 32 0 32 w) := by
 have CI := hid (fun a c t v w => ofTag_any a c t v w)
 go_enter Tryz.func58, Tryz.ntmps58
 go_wp2_with fail
 refine (CI.out 32 32 _ _ _).mono ?_
 rintro e w1 ⟨rfl, hb1⟩
 obtain ⟨g, hg, HA, HB, c0, c1, c2, c3, c4, f0, f1, f2, f3, f4⟩ := fdl hb1
 rw [hg]
 have HG := hid hg
 clear hg hb1
 go_wp2_with fail
 refine bodyPost_ret (results_at rfl _ g [.int .i64 32, .int .i64 0, .int .i64 32, _, _] _ rfl (fill5 HA.out _ _ _ _ _) Tryz.underlying121 rfl (by kernel_rfl)) rfl ?_
 exact ⟨_, _, rfl, .inr (.inl ⟨_, _, rfl, rfl⟩), by rw [HG.out]; exact below5 HB.out (nle _) _ _ _ _ _⟩
theorem find_106 (w : World) : Calls Tryz.prog 58 #[.int .i64 106] w (RetRow 48 0 48 w) := by
 have CI := hid (fun a c t v w => ofTag_any a c t v w)
 go_enter Tryz.func58, Tryz.ntmps58
 go_wp2_with fail
 refine (CI.out 48 48 _ _ _).mono ?_
 rintro e w1 ⟨rfl, hb1⟩
 obtain ⟨g, hg, HA, HB, c0, c1, c2, c3, c4, f0, f1, f2, f3, f4⟩ := fdl hb1
 rw [hg]
 have HG := hid hg
 clear hg hb1
 go_wp2_with fail
 refine bodyPost_ret (results_at rfl _ g [.int .i64 48, .int .i64 0, .int .i64 48, _, _] _ rfl (fill5 HA.out _ _ _ _ _) Tryz.underlying121 rfl (by kernel_rfl)) rfl ?_
 exact ⟨_, _, rfl, .inr (.inl ⟨_, _, rfl, rfl⟩), by rw [HG.out]; exact below5 HB.out (nle _) _ _ _ _ _⟩
theorem find_107 (w : World) : Calls Tryz.prog 58 #[.int .i64 107] w (RetRow 64 0 64 w) := by
 have CI := hid (fun a c t v w => ofTag_any a c t v w)
 go_enter Tryz.func58, Tryz.ntmps58
 go_wp2_with fail
 refine (CI.out 64 64 _ _ _).mono ?_
 rintro e w1 ⟨rfl, hb1⟩
 obtain ⟨g, hg, HA, HB, c0, c1, c2, c3, c4, f0, f1, f2, f3, f4⟩ := fdl hb1
 rw [hg]
 have HG := hid hg
 clear hg hb1
 go_wp2_with fail
 refine bodyPost_ret (results_at rfl _ g [.int .i64 64, .int .i64 0, .int .i64 64, _, _] _ rfl (fill5 HA.out _ _ _ _ _) Tryz.underlying121 rfl (by kernel_rfl)) rfl ?_
 exact ⟨_, _, rfl, .inr (.inl ⟨_, _, rfl, rfl⟩), by rw [HG.out]; exact below5 HB.out (nle _) _ _ _ _ _⟩
theorem find_114 (w : World) : Calls Tryz.prog 58 #[.int .i64 114] w (RetRow 16 0 8 w) := by
 have CI := hid (fun a c t v w => ofTag_any a c t v w)
 go_enter Tryz.func58, Tryz.ntmps58
 go_wp2_with fail
 refine (CI.out 16 8 _ _ _).mono ?_
 rintro e w1 ⟨rfl, hb1⟩
 obtain ⟨g, hg, HA, HB, c0, c1, c2, c3, c4, f0, f1, f2, f3, f4⟩ := fdl hb1
 rw [hg]
 have HG := hid hg
 clear hg hb1
 go_wp2_with fail
 refine bodyPost_ret (results_at rfl _ g [.int .i64 16, .int .i64 0, .int .i64 8, _, _] _ rfl (fill5 HA.out _ _ _ _ _) Tryz.underlying121 rfl (by kernel_rfl)) rfl ?_
 exact ⟨_, _, rfl, .inr (.inl ⟨_, _, rfl, rfl⟩), by rw [HG.out]; exact below5 HB.out (nle _) _ _ _ _ _⟩
theorem find_115 (w : World) : Calls Tryz.prog 58 #[.int .i64 115] w (RetRow 32 0 8 w) := by
 have CI := hid (fun a c t v w => ofTag_any a c t v w)
 go_enter Tryz.func58, Tryz.ntmps58
 go_wp2_with fail
 refine (CI.out 32 8 _ _ _).mono ?_
 rintro e w1 ⟨rfl, hb1⟩
 obtain ⟨g, hg, HA, HB, c0, c1, c2, c3, c4, f0, f1, f2, f3, f4⟩ := fdl hb1
 rw [hg]
 have HG := hid hg
 clear hg hb1
 go_wp2_with fail
 refine bodyPost_ret (results_at rfl _ g [.int .i64 32, .int .i64 0, .int .i64 8, _, _] _ rfl (fill5 HA.out _ _ _ _ _) Tryz.underlying121 rfl (by kernel_rfl)) rfl ?_
 exact ⟨_, _, rfl, .inr (.inl ⟨_, _, rfl, rfl⟩), by rw [HG.out]; exact below5 HB.out (nle _) _ _ _ _ _⟩
theorem find_125 (w : World) : Calls Tryz.prog 58 #[.int .i64 125] w (RetRow 16 0 16 w) := by
 have CI := hid (fun a c t v w => ofTag_any a c t v w)
 go_enter Tryz.func58, Tryz.ntmps58
 go_wp2_with fail
 refine (CI.out 16 16 _ _ _).mono ?_
 rintro e w1 ⟨rfl, hb1⟩
 obtain ⟨g, hg, HA, HB, c0, c1, c2, c3, c4, f0, f1, f2, f3, f4⟩ := fdl hb1
 rw [hg]
 have HG := hid hg
 clear hg hb1
 go_wp2_with fail
 refine bodyPost_ret (results_at rfl _ g [.int .i64 16, .int .i64 0, .int .i64 16, _, _] _ rfl (fill5 HA.out _ _ _ _ _) Tryz.underlying121 rfl (by kernel_rfl)) rfl ?_
 exact ⟨_, _, rfl, .inr (.inl ⟨_, _, rfl, rfl⟩), by rw [HG.out]; exact below5 HB.out (nle _) _ _ _ _ _⟩
theorem find_126 (w : World) : Calls Tryz.prog 58 #[.int .i64 126] w (RetRow 32 0 16 w) := by
 have CI := hid (fun a c t v w => ofTag_any a c t v w)
 go_enter Tryz.func58, Tryz.ntmps58
 go_wp2_with fail
 refine (CI.out 32 16 _ _ _).mono ?_
 rintro e w1 ⟨rfl, hb1⟩
 obtain ⟨g, hg, HA, HB, c0, c1, c2, c3, c4, f0, f1, f2, f3, f4⟩ := fdl hb1
 rw [hg]
 have HG := hid hg
 clear hg hb1
 go_wp2_with fail
 refine bodyPost_ret (results_at rfl _ g [.int .i64 32, .int .i64 0, .int .i64 16, _, _] _ rfl (fill5 HA.out _ _ _ _ _) Tryz.underlying121 rfl (by kernel_rfl)) rfl ?_
 exact ⟨_, _, rfl, .inr (.inl ⟨_, _, rfl, rfl⟩), by rw [HG.out]; exact below5 HB.out (nle _) _ _ _ _ _⟩
theorem find_none (n : Int) (w : World) (h1 : ¬ n = 1) (h2 : ¬ n = 2) (h3 : ¬ n = 3) (h4 : ¬ n = 4) (h5 : ¬ n = 5) (h6 : ¬ n = 6) (h10 : ¬ n = 10) (h11 : ¬ n = 11) (h12 : ¬ n = 12) (h13 : ¬ n = 13) (h30 : ¬ n = 30) (h31 : ¬ n = 31) (h32 : ¬ n = 32) (h33 : ¬ n = 33) (h104 : ¬ n = 104) (h105 : ¬ n = 105) (h106 : ¬ n = 106) (h107 : ¬ n = 107) (h114 : ¬ n = 114) (h115 : ¬ n = 115) (h125 : ¬ n = 125) (h126 : ¬ n = 126) : Calls Tryz.prog 58 #[.int .i64 n] w (RetRow 0 0 0 w) := by
 go_enter Tryz.func58, Tryz.ntmps58
 go_wp2_with fail
 refine bodyPost_ret (results_at rfl _ w.heap.size [.int .i64 0, .int .i64 0, .int .i64 0, .nilIface, .nilIface] _ rfl (At.ofAlloc w #[.int .i64 0, .int .i64 0, .int .i64 0, .nilIface, .nilIface] 121) Tryz.underlying121 rfl (by kernel_rfl)) rfl ?_
 exact ⟨_, _, rfl, .inr (.inr ⟨rfl, rfl⟩), (Below.refl w.heap.size w).alloc (nle _) _⟩
def rowZ (n : Int) : Int × Int × Int := match rowOf n with
 | none => (0, 0, 0)
 | some r => r
theorem find_all (n : Int) (w : World) : Calls Tryz.prog 58 #[.int .i64 n] w (RetRow (rowZ n).1 (rowZ n).2.1 (rowZ n).2.2 w) := by
 by_cases h1 : n = 1
 ·subst h1; exact find_1 w
 by_cases h2 : n = 2
 ·subst h2; exact find_2 w
 by_cases h3 : n = 3
 ·subst h3; exact find_3 w
 by_cases h4 : n = 4
 ·subst h4; exact find_4 w
 by_cases h5 : n = 5
 ·subst h5; exact find_5 w
 by_cases h6 : n = 6
 ·subst h6; exact find_6 w
 by_cases h10 : n = 10
 ·subst h10; exact find_10 w
 by_cases h11 : n = 11
 ·subst h11; exact find_11 w
 by_cases h12 : n = 12
 ·subst h12; exact find_12 w
 by_cases h13 : n = 13
 ·subst h13; exact find_13 w
 by_cases h30 : n = 30
 ·subst h30; exact find_30 w
 by_cases h31 : n = 31
 ·subst h31; exact find_31 w
 by_cases h32 : n = 32
 ·subst h32; exact find_32 w
 by_cases h33 : n = 33
 ·subst h33; exact find_33 w
 by_cases h104 : n = 104
 ·subst h104; exact find_104 w
 by_cases h105 : n = 105
 ·subst h105; exact find_105 w
 by_cases h106 : n = 106
 ·subst h106; exact find_106 w
 by_cases h107 : n = 107
 ·subst h107; exact find_107 w
 by_cases h114 : n = 114
 ·subst h114; exact find_114 w
 by_cases h115 : n = 115
 ·subst h115; exact find_115 w
 by_cases h125 : n = 125
 ·subst h125; exact find_125 w
 by_cases h126 : n = 126
 ·subst h126; exact find_126 w
 have h : rowOf n = none := by rw [rowOf, if_neg h1, if_neg h2, if_neg h3, if_neg h4, if_neg h5, if_neg h6, if_neg h10, if_neg h11, if_neg h12, if_neg h13, if_neg h30, if_neg h31, if_neg h32, if_neg h33, if_neg h104, if_neg h105, if_neg h106, if_neg h107, if_neg h114, if_neg h115, if_neg h125, if_neg h126]
 rw [rowZ, h]
 exact find_none n w h1 h2 h3 h4 h5 h6 h10 h11 h12 h13 h30 h31 h32 h33 h104 h105 h106 h107 h114 h115 h125 h126
theorem row_cases (n : Int) : rowOf n = none ∨ n = 1 ∨ n = 2 ∨ n = 3 ∨ n = 4 ∨ n = 5 ∨ n = 6 ∨ n = 10 ∨ n = 11 ∨ n = 12 ∨ n = 13 ∨ n = 30 ∨ n = 31 ∨ n = 32 ∨ n = 33 ∨ n = 104 ∨ n = 105 ∨ n = 106 ∨ n = 107 ∨ n = 114 ∨ n = 115 ∨ n = 125 ∨ n = 126 := by
 by_cases h1 : n = 1
 ·subst h1; decide
 by_cases h2 : n = 2
 ·subst h2; decide
 by_cases h3 : n = 3
 ·subst h3; decide
 by_cases h4 : n = 4
 ·subst h4; decide
 by_cases h5 : n = 5
 ·subst h5; decide
 by_cases h6 : n = 6
 ·subst h6; decide
 by_cases h10 : n = 10
 ·subst h10; decide
 by_cases h11 : n = 11
 ·subst h11; decide
 by_cases h12 : n = 12
 ·subst h12; decide
 by_cases h13 : n = 13
 ·subst h13; decide
 by_cases h30 : n = 30
 ·subst h30; decide
 by_cases h31 : n = 31
 ·subst h31; decide
 by_cases h32 : n = 32
 ·subst h32; decide
 by_cases h33 : n = 33
 ·subst h33; decide
 by_cases h104 : n = 104
 ·subst h104; decide
 by_cases h105 : n = 105
 ·subst h105; decide
 by_cases h106 : n = 106
 ·subst h106; decide
 by_cases h107 : n = 107
 ·subst h107; decide
 by_cases h114 : n = 114
 ·subst h114; decide
 by_cases h115 : n = 115
 ·subst h115; decide
 by_cases h125 : n = 125
 ·subst h125; decide
 by_cases h126 : n = 126
 ·subst h126; decide
 exact .inl (by rw [rowOf, if_neg h1, if_neg h2, if_neg h3, if_neg h4, if_neg h5, if_neg h6, if_neg h10, if_neg h11, if_neg h12, if_neg h13, if_neg h30, if_neg h31, if_neg h32, if_neg h33, if_neg h104, if_neg h105, if_neg h106, if_neg h107, if_neg h114, if_neg h115, if_neg h125, if_neg h126])
theorem row_key {n : Int} (h : rowOf n ≠ none) : (rowZ n).1 ≠ 0 ∧ 0 ≤ (rowZ n).2.1 ∧ 0 ≤ (rowZ n).2.2 ∧ (rowZ n).2.2 ≤ 64 ∧ (rowZ n).2.1 ≤ 16 := by
 rcases row_cases n with h0 | h0 | h0 | h0 | h0 | h0 | h0 | h0 | h0 | h0 | h0 | h0 | h0 | h0 | h0 | h0 | h0 | h0 | h0 | h0 | h0 | h0 | h0
 ·exact absurd h0 h
 all_goals (subst h0; decide)
def RetOf (n : Int) (w : World) (e : Ending) (w' : World) : Prop := e = .returned (.tuple #[.agg #[.int .i64 (rowZ n).1, .int .i64 (rowZ n).2.1, .int .i64 (rowZ n).2.2], .int .i64 (if rowOf n = none then 11 else 0)]) ∧ Below w.heap.size w w'
theorem fill3 {w : World} {T : Nat} {z0 z1 z2 : Value} (h : At w T 0 [z0, z1, z2]) (v0 v1 v2 : Value) : At (((w.setCell ⟨T, 0, none⟩ v0).setCell ⟨T, 1, none⟩ v1).setCell ⟨T, 2, none⟩ v2) T 0 [v0, v1, v2] := ((h.set 0 v0).set 1 v1).set 2 v2
theorem below3 {w0 w : World} {T B : Nat} (hb : Below B w0 w) (hT : B ≤ T) (v0 v1 v2 : Value) : Below B w0 (((w.setCell ⟨T, 0, none⟩ v0).setCell ⟨T, 1, none⟩ v1).setCell ⟨T, 2, none⟩ v2) := ((hb.setCell (p := ⟨T, 0, none⟩) hT v0).setCell (p := ⟨T, 1, none⟩) hT v1).setCell (p := ⟨T, 2, none⟩) hT v2
theorem of_any (n : Int) (w : World) : Calls Tryz.prog 37 #[.int .i64 n] w (RetOf n w) := by
 have FI := hid (fun w => find_all n w)
 obtain ⟨k, hk⟩ : ∃ k, (rowZ n).1 = k := ⟨_, rfl⟩
 obtain ⟨iv, hiv⟩ : ∃ k, (rowZ n).2.1 = k := ⟨_, rfl⟩
 obtain ⟨tg, htg⟩ : ∃ k, (rowZ n).2.2 = k := ⟨_, rfl⟩
 have HE : Hid ((k = 0 → rowOf n = none ∧ iv = 0 ∧ tg = 0) ∧ (k ≠ 0 → rowOf n ≠ none)) := by
  show _ ∧ _
  subst hk hiv htg
  refine ⟨fun h => ?_, fun h h0 => h (by rw [rowZ, h0])⟩
  cases hr : rowOf n with
  | none => rw [rowZ, hr]; exact ⟨rfl, rfl, rfl⟩
  | some r => exact absurd h (row_key (n := n) (by rw [hr]; simp)).1
 unfold RetOf
 rw [hk, hiv, htg]
 simp only [hk, hiv, htg] at FI
 have HL0 := hid (At.ofAlloc w #[.int .i64 0, .int .i64 0, .int .i64 0] 88)
 have HB0 := hid ((Below.refl w.heap.size w).alloc (nle _) (Obj.cells #[.int .i64 0, .int .i64 0, .int .i64 0] 88))
 obtain ⟨g, hg⟩ : ∃ g, w.heap.size = g := ⟨_, rfl⟩
 rw [hg] at HL0 HB0
 have HG := hid hg
 clear hk hiv htg
 go_enter Tryz.func37, Tryz.ntmps37
 go_wp2_with fail
 try rw [hg]
 clear hg
 obtain ⟨w0, hw0⟩ : ∃ x, w.alloc (Obj.cells #[.int .i64 0, .int .i64 0, .int .i64 0] 88) = x := ⟨_, rfl⟩
 have HS0 : Hid (g < w0.heap.size) := by show g < _; rw [← hw0, ← HG.out]; simp
 rw [hw0] at HL0 HB0
 rw [hw0]
 clear hw0
 refine (FI.out _).mono ?_
 rintro e w1 ⟨x, y, rfl, hxy, hb1⟩
 have HL1 := hid (HL0.out.below hb1 HS0.out)
 have HB1 : Hid (Below g w w1) := HB0.out.trans (hb1.mono (Nat.le_of_lt HS0.out))
 have HS1 : Hid (g < w1.heap.size) := nlt HS0.out hb1.size
 clear hb1
 have c0 := (HL1.out.alloc (Obj.cells #[.int .i64 k, .int .i64 iv, .int .i64 tg, x, y] 121)).cell 0 _ rfl
 have c1 := (HL1.out.alloc (Obj.cells #[.int .i64 k, .int .i64 iv, .int .i64 tg, x, y] 121)).cell 1 _ rfl
 have c2 := (HL1.out.alloc (Obj.cells #[.int .i64 k, .int .i64 iv, .int .i64 tg, x, y] 121)).cell 2 _ rfl
 have f0 := (HL1.out.alloc (Obj.cells #[.int .i64 k, .int .i64 iv, .int .i64 tg, x, y] 121)).froz 0 (by decide)
 have f1 := (HL1.out.alloc (Obj.cells #[.int .i64 k, .int .i64 iv, .int .i64 tg, x, y] 121)).froz 1 (by decide)
 have f2 := (HL1.out.alloc (Obj.cells #[.int .i64 k, .int .i64 iv, .int .i64 tg, x, y] 121)).froz 2 (by decide)
 have HL2 := hid (HL1.out.alloc (Obj.cells #[.int .i64 k, .int .i64 iv, .int .i64 tg, x, y] 121))
 have HB2 := hid (HB1.out.alloc (Nat.le_of_lt HS1.out) (Obj.cells #[.int .i64 k, .int .i64 iv, .int .i64 tg, x, y] 121))
 by_cases hk : k = 0
 ·obtain ⟨hN, rfl, rfl⟩ := HE.out.1 hk
  subst hk
  have HN := hid hN
  clear hN
  rcases hxy with ⟨T, z, rfl, rfl⟩ | ⟨T, z, rfl, rfl⟩ | ⟨rfl, rfl⟩
  all_goals
   go_wp2_with fail
   refine bodyPost_ret (results_at_two rfl _ g [.int .i64 0, .int .i64 0, .int .i64 0] _ rfl (fill3 HL2.out _ _ _) Tryz.underlying88 rfl (by kernel_rfl) _ rfl) rfl ?_
   exact ⟨by first | rfl | (rw [if_pos HN.out]; rfl), by rw [HG.out]; exact below3 HB2.out (nle _) _ _ _⟩
 ·have HN := hid (HE.out.2 hk)
  rcases hxy with ⟨T, z, rfl, rfl⟩ | ⟨T, z, rfl, rfl⟩ | ⟨rfl, rfl⟩
  all_goals
   go_wp2_with fail
   refine bodyPost_ret (results_at_two rfl _ g [.int .i64 k, .int .i64 iv, .int .i64 tg] _ rfl (fill3 HL2.out _ _ _) Tryz.underlying88 rfl (by kernel_rfl) _ rfl) rfl ?_
   exact ⟨by first | rfl | (rw [if_neg HN.out]; rfl), by rw [HG.out]; exact below3 HB2.out (nle _) _ _ _⟩
theorem fmt_row (n : Int) : fmtOf n = if rowOf n = none ∨ 4 ≤ n ∧ n ≤ 6 then 0 else if (rowZ n).2.1 = 0 then 6 else 5 := by
 rw [fmtOf, rowZ]
 cases rowOf n with
 | none => simp
 | some r =>
  simp only [reduceCtorEq, false_or]
theorem formatOf_any (n : Int) (w : World) : Calls Tryz.prog 36 #[.int .i64 n] w (fun e w' => e = .returned (.int .i64 (fmtOf n)) ∧ Below w.heap.size w w') := by
 have OF := hid (fun w => of_any n w)
 unfold RetOf at OF
 rw [fmt_row]
 obtain ⟨k, hk⟩ : ∃ k, (rowZ n).1 = k := ⟨_, rfl⟩
 obtain ⟨iv, hiv⟩ : ∃ k, (rowZ n).2.1 = k := ⟨_, rfl⟩
 obtain ⟨tg, htg⟩ : ∃ k, (rowZ n).2.2 = k := ⟨_, rfl⟩
 rw [hk, hiv, htg] at OF
 rw [hiv]
 clear hk hiv htg
 by_cases hN : rowOf n = none
 ·simp only [hN, if_true, true_or] at OF ⊢
  clear hN
  go_enter Tryz.func36, Tryz.ntmps36
  go_wp2_with fail
  refine (OF.out _).mono ?_
  rintro e w1 ⟨rfl, hb1⟩
  have HB1 := hid hb1
  clear hb1
  go_wp2_with fail
  go_ret
  exact ⟨rfl, HB1.out.alloc HB1.out.size _⟩
 ·simp only [hN, if_false, false_or] at OF ⊢
  clear hN
  by_cases h4 : 4 ≤ n
  ·have e4 : decide (4 ≤ n) = true := dtr h4
   by_cases h6 : n ≤ 6
   ·rw [if_pos ⟨h4, h6⟩]
    have e6 : decide (n ≤ 6) = true := dtr h6
    go_enter Tryz.func36, Tryz.ntmps36
    go_wp2_with fail
    refine (OF.out _).mono ?_
    rintro e w1 ⟨rfl, hb1⟩
    have HB1 := hid hb1
    clear hb1
    go_wp2_with fail
    go_ret
    exact ⟨rfl, HB1.out.alloc HB1.out.size _⟩
   ·rw [if_neg (fun h => h6 h.2)]
    have e6 : decide (n ≤ 6) = false := dfa h6
    by_cases h0 : iv = 0
    ·rw [if_pos h0]
     subst h0
     go_enter Tryz.func36, Tryz.ntmps36
     go_wp2_with fail
     refine (OF.out _).mono ?_
     rintro e w1 ⟨rfl, hb1⟩
     have HB1 := hid hb1
     clear hb1
     go_wp2_with fail
     go_ret
     exact ⟨rfl, HB1.out.alloc HB1.out.size _⟩
    ·rw [if_neg h0]
     go_enter Tryz.func36, Tryz.ntmps36
     go_wp2_with fail
     refine (OF.out _).mono ?_
     rintro e w1 ⟨rfl, hb1⟩
     have HB1 := hid hb1
     clear hb1
     go_wp2_with fail
     go_ret
     exact ⟨rfl, HB1.out.alloc HB1.out.size _⟩
  ·rw [if_neg (fun h => h4 h.1)]
   have e4 : decide (4 ≤ n) = false := dfa h4
   by_cases h0 : iv = 0
   ·rw [if_pos h0]
    subst h0
    go_enter Tryz.func36, Tryz.ntmps36
    go_wp2_with fail
    refine (OF.out _).mono ?_
    rintro e w1 ⟨rfl, hb1⟩
    have HB1 := hid hb1
    clear hb1
    go_wp2_with fail
    go_ret
    exact ⟨rfl, HB1.out.alloc HB1.out.size _⟩
   ·rw [if_neg h0]
    go_enter Tryz.func36, Tryz.ntmps36
    go_wp2_with fail
    refine (OF.out _).mono ?_
    rintro e w1 ⟨rfl, hb1⟩
    have HB1 := hid hb1
    clear hb1
    go_wp2_with fail
    go_ret
    exact ⟨rfl, HB1.out.alloc HB1.out.size _⟩
end Ce
end Go.Proofs.YtikgonlhdkknkaaGreatDoor
