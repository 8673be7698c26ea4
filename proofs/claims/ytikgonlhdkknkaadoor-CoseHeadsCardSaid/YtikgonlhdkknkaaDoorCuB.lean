/- Joined by merge.py: CeF CeG. -/
import Derived.Test.YtikgonlhdkknkaaDoorRowX
import Derived.Test.YtikgonlhdkknkaaDoorOctX
import Derived.Test.YtikgonlhdkknkaaDoorCuC
namespace Go.Proofs.YtikgonlhdkknkaaDoor
open Go.RowKit
set_option linter.unusedVariables false
set_option linter.unusedSimpArgs false
namespace Ce
/-- what stands for a kind of cipher, or of tag: an interface's value, or none -/
def Ifs (c t : Value) : Prop := (∃ T x, c = .iface T x ∧ t = .nilIface) ∨ (∃ T x, c = .nilIface ∧ t = .iface T x) ∨ (c = .nilIface ∧ t = .nilIface)
def RetRow (a b c : Int) (w : World) (e : Ending) (w' : World) : Prop := ∃ x y, e = .returned (.agg #[.int .i64 a, .int .i64 b, .int .i64 c, x, y]) ∧ Ifs x y ∧ Below w.heap.size w w'
theorem fill5 {w : World} {T : Nat} {z0 z1 z2 z3 z4 : Value} (h : At w T 0 [z0, z1, z2, z3, z4]) (v0 v1 v2 v3 v4 : Value) : At (((((w.setCell ⟨T, 0, none⟩ v0).setCell ⟨T, 1, none⟩ v1).setCell ⟨T, 2, none⟩ v2).setCell ⟨T, 3, none⟩ v3).setCell ⟨T, 4, none⟩ v4) T 0 [v0, v1, v2, v3, v4] := ((((h.set 0 v0).set 1 v1).set 2 v2).set 3 v3).set 4 v4
theorem below5 {w0 w : World} {T B : Nat} (hb : Below B w0 w) (hT : B ≤ T) (v0 v1 v2 v3 v4 : Value) : Below B w0 (((((w.setCell ⟨T, 0, none⟩ v0).setCell ⟨T, 1, none⟩ v1).setCell ⟨T, 2, none⟩ v2).setCell ⟨T, 3, none⟩ v3).setCell ⟨T, 4, none⟩ v4) := ((((hb.setCell (p := ⟨T, 0, none⟩) hT v0).setCell (p := ⟨T, 1, none⟩) hT v1).setCell (p := ⟨T, 2, none⟩) hT v2).setCell (p := ⟨T, 3, none⟩) hT v3).setCell (p := ⟨T, 4, none⟩) hT v4
set_option maxRecDepth 100000 in
set_option maxHeartbeats 1600000 in
theorem ofCipher_any (a b c : Int) (t : TypeId) (v : Value) (w : World) :
    Calls Tryd.prog 78 #[.int .i64 a, .int .i64 b, .int .i64 c, .iface t v] w (fun e w' => e = .returned (.agg #[.int .i64 a, .int .i64 b, .int .i64 c, .iface t v, .nilIface]) ∧ Below w.heap.size w w') := by
  go_enter Tryd.func78, Tryd.ntmps78
  go_wp2_with fail
  refine bodyPost_ret (results_at rfl _ w.heap.size [.int .i64 a, .int .i64 b, .int .i64 c, .iface t v, .nilIface] _ rfl (At.ofAlloc w #[.int .i64 a, .int .i64 b, .int .i64 c, .iface t v, .nilIface] 125) Tryd.underlying125 rfl (by kernel_rfl)) rfl ?_
  exact ⟨rfl, (Below.refl w.heap.size w).alloc (Nat.le_refl _) _⟩
set_option maxRecDepth 100000 in
set_option maxHeartbeats 1600000 in
theorem ofTag_any (a c : Int) (t : TypeId) (v : Value) (w : World) :
    Calls Tryd.prog 79 #[.int .i64 a, .int .i64 c, .iface t v] w (fun e w' => e = .returned (.agg #[.int .i64 a, .int .i64 0, .int .i64 c, .nilIface, .iface t v]) ∧ Below w.heap.size w w') := by
  go_enter Tryd.func79, Tryd.ntmps79
  go_wp2_with fail
  refine bodyPost_ret (results_at rfl _ w.heap.size [.int .i64 a, .int .i64 0, .int .i64 c, .nilIface, .iface t v] _ rfl (At.ofAlloc w #[.int .i64 a, .int .i64 0, .int .i64 c, .nilIface, .iface t v] 125) Tryd.underlying125 rfl (by kernel_rfl)) rfl ?_
  exact ⟨rfl, (Below.refl w.heap.size w).alloc (Nat.le_refl _) _⟩
set_option maxRecDepth 100000 in
set_option maxHeartbeats 1600000 in
theorem find_1 (w : World) : Calls Tryd.prog 65 #[.int .i64 1] w (RetRow 16 12 16 w) := by
  have CI := Lib.hid (fun a b c t v w => ofCipher_any a b c t v w)
  go_enter Tryd.func65, Tryd.ntmps65
  go_wp2_with fail
  refine (CI.out 16 12 16 _ _ _).mono ?_
  rintro e w1 ⟨rfl, hb1⟩
  have HA := Lib.hid ((At.ofAlloc w #[.int .i64 0, .int .i64 0, .int .i64 0, .nilIface, .nilIface] 125).below hb1 (by simp))
  have HB := Lib.hid (((Below.refl w.heap.size w).alloc (Nat.le_refl _) (Obj.cells #[.int .i64 0, .int .i64 0, .int .i64 0, .nilIface, .nilIface] 125)).trans (hb1.mono (by simp)))
  clear hb1
  obtain ⟨g, hg⟩ : ∃ g, w.heap.size = g := ⟨_, rfl⟩
  rw [hg] at HA HB
  rw [hg]
  have HG := Lib.hid hg
  clear hg
  have c0 := HA.out.cell 0 _ rfl
  have c1 := HA.out.cell 1 _ rfl
  have c2 := HA.out.cell 2 _ rfl
  have c3 := HA.out.cell 3 _ rfl
  have c4 := HA.out.cell 4 _ rfl
  have f0 := HA.out.froz 0 (by decide)
  have f1 := HA.out.froz 1 (by decide)
  have f2 := HA.out.froz 2 (by decide)
  have f3 := HA.out.froz 3 (by decide)
  have f4 := HA.out.froz 4 (by decide)
  go_wp2_with fail
  refine bodyPost_ret (results_at rfl _ g [.int .i64 16, .int .i64 12, .int .i64 16, _, _] _ rfl (fill5 HA.out _ _ _ _ _) Tryd.underlying125 rfl (by kernel_rfl)) rfl ?_
  exact ⟨_, _, rfl, .inl ⟨_, _, rfl, rfl⟩, by rw [HG.out]; exact below5 HB.out (Nat.le_refl _) _ _ _ _ _⟩
set_option maxRecDepth 100000 in
set_option maxHeartbeats 1600000 in
theorem find_2 (w : World) : Calls Tryd.prog 65 #[.int .i64 2] w (RetRow 24 12 16 w) := by
  have CI := Lib.hid (fun a b c t v w => ofCipher_any a b c t v w)
  go_enter Tryd.func65, Tryd.ntmps65
  go_wp2_with fail
  refine (CI.out 24 12 16 _ _ _).mono ?_
  rintro e w1 ⟨rfl, hb1⟩
  have HA := Lib.hid ((At.ofAlloc w #[.int .i64 0, .int .i64 0, .int .i64 0, .nilIface, .nilIface] 125).below hb1 (by simp))
  have HB := Lib.hid (((Below.refl w.heap.size w).alloc (Nat.le_refl _) (Obj.cells #[.int .i64 0, .int .i64 0, .int .i64 0, .nilIface, .nilIface] 125)).trans (hb1.mono (by simp)))
  clear hb1
  obtain ⟨g, hg⟩ : ∃ g, w.heap.size = g := ⟨_, rfl⟩
  rw [hg] at HA HB
  rw [hg]
  have HG := Lib.hid hg
  clear hg
  have c0 := HA.out.cell 0 _ rfl
  have c1 := HA.out.cell 1 _ rfl
  have c2 := HA.out.cell 2 _ rfl
  have c3 := HA.out.cell 3 _ rfl
  have c4 := HA.out.cell 4 _ rfl
  have f0 := HA.out.froz 0 (by decide)
  have f1 := HA.out.froz 1 (by decide)
  have f2 := HA.out.froz 2 (by decide)
  have f3 := HA.out.froz 3 (by decide)
  have f4 := HA.out.froz 4 (by decide)
  go_wp2_with fail
  refine bodyPost_ret (results_at rfl _ g [.int .i64 24, .int .i64 12, .int .i64 16, _, _] _ rfl (fill5 HA.out _ _ _ _ _) Tryd.underlying125 rfl (by kernel_rfl)) rfl ?_
  exact ⟨_, _, rfl, .inl ⟨_, _, rfl, rfl⟩, by rw [HG.out]; exact below5 HB.out (Nat.le_refl _) _ _ _ _ _⟩
set_option maxRecDepth 100000 in
set_option maxHeartbeats 1600000 in
theorem find_3 (w : World) : Calls Tryd.prog 65 #[.int .i64 3] w (RetRow 32 12 16 w) := by
  have CI := Lib.hid (fun a b c t v w => ofCipher_any a b c t v w)
  go_enter Tryd.func65, Tryd.ntmps65
  go_wp2_with fail
  refine (CI.out 32 12 16 _ _ _).mono ?_
  rintro e w1 ⟨rfl, hb1⟩
  have HA := Lib.hid ((At.ofAlloc w #[.int .i64 0, .int .i64 0, .int .i64 0, .nilIface, .nilIface] 125).below hb1 (by simp))
  have HB := Lib.hid (((Below.refl w.heap.size w).alloc (Nat.le_refl _) (Obj.cells #[.int .i64 0, .int .i64 0, .int .i64 0, .nilIface, .nilIface] 125)).trans (hb1.mono (by simp)))
  clear hb1
  obtain ⟨g, hg⟩ : ∃ g, w.heap.size = g := ⟨_, rfl⟩
  rw [hg] at HA HB
  rw [hg]
  have HG := Lib.hid hg
  clear hg
  have c0 := HA.out.cell 0 _ rfl
  have c1 := HA.out.cell 1 _ rfl
  have c2 := HA.out.cell 2 _ rfl
  have c3 := HA.out.cell 3 _ rfl
  have c4 := HA.out.cell 4 _ rfl
  have f0 := HA.out.froz 0 (by decide)
  have f1 := HA.out.froz 1 (by decide)
  have f2 := HA.out.froz 2 (by decide)
  have f3 := HA.out.froz 3 (by decide)
  have f4 := HA.out.froz 4 (by decide)
  go_wp2_with fail
  refine bodyPost_ret (results_at rfl _ g [.int .i64 32, .int .i64 12, .int .i64 16, _, _] _ rfl (fill5 HA.out _ _ _ _ _) Tryd.underlying125 rfl (by kernel_rfl)) rfl ?_
  exact ⟨_, _, rfl, .inl ⟨_, _, rfl, rfl⟩, by rw [HG.out]; exact below5 HB.out (Nat.le_refl _) _ _ _ _ _⟩
set_option maxRecDepth 100000 in
set_option maxHeartbeats 1600000 in
theorem find_4 (w : World) : Calls Tryd.prog 65 #[.int .i64 4] w (RetRow 32 16 16 w) := by
  have CI := Lib.hid (fun a b c t v w => ofCipher_any a b c t v w)
  go_enter Tryd.func65, Tryd.ntmps65
  go_wp2_with fail
  refine (CI.out 32 16 16 _ _ _).mono ?_
  rintro e w1 ⟨rfl, hb1⟩
  have HA := Lib.hid ((At.ofAlloc w #[.int .i64 0, .int .i64 0, .int .i64 0, .nilIface, .nilIface] 125).below hb1 (by simp))
  have HB := Lib.hid (((Below.refl w.heap.size w).alloc (Nat.le_refl _) (Obj.cells #[.int .i64 0, .int .i64 0, .int .i64 0, .nilIface, .nilIface] 125)).trans (hb1.mono (by simp)))
  clear hb1
  obtain ⟨g, hg⟩ : ∃ g, w.heap.size = g := ⟨_, rfl⟩
  rw [hg] at HA HB
  rw [hg]
  have HG := Lib.hid hg
  clear hg
  have c0 := HA.out.cell 0 _ rfl
  have c1 := HA.out.cell 1 _ rfl
  have c2 := HA.out.cell 2 _ rfl
  have c3 := HA.out.cell 3 _ rfl
  have c4 := HA.out.cell 4 _ rfl
  have f0 := HA.out.froz 0 (by decide)
  have f1 := HA.out.froz 1 (by decide)
  have f2 := HA.out.froz 2 (by decide)
  have f3 := HA.out.froz 3 (by decide)
  have f4 := HA.out.froz 4 (by decide)
  go_wp2_with fail
  refine bodyPost_ret (results_at rfl _ g [.int .i64 32, .int .i64 16, .int .i64 16, _, _] _ rfl (fill5 HA.out _ _ _ _ _) Tryd.underlying125 rfl (by kernel_rfl)) rfl ?_
  exact ⟨_, _, rfl, .inl ⟨_, _, rfl, rfl⟩, by rw [HG.out]; exact below5 HB.out (Nat.le_refl _) _ _ _ _ _⟩
set_option maxRecDepth 100000 in
set_option maxHeartbeats 1600000 in
theorem find_5 (w : World) : Calls Tryd.prog 65 #[.int .i64 5] w (RetRow 48 16 24 w) := by
  have CI := Lib.hid (fun a b c t v w => ofCipher_any a b c t v w)
  go_enter Tryd.func65, Tryd.ntmps65
  go_wp2_with fail
  refine (CI.out 48 16 24 _ _ _).mono ?_
  rintro e w1 ⟨rfl, hb1⟩
  have HA := Lib.hid ((At.ofAlloc w #[.int .i64 0, .int .i64 0, .int .i64 0, .nilIface, .nilIface] 125).below hb1 (by simp))
  have HB := Lib.hid (((Below.refl w.heap.size w).alloc (Nat.le_refl _) (Obj.cells #[.int .i64 0, .int .i64 0, .int .i64 0, .nilIface, .nilIface] 125)).trans (hb1.mono (by simp)))
  clear hb1
  obtain ⟨g, hg⟩ : ∃ g, w.heap.size = g := ⟨_, rfl⟩
  rw [hg] at HA HB
  rw [hg]
  have HG := Lib.hid hg
  clear hg
  have c0 := HA.out.cell 0 _ rfl
  have c1 := HA.out.cell 1 _ rfl
  have c2 := HA.out.cell 2 _ rfl
  have c3 := HA.out.cell 3 _ rfl
  have c4 := HA.out.cell 4 _ rfl
  have f0 := HA.out.froz 0 (by decide)
  have f1 := HA.out.froz 1 (by decide)
  have f2 := HA.out.froz 2 (by decide)
  have f3 := HA.out.froz 3 (by decide)
  have f4 := HA.out.froz 4 (by decide)
  go_wp2_with fail
  refine bodyPost_ret (results_at rfl _ g [.int .i64 48, .int .i64 16, .int .i64 24, _, _] _ rfl (fill5 HA.out _ _ _ _ _) Tryd.underlying125 rfl (by kernel_rfl)) rfl ?_
  exact ⟨_, _, rfl, .inl ⟨_, _, rfl, rfl⟩, by rw [HG.out]; exact below5 HB.out (Nat.le_refl _) _ _ _ _ _⟩
set_option maxRecDepth 100000 in
set_option maxHeartbeats 1600000 in
theorem find_6 (w : World) : Calls Tryd.prog 65 #[.int .i64 6] w (RetRow 64 16 32 w) := by
  have CI := Lib.hid (fun a b c t v w => ofCipher_any a b c t v w)
  go_enter Tryd.func65, Tryd.ntmps65
  go_wp2_with fail
  refine (CI.out 64 16 32 _ _ _).mono ?_
  rintro e w1 ⟨rfl, hb1⟩
  have HA := Lib.hid ((At.ofAlloc w #[.int .i64 0, .int .i64 0, .int .i64 0, .nilIface, .nilIface] 125).below hb1 (by simp))
  have HB := Lib.hid (((Below.refl w.heap.size w).alloc (Nat.le_refl _) (Obj.cells #[.int .i64 0, .int .i64 0, .int .i64 0, .nilIface, .nilIface] 125)).trans (hb1.mono (by simp)))
  clear hb1
  obtain ⟨g, hg⟩ : ∃ g, w.heap.size = g := ⟨_, rfl⟩
  rw [hg] at HA HB
  rw [hg]
  have HG := Lib.hid hg
  clear hg
  have c0 := HA.out.cell 0 _ rfl
  have c1 := HA.out.cell 1 _ rfl
  have c2 := HA.out.cell 2 _ rfl
  have c3 := HA.out.cell 3 _ rfl
  have c4 := HA.out.cell 4 _ rfl
  have f0 := HA.out.froz 0 (by decide)
  have f1 := HA.out.froz 1 (by decide)
  have f2 := HA.out.froz 2 (by decide)
  have f3 := HA.out.froz 3 (by decide)
  have f4 := HA.out.froz 4 (by decide)
  go_wp2_with fail
  refine bodyPost_ret (results_at rfl _ g [.int .i64 64, .int .i64 16, .int .i64 32, _, _] _ rfl (fill5 HA.out _ _ _ _ _) Tryd.underlying125 rfl (by kernel_rfl)) rfl ?_
  exact ⟨_, _, rfl, .inl ⟨_, _, rfl, rfl⟩, by rw [HG.out]; exact below5 HB.out (Nat.le_refl _) _ _ _ _ _⟩
set_option maxRecDepth 100000 in
set_option maxHeartbeats 1600000 in
theorem find_10 (w : World) : Calls Tryd.prog 65 #[.int .i64 10] w (RetRow 16 13 8 w) := by
  have CI := Lib.hid (fun a b c t v w => ofCipher_any a b c t v w)
  go_enter Tryd.func65, Tryd.ntmps65
  go_wp2_with fail
  refine (CI.out 16 13 8 _ _ _).mono ?_
  rintro e w1 ⟨rfl, hb1⟩
  have HA := Lib.hid ((At.ofAlloc w #[.int .i64 0, .int .i64 0, .int .i64 0, .nilIface, .nilIface] 125).below hb1 (by simp))
  have HB := Lib.hid (((Below.refl w.heap.size w).alloc (Nat.le_refl _) (Obj.cells #[.int .i64 0, .int .i64 0, .int .i64 0, .nilIface, .nilIface] 125)).trans (hb1.mono (by simp)))
  clear hb1
  obtain ⟨g, hg⟩ : ∃ g, w.heap.size = g := ⟨_, rfl⟩
  rw [hg] at HA HB
  rw [hg]
  have HG := Lib.hid hg
  clear hg
  have c0 := HA.out.cell 0 _ rfl
  have c1 := HA.out.cell 1 _ rfl
  have c2 := HA.out.cell 2 _ rfl
  have c3 := HA.out.cell 3 _ rfl
  have c4 := HA.out.cell 4 _ rfl
  have f0 := HA.out.froz 0 (by decide)
  have f1 := HA.out.froz 1 (by decide)
  have f2 := HA.out.froz 2 (by decide)
  have f3 := HA.out.froz 3 (by decide)
  have f4 := HA.out.froz 4 (by decide)
  go_wp2_with fail
  refine bodyPost_ret (results_at rfl _ g [.int .i64 16, .int .i64 13, .int .i64 8, _, _] _ rfl (fill5 HA.out _ _ _ _ _) Tryd.underlying125 rfl (by kernel_rfl)) rfl ?_
  exact ⟨_, _, rfl, .inl ⟨_, _, rfl, rfl⟩, by rw [HG.out]; exact below5 HB.out (Nat.le_refl _) _ _ _ _ _⟩
set_option maxRecDepth 100000 in
set_option maxHeartbeats 1600000 in
theorem find_11 (w : World) : Calls Tryd.prog 65 #[.int .i64 11] w (RetRow 32 13 8 w) := by
  have CI := Lib.hid (fun a b c t v w => ofCipher_any a b c t v w)
  go_enter Tryd.func65, Tryd.ntmps65
  go_wp2_with fail
  refine (CI.out 32 13 8 _ _ _).mono ?_
  rintro e w1 ⟨rfl, hb1⟩
  have HA := Lib.hid ((At.ofAlloc w #[.int .i64 0, .int .i64 0, .int .i64 0, .nilIface, .nilIface] 125).below hb1 (by simp))
  have HB := Lib.hid (((Below.refl w.heap.size w).alloc (Nat.le_refl _) (Obj.cells #[.int .i64 0, .int .i64 0, .int .i64 0, .nilIface, .nilIface] 125)).trans (hb1.mono (by simp)))
  clear hb1
  obtain ⟨g, hg⟩ : ∃ g, w.heap.size = g := ⟨_, rfl⟩
  rw [hg] at HA HB
  rw [hg]
  have HG := Lib.hid hg
  clear hg
  have c0 := HA.out.cell 0 _ rfl
  have c1 := HA.out.cell 1 _ rfl
  have c2 := HA.out.cell 2 _ rfl
  have c3 := HA.out.cell 3 _ rfl
  have c4 := HA.out.cell 4 _ rfl
  have f0 := HA.out.froz 0 (by decide)
  have f1 := HA.out.froz 1 (by decide)
  have f2 := HA.out.froz 2 (by decide)
  have f3 := HA.out.froz 3 (by decide)
  have f4 := HA.out.froz 4 (by decide)
  go_wp2_with fail
  refine bodyPost_ret (results_at rfl _ g [.int .i64 32, .int .i64 13, .int .i64 8, _, _] _ rfl (fill5 HA.out _ _ _ _ _) Tryd.underlying125 rfl (by kernel_rfl)) rfl ?_
  exact ⟨_, _, rfl, .inl ⟨_, _, rfl, rfl⟩, by rw [HG.out]; exact below5 HB.out (Nat.le_refl _) _ _ _ _ _⟩
set_option maxRecDepth 100000 in
set_option maxHeartbeats 1600000 in
theorem find_12 (w : World) : Calls Tryd.prog 65 #[.int .i64 12] w (RetRow 16 7 8 w) := by
  have CI := Lib.hid (fun a b c t v w => ofCipher_any a b c t v w)
  go_enter Tryd.func65, Tryd.ntmps65
  go_wp2_with fail
  refine (CI.out 16 7 8 _ _ _).mono ?_
  rintro e w1 ⟨rfl, hb1⟩
  have HA := Lib.hid ((At.ofAlloc w #[.int .i64 0, .int .i64 0, .int .i64 0, .nilIface, .nilIface] 125).below hb1 (by simp))
  have HB := Lib.hid (((Below.refl w.heap.size w).alloc (Nat.le_refl _) (Obj.cells #[.int .i64 0, .int .i64 0, .int .i64 0, .nilIface, .nilIface] 125)).trans (hb1.mono (by simp)))
  clear hb1
  obtain ⟨g, hg⟩ : ∃ g, w.heap.size = g := ⟨_, rfl⟩
  rw [hg] at HA HB
  rw [hg]
  have HG := Lib.hid hg
  clear hg
  have c0 := HA.out.cell 0 _ rfl
  have c1 := HA.out.cell 1 _ rfl
  have c2 := HA.out.cell 2 _ rfl
  have c3 := HA.out.cell 3 _ rfl
  have c4 := HA.out.cell 4 _ rfl
  have f0 := HA.out.froz 0 (by decide)
  have f1 := HA.out.froz 1 (by decide)
  have f2 := HA.out.froz 2 (by decide)
  have f3 := HA.out.froz 3 (by decide)
  have f4 := HA.out.froz 4 (by decide)
  go_wp2_with fail
  refine bodyPost_ret (results_at rfl _ g [.int .i64 16, .int .i64 7, .int .i64 8, _, _] _ rfl (fill5 HA.out _ _ _ _ _) Tryd.underlying125 rfl (by kernel_rfl)) rfl ?_
  exact ⟨_, _, rfl, .inl ⟨_, _, rfl, rfl⟩, by rw [HG.out]; exact below5 HB.out (Nat.le_refl _) _ _ _ _ _⟩
set_option maxRecDepth 100000 in
set_option maxHeartbeats 1600000 in
theorem find_13 (w : World) : Calls Tryd.prog 65 #[.int .i64 13] w (RetRow 32 7 8 w) := by
  have CI := Lib.hid (fun a b c t v w => ofCipher_any a b c t v w)
  go_enter Tryd.func65, Tryd.ntmps65
  go_wp2_with fail
  refine (CI.out 32 7 8 _ _ _).mono ?_
  rintro e w1 ⟨rfl, hb1⟩
  have HA := Lib.hid ((At.ofAlloc w #[.int .i64 0, .int .i64 0, .int .i64 0, .nilIface, .nilIface] 125).below hb1 (by simp))
  have HB := Lib.hid (((Below.refl w.heap.size w).alloc (Nat.le_refl _) (Obj.cells #[.int .i64 0, .int .i64 0, .int .i64 0, .nilIface, .nilIface] 125)).trans (hb1.mono (by simp)))
  clear hb1
  obtain ⟨g, hg⟩ : ∃ g, w.heap.size = g := ⟨_, rfl⟩
  rw [hg] at HA HB
  rw [hg]
  have HG := Lib.hid hg
  clear hg
  have c0 := HA.out.cell 0 _ rfl
  have c1 := HA.out.cell 1 _ rfl
  have c2 := HA.out.cell 2 _ rfl
  have c3 := HA.out.cell 3 _ rfl
  have c4 := HA.out.cell 4 _ rfl
  have f0 := HA.out.froz 0 (by decide)
  have f1 := HA.out.froz 1 (by decide)
  have f2 := HA.out.froz 2 (by decide)
  have f3 := HA.out.froz 3 (by decide)
  have f4 := HA.out.froz 4 (by decide)
  go_wp2_with fail
  refine bodyPost_ret (results_at rfl _ g [.int .i64 32, .int .i64 7, .int .i64 8, _, _] _ rfl (fill5 HA.out _ _ _ _ _) Tryd.underlying125 rfl (by kernel_rfl)) rfl ?_
  exact ⟨_, _, rfl, .inl ⟨_, _, rfl, rfl⟩, by rw [HG.out]; exact below5 HB.out (Nat.le_refl _) _ _ _ _ _⟩
set_option maxRecDepth 100000 in
set_option maxHeartbeats 1600000 in
theorem find_30 (w : World) : Calls Tryd.prog 65 #[.int .i64 30] w (RetRow 16 13 16 w) := by
  have CI := Lib.hid (fun a b c t v w => ofCipher_any a b c t v w)
  go_enter Tryd.func65, Tryd.ntmps65
  go_wp2_with fail
  refine (CI.out 16 13 16 _ _ _).mono ?_
  rintro e w1 ⟨rfl, hb1⟩
  have HA := Lib.hid ((At.ofAlloc w #[.int .i64 0, .int .i64 0, .int .i64 0, .nilIface, .nilIface] 125).below hb1 (by simp))
  have HB := Lib.hid (((Below.refl w.heap.size w).alloc (Nat.le_refl _) (Obj.cells #[.int .i64 0, .int .i64 0, .int .i64 0, .nilIface, .nilIface] 125)).trans (hb1.mono (by simp)))
  clear hb1
  obtain ⟨g, hg⟩ : ∃ g, w.heap.size = g := ⟨_, rfl⟩
  rw [hg] at HA HB
  rw [hg]
  have HG := Lib.hid hg
  clear hg
  have c0 := HA.out.cell 0 _ rfl
  have c1 := HA.out.cell 1 _ rfl
  have c2 := HA.out.cell 2 _ rfl
  have c3 := HA.out.cell 3 _ rfl
  have c4 := HA.out.cell 4 _ rfl
  have f0 := HA.out.froz 0 (by decide)
  have f1 := HA.out.froz 1 (by decide)
  have f2 := HA.out.froz 2 (by decide)
  have f3 := HA.out.froz 3 (by decide)
  have f4 := HA.out.froz 4 (by decide)
  go_wp2_with fail
  refine bodyPost_ret (results_at rfl _ g [.int .i64 16, .int .i64 13, .int .i64 16, _, _] _ rfl (fill5 HA.out _ _ _ _ _) Tryd.underlying125 rfl (by kernel_rfl)) rfl ?_
  exact ⟨_, _, rfl, .inl ⟨_, _, rfl, rfl⟩, by rw [HG.out]; exact below5 HB.out (Nat.le_refl _) _ _ _ _ _⟩
set_option maxRecDepth 100000 in
set_option maxHeartbeats 1600000 in
theorem find_31 (w : World) : Calls Tryd.prog 65 #[.int .i64 31] w (RetRow 32 13 16 w) := by
  have CI := Lib.hid (fun a b c t v w => ofCipher_any a b c t v w)
  go_enter Tryd.func65, Tryd.ntmps65
  go_wp2_with fail
  refine (CI.out 32 13 16 _ _ _).mono ?_
  rintro e w1 ⟨rfl, hb1⟩
  have HA := Lib.hid ((At.ofAlloc w #[.int .i64 0, .int .i64 0, .int .i64 0, .nilIface, .nilIface] 125).below hb1 (by simp))
  have HB := Lib.hid (((Below.refl w.heap.size w).alloc (Nat.le_refl _) (Obj.cells #[.int .i64 0, .int .i64 0, .int .i64 0, .nilIface, .nilIface] 125)).trans (hb1.mono (by simp)))
  clear hb1
  obtain ⟨g, hg⟩ : ∃ g, w.heap.size = g := ⟨_, rfl⟩
  rw [hg] at HA HB
  rw [hg]
  have HG := Lib.hid hg
  clear hg
  have c0 := HA.out.cell 0 _ rfl
  have c1 := HA.out.cell 1 _ rfl
  have c2 := HA.out.cell 2 _ rfl
  have c3 := HA.out.cell 3 _ rfl
  have c4 := HA.out.cell 4 _ rfl
  have f0 := HA.out.froz 0 (by decide)
  have f1 := HA.out.froz 1 (by decide)
  have f2 := HA.out.froz 2 (by decide)
  have f3 := HA.out.froz 3 (by decide)
  have f4 := HA.out.froz 4 (by decide)
  go_wp2_with fail
  refine bodyPost_ret (results_at rfl _ g [.int .i64 32, .int .i64 13, .int .i64 16, _, _] _ rfl (fill5 HA.out _ _ _ _ _) Tryd.underlying125 rfl (by kernel_rfl)) rfl ?_
  exact ⟨_, _, rfl, .inl ⟨_, _, rfl, rfl⟩, by rw [HG.out]; exact below5 HB.out (Nat.le_refl _) _ _ _ _ _⟩
set_option maxRecDepth 100000 in
set_option maxHeartbeats 1600000 in
theorem find_32 (w : World) : Calls Tryd.prog 65 #[.int .i64 32] w (RetRow 16 7 16 w) := by
  have CI := Lib.hid (fun a b c t v w => ofCipher_any a b c t v w)
  go_enter Tryd.func65, Tryd.ntmps65
  go_wp2_with fail
  refine (CI.out 16 7 16 _ _ _).mono ?_
  rintro e w1 ⟨rfl, hb1⟩
  have HA := Lib.hid ((At.ofAlloc w #[.int .i64 0, .int .i64 0, .int .i64 0, .nilIface, .nilIface] 125).below hb1 (by simp))
  have HB := Lib.hid (((Below.refl w.heap.size w).alloc (Nat.le_refl _) (Obj.cells #[.int .i64 0, .int .i64 0, .int .i64 0, .nilIface, .nilIface] 125)).trans (hb1.mono (by simp)))
  clear hb1
  obtain ⟨g, hg⟩ : ∃ g, w.heap.size = g := ⟨_, rfl⟩
  rw [hg] at HA HB
  rw [hg]
  have HG := Lib.hid hg
  clear hg
  have c0 := HA.out.cell 0 _ rfl
  have c1 := HA.out.cell 1 _ rfl
  have c2 := HA.out.cell 2 _ rfl
  have c3 := HA.out.cell 3 _ rfl
  have c4 := HA.out.cell 4 _ rfl
  have f0 := HA.out.froz 0 (by decide)
  have f1 := HA.out.froz 1 (by decide)
  have f2 := HA.out.froz 2 (by decide)
  have f3 := HA.out.froz 3 (by decide)
  have f4 := HA.out.froz 4 (by decide)
  go_wp2_with fail
  refine bodyPost_ret (results_at rfl _ g [.int .i64 16, .int .i64 7, .int .i64 16, _, _] _ rfl (fill5 HA.out _ _ _ _ _) Tryd.underlying125 rfl (by kernel_rfl)) rfl ?_
  exact ⟨_, _, rfl, .inl ⟨_, _, rfl, rfl⟩, by rw [HG.out]; exact below5 HB.out (Nat.le_refl _) _ _ _ _ _⟩
set_option maxRecDepth 100000 in
set_option maxHeartbeats 1600000 in
theorem find_33 (w : World) : Calls Tryd.prog 65 #[.int .i64 33] w (RetRow 32 7 16 w) := by
  have CI := Lib.hid (fun a b c t v w => ofCipher_any a b c t v w)
  go_enter Tryd.func65, Tryd.ntmps65
  go_wp2_with fail
  refine (CI.out 32 7 16 _ _ _).mono ?_
  rintro e w1 ⟨rfl, hb1⟩
  have HA := Lib.hid ((At.ofAlloc w #[.int .i64 0, .int .i64 0, .int .i64 0, .nilIface, .nilIface] 125).below hb1 (by simp))
  have HB := Lib.hid (((Below.refl w.heap.size w).alloc (Nat.le_refl _) (Obj.cells #[.int .i64 0, .int .i64 0, .int .i64 0, .nilIface, .nilIface] 125)).trans (hb1.mono (by simp)))
  clear hb1
  obtain ⟨g, hg⟩ : ∃ g, w.heap.size = g := ⟨_, rfl⟩
  rw [hg] at HA HB
  rw [hg]
  have HG := Lib.hid hg
  clear hg
  have c0 := HA.out.cell 0 _ rfl
  have c1 := HA.out.cell 1 _ rfl
  have c2 := HA.out.cell 2 _ rfl
  have c3 := HA.out.cell 3 _ rfl
  have c4 := HA.out.cell 4 _ rfl
  have f0 := HA.out.froz 0 (by decide)
  have f1 := HA.out.froz 1 (by decide)
  have f2 := HA.out.froz 2 (by decide)
  have f3 := HA.out.froz 3 (by decide)
  have f4 := HA.out.froz 4 (by decide)
  go_wp2_with fail
  refine bodyPost_ret (results_at rfl _ g [.int .i64 32, .int .i64 7, .int .i64 16, _, _] _ rfl (fill5 HA.out _ _ _ _ _) Tryd.underlying125 rfl (by kernel_rfl)) rfl ?_
  exact ⟨_, _, rfl, .inl ⟨_, _, rfl, rfl⟩, by rw [HG.out]; exact below5 HB.out (Nat.le_refl _) _ _ _ _ _⟩
set_option maxRecDepth 100000 in
set_option maxHeartbeats 1600000 in
theorem find_104 (w : World) : Calls Tryd.prog 65 #[.int .i64 104] w (RetRow 32 0 8 w) := by
  have CI := Lib.hid (fun a c t v w => ofTag_any a c t v w)
  go_enter Tryd.func65, Tryd.ntmps65
  go_wp2_with fail
  refine (CI.out 32 8 _ _ _).mono ?_
  rintro e w1 ⟨rfl, hb1⟩
  have HA := Lib.hid ((At.ofAlloc w #[.int .i64 0, .int .i64 0, .int .i64 0, .nilIface, .nilIface] 125).below hb1 (by simp))
  have HB := Lib.hid (((Below.refl w.heap.size w).alloc (Nat.le_refl _) (Obj.cells #[.int .i64 0, .int .i64 0, .int .i64 0, .nilIface, .nilIface] 125)).trans (hb1.mono (by simp)))
  clear hb1
  obtain ⟨g, hg⟩ : ∃ g, w.heap.size = g := ⟨_, rfl⟩
  rw [hg] at HA HB
  rw [hg]
  have HG := Lib.hid hg
  clear hg
  have c0 := HA.out.cell 0 _ rfl
  have c1 := HA.out.cell 1 _ rfl
  have c2 := HA.out.cell 2 _ rfl
  have c3 := HA.out.cell 3 _ rfl
  have c4 := HA.out.cell 4 _ rfl
  have f0 := HA.out.froz 0 (by decide)
  have f1 := HA.out.froz 1 (by decide)
  have f2 := HA.out.froz 2 (by decide)
  have f3 := HA.out.froz 3 (by decide)
  have f4 := HA.out.froz 4 (by decide)
  go_wp2_with fail
  refine bodyPost_ret (results_at rfl _ g [.int .i64 32, .int .i64 0, .int .i64 8, _, _] _ rfl (fill5 HA.out _ _ _ _ _) Tryd.underlying125 rfl (by kernel_rfl)) rfl ?_
  exact ⟨_, _, rfl, .inr (.inl ⟨_, _, rfl, rfl⟩), by rw [HG.out]; exact below5 HB.out (Nat.le_refl _) _ _ _ _ _⟩
set_option maxRecDepth 100000 in
set_option maxHeartbeats 1600000 in
theorem find_105 (w : World) : Calls Tryd.prog 65 #[.int .i64 105] w (RetRow 32 0 32 w) := by
  have CI := Lib.hid (fun a c t v w => ofTag_any a c t v w)
  go_enter Tryd.func65, Tryd.ntmps65
  go_wp2_with fail
  refine (CI.out 32 32 _ _ _).mono ?_
  rintro e w1 ⟨rfl, hb1⟩
  have HA := Lib.hid ((At.ofAlloc w #[.int .i64 0, .int .i64 0, .int .i64 0, .nilIface, .nilIface] 125).below hb1 (by simp))
  have HB := Lib.hid (((Below.refl w.heap.size w).alloc (Nat.le_refl _) (Obj.cells #[.int .i64 0, .int .i64 0, .int .i64 0, .nilIface, .nilIface] 125)).trans (hb1.mono (by simp)))
  clear hb1
  obtain ⟨g, hg⟩ : ∃ g, w.heap.size = g := ⟨_, rfl⟩
  rw [hg] at HA HB
  rw [hg]
  have HG := Lib.hid hg
  clear hg
  have c0 := HA.out.cell 0 _ rfl
  have c1 := HA.out.cell 1 _ rfl
  have c2 := HA.out.cell 2 _ rfl
  have c3 := HA.out.cell 3 _ rfl
  have c4 := HA.out.cell 4 _ rfl
  have f0 := HA.out.froz 0 (by decide)
  have f1 := HA.out.froz 1 (by decide)
  have f2 := HA.out.froz 2 (by decide)
  have f3 := HA.out.froz 3 (by decide)
  have f4 := HA.out.froz 4 (by decide)
  go_wp2_with fail
  refine bodyPost_ret (results_at rfl _ g [.int .i64 32, .int .i64 0, .int .i64 32, _, _] _ rfl (fill5 HA.out _ _ _ _ _) Tryd.underlying125 rfl (by kernel_rfl)) rfl ?_
  exact ⟨_, _, rfl, .inr (.inl ⟨_, _, rfl, rfl⟩), by rw [HG.out]; exact below5 HB.out (Nat.le_refl _) _ _ _ _ _⟩
set_option maxRecDepth 100000 in
set_option maxHeartbeats 1600000 in
theorem find_106 (w : World) : Calls Tryd.prog 65 #[.int .i64 106] w (RetRow 48 0 48 w) := by
  have CI := Lib.hid (fun a c t v w => ofTag_any a c t v w)
  go_enter Tryd.func65, Tryd.ntmps65
  go_wp2_with fail
  refine (CI.out 48 48 _ _ _).mono ?_
  rintro e w1 ⟨rfl, hb1⟩
  have HA := Lib.hid ((At.ofAlloc w #[.int .i64 0, .int .i64 0, .int .i64 0, .nilIface, .nilIface] 125).below hb1 (by simp))
  have HB := Lib.hid (((Below.refl w.heap.size w).alloc (Nat.le_refl _) (Obj.cells #[.int .i64 0, .int .i64 0, .int .i64 0, .nilIface, .nilIface] 125)).trans (hb1.mono (by simp)))
  clear hb1
  obtain ⟨g, hg⟩ : ∃ g, w.heap.size = g := ⟨_, rfl⟩
  rw [hg] at HA HB
  rw [hg]
  have HG := Lib.hid hg
  clear hg
  have c0 := HA.out.cell 0 _ rfl
  have c1 := HA.out.cell 1 _ rfl
  have c2 := HA.out.cell 2 _ rfl
  have c3 := HA.out.cell 3 _ rfl
  have c4 := HA.out.cell 4 _ rfl
  have f0 := HA.out.froz 0 (by decide)
  have f1 := HA.out.froz 1 (by decide)
  have f2 := HA.out.froz 2 (by decide)
  have f3 := HA.out.froz 3 (by decide)
  have f4 := HA.out.froz 4 (by decide)
  go_wp2_with fail
  refine bodyPost_ret (results_at rfl _ g [.int .i64 48, .int .i64 0, .int .i64 48, _, _] _ rfl (fill5 HA.out _ _ _ _ _) Tryd.underlying125 rfl (by kernel_rfl)) rfl ?_
  exact ⟨_, _, rfl, .inr (.inl ⟨_, _, rfl, rfl⟩), by rw [HG.out]; exact below5 HB.out (Nat.le_refl _) _ _ _ _ _⟩
set_option maxRecDepth 100000 in
set_option maxHeartbeats 1600000 in
theorem find_107 (w : World) : Calls Tryd.prog 65 #[.int .i64 107] w (RetRow 64 0 64 w) := by
  have CI := Lib.hid (fun a c t v w => ofTag_any a c t v w)
  go_enter Tryd.func65, Tryd.ntmps65
  go_wp2_with fail
  refine (CI.out 64 64 _ _ _).mono ?_
  rintro e w1 ⟨rfl, hb1⟩
  have HA := Lib.hid ((At.ofAlloc w #[.int .i64 0, .int .i64 0, .int .i64 0, .nilIface, .nilIface] 125).below hb1 (by simp))
  have HB := Lib.hid (((Below.refl w.heap.size w).alloc (Nat.le_refl _) (Obj.cells #[.int .i64 0, .int .i64 0, .int .i64 0, .nilIface, .nilIface] 125)).trans (hb1.mono (by simp)))
  clear hb1
  obtain ⟨g, hg⟩ : ∃ g, w.heap.size = g := ⟨_, rfl⟩
  rw [hg] at HA HB
  rw [hg]
  have HG := Lib.hid hg
  clear hg
  have c0 := HA.out.cell 0 _ rfl
  have c1 := HA.out.cell 1 _ rfl
  have c2 := HA.out.cell 2 _ rfl
  have c3 := HA.out.cell 3 _ rfl
  have c4 := HA.out.cell 4 _ rfl
  have f0 := HA.out.froz 0 (by decide)
  have f1 := HA.out.froz 1 (by decide)
  have f2 := HA.out.froz 2 (by decide)
  have f3 := HA.out.froz 3 (by decide)
  have f4 := HA.out.froz 4 (by decide)
  go_wp2_with fail
  refine bodyPost_ret (results_at rfl _ g [.int .i64 64, .int .i64 0, .int .i64 64, _, _] _ rfl (fill5 HA.out _ _ _ _ _) Tryd.underlying125 rfl (by kernel_rfl)) rfl ?_
  exact ⟨_, _, rfl, .inr (.inl ⟨_, _, rfl, rfl⟩), by rw [HG.out]; exact below5 HB.out (Nat.le_refl _) _ _ _ _ _⟩
set_option maxRecDepth 100000 in
set_option maxHeartbeats 1600000 in
theorem find_114 (w : World) : Calls Tryd.prog 65 #[.int .i64 114] w (RetRow 16 0 8 w) := by
  have CI := Lib.hid (fun a c t v w => ofTag_any a c t v w)
  go_enter Tryd.func65, Tryd.ntmps65
  go_wp2_with fail
  refine (CI.out 16 8 _ _ _).mono ?_
  rintro e w1 ⟨rfl, hb1⟩
  have HA := Lib.hid ((At.ofAlloc w #[.int .i64 0, .int .i64 0, .int .i64 0, .nilIface, .nilIface] 125).below hb1 (by simp))
  have HB := Lib.hid (((Below.refl w.heap.size w).alloc (Nat.le_refl _) (Obj.cells #[.int .i64 0, .int .i64 0, .int .i64 0, .nilIface, .nilIface] 125)).trans (hb1.mono (by simp)))
  clear hb1
  obtain ⟨g, hg⟩ : ∃ g, w.heap.size = g := ⟨_, rfl⟩
  rw [hg] at HA HB
  rw [hg]
  have HG := Lib.hid hg
  clear hg
  have c0 := HA.out.cell 0 _ rfl
  have c1 := HA.out.cell 1 _ rfl
  have c2 := HA.out.cell 2 _ rfl
  have c3 := HA.out.cell 3 _ rfl
  have c4 := HA.out.cell 4 _ rfl
  have f0 := HA.out.froz 0 (by decide)
  have f1 := HA.out.froz 1 (by decide)
  have f2 := HA.out.froz 2 (by decide)
  have f3 := HA.out.froz 3 (by decide)
  have f4 := HA.out.froz 4 (by decide)
  go_wp2_with fail
  refine bodyPost_ret (results_at rfl _ g [.int .i64 16, .int .i64 0, .int .i64 8, _, _] _ rfl (fill5 HA.out _ _ _ _ _) Tryd.underlying125 rfl (by kernel_rfl)) rfl ?_
  exact ⟨_, _, rfl, .inr (.inl ⟨_, _, rfl, rfl⟩), by rw [HG.out]; exact below5 HB.out (Nat.le_refl _) _ _ _ _ _⟩
set_option maxRecDepth 100000 in
set_option maxHeartbeats 1600000 in
theorem find_115 (w : World) : Calls Tryd.prog 65 #[.int .i64 115] w (RetRow 32 0 8 w) := by
  have CI := Lib.hid (fun a c t v w => ofTag_any a c t v w)
  go_enter Tryd.func65, Tryd.ntmps65
  go_wp2_with fail
  refine (CI.out 32 8 _ _ _).mono ?_
  rintro e w1 ⟨rfl, hb1⟩
  have HA := Lib.hid ((At.ofAlloc w #[.int .i64 0, .int .i64 0, .int .i64 0, .nilIface, .nilIface] 125).below hb1 (by simp))
  have HB := Lib.hid (((Below.refl w.heap.size w).alloc (Nat.le_refl _) (Obj.cells #[.int .i64 0, .int .i64 0, .int .i64 0, .nilIface, .nilIface] 125)).trans (hb1.mono (by simp)))
  clear hb1
  obtain ⟨g, hg⟩ : ∃ g, w.heap.size = g := ⟨_, rfl⟩
  rw [hg] at HA HB
  rw [hg]
  have HG := Lib.hid hg
  clear hg
  have c0 := HA.out.cell 0 _ rfl
  have c1 := HA.out.cell 1 _ rfl
  have c2 := HA.out.cell 2 _ rfl
  have c3 := HA.out.cell 3 _ rfl
  have c4 := HA.out.cell 4 _ rfl
  have f0 := HA.out.froz 0 (by decide)
  have f1 := HA.out.froz 1 (by decide)
  have f2 := HA.out.froz 2 (by decide)
  have f3 := HA.out.froz 3 (by decide)
  have f4 := HA.out.froz 4 (by decide)
  go_wp2_with fail
  refine bodyPost_ret (results_at rfl _ g [.int .i64 32, .int .i64 0, .int .i64 8, _, _] _ rfl (fill5 HA.out _ _ _ _ _) Tryd.underlying125 rfl (by kernel_rfl)) rfl ?_
  exact ⟨_, _, rfl, .inr (.inl ⟨_, _, rfl, rfl⟩), by rw [HG.out]; exact below5 HB.out (Nat.le_refl _) _ _ _ _ _⟩
set_option maxRecDepth 100000 in
set_option maxHeartbeats 1600000 in
theorem find_125 (w : World) : Calls Tryd.prog 65 #[.int .i64 125] w (RetRow 16 0 16 w) := by
  have CI := Lib.hid (fun a c t v w => ofTag_any a c t v w)
  go_enter Tryd.func65, Tryd.ntmps65
  go_wp2_with fail
  refine (CI.out 16 16 _ _ _).mono ?_
  rintro e w1 ⟨rfl, hb1⟩
  have HA := Lib.hid ((At.ofAlloc w #[.int .i64 0, .int .i64 0, .int .i64 0, .nilIface, .nilIface] 125).below hb1 (by simp))
  have HB := Lib.hid (((Below.refl w.heap.size w).alloc (Nat.le_refl _) (Obj.cells #[.int .i64 0, .int .i64 0, .int .i64 0, .nilIface, .nilIface] 125)).trans (hb1.mono (by simp)))
  clear hb1
  obtain ⟨g, hg⟩ : ∃ g, w.heap.size = g := ⟨_, rfl⟩
  rw [hg] at HA HB
  rw [hg]
  have HG := Lib.hid hg
  clear hg
  have c0 := HA.out.cell 0 _ rfl
  have c1 := HA.out.cell 1 _ rfl
  have c2 := HA.out.cell 2 _ rfl
  have c3 := HA.out.cell 3 _ rfl
  have c4 := HA.out.cell 4 _ rfl
  have f0 := HA.out.froz 0 (by decide)
  have f1 := HA.out.froz 1 (by decide)
  have f2 := HA.out.froz 2 (by decide)
  have f3 := HA.out.froz 3 (by decide)
  have f4 := HA.out.froz 4 (by decide)
  go_wp2_with fail
  refine bodyPost_ret (results_at rfl _ g [.int .i64 16, .int .i64 0, .int .i64 16, _, _] _ rfl (fill5 HA.out _ _ _ _ _) Tryd.underlying125 rfl (by kernel_rfl)) rfl ?_
  exact ⟨_, _, rfl, .inr (.inl ⟨_, _, rfl, rfl⟩), by rw [HG.out]; exact below5 HB.out (Nat.le_refl _) _ _ _ _ _⟩
set_option maxRecDepth 100000 in
set_option maxHeartbeats 1600000 in
theorem find_126 (w : World) : Calls Tryd.prog 65 #[.int .i64 126] w (RetRow 32 0 16 w) := by
  have CI := Lib.hid (fun a c t v w => ofTag_any a c t v w)
  go_enter Tryd.func65, Tryd.ntmps65
  go_wp2_with fail
  refine (CI.out 32 16 _ _ _).mono ?_
  rintro e w1 ⟨rfl, hb1⟩
  have HA := Lib.hid ((At.ofAlloc w #[.int .i64 0, .int .i64 0, .int .i64 0, .nilIface, .nilIface] 125).below hb1 (by simp))
  have HB := Lib.hid (((Below.refl w.heap.size w).alloc (Nat.le_refl _) (Obj.cells #[.int .i64 0, .int .i64 0, .int .i64 0, .nilIface, .nilIface] 125)).trans (hb1.mono (by simp)))
  clear hb1
  obtain ⟨g, hg⟩ : ∃ g, w.heap.size = g := ⟨_, rfl⟩
  rw [hg] at HA HB
  rw [hg]
  have HG := Lib.hid hg
  clear hg
  have c0 := HA.out.cell 0 _ rfl
  have c1 := HA.out.cell 1 _ rfl
  have c2 := HA.out.cell 2 _ rfl
  have c3 := HA.out.cell 3 _ rfl
  have c4 := HA.out.cell 4 _ rfl
  have f0 := HA.out.froz 0 (by decide)
  have f1 := HA.out.froz 1 (by decide)
  have f2 := HA.out.froz 2 (by decide)
  have f3 := HA.out.froz 3 (by decide)
  have f4 := HA.out.froz 4 (by decide)
  go_wp2_with fail
  refine bodyPost_ret (results_at rfl _ g [.int .i64 32, .int .i64 0, .int .i64 16, _, _] _ rfl (fill5 HA.out _ _ _ _ _) Tryd.underlying125 rfl (by kernel_rfl)) rfl ?_
  exact ⟨_, _, rfl, .inr (.inl ⟨_, _, rfl, rfl⟩), by rw [HG.out]; exact below5 HB.out (Nat.le_refl _) _ _ _ _ _⟩
set_option maxRecDepth 100000 in
set_option maxHeartbeats 1600000 in
theorem find_none (n : Int) (w : World) (h1 : ¬ n = 1) (h2 : ¬ n = 2) (h3 : ¬ n = 3) (h4 : ¬ n = 4) (h5 : ¬ n = 5) (h6 : ¬ n = 6) (h10 : ¬ n = 10) (h11 : ¬ n = 11) (h12 : ¬ n = 12) (h13 : ¬ n = 13) (h30 : ¬ n = 30) (h31 : ¬ n = 31) (h32 : ¬ n = 32) (h33 : ¬ n = 33) (h104 : ¬ n = 104) (h105 : ¬ n = 105) (h106 : ¬ n = 106) (h107 : ¬ n = 107) (h114 : ¬ n = 114) (h115 : ¬ n = 115) (h125 : ¬ n = 125) (h126 : ¬ n = 126) : Calls Tryd.prog 65 #[.int .i64 n] w (RetRow 0 0 0 w) := by
  go_enter Tryd.func65, Tryd.ntmps65
  go_wp2_with fail
  refine bodyPost_ret (results_at rfl _ w.heap.size [.int .i64 0, .int .i64 0, .int .i64 0, .nilIface, .nilIface] _ rfl (At.ofAlloc w #[.int .i64 0, .int .i64 0, .int .i64 0, .nilIface, .nilIface] 125) Tryd.underlying125 rfl (by kernel_rfl)) rfl ?_
  exact ⟨_, _, rfl, .inr (.inr ⟨rfl, rfl⟩), (Below.refl w.heap.size w).alloc (Nat.le_refl _) _⟩
/-- a number's row, or none -/
def rowZ (n : Int) : Int × Int × Int := match rowOf n with
  | none => (0, 0, 0)
  | some r => r
theorem find_all (n : Int) (w : World) : Calls Tryd.prog 65 #[.int .i64 n] w (RetRow (rowZ n).1 (rowZ n).2.1 (rowZ n).2.2 w) := by
  by_cases h1 : n = 1
  · subst h1; exact find_1 w
  by_cases h2 : n = 2
  · subst h2; exact find_2 w
  by_cases h3 : n = 3
  · subst h3; exact find_3 w
  by_cases h4 : n = 4
  · subst h4; exact find_4 w
  by_cases h5 : n = 5
  · subst h5; exact find_5 w
  by_cases h6 : n = 6
  · subst h6; exact find_6 w
  by_cases h10 : n = 10
  · subst h10; exact find_10 w
  by_cases h11 : n = 11
  · subst h11; exact find_11 w
  by_cases h12 : n = 12
  · subst h12; exact find_12 w
  by_cases h13 : n = 13
  · subst h13; exact find_13 w
  by_cases h30 : n = 30
  · subst h30; exact find_30 w
  by_cases h31 : n = 31
  · subst h31; exact find_31 w
  by_cases h32 : n = 32
  · subst h32; exact find_32 w
  by_cases h33 : n = 33
  · subst h33; exact find_33 w
  by_cases h104 : n = 104
  · subst h104; exact find_104 w
  by_cases h105 : n = 105
  · subst h105; exact find_105 w
  by_cases h106 : n = 106
  · subst h106; exact find_106 w
  by_cases h107 : n = 107
  · subst h107; exact find_107 w
  by_cases h114 : n = 114
  · subst h114; exact find_114 w
  by_cases h115 : n = 115
  · subst h115; exact find_115 w
  by_cases h125 : n = 125
  · subst h125; exact find_125 w
  by_cases h126 : n = 126
  · subst h126; exact find_126 w
  have h : rowOf n = none := by rw [rowOf, if_neg h1, if_neg h2, if_neg h3, if_neg h4, if_neg h5, if_neg h6, if_neg h10, if_neg h11, if_neg h12, if_neg h13, if_neg h30, if_neg h31, if_neg h32, if_neg h33, if_neg h104, if_neg h105, if_neg h106, if_neg h107, if_neg h114, if_neg h115, if_neg h125, if_neg h126]
  rw [rowZ, h]
  exact find_none n w h1 h2 h3 h4 h5 h6 h10 h11 h12 h13 h30 h31 h32 h33 h104 h105 h106 h107 h114 h115 h125 h126
theorem row_cases (n : Int) : rowOf n = none ∨ n = 1 ∨ n = 2 ∨ n = 3 ∨ n = 4 ∨ n = 5 ∨ n = 6 ∨ n = 10 ∨ n = 11 ∨ n = 12 ∨ n = 13 ∨ n = 30 ∨ n = 31 ∨ n = 32 ∨ n = 33 ∨ n = 104 ∨ n = 105 ∨ n = 106 ∨ n = 107 ∨ n = 114 ∨ n = 115 ∨ n = 125 ∨ n = 126 := by
  by_cases h1 : n = 1
  · subst h1; decide
  by_cases h2 : n = 2
  · subst h2; decide
  by_cases h3 : n = 3
  · subst h3; decide
  by_cases h4 : n = 4
  · subst h4; decide
  by_cases h5 : n = 5
  · subst h5; decide
  by_cases h6 : n = 6
  · subst h6; decide
  by_cases h10 : n = 10
  · subst h10; decide
  by_cases h11 : n = 11
  · subst h11; decide
  by_cases h12 : n = 12
  · subst h12; decide
  by_cases h13 : n = 13
  · subst h13; decide
  by_cases h30 : n = 30
  · subst h30; decide
  by_cases h31 : n = 31
  · subst h31; decide
  by_cases h32 : n = 32
  · subst h32; decide
  by_cases h33 : n = 33
  · subst h33; decide
  by_cases h104 : n = 104
  · subst h104; decide
  by_cases h105 : n = 105
  · subst h105; decide
  by_cases h106 : n = 106
  · subst h106; decide
  by_cases h107 : n = 107
  · subst h107; decide
  by_cases h114 : n = 114
  · subst h114; decide
  by_cases h115 : n = 115
  · subst h115; decide
  by_cases h125 : n = 125
  · subst h125; decide
  by_cases h126 : n = 126
  · subst h126; decide
  exact .inl (by rw [rowOf, if_neg h1, if_neg h2, if_neg h3, if_neg h4, if_neg h5, if_neg h6, if_neg h10, if_neg h11, if_neg h12, if_neg h13, if_neg h30, if_neg h31, if_neg h32, if_neg h33, if_neg h104, if_neg h105, if_neg h106, if_neg h107, if_neg h114, if_neg h115, if_neg h125, if_neg h126])
theorem row_key {n : Int} (h : rowOf n ≠ none) : (rowZ n).1 ≠ 0 ∧ 0 ≤ (rowZ n).2.1 ∧ 0 ≤ (rowZ n).2.2 ∧ (rowZ n).2.2 ≤ 64 ∧ (rowZ n).2.1 ≤ 16 := by
  rcases row_cases n with h0 | h0 | h0 | h0 | h0 | h0 | h0 | h0 | h0 | h0 | h0 | h0 | h0 | h0 | h0 | h0 | h0 | h0 | h0 | h0 | h0 | h0 | h0
  · exact absurd h0 h
  all_goals (subst h0; decide)
end Ce
end Go.Proofs.YtikgonlhdkknkaaDoor
namespace Go.Proofs.YtikgonlhdkknkaaDoor
open Go.RowKit
set_option linter.unusedVariables false
set_option linter.unusedSimpArgs false
namespace Ce
def RetOf (n : Int) (w : World) (e : Ending) (w' : World) : Prop := e = .returned (.tuple #[.agg #[.int .i64 (rowZ n).1, .int .i64 (rowZ n).2.1, .int .i64 (rowZ n).2.2], .int .i64 (if rowOf n = none then 11 else 0)]) ∧ Below w.heap.size w w'
theorem fill3 {w : World} {T : Nat} {z0 z1 z2 : Value} (h : At w T 0 [z0, z1, z2]) (v0 v1 v2 : Value) : At (((w.setCell ⟨T, 0, none⟩ v0).setCell ⟨T, 1, none⟩ v1).setCell ⟨T, 2, none⟩ v2) T 0 [v0, v1, v2] := ((h.set 0 v0).set 1 v1).set 2 v2
theorem below3 {w0 w : World} {T B : Nat} (hb : Below B w0 w) (hT : B ≤ T) (v0 v1 v2 : Value) : Below B w0 (((w.setCell ⟨T, 0, none⟩ v0).setCell ⟨T, 1, none⟩ v1).setCell ⟨T, 2, none⟩ v2) := ((hb.setCell (p := ⟨T, 0, none⟩) hT v0).setCell (p := ⟨T, 1, none⟩) hT v1).setCell (p := ⟨T, 2, none⟩) hT v2
set_option maxRecDepth 100000 in
set_option maxHeartbeats 1600000 in
theorem of_any (n : Int) (w : World) : Calls Tryd.prog 46 #[.int .i64 n] w (RetOf n w) := by
  have FI := Lib.hid (fun w => find_all n w)
  obtain ⟨k, hk⟩ : ∃ k, (rowZ n).1 = k := ⟨_, rfl⟩
  obtain ⟨iv, hiv⟩ : ∃ k, (rowZ n).2.1 = k := ⟨_, rfl⟩
  obtain ⟨tg, htg⟩ : ∃ k, (rowZ n).2.2 = k := ⟨_, rfl⟩
  have HE : Hid ((k = 0 → rowOf n = none ∧ iv = 0 ∧ tg = 0) ∧ (k ≠ 0 → rowOf n ≠ none)) := by
    show _ ∧ _
    subst hk hiv htg
    refine ⟨fun h => ?_, fun h h0 => h (by rw [rowZ, h0])⟩
    cases hr : rowOf n with
    | none => rw [rowZ, hr]; exact ⟨rfl, rfl, rfl⟩
    | some r => exact absurd h (row_key (n := n) (by rw [hr]; simp)).1
  unfold RetOf
  rw [hk, hiv, htg]
  simp only [hk, hiv, htg] at FI
  have HL0 := Lib.hid (At.ofAlloc w #[.int .i64 0, .int .i64 0, .int .i64 0] 100)
  have HB0 := Lib.hid ((Below.refl w.heap.size w).alloc (Nat.le_refl _) (Obj.cells #[.int .i64 0, .int .i64 0, .int .i64 0] 100))
  obtain ⟨g, hg⟩ : ∃ g, w.heap.size = g := ⟨_, rfl⟩
  rw [hg] at HL0 HB0
  have HG := Lib.hid hg
  clear hk hiv htg
  go_enter Tryd.func46, Tryd.ntmps46
  go_wp2_with fail
  try rw [hg]
  clear hg
  obtain ⟨w0, hw0⟩ : ∃ x, w.alloc (Obj.cells #[.int .i64 0, .int .i64 0, .int .i64 0] 100) = x := ⟨_, rfl⟩
  have HS0 : Hid (g < w0.heap.size) := by show g < _; rw [← hw0, ← HG.out]; simp
  rw [hw0] at HL0 HB0
  rw [hw0]
  clear hw0
  refine (FI.out _).mono ?_
  rintro e w1 ⟨x, y, rfl, hxy, hb1⟩
  have HL1 := Lib.hid (HL0.out.below hb1 HS0.out)
  have HB1 : Hid (Below g w w1) := HB0.out.trans (hb1.mono (Nat.le_of_lt HS0.out))
  have HS1 : Hid (g < w1.heap.size) := Nat.lt_of_lt_of_le HS0.out hb1.size
  clear hb1
  have c0 := (HL1.out.alloc (Obj.cells #[.int .i64 k, .int .i64 iv, .int .i64 tg, x, y] 125)).cell 0 _ rfl
  have c1 := (HL1.out.alloc (Obj.cells #[.int .i64 k, .int .i64 iv, .int .i64 tg, x, y] 125)).cell 1 _ rfl
  have c2 := (HL1.out.alloc (Obj.cells #[.int .i64 k, .int .i64 iv, .int .i64 tg, x, y] 125)).cell 2 _ rfl
  have f0 := (HL1.out.alloc (Obj.cells #[.int .i64 k, .int .i64 iv, .int .i64 tg, x, y] 125)).froz 0 (by decide)
  have f1 := (HL1.out.alloc (Obj.cells #[.int .i64 k, .int .i64 iv, .int .i64 tg, x, y] 125)).froz 1 (by decide)
  have f2 := (HL1.out.alloc (Obj.cells #[.int .i64 k, .int .i64 iv, .int .i64 tg, x, y] 125)).froz 2 (by decide)
  have HL2 := Lib.hid (HL1.out.alloc (Obj.cells #[.int .i64 k, .int .i64 iv, .int .i64 tg, x, y] 125))
  have HB2 := Lib.hid (HB1.out.alloc (Nat.le_of_lt HS1.out) (Obj.cells #[.int .i64 k, .int .i64 iv, .int .i64 tg, x, y] 125))
  by_cases hk : k = 0
  · obtain ⟨hN, rfl, rfl⟩ := HE.out.1 hk
    subst hk
    have HN := Lib.hid hN
    clear hN
    rcases hxy with ⟨T, z, rfl, rfl⟩ | ⟨T, z, rfl, rfl⟩ | ⟨rfl, rfl⟩
    all_goals
      go_wp2_with fail
      refine bodyPost_ret (results_at_two rfl _ g [.int .i64 0, .int .i64 0, .int .i64 0] _ rfl (fill3 HL2.out _ _ _) Tryd.underlying100 rfl (by kernel_rfl) _ rfl) rfl ?_
      exact ⟨by first | rfl | (rw [if_pos HN.out]; rfl), by rw [HG.out]; exact below3 HB2.out (Nat.le_refl _) _ _ _⟩
  · have HN := Lib.hid (HE.out.2 hk)
    rcases hxy with ⟨T, z, rfl, rfl⟩ | ⟨T, z, rfl, rfl⟩ | ⟨rfl, rfl⟩
    all_goals
      go_wp2_with fail
      refine bodyPost_ret (results_at_two rfl _ g [.int .i64 k, .int .i64 iv, .int .i64 tg] _ rfl (fill3 HL2.out _ _ _) Tryd.underlying100 rfl (by kernel_rfl) _ rfl) rfl ?_
      exact ⟨by first | rfl | (rw [if_neg HN.out]; rfl), by rw [HG.out]; exact below3 HB2.out (Nat.le_refl _) _ _ _⟩
theorem fmt_row (n : Int) : fmtOf n = if rowOf n = none ∨ 4 ≤ n ∧ n ≤ 6 then 0 else if (rowZ n).2.1 = 0 then 6 else 5 := by
  rw [fmtOf, rowZ]
  cases rowOf n with
  | none => simp
  | some r =>
    simp only [reduceCtorEq, false_or]
set_option maxRecDepth 100000 in
set_option maxHeartbeats 1600000 in
theorem formatOf_any (n : Int) (w : World) : Calls Tryd.prog 28 #[.int .i64 n] w (fun e w' => e = .returned (.int .i64 (fmtOf n)) ∧ Below w.heap.size w w') := by
  have OF := Lib.hid (fun w => of_any n w)
  unfold RetOf at OF
  rw [fmt_row]
  obtain ⟨k, hk⟩ : ∃ k, (rowZ n).1 = k := ⟨_, rfl⟩
  obtain ⟨iv, hiv⟩ : ∃ k, (rowZ n).2.1 = k := ⟨_, rfl⟩
  obtain ⟨tg, htg⟩ : ∃ k, (rowZ n).2.2 = k := ⟨_, rfl⟩
  rw [hk, hiv, htg] at OF
  rw [hiv]
  clear hk hiv htg
  by_cases hN : rowOf n = none
  · simp only [hN, if_true, true_or] at OF ⊢
    clear hN
    go_enter Tryd.func28, Tryd.ntmps28
    go_wp2_with fail
    refine (OF.out _).mono ?_
    rintro e w1 ⟨rfl, hb1⟩
    have HB1 := Lib.hid hb1
    clear hb1
    go_wp2_with fail
    go_ret
    exact ⟨rfl, HB1.out.alloc HB1.out.size _⟩
  · simp only [hN, if_false, false_or] at OF ⊢
    clear hN
    by_cases h4 : 4 ≤ n
    · have e4 : decide (4 ≤ n) = true := decide_eq_true h4
      by_cases h6 : n ≤ 6
      · rw [if_pos ⟨h4, h6⟩]
        have e6 : decide (n ≤ 6) = true := decide_eq_true h6
        go_enter Tryd.func28, Tryd.ntmps28
        go_wp2_with fail
        refine (OF.out _).mono ?_
        rintro e w1 ⟨rfl, hb1⟩
        have HB1 := Lib.hid hb1
        clear hb1
        go_wp2_with fail
        go_ret
        exact ⟨rfl, HB1.out.alloc HB1.out.size _⟩
      · rw [if_neg (fun h => h6 h.2)]
        have e6 : decide (n ≤ 6) = false := decide_eq_false h6
        by_cases h0 : iv = 0
        · rw [if_pos h0]
          subst h0
          go_enter Tryd.func28, Tryd.ntmps28
          go_wp2_with fail
          refine (OF.out _).mono ?_
          rintro e w1 ⟨rfl, hb1⟩
          have HB1 := Lib.hid hb1
          clear hb1
          go_wp2_with fail
          go_ret
          exact ⟨rfl, HB1.out.alloc HB1.out.size _⟩
        · rw [if_neg h0]
          go_enter Tryd.func28, Tryd.ntmps28
          go_wp2_with fail
          refine (OF.out _).mono ?_
          rintro e w1 ⟨rfl, hb1⟩
          have HB1 := Lib.hid hb1
          clear hb1
          go_wp2_with fail
          go_ret
          exact ⟨rfl, HB1.out.alloc HB1.out.size _⟩
    · rw [if_neg (fun h => h4 h.1)]
      have e4 : decide (4 ≤ n) = false := decide_eq_false h4
      by_cases h0 : iv = 0
      · rw [if_pos h0]
        subst h0
        go_enter Tryd.func28, Tryd.ntmps28
        go_wp2_with fail
        refine (OF.out _).mono ?_
        rintro e w1 ⟨rfl, hb1⟩
        have HB1 := Lib.hid hb1
        clear hb1
        go_wp2_with fail
        go_ret
        exact ⟨rfl, HB1.out.alloc HB1.out.size _⟩
      · rw [if_neg h0]
        go_enter Tryd.func28, Tryd.ntmps28
        go_wp2_with fail
        refine (OF.out _).mono ?_
        rintro e w1 ⟨rfl, hb1⟩
        have HB1 := Lib.hid hb1
        clear hb1
        go_wp2_with fail
        go_ret
        exact ⟨rfl, HB1.out.alloc HB1.out.size _⟩
end Ce
end Go.Proofs.YtikgonlhdkknkaaDoor
