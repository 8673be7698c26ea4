/- suite: a number's row, the program's and the document's. -/
import Derived.Test.YtflofbimecnakaaGreatRowX
import Derived.Test.YtflofbimecnakaaGreatOctX
import Derived.Deep.CutBlock
namespace Go.Proofs.YtflofbimecnakaaGreat
open Go.RowKit
set_option linter.unusedVariables false
set_option linter.unusedSimpArgs false
namespace Ce
/-- a number's row: the lengths of the key, the iv, the tag -/
def rowOf (n : Int) : Option (Int × Int × Int) :=
  if n = 1 then some (16, 12, 16) else if n = 2 then some (24, 12, 16) else if n = 3 then some (32, 12, 16)
  else if n = 4 then some (32, 16, 16) else if n = 5 then some (48, 16, 24) else if n = 6 then some (64, 16, 32)
  else if n = 10 then some (16, 13, 8) else if n = 11 then some (32, 13, 8) else if n = 12 then some (16, 7, 8) else if n = 13 then some (32, 7, 8)
  else if n = 30 then some (16, 13, 16) else if n = 31 then some (32, 13, 16) else if n = 32 then some (16, 7, 16) else if n = 33 then some (32, 7, 16)
  else if n = 104 then some (32, 0, 8) else if n = 105 then some (32, 0, 32) else if n = 106 then some (48, 0, 48) else if n = 107 then some (64, 0, 64)
  else if n = 114 then some (16, 0, 8) else if n = 115 then some (32, 0, 8) else if n = 125 then some (16, 0, 16) else if n = 126 then some (32, 0, 16)
  else none
/-- the format that has a number; 0: none has it -/
def fmtOf (n : Int) : Int := match rowOf n with
  | none => 0
  | some r => if 4 ≤ n ∧ n ≤ 6 then 0 else if r.2.1 = 0 then 6 else 5
def ivOf (n : Int) : Int := match rowOf n with
  | none => 0
  | some r => r.2.1
def tagOf (n : Int) : Int := match rowOf n with
  | none => 0
  | some r => r.2.2
theorem wfit (n : Nat) (h : n ≤ maxLen) : IntKind.i64.wrap (n : Int) = (n : Int) := by
  unfold maxLen at h
  simp only [IntKind.wrap, IntKind.bits, IntKind.signed]
  simp
  omega
/-- what stands for a kind of cipher, or of tag: an interface's value, or none -/
def Ifs (c t : Value) : Prop := (∃ T x, c = .iface T x ∧ t = .nilIface) ∨ (∃ T x, c = .nilIface ∧ t = .iface T x) ∨ (c = .nilIface ∧ t = .nilIface)
def RetRow (a b c : Int) (w : World) (e : Ending) (w' : World) : Prop := ∃ x y, e = .returned (.agg #[.int .i64 a, .int .i64 b, .int .i64 c, x, y]) ∧ Ifs x y ∧ Below w.heap.size w w'
theorem fill5 {w : World} {T : Nat} {z0 z1 z2 z3 z4 : Value} (h : At w T 0 [z0, z1, z2, z3, z4]) (v0 v1 v2 v3 v4 : Value) : At (((((w.setCell ⟨T, 0, none⟩ v0).setCell ⟨T, 1, none⟩ v1).setCell ⟨T, 2, none⟩ v2).setCell ⟨T, 3, none⟩ v3).setCell ⟨T, 4, none⟩ v4) T 0 [v0, v1, v2, v3, v4] := ((((h.set 0 v0).set 1 v1).set 2 v2).set 3 v3).set 4 v4
theorem below5 {w0 w : World} {T B : Nat} (hb : Below B w0 w) (hT : B ≤ T) (v0 v1 v2 v3 v4 : Value) : Below B w0 (((((w.setCell ⟨T, 0, none⟩ v0).setCell ⟨T, 1, none⟩ v1).setCell ⟨T, 2, none⟩ v2).setCell ⟨T, 3, none⟩ v3).setCell ⟨T, 4, none⟩ v4) := ((((hb.setCell (p := ⟨T, 0, none⟩) hT v0).setCell (p := ⟨T, 1, none⟩) hT v1).setCell (p := ⟨T, 2, none⟩) hT v2).setCell (p := ⟨T, 3, none⟩) hT v3).setCell (p := ⟨T, 4, none⟩) hT v4
set_option maxRecDepth 100000 in
set_option maxHeartbeats 1600000 in
theorem ofCipher_any (a b c : Int) (t : TypeId) (v : Value) (w : World) :
    Calls Tryz.prog 11 #[.int .i64 a, .int .i64 b, .int .i64 c, .iface t v] w (fun e w' => e = .returned (.agg #[.int .i64 a, .int .i64 b, .int .i64 c, .iface t v, .nilIface]) ∧ Below w.heap.size w w') := by
  go_enter Tryz.func11, Tryz.ntmps11
  go_wp2_with fail
  refine bodyPost_ret (results_at rfl _ w.heap.size [.int .i64 a, .int .i64 b, .int .i64 c, .iface t v, .nilIface] _ rfl (At.ofAlloc w #[.int .i64 a, .int .i64 b, .int .i64 c, .iface t v, .nilIface] 37) Tryz.underlying37 rfl (by kernel_rfl)) rfl ?_
  exact ⟨rfl, (Below.refl w.heap.size w).alloc (Nat.le_refl _) _⟩
set_option maxRecDepth 100000 in
set_option maxHeartbeats 1600000 in
theorem ofTag_any (a c : Int) (t : TypeId) (v : Value) (w : World) :
    Calls Tryz.prog 12 #[.int .i64 a, .int .i64 c, .iface t v] w (fun e w' => e = .returned (.agg #[.int .i64 a, .int .i64 0, .int .i64 c, .nilIface, .iface t v]) ∧ Below w.heap.size w w') := by
  go_enter Tryz.func12, Tryz.ntmps12
  go_wp2_with fail
  refine bodyPost_ret (results_at rfl _ w.heap.size [.int .i64 a, .int .i64 0, .int .i64 c, .nilIface, .iface t v] _ rfl (At.ofAlloc w #[.int .i64 a, .int .i64 0, .int .i64 c, .nilIface, .iface t v] 37) Tryz.underlying37 rfl (by kernel_rfl)) rfl ?_
  exact ⟨rfl, (Below.refl w.heap.size w).alloc (Nat.le_refl _) _⟩
set_option maxRecDepth 100000 in
set_option maxHeartbeats 1600000 in
theorem find_1 (w : World) : Calls Tryz.prog 7 #[.int .i64 1] w (RetRow 16 12 16 w) := by
  have CI := Lib.hid (fun a b c t v w => ofCipher_any a b c t v w)
  go_enter Tryz.func7, Tryz.ntmps7
  go_wp2_with fail
  refine (CI.out 16 12 16 _ _ _).mono ?_
  rintro e w1 ⟨rfl, hb1⟩
  have HA := Lib.hid ((At.ofAlloc w #[.int .i64 0, .int .i64 0, .int .i64 0, .nilIface, .nilIface] 37).below hb1 (by simp))
  have HB := Lib.hid (((Below.refl w.heap.size w).alloc (Nat.le_refl _) (Obj.cells #[.int .i64 0, .int .i64 0, .int .i64 0, .nilIface, .nilIface] 37)).trans (hb1.mono (by simp)))
  clear hb1
  obtain ⟨g, hg⟩ : ∃ g, w.heap.size = g := ⟨_, rfl⟩
  rw [hg] at HA HB
  rw [hg]
  have HG := Lib.hid hg
  clear hg
  have c0 := HA.out.cell 0 _ rfl
  have c1 := HA.out.cell 1 _ rfl
  have c2 := HA.out.cell 2 _ rfl
  have c3 := HA.out.cell 3 _ rfl
  have c4 := HA.out.cell 4 _ rfl
  have f0 := HA.out.froz 0 (by decide)
  have f1 := HA.out.froz 1 (by decide)
  have f2 := HA.out.froz 2 (by decide)
  have f3 := HA.out.froz 3 (by decide)
  have f4 := HA.out.froz 4 (by decide)
  go_wp2_with fail
  refine bodyPost_ret (results_at rfl _ g [.int .i64 16, .int .i64 12, .int .i64 16, _, _] _ rfl (fill5 HA.out _ _ _ _ _) Tryz.underlying37 rfl (by kernel_rfl)) rfl ?_
  exact ⟨_, _, rfl, .inl ⟨_, _, rfl, rfl⟩, by rw [HG.out]; exact below5 HB.out (Nat.le_refl _) _ _ _ _ _⟩
set_option maxRecDepth 100000 in
set_option maxHeartbeats 1600000 in
theorem find_2 (w : World) : Calls Tryz.prog 7 #[.int .i64 2] w (RetRow 24 12 16 w) := by
  have CI := Lib.hid (fun a b c t v w => ofCipher_any a b c t v w)
  go_enter Tryz.func7, Tryz.ntmps7
  go_wp2_with fail
  refine (CI.out 24 12 16 _ _ _).mono ?_
  rintro e w1 ⟨rfl, hb1⟩
  have HA := Lib.hid ((At.ofAlloc w #[.int .i64 0, .int .i64 0, .int .i64 0, .nilIface, .nilIface] 37).below hb1 (by simp))
  have HB := Lib.hid (((Below.refl w.heap.size w).alloc (Nat.le_refl _) (Obj.cells #[.int .i64 0, .int .i64 0, .int .i64 0, .nilIface, .nilIface] 37)).trans (hb1.mono (by simp)))
  clear hb1
  obtain ⟨g, hg⟩ : ∃ g, w.heap.size = g := ⟨_, rfl⟩
  rw [hg] at HA HB
  rw [hg]
  have HG := Lib.hid hg
  clear hg
  have c0 := HA.out.cell 0 _ rfl
  have c1 := HA.out.cell 1 _ rfl
  have c2 := HA.out.cell 2 _ rfl
  have c3 := HA.out.cell 3 _ rfl
  have c4 := HA.out.cell 4 _ rfl
  have f0 := HA.out.froz 0 (by decide)
  have f1 := HA.out.froz 1 (by decide)
  have f2 := HA.out.froz 2 (by decide)
  have f3 := HA.out.froz 3 (by decide)
  have f4 := HA.out.froz 4 (by decide)
  go_wp2_with fail
  refine bodyPost_ret (results_at rfl _ g [.int .i64 24, .int .i64 12, .int .i64 16, _, _] _ rfl (fill5 HA.out _ _ _ _ _) Tryz.underlying37 rfl (by kernel_rfl)) rfl ?_
  exact ⟨_, _, rfl, .inl ⟨_, _, rfl, rfl⟩, by rw [HG.out]; exact below5 HB.out (Nat.le_refl _) _ _ _ _ _⟩
set_option maxRecDepth 100000 in
set_option maxHeartbeats 1600000 in
theorem find_3 (w : World) : Calls Tryz.prog 7 #[.int .i64 3] w (RetRow 32 12 16 w) := by
  have CI := Lib.hid (fun a b c t v w => ofCipher_any a b c t v w)
  go_enter Tryz.func7, Tryz.ntmps7
  go_wp2_with fail
  refine (CI.out 32 12 16 _ _ _).mono ?_
  rintro e w1 ⟨rfl, hb1⟩
  have HA := Lib.hid ((At.ofAlloc w #[.int .i64 0, .int .i64 0, .int .i64 0, .nilIface, .nilIface] 37).below hb1 (by simp))
  have HB := Lib.hid (((Below.refl w.heap.size w).alloc (Nat.le_refl _) (Obj.cells #[.int .i64 0, .int .i64 0, .int .i64 0, .nilIface, .nilIface] 37)).trans (hb1.mono (by simp)))
  clear hb1
  obtain ⟨g, hg⟩ : ∃ g, w.heap.size = g := ⟨_, rfl⟩
  rw [hg] at HA HB
  rw [hg]
  have HG := Lib.hid hg
  clear hg
  have c0 := HA.out.cell 0 _ rfl
  have c1 := HA.out.cell 1 _ rfl
  have c2 := HA.out.cell 2 _ rfl
  have c3 := HA.out.cell 3 _ rfl
  have c4 := HA.out.cell 4 _ rfl
  have f0 := HA.out.froz 0 (by decide)
  have f1 := HA.out.froz 1 (by decide)
  have f2 := HA.out.froz 2 (by decide)
  have f3 := HA.out.froz 3 (by decide)
  have f4 := HA.out.froz 4 (by decide)
  go_wp2_with fail
  refine bodyPost_ret (results_at rfl _ g [.int .i64 32, .int .i64 12, .int .i64 16, _, _] _ rfl (fill5 HA.out _ _ _ _ _) Tryz.underlying37 rfl (by kernel_rfl)) rfl ?_
  exact ⟨_, _, rfl, .inl ⟨_, _, rfl, rfl⟩, by rw [HG.out]; exact below5 HB.out (Nat.le_refl _) _ _ _ _ _⟩
set_option maxRecDepth 100000 in
set_option maxHeartbeats 1600000 in
theorem find_4 (w : World) : Calls Tryz.prog 7 #[.int .i64 4] w (RetRow 32 16 16 w) := by
  have CI := Lib.hid (fun a b c t v w => ofCipher_any a b c t v w)
  go_enter Tryz.func7, Tryz.ntmps7
  go_wp2_with fail
  refine (CI.out 32 16 16 _ _ _).mono ?_
  rintro e w1 ⟨rfl, hb1⟩
  have HA := Lib.hid ((At.ofAlloc w #[.int .i64 0, .int .i64 0, .int .i64 0, .nilIface, .nilIface] 37).below hb1 (by simp))
  have HB := Lib.hid (((Below.refl w.heap.size w).alloc (Nat.le_refl _) (Obj.cells #[.int .i64 0, .int .i64 0, .int .i64 0, .nilIface, .nilIface] 37)).trans (hb1.mono (by simp)))
  clear hb1
  obtain ⟨g, hg⟩ : ∃ g, w.heap.size = g := ⟨_, rfl⟩
  rw [hg] at HA HB
  rw [hg]
  have HG := Lib.hid hg
  clear hg
  have c0 := HA.out.cell 0 _ rfl
  have c1 := HA.out.cell 1 _ rfl
  have c2 := HA.out.cell 2 _ rfl
  have c3 := HA.out.cell 3 _ rfl
  have c4 := HA.out.cell 4 _ rfl
  have f0 := HA.out.froz 0 (by decide)
  have f1 := HA.out.froz 1 (by decide)
  have f2 := HA.out.froz 2 (by decide)
  have f3 := HA.out.froz 3 (by decide)
  have f4 := HA.out.froz 4 (by decide)
  go_wp2_with fail
  refine bodyPost_ret (results_at rfl _ g [.int .i64 32, .int .i64 16, .int .i64 16, _, _] _ rfl (fill5 HA.out _ _ _ _ _) Tryz.underlying37 rfl (by kernel_rfl)) rfl ?_
  exact ⟨_, _, rfl, .inl ⟨_, _, rfl, rfl⟩, by rw [HG.out]; exact below5 HB.out (Nat.le_refl _) _ _ _ _ _⟩
set_option maxRecDepth 100000 in
set_option maxHeartbeats 1600000 in
theorem find_5 (w : World) : Calls Tryz.prog 7 #[.int .i64 5] w (RetRow 48 16 24 w) := by
  have CI := Lib.hid (fun a b c t v w => ofCipher_any a b c t v w)
  go_enter Tryz.func7, Tryz.ntmps7
  go_wp2_with fail
  refine (CI.out 48 16 24 _ _ _).mono ?_
  rintro e w1 ⟨rfl, hb1⟩
  have HA := Lib.hid ((At.ofAlloc w #[.int .i64 0, .int .i64 0, .int .i64 0, .nilIface, .nilIface] 37).below hb1 (by simp))
  have HB := Lib.hid (((Below.refl w.heap.size w).alloc (Nat.le_refl _) (Obj.cells #[.int .i64 0, .int .i64 0, .int .i64 0, .nilIface, .nilIface] 37)).trans (hb1.mono (by simp)))
  clear hb1
  obtain ⟨g, hg⟩ : ∃ g, w.heap.size = g := ⟨_, rfl⟩
  rw [hg] at HA HB
  rw [hg]
  have HG := Lib.hid hg
  clear hg
  have c0 := HA.out.cell 0 _ rfl
  have c1 := HA.out.cell 1 _ rfl
  have c2 := HA.out.cell 2 _ rfl
  have c3 := HA.out.cell 3 _ rfl
  have c4 := HA.out.cell 4 _ rfl
  have f0 := HA.out.froz 0 (by decide)
  have f1 := HA.out.froz 1 (by decide)
  have f2 := HA.out.froz 2 (by decide)
  have f3 := HA.out.froz 3 (by decide)
  have f4 := HA.out.froz 4 (by decide)
  go_wp2_with fail
  refine bodyPost_ret (results_at rfl _ g [.int .i64 48, .int .i64 16, .int .i64 24, _, _] _ rfl (fill5 HA.out _ _ _ _ _) Tryz.underlying37 rfl (by kernel_rfl)) rfl ?_
  exact ⟨_, _, rfl, .inl ⟨_, _, rfl, rfl⟩, by rw [HG.out]; exact below5 HB.out (Nat.le_refl _) _ _ _ _ _⟩
set_option maxRecDepth 100000 in
set_option maxHeartbeats 1600000 in
theorem find_6 (w : World) : Calls Tryz.prog 7 #[.int .i64 6] w (RetRow 64 16 32 w) := by
  have CI := Lib.hid (fun a b c t v w => ofCipher_any a b c t v w)
  go_enter Tryz.func7, Tryz.ntmps7
  go_wp2_with fail
  refine (CI.out 64 16 32 _ _ _).mono ?_
  rintro e w1 ⟨rfl, hb1⟩
  have HA := Lib.hid ((At.ofAlloc w #[.int .i64 0, .int .i64 0, .int .i64 0, .nilIface, .nilIface] 37).below hb1 (by simp))
  have HB := Lib.hid (((Below.refl w.heap.size w).alloc (Nat.le_refl _) (Obj.cells #[.int .i64 0, .int .i64 0, .int .i64 0, .nilIface, .nilIface] 37)).trans (hb1.mono (by simp)))
  clear hb1
  obtain ⟨g, hg⟩ : ∃ g, w.heap.size = g := ⟨_, rfl⟩
  rw [hg] at HA HB
  rw [hg]
  have HG := Lib.hid hg
  clear hg
  have c0 := HA.out.cell 0 _ rfl
  have c1 := HA.out.cell 1 _ rfl
  have c2 := HA.out.cell 2 _ rfl
  have c3 := HA.out.cell 3 _ rfl
  have c4 := HA.out.cell 4 _ rfl
  have f0 := HA.out.froz 0 (by decide)
  have f1 := HA.out.froz 1 (by decide)
  have f2 := HA.out.froz 2 (by decide)
  have f3 := HA.out.froz 3 (by decide)
  have f4 := HA.out.froz 4 (by decide)
  go_wp2_with fail
  refine bodyPost_ret (results_at rfl _ g [.int .i64 64, .int .i64 16, .int .i64 32, _, _] _ rfl (fill5 HA.out _ _ _ _ _) Tryz.underlying37 rfl (by kernel_rfl)) rfl ?_
  exact ⟨_, _, rfl, .inl ⟨_, _, rfl, rfl⟩, by rw [HG.out]; exact below5 HB.out (Nat.le_refl _) _ _ _ _ _⟩
set_option maxRecDepth 100000 in
set_option maxHeartbeats 1600000 in
theorem find_10 (w : World) : Calls Tryz.prog 7 #[.int .i64 10] w (RetRow 16 13 8 w) := by
  have CI := Lib.hid (fun a b c t v w => ofCipher_any a b c t v w)
  go_enter Tryz.func7, Tryz.ntmps7
  go_wp2_with fail
  refine (CI.out 16 13 8 _ _ _).mono ?_
  rintro e w1 ⟨rfl, hb1⟩
  have HA := Lib.hid ((At.ofAlloc w #[.int .i64 0, .int .i64 0, .int .i64 0, .nilIface, .nilIface] 37).below hb1 (by simp))
  have HB := Lib.hid (((Below.refl w.heap.size w).alloc (Nat.le_refl _) (Obj.cells #[.int .i64 0, .int .i64 0, .int .i64 0, .nilIface, .nilIface] 37)).trans (hb1.mono (by simp)))
  clear hb1
  obtain ⟨g, hg⟩ : ∃ g, w.heap.size = g := ⟨_, rfl⟩
  rw [hg] at HA HB
  rw [hg]
  have HG := Lib.hid hg
  clear hg
  have c0 := HA.out.cell 0 _ rfl
  have c1 := HA.out.cell 1 _ rfl
  have c2 := HA.out.cell 2 _ rfl
  have c3 := HA.out.cell 3 _ rfl
  have c4 := HA.out.cell 4 _ rfl
  have f0 := HA.out.froz 0 (by decide)
  have f1 := HA.out.froz 1 (by decide)
  have f2 := HA.out.froz 2 (by decide)
  have f3 := HA.out.froz 3 (by decide)
  have f4 := HA.out.froz 4 (by decide)
  go_wp2_with fail
  refine bodyPost_ret (results_at rfl _ g [.int .i64 16, .int .i64 13, .int .i64 8, _, _] _ rfl (fill5 HA.out _ _ _ _ _) Tryz.underlying37 rfl (by kernel_rfl)) rfl ?_
  exact ⟨_, _, rfl, .inl ⟨_, _, rfl, rfl⟩, by rw [HG.out]; exact below5 HB.out (Nat.le_refl _) _ _ _ _ _⟩
set_option maxRecDepth 100000 in
set_option maxHeartbeats 1600000 in
theorem find_11 (w : World) : Calls Tryz.prog 7 #[.int .i64 11] w (RetRow 32 13 8 w) := by
  have CI := Lib.hid (fun a b c t v w => ofCipher_any a b c t v w)
  go_enter Tryz.func7, Tryz.ntmps7
  go_wp2_with fail
  refine (CI.out 32 13 8 _ _ _).mono ?_
  rintro e w1 ⟨rfl, hb1⟩
  have HA := Lib.hid ((At.ofAlloc w #[.int .i64 0, .int .i64 0, .int .i64 0, .nilIface, .nilIface] 37).below hb1 (by simp))
  have HB := Lib.hid (((Below.refl w.heap.size w).alloc (Nat.le_refl _) (Obj.cells #[.int .i64 0, .int .i64 0, .int .i64 0, .nilIface, .nilIface] 37)).trans (hb1.mono (by simp)))
  clear hb1
  obtain ⟨g, hg⟩ : ∃ g, w.heap.size = g := ⟨_, rfl⟩
  rw [hg] at HA HB
  rw [hg]
  have HG := Lib.hid hg
  clear hg
  have c0 := HA.out.cell 0 _ rfl
  have c1 := HA.out.cell 1 _ rfl
  have c2 := HA.out.cell 2 _ rfl
  have c3 := HA.out.cell 3 _ rfl
  have c4 := HA.out.cell 4 _ rfl
  have f0 := HA.out.froz 0 (by decide)
  have f1 := HA.out.froz 1 (by decide)
  have f2 := HA.out.froz 2 (by decide)
  have f3 := HA.out.froz 3 (by decide)
  have f4 := HA.out.froz 4 (by decide)
  go_wp2_with fail
  refine bodyPost_ret (results_at rfl _ g [.int .i64 32, .int .i64 13, .int .i64 8, _, _] _ rfl (fill5 HA.out _ _ _ _ _) Tryz.underlying37 rfl (by kernel_rfl)) rfl ?_
  exact ⟨_, _, rfl, .inl ⟨_, _, rfl, rfl⟩, by rw [HG.out]; exact below5 HB.out (Nat.le_refl _) _ _ _ _ _⟩
set_option maxRecDepth 100000 in
set_option maxHeartbeats 1600000 in
theorem find_12 (w : World) : Calls Tryz.prog 7 #[.int .i64 12] w (RetRow 16 7 8 w) := by
  have CI := Lib.hid (fun a b c t v w => ofCipher_any a b c t v w)
  go_enter Tryz.func7, Tryz.ntmps7
  go_wp2_with fail
  refine (CI.out 16 7 8 _ _ _).mono ?_
  rintro e w1 ⟨rfl, hb1⟩
  have HA := Lib.hid ((At.ofAlloc w #[.int .i64 0, .int .i64 0, .int .i64 0, .nilIface, .nilIface] 37).below hb1 (by simp))
  have HB := Lib.hid (((Below.refl w.heap.size w).alloc (Nat.le_refl _) (Obj.cells #[.int .i64 0, .int .i64 0, .int .i64 0, .nilIface, .nilIface] 37)).trans (hb1.mono (by simp)))
  clear hb1
  obtain ⟨g, hg⟩ : ∃ g, w.heap.size = g := ⟨_, rfl⟩
  rw [hg] at HA HB
  rw [hg]
  have HG := Lib.hid hg
  clear hg
  have c0 := HA.out.cell 0 _ rfl
  have c1 := HA.out.cell 1 _ rfl
  have c2 := HA.out.cell 2 _ rfl
  have c3 := HA.out.cell 3 _ rfl
  have c4 := HA.out.cell 4 _ rfl
  have f0 := HA.out.froz 0 (by decide)
  have f1 := HA.out.froz 1 (by decide)
  have f2 := HA.out.froz 2 (by decide)
  have f3 := HA.out.froz 3 (by decide)
  have f4 := HA.out.froz 4 (by decide)
  go_wp2_with fail
  refine bodyPost_ret (results_at rfl _ g [.int .i64 16, .int .i64 7, .int .i64 8, _, _] _ rfl (fill5 HA.out _ _ _ _ _) Tryz.underlying37 rfl (by kernel_rfl)) rfl ?_
  exact ⟨_, _, rfl, .inl ⟨_, _, rfl, rfl⟩, by rw [HG.out]; exact below5 HB.out (Nat.le_refl _) _ _ _ _ _⟩
set_option maxRecDepth 100000 in
set_option maxHeartbeats 1600000 in
theorem find_13 (w : World) : Calls Tryz.prog 7 #[.int .i64 13] w (RetRow 32 7 8 w) := by
  have CI := Lib.hid (fun a b c t v w => ofCipher_any a b c t v w)
  go_enter Tryz.func7, Tryz.ntmps7
  go_wp2_with fail
  refine (CI.out 32 7 8 _ _ _).mono ?_
  rintro e w1 ⟨rfl, hb1⟩
  have HA := Lib.hid ((At.ofAlloc w #[.int .i64 0, .int .i64 0, .int .i64 0, .nilIface, .nilIface] 37).below hb1 (by simp))
  have HB := Lib.hid (((Below.refl w.heap.size w).alloc (Nat.le_refl _) (Obj.cells #[.int .i64 0, .int .i64 0, .int .i64 0, .nilIface, .nilIface] 37)).trans (hb1.mono (by simp)))
  clear hb1
  obtain ⟨g, hg⟩ : ∃ g, w.heap.size = g := ⟨_, rfl⟩
  rw [hg] at HA HB
  rw [hg]
  have HG := Lib.hid hg
  clear hg
  have c0 := HA.out.cell 0 _ rfl
  have c1 := HA.out.cell 1 _ rfl
  have c2 := HA.out.cell 2 _ rfl
  have c3 := HA.out.cell 3 _ rfl
  have c4 := HA.out.cell 4 _ rfl
  have f0 := HA.out.froz 0 (by decide)
  have f1 := HA.out.froz 1 (by decide)
  have f2 := HA.out.froz 2 (by decide)
  have f3 := HA.out.froz 3 (by decide)
  have f4 := HA.out.froz 4 (by decide)
  go_wp2_with fail
  refine bodyPost_ret (results_at rfl _ g [.int .i64 32, .int .i64 7, .int .i64 8, _, _] _ rfl (fill5 HA.out _ _ _ _ _) Tryz.underlying37 rfl (by kernel_rfl)) rfl ?_
  exact ⟨_, _, rfl, .inl ⟨_, _, rfl, rfl⟩, by rw [HG.out]; exact below5 HB.out (Nat.le_refl _) _ _ _ _ _⟩
set_option maxRecDepth 100000 in
set_option maxHeartbeats 1600000 in
theorem find_30 (w : World) : Calls Tryz.prog 7 #[.int .i64 30] w (RetRow 16 13 16 w) := by
  have CI := Lib.hid (fun a b c t v w => ofCipher_any a b c t v w)
  go_enter Tryz.func7, Tryz.ntmps7
  go_wp2_with fail
  refine (CI.out 16 13 16 _ _ _).mono ?_
  rintro e w1 ⟨rfl, hb1⟩
  have HA := Lib.hid ((At.ofAlloc w #[.int .i64 0, .int .i64 0, .int .i64 0, .nilIface, .nilIface] 37).below hb1 (by simp))
  have HB := Lib.hid (((Below.refl w.heap.size w).alloc (Nat.le_refl _) (Obj.cells #[.int .i64 0, .int .i64 0, .int .i64 0, .nilIface, .nilIface] 37)).trans (hb1.mono (by simp)))
  clear hb1
  obtain ⟨g, hg⟩ : ∃ g, w.heap.size = g := ⟨_, rfl⟩
  rw [hg] at HA HB
  rw [hg]
  have HG := Lib.hid hg
  clear hg
  have c0 := HA.out.cell 0 _ rfl
  have c1 := HA.out.cell 1 _ rfl
  have c2 := HA.out.cell 2 _ rfl
  have c3 := HA.out.cell 3 _ rfl
  have c4 := HA.out.cell 4 _ rfl
  have f0 := HA.out.froz 0 (by decide)
  have f1 := HA.out.froz 1 (by decide)
  have f2 := HA.out.froz 2 (by decide)
  have f3 := HA.out.froz 3 (by decide)
  have f4 := HA.out.froz 4 (by decide)
  go_wp2_with fail
  refine bodyPost_ret (results_at rfl _ g [.int .i64 16, .int .i64 13, .int .i64 16, _, _] _ rfl (fill5 HA.out _ _ _ _ _) Tryz.underlying37 rfl (by kernel_rfl)) rfl ?_
  exact ⟨_, _, rfl, .inl ⟨_, _, rfl, rfl⟩, by rw [HG.out]; exact below5 HB.out (Nat.le_refl _) _ _ _ _ _⟩
set_option maxRecDepth 100000 in
set_option maxHeartbeats 1600000 in
theorem find_31 (w : World) : Calls Tryz.prog 7 #[.int .i64 31] w (RetRow 32 13 16 w) := by
  have CI := Lib.hid (fun a b c t v w => ofCipher_any a b c t v w)
  go_enter Tryz.func7, Tryz.ntmps7
  go_wp2_with fail
  refine (CI.out 32 13 16 _ _ _).mono ?_
  rintro e w1 ⟨rfl, hb1⟩
  have HA := Lib.hid ((At.ofAlloc w #[.int .i64 0, .int .i64 0, .int .i64 0, .nilIface, .nilIface] 37).below hb1 (by simp))
  have HB := Lib.hid (((Below.refl w.heap.size w).alloc (Nat.le_refl _) (Obj.cells #[.int .i64 0, .int .i64 0, .int .i64 0, .nilIface, .nilIface] 37)).trans (hb1.mono (by simp)))
  clear hb1
  obtain ⟨g, hg⟩ : ∃ g, w.heap.size = g := ⟨_, rfl⟩
  rw [hg] at HA HB
  rw [hg]
  have HG := Lib.hid hg
  clear hg
  have c0 := HA.out.cell 0 _ rfl
  have c1 := HA.out.cell 1 _ rfl
  have c2 := HA.out.cell 2 _ rfl
  have c3 := HA.out.cell 3 _ rfl
  have c4 := HA.out.cell 4 _ rfl
  have f0 := HA.out.froz 0 (by decide)
  have f1 := HA.out.froz 1 (by decide)
  have f2 := HA.out.froz 2 (by decide)
  have f3 := HA.out.froz 3 (by decide)
  have f4 := HA.out.froz 4 (by decide)
  go_wp2_with fail
  refine bodyPost_ret (results_at rfl _ g [.int .i64 32, .int .i64 13, .int .i64 16, _, _] _ rfl (fill5 HA.out _ _ _ _ _) Tryz.underlying37 rfl (by kernel_rfl)) rfl ?_
  exact ⟨_, _, rfl, .inl ⟨_, _, rfl, rfl⟩, by rw [HG.out]; exact below5 HB.out (Nat.le_refl _) _ _ _ _ _⟩
set_option maxRecDepth 100000 in
set_option maxHeartbeats 1600000 in
theorem find_32 (w : World) : Calls Tryz.prog 7 #[.int .i64 32] w (RetRow 16 7 16 w) := by
  have CI := Lib.hid (fun a b c t v w => ofCipher_any a b c t v w)
  go_enter Tryz.func7, Tryz.ntmps7
  go_wp2_with fail
  refine (CI.out 16 7 16 _ _ _).mono ?_
  rintro e w1 ⟨rfl, hb1⟩
  have HA := Lib.hid ((At.ofAlloc w #[.int .i64 0, .int .i64 0, .int .i64 0, .nilIface, .nilIface] 37).below hb1 (by simp))
  have HB := Lib.hid (((Below.refl w.heap.size w).alloc (Nat.le_refl _) (Obj.cells #[.int .i64 0, .int .i64 0, .int .i64 0, .nilIface, .nilIface] 37)).trans (hb1.mono (by simp)))
  clear hb1
  obtain ⟨g, hg⟩ : ∃ g, w.heap.size = g := ⟨_, rfl⟩
  rw [hg] at HA HB
  rw [hg]
  have HG := Lib.hid hg
  clear hg
  have c0 := HA.out.cell 0 _ rfl
  have c1 := HA.out.cell 1 _ rfl
  have c2 := HA.out.cell 2 _ rfl
  have c3 := HA.out.cell 3 _ rfl
  have c4 := HA.out.cell 4 _ rfl
  have f0 := HA.out.froz 0 (by decide)
  have f1 := HA.out.froz 1 (by decide)
  have f2 := HA.out.froz 2 (by decide)
  have f3 := HA.out.froz 3 (by decide)
  have f4 := HA.out.froz 4 (by decide)
  go_wp2_with fail
  refine bodyPost_ret (results_at rfl _ g [.int .i64 16, .int .i64 7, .int .i64 16, _, _] _ rfl (fill5 HA.out _ _ _ _ _) Tryz.underlying37 rfl (by kernel_rfl)) rfl ?_
  exact ⟨_, _, rfl, .inl ⟨_, _, rfl, rfl⟩, by rw [HG.out]; exact below5 HB.out (Nat.le_refl _) _ _ _ _ _⟩
set_option maxRecDepth 100000 in
set_option maxHeartbeats 1600000 in
theorem find_33 (w : World) : Calls Tryz.prog 7 #[.int .i64 33] w (RetRow 32 7 16 w) := by
  have CI := Lib.hid (fun a b c t v w => ofCipher_any a b c t v w)
  go_enter Tryz.func7, Tryz.ntmps7
  go_wp2_with fail
  refine (CI.out 32 7 16 _ _ _).mono ?_
  rintro e w1 ⟨rfl, hb1⟩
  have HA := Lib.hid ((At.ofAlloc w #[.int .i64 0, .int .i64 0, .int .i64 0, .nilIface, .nilIface] 37).below hb1 (by simp))
  have HB := Lib.hid (((Below.refl w.heap.size w).alloc (Nat.le_refl _) (Obj.cells #[.int .i64 0, .int .i64 0, .int .i64 0, .nilIface, .nilIface] 37)).trans (hb1.mono (by simp)))
  clear hb1
  obtain ⟨g, hg⟩ : ∃ g, w.heap.size = g := ⟨_, rfl⟩
  rw [hg] at HA HB
  rw [hg]
  have HG := Lib.hid hg
  clear hg
  have c0 := HA.out.cell 0 _ rfl
  have c1 := HA.out.cell 1 _ rfl
  have c2 := HA.out.cell 2 _ rfl
  have c3 := HA.out.cell 3 _ rfl
  have c4 := HA.out.cell 4 _ rfl
  have f0 := HA.out.froz 0 (by decide)
  have f1 := HA.out.froz 1 (by decide)
  have f2 := HA.out.froz 2 (by decide)
  have f3 := HA.out.froz 3 (by decide)
  have f4 := HA.out.froz 4 (by decide)
  go_wp2_with fail
  refine bodyPost_ret (results_at rfl _ g [.int .i64 32, .int .i64 7, .int .i64 16, _, _] _ rfl (fill5 HA.out _ _ _ _ _) Tryz.underlying37 rfl (by kernel_rfl)) rfl ?_
  exact ⟨_, _, rfl, .inl ⟨_, _, rfl, rfl⟩, by rw [HG.out]; exact below5 HB.out (Nat.le_refl _) _ _ _ _ _⟩
set_option maxRecDepth 100000 in
set_option maxHeartbeats 1600000 in
theorem find_104 (w : World) : Calls Tryz.prog 7 #[.int .i64 104] w (RetRow 32 0 8 w) := by
  have CI := Lib.hid (fun a c t v w => ofTag_any a c t v w)
  go_enter Tryz.func7, Tryz.ntmps7
  go_wp2_with fail
  refine (CI.out 32 8 _ _ _).mono ?_
  rintro e w1 ⟨rfl, hb1⟩
  have HA := Lib.hid ((At.ofAlloc w #[.int .i64 0, .int .i64 0, .int .i64 0, .nilIface, .nilIface] 37).below hb1 (by simp))
  have HB := Lib.hid (((Below.refl w.heap.size w).alloc (Nat.le_refl _) (Obj.cells #[.int .i64 0, .int .i64 0, .int .i64 0, .nilIface, .nilIface] 37)).trans (hb1.mono (by simp)))
  clear hb1
  obtain ⟨g, hg⟩ : ∃ g, w.heap.size = g := ⟨_, rfl⟩
  rw [hg] at HA HB
  rw [hg]
  have HG := Lib.hid hg
  clear hg
  have c0 := HA.out.cell 0 _ rfl
  have c1 := HA.out.cell 1 _ rfl
  have c2 := HA.out.cell 2 _ rfl
  have c3 := HA.out.cell 3 _ rfl
  have c4 := HA.out.cell 4 _ rfl
  have f0 := HA.out.froz 0 (by decide)
  have f1 := HA.out.froz 1 (by decide)
  have f2 := HA.out.froz 2 (by decide)
  have f3 := HA.out.froz 3 (by decide)
  have f4 := HA.out.froz 4 (by decide)
  go_wp2_with fail
  refine bodyPost_ret (results_at rfl _ g [.int .i64 32, .int .i64 0, .int .i64 8, _, _] _ rfl (fill5 HA.out _ _ _ _ _) Tryz.underlying37 rfl (by kernel_rfl)) rfl ?_
  exact ⟨_, _, rfl, .inr (.inl ⟨_, _, rfl, rfl⟩), by rw [HG.out]; exact below5 HB.out (Nat.le_refl _) _ _ _ _ _⟩
set_option maxRecDepth 100000 in
set_option maxHeartbeats 1600000 in
theorem find_105 (w : World) : Calls Tryz.prog 7 #[.int .i64 105] w (RetRow 32 0 32 w) := by
  have CI := Lib.hid (fun a c t v w => ofTag_any a c t v w)
  go_enter Tryz.func7, Tryz.ntmps7
  go_wp2_with fail
  refine (CI.out 32 32 _ _ _).mono ?_
  rintro e w1 ⟨rfl, hb1⟩
  have HA := Lib.hid ((At.ofAlloc w #[.int .i64 0, .int .i64 0, .int .i64 0, .nilIface, .nilIface] 37).below hb1 (by simp))
  have HB := Lib.hid (((Below.refl w.heap.size w).alloc (Nat.le_refl _) (Obj.cells #[.int .i64 0, .int .i64 0, .int .i64 0, .nilIface, .nilIface] 37)).trans (hb1.mono (by simp)))
  clear hb1
  obtain ⟨g, hg⟩ : ∃ g, w.heap.size = g := ⟨_, rfl⟩
  rw [hg] at HA HB
  rw [hg]
  have HG := Lib.hid hg
  clear hg
  have c0 := HA.out.cell 0 _ rfl
  have c1 := HA.out.cell 1 _ rfl
  have c2 := HA.out.cell 2 _ rfl
  have c3 := HA.out.cell 3 _ rfl
  have c4 := HA.out.cell 4 _ rfl
  have f0 := HA.out.froz 0 (by decide)
  have f1 := HA.out.froz 1 (by decide)
  have f2 := HA.out.froz 2 (by decide)
  have f3 := HA.out.froz 3 (by decide)
  have f4 := HA.out.froz 4 (by decide)
  go_wp2_with fail
  refine bodyPost_ret (results_at rfl _ g [.int .i64 32, .int .i64 0, .int .i64 32, _, _] _ rfl (fill5 HA.out _ _ _ _ _) Tryz.underlying37 rfl (by kernel_rfl)) rfl ?_
  exact ⟨_, _, rfl, .inr (.inl ⟨_, _, rfl, rfl⟩), by rw [HG.out]; exact below5 HB.out (Nat.le_refl _) _ _ _ _ _⟩
set_option maxRecDepth 100000 in
set_option maxHeartbeats 1600000 in
theorem find_106 (w : World) : Calls Tryz.prog 7 #[.int .i64 106] w (RetRow 48 0 48 w) := by
  have CI := Lib.hid (fun a c t v w => ofTag_any a c t v w)
  go_enter Tryz.func7, Tryz.ntmps7
  go_wp2_with fail
  refine (CI.out 48 48 _ _ _).mono ?_
  rintro e w1 ⟨rfl, hb1⟩
  have HA := Lib.hid ((At.ofAlloc w #[.int .i64 0, .int .i64 0, .int .i64 0, .nilIface, .nilIface] 37).below hb1 (by simp))
  have HB := Lib.hid (((Below.refl w.heap.size w).alloc (Nat.le_refl _) (Obj.cells #[.int .i64 0, .int .i64 0, .int .i64 0, .nilIface, .nilIface] 37)).trans (hb1.mono (by simp)))
  clear hb1
  obtain ⟨g, hg⟩ : ∃ g, w.heap.size = g := ⟨_, rfl⟩
  rw [hg] at HA HB
  rw [hg]
  have HG := Lib.hid hg
  clear hg
  have c0 := HA.out.cell 0 _ rfl
  have c1 := HA.out.cell 1 _ rfl
  have c2 := HA.out.cell 2 _ rfl
  have c3 := HA.out.cell 3 _ rfl
  have c4 := HA.out.cell 4 _ rfl
  have f0 := HA.out.froz 0 (by decide)
  have f1 := HA.out.froz 1 (by decide)
  have f2 := HA.out.froz 2 (by decide)
  have f3 := HA.out.froz 3 (by decide)
  have f4 := HA.out.froz 4 (by decide)
  go_wp2_with fail
  refine bodyPost_ret (results_at rfl _ g [.int .i64 48, .int .i64 0, .int .i64 48, _, _] _ rfl (fill5 HA.out _ _ _ _ _) Tryz.underlying37 rfl (by kernel_rfl)) rfl ?_
  exact ⟨_, _, rfl, .inr (.inl ⟨_, _, rfl, rfl⟩), by rw [HG.out]; exact below5 HB.out (Nat.le_refl _) _ _ _ _ _⟩
set_option maxRecDepth 100000 in
set_option maxHeartbeats 1600000 in
theorem find_107 (w : World) : Calls Tryz.prog 7 #[.int .i64 107] w (RetRow 64 0 64 w) := by
  have CI := Lib.hid (fun a c t v w => ofTag_any a c t v w)
  go_enter Tryz.func7, Tryz.ntmps7
  go_wp2_with fail
  refine (CI.out 64 64 _ _ _).mono ?_
  rintro e w1 ⟨rfl, hb1⟩
  have HA := Lib.hid ((At.ofAlloc w #[.int .i64 0, .int .i64 0, .int .i64 0, .nilIface, .nilIface] 37).below hb1 (by simp))
  have HB := Lib.hid (((Below.refl w.heap.size w).alloc (Nat.le_refl _) (Obj.cells #[.int .i64 0, .int .i64 0, .int .i64 0, .nilIface, .nilIface] 37)).trans (hb1.mono (by simp)))
  clear hb1
  obtain ⟨g, hg⟩ : ∃ g, w.heap.size = g := ⟨_, rfl⟩
  rw [hg] at HA HB
  rw [hg]
  have HG := Lib.hid hg
  clear hg
  have c0 := HA.out.cell 0 _ rfl
  have c1 := HA.out.cell 1 _ rfl
  have c2 := HA.out.cell 2 _ rfl
  have c3 := HA.out.cell 3 _ rfl
  have c4 := HA.out.cell 4 _ rfl
  have f0 := HA.out.froz 0 (by decide)
  have f1 := HA.out.froz 1 (by decide)
  have f2 := HA.out.froz 2 (by decide)
  have f3 := HA.out.froz 3 (by decide)
  have f4 := HA.out.froz 4 (by decide)
  go_wp2_with fail
  refine bodyPost_ret (results_at rfl _ g [.int .i64 64, .int .i64 0, .int .i64 64, _, _] _ rfl (fill5 HA.out _ _ _ _ _) Tryz.underlying37 rfl (by kernel_rfl)) rfl ?_
  exact ⟨_, _, rfl, .inr (.inl ⟨_, _, rfl, rfl⟩), by rw [HG.out]; exact below5 HB.out (Nat.le_refl _) _ _ _ _ _⟩
set_option maxRecDepth 100000 in
set_option maxHeartbeats 1600000 in
theorem find_114 (w : World) : Calls Tryz.prog 7 #[.int .i64 114] w (RetRow 16 0 8 w) := by
  have CI := Lib.hid (fun a c t v w => ofTag_any a c t v w)
  go_enter Tryz.func7, Tryz.ntmps7
  go_wp2_with fail
  refine (CI.out 16 8 _ _ _).mono ?_
  rintro e w1 ⟨rfl, hb1⟩
  have HA := Lib.hid ((At.ofAlloc w #[.int .i64 0, .int .i64 0, .int .i64 0, .nilIface, .nilIface] 37).below hb1 (by simp))
  have HB := Lib.hid (((Below.refl w.heap.size w).alloc (Nat.le_refl _) (Obj.cells #[.int .i64 0, .int .i64 0, .int .i64 0, .nilIface, .nilIface] 37)).trans (hb1.mono (by simp)))
  clear hb1
  obtain ⟨g, hg⟩ : ∃ g, w.heap.size = g := ⟨_, rfl⟩
  rw [hg] at HA HB
  rw [hg]
  have HG := Lib.hid hg
  clear hg
  have c0 := HA.out.cell 0 _ rfl
  have c1 := HA.out.cell 1 _ rfl
  have c2 := HA.out.cell 2 _ rfl
  have c3 := HA.out.cell 3 _ rfl
  have c4 := HA.out.cell 4 _ rfl
  have f0 := HA.out.froz 0 (by decide)
  have f1 := HA.out.froz 1 (by decide)
  have f2 := HA.out.froz 2 (by decide)
  have f3 := HA.out.froz 3 (by decide)
  have f4 := HA.out.froz 4 (by decide)
  go_wp2_with fail
  refine bodyPost_ret (results_at rfl _ g [.int .i64 16, .int .i64 0, .int .i64 8, _, _] _ rfl (fill5 HA.out _ _ _ _ _) Tryz.underlying37 rfl (by kernel_rfl)) rfl ?_
  exact ⟨_, _, rfl, .inr (.inl ⟨_, _, rfl, rfl⟩), by rw [HG.out]; exact below5 HB.out (Nat.le_refl _) _ _ _ _ _⟩
set_option maxRecDepth 100000 in
set_option maxHeartbeats 1600000 in
theorem find_115 (w : World) : Calls Tryz.prog 7 #[.int .i64 115] w (RetRow 32 0 8 w) := by
  have CI := Lib.hid (fun a c t v w => ofTag_any a c t v w)
  go_enter Tryz.func7, Tryz.ntmps7
  go_wp2_with fail
  refine (CI.out 32 8 _ _ _).mono ?_
  rintro e w1 ⟨rfl, hb1⟩
  have HA := Lib.hid ((At.ofAlloc w #[.int .i64 0, .int .i64 0, .int .i64 0, .nilIface, .nilIface] 37).below hb1 (by simp))
  have HB := Lib.hid (((Below.refl w.heap.size w).alloc (Nat.le_refl _) (Obj.cells #[.int .i64 0, .int .i64 0, .int .i64 0, .nilIface, .nilIface] 37)).trans (hb1.mono (by simp)))
  clear hb1
  obtain ⟨g, hg⟩ : ∃ g, w.heap.size = g := ⟨_, rfl⟩
  rw [hg] at HA HB
  rw [hg]
  have HG := Lib.hid hg
  clear hg
  have c0 := HA.out.cell 0 _ rfl
  have c1 := HA.out.cell 1 _ rfl
  have c2 := HA.out.cell 2 _ rfl
  have c3 := HA.out.cell 3 _ rfl
  have c4 := HA.out.cell 4 _ rfl
  have f0 := HA.out.froz 0 (by decide)
  have f1 := HA.out.froz 1 (by decide)
  have f2 := HA.out.froz 2 (by decide)
  have f3 := HA.out.froz 3 (by decide)
  have f4 := HA.out.froz 4 (by decide)
  go_wp2_with fail
  refine bodyPost_ret (results_at rfl _ g [.int .i64 32, .int .i64 0, .int .i64 8, _, _] _ rfl (fill5 HA.out _ _ _ _ _) Tryz.underlying37 rfl (by kernel_rfl)) rfl ?_
  exact ⟨_, _, rfl, .inr (.inl ⟨_, _, rfl, rfl⟩), by rw [HG.out]; exact below5 HB.out (Nat.le_refl _) _ _ _ _ _⟩
set_option maxRecDepth 100000 in
set_option maxHeartbeats 1600000 in
theorem find_125 (w : World) : Calls Tryz.prog 7 #[.int .i64 125] w (RetRow 16 0 16 w) := by
  have CI := Lib.hid (fun a c t v w => ofTag_any a c t v w)
  go_enter Tryz.func7, Tryz.ntmps7
  go_wp2_with fail
  refine (CI.out 16 16 _ _ _).mono ?_
  rintro e w1 ⟨rfl, hb1⟩
  have HA := Lib.hid ((At.ofAlloc w #[.int .i64 0, .int .i64 0, .int .i64 0, .nilIface, .nilIface] 37).below hb1 (by simp))
  have HB := Lib.hid (((Below.refl w.heap.size w).alloc (Nat.le_refl _) (Obj.cells #[.int .i64 0, .int .i64 0, .int .i64 0, .nilIface, .nilIface] 37)).trans (hb1.mono (by simp)))
  clear hb1
  obtain ⟨g, hg⟩ : ∃ g, w.heap.size = g := ⟨_, rfl⟩
  rw [hg] at HA HB
  rw [hg]
  have HG := Lib.hid hg
  clear hg
  have c0 := HA.out.cell 0 _ rfl
  have c1 := HA.out.cell 1 _ rfl
  have c2 := HA.out.cell 2 _ rfl
  have c3 := HA.out.cell 3 _ rfl
  have c4 := HA.out.cell 4 _ rfl
  have f0 := HA.out.froz 0 (by decide)
  have f1 := HA.out.froz 1 (by decide)
  have f2 := HA.out.froz 2 (by decide)
  have f3 := HA.out.froz 3 (by decide)
  have f4 := HA.out.froz 4 (by decide)
  go_wp2_with fail
  refine bodyPost_ret (results_at rfl _ g [.int .i64 16, .int .i64 0, .int .i64 16, _, _] _ rfl (fill5 HA.out _ _ _ _ _) Tryz.underlying37 rfl (by kernel_rfl)) rfl ?_
  exact ⟨_, _, rfl, .inr (.inl ⟨_, _, rfl, rfl⟩), by rw [HG.out]; exact below5 HB.out (Nat.le_refl _) _ _ _ _ _⟩
set_option maxRecDepth 100000 in
set_option maxHeartbeats 1600000 in
theorem find_126 (w : World) : Calls Tryz.prog 7 #[.int .i64 126] w (RetRow 32 0 16 w) := by
  have CI := Lib.hid (fun a c t v w => ofTag_any a c t v w)
  go_enter Tryz.func7, Tryz.ntmps7
  go_wp2_with fail
  refine (CI.out 32 16 _ _ _).mono ?_
  rintro e w1 ⟨rfl, hb1⟩
  have HA := Lib.hid ((At.ofAlloc w #[.int .i64 0, .int .i64 0, .int .i64 0, .nilIface, .nilIface] 37).below hb1 (by simp))
  have HB := Lib.hid (((Below.refl w.heap.size w).alloc (Nat.le_refl _) (Obj.cells #[.int .i64 0, .int .i64 0, .int .i64 0, .nilIface, .nilIface] 37)).trans (hb1.mono (by simp)))
  clear hb1
  obtain ⟨g, hg⟩ : ∃ g, w.heap.size = g := ⟨_, rfl⟩
  rw [hg] at HA HB
  rw [hg]
  have HG := Lib.hid hg
  clear hg
  have c0 := HA.out.cell 0 _ rfl
  have c1 := HA.out.cell 1 _ rfl
  have c2 := HA.out.cell 2 _ rfl
  have c3 := HA.out.cell 3 _ rfl
  have c4 := HA.out.cell 4 _ rfl
  have f0 := HA.out.froz 0 (by decide)
  have f1 := HA.out.froz 1 (by decide)
  have f2 := HA.out.froz 2 (by decide)
  have f3 := HA.out.froz 3 (by decide)
  have f4 := HA.out.froz 4 (by decide)
  go_wp2_with fail
  refine bodyPost_ret (results_at rfl _ g [.int .i64 32, .int .i64 0, .int .i64 16, _, _] _ rfl (fill5 HA.out _ _ _ _ _) Tryz.underlying37 rfl (by kernel_rfl)) rfl ?_
  exact ⟨_, _, rfl, .inr (.inl ⟨_, _, rfl, rfl⟩), by rw [HG.out]; exact below5 HB.out (Nat.le_refl _) _ _ _ _ _⟩
set_option maxRecDepth 100000 in
set_option maxHeartbeats 1600000 in
theorem find_none (n : Int) (w : World) (h1 : ¬ n = 1) (h2 : ¬ n = 2) (h3 : ¬ n = 3) (h4 : ¬ n = 4) (h5 : ¬ n = 5) (h6 : ¬ n = 6) (h10 : ¬ n = 10) (h11 : ¬ n = 11) (h12 : ¬ n = 12) (h13 : ¬ n = 13) (h30 : ¬ n = 30) (h31 : ¬ n = 31) (h32 : ¬ n = 32) (h33 : ¬ n = 33) (h104 : ¬ n = 104) (h105 : ¬ n = 105) (h106 : ¬ n = 106) (h107 : ¬ n = 107) (h114 : ¬ n = 114) (h115 : ¬ n = 115) (h125 : ¬ n = 125) (h126 : ¬ n = 126) : Calls Tryz.prog 7 #[.int .i64 n] w (RetRow 0 0 0 w) := by
  go_enter Tryz.func7, Tryz.ntmps7
  go_wp2_with fail
  refine bodyPost_ret (results_at rfl _ w.heap.size [.int .i64 0, .int .i64 0, .int .i64 0, .nilIface, .nilIface] _ rfl (At.ofAlloc w #[.int .i64 0, .int .i64 0, .int .i64 0, .nilIface, .nilIface] 37) Tryz.underlying37 rfl (by kernel_rfl)) rfl ?_
  exact ⟨_, _, rfl, .inr (.inr ⟨rfl, rfl⟩), (Below.refl w.heap.size w).alloc (Nat.le_refl _) _⟩
/-- a number's row, or none -/
def rowZ (n : Int) : Int × Int × Int := match rowOf n with
  | none => (0, 0, 0)
  | some r => r
theorem find_all (n : Int) (w : World) : Calls Tryz.prog 7 #[.int .i64 n] w (RetRow (rowZ n).1 (rowZ n).2.1 (rowZ n).2.2 w) := by
  by_cases h1 : n = 1
  · subst h1; exact find_1 w
  by_cases h2 : n = 2
  · subst h2; exact find_2 w
  by_cases h3 : n = 3
  · subst h3; exact find_3 w
  by_cases h4 : n = 4
  · subst h4; exact find_4 w
  by_cases h5 : n = 5
  · subst h5; exact find_5 w
  by_cases h6 : n = 6
  · subst h6; exact find_6 w
  by_cases h10 : n = 10
  · subst h10; exact find_10 w
  by_cases h11 : n = 11
  · subst h11; exact find_11 w
  by_cases h12 : n = 12
  · subst h12; exact find_12 w
  by_cases h13 : n = 13
  · subst h13; exact find_13 w
  by_cases h30 : n = 30
  · subst h30; exact find_30 w
  by_cases h31 : n = 31
  · subst h31; exact find_31 w
  by_cases h32 : n = 32
  · subst h32; exact find_32 w
  by_cases h33 : n = 33
  · subst h33; exact find_33 w
  by_cases h104 : n = 104
  · subst h104; exact find_104 w
  by_cases h105 : n = 105
  · subst h105; exact find_105 w
  by_cases h106 : n = 106
  · subst h106; exact find_106 w
  by_cases h107 : n = 107
  · subst h107; exact find_107 w
  by_cases h114 : n = 114
  · subst h114; exact find_114 w
  by_cases h115 : n = 115
  · subst h115; exact find_115 w
  by_cases h125 : n = 125
  · subst h125; exact find_125 w
  by_cases h126 : n = 126
  · subst h126; exact find_126 w
  have h : rowOf n = none := by rw [rowOf, if_neg h1, if_neg h2, if_neg h3, if_neg h4, if_neg h5, if_neg h6, if_neg h10, if_neg h11, if_neg h12, if_neg h13, if_neg h30, if_neg h31, if_neg h32, if_neg h33, if_neg h104, if_neg h105, if_neg h106, if_neg h107, if_neg h114, if_neg h115, if_neg h125, if_neg h126]
  rw [rowZ, h]
  exact find_none n w h1 h2 h3 h4 h5 h6 h10 h11 h12 h13 h30 h31 h32 h33 h104 h105 h106 h107 h114 h115 h125 h126
theorem row_cases (n : Int) : rowOf n = none ∨ n = 1 ∨ n = 2 ∨ n = 3 ∨ n = 4 ∨ n = 5 ∨ n = 6 ∨ n = 10 ∨ n = 11 ∨ n = 12 ∨ n = 13 ∨ n = 30 ∨ n = 31 ∨ n = 32 ∨ n = 33 ∨ n = 104 ∨ n = 105 ∨ n = 106 ∨ n = 107 ∨ n = 114 ∨ n = 115 ∨ n = 125 ∨ n = 126 := by
  by_cases h1 : n = 1
  · subst h1; decide
  by_cases h2 : n = 2
  · subst h2; decide
  by_cases h3 : n = 3
  · subst h3; decide
  by_cases h4 : n = 4
  · subst h4; decide
  by_cases h5 : n = 5
  · subst h5; decide
  by_cases h6 : n = 6
  · subst h6; decide
  by_cases h10 : n = 10
  · subst h10; decide
  by_cases h11 : n = 11
  · subst h11; decide
  by_cases h12 : n = 12
  · subst h12; decide
  by_cases h13 : n = 13
  · subst h13; decide
  by_cases h30 : n = 30
  · subst h30; decide
  by_cases h31 : n = 31
  · subst h31; decide
  by_cases h32 : n = 32
  · subst h32; decide
  by_cases h33 : n = 33
  · subst h33; decide
  by_cases h104 : n = 104
  · subst h104; decide
  by_cases h105 : n = 105
  · subst h105; decide
  by_cases h106 : n = 106
  · subst h106; decide
  by_cases h107 : n = 107
  · subst h107; decide
  by_cases h114 : n = 114
  · subst h114; decide
  by_cases h115 : n = 115
  · subst h115; decide
  by_cases h125 : n = 125
  · subst h125; decide
  by_cases h126 : n = 126
  · subst h126; decide
  exact .inl (by rw [rowOf, if_neg h1, if_neg h2, if_neg h3, if_neg h4, if_neg h5, if_neg h6, if_neg h10, if_neg h11, if_neg h12, if_neg h13, if_neg h30, if_neg h31, if_neg h32, if_neg h33, if_neg h104, if_neg h105, if_neg h106, if_neg h107, if_neg h114, if_neg h115, if_neg h125, if_neg h126])
theorem row_key {n : Int} (h : rowOf n ≠ none) : (rowZ n).1 ≠ 0 ∧ 0 ≤ (rowZ n).2.1 ∧ 0 ≤ (rowZ n).2.2 ∧ (rowZ n).2.2 ≤ 64 ∧ (rowZ n).2.1 ≤ 16 := by
  rcases row_cases n with h0 | h0 | h0 | h0 | h0 | h0 | h0 | h0 | h0 | h0 | h0 | h0 | h0 | h0 | h0 | h0 | h0 | h0 | h0 | h0 | h0 | h0 | h0
  · exact absurd h0 h
  all_goals (subst h0; decide)
end Ce
end Go.Proofs.YtflofbimecnakaaGreat
namespace Go.Proofs.YtflofbimecnakaaGreat
open Go.RowKit
set_option linter.unusedVariables false
set_option linter.unusedSimpArgs false
namespace Ce
def RetOf (n : Int) (w : World) (e : Ending) (w' : World) : Prop := e = .returned (.tuple #[.agg #[.int .i64 (rowZ n).1, .int .i64 (rowZ n).2.1, .int .i64 (rowZ n).2.2], .int .i64 (if rowOf n = none then 11 else 0)]) ∧ Below w.heap.size w w'
theorem fill3 {w : World} {T : Nat} {z0 z1 z2 : Value} (h : At w T 0 [z0, z1, z2]) (v0 v1 v2 : Value) : At (((w.setCell ⟨T, 0, none⟩ v0).setCell ⟨T, 1, none⟩ v1).setCell ⟨T, 2, none⟩ v2) T 0 [v0, v1, v2] := ((h.set 0 v0).set 1 v1).set 2 v2
theorem below3 {w0 w : World} {T B : Nat} (hb : Below B w0 w) (hT : B ≤ T) (v0 v1 v2 : Value) : Below B w0 (((w.setCell ⟨T, 0, none⟩ v0).setCell ⟨T, 1, none⟩ v1).setCell ⟨T, 2, none⟩ v2) := ((hb.setCell (p := ⟨T, 0, none⟩) hT v0).setCell (p := ⟨T, 1, none⟩) hT v1).setCell (p := ⟨T, 2, none⟩) hT v2
set_option maxRecDepth 100000 in
set_option maxHeartbeats 1600000 in
theorem of_any (n : Int) (w : World) : Calls Tryz.prog 4 #[.int .i64 n] w (RetOf n w) := by
  have FI := Lib.hid (fun w => find_all n w)
  obtain ⟨k, hk⟩ : ∃ k, (rowZ n).1 = k := ⟨_, rfl⟩
  obtain ⟨iv, hiv⟩ : ∃ k, (rowZ n).2.1 = k := ⟨_, rfl⟩
  obtain ⟨tg, htg⟩ : ∃ k, (rowZ n).2.2 = k := ⟨_, rfl⟩
  have HE : Hid ((k = 0 → rowOf n = none ∧ iv = 0 ∧ tg = 0) ∧ (k ≠ 0 → rowOf n ≠ none)) := by
    show _ ∧ _
    subst hk hiv htg
    refine ⟨fun h => ?_, fun h h0 => h (by rw [rowZ, h0])⟩
    cases hr : rowOf n with
    | none => rw [rowZ, hr]; exact ⟨rfl, rfl, rfl⟩
    | some r => exact absurd h (row_key (n := n) (by rw [hr]; simp)).1
  unfold RetOf
  rw [hk, hiv, htg]
  simp only [hk, hiv, htg] at FI
  have HL0 := Lib.hid (At.ofAlloc w #[.int .i64 0, .int .i64 0, .int .i64 0] 23)
  have HB0 := Lib.hid ((Below.refl w.heap.size w).alloc (Nat.le_refl _) (Obj.cells #[.int .i64 0, .int .i64 0, .int .i64 0] 23))
  obtain ⟨g, hg⟩ : ∃ g, w.heap.size = g := ⟨_, rfl⟩
  rw [hg] at HL0 HB0
  have HG := Lib.hid hg
  clear hk hiv htg
  go_enter Tryz.func4, Tryz.ntmps4
  go_wp2_with fail
  try rw [hg]
  clear hg
  obtain ⟨w0, hw0⟩ : ∃ x, w.alloc (Obj.cells #[.int .i64 0, .int .i64 0, .int .i64 0] 23) = x := ⟨_, rfl⟩
  have HS0 : Hid (g < w0.heap.size) := by show g < _; rw [← hw0, ← HG.out]; simp
  rw [hw0] at HL0 HB0
  rw [hw0]
  clear hw0
  refine (FI.out _).mono ?_
  rintro e w1 ⟨x, y, rfl, hxy, hb1⟩
  have HL1 := Lib.hid (HL0.out.below hb1 HS0.out)
  have HB1 : Hid (Below g w w1) := HB0.out.trans (hb1.mono (Nat.le_of_lt HS0.out))
  have HS1 : Hid (g < w1.heap.size) := Nat.lt_of_lt_of_le HS0.out hb1.size
  clear hb1
  have c0 := (HL1.out.alloc (Obj.cells #[.int .i64 k, .int .i64 iv, .int .i64 tg, x, y] 37)).cell 0 _ rfl
  have c1 := (HL1.out.alloc (Obj.cells #[.int .i64 k, .int .i64 iv, .int .i64 tg, x, y] 37)).cell 1 _ rfl
  have c2 := (HL1.out.alloc (Obj.cells #[.int .i64 k, .int .i64 iv, .int .i64 tg, x, y] 37)).cell 2 _ rfl
  have f0 := (HL1.out.alloc (Obj.cells #[.int .i64 k, .int .i64 iv, .int .i64 tg, x, y] 37)).froz 0 (by decide)
  have f1 := (HL1.out.alloc (Obj.cells #[.int .i64 k, .int .i64 iv, .int .i64 tg, x, y] 37)).froz 1 (by decide)
  have f2 := (HL1.out.alloc (Obj.cells #[.int .i64 k, .int .i64 iv, .int .i64 tg, x, y] 37)).froz 2 (by decide)
  have HL2 := Lib.hid (HL1.out.alloc (Obj.cells #[.int .i64 k, .int .i64 iv, .int .i64 tg, x, y] 37))
  have HB2 := Lib.hid (HB1.out.alloc (Nat.le_of_lt HS1.out) (Obj.cells #[.int .i64 k, .int .i64 iv, .int .i64 tg, x, y] 37))
  by_cases hk : k = 0
  · obtain ⟨hN, rfl, rfl⟩ := HE.out.1 hk
    subst hk
    have HN := Lib.hid hN
    clear hN
    rcases hxy with ⟨T, z, rfl, rfl⟩ | ⟨T, z, rfl, rfl⟩ | ⟨rfl, rfl⟩
    all_goals
      go_wp2_with fail
      refine bodyPost_ret (results_at_two rfl _ g [.int .i64 0, .int .i64 0, .int .i64 0] _ rfl (fill3 HL2.out _ _ _) Tryz.underlying23 rfl (by kernel_rfl) _ rfl) rfl ?_
      exact ⟨by first | rfl | (rw [if_pos HN.out]; rfl), by rw [HG.out]; exact below3 HB2.out (Nat.le_refl _) _ _ _⟩
  · have HN := Lib.hid (HE.out.2 hk)
    rcases hxy with ⟨T, z, rfl, rfl⟩ | ⟨T, z, rfl, rfl⟩ | ⟨rfl, rfl⟩
    all_goals
      go_wp2_with fail
      refine bodyPost_ret (results_at_two rfl _ g [.int .i64 k, .int .i64 iv, .int .i64 tg] _ rfl (fill3 HL2.out _ _ _) Tryz.underlying23 rfl (by kernel_rfl) _ rfl) rfl ?_
      exact ⟨by first | rfl | (rw [if_neg HN.out]; rfl), by rw [HG.out]; exact below3 HB2.out (Nat.le_refl _) _ _ _⟩
structure R5 where
  alg : Int
  key : Int
  iv : Int
  tag : Int
  layer : Int
def R50 : R5 := ⟨0, 0, 0, 0, 0⟩
def T13 : List R5 := [⟨1, 16, 12, 16, 9⟩, ⟨2, 24, 12, 16, 9⟩, ⟨3, 32, 12, 16, 9⟩, ⟨4, 32, 16, 16, 11⟩, ⟨5, 48, 16, 24, 11⟩, ⟨6, 64, 16, 32, 11⟩, ⟨10, 16, 13, 8, 10⟩, ⟨11, 32, 13, 8, 10⟩, ⟨12, 16, 7, 8, 10⟩, ⟨13, 32, 7, 8, 10⟩, ⟨30, 16, 13, 16, 10⟩, ⟨31, 32, 13, 16, 10⟩, ⟨32, 16, 7, 16, 10⟩, ⟨33, 32, 7, 16, 10⟩, ⟨104, 32, 0, 8, 4⟩, ⟨105, 32, 0, 32, 4⟩, ⟨106, 48, 0, 48, 4⟩, ⟨107, 64, 0, 64, 4⟩, ⟨114, 16, 0, 8, 6⟩, ⟨115, 32, 0, 8, 6⟩, ⟨125, 16, 0, 16, 6⟩, ⟨126, 32, 0, 16, 6⟩]
def of13 (n : Int) : R5 := (T13.find? fun r => decide (r.alg = n)).getD R50
def r5v (r : R5) : List Value := [.int .i64 r.alg, .int .i64 r.key, .int .i64 r.iv, .int .i64 r.tag, .int .i64 r.layer]
def r5cells (l : List R5) : List Value := l.flatMap r5v
theorem r5cells_length (l : List R5) : (r5cells l).length = l.length * 5 := by
  induction l with
  | nil => rfl
  | cons a l ih => rw [show r5cells (a :: l) = r5v a ++ r5cells l from rfl, List.length_append, ih, List.length_cons]; simp [r5v]; omega
theorem r5_at {w : World} {g : Nat} {l : List R5} (h : At w g 0 (r5cells l)) (i : Nat) (r : R5) (hi : l[i]? = some r) : At w g (i * 5) (r5v r) := by
  obtain ⟨hlt, he⟩ := List.getElem?_eq_some_iff.1 hi
  have h1 : l = l.take i ++ ([r] ++ l.drop (i + 1)) := by rw [← he]; simp
  have h2 : r5cells l = r5cells (l.take i) ++ r5v r ++ r5cells (l.drop (i + 1)) := by
    conv => lhs; rw [h1]
    rw [r5cells, List.flatMap_append, List.flatMap_append, ← List.append_assoc]
    simp [r5cells]
  rw [h2] at h
  have h3 := At.sub h
  rw [r5cells_length, List.length_take, Nat.min_eq_left (Nat.le_of_lt hlt), Nat.zero_add] at h3
  exact h3
theorem find_at {l : List R5} {n : Int} {i : Nat} {r : R5} (hi : l[i]? = some r) (hn : ∀ q ∈ l.take i, ¬ q.alg = n) (hr : r.alg = n) : l.find? (fun r => decide (r.alg = n)) = some r := by
  obtain ⟨hlt, he⟩ := List.getElem?_eq_some_iff.1 hi
  have h1 : l = l.take i ++ ([r] ++ l.drop (i + 1)) := by rw [← he]; simp
  rw [h1, List.find?_append, List.find?_eq_none.2 (fun q hq => by simp [hn q hq])]
  simp [hr]
theorem find_no {l : List R5} {n : Int} (hn : ∀ q ∈ l, ¬ q.alg = n) : l.find? (fun r => decide (r.alg = n)) = none := List.find?_eq_none.2 (fun q hq => by simp [hn q hq])
theorem take_no {l : List R5} {n : Int} {i : Nat} {r : R5} (hi : l[i]? = some r) (hn : ∀ q ∈ l.take i, ¬ q.alg = n) (hr : ¬ r.alg = n) : ∀ q ∈ l.take (i + 1), ¬ q.alg = n := by
  intro q hq
  obtain ⟨hlt, he⟩ := List.getElem?_eq_some_iff.1 hi
  rw [List.take_succ_eq_append_getElem hlt, List.mem_append] at hq
  rcases hq with hq | hq
  · exact hn q hq
  · simp only [List.mem_cons, List.mem_nil_iff, or_false] at hq
    rw [hq, he]
    exact hr
set_option maxRecDepth 100000 in
set_option maxHeartbeats 1600000 in
theorem rtable_any (w : World) : Calls Tryz.prog 8 #[] w (fun e w' => e = .returned (.slice (some ⟨w.heap.size, 0, none⟩) 22 22) ∧ At w' w.heap.size 0 (r5cells T13) ∧ Below w.heap.size w w' ∧ w'.heap.size = w.heap.size + 1) := by
  go_enter Tryz.func8, Tryz.ntmps8
  go_wp2_with fail
  go_ret
  exact ⟨rfl, At.ofAlloc w #[.int .i64 1, .int .i64 16, .int .i64 12, .int .i64 16, .int .i64 9, .int .i64 2, .int .i64 24, .int .i64 12, .int .i64 16, .int .i64 9, .int .i64 3, .int .i64 32, .int .i64 12, .int .i64 16, .int .i64 9, .int .i64 4, .int .i64 32, .int .i64 16, .int .i64 16, .int .i64 11, .int .i64 5, .int .i64 48, .int .i64 16, .int .i64 24, .int .i64 11, .int .i64 6, .int .i64 64, .int .i64 16, .int .i64 32, .int .i64 11, .int .i64 10, .int .i64 16, .int .i64 13, .int .i64 8, .int .i64 10, .int .i64 11, .int .i64 32, .int .i64 13, .int .i64 8, .int .i64 10, .int .i64 12, .int .i64 16, .int .i64 7, .int .i64 8, .int .i64 10, .int .i64 13, .int .i64 32, .int .i64 7, .int .i64 8, .int .i64 10, .int .i64 30, .int .i64 16, .int .i64 13, .int .i64 16, .int .i64 10, .int .i64 31, .int .i64 32, .int .i64 13, .int .i64 16, .int .i64 10, .int .i64 32, .int .i64 16, .int .i64 7, .int .i64 16, .int .i64 10, .int .i64 33, .int .i64 32, .int .i64 7, .int .i64 16, .int .i64 10, .int .i64 104, .int .i64 32, .int .i64 0, .int .i64 8, .int .i64 4, .int .i64 105, .int .i64 32, .int .i64 0, .int .i64 32, .int .i64 4, .int .i64 106, .int .i64 48, .int .i64 0, .int .i64 48, .int .i64 4, .int .i64 107, .int .i64 64, .int .i64 0, .int .i64 64, .int .i64 4, .int .i64 114, .int .i64 16, .int .i64 0, .int .i64 8, .int .i64 6, .int .i64 115, .int .i64 32, .int .i64 0, .int .i64 8, .int .i64 6, .int .i64 125, .int .i64 16, .int .i64 0, .int .i64 16, .int .i64 6, .int .i64 126, .int .i64 32, .int .i64 0, .int .i64 16, .int .i64 6] 28, (Below.refl _ _).alloc (Nat.le_refl _) _, by simp⟩
theorem fillR5 {w : World} {T : Nat} {z0 z1 z2 z3 z4 : Value} (h : At w T 0 [z0, z1, z2, z3, z4]) (v0 v1 v2 v3 v4 : Value) : At (((((w.setCell ⟨T, 0, none⟩ v0).setCell ⟨T, 1, none⟩ v1).setCell ⟨T, 2, none⟩ v2).setCell ⟨T, 3, none⟩ v3).setCell ⟨T, 4, none⟩ v4) T 0 [v0, v1, v2, v3, v4] := ((((h.set 0 v0).set 1 v1).set 2 v2).set 3 v3).set 4 v4
theorem belowR5 {w0 w : World} {T B : Nat} (hb : Below B w0 w) (hT : B ≤ T) (v0 v1 v2 v3 v4 : Value) : Below B w0 (((((w.setCell ⟨T, 0, none⟩ v0).setCell ⟨T, 1, none⟩ v1).setCell ⟨T, 2, none⟩ v2).setCell ⟨T, 3, none⟩ v3).setCell ⟨T, 4, none⟩ v4) := ((((hb.setCell (p := ⟨T, 0, none⟩) hT v0).setCell (p := ⟨T, 1, none⟩) hT v1).setCell (p := ⟨T, 2, none⟩) hT v2).setCell (p := ⟨T, 3, none⟩) hT v3).setCell (p := ⟨T, 4, none⟩) hT v4
set_option maxRecDepth 100000 in
set_option maxHeartbeats 1600000 in
theorem rof_any (n : Int) (w : World) : Calls Tryz.prog 5 #[.int .i64 n] w (fun e w' => e = .returned (.agg (r5v (of13 n)).toArray) ∧ Below w.heap.size w w') := by
  have hb0 : Below w.heap.size w (w.alloc (Obj.cells #[.int .i64 0, .int .i64 0, .int .i64 0, .int .i64 0, .int .i64 0] 28)) := (Below.refl _ _).alloc (Nat.le_refl _) _
  have hA0 := At.ofAlloc w #[.int .i64 0, .int .i64 0, .int .i64 0, .int .i64 0, .int .i64 0] 28
  obtain ⟨B, hB⟩ : ∃ B, w.heap.size = B := ⟨_, rfl⟩
  have HBB := Lib.hid hB
  go_enter Tryz.func5, Tryz.ntmps5
  go_upto_region 1 with fail
  obtain ⟨w0, hw0⟩ : ∃ q, w.alloc (Obj.cells #[.int .i64 0, .int .i64 0, .int .i64 0, .int .i64 0, .int .i64 0] 28) = q := ⟨_, rfl⟩
  have hs0 : w0.heap.size = B + 1 := by rw [← hw0, ← hB]; simp
  rw [hw0] at hA0 hb0
  try rw [hw0]
  rw [hB] at hA0 hb0
  try rw [hB]
  have HA0 := Lib.hid hA0
  have HB0 := Lib.hid hb0
  have HS0 := Lib.hid hs0
  clear hw0 hA0 hb0 hs0 hB
  go_wp2_with fail
  refine (rtable_any w0).mono ?_
  rintro e w1 ⟨rfl, hT, hb1, hs1⟩
  rw [HS0.out] at hT hs1 ⊢
  have HT := Lib.hid hT
  have HB1 : Hid (Below B w w1) := HB0.out.trans (hb1.mono (by rw [HS0.out]; omega))
  have HA1 := Lib.hid (HA0.out.below hb1 (by rw [HS0.out]; omega))
  have HS1 := Lib.hid hs1
  clear hT hb1 hs1
  go_wp2_with fail
  go_loopw [4] (fun vi wr => ∃ i : Nat, vi = .int .i64 (i : Int) ∧ i ≤ 22 ∧ Hid (∀ q ∈ T13.take i, ¬ q.alg = n) ∧ Hid (Below w1.heap.size w1 wr)) (fun vi _ => 22 - (intOf vi).toNat)
  case atStart => exact ⟨0, rfl, Nat.zero_le _, fun q hq => by simp at hq, Below.refl _ _⟩
  case round =>
    obtain ⟨i, rfl, hi, HN, HB⟩ := hrel
    have hBw : Hid (Below B w wr) := HB1.out.trans (HB.out.mono (by rw [HS1.out]; omega))
    have HAr := Lib.hid (HA1.out.below HB.out (by rw [HS1.out]; omega))
    by_cases hin : i < 22
    case pos =>
      obtain ⟨r, hr⟩ : ∃ r, T13[i]? = some r := ⟨_, List.getElem?_eq_getElem (show i < 22 from hin)⟩
      have hAt := (r5_at HT.out i r hr).below HB.out (by rw [HS1.out]; omega)
      have e1 : (i : Int) < 22 := by omega
      have e2 : IntKind.i64.wrap ((i : Int) + 1) = (i : Int) + 1 := by have := wfit (i + 1) (by unfold maxLen; omega); push_cast at this; exact this
      have HII : Hid (i + 1 ≤ 22) := by show i + 1 ≤ 22; omega
      have HR := Lib.hid hr
      rw [r5v] at hAt
      have c0 := hAt.cell 0 _ rfl
      have c1 := hAt.cell 1 _ rfl
      have c2 := hAt.cell 2 _ rfl
      have c3 := hAt.cell 3 _ rfl
      have c4 := hAt.cell 4 _ rfl
      simp only [Nat.add_zero] at c0
      by_cases hrn : r.alg = n
      · have hf : (r.alg == n) = true := by simpa using hrn
        have HF : Hid (of13 n = r) := by show _ = _; rw [of13, find_at hr HN.out hrn]; rfl
        have z0 := HAr.out.cell 0 _ rfl
        have z1 := HAr.out.cell 1 _ rfl
        have z2 := HAr.out.cell 2 _ rfl
        have z3 := HAr.out.cell 3 _ rfl
        have z4 := HAr.out.cell 4 _ rfl
        have y0 := (HAr.out 0 _ rfl).2
        have y1 := (HAr.out 1 _ rfl).2
        have y2 := (HAr.out 2 _ rfl).2
        have y3 := (HAr.out 3 _ rfl).2
        have y4 := (HAr.out 4 _ rfl).2
        rw [Nat.zero_add] at z0 z1 z2 z3 z4 y0 y1 y2 y3 y4
        clear hr hAt hrn hin hi
        go_wp2_with fail
        refine bodyPost_ret (results_at rfl _ B (r5v r) _ rfl (fillR5 HAr.out _ _ _ _ _) Tryz.underlying28 rfl (by kernel_rfl)) rfl ?_
        exact ⟨by rw [HF.out], by rw [HBB.out]; exact belowR5 hBw.out (Nat.le_refl _) _ _ _ _ _⟩
      · have hf : (r.alg == n) = false := by simpa using hrn
        have HNN := Lib.hid (take_no hr HN.out hrn)
        clear hr hAt hin hi hrn
        go_wp2_with fail
        go_roundw
        case rel => exact ⟨i + 1, by go_num, HII.out, HNN, HB⟩
        case measure => have := HII.out; simp [intOf]; omega
    case neg =>
      obtain rfl : i = 22 := by omega
      have hN := HN.out
      rw [List.take_of_length_le (by decide)] at hN
      have HF : Hid (of13 n = R50) := by show _ = _; rw [of13, find_no hN]; rfl
      clear hN
      have z0 := HAr.out.cell 0 _ rfl
      have z1 := HAr.out.cell 1 _ rfl
      have z2 := HAr.out.cell 2 _ rfl
      have z3 := HAr.out.cell 3 _ rfl
      have z4 := HAr.out.cell 4 _ rfl
      have y0 := (HAr.out 0 _ rfl).2
      have y1 := (HAr.out 1 _ rfl).2
      have y2 := (HAr.out 2 _ rfl).2
      have y3 := (HAr.out 3 _ rfl).2
      have y4 := (HAr.out 4 _ rfl).2
      rw [Nat.zero_add] at z0 z1 z2 z3 z4 y0 y1 y2 y3 y4
      clear hin hi
      go_wp2_with fail
      refine bodyPost_ret (results_at rfl _ B (r5v R50) _ rfl (fillR5 HAr.out _ _ _ _ _) Tryz.underlying28 rfl (by kernel_rfl)) rfl ?_
      exact ⟨by rw [HF.out], by rw [HBB.out]; exact belowR5 hBw.out (Nat.le_refl _) _ _ _ _ _⟩
theorem of13_row (n : Int) : (rowOf n = none ∧ of13 n = R50) ∨ (∃ r, of13 n = r ∧ r.alg = n ∧ ¬ n = 0 ∧ rowOf n = some (r.key, r.iv, r.tag)) := by
  rcases row_cases n with h | h
  · left
    refine ⟨h, ?_⟩
    rw [of13, find_no (fun q hq hn => ?_)]
    · rfl
    · have hall : ∀ q ∈ T13, rowOf q.alg ≠ none := by decide
      exact hall q hq (by rw [hn]; exact h)
  · right
    rcases h with h | h | h | h | h | h | h | h | h | h | h | h | h | h | h | h | h | h | h | h | h | h
    all_goals (subst h; exact ⟨_, rfl, by decide, by decide, by decide⟩)
set_option maxRecDepth 100000 in
set_option maxHeartbeats 1600000 in
theorem find_one (w : World) : Calls Tryz.prog 7 #[.int .i64 1] w (fun e w' => e = .returned (.agg #[.int .i64 16, .int .i64 12, .int .i64 16, .iface 47 (.agg #[]), .nilIface]) ∧ Below w.heap.size w w') := by
  have CI := Lib.hid (fun a b c t v w => ofCipher_any a b c t v w)
  go_enter Tryz.func7, Tryz.ntmps7
  go_wp2_with fail
  refine (CI.out 16 12 16 _ _ _).mono ?_
  rintro e w1 ⟨rfl, hb1⟩
  have HA := Lib.hid ((At.ofAlloc w #[.int .i64 0, .int .i64 0, .int .i64 0, .nilIface, .nilIface] 37).below hb1 (by simp))
  have HB := Lib.hid (((Below.refl w.heap.size w).alloc (Nat.le_refl _) (Obj.cells #[.int .i64 0, .int .i64 0, .int .i64 0, .nilIface, .nilIface] 37)).trans (hb1.mono (by simp)))
  clear hb1
  obtain ⟨g, hg⟩ : ∃ g, w.heap.size = g := ⟨_, rfl⟩
  rw [hg] at HA HB
  rw [hg]
  have HG := Lib.hid hg
  clear hg
  have c0 := HA.out.cell 0 _ rfl
  have c1 := HA.out.cell 1 _ rfl
  have c2 := HA.out.cell 2 _ rfl
  have c3 := HA.out.cell 3 _ rfl
  have c4 := HA.out.cell 4 _ rfl
  have f0 := HA.out.froz 0 (by decide)
  have f1 := HA.out.froz 1 (by decide)
  have f2 := HA.out.froz 2 (by decide)
  have f3 := HA.out.froz 3 (by decide)
  have f4 := HA.out.froz 4 (by decide)
  go_wp2_with fail
  refine bodyPost_ret (results_at rfl _ g [.int .i64 16, .int .i64 12, .int .i64 16, _, _] _ rfl (fill5 HA.out _ _ _ _ _) Tryz.underlying37 rfl (by kernel_rfl)) rfl ?_
  exact ⟨rfl, by rw [HG.out]; exact below5 HB.out (Nat.le_refl _) _ _ _ _ _⟩
end Ce
end Go.Proofs.YtflofbimecnakaaGreat
