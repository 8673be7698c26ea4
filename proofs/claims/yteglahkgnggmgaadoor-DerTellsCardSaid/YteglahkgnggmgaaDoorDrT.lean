/- The deferred closure that catches a fault. -/
import Derived.Test.YteglahkgnggmgaaDoorDrS
import Derived.Recover
import Derived.Defers
namespace Go.Proofs.YteglahkgnggmgaaDoor
open Go.RowKit
set_option linter.unusedVariables false
set_option linter.unusedSimpArgs false
open Dr
set_option maxRecDepth 100000 in
set_option maxHeartbeats 1600000 in
theorem catch_panicking (a b c : Nat) (z : Int) (q : Int) (v0 : Value) (n0 n1 : Int) (w : World) (h1 : w.cell? ⟨a, 0, none⟩ = some (.slice none 0 0)) (h2 : w.cell? ⟨b, 0, none⟩ = some (.int .i64 n0)) (h3 : w.cell? ⟨c, 0, none⟩ = some (.int .i64 n1))
    (f1 : w.frozen? ⟨a, 0, none⟩ = false) (f2 : w.frozen? ⟨b, 0, none⟩ = false) (f3 : w.frozen? ⟨c, 0, none⟩ = false) (hab : a ≠ b) (hac : a ≠ c) (hbc : b ≠ c) :
    CallsD Tryd.prog 29 #[.pointer (some ⟨a, 0, none⟩), .pointer (some ⟨b, 0, none⟩), .pointer (some ⟨c, 0, none⟩)] (.panicking (flt z q)) w fun e u' w' =>
      e = .returned (.tuple #[]) ∧ u' = .panicking [{ v := .iface 65 (.agg #[.int .i64 z, .int .i64 q]), recovered := true }] ∧
      w'.cell? ⟨a, 0, none⟩ = some (.slice none 0 0) ∧ w'.cell? ⟨b, 0, none⟩ = some (.int .i64 q) ∧ w'.cell? ⟨c, 0, none⟩ = some (.int .i64 z) ∧ ∀ B, B ≤ a → B ≤ b → B ≤ c → B ≤ w.heap.size → Below B w w' := by
  refine callsD_of_wpS Tryd.func29 rfl fun c₀ cs hu => ?_
  apply wpS_seq
  apply wpS_region
  simp [wpOpsS, go_sem, recoverD, hu, Tryd.ntmps29, Exit.thenS, flt]
  refine wpS_of_wp ?_
  rw [show (#[Value.pointer (some ⟨a, 0, none⟩), Value.pointer (some ⟨b, 0, none⟩), Value.pointer (some ⟨c, 0, none⟩)] ++ ((Array.replicate 11 undef).setIfInBounds 2 (Value.iface 65 (Value.agg #[Value.int .i64 z, Value.int .i64 q]))).setIfInBounds 0 (Value.iface 65 (Value.agg #[Value.int .i64 z, Value.int .i64 q]))) = #[Value.pointer (some ⟨a, 0, none⟩), Value.pointer (some ⟨b, 0, none⟩), Value.pointer (some ⟨c, 0, none⟩), Value.iface 65 (Value.agg #[Value.int .i64 z, Value.int .i64 q]), undef, Value.iface 65 (Value.agg #[Value.int .i64 z, Value.int .i64 q]), undef, undef, undef, undef, undef, undef, undef, undef] from rfl]
  have hla := World.block_lt_of_cell? w _ h1
  have hlb := World.block_lt_of_cell? w _ h2
  have hlc := World.block_lt_of_cell? w _ h3
  have hta : ∀ (v : Value) (w : World), (Instr.typeAssert (.iface 65 v) 20 65 false).run Tryd.prog w = .ok v w := fun _ _ => by kernel_rfl
  go_wp2_with fail
  have hAT := At.ofAlloc w #[.int .i64 z, .int .i64 q] 65
  have g1 : (w.alloc (Obj.cells #[.int .i64 z, .int .i64 q] 65)).cell? ⟨a, 0, none⟩ = _ := (World.cell?_alloc_past _ _ _ hla).trans h1
  have g2 : (w.alloc (Obj.cells #[.int .i64 z, .int .i64 q] 65)).cell? ⟨b, 0, none⟩ = _ := (World.cell?_alloc_past _ _ _ hlb).trans h2
  have g3 : (w.alloc (Obj.cells #[.int .i64 z, .int .i64 q] 65)).cell? ⟨c, 0, none⟩ = _ := (World.cell?_alloc_past _ _ _ hlc).trans h3
  have k1 : (w.alloc (Obj.cells #[.int .i64 z, .int .i64 q] 65)).frozen? ⟨a, 0, none⟩ = false := ((Below.refl w.heap.size w).alloc (Nat.le_refl _) _).frozen hla |>.trans f1
  have k2 : (w.alloc (Obj.cells #[.int .i64 z, .int .i64 q] 65)).frozen? ⟨b, 0, none⟩ = false := ((Below.refl w.heap.size w).alloc (Nat.le_refl _) _).frozen hlb |>.trans f2
  have k3 : (w.alloc (Obj.cells #[.int .i64 z, .int .i64 q] 65)).frozen? ⟨c, 0, none⟩ = false := ((Below.refl w.heap.size w).alloc (Nat.le_refl _) _).frozen hlc |>.trans f3
  have t0 := hAT.cell 0 _ rfl
  have t1 := hAT.cell 1 _ rfl
  have na : a ≠ w.heap.size := fun h => by simp [h] at hla
  have nb : b ≠ w.heap.size := fun h => by simp [h] at hlb
  have nc : c ≠ w.heap.size := fun h => by simp [h] at hlc
  obtain ⟨T, hT⟩ : ∃ T, w.heap.size = T := ⟨_, rfl⟩
  obtain ⟨w1, hw1⟩ : ∃ x, w.alloc (Obj.cells #[.int .i64 z, .int .i64 q] 65) = x := ⟨_, rfl⟩
  rw [hw1] at g1 g2 g3 k1 k2 k3 t0 t1 ⊢
  rw [hT] at t0 t1 na nb nc ⊢
  have na' := na.symm
  have nb' := nb.symm
  have nc' := nc.symm
  have hab' := hab.symm
  have hac' := hac.symm
  have hbc' := hbc.symm
  have HB1 : Hid (∀ B, B ≤ w.heap.size → Below B w w1) := fun B hB => by rw [← hw1]; exact (Below.refl B w).alloc hB _
  clear hAT hw1 hT h1 h2 h3 f1 f2 f3 hla hlb hlc
  go_region
  go_wp2_with fail
  have c1 : ((((w1.setCell ⟨a, 0, none⟩ (.slice none 0 0)).setCell ⟨b, 0, none⟩ (.int .i64 q)).setCell ⟨c, 0, none⟩ (.int .i64 z)).drew).cell? ⟨a, 0, none⟩ = some (.slice none 0 0) := by
    simp [go_sem, g1, g2, g3, hab, hac, hbc, hab', hac', hbc']
  have c2 : ((((w1.setCell ⟨a, 0, none⟩ (.slice none 0 0)).setCell ⟨b, 0, none⟩ (.int .i64 q)).setCell ⟨c, 0, none⟩ (.int .i64 z)).drew).cell? ⟨b, 0, none⟩ = some (.int .i64 q) := by
    simp [go_sem, g1, g2, g3, hab, hac, hbc, hab', hac', hbc']
  have c3 : ((((w1.setCell ⟨a, 0, none⟩ (.slice none 0 0)).setCell ⟨b, 0, none⟩ (.int .i64 q)).setCell ⟨c, 0, none⟩ (.int .i64 z)).drew).cell? ⟨c, 0, none⟩ = some (.int .i64 z) := by
    simp [go_sem, g1, g2, g3, hab, hac, hbc, hab', hac', hbc']
  have c4 : ∀ B, B ≤ a → B ≤ b → B ≤ c → B ≤ w.heap.size → Below B w ((((w1.setCell ⟨a, 0, none⟩ (.slice none 0 0)).setCell ⟨b, 0, none⟩ (.int .i64 q)).setCell ⟨c, 0, none⟩ (.int .i64 z)).drew) := fun B ha hb hc hw => ((((HB1.out B hw).setCell (p := ⟨a, 0, none⟩) ha _).setCell (p := ⟨b, 0, none⟩) hb _).setCell (p := ⟨c, 0, none⟩) hc _).drew
  have C := Lib.hid (And.intro c1 (And.intro c2 (And.intro c3 c4)))
  clear c1 c2 c3 c4
  generalize (((w1.setCell ⟨a, 0, none⟩ (.slice none 0 0)).setCell ⟨b, 0, none⟩ (.int .i64 q)).setCell ⟨c, 0, none⟩ (.int .i64 z)).drew = wz at C ⊢
  simp [bodyPostS, results, Tryd.results29]
  exact C.out
theorem catch_idle (a b c : Nat) (w : World) :
    CallsD Tryd.prog 29 #[.pointer (some ⟨a, 0, none⟩), .pointer (some ⟨b, 0, none⟩), .pointer (some ⟨c, 0, none⟩)] .returning w fun e u' w' => e = .returned (.tuple #[]) ∧ u' = .returning ∧ w' = w := by
  refine callsD_of_wpS Tryd.func29 rfl fun c₀ cs hu => ?_
  apply wpS_seq
  apply wpS_region
  simp [wpOpsS, go_sem, recoverD, hu, Tryd.ntmps29, Exit.thenS, flt]
  apply wpS_seq
  apply wpS_region
  simp [wpOpsS, go_sem, recoverD, hu, Tryd.ntmps29, Exit.thenS, flt]
  refine wpS_cond (t := false) (by simp [Act.eval, Array.replicate]) ?_
  simp only [Bool.false_eq_true, if_false]
  refine wpS_of_wp (wp_skip ?_)
  cases c₀
  simp_all [bodyPostS, results, Tryd.results29]
end Go.Proofs.YteglahkgnggmgaaDoor
