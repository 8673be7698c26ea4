/- Limits that may be; the deferred closure that catches a fault; Decode. -/
import Derived.Test.YtikgonlhdkknkaaDoorCpJ
import Derived.Recover
import Derived.Defers
namespace Go.Proofs.YtikgonlhdkknkaaDoor
open Go.RowKit
set_option linter.unusedVariables false
set_option linter.unusedSimpArgs false
namespace Co
open Dr (Rs Lm has lack at0S)
def mayOk (d i b r : Int) : Bool := decide (1 ≤ d ∧ d ≤ 32 ∧ 1 ≤ i ∧ i ≤ 4096 ∧ 1 ≤ b ∧ b ≤ 262144 ∧ 1 ≤ r ∧ r ≤ 4096)
theorem mayOk_yes {d i b r : Int} (h : mayOk d i b r = true) : 1 ≤ d ∧ d ≤ 32 ∧ 1 ≤ i ∧ i ≤ 4096 ∧ 1 ≤ b ∧ b ≤ 262144 ∧ 1 ≤ r ∧ r ≤ 4096 := by rw [mayOk, decide_eq_true_iff] at h; exact h
structure HBool (p : Bool) (b : Bool) : Prop where
  out : p = b
set_option maxRecDepth 100000 in
set_option maxHeartbeats 3200000 in
theorem may_any (d i b r : Int) (w : World) : Calls Tryd.prog 34 #[.agg #[.int .i64 d, .int .i64 i, .int .i64 b, .int .i64 r]] w (fun e w' => e = .returned (.bool (mayOk d i b r)) ∧ Below w.heap.size w w') := by
  obtain ⟨R, hR⟩ : ∃ R, mayOk d i b r = R := ⟨_, rfl⟩
  rw [hR]
  rw [mayOk] at hR
  have ENTER : True := trivial
  by_cases h0 : (1 : Int) ≤ (d : Int)
  case neg =>
    obtain rfl : R = false := by rw [← hR]; exact decide_eq_false (fun h => by omega)
    have f0 : decide ((1 : Int) ≤ (d : Int)) = false := decide_eq_false h0
    clear hR ENTER h0
    go_enter Tryd.func34, Tryd.ntmps34
    go_wp2_with fail
    go_ret
    exact ⟨rfl, (Below.refl _ _).alloc (Nat.le_refl _) _⟩
  by_cases h1 : (d : Int) ≤ (32 : Int)
  case neg =>
    obtain rfl : R = false := by rw [← hR]; exact decide_eq_false (fun h => by omega)
    have f1 : decide ((d : Int) ≤ (32 : Int)) = false := decide_eq_false h1
    have t0 : decide ((1 : Int) ≤ (d : Int)) = true := decide_eq_true h0
    clear hR ENTER h0 h1
    go_enter Tryd.func34, Tryd.ntmps34
    go_wp2_with fail
    go_ret
    exact ⟨rfl, (Below.refl _ _).alloc (Nat.le_refl _) _⟩
  by_cases h2 : (1 : Int) ≤ (i : Int)
  case neg =>
    obtain rfl : R = false := by rw [← hR]; exact decide_eq_false (fun h => by omega)
    have f2 : decide ((1 : Int) ≤ (i : Int)) = false := decide_eq_false h2
    have t0 : decide ((1 : Int) ≤ (d : Int)) = true := decide_eq_true h0
    have t1 : decide ((d : Int) ≤ (32 : Int)) = true := decide_eq_true h1
    clear hR ENTER h0 h1 h2
    go_enter Tryd.func34, Tryd.ntmps34
    go_wp2_with fail
    go_ret
    exact ⟨rfl, (Below.refl _ _).alloc (Nat.le_refl _) _⟩
  by_cases h3 : (i : Int) ≤ (4096 : Int)
  case neg =>
    obtain rfl : R = false := by rw [← hR]; exact decide_eq_false (fun h => by omega)
    have f3 : decide ((i : Int) ≤ (4096 : Int)) = false := decide_eq_false h3
    have t0 : decide ((1 : Int) ≤ (d : Int)) = true := decide_eq_true h0
    have t1 : decide ((d : Int) ≤ (32 : Int)) = true := decide_eq_true h1
    have t2 : decide ((1 : Int) ≤ (i : Int)) = true := decide_eq_true h2
    clear hR ENTER h0 h1 h2 h3
    go_enter Tryd.func34, Tryd.ntmps34
    go_wp2_with fail
    go_ret
    exact ⟨rfl, (Below.refl _ _).alloc (Nat.le_refl _) _⟩
  by_cases h4 : (1 : Int) ≤ (b : Int)
  case neg =>
    obtain rfl : R = false := by rw [← hR]; exact decide_eq_false (fun h => by omega)
    have f4 : decide ((1 : Int) ≤ (b : Int)) = false := decide_eq_false h4
    have t0 : decide ((1 : Int) ≤ (d : Int)) = true := decide_eq_true h0
    have t1 : decide ((d : Int) ≤ (32 : Int)) = true := decide_eq_true h1
    have t2 : decide ((1 : Int) ≤ (i : Int)) = true := decide_eq_true h2
    have t3 : decide ((i : Int) ≤ (4096 : Int)) = true := decide_eq_true h3
    clear hR ENTER h0 h1 h2 h3 h4
    go_enter Tryd.func34, Tryd.ntmps34
    go_wp2_with fail
    go_ret
    exact ⟨rfl, (Below.refl _ _).alloc (Nat.le_refl _) _⟩
  by_cases h5 : (b : Int) ≤ (262144 : Int)
  case neg =>
    obtain rfl : R = false := by rw [← hR]; exact decide_eq_false (fun h => by omega)
    have f5 : decide ((b : Int) ≤ (262144 : Int)) = false := decide_eq_false h5
    have t0 : decide ((1 : Int) ≤ (d : Int)) = true := decide_eq_true h0
    have t1 : decide ((d : Int) ≤ (32 : Int)) = true := decide_eq_true h1
    have t2 : decide ((1 : Int) ≤ (i : Int)) = true := decide_eq_true h2
    have t3 : decide ((i : Int) ≤ (4096 : Int)) = true := decide_eq_true h3
    have t4 : decide ((1 : Int) ≤ (b : Int)) = true := decide_eq_true h4
    clear hR ENTER h0 h1 h2 h3 h4 h5
    go_enter Tryd.func34, Tryd.ntmps34
    go_wp2_with fail
    go_ret
    exact ⟨rfl, (Below.refl _ _).alloc (Nat.le_refl _) _⟩
  by_cases h6 : (1 : Int) ≤ (r : Int)
  case neg =>
    obtain rfl : R = false := by rw [← hR]; exact decide_eq_false (fun h => by omega)
    have f6 : decide ((1 : Int) ≤ (r : Int)) = false := decide_eq_false h6
    have t0 : decide ((1 : Int) ≤ (d : Int)) = true := decide_eq_true h0
    have t1 : decide ((d : Int) ≤ (32 : Int)) = true := decide_eq_true h1
    have t2 : decide ((1 : Int) ≤ (i : Int)) = true := decide_eq_true h2
    have t3 : decide ((i : Int) ≤ (4096 : Int)) = true := decide_eq_true h3
    have t4 : decide ((1 : Int) ≤ (b : Int)) = true := decide_eq_true h4
    have t5 : decide ((b : Int) ≤ (262144 : Int)) = true := decide_eq_true h5
    clear hR ENTER h0 h1 h2 h3 h4 h5 h6
    go_enter Tryd.func34, Tryd.ntmps34
    go_wp2_with fail
    go_ret
    exact ⟨rfl, (Below.refl _ _).alloc (Nat.le_refl _) _⟩
  by_cases h7 : (r : Int) ≤ (4096 : Int)
  case neg =>
    obtain rfl : R = false := by rw [← hR]; exact decide_eq_false (fun h => by omega)
    have f7 : decide ((r : Int) ≤ (4096 : Int)) = false := decide_eq_false h7
    have t0 : decide ((1 : Int) ≤ (d : Int)) = true := decide_eq_true h0
    have t1 : decide ((d : Int) ≤ (32 : Int)) = true := decide_eq_true h1
    have t2 : decide ((1 : Int) ≤ (i : Int)) = true := decide_eq_true h2
    have t3 : decide ((i : Int) ≤ (4096 : Int)) = true := decide_eq_true h3
    have t4 : decide ((1 : Int) ≤ (b : Int)) = true := decide_eq_true h4
    have t5 : decide ((b : Int) ≤ (262144 : Int)) = true := decide_eq_true h5
    have t6 : decide ((1 : Int) ≤ (r : Int)) = true := decide_eq_true h6
    clear hR ENTER h0 h1 h2 h3 h4 h5 h6 h7
    go_enter Tryd.func34, Tryd.ntmps34
    go_wp2_with fail
    go_ret
    exact ⟨rfl, (Below.refl _ _).alloc (Nat.le_refl _) _⟩
  obtain rfl : R = true := by rw [← hR]; exact decide_eq_true ⟨h0, h1, h2, h3, h4, h5, h6, h7⟩
  have t0 : decide ((1 : Int) ≤ (d : Int)) = true := decide_eq_true h0
  have t1 : decide ((d : Int) ≤ (32 : Int)) = true := decide_eq_true h1
  have t2 : decide ((1 : Int) ≤ (i : Int)) = true := decide_eq_true h2
  have t3 : decide ((i : Int) ≤ (4096 : Int)) = true := decide_eq_true h3
  have t4 : decide ((1 : Int) ≤ (b : Int)) = true := decide_eq_true h4
  have t5 : decide ((b : Int) ≤ (262144 : Int)) = true := decide_eq_true h5
  have t6 : decide ((1 : Int) ≤ (r : Int)) = true := decide_eq_true h6
  have t7 : decide ((r : Int) ≤ (4096 : Int)) = true := decide_eq_true h7
  clear hR ENTER h0 h1 h2 h3 h4 h5 h6 h7
  go_enter Tryd.func34, Tryd.ntmps34
  go_wp2_with fail
  go_ret
  exact ⟨rfl, (Below.refl _ _).alloc (Nat.le_refl _) _⟩
set_option maxRecDepth 100000 in
set_option maxHeartbeats 1600000 in
theorem catch_panicking (a b c : Nat) (z : Int) (q : Int) (v0 : Value) (n0 n1 : Int) (w : World) (h1 : w.cell? ⟨a, 0, none⟩ = some (.slice none 0 0)) (h2 : w.cell? ⟨b, 0, none⟩ = some (.int .i64 n0)) (h3 : w.cell? ⟨c, 0, none⟩ = some (.int .i64 n1))
    (f1 : w.frozen? ⟨a, 0, none⟩ = false) (f2 : w.frozen? ⟨b, 0, none⟩ = false) (f3 : w.frozen? ⟨c, 0, none⟩ = false) (hab : a ≠ b) (hac : a ≠ c) (hbc : b ≠ c) :
    CallsD Tryd.prog 35 #[.pointer (some ⟨a, 0, none⟩), .pointer (some ⟨b, 0, none⟩), .pointer (some ⟨c, 0, none⟩)] (.panicking (flt z q)) w fun e u' w' =>
      e = .returned (.tuple #[]) ∧ u' = .panicking [{ v := .iface 75 (.agg #[.int .i64 z, .int .i64 q]), recovered := true }] ∧
      w'.cell? ⟨a, 0, none⟩ = some (.slice none 0 0) ∧ w'.cell? ⟨b, 0, none⟩ = some (.int .i64 q) ∧ w'.cell? ⟨c, 0, none⟩ = some (.int .i64 z) ∧ ∀ B, B ≤ a → B ≤ b → B ≤ c → B ≤ w.heap.size → Below B w w' := by
  refine callsD_of_wpS Tryd.func35 rfl fun c₀ cs hu => ?_
  apply wpS_seq
  apply wpS_region
  simp [wpOpsS, go_sem, recoverD, hu, Tryd.ntmps35, Exit.thenS, flt]
  refine wpS_of_wp ?_
  rw [show (#[Value.pointer (some ⟨a, 0, none⟩), Value.pointer (some ⟨b, 0, none⟩), Value.pointer (some ⟨c, 0, none⟩)] ++ ((Array.replicate 11 undef).setIfInBounds 2 (Value.iface 75 (Value.agg #[Value.int .i64 z, Value.int .i64 q]))).setIfInBounds 0 (Value.iface 75 (Value.agg #[Value.int .i64 z, Value.int .i64 q]))) = #[Value.pointer (some ⟨a, 0, none⟩), Value.pointer (some ⟨b, 0, none⟩), Value.pointer (some ⟨c, 0, none⟩), Value.iface 75 (Value.agg #[Value.int .i64 z, Value.int .i64 q]), undef, Value.iface 75 (Value.agg #[Value.int .i64 z, Value.int .i64 q]), undef, undef, undef, undef, undef, undef, undef, undef] from rfl]
  have hla := World.block_lt_of_cell? w _ h1
  have hlb := World.block_lt_of_cell? w _ h2
  have hlc := World.block_lt_of_cell? w _ h3
  have hta : ∀ (v : Value) (w : World), (Instr.typeAssert (.iface 75 v) 20 75 false).run Tryd.prog w = .ok v w := fun _ _ => by kernel_rfl
  go_wp2_with fail
  have hAT := At.ofAlloc w #[.int .i64 z, .int .i64 q] 75
  have g1 : (w.alloc (Obj.cells #[.int .i64 z, .int .i64 q] 75)).cell? ⟨a, 0, none⟩ = _ := (World.cell?_alloc_past _ _ _ hla).trans h1
  have g2 : (w.alloc (Obj.cells #[.int .i64 z, .int .i64 q] 75)).cell? ⟨b, 0, none⟩ = _ := (World.cell?_alloc_past _ _ _ hlb).trans h2
  have g3 : (w.alloc (Obj.cells #[.int .i64 z, .int .i64 q] 75)).cell? ⟨c, 0, none⟩ = _ := (World.cell?_alloc_past _ _ _ hlc).trans h3
  have k1 : (w.alloc (Obj.cells #[.int .i64 z, .int .i64 q] 75)).frozen? ⟨a, 0, none⟩ = false := ((Below.refl w.heap.size w).alloc (Nat.le_refl _) _).frozen hla |>.trans f1
  have k2 : (w.alloc (Obj.cells #[.int .i64 z, .int .i64 q] 75)).frozen? ⟨b, 0, none⟩ = false := ((Below.refl w.heap.size w).alloc (Nat.le_refl _) _).frozen hlb |>.trans f2
  have k3 : (w.alloc (Obj.cells #[.int .i64 z, .int .i64 q] 75)).frozen? ⟨c, 0, none⟩ = false := ((Below.refl w.heap.size w).alloc (Nat.le_refl _) _).frozen hlc |>.trans f3
  have t0 := hAT.cell 0 _ rfl
  have t1 := hAT.cell 1 _ rfl
  have na : a ≠ w.heap.size := fun h => by simp [h] at hla
  have nb : b ≠ w.heap.size := fun h => by simp [h] at hlb
  have nc : c ≠ w.heap.size := fun h => by simp [h] at hlc
  obtain ⟨T, hT⟩ : ∃ T, w.heap.size = T := ⟨_, rfl⟩
  obtain ⟨w1, hw1⟩ : ∃ x, w.alloc (Obj.cells #[.int .i64 z, .int .i64 q] 75) = x := ⟨_, rfl⟩
  rw [hw1] at g1 g2 g3 k1 k2 k3 t0 t1 ⊢
  rw [hT] at t0 t1 na nb nc ⊢
  have na' := na.symm
  have nb' := nb.symm
  have nc' := nc.symm
  have hab' := hab.symm
  have hac' := hac.symm
  have hbc' := hbc.symm
  have HB1 : Hid (∀ B, B ≤ w.heap.size → Below B w w1) := fun B hB => by rw [← hw1]; exact (Below.refl B w).alloc hB _
  clear hAT hw1 hT h1 h2 h3 f1 f2 f3 hla hlb hlc
  go_region
  go_wp2_with fail
  have c1 : ((((w1.setCell ⟨a, 0, none⟩ (.slice none 0 0)).setCell ⟨b, 0, none⟩ (.int .i64 q)).setCell ⟨c, 0, none⟩ (.int .i64 z)).drew).cell? ⟨a, 0, none⟩ = some (.slice none 0 0) := by
    simp [go_sem, g1, g2, g3, hab, hac, hbc, hab', hac', hbc']
  have c2 : ((((w1.setCell ⟨a, 0, none⟩ (.slice none 0 0)).setCell ⟨b, 0, none⟩ (.int .i64 q)).setCell ⟨c, 0, none⟩ (.int .i64 z)).drew).cell? ⟨b, 0, none⟩ = some (.int .i64 q) := by
    simp [go_sem, g1, g2, g3, hab, hac, hbc, hab', hac', hbc']
  have c3 : ((((w1.setCell ⟨a, 0, none⟩ (.slice none 0 0)).setCell ⟨b, 0, none⟩ (.int .i64 q)).setCell ⟨c, 0, none⟩ (.int .i64 z)).drew).cell? ⟨c, 0, none⟩ = some (.int .i64 z) := by
    simp [go_sem, g1, g2, g3, hab, hac, hbc, hab', hac', hbc']
  have c4 : ∀ B, B ≤ a → B ≤ b → B ≤ c → B ≤ w.heap.size → Below B w ((((w1.setCell ⟨a, 0, none⟩ (.slice none 0 0)).setCell ⟨b, 0, none⟩ (.int .i64 q)).setCell ⟨c, 0, none⟩ (.int .i64 z)).drew) := fun B ha hb hc hw => ((((HB1.out B hw).setCell (p := ⟨a, 0, none⟩) ha _).setCell (p := ⟨b, 0, none⟩) hb _).setCell (p := ⟨c, 0, none⟩) hc _).drew
  have C := Lib.hid (And.intro c1 (And.intro c2 (And.intro c3 c4)))
  clear c1 c2 c3 c4
  generalize (((w1.setCell ⟨a, 0, none⟩ (.slice none 0 0)).setCell ⟨b, 0, none⟩ (.int .i64 q)).setCell ⟨c, 0, none⟩ (.int .i64 z)).drew = wz at C ⊢
  simp [bodyPostS, results, Tryd.results35]
  exact C.out
theorem catch_idle (a b c : Nat) (w : World) :
    CallsD Tryd.prog 35 #[.pointer (some ⟨a, 0, none⟩), .pointer (some ⟨b, 0, none⟩), .pointer (some ⟨c, 0, none⟩)] .returning w fun e u' w' => e = .returned (.tuple #[]) ∧ u' = .returning ∧ w' = w := by
  refine callsD_of_wpS Tryd.func35 rfl fun c₀ cs hu => ?_
  apply wpS_seq
  apply wpS_region
  simp [wpOpsS, go_sem, recoverD, hu, Tryd.ntmps35, Exit.thenS, flt]
  apply wpS_seq
  apply wpS_region
  simp [wpOpsS, go_sem, recoverD, hu, Tryd.ntmps35, Exit.thenS, flt]
  refine wpS_cond (t := false) (by simp [Act.eval, Array.replicate]) ?_
  simp only [Bool.false_eq_true, if_false]
  refine wpS_of_wp (wp_skip ?_)
  cases c₀
  simp_all [bodyPostS, results, Tryd.results35]

def limL (d i b : Int) : Lm := { depth := d.toNat, items := i.toNat, bytes := b.toNat }
def DecR (S : List UInt8) (d i b ro : Int) (r : Rs (List Am)) : Prop := (mayOk d i b ro = true → RunsC S (limL d i b) (.el [] [] 0) r) ∧ (mayOk d i b ro = false → r = .no 2 0 false)
def decL : Rs (List Am) → List Am
  | .ok l => l
  | .no _ _ _ => []
def decP : Rs (List Am) → Nat
  | .ok _ => 0
  | .no _ q _ => q
def decE : Rs (List Am) → Int
  | .ok _ => 0
  | .no c _ _ => c
theorem DecR.same {S : List UInt8} {d i b ro : Int} {r r' : Rs (List Am)} (h : DecR S d i b ro r) (h' : DecR S d i b ro r') : r = r' := by
  cases hm : mayOk d i b ro
  · rw [h.2 hm, h'.2 hm]
  · exact Runs.same _ _ _ _ (h.1 hm) (h'.1 hm)
def RetDec (s : ByteArray) (d i b ro : Int) (w : World) (e : Ending) (w' : World) : Prop :=
  ∃ r, DecR s.toList d i b ro r ∧ ∃ v, e = .returned (.tuple #[v, .int .i64 (decP r : Int), .int .i64 (decE r)]) ∧ w'.ownsRow w.heap.size 51 3 v (decL r).length (rcells ((decL r).map up)) ∧ Below w.heap.size w w'
/-- a piece of code that only ends in the usual way -/
def onlyN (Q : Exit → Act → World → Prop) (e : Exit) (a : Act) (w : World) : Prop := match e with
  | .normal => Q .normal a w
  | _ => False
theorem wp_only {P : Program} {c : Code} {Q : Exit → Act → World → Prop} {a : Act} {w : World} (h : c.wp P (onlyN Q) a w) : c.wp P Q a w := by
  refine wp_mono h ?_
  intro e a' w' hq
  cases e <;> first | exact hq | exact hq.elim
theorem own_base {w : World} {B B' e size n : Nat} {v : Value} {xs : List Value} (h : w.ownsRow B e size v n xs) (hB : B' ≤ B) : w.ownsRow B' e size v n xs := by
  refine ⟨h.1, ?_⟩
  rcases h.2 with h0 | ⟨g, cap, cur, h1, h2, h3⟩
  · exact .inl h0
  · exact .inr ⟨g, cap, cur, h1, Nat.le_trans hB h2, h3⟩
theorem sets9 (w : World) (g : Nat) (v0 v1 v2 v3 v4 v5 v6 v7 v8 : Value) : w.setCells g 0 [v0, v1, v2, v3, v4, v5, v6, v7, v8] = (((((((((w.setCell ⟨g, 0, none⟩ v0).setCell ⟨g, 1, none⟩ v1).setCell ⟨g, 2, none⟩ v2).setCell ⟨g, 3, none⟩ v3).setCell ⟨g, 4, none⟩ v4).setCell ⟨g, 5, none⟩ v5).setCell ⟨g, 6, none⟩ v6).setCell ⟨g, 7, none⟩ v7).setCell ⟨g, 8, none⟩ v8) := rfl
theorem rd_start {w : World} {R : Nat} {s : ByteArray} {d i b ro : Int} (h : At w R 0 [.string s, .int .i64 b, .int .i64 0, .int .i64 d, .int .i64 i, .int .i64 b, .int .i64 ro, .slice none 0 0, .slice none 0 0])
    (hm : 1 ≤ d ∧ d ≤ 32 ∧ 1 ≤ i ∧ i ≤ 4096 ∧ 1 ≤ b ∧ b ≤ 262144 ∧ 1 ≤ ro ∧ ro ≤ 4096) : Rd w R s (limL d i b) 0 [] [] (.slice none 0 0) (.slice none 0 0) ro := by
  refine ⟨?_, World.ownsRow_nil _ _ _ _, World.ownsRow_nil _ _ _ _, h.lt (by simp)⟩
  have h1 : ((limL d i b).bytes : Int) = b := by show ((b.toNat : Nat) : Int) = b; omega
  have h2 : ((limL d i b).depth : Int) = d := by show ((d.toNat : Nat) : Int) = d; omega
  have h3 : ((limL d i b).items : Int) = i := by show ((i.toNat : Nat) : Int) = i; omega
  rw [h1, h2, h3]
  exact h
set_option maxRecDepth 100000 in
theorem new_any (s : ByteArray) (b : Int) (w : World) : Calls Tryd.prog 36 #[.string s, .int .i64 b] w (fun e w' => e = .returned (.agg #[.string s, .int .i64 b, .int .i64 0]) ∧ Below w.heap.size w w') := by
  go_enter Tryd.func36, Tryd.ntmps36
  go_wp2_with fail
  have hA := At.ofAlloc w #[.string s, .int .i64 b, .int .i64 0] 77
  refine bodyPost_ret (results_at rfl _ w.heap.size _ _ rfl hA Tryd.underlying77 rfl (by kernel_rfl)) rfl ?_
  exact ⟨rfl, (Below.refl _ _).alloc (Nat.le_refl _) _⟩
/-- the call's first blocks: the limits, the three results -/
def DecW (w : World) (d i b ro : Int) : World := (((w.alloc (Obj.cells #[.int .i64 d, .int .i64 i, .int .i64 b, .int .i64 ro] 33)).alloc (Obj.cells #[.slice none 0 0] 46)).alloc (Obj.cells #[.int .i64 0] 3)).alloc (Obj.cells #[.int .i64 0] 26)
structure DecC (w : World) (B : Nat) (d i b ro : Int) : Prop where
  lim : At w B 0 [.int .i64 d, .int .i64 i, .int .i64 b, .int .i64 ro]
  ls : At w (B + 1) 0 [.slice none 0 0]
  at_ : At w (B + 2) 0 [.int .i64 0]
  er : At w (B + 3) 0 [.int .i64 0]
  size : B + 4 ≤ w.heap.size
theorem DecC.below {w w' : World} {B B' : Nat} {d i b ro : Int} (h : DecC w B d i b ro) (hb : Below B' w w') (hB : B + 4 ≤ B') : DecC w' B d i b ro :=
  ⟨h.lim.below hb (by omega), h.ls.below hb (by omega), h.at_.below hb (by omega), h.er.below hb (by omega), Nat.le_trans h.size hb.size⟩
theorem decW (w : World) (d i b ro : Int) : DecC (DecW w d i b ro) w.heap.size d i b ro ∧ Below w.heap.size w (DecW w d i b ro) := by
  have h0 := At.ofAlloc w #[.int .i64 d, .int .i64 i, .int .i64 b, .int .i64 ro] 33
  have h1 := At.ofAlloc (w.alloc (Obj.cells #[.int .i64 d, .int .i64 i, .int .i64 b, .int .i64 ro] 33)) #[.slice none 0 0] 46
  have h2 := At.ofAlloc ((w.alloc (Obj.cells #[.int .i64 d, .int .i64 i, .int .i64 b, .int .i64 ro] 33)).alloc (Obj.cells #[.slice none 0 0] 46)) #[.int .i64 0] 3
  have h3 := At.ofAlloc (((w.alloc (Obj.cells #[.int .i64 d, .int .i64 i, .int .i64 b, .int .i64 ro] 33)).alloc (Obj.cells #[.slice none 0 0] 46)).alloc (Obj.cells #[.int .i64 0] 3)) #[.int .i64 0] 26
  simp only [World.alloc, Array.size_push] at h1 h2 h3
  refine ⟨⟨((h0.alloc _).alloc _).alloc _, (h1.alloc _).alloc _, h2.alloc _, h3, ?_⟩, ?_⟩
  · simp [DecW]
  · exact ((((Below.refl _ w).alloc (Nat.le_refl _) _).alloc (by simp) _).alloc (by simp; omega) _).alloc (by simp; omega) _
set_option maxRecDepth 100000 in
set_option maxHeartbeats 1600000 in
theorem decode_no (s : ByteArray) (d i b ro : Int) (w : World) (hm : mayOk d i b ro = false) :
    Calls Tryd.prog 18 #[.string s, .agg #[.int .i64 d, .int .i64 i, .int .i64 b, .int .i64 ro]] w (RetDec s d i b ro w) := by
  have M := Lib.hid (fun w => may_any d i b ro w)
  rw [hm] at M
  have HM := Lib.hid hm
  clear hm
  go_enter_defers Tryd.func18, Tryd.ntmps18
  go_wp2_with fail
  obtain ⟨hC, hB⟩ := decW w d i b ro
  have HC := Lib.hid hC
  have HB := Lib.hid hB
  obtain ⟨B, hBB⟩ : ∃ B, w.heap.size = B := ⟨_, rfl⟩
  have HBB := Lib.hid hBB
  obtain ⟨w0, hw0⟩ : ∃ w0, DecW w d i b ro = w0 := ⟨_, rfl⟩
  have hw1 := hw0
  unfold DecW at hw1
  rw [hw0, hBB] at HC
  rw [hw0, hBB] at HB
  rw [hw1, hBB]
  clear hC hB hw0 hw1 hBB
  refine (M.out _).mono ?_
  rintro e w1 ⟨rfl, hb1⟩
  have HC1 := Lib.hid (HC.out.below hb1 HC.out.size)
  have HB1 := Lib.hid (HB.out.trans (hb1.mono (by have := HC.out.size; omega)))
  have c1 := HC1.out.ls.cell 0 _ rfl
  have c2 := HC1.out.at_.cell 0 _ rfl
  have c3 := HC1.out.er.cell 0 _ rfl
  have f1 := HC1.out.ls.froz 0 (by simp)
  have f2 := HC1.out.at_.froz 0 (by simp)
  have f3 := HC1.out.er.froz 0 (by simp)
  clear hb1
  go_wp2_with fail
  obtain ⟨wz, hwz⟩ : ∃ wz, (((w1.setCell ⟨B + 1, 0, none⟩ (.slice none 0 0)).setCell ⟨B + 1 + 1, 0, none⟩ (.int .i64 0)).setCell ⟨B + 1 + 1 + 1, 0, none⟩ (.int .i64 2)) = wz := ⟨_, rfl⟩
  have z1 : wz.cell? ⟨B + 1, 0, none⟩ = some (.slice none 0 0) := by rw [← hwz]; simp [go_sem, c1, c2, c3]
  have z2 : wz.cell? ⟨B + 1 + 1, 0, none⟩ = some (.int .i64 0) := by rw [← hwz]; simp [go_sem, c1, c2, c3]
  have z3 : wz.cell? ⟨B + 1 + 1 + 1, 0, none⟩ = some (.int .i64 2) := by rw [← hwz]; simp [go_sem, c1, c2, c3]
  rw [hwz]
  have HBz : Hid (Below B w wz) := by
    rw [← hwz]
    exact ((HB1.out.setCell (p := ⟨B + 1, 0, none⟩) (by show B ≤ B + 1; omega) _).setCell (p := ⟨B + 1 + 1, 0, none⟩) (by show B ≤ B + 1 + 1; omega) _).setCell (p := ⟨B + 1 + 1 + 1, 0, none⟩) (by show B ≤ B + 1 + 1 + 1; omega) _
  clear hwz
  simp [bodyPostD, Leaves, settle, results, Tryd.results18, go_sem, z1, z2, z3]
  obtain rfl := HBB.out
  exact ⟨.no 2 0 false, ⟨fun h => (by rw [HM.out] at h; cases h), fun _ => rfl⟩, _, rfl, World.ownsRow_nil _ _ _ _, HBz⟩
set_option maxRecDepth 100000 in
set_option maxHeartbeats 1600000 in
theorem decode_yes (s : ByteArray) (d i b ro : Int) (w : World) (hm : mayOk d i b ro = true) (hz : s.size ≤ 140737488351232) (hU : UT w.heap.size w) :
    Calls Tryd.prog 18 #[.string s, .agg #[.int .i64 d, .int .i64 i, .int .i64 b, .int .i64 ro]] w (RetDec s d i b ro w) := by
  have M := Lib.hid (fun w => may_any d i b ro w)
  rw [hm] at M
  have HM := Lib.hid hm
  have HMY := Lib.hid (mayOk_yes hm)
  have NW := Lib.hid (fun w => new_any s b w)
  have HU := Lib.hid hU
  have HZ := Lib.hid hz
  have hmf : ∀ (fn : Fn) (first cap : Array Value) (w : World), (Instr.makeFunc fn first cap).run Tryd.prog w = .ok (.func fn first cap) w := fun _ _ _ _ => rfl
  clear hm hU hz
  go_enter_defers Tryd.func18, Tryd.ntmps18
  go_wp2_with fail
  obtain ⟨hC, hB⟩ := decW w d i b ro
  have HC := Lib.hid hC
  have HB := Lib.hid hB
  obtain ⟨B, hBB⟩ : ∃ B, w.heap.size = B := ⟨_, rfl⟩
  have HBB := Lib.hid hBB
  obtain ⟨w0, hw0⟩ : ∃ w0, DecW w d i b ro = w0 := ⟨_, rfl⟩
  have hw1 := hw0
  unfold DecW at hw1
  rw [hw0, hBB] at HC
  rw [hw0, hBB] at HB
  rw [hw1, hBB]
  clear hC hB hw0 hw1 hBB
  refine (M.out _).mono ?_
  rintro e w1 ⟨rfl, hb1⟩
  have HC1 := Lib.hid (HC.out.below hb1 HC.out.size)
  have HB1 := Lib.hid (HB.out.trans (hb1.mono (by have := HC.out.size; omega)))
  have l0 := HC1.out.lim.cell 0 _ rfl
  have l1 := HC1.out.lim.cell 1 _ rfl
  have l2 := HC1.out.lim.cell 2 _ rfl
  have l3 := HC1.out.lim.cell 3 _ rfl
  clear hb1
  go_wp2_with fail
  have lA0 : ∀ (ob : Obj), (w1.alloc ob).cell? ⟨B, 0, none⟩ = some (.int .i64 d) := fun ob => (HC1.out.lim.alloc ob).cell 0 _ rfl
  have lA1 : ∀ (ob : Obj), (w1.alloc ob).cell? ⟨B, 1, none⟩ = some (.int .i64 i) := fun ob => (HC1.out.lim.alloc ob).cell 1 _ rfl
  have lA2 : ∀ (ob : Obj), (w1.alloc ob).cell? ⟨B, 2, none⟩ = some (.int .i64 b) := fun ob => (HC1.out.lim.alloc ob).cell 2 _ rfl
  have lA3 : ∀ (ob : Obj), (w1.alloc ob).cell? ⟨B, 3, none⟩ = some (.int .i64 ro) := fun ob => (HC1.out.lim.alloc ob).cell 3 _ rfl
  go_cut [7] from 12 to 17 (fun v wx => ∃ R, v = .pointer (some ⟨R, 0, none⟩) ∧ w1.heap.size ≤ R ∧ Rd wx R s (limL d i b) 0 [] [] (.slice none 0 0) (.slice none 0 0) ro ∧ Below w1.heap.size w1 wx)
  case first =>
    refine wp_only ?_
    go_region_law (first
      | (go_simp; go_at_call 36; refine (NW.out _).mono ?_; rintro e w2 ⟨rfl, hb2⟩; have hX : Below w1.heap.size w1 w2 := ((Below.refl w1.heap.size w1).alloc (Nat.le_refl _) (Obj.cells #[Value.string ByteArray.empty, Value.int .i64 0, Value.int .i64 0, Value.int .i64 0, Value.int .i64 0, Value.int .i64 0, Value.int .i64 0, Value.slice none 0 0, Value.slice none 0 0] 81)).drew.trans (hb2.mono (by simp)); have hZ : At w2 w1.heap.size 0 (#[Value.string ByteArray.empty, Value.int .i64 0, Value.int .i64 0, Value.int .i64 0, Value.int .i64 0, Value.int .i64 0, Value.int .i64 0, Value.slice none 0 0, Value.slice none 0 0]).toList := (At.ofAlloc w1 #[Value.string ByteArray.empty, Value.int .i64 0, Value.int .i64 0, Value.int .i64 0, Value.int .i64 0, Value.int .i64 0, Value.int .i64 0, Value.slice none 0 0, Value.slice none 0 0] 81).drew.below hb2 (by simp); have r0 := hZ.cell 0 _ rfl; have q0 := hZ.froz 0 (by simp); have r1 := hZ.cell 1 _ rfl; have q1 := hZ.froz 1 (by simp); have r2 := hZ.cell 2 _ rfl; have q2 := hZ.froz 2 (by simp); have r3 := hZ.cell 3 _ rfl; have q3 := hZ.froz 3 (by simp); have r4 := hZ.cell 4 _ rfl; have q4 := hZ.froz 4 (by simp); have r5 := hZ.cell 5 _ rfl; have q5 := hZ.froz 5 (by simp); have r6 := hZ.cell 6 _ rfl; have q6 := hZ.froz 6 (by simp); have r7 := hZ.cell 7 _ rfl; have q7 := hZ.froz 7 (by simp); have r8 := hZ.cell 8 _ rfl; have q8 := hZ.froz 8 (by simp); have LL := HC1.out.lim.below hX (by have := HC1.out.size; omega); have m0 := LL.cell 0 _ rfl; have m1 := LL.cell 1 _ rfl; have m2 := LL.cell 2 _ rfl; have m3 := LL.cell 3 _ rfl; have mA0 : ∀ (ob : Obj), (w2.alloc ob).cell? ⟨B, 0, none⟩ = some (.int .i64 d) := fun ob => (LL.alloc ob).cell 0 _ rfl; have mA1 : ∀ (ob : Obj), (w2.alloc ob).cell? ⟨B, 1, none⟩ = some (.int .i64 i) := fun ob => (LL.alloc ob).cell 1 _ rfl; have mA2 : ∀ (ob : Obj), (w2.alloc ob).cell? ⟨B, 2, none⟩ = some (.int .i64 b) := fun ob => (LL.alloc ob).cell 2 _ rfl; have mA3 : ∀ (ob : Obj), (w2.alloc ob).cell? ⟨B, 3, none⟩ = some (.int .i64 ro) := fun ob => (LL.alloc ob).cell 3 _ rfl; have HX := Lib.hid hX; have HZB := Lib.hid hZ; clear LL hX hb2 hZ)
      | (go_simp; go_at_call 36; refine (NW.out _).mono ?_; rintro e w2 ⟨rfl, hb2⟩; have hX : Below w1.heap.size w1 w2 := (below_drewN w1.heap.size w1 1).trans hb2; have LL := HC1.out.lim.below hX (by have := HC1.out.size; omega); have m0 := LL.cell 0 _ rfl; have m1 := LL.cell 1 _ rfl; have m2 := LL.cell 2 _ rfl; have m3 := LL.cell 3 _ rfl; have mA0 : ∀ (ob : Obj), (w2.alloc ob).cell? ⟨B, 0, none⟩ = some (.int .i64 d) := fun ob => (LL.alloc ob).cell 0 _ rfl; have mA1 : ∀ (ob : Obj), (w2.alloc ob).cell? ⟨B, 1, none⟩ = some (.int .i64 i) := fun ob => (LL.alloc ob).cell 1 _ rfl; have mA2 : ∀ (ob : Obj), (w2.alloc ob).cell? ⟨B, 2, none⟩ = some (.int .i64 b) := fun ob => (LL.alloc ob).cell 2 _ rfl; have mA3 : ∀ (ob : Obj), (w2.alloc ob).cell? ⟨B, 3, none⟩ = some (.int .i64 ro) := fun ob => (LL.alloc ob).cell 3 _ rfl; have HX := Lib.hid hX; clear LL hX hb2))
    all_goals
      simp only [onlyN]
      go_wp2_with fail
      go_meet
      case rel => first
        | exact ⟨_, rfl, HX.out.size, rd_start (At.ofAlloc w2 #[Value.string s, Value.int .i64 b, Value.int .i64 0, Value.int .i64 d, Value.int .i64 i, Value.int .i64 b, Value.int .i64 ro, Value.slice none 0 0, Value.slice none 0 0] 81) HMY.out, HX.out.alloc HX.out.size _⟩
        | (rw [← sets9]; exact ⟨_, rfl, Nat.le_refl _, rd_start (At.ofSets HZB.out (vs := [Value.string s, Value.int .i64 b, Value.int .i64 0, Value.int .i64 d, Value.int .i64 i, Value.int .i64 b, Value.int .i64 ro, Value.slice none 0 0, Value.slice none 0 0]) rfl) HMY.out, below_sets w1.heap.size w1.heap.size (Nat.le_refl _) [Value.string s, Value.int .i64 b, Value.int .i64 0, Value.int .i64 d, Value.int .i64 i, Value.int .i64 b, Value.int .i64 ro, Value.slice none 0 0, Value.slice none 0 0] 0 w1 w2 HX.out⟩)
  case rest =>
    obtain ⟨R, rfl, hR1, hR2, hR3⟩ := hcut
    have HR1 := Lib.hid hR1
    have HR2 := Lib.hid hR2
    have HR3 := Lib.hid hR3
    clear hR1 hR2 hR3 l0 l1 l2 l3 lA0 lA1 lA2 lA3
    have HBw : Hid (Below B w wc) := HB1.out.trans (HR3.out.mono (by have := HC1.out.size; omega))
    have HUT : Hid (UT R wc) := ((HU.out.below (by rw [HBB.out]; exact HBw.out)).mono (by have := HBB.out; have := HC1.out.size; have := HR1.out; omega))
    have HCc := Lib.hid (HC1.out.below HR3.out HC1.out.size)
    have HLE : Hid (B + 4 ≤ R) := by show B + 4 ≤ R; have := HC1.out.size; have := HR1.out; omega
    go_wp2_with fail
    refine (whole_any wc R s (limL d i b) _ _ ro ⟨HR2.out, (fun x hx => by cases hx), Nat.zero_le _, HZ.out, by show i.toNat ≤ 4096; have := HMY.out; omega, by show d.toNat ≤ 32; have := HMY.out; omega, by show b.toNat ≤ 262144; have := HMY.out; omega, HUT.out⟩).mono ?_
    rintro e w5 ⟨r, hRun, hT⟩
    cases r with
    | no c q bb =>
      obtain ⟨rfl, hb⟩ := hT
      have HRun := Lib.hid hRun
      have HC5 := Lib.hid (HCc.out.below hb HLE.out)
      have HB5 := Lib.hid (HBw.out.trans (hb.mono (by have := HLE.out; omega)))
      clear hRun hb
      go_wp2_with fail
      refine leaves_cons (f := 35) (args := #[.pointer (some ⟨B + 1, 0, none⟩), .pointer (some ⟨B + 1 + 1, 0, none⟩), .pointer (some ⟨B + 1 + 1 + 1, 0, none⟩)]) (by simp) (by simp [go_sem]) ?_
      refine (catch_panicking (B + 1) (B + 1 + 1) (B + 1 + 1 + 1) c (q : Int) undef 0 0 _ (HC5.out.ls.cell 0 _ rfl) (HC5.out.at_.cell 0 _ rfl) (HC5.out.er.cell 0 _ rfl) (HC5.out.ls.froz 0 (by simp)) (HC5.out.at_.froz 0 (by simp)) (HC5.out.er.froz 0 (by simp)) (by omega) (by omega) (by omega)).mono ?_
      rintro e u w6 ⟨rfl, rfl, z1, z2, z3, hB6⟩
      have HB6 := Lib.hid (HB5.out.trans (hB6 B (by omega) (by omega) (by omega) (by have := HC5.out.size; omega)))
      clear hB6
      simp [bodyPostD, Leaves, settle, results, Tryd.results18, go_sem, z1, z2, z3]
      obtain rfl := HBB.out
      exact ⟨.no c q bb, ⟨fun _ => HRun.out, fun h => (by rw [HM.out] at h; cases h)⟩, _, rfl, World.ownsRow_nil _ _ _ _, HB6.out⟩
    | ok l =>
      obtain ⟨rfl, ⟨p, vn, vs, HR5⟩, hb⟩ := hT
      have HRun := Lib.hid hRun
      have HC5 := Lib.hid (HCc.out.below hb.out HLE.out)
      have HB5 := Lib.hid (HBw.out.trans (hb.out.mono (by have := HLE.out; omega)))
      obtain ⟨an, cn, rfl, -⟩ := own_form HR5.out.nodes
      have hc7 := HR5.out.at0.cell 7 _ rfl
      have c1 := HC5.out.ls.cell 0 _ rfl
      have c2 := HC5.out.at_.cell 0 _ rfl
      have c3 := HC5.out.er.cell 0 _ rfl
      have f1 := HC5.out.ls.froz 0 (by simp)
      have f2 := HC5.out.at_.froz 0 (by simp)
      have f3 := HC5.out.er.froz 0 (by simp)
      clear hRun hb
      go_wp2_with fail
      obtain ⟨wz, hwz⟩ : ∃ wz, (((w5.setCell ⟨B + 1, 0, none⟩ (.slice an l.length cn)).setCell ⟨B + 1 + 1, 0, none⟩ (.int .i64 0)).setCell ⟨B + 1 + 1 + 1, 0, none⟩ (.int .i64 0)) = wz := ⟨_, rfl⟩
      have z1 : wz.cell? ⟨B + 1, 0, none⟩ = some (.slice an l.length cn) := by rw [← hwz]; simp [go_sem, c1, c2, c3]
      have z2 : wz.cell? ⟨B + 1 + 1, 0, none⟩ = some (.int .i64 0) := by rw [← hwz]; simp [go_sem, c1, c2, c3]
      have z3 : wz.cell? ⟨B + 1 + 1 + 1, 0, none⟩ = some (.int .i64 0) := by rw [← hwz]; simp [go_sem, c1, c2, c3]
      have HBz : Hid (Below B w wz) := by
        rw [← hwz]
        exact ((HB5.out.setCell (p := ⟨B + 1, 0, none⟩) (by show B ≤ B + 1; omega) _).setCell (p := ⟨B + 1 + 1, 0, none⟩) (by show B ≤ B + 1 + 1; omega) _).setCell (p := ⟨B + 1 + 1 + 1, 0, none⟩) (by show B ≤ B + 1 + 1 + 1; omega) _
      have HOz : Hid (wz.ownsRow B 51 3 (.slice an l.length cn) l.length (rcells (l.map up))) := by
        rw [← hwz]
        have hle := HLE.out
        exact own_base (ownsRow_setCell_below (ownsRow_setCell_below (ownsRow_setCell_below HR5.out.nodes (by show B + 1 < R + 1; omega) _) (by show B + 1 + 1 < R + 1; omega) _) (by show B + 1 + 1 + 1 < R + 1; omega) _) (by omega)
      rw [hwz]
      clear hwz c1 c2 c3 f1 f2 f3 hc7
      refine leaves_cons (f := 35) (args := #[.pointer (some ⟨B + 1, 0, none⟩), .pointer (some ⟨B + 1 + 1, 0, none⟩), .pointer (some ⟨B + 1 + 1 + 1, 0, none⟩)]) (by simp) (by simp [go_sem]) ?_
      refine (catch_idle (B + 1) (B + 1 + 1) (B + 1 + 1 + 1) _).mono ?_
      rintro e u w6 ⟨rfl, rfl, rfl⟩
      simp [bodyPostD, Leaves, settle, results, Tryd.results18, go_sem, z1, z2, z3]
      obtain rfl := HBB.out
      exact ⟨.ok l, ⟨fun _ => HRun.out, fun h => (by rw [HM.out] at h; cases h)⟩, _, rfl, HOz.out, HBz.out⟩
theorem decode_any (s : ByteArray) (d i b ro : Int) (w : World) (hz : s.size ≤ 140737488351232) (hU : UT w.heap.size w) :
    Calls Tryd.prog 18 #[.string s, .agg #[.int .i64 d, .int .i64 i, .int .i64 b, .int .i64 ro]] w (RetDec s d i b ro w) := by
  cases hm : mayOk d i b ro
  · exact decode_no s d i b ro w hm
  · exact decode_yes s d i b ro w hm hz hU
end Co
end Go.Proofs.YtikgonlhdkknkaaDoor
