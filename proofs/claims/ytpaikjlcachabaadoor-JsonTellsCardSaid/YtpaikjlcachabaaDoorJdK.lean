/- json's Decode. -/
import Derived.Test.YtpaikjlcachabaaDoorJdJ
import Derived.Test.YtpaikjlcachabaaDoorJsM
import Derived.Recover
import Derived.Defers
namespace Go.Proofs.YtpaikjlcachabaaDoor
open Go.RowKit
set_option linter.unusedVariables false
set_option linter.unusedSimpArgs false
namespace Jd
open Js
open Dr (Rs Lm has lack)
open Jr (Cl sx wx)
set_option maxRecDepth 100000 in
set_option maxHeartbeats 1600000 in
theorem catch_panicking (a b c : Nat) (z : Int) (q : Int) (v0 : Value) (n0 n1 : Int) (w : World) (h1 : w.cell? ⟨a, 0, none⟩ = some (.slice none 0 0)) (h2 : w.cell? ⟨b, 0, none⟩ = some (.int .i64 n0)) (h3 : w.cell? ⟨c, 0, none⟩ = some (.int .i64 n1))
    (f1 : w.frozen? ⟨a, 0, none⟩ = false) (f2 : w.frozen? ⟨b, 0, none⟩ = false) (f3 : w.frozen? ⟨c, 0, none⟩ = false) (hab : a ≠ b) (hac : a ≠ c) (hbc : b ≠ c) :
    CallsD Tryd.prog 19 #[.pointer (some ⟨a, 0, none⟩), .pointer (some ⟨b, 0, none⟩), .pointer (some ⟨c, 0, none⟩)] (.panicking (flt z q)) w fun e u' w' =>
      e = .returned (.tuple #[]) ∧ u' = .panicking [{ v := .iface 44 (.agg #[.int .i64 z, .int .i64 q]), recovered := true }] ∧
      w'.cell? ⟨a, 0, none⟩ = some (.slice none 0 0) ∧ w'.cell? ⟨b, 0, none⟩ = some (.int .i64 q) ∧ w'.cell? ⟨c, 0, none⟩ = some (.int .i64 z) ∧ ∀ B, B ≤ a → B ≤ b → B ≤ c → B ≤ w.heap.size → Below B w w' := by
  refine callsD_of_wpS Tryd.func19 rfl fun c₀ cs hu => ?_
  apply wpS_seq
  apply wpS_region
  simp [wpOpsS, go_sem, recoverD, hu, Tryd.ntmps19, Exit.thenS, flt]
  refine wpS_of_wp ?_
  rw [show (#[Value.pointer (some ⟨a, 0, none⟩), Value.pointer (some ⟨b, 0, none⟩), Value.pointer (some ⟨c, 0, none⟩)] ++ ((Array.replicate 11 undef).setIfInBounds 2 (Value.iface 44 (Value.agg #[Value.int .i64 z, Value.int .i64 q]))).setIfInBounds 0 (Value.iface 44 (Value.agg #[Value.int .i64 z, Value.int .i64 q]))) = #[Value.pointer (some ⟨a, 0, none⟩), Value.pointer (some ⟨b, 0, none⟩), Value.pointer (some ⟨c, 0, none⟩), Value.iface 44 (Value.agg #[Value.int .i64 z, Value.int .i64 q]), undef, Value.iface 44 (Value.agg #[Value.int .i64 z, Value.int .i64 q]), undef, undef, undef, undef, undef, undef, undef, undef] from rfl]
  have hla := World.block_lt_of_cell? w _ h1
  have hlb := World.block_lt_of_cell? w _ h2
  have hlc := World.block_lt_of_cell? w _ h3
  have hta : ∀ (v : Value) (w : World), (Instr.typeAssert (.iface 44 v) 20 44 false).run Tryd.prog w = .ok v w := fun _ _ => by kernel_rfl
  go_wp2_with fail
  have hAT := At.ofAlloc w #[.int .i64 z, .int .i64 q] 44
  have g1 : (w.alloc (Obj.cells #[.int .i64 z, .int .i64 q] 44)).cell? ⟨a, 0, none⟩ = _ := (World.cell?_alloc_past _ _ _ hla).trans h1
  have g2 : (w.alloc (Obj.cells #[.int .i64 z, .int .i64 q] 44)).cell? ⟨b, 0, none⟩ = _ := (World.cell?_alloc_past _ _ _ hlb).trans h2
  have g3 : (w.alloc (Obj.cells #[.int .i64 z, .int .i64 q] 44)).cell? ⟨c, 0, none⟩ = _ := (World.cell?_alloc_past _ _ _ hlc).trans h3
  have k1 : (w.alloc (Obj.cells #[.int .i64 z, .int .i64 q] 44)).frozen? ⟨a, 0, none⟩ = false := ((Below.refl w.heap.size w).alloc (Nat.le_refl _) _).frozen hla |>.trans f1
  have k2 : (w.alloc (Obj.cells #[.int .i64 z, .int .i64 q] 44)).frozen? ⟨b, 0, none⟩ = false := ((Below.refl w.heap.size w).alloc (Nat.le_refl _) _).frozen hlb |>.trans f2
  have k3 : (w.alloc (Obj.cells #[.int .i64 z, .int .i64 q] 44)).frozen? ⟨c, 0, none⟩ = false := ((Below.refl w.heap.size w).alloc (Nat.le_refl _) _).frozen hlc |>.trans f3
  have t0 := hAT.cell 0 _ rfl
  have t1 := hAT.cell 1 _ rfl
  have na : a ≠ w.heap.size := fun h => by simp [h] at hla
  have nb : b ≠ w.heap.size := fun h => by simp [h] at hlb
  have nc : c ≠ w.heap.size := fun h => by simp [h] at hlc
  obtain ⟨T, hT⟩ : ∃ T, w.heap.size = T := ⟨_, rfl⟩
  obtain ⟨w1, hw1⟩ : ∃ x, w.alloc (Obj.cells #[.int .i64 z, .int .i64 q] 44) = x := ⟨_, rfl⟩
  rw [hw1] at g1 g2 g3 k1 k2 k3 t0 t1 ⊢
  rw [hT] at t0 t1 na nb nc ⊢
  have na' := na.symm
  have nb' := nb.symm
  have nc' := nc.symm
  have hab' := hab.symm
  have hac' := hac.symm
  have hbc' := hbc.symm
  have HB1 : Hid (∀ B, B ≤ w.heap.size → Below B w w1) := fun B hB => by rw [← hw1]; exact (Below.refl B w).alloc hB _
  clear hAT hw1 hT h1 h2 h3 f1 f2 f3 hla hlb hlc
  go_region
  go_wp2_with fail
  have c1 : ((((w1.setCell ⟨a, 0, none⟩ (.slice none 0 0)).setCell ⟨b, 0, none⟩ (.int .i64 q)).setCell ⟨c, 0, none⟩ (.int .i64 z)).drew).cell? ⟨a, 0, none⟩ = some (.slice none 0 0) := by
    simp [go_sem, g1, g2, g3, hab, hac, hbc, hab', hac', hbc']
  have c2 : ((((w1.setCell ⟨a, 0, none⟩ (.slice none 0 0)).setCell ⟨b, 0, none⟩ (.int .i64 q)).setCell ⟨c, 0, none⟩ (.int .i64 z)).drew).cell? ⟨b, 0, none⟩ = some (.int .i64 q) := by
    simp [go_sem, g1, g2, g3, hab, hac, hbc, hab', hac', hbc']
  have c3 : ((((w1.setCell ⟨a, 0, none⟩ (.slice none 0 0)).setCell ⟨b, 0, none⟩ (.int .i64 q)).setCell ⟨c, 0, none⟩ (.int .i64 z)).drew).cell? ⟨c, 0, none⟩ = some (.int .i64 z) := by
    simp [go_sem, g1, g2, g3, hab, hac, hbc, hab', hac', hbc']
  have c4 : ∀ B, B ≤ a → B ≤ b → B ≤ c → B ≤ w.heap.size → Below B w ((((w1.setCell ⟨a, 0, none⟩ (.slice none 0 0)).setCell ⟨b, 0, none⟩ (.int .i64 q)).setCell ⟨c, 0, none⟩ (.int .i64 z)).drew) := fun B ha hb hc hw => ((((HB1.out B hw).setCell (p := ⟨a, 0, none⟩) ha _).setCell (p := ⟨b, 0, none⟩) hb _).setCell (p := ⟨c, 0, none⟩) hc _).drew
  have C := Lib.hid (And.intro c1 (And.intro c2 (And.intro c3 c4)))
  clear c1 c2 c3 c4
  generalize (((w1.setCell ⟨a, 0, none⟩ (.slice none 0 0)).setCell ⟨b, 0, none⟩ (.int .i64 q)).setCell ⟨c, 0, none⟩ (.int .i64 z)).drew = wz at C ⊢
  simp [bodyPostS, results, Tryd.results19]
  exact C.out
theorem catch_idle (a b c : Nat) (w : World) :
    CallsD Tryd.prog 19 #[.pointer (some ⟨a, 0, none⟩), .pointer (some ⟨b, 0, none⟩), .pointer (some ⟨c, 0, none⟩)] .returning w fun e u' w' => e = .returned (.tuple #[]) ∧ u' = .returning ∧ w' = w := by
  refine callsD_of_wpS Tryd.func19 rfl fun c₀ cs hu => ?_
  apply wpS_seq
  apply wpS_region
  simp [wpOpsS, go_sem, recoverD, hu, Tryd.ntmps19, Exit.thenS, flt]
  apply wpS_seq
  apply wpS_region
  simp [wpOpsS, go_sem, recoverD, hu, Tryd.ntmps19, Exit.thenS, flt]
  refine wpS_cond (t := false) (by simp [Act.eval, Array.replicate]) ?_
  simp only [Bool.false_eq_true, if_false]
  refine wpS_of_wp (wp_skip ?_)
  cases c₀
  simp_all [bodyPostS, results, Tryd.results19]

def DecR (S : List UInt8) (d i b ro : Int) (r : Rs (List Vl)) : Prop := (mayOk d i b ro = true → ∃ t k, RunsT S (limL d i b) st0 0 r t k) ∧ (mayOk d i b ro = false → r = .no 2 0 false)
def decL : Rs (List Vl) → List Vl
  | .ok l => l
  | .no _ _ _ => []
def decP : Rs (List Vl) → Nat
  | .ok _ => 0
  | .no _ q _ => q
def decE : Rs (List Vl) → Int
  | .ok _ => 0
  | .no c _ _ => c
theorem DecR.same {S : List UInt8} {d i b ro : Int} {r r' : Rs (List Vl)} (h : DecR S d i b ro r) (h' : DecR S d i b ro r') : r = r' := by
  cases hm : mayOk d i b ro
  · rw [h.2 hm, h'.2 hm]
  · obtain ⟨t, k, h1⟩ := h.1 hm
    obtain ⟨t', k', h2⟩ := h'.1 hm
    exact (RunsT.same _ _ h1 h2).1
def RetDec (s : ByteArray) (d i b ro : Int) (w : World) (e : Ending) (w' : World) : Prop :=
  ∃ r, DecR s.toList d i b ro r ∧ ∃ v, e = .returned (.tuple #[v, .int .i64 (decP r : Int), .int .i64 (decE r)]) ∧ w'.ownsRow w.heap.size 61 3 v (decL r).length (vcells (decL r)) ∧ Below w.heap.size w w'
/-- a piece of code that only ends in the usual way -/
def onlyN (Q : Exit → Act → World → Prop) (e : Exit) (a : Act) (w : World) : Prop := match e with
  | .normal => Q .normal a w
  | _ => False
theorem wp_only {P : Program} {c : Code} {Q : Exit → Act → World → Prop} {a : Act} {w : World} (h : c.wp P (onlyN Q) a w) : c.wp P Q a w := by
  refine wp_mono h ?_
  intro e a' w' hq
  cases e <;> first | exact hq | exact hq.elim
theorem own_base {w : World} {B B' e size n : Nat} {v : Value} {xs : List Value} (h : w.ownsRow B e size v n xs) (hB : B' ≤ B) : w.ownsRow B' e size v n xs := by
  refine ⟨h.1, ?_⟩
  rcases h.2 with h0 | ⟨g, cap, cur, h1, h2, h3⟩
  · exact .inl h0
  · exact .inr ⟨g, cap, cur, h1, Nat.le_trans hB h2, h3⟩
theorem sets10 (w : World) (g : Nat) (v0 v1 v2 v3 v4 v5 v6 v7 v8 v9 : Value) : w.setCells g 0 [v0, v1, v2, v3, v4, v5, v6, v7, v8, v9] = ((((((((((w.setCell ⟨g, 0, none⟩ v0).setCell ⟨g, 1, none⟩ v1).setCell ⟨g, 2, none⟩ v2).setCell ⟨g, 3, none⟩ v3).setCell ⟨g, 4, none⟩ v4).setCell ⟨g, 5, none⟩ v5).setCell ⟨g, 6, none⟩ v6).setCell ⟨g, 7, none⟩ v7).setCell ⟨g, 8, none⟩ v8).setCell ⟨g, 9, none⟩ v9) := rfl
theorem jd_start {w : World} {R : Nat} {s : ByteArray} {d i b ro : Int} (h : At w R 0 [.string s, .int .i64 b, .int .i64 0, .int .i64 d, .int .i64 i, .int .i64 b, .int .i64 ro, .int .i64 0, .slice none 0 0, .slice none 0 0])
    (hm : 1 ≤ d ∧ d ≤ 32 ∧ 1 ≤ i ∧ i ≤ 4096 ∧ 1 ≤ b ∧ b ≤ 262144 ∧ 1 ≤ ro ∧ ro ≤ 4096) : JdS w R s (limL d i b) ro st0 0 := by
  refine ⟨[], .slice none 0 0, .slice none 0 0, ?_, World.ownsRow_nil _ _ _ _, World.ownsRow_nil _ _ _ _, .nil⟩
  have h1 : ((limL d i b).bytes : Int) = b := by show ((b.toNat : Nat) : Int) = b; omega
  have h2 : ((limL d i b).depth : Int) = d := by show ((d.toNat : Nat) : Int) = d; omega
  have h3 : ((limL d i b).items : Int) = i := by show ((i.toNat : Nat) : Int) = i; omega
  rw [dc, h1, h2, h3]
  exact h
set_option maxRecDepth 100000 in
theorem new_any (s : ByteArray) (b : Int) (w : World) : Calls Tryd.prog 20 #[.string s, .int .i64 b] w (fun e w' => e = .returned (.agg #[.string s, .int .i64 b, .int .i64 0]) ∧ Below w.heap.size w w') := by
  go_enter Tryd.func20, Tryd.ntmps20
  go_wp2_with fail
  have hA := At.ofAlloc w #[.string s, .int .i64 b, .int .i64 0] 46
  refine bodyPost_ret (results_at rfl _ w.heap.size _ _ rfl hA Tryd.underlying46 rfl (by kernel_rfl)) rfl ?_
  exact ⟨rfl, (Below.refl _ _).alloc (Nat.le_refl _) _⟩
/-- the call's first blocks: the limits, the three results -/
def DecW (w : World) (d i b ro : Int) : World := (((w.alloc (Obj.cells #[.int .i64 d, .int .i64 i, .int .i64 b, .int .i64 ro] 23)).alloc (Obj.cells #[.slice none 0 0] 25)).alloc (Obj.cells #[.int .i64 0] 3)).alloc (Obj.cells #[.int .i64 0] 26)
structure DecC (w : World) (B : Nat) (d i b ro : Int) : Prop where
  lim : At w B 0 [.int .i64 d, .int .i64 i, .int .i64 b, .int .i64 ro]
  ls : At w (B + 1) 0 [.slice none 0 0]
  at_ : At w (B + 2) 0 [.int .i64 0]
  er : At w (B + 3) 0 [.int .i64 0]
  size : B + 4 ≤ w.heap.size
theorem DecC.below {w w' : World} {B B' : Nat} {d i b ro : Int} (h : DecC w B d i b ro) (hb : Below B' w w') (hB : B + 4 ≤ B') : DecC w' B d i b ro :=
  ⟨h.lim.below hb (by omega), h.ls.below hb (by omega), h.at_.below hb (by omega), h.er.below hb (by omega), Nat.le_trans h.size hb.size⟩
theorem decW (w : World) (d i b ro : Int) : DecC (DecW w d i b ro) w.heap.size d i b ro ∧ Below w.heap.size w (DecW w d i b ro) := by
  have h0 := At.ofAlloc w #[.int .i64 d, .int .i64 i, .int .i64 b, .int .i64 ro] 23
  have h1 := At.ofAlloc (w.alloc (Obj.cells #[.int .i64 d, .int .i64 i, .int .i64 b, .int .i64 ro] 23)) #[.slice none 0 0] 25
  have h2 := At.ofAlloc ((w.alloc (Obj.cells #[.int .i64 d, .int .i64 i, .int .i64 b, .int .i64 ro] 23)).alloc (Obj.cells #[.slice none 0 0] 25)) #[.int .i64 0] 3
  have h3 := At.ofAlloc (((w.alloc (Obj.cells #[.int .i64 d, .int .i64 i, .int .i64 b, .int .i64 ro] 23)).alloc (Obj.cells #[.slice none 0 0] 25)).alloc (Obj.cells #[.int .i64 0] 3)) #[.int .i64 0] 26
  simp only [World.alloc, Array.size_push] at h1 h2 h3
  refine ⟨⟨((h0.alloc _).alloc _).alloc _, (h1.alloc _).alloc _, h2.alloc _, h3, ?_⟩, ?_⟩
  · simp [DecW]
  · exact ((((Below.refl _ w).alloc (Nat.le_refl _) _).alloc (by simp) _).alloc (by simp; omega) _).alloc (by simp; omega) _
set_option maxRecDepth 100000 in
set_option maxHeartbeats 1600000 in
theorem decode_no (s : ByteArray) (d i b ro : Int) (w : World) (hm : mayOk d i b ro = false) :
    Calls Tryd.prog 10 #[.string s, .agg #[.int .i64 d, .int .i64 i, .int .i64 b, .int .i64 ro]] w (RetDec s d i b ro w) := by
  have M := Lib.hid (fun w => may_any d i b ro w)
  rw [hm] at M
  have HM := Lib.hid hm
  clear hm
  go_enter_defers Tryd.func10, Tryd.ntmps10
  go_wp2_with fail
  obtain ⟨hC, hB⟩ := decW w d i b ro
  have HC := Lib.hid hC
  have HB := Lib.hid hB
  obtain ⟨B, hBB⟩ : ∃ B, w.heap.size = B := ⟨_, rfl⟩
  have HBB := Lib.hid hBB
  obtain ⟨w0, hw0⟩ : ∃ w0, DecW w d i b ro = w0 := ⟨_, rfl⟩
  have hw1 := hw0
  unfold DecW at hw1
  rw [hw0, hBB] at HC
  rw [hw0, hBB] at HB
  rw [hw1, hBB]
  clear hC hB hw0 hw1 hBB
  refine (M.out _).mono ?_
  rintro e w1 ⟨rfl, hb1⟩
  have HC1 := Lib.hid (HC.out.below hb1 HC.out.size)
  have HB1 := Lib.hid (HB.out.trans (hb1.mono (by have := HC.out.size; omega)))
  have c1 := HC1.out.ls.cell 0 _ rfl
  have c2 := HC1.out.at_.cell 0 _ rfl
  have c3 := HC1.out.er.cell 0 _ rfl
  have f1 := HC1.out.ls.froz 0 (by simp)
  have f2 := HC1.out.at_.froz 0 (by simp)
  have f3 := HC1.out.er.froz 0 (by simp)
  clear hb1
  go_wp2_with fail
  obtain ⟨wz, hwz⟩ : ∃ wz, (((w1.setCell ⟨B + 1, 0, none⟩ (.slice none 0 0)).setCell ⟨B + 1 + 1, 0, none⟩ (.int .i64 0)).setCell ⟨B + 1 + 1 + 1, 0, none⟩ (.int .i64 2)) = wz := ⟨_, rfl⟩
  have z1 : wz.cell? ⟨B + 1, 0, none⟩ = some (.slice none 0 0) := by rw [← hwz]; simp [go_sem, c1, c2, c3]
  have z2 : wz.cell? ⟨B + 1 + 1, 0, none⟩ = some (.int .i64 0) := by rw [← hwz]; simp [go_sem, c1, c2, c3]
  have z3 : wz.cell? ⟨B + 1 + 1 + 1, 0, none⟩ = some (.int .i64 2) := by rw [← hwz]; simp [go_sem, c1, c2, c3]
  rw [hwz]
  have HBz : Hid (Below B w wz) := by
    rw [← hwz]
    exact ((HB1.out.setCell (p := ⟨B + 1, 0, none⟩) (by show B ≤ B + 1; omega) _).setCell (p := ⟨B + 1 + 1, 0, none⟩) (by show B ≤ B + 1 + 1; omega) _).setCell (p := ⟨B + 1 + 1 + 1, 0, none⟩) (by show B ≤ B + 1 + 1 + 1; omega) _
  clear hwz
  simp [bodyPostD, Leaves, settle, results, Tryd.results10, go_sem, z1, z2, z3]
  obtain rfl := HBB.out
  exact ⟨.no 2 0 false, ⟨fun h => (by rw [HM.out] at h; cases h), fun _ => rfl⟩, _, rfl, World.ownsRow_nil _ _ _ _, HBz⟩
theorem last_some {st : St} (h6 : st.nx = 6) (hG : st.G = []) (hh : st.hand = .none) : st.last = some st.cur := by
  rw [St.last, hG, hh]
  exact if_pos h6
/-- between the steps -/
def InDec (R : Nat) (s : ByteArray) (L : Lm) (ro : Int) (wc : World) (gk : Nat) (wr : World) : Prop :=
  ∃ st p, Hid (JdS wr R s L ro st p) ∧ Hid (p ≤ L.bytes ∧ s.size - p < gk ∧ Inv L st p ∧ st.hand = .none ∧ Cl s.toList L st p st0 0) ∧ Hid (Below R wc wr)
/-- behind the value -/
def InEnd (R : Nat) (s : ByteArray) (L : Lm) (ro : Int) (st : St) (wc : World) (gk : Nat) (wr : World) : Prop :=
  ∃ p, Hid (JdS wr R s L ro st p) ∧ Hid (p ≤ L.bytes ∧ s.size - p < gk ∧ Cl s.toList L st p st0 0) ∧ Hid (Below R wc wr)
set_option maxRecDepth 100000 in
set_option maxHeartbeats 6400000 in
theorem decode_yes (s : ByteArray) (d i b ro : Int) (w : World) (hm : mayOk d i b ro = true) (hz : s.size ≤ 140737488351232) :
    Calls Tryd.prog 10 #[.string s, .agg #[.int .i64 d, .int .i64 i, .int .i64 b, .int .i64 ro]] w (RetDec s d i b ro w) := by
  have M := Lib.hid (fun w => may_any d i b ro w)
  rw [hm] at M
  have HM := Lib.hid hm
  have HMY := Lib.hid (mayOk_yes hm)
  have NW := Lib.hid (fun w => new_any s b w)
  have HZ := Lib.hid hz
  have hmf : ∀ (fn : Fn) (first cap : Array Value) (w : World), (Instr.makeFunc fn first cap).run Tryd.prog w = .ok (.func fn first cap) w := fun _ _ _ _ => rfl
  clear hm hz
  go_enter_defers Tryd.func10, Tryd.ntmps10
  go_wp2_with fail
  obtain ⟨hC, hB⟩ := decW w d i b ro
  have HC := Lib.hid hC
  have HB := Lib.hid hB
  obtain ⟨B, hBB⟩ : ∃ B, w.heap.size = B := ⟨_, rfl⟩
  have HBB := Lib.hid hBB
  obtain ⟨w0, hw0⟩ : ∃ w0, DecW w d i b ro = w0 := ⟨_, rfl⟩
  have hw1 := hw0
  unfold DecW at hw1
  rw [hw0, hBB] at HC
  rw [hw0, hBB] at HB
  rw [hw1, hBB]
  clear hC hB hw0 hw1 hBB
  refine (M.out _).mono ?_
  rintro e w1 ⟨rfl, hb1⟩
  have HC1 := Lib.hid (HC.out.below hb1 HC.out.size)
  have HB1 := Lib.hid (HB.out.trans (hb1.mono (by have := HC.out.size; omega)))
  have l0 := HC1.out.lim.cell 0 _ rfl
  have l1 := HC1.out.lim.cell 1 _ rfl
  have l2 := HC1.out.lim.cell 2 _ rfl
  have l3 := HC1.out.lim.cell 3 _ rfl
  clear hb1
  go_wp2_with fail
  have lA0 : ∀ (ob : Obj), (w1.alloc ob).cell? ⟨B, 0, none⟩ = some (.int .i64 d) := fun ob => (HC1.out.lim.alloc ob).cell 0 _ rfl
  have lA1 : ∀ (ob : Obj), (w1.alloc ob).cell? ⟨B, 1, none⟩ = some (.int .i64 i) := fun ob => (HC1.out.lim.alloc ob).cell 1 _ rfl
  have lA2 : ∀ (ob : Obj), (w1.alloc ob).cell? ⟨B, 2, none⟩ = some (.int .i64 b) := fun ob => (HC1.out.lim.alloc ob).cell 2 _ rfl
  have lA3 : ∀ (ob : Obj), (w1.alloc ob).cell? ⟨B, 3, none⟩ = some (.int .i64 ro) := fun ob => (HC1.out.lim.alloc ob).cell 3 _ rfl
  go_cut [7] from 12 to 17 (fun v wx => ∃ R, v = .pointer (some ⟨R, 0, none⟩) ∧ w1.heap.size ≤ R ∧ JdS wx R s (limL d i b) ro st0 0 ∧ Below w1.heap.size w1 wx)
  case first =>
    refine wp_only ?_
    go_region_law (first
      | (go_simp; go_at_call 20; refine (NW.out _).mono ?_; rintro e w2 ⟨rfl, hb2⟩; have hX : Below w1.heap.size w1 w2 := ((Below.refl w1.heap.size w1).alloc (Nat.le_refl _) (Obj.cells #[Value.string ByteArray.empty, Value.int .i64 0, Value.int .i64 0, Value.int .i64 0, Value.int .i64 0, Value.int .i64 0, Value.int .i64 0, Value.int .i64 0, Value.slice none 0 0, Value.slice none 0 0] 50)).drew.trans (hb2.mono (by simp)); have hZ : At w2 w1.heap.size 0 (#[Value.string ByteArray.empty, Value.int .i64 0, Value.int .i64 0, Value.int .i64 0, Value.int .i64 0, Value.int .i64 0, Value.int .i64 0, Value.int .i64 0, Value.slice none 0 0, Value.slice none 0 0]).toList := (At.ofAlloc w1 #[Value.string ByteArray.empty, Value.int .i64 0, Value.int .i64 0, Value.int .i64 0, Value.int .i64 0, Value.int .i64 0, Value.int .i64 0, Value.int .i64 0, Value.slice none 0 0, Value.slice none 0 0] 50).drew.below hb2 (by simp); have r0 := hZ.cell 0 _ rfl; have q0 := hZ.froz 0 (by simp); have r1 := hZ.cell 1 _ rfl; have q1 := hZ.froz 1 (by simp); have r2 := hZ.cell 2 _ rfl; have q2 := hZ.froz 2 (by simp); have r3 := hZ.cell 3 _ rfl; have q3 := hZ.froz 3 (by simp); have r4 := hZ.cell 4 _ rfl; have q4 := hZ.froz 4 (by simp); have r5 := hZ.cell 5 _ rfl; have q5 := hZ.froz 5 (by simp); have r6 := hZ.cell 6 _ rfl; have q6 := hZ.froz 6 (by simp); have r7 := hZ.cell 7 _ rfl; have q7 := hZ.froz 7 (by simp); have r8 := hZ.cell 8 _ rfl; have q8 := hZ.froz 8 (by simp); have r9 := hZ.cell 9 _ rfl; have q9 := hZ.froz 9 (by simp); have LL := HC1.out.lim.below hX (by have := HC1.out.size; omega); have m0 := LL.cell 0 _ rfl; have m1 := LL.cell 1 _ rfl; have m2 := LL.cell 2 _ rfl; have m3 := LL.cell 3 _ rfl; have mA0 : ∀ (ob : Obj), (w2.alloc ob).cell? ⟨B, 0, none⟩ = some (.int .i64 d) := fun ob => (LL.alloc ob).cell 0 _ rfl; have mA1 : ∀ (ob : Obj), (w2.alloc ob).cell? ⟨B, 1, none⟩ = some (.int .i64 i) := fun ob => (LL.alloc ob).cell 1 _ rfl; have mA2 : ∀ (ob : Obj), (w2.alloc ob).cell? ⟨B, 2, none⟩ = some (.int .i64 b) := fun ob => (LL.alloc ob).cell 2 _ rfl; have mA3 : ∀ (ob : Obj), (w2.alloc ob).cell? ⟨B, 3, none⟩ = some (.int .i64 ro) := fun ob => (LL.alloc ob).cell 3 _ rfl; have HX := Lib.hid hX; have HZB := Lib.hid hZ; clear LL hX hb2 hZ)
      | (go_simp; go_at_call 20; refine (NW.out _).mono ?_; rintro e w2 ⟨rfl, hb2⟩; have hX : Below w1.heap.size w1 w2 := (below_drewN w1.heap.size w1 1).trans hb2; have LL := HC1.out.lim.below hX (by have := HC1.out.size; omega); have m0 := LL.cell 0 _ rfl; have m1 := LL.cell 1 _ rfl; have m2 := LL.cell 2 _ rfl; have m3 := LL.cell 3 _ rfl; have mA0 : ∀ (ob : Obj), (w2.alloc ob).cell? ⟨B, 0, none⟩ = some (.int .i64 d) := fun ob => (LL.alloc ob).cell 0 _ rfl; have mA1 : ∀ (ob : Obj), (w2.alloc ob).cell? ⟨B, 1, none⟩ = some (.int .i64 i) := fun ob => (LL.alloc ob).cell 1 _ rfl; have mA2 : ∀ (ob : Obj), (w2.alloc ob).cell? ⟨B, 2, none⟩ = some (.int .i64 b) := fun ob => (LL.alloc ob).cell 2 _ rfl; have mA3 : ∀ (ob : Obj), (w2.alloc ob).cell? ⟨B, 3, none⟩ = some (.int .i64 ro) := fun ob => (LL.alloc ob).cell 3 _ rfl; have HX := Lib.hid hX; clear LL hX hb2))
    all_goals
      simp only [onlyN]
      go_wp2_with fail
      go_meet
      case rel => first
        | exact ⟨_, rfl, HX.out.size, jd_start (At.ofAlloc w2 #[Value.string s, Value.int .i64 b, Value.int .i64 0, Value.int .i64 d, Value.int .i64 i, Value.int .i64 b, Value.int .i64 ro, Value.int .i64 0, Value.slice none 0 0, Value.slice none 0 0] 50) HMY.out, HX.out.alloc HX.out.size _⟩
        | (rw [← sets10]; exact ⟨_, rfl, Nat.le_refl _, jd_start (At.ofSets HZB.out (vs := [Value.string s, Value.int .i64 b, Value.int .i64 0, Value.int .i64 d, Value.int .i64 i, Value.int .i64 b, Value.int .i64 ro, Value.int .i64 0, Value.slice none 0 0, Value.slice none 0 0]) rfl) HMY.out, below_sets w1.heap.size w1.heap.size (Nat.le_refl _) [Value.string s, Value.int .i64 b, Value.int .i64 0, Value.int .i64 d, Value.int .i64 i, Value.int .i64 b, Value.int .i64 ro, Value.int .i64 0, Value.slice none 0 0, Value.slice none 0 0] 0 w1 w2 HX.out⟩)
  case rest =>
    obtain ⟨R, rfl, hR1, hR2, hR3⟩ := hcut
    have HR1 := Lib.hid hR1
    have HR2 := Lib.hid hR2
    have HR3 := Lib.hid hR3
    clear hR1 hR2 hR3 l0 l1 l2 l3 lA0 lA1 lA2 lA3
    have HBw : Hid (Below B w wc) := HB1.out.trans (HR3.out.mono (by have := HC1.out.size; omega))
    have HCc := Lib.hid (HC1.out.below HR3.out HC1.out.size)
    have HLE : Hid (B + 4 ≤ R) := by show B + 4 ≤ R; have := HC1.out.size; have := HR1.out; omega
    have HEV : Hid (Env s (limL d i b)) := ⟨HZ.out, by show i.toNat ≤ 4096; have := HMY.out; omega, by show d.toNat ≤ 32; have := HMY.out; omega, by show b.toNat ≤ 262144; have := HMY.out; omega⟩
    have ST := Lib.hid (fun w st p h => dstep_any w R s (limL d i b) ro st p h HEV.out)
    have HI0 : Hid (InDec R s (limL d i b) ro wc (s.size + 1) wc) := ⟨st0, 0, HR2, ⟨by omega, by omega, inv0 _, rfl, Cl.refl _ _ _ _⟩, Below.refl R wc⟩
    have NXY := Lib.hid (fun (w : World) (B : List (Option Nat)) (st : St) (p : Nat) h => nextB_yes w R s (limL d i b) ro (nx := st.nx) (cur := st.cur) (G := st.G) (B := B) p h HEV.out)
    have BLK := Lib.hid (fun (b : UInt8) w => dblank_any b w)
    have FA := Lib.hid (fun q w => fail_at 9 q R w)
    clear HR2
    go_wp2_with fail
    go_loopg [] (s.size + 1) (fun gk wr => InDec R s (limL d i b) ro wc gk wr)
    case atStart => exact HI0.out
    case round =>
      obtain ⟨st, p, HJ, HX, HBr⟩ := hrel
      clear HI0
      have c7 : wr.cell? ⟨R, 0 + 7, none⟩ = some (.int .i64 (st.nx : Int)) := by
        obtain ⟨B7, vV, vS, h⟩ := HJ.out
        exact h.at0.cell 7 _ rfl
      by_cases h6 : st.nx = 6
      · rw [h6] at c7
        have hG : st.G = [] := by
          rcases (HX.out.2.2.1.nx0 HX.out.2.2.2.1).1 with h | ⟨h, _⟩ | ⟨h, _⟩ | ⟨h, _⟩ | ⟨_, h⟩
          · omega
          · omega
          · omega
          · omega
          · exact h
        have HST : Hid (st.nx = 6 ∧ st.G = [] ∧ st.hand = .none) := ⟨h6, hG, HX.out.2.2.2.1⟩
        have HI2 : Hid (InEnd R s (limL d i b) ro st wr (s.size + 1) wr) := ⟨p, HJ, ⟨HX.out.1, by omega, HX.out.2.2.2.2⟩, Below.refl R wr⟩
        clear h6 hG HX HJ ST
        go_wp2_with fail
        clear c7
        go_loopg [] (s.size + 1) (fun gk wq => InEnd R s (limL d i b) ro st wr gk wq)
        case atStart => exact HI2.out
        case round =>
          obtain ⟨q, HJ2, HX2, HB2⟩ := hrel
          clear HI2
          obtain ⟨B7, h7⟩ := HJ2.out
          have hf : flat st.G st.cur = st.cur := by rw [HST.out.2.1]; rfl
          have HB2r := Lib.hid (HBr.out.trans HB2.out)
          by_cases hq : s.size ≤ q
          · have TE := Lib.hid (tended_ok wr R s (limL d i b).bytes q true h7.tx.1 (decide_eq_true hq))
            have hh : has s.toList (limL d i b) q = false := has_no1 (by rw [tl_size]; exact hq)
            have hfin : fin s.toList (limL d i b) st = .ok st.cur := by
              rw [fin, if_pos (by rw [tl_size]; have := HX2.out.1; omega), last_some HST.out.1 HST.out.2.1 HST.out.2.2]
            have hstop := RunsT.stop (s := st) hh
            rw [hfin] at hstop
            have HRun : Hid (∃ t k, RunsT s.toList (limL d i b) st0 0 (.ok st.cur) t k) := ⟨_, _, HX2.out.2.2 _ _ _ hstop⟩
            obtain ⟨vV, vS, h⟩ := h7
            rw [hf] at h
            obtain ⟨an, cn, rfl, -⟩ := own_form h.vals
            have HJV := Lib.hid h
            clear hq hh hfin hstop h hf
            go_wp2_with fail
            refine TE.out.mono ?_
            rintro e w5 ⟨rfl, k5, rfl⟩
            have HR5 := Lib.hid (HJV.out.drewN k5)
            have hc8 := HR5.out.at0.cell 8 _ rfl
            have hb5 := HB2r.out.trans (below_drewN R wr k5)
            have HC5 := Lib.hid (HCc.out.below hb5 HLE.out)
            have HB5 := Lib.hid (HBw.out.trans (hb5.mono (by have := HLE.out; omega)))
            have c1 := HC5.out.ls.cell 0 _ rfl
            have c2 := HC5.out.at_.cell 0 _ rfl
            have c3 := HC5.out.er.cell 0 _ rfl
            have f1 := HC5.out.ls.froz 0 (by simp)
            have f2 := HC5.out.at_.froz 0 (by simp)
            have f3 := HC5.out.er.froz 0 (by simp)
            clear hb5 HJV
            generalize wr.drewN k5 = w5 at *
            go_wp2_with fail
            obtain ⟨wz, hwz⟩ : ∃ wz, (((w5.setCell ⟨B + 1, 0, none⟩ (.slice an st.cur.length cn)).setCell ⟨B + 1 + 1, 0, none⟩ (.int .i64 0)).setCell ⟨B + 1 + 1 + 1, 0, none⟩ (.int .i64 0)) = wz := ⟨_, rfl⟩
            have z1 : wz.cell? ⟨B + 1, 0, none⟩ = some (.slice an st.cur.length cn) := by rw [← hwz]; simp [go_sem, c1, c2, c3]
            have z2 : wz.cell? ⟨B + 1 + 1, 0, none⟩ = some (.int .i64 0) := by rw [← hwz]; simp [go_sem, c1, c2, c3]
            have z3 : wz.cell? ⟨B + 1 + 1 + 1, 0, none⟩ = some (.int .i64 0) := by rw [← hwz]; simp [go_sem, c1, c2, c3]
            have HBz : Hid (Below B w wz) := by
              rw [← hwz]
              exact ((HB5.out.setCell (p := ⟨B + 1, 0, none⟩) (by show B ≤ B + 1; omega) _).setCell (p := ⟨B + 1 + 1, 0, none⟩) (by show B ≤ B + 1 + 1; omega) _).setCell (p := ⟨B + 1 + 1 + 1, 0, none⟩) (by show B ≤ B + 1 + 1 + 1; omega) _
            have HOz : Hid (wz.ownsRow B 61 3 (.slice an st.cur.length cn) st.cur.length (vcells st.cur)) := by
              rw [← hwz]
              have hle := HLE.out
              exact own_base (ownsRow_setCell_below (ownsRow_setCell_below (ownsRow_setCell_below HR5.out.vals (by show B + 1 < R + 1; omega) _) (by show B + 1 + 1 < R + 1; omega) _) (by show B + 1 + 1 + 1 < R + 1; omega) _) (by omega)
            rw [hwz]
            clear hwz c1 c2 c3 f1 f2 f3 hc8
            refine leaves_cons (f := 19) (args := #[.pointer (some ⟨B + 1, 0, none⟩), .pointer (some ⟨B + 1 + 1, 0, none⟩), .pointer (some ⟨B + 1 + 1 + 1, 0, none⟩)]) (by simp) (by simp [go_sem]) ?_
            refine (catch_idle (B + 1) (B + 1 + 1) (B + 1 + 1 + 1) _).mono ?_
            rintro e u w6 ⟨rfl, rfl, rfl⟩
            simp [bodyPostD, Leaves, settle, results, Tryd.results10, go_sem, z1, z2, z3]
            obtain rfl := HBB.out
            exact ⟨.ok st.cur, ⟨fun _ => HRun.out, fun h => (by rw [HM.out] at h; cases h)⟩, _, rfl, HOz.out, HBz.out⟩
          · have TE := Lib.hid (tended_ok wr R s (limL d i b).bytes q false h7.tx.1 (decide_eq_false hq))
            have hqb : q ≤ 262144 := by have := HX2.out.1; have := HEV.out.b; omega
            cases hh : has s.toList (limL d i b) q with
            | false =>
              have NN := Lib.hid (fun n => nextB_no (wr.drewN n) R s (limL d i b) ro q (h7.drewN n) (by omega) hh)
              obtain ⟨bb, hl⟩ := lack_eq s (limL d i b)
              have hr := stop_lack (s := st) hh (fun hle => by
                exfalso
                rw [tl_size] at hle
                rw [has_yes (by rw [tl_size]; omega) (by omega)] at hh
                cases hh)
              rw [hl] at hr
              have HRun : Hid (∃ t k, RunsT s.toList (limL d i b) st0 0 (.no (lkE (limL d i b).bytes s) (lkP (limL d i b).bytes s) bb) t k) := ⟨_, _, HX2.out.2.2 _ _ _ hr⟩
              clear hq hh hl hr h7 hf hqb
              go_wp2_with fail
              refine TE.out.mono ?_
              rintro e w4 ⟨rfl, k4, rfl⟩
              go_wp2_with fail
              refine (NN.out _).mono ?_
              rintro e w5 ⟨rfl, hb⟩
              have hb5 := (HB2r.out.trans (below_drewN R wr k4)).trans hb
              have HC5 := Lib.hid (HCc.out.below hb5 HLE.out)
              have HB5 := Lib.hid (HBw.out.trans (hb5.mono (by have := HLE.out; omega)))
              clear hb hb5
              go_wp2_with fail
              refine leaves_cons (f := 19) (args := #[.pointer (some ⟨B + 1, 0, none⟩), .pointer (some ⟨B + 1 + 1, 0, none⟩), .pointer (some ⟨B + 1 + 1 + 1, 0, none⟩)]) (by simp) (by simp [go_sem]) ?_
              refine (catch_panicking (B + 1) (B + 1 + 1) (B + 1 + 1 + 1) _ (lkP (limL d i b).bytes s : Int) undef 0 0 _ (HC5.out.ls.cell 0 _ rfl) (HC5.out.at_.cell 0 _ rfl) (HC5.out.er.cell 0 _ rfl) (HC5.out.ls.froz 0 (by simp)) (HC5.out.at_.froz 0 (by simp)) (HC5.out.er.froz 0 (by simp)) (by omega) (by omega) (by omega)).mono ?_
              rintro e u w6 ⟨rfl, rfl, z1, z2, z3, hB6⟩
              have HB6 := Lib.hid (HB5.out.trans (hB6 B (by omega) (by omega) (by omega) (by have := HC5.out.size; omega)))
              clear hB6
              simp [bodyPostD, Leaves, settle, results, Tryd.results10, go_sem, z1, z2, z3]
              obtain rfl := HBB.out
              exact ⟨.no _ (lkP (limL d i b).bytes s) bb, ⟨fun _ => HRun.out, fun h => (by rw [HM.out] at h; cases h)⟩, _, rfl, World.ownsRow_nil _ _ _ _, HB6.out⟩
            | true =>
              obtain ⟨b0, hb0⟩ : ∃ b0, s.toList.getD q 0 = b0 := ⟨_, rfl⟩
              have NN := Lib.hid (fun n => NXY.out (wr.drewN n) B7 st q (h7.drewN n) hh b0 hb0)
              have hqs := has_lt hh
              rw [tl_size] at hqs
              cases hbl : Js.blank b0 with
              | true =>
                have BB := Lib.hid (fun w => BLK.out b0 w)
                rw [hbl] at BB
                have hact : st.act (limL d i b) b0 q = .go st := by
                  rw [St.act, HST.out.2.2]
                  show st.between (limL d i b) b0 q = _
                  rw [St.between, if_pos hbl]
                have HN : Hid (q + 1 ≤ (limL d i b).bytes ∧ s.size - (q + 1) < s.size - q ∧ Cl s.toList (limL d i b) st (q + 1) st0 0) := ⟨by omega, by omega, Cl.trans (cl_go hh hb0 hact) HX2.out.2.2⟩
                clear hq hh hqs h7 hf hqb hbl hact hb0
                go_wp2_with fail
                refine TE.out.mono ?_
                rintro e w4 ⟨rfl, k4, rfl⟩
                go_wp2_with fail
                refine (NN.out _).mono ?_
                rintro e w5 ⟨rfl, hF5, hB5, -⟩
                go_wp2_with fail
                refine (BB.out _).mono ?_
                rintro e w6 ⟨rfl, rfl⟩
                go_wp2_with fail
                go_roundg (s.size - q)
                case measure => exact HX2.out.2.1
                case rel => exact ⟨q + 1, ⟨B7, hF5.out⟩, HN, (HB2.out.trans (below_drewN R wr k4)).trans hB5.out⟩
              | false =>
                have BB := Lib.hid (fun w => BLK.out b0 w)
                rw [hbl] at BB
                have hact : st.act (limL d i b) b0 q = .fl 9 q := by rw [act_step HST.out.2.2 hbl, St.step, HST.out.1]; rfl
                have HRun : Hid (∃ t k, RunsT s.toList (limL d i b) st0 0 (.no 9 q false) t k) := ⟨_, _, HX2.out.2.2 _ _ _ (fl_at hh hb0 hact)⟩
                have PL := Lib.hid (fun (w : World) h => place_ok w R s (limL d i b).bytes (q + 1) h)
                have e1 : ((q + 1 : Nat) : Int) - 1 = (q : Int) := by omega
                have e1b : (q : Int) + 1 - 1 = (q : Int) := by omega
                have e2 : IntKind.i64.wrap (q : Int) = (q : Int) := wrap_fit q (by unfold maxLen; omega)
                clear hq hh hqs h7 hf hqb hbl hact hb0
                go_wp2_with fail
                refine TE.out.mono ?_
                rintro e w4 ⟨rfl, k4, rfl⟩
                go_wp2_with fail
                refine (NN.out _).mono ?_
                rintro e w5 ⟨rfl, hF5, hB5, -⟩
                go_wp2_with fail
                refine (BB.out _).mono ?_
                rintro e w6 ⟨rfl, rfl⟩
                go_wp2_with fail
                refine (PL.out _ hF5.out.tx.1).mono ?_
                rintro e w6 ⟨rfl, rfl⟩
                go_wp2_with fail
                refine (FA.out q _).mono ?_
                rintro e w7 ⟨rfl, hb⟩
                have hb5 := ((HB2r.out.trans (below_drewN R wr k4)).trans hB5.out).trans hb
                have HC5 := Lib.hid (HCc.out.below hb5 HLE.out)
                have HB5 := Lib.hid (HBw.out.trans (hb5.mono (by have := HLE.out; omega)))
                clear hb hb5
                go_wp2_with fail
                refine leaves_cons (f := 19) (args := #[.pointer (some ⟨B + 1, 0, none⟩), .pointer (some ⟨B + 1 + 1, 0, none⟩), .pointer (some ⟨B + 1 + 1 + 1, 0, none⟩)]) (by simp) (by simp [go_sem]) ?_
                refine (catch_panicking (B + 1) (B + 1 + 1) (B + 1 + 1 + 1) 9 (q : Int) undef 0 0 _ (HC5.out.ls.cell 0 _ rfl) (HC5.out.at_.cell 0 _ rfl) (HC5.out.er.cell 0 _ rfl) (HC5.out.ls.froz 0 (by simp)) (HC5.out.at_.froz 0 (by simp)) (HC5.out.er.froz 0 (by simp)) (by omega) (by omega) (by omega)).mono ?_
                rintro e u w6 ⟨rfl, rfl, z1, z2, z3, hB6⟩
                have HB6 := Lib.hid (HB5.out.trans (hB6 B (by omega) (by omega) (by omega) (by have := HC5.out.size; omega)))
                clear hB6
                simp [bodyPostD, Leaves, settle, results, Tryd.results10, go_sem, z1, z2, z3]
                obtain rfl := HBB.out
                exact ⟨.no 9 q false, ⟨fun _ => HRun.out, fun h => (by rw [HM.out] at h; cases h)⟩, _, rfl, World.ownsRow_nil _ _ _ _, HB6.out⟩
      · have e6 := eqF (n := st.nx) (c := 6) (by omega)
        have e6b : ((st.nx : Int) != 6) = true := by rw [bne, e6]; rfl
        have SS := Lib.hid (ST.out wr st p HJ.out HX.out.2.2.1 HX.out.2.2.2.1 (by have := HX.out.1; have := HEV.out.b; omega) h6)
        clear h6
        go_wp2_with fail
        refine SS.out.mono ?_
        rintro e w5 (⟨st', p', h1, h2, h3, h4, h5, h6, rfl, h8, h9⟩ | ⟨c, q, b2, t2, k2, hrun, rfl, hb⟩)
        · have HN : Hid (InDec R s (limL d i b) ro wc (s.size - p) w5) := ⟨st', p', h8, ⟨h3, by omega, h5, h4, Cl.trans h6 HX.out.2.2.2.2⟩, HBr.out.trans h9.out⟩
          clear h1 h2 h3 h4 h5 h6 h8 h9
          go_wp2_with fail
          go_roundg (s.size - p)
          case measure => exact HX.out.2.1
          case rel => exact HN.out
        · have HRun : Hid (∃ t k, RunsT s.toList (limL d i b) st0 0 (.no c q b2) t k) := ⟨_, _, HX.out.2.2.2.2 _ _ _ hrun⟩
          have hb5 := HBr.out.trans hb
          have HC5 := Lib.hid (HCc.out.below hb5 HLE.out)
          have HB5 := Lib.hid (HBw.out.trans (hb5.mono (by have := HLE.out; omega)))
          clear hrun hb hb5
          go_wp2_with fail
          refine leaves_cons (f := 19) (args := #[.pointer (some ⟨B + 1, 0, none⟩), .pointer (some ⟨B + 1 + 1, 0, none⟩), .pointer (some ⟨B + 1 + 1 + 1, 0, none⟩)]) (by simp) (by simp [go_sem]) ?_
          refine (catch_panicking (B + 1) (B + 1 + 1) (B + 1 + 1 + 1) c (q : Int) undef 0 0 _ (HC5.out.ls.cell 0 _ rfl) (HC5.out.at_.cell 0 _ rfl) (HC5.out.er.cell 0 _ rfl) (HC5.out.ls.froz 0 (by simp)) (HC5.out.at_.froz 0 (by simp)) (HC5.out.er.froz 0 (by simp)) (by omega) (by omega) (by omega)).mono ?_
          rintro e u w6 ⟨rfl, rfl, z1, z2, z3, hB6⟩
          have HB6 := Lib.hid (HB5.out.trans (hB6 B (by omega) (by omega) (by omega) (by have := HC5.out.size; omega)))
          clear hB6
          simp [bodyPostD, Leaves, settle, results, Tryd.results10, go_sem, z1, z2, z3]
          obtain rfl := HBB.out
          exact ⟨.no c q b2, ⟨fun _ => HRun.out, fun h => (by rw [HM.out] at h; cases h)⟩, _, rfl, World.ownsRow_nil _ _ _ _, HB6.out⟩
theorem decode_any (s : ByteArray) (d i b ro : Int) (w : World) (hz : s.size ≤ 140737488351232) :
    Calls Tryd.prog 10 #[.string s, .agg #[.int .i64 d, .int .i64 i, .int .i64 b, .int .i64 ro]] w (RetDec s d i b ro w) := by
  cases hm : mayOk d i b ro
  · exact decode_no s d i b ro w hm
  · exact decode_yes s d i b ro w hm hz
end Jd
end Go.Proofs.YtpaikjlcachabaaDoor
