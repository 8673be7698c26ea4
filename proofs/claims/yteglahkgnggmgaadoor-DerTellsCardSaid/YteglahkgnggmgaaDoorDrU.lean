/- Decode. -/
import Derived.Test.YteglahkgnggmgaaDoorDrT
namespace Go.Proofs.YteglahkgnggmgaaDoor
open Go.RowKit
set_option linter.unusedVariables false
set_option linter.unusedSimpArgs false
open Dr
def limL (d i b : Int) : Lm := { depth := d.toNat, items := i.toNat, bytes := b.toNat }
def DecR (S : List UInt8) (d i b ro : Int) (r : Rs (List Nd)) : Prop := (mayOk d i b ro = true → RunsD S (limL d i b) (.el [] [] 0) r) ∧ (mayOk d i b ro = false → r = .no 2 0 false)
def decL : Rs (List Nd) → List Nd
  | .ok l => l
  | .no _ _ _ => []
def decP : Rs (List Nd) → Nat
  | .ok _ => 0
  | .no _ q _ => q
def decE : Rs (List Nd) → Int
  | .ok _ => 0
  | .no c _ _ => c
theorem DecR.same {S : List UInt8} {d i b ro : Int} {r r' : Rs (List Nd)} (h : DecR S d i b ro r) (h' : DecR S d i b ro r') : r = r' := by
  cases hm : mayOk d i b ro
  · rw [h.2 hm, h'.2 hm]
  · exact Runs.same _ _ _ _ (h.1 hm) (h'.1 hm)
def RetDec (s : ByteArray) (d i b ro : Int) (w : World) (e : Ending) (w' : World) : Prop :=
  ∃ r, DecR s.toList d i b ro r ∧ ∃ v, e = .returned (.tuple #[v, .int .i64 (decP r : Int), .int .i64 (decE r)]) ∧ w'.ownsRow w.heap.size 63 3 v (decL r).length (ncells (decL r)) ∧ Below w.heap.size w w'
/-- a piece of code that only ends in the usual way -/
def onlyN (Q : Exit → Act → World → Prop) (e : Exit) (a : Act) (w : World) : Prop := match e with
  | .normal => Q .normal a w
  | _ => False
theorem wp_only {P : Program} {c : Code} {Q : Exit → Act → World → Prop} {a : Act} {w : World} (h : c.wp P (onlyN Q) a w) : c.wp P Q a w := by
  refine wp_mono h ?_
  intro e a' w' hq
  cases e <;> first | exact hq | exact hq.elim
theorem UT.mono {g g' : Nat} {w : World} (h : UT g w) (hg : g ≤ g') : UT g' w := ⟨h.1, Nat.lt_of_lt_of_le h.2.1 hg, Nat.lt_of_lt_of_le h.2.2 hg⟩
theorem own_base {w : World} {B B' e size n : Nat} {v : Value} {xs : List Value} (h : w.ownsRow B e size v n xs) (hB : B' ≤ B) : w.ownsRow B' e size v n xs := by
  refine ⟨h.1, ?_⟩
  rcases h.2 with h0 | ⟨g, cap, cur, h1, h2, h3⟩
  · exact .inl h0
  · exact .inr ⟨g, cap, cur, h1, Nat.le_trans hB h2, h3⟩
theorem sets9 (w : World) (g : Nat) (v0 v1 v2 v3 v4 v5 v6 v7 v8 : Value) : w.setCells g 0 [v0, v1, v2, v3, v4, v5, v6, v7, v8] = (((((((((w.setCell ⟨g, 0, none⟩ v0).setCell ⟨g, 1, none⟩ v1).setCell ⟨g, 2, none⟩ v2).setCell ⟨g, 3, none⟩ v3).setCell ⟨g, 4, none⟩ v4).setCell ⟨g, 5, none⟩ v5).setCell ⟨g, 6, none⟩ v6).setCell ⟨g, 7, none⟩ v7).setCell ⟨g, 8, none⟩ v8) := rfl
theorem rd_start {w : World} {R : Nat} {s : ByteArray} {d i b ro : Int} (h : At w R 0 [.string s, .int .i64 b, .int .i64 0, .int .i64 d, .int .i64 i, .int .i64 b, .int .i64 ro, .slice none 0 0, .slice none 0 0])
    (hm : 1 ≤ d ∧ d ≤ 32 ∧ 1 ≤ i ∧ i ≤ 4096 ∧ 1 ≤ b ∧ b ≤ 262144 ∧ 1 ≤ ro ∧ ro ≤ 4096) : Rd w R s (limL d i b) 0 [] [] (.slice none 0 0) (.slice none 0 0) ro := by
  refine ⟨?_, World.ownsRow_nil _ _ _ _, World.ownsRow_nil _ _ _ _, h.lt (by simp)⟩
  have h1 : ((limL d i b).bytes : Int) = b := by show ((b.toNat : Nat) : Int) = b; omega
  have h2 : ((limL d i b).depth : Int) = d := by show ((d.toNat : Nat) : Int) = d; omega
  have h3 : ((limL d i b).items : Int) = i := by show ((i.toNat : Nat) : Int) = i; omega
  rw [h1, h2, h3]
  exact h
set_option maxRecDepth 100000 in
theorem new_any (s : ByteArray) (b : Int) (w : World) : Calls Tryd.prog 30 #[.string s, .int .i64 b] w (fun e w' => e = .returned (.agg #[.string s, .int .i64 b, .int .i64 0]) ∧ Below w.heap.size w w') := by
  go_enter Tryd.func30, Tryd.ntmps30
  go_wp2_with fail
  have hA := At.ofAlloc w #[.string s, .int .i64 b, .int .i64 0] 67
  refine bodyPost_ret (results_at rfl _ w.heap.size _ _ rfl hA Tryd.underlying67 rfl (by kernel_rfl)) rfl ?_
  exact ⟨rfl, (Below.refl _ _).alloc (Nat.le_refl _) _⟩
/-- the call's first blocks: the limits, the three results -/
def DecW (w : World) (d i b ro : Int) : World := (((w.alloc (Obj.cells #[.int .i64 d, .int .i64 i, .int .i64 b, .int .i64 ro] 23)).alloc (Obj.cells #[.slice none 0 0] 25)).alloc (Obj.cells #[.int .i64 0] 3)).alloc (Obj.cells #[.int .i64 0] 26)
structure DecC (w : World) (B : Nat) (d i b ro : Int) : Prop where
  lim : At w B 0 [.int .i64 d, .int .i64 i, .int .i64 b, .int .i64 ro]
  ls : At w (B + 1) 0 [.slice none 0 0]
  at_ : At w (B + 2) 0 [.int .i64 0]
  er : At w (B + 3) 0 [.int .i64 0]
  size : B + 4 ≤ w.heap.size
theorem DecC.below {w w' : World} {B B' : Nat} {d i b ro : Int} (h : DecC w B d i b ro) (hb : Below B' w w') (hB : B + 4 ≤ B') : DecC w' B d i b ro :=
  ⟨h.lim.below hb (by omega), h.ls.below hb (by omega), h.at_.below hb (by omega), h.er.below hb (by omega), Nat.le_trans h.size hb.size⟩
theorem decW (w : World) (d i b ro : Int) : DecC (DecW w d i b ro) w.heap.size d i b ro ∧ Below w.heap.size w (DecW w d i b ro) := by
  have h0 := At.ofAlloc w #[.int .i64 d, .int .i64 i, .int .i64 b, .int .i64 ro] 23
  have h1 := At.ofAlloc (w.alloc (Obj.cells #[.int .i64 d, .int .i64 i, .int .i64 b, .int .i64 ro] 23)) #[.slice none 0 0] 25
  have h2 := At.ofAlloc ((w.alloc (Obj.cells #[.int .i64 d, .int .i64 i, .int .i64 b, .int .i64 ro] 23)).alloc (Obj.cells #[.slice none 0 0] 25)) #[.int .i64 0] 3
  have h3 := At.ofAlloc (((w.alloc (Obj.cells #[.int .i64 d, .int .i64 i, .int .i64 b, .int .i64 ro] 23)).alloc (Obj.cells #[.slice none 0 0] 25)).alloc (Obj.cells #[.int .i64 0] 3)) #[.int .i64 0] 26
  simp only [World.alloc, Array.size_push] at h1 h2 h3
  refine ⟨⟨((h0.alloc _).alloc _).alloc _, (h1.alloc _).alloc _, h2.alloc _, h3, ?_⟩, ?_⟩
  · simp [DecW]
  · exact ((((Below.refl _ w).alloc (Nat.le_refl _) _).alloc (by simp) _).alloc (by simp; omega) _).alloc (by simp; omega) _
set_option maxRecDepth 100000 in
set_option maxHeartbeats 1600000 in
theorem decode_no (s : ByteArray) (d i b ro : Int) (w : World) (hm : mayOk d i b ro = false) :
    Calls Tryd.prog 14 #[.string s, .agg #[.int .i64 d, .int .i64 i, .int .i64 b, .int .i64 ro]] w (RetDec s d i b ro w) := by
  have M := Lib.hid (fun w => may_any d i b ro w)
  rw [hm] at M
  have HM := Lib.hid hm
  clear hm
  go_enter_defers Tryd.func14, Tryd.ntmps14
  go_wp2_with fail
  obtain ⟨hC, hB⟩ := decW w d i b ro
  have HC := Lib.hid hC
  have HB := Lib.hid hB
  obtain ⟨B, hBB⟩ : ∃ B, w.heap.size = B := ⟨_, rfl⟩
  have HBB := Lib.hid hBB
  obtain ⟨w0, hw0⟩ : ∃ w0, DecW w d i b ro = w0 := ⟨_, rfl⟩
  have hw1 := hw0
  unfold DecW at hw1
  rw [hw0, hBB] at HC
  rw [hw0, hBB] at HB
  rw [hw1, hBB]
  clear hC hB hw0 hw1 hBB
  refine (M.out _).mono ?_
  rintro e w1 ⟨rfl, hb1⟩
  have HC1 := Lib.hid (HC.out.below hb1 HC.out.size)
  have HB1 := Lib.hid (HB.out.trans (hb1.mono (by have := HC.out.size; omega)))
  have c1 := HC1.out.ls.cell 0 _ rfl
  have c2 := HC1.out.at_.cell 0 _ rfl
  have c3 := HC1.out.er.cell 0 _ rfl
  have f1 := HC1.out.ls.froz 0 (by simp)
  have f2 := HC1.out.at_.froz 0 (by simp)
  have f3 := HC1.out.er.froz 0 (by simp)
  clear hb1
  go_wp2_with fail
  obtain ⟨wz, hwz⟩ : ∃ wz, (((w1.setCell ⟨B + 1, 0, none⟩ (.slice none 0 0)).setCell ⟨B + 1 + 1, 0, none⟩ (.int .i64 0)).setCell ⟨B + 1 + 1 + 1, 0, none⟩ (.int .i64 2)) = wz := ⟨_, rfl⟩
  have z1 : wz.cell? ⟨B + 1, 0, none⟩ = some (.slice none 0 0) := by rw [← hwz]; simp [go_sem, c1, c2, c3]
  have z2 : wz.cell? ⟨B + 1 + 1, 0, none⟩ = some (.int .i64 0) := by rw [← hwz]; simp [go_sem, c1, c2, c3]
  have z3 : wz.cell? ⟨B + 1 + 1 + 1, 0, none⟩ = some (.int .i64 2) := by rw [← hwz]; simp [go_sem, c1, c2, c3]
  rw [hwz]
  have HBz : Hid (Below B w wz) := by
    rw [← hwz]
    exact ((HB1.out.setCell (p := ⟨B + 1, 0, none⟩) (by show B ≤ B + 1; omega) _).setCell (p := ⟨B + 1 + 1, 0, none⟩) (by show B ≤ B + 1 + 1; omega) _).setCell (p := ⟨B + 1 + 1 + 1, 0, none⟩) (by show B ≤ B + 1 + 1 + 1; omega) _
  clear hwz
  simp [bodyPostD, Leaves, settle, results, Tryd.results14, go_sem, z1, z2, z3]
  obtain rfl := HBB.out
  exact ⟨.no 2 0 false, ⟨fun h => (by rw [HM.out] at h; cases h), fun _ => rfl⟩, _, rfl, World.ownsRow_nil _ _ _ _, HBz⟩
set_option maxRecDepth 100000 in
set_option maxHeartbeats 1600000 in
theorem decode_yes (s : ByteArray) (d i b ro : Int) (w : World) (hm : mayOk d i b ro = true) (hz : s.size ≤ 140737488351232) (hU : UT w.heap.size w) :
    Calls Tryd.prog 14 #[.string s, .agg #[.int .i64 d, .int .i64 i, .int .i64 b, .int .i64 ro]] w (RetDec s d i b ro w) := by
  have M := Lib.hid (fun w => may_any d i b ro w)
  rw [hm] at M
  have HM := Lib.hid hm
  have HMY := Lib.hid (mayOk_yes hm)
  have NW := Lib.hid (fun w => new_any s b w)
  have HU := Lib.hid hU
  have HZ := Lib.hid hz
  have hmf : ∀ (fn : Fn) (first cap : Array Value) (w : World), (Instr.makeFunc fn first cap).run Tryd.prog w = .ok (.func fn first cap) w := fun _ _ _ _ => rfl
  clear hm hU hz
  go_enter_defers Tryd.func14, Tryd.ntmps14
  go_wp2_with fail
  obtain ⟨hC, hB⟩ := decW w d i b ro
  have HC := Lib.hid hC
  have HB := Lib.hid hB
  obtain ⟨B, hBB⟩ : ∃ B, w.heap.size = B := ⟨_, rfl⟩
  have HBB := Lib.hid hBB
  obtain ⟨w0, hw0⟩ : ∃ w0, DecW w d i b ro = w0 := ⟨_, rfl⟩
  have hw1 := hw0
  unfold DecW at hw1
  rw [hw0, hBB] at HC
  rw [hw0, hBB] at HB
  rw [hw1, hBB]
  clear hC hB hw0 hw1 hBB
  refine (M.out _).mono ?_
  rintro e w1 ⟨rfl, hb1⟩
  have HC1 := Lib.hid (HC.out.below hb1 HC.out.size)
  have HB1 := Lib.hid (HB.out.trans (hb1.mono (by have := HC.out.size; omega)))
  have l0 := HC1.out.lim.cell 0 _ rfl
  have l1 := HC1.out.lim.cell 1 _ rfl
  have l2 := HC1.out.lim.cell 2 _ rfl
  have l3 := HC1.out.lim.cell 3 _ rfl
  clear hb1
  go_wp2_with fail
  have lA0 : ∀ (ob : Obj), (w1.alloc ob).cell? ⟨B, 0, none⟩ = some (.int .i64 d) := fun ob => (HC1.out.lim.alloc ob).cell 0 _ rfl
  have lA1 : ∀ (ob : Obj), (w1.alloc ob).cell? ⟨B, 1, none⟩ = some (.int .i64 i) := fun ob => (HC1.out.lim.alloc ob).cell 1 _ rfl
  have lA2 : ∀ (ob : Obj), (w1.alloc ob).cell? ⟨B, 2, none⟩ = some (.int .i64 b) := fun ob => (HC1.out.lim.alloc ob).cell 2 _ rfl
  have lA3 : ∀ (ob : Obj), (w1.alloc ob).cell? ⟨B, 3, none⟩ = some (.int .i64 ro) := fun ob => (HC1.out.lim.alloc ob).cell 3 _ rfl
  go_cut [7] from 12 to 17 (fun v wx => ∃ R, v = .pointer (some ⟨R, 0, none⟩) ∧ w1.heap.size ≤ R ∧ Rd wx R s (limL d i b) 0 [] [] (.slice none 0 0) (.slice none 0 0) ro ∧ Below w1.heap.size w1 wx)
  case first =>
    refine wp_only ?_
    go_region_law (first
      | (go_simp; go_at_call 30; refine (NW.out _).mono ?_; rintro e w2 ⟨rfl, hb2⟩; have hX : Below w1.heap.size w1 w2 := ((Below.refl w1.heap.size w1).alloc (Nat.le_refl _) (Obj.cells #[Value.string ByteArray.empty, Value.int .i64 0, Value.int .i64 0, Value.int .i64 0, Value.int .i64 0, Value.int .i64 0, Value.int .i64 0, Value.slice none 0 0, Value.slice none 0 0] 71)).drew.trans (hb2.mono (by simp)); have hZ : At w2 w1.heap.size 0 (#[Value.string ByteArray.empty, Value.int .i64 0, Value.int .i64 0, Value.int .i64 0, Value.int .i64 0, Value.int .i64 0, Value.int .i64 0, Value.slice none 0 0, Value.slice none 0 0]).toList := (At.ofAlloc w1 #[Value.string ByteArray.empty, Value.int .i64 0, Value.int .i64 0, Value.int .i64 0, Value.int .i64 0, Value.int .i64 0, Value.int .i64 0, Value.slice none 0 0, Value.slice none 0 0] 71).drew.below hb2 (by simp); have r0 := hZ.cell 0 _ rfl; have q0 := hZ.froz 0 (by simp); have r1 := hZ.cell 1 _ rfl; have q1 := hZ.froz 1 (by simp); have r2 := hZ.cell 2 _ rfl; have q2 := hZ.froz 2 (by simp); have r3 := hZ.cell 3 _ rfl; have q3 := hZ.froz 3 (by simp); have r4 := hZ.cell 4 _ rfl; have q4 := hZ.froz 4 (by simp); have r5 := hZ.cell 5 _ rfl; have q5 := hZ.froz 5 (by simp); have r6 := hZ.cell 6 _ rfl; have q6 := hZ.froz 6 (by simp); have r7 := hZ.cell 7 _ rfl; have q7 := hZ.froz 7 (by simp); have r8 := hZ.cell 8 _ rfl; have q8 := hZ.froz 8 (by simp); have LL := HC1.out.lim.below hX (by have := HC1.out.size; omega); have m0 := LL.cell 0 _ rfl; have m1 := LL.cell 1 _ rfl; have m2 := LL.cell 2 _ rfl; have m3 := LL.cell 3 _ rfl; have mA0 : ∀ (ob : Obj), (w2.alloc ob).cell? ⟨B, 0, none⟩ = some (.int .i64 d) := fun ob => (LL.alloc ob).cell 0 _ rfl; have mA1 : ∀ (ob : Obj), (w2.alloc ob).cell? ⟨B, 1, none⟩ = some (.int .i64 i) := fun ob => (LL.alloc ob).cell 1 _ rfl; have mA2 : ∀ (ob : Obj), (w2.alloc ob).cell? ⟨B, 2, none⟩ = some (.int .i64 b) := fun ob => (LL.alloc ob).cell 2 _ rfl; have mA3 : ∀ (ob : Obj), (w2.alloc ob).cell? ⟨B, 3, none⟩ = some (.int .i64 ro) := fun ob => (LL.alloc ob).cell 3 _ rfl; have HX := Lib.hid hX; have HZB := Lib.hid hZ; clear LL hX hb2 hZ)
      | (go_simp; go_at_call 30; refine (NW.out _).mono ?_; rintro e w2 ⟨rfl, hb2⟩; have hX : Below w1.heap.size w1 w2 := (below_drewN w1.heap.size w1 1).trans hb2; have LL := HC1.out.lim.below hX (by have := HC1.out.size; omega); have m0 := LL.cell 0 _ rfl; have m1 := LL.cell 1 _ rfl; have m2 := LL.cell 2 _ rfl; have m3 := LL.cell 3 _ rfl; have mA0 : ∀ (ob : Obj), (w2.alloc ob).cell? ⟨B, 0, none⟩ = some (.int .i64 d) := fun ob => (LL.alloc ob).cell 0 _ rfl; have mA1 : ∀ (ob : Obj), (w2.alloc ob).cell? ⟨B, 1, none⟩ = some (.int .i64 i) := fun ob => (LL.alloc ob).cell 1 _ rfl; have mA2 : ∀ (ob : Obj), (w2.alloc ob).cell? ⟨B, 2, none⟩ = some (.int .i64 b) := fun ob => (LL.alloc ob).cell 2 _ rfl; have mA3 : ∀ (ob : Obj), (w2.alloc ob).cell? ⟨B, 3, none⟩ = some (.int .i64 ro) := fun ob => (LL.alloc ob).cell 3 _ rfl; have HX := Lib.hid hX; clear LL hX hb2))
    all_goals
      simp only [onlyN]
      go_wp2_with fail
      go_meet
      case rel => first
        | exact ⟨_, rfl, HX.out.size, rd_start (At.ofAlloc w2 #[Value.string s, Value.int .i64 b, Value.int .i64 0, Value.int .i64 d, Value.int .i64 i, Value.int .i64 b, Value.int .i64 ro, Value.slice none 0 0, Value.slice none 0 0] 71) HMY.out, HX.out.alloc HX.out.size _⟩
        | (rw [← sets9]; exact ⟨_, rfl, Nat.le_refl _, rd_start (At.ofSets HZB.out (vs := [Value.string s, Value.int .i64 b, Value.int .i64 0, Value.int .i64 d, Value.int .i64 i, Value.int .i64 b, Value.int .i64 ro, Value.slice none 0 0, Value.slice none 0 0]) rfl) HMY.out, below_sets w1.heap.size w1.heap.size (Nat.le_refl _) [Value.string s, Value.int .i64 b, Value.int .i64 0, Value.int .i64 d, Value.int .i64 i, Value.int .i64 b, Value.int .i64 ro, Value.slice none 0 0, Value.slice none 0 0] 0 w1 w2 HX.out⟩)
  case rest =>
    obtain ⟨R, rfl, hR1, hR2, hR3⟩ := hcut
    have HR1 := Lib.hid hR1
    have HR2 := Lib.hid hR2
    have HR3 := Lib.hid hR3
    clear hR1 hR2 hR3 l0 l1 l2 l3 lA0 lA1 lA2 lA3
    have HBw : Hid (Below B w wc) := HB1.out.trans (HR3.out.mono (by have := HC1.out.size; omega))
    have HUT : Hid (UT R wc) := ((HU.out.below (by rw [HBB.out]; exact HBw.out)).mono (by have := HBB.out; have := HC1.out.size; have := HR1.out; omega))
    have HCc := Lib.hid (HC1.out.below HR3.out HC1.out.size)
    have HLE : Hid (B + 4 ≤ R) := by show B + 4 ≤ R; have := HC1.out.size; have := HR1.out; omega
    go_wp2_with fail
    refine (tree_any wc R s (limL d i b) _ _ ro ⟨HR2.out, trivial, Nat.zero_le _, HZ.out, by show i.toNat ≤ 4096; have := HMY.out; omega, by show d.toNat ≤ 32; have := HMY.out; omega, by show b.toNat ≤ 262144; have := HMY.out; omega, HUT.out⟩).mono ?_
    rintro e w5 ⟨r, hRun, hT⟩
    cases r with
    | no c q bb =>
      obtain ⟨rfl, hb⟩ := hT
      have HRun := Lib.hid hRun
      have HC5 := Lib.hid (HCc.out.below hb HLE.out)
      have HB5 := Lib.hid (HBw.out.trans (hb.mono (by have := HLE.out; omega)))
      clear hRun hb
      go_wp2_with fail
      refine leaves_cons (f := 29) (args := #[.pointer (some ⟨B + 1, 0, none⟩), .pointer (some ⟨B + 1 + 1, 0, none⟩), .pointer (some ⟨B + 1 + 1 + 1, 0, none⟩)]) (by simp) (by simp [go_sem]) ?_
      refine (catch_panicking (B + 1) (B + 1 + 1) (B + 1 + 1 + 1) c (q : Int) undef 0 0 _ (HC5.out.ls.cell 0 _ rfl) (HC5.out.at_.cell 0 _ rfl) (HC5.out.er.cell 0 _ rfl) (HC5.out.ls.froz 0 (by simp)) (HC5.out.at_.froz 0 (by simp)) (HC5.out.er.froz 0 (by simp)) (by omega) (by omega) (by omega)).mono ?_
      rintro e u w6 ⟨rfl, rfl, z1, z2, z3, hB6⟩
      have HB6 := Lib.hid (HB5.out.trans (hB6 B (by omega) (by omega) (by omega) (by have := HC5.out.size; omega)))
      clear hB6
      simp [bodyPostD, Leaves, settle, results, Tryd.results14, go_sem, z1, z2, z3]
      obtain rfl := HBB.out
      exact ⟨.no c q bb, ⟨fun _ => HRun.out, fun h => (by rw [HM.out] at h; cases h)⟩, _, rfl, World.ownsRow_nil _ _ _ _, HB6.out⟩
    | ok l =>
      obtain ⟨rfl, ⟨p, vn, vs, HR5⟩, hb⟩ := hT
      have HRun := Lib.hid hRun
      have HC5 := Lib.hid (HCc.out.below hb.out HLE.out)
      have HB5 := Lib.hid (HBw.out.trans (hb.out.mono (by have := HLE.out; omega)))
      obtain ⟨an, cn, rfl, -⟩ := own_form HR5.out.nodes
      have hc7 := HR5.out.at0.cell 7 _ rfl
      have c1 := HC5.out.ls.cell 0 _ rfl
      have c2 := HC5.out.at_.cell 0 _ rfl
      have c3 := HC5.out.er.cell 0 _ rfl
      have f1 := HC5.out.ls.froz 0 (by simp)
      have f2 := HC5.out.at_.froz 0 (by simp)
      have f3 := HC5.out.er.froz 0 (by simp)
      clear hRun hb
      go_wp2_with fail
      obtain ⟨wz, hwz⟩ : ∃ wz, (((w5.setCell ⟨B + 1, 0, none⟩ (.slice an l.length cn)).setCell ⟨B + 1 + 1, 0, none⟩ (.int .i64 0)).setCell ⟨B + 1 + 1 + 1, 0, none⟩ (.int .i64 0)) = wz := ⟨_, rfl⟩
      have z1 : wz.cell? ⟨B + 1, 0, none⟩ = some (.slice an l.length cn) := by rw [← hwz]; simp [go_sem, c1, c2, c3]
      have z2 : wz.cell? ⟨B + 1 + 1, 0, none⟩ = some (.int .i64 0) := by rw [← hwz]; simp [go_sem, c1, c2, c3]
      have z3 : wz.cell? ⟨B + 1 + 1 + 1, 0, none⟩ = some (.int .i64 0) := by rw [← hwz]; simp [go_sem, c1, c2, c3]
      have HBz : Hid (Below B w wz) := by
        rw [← hwz]
        exact ((HB5.out.setCell (p := ⟨B + 1, 0, none⟩) (by show B ≤ B + 1; omega) _).setCell (p := ⟨B + 1 + 1, 0, none⟩) (by show B ≤ B + 1 + 1; omega) _).setCell (p := ⟨B + 1 + 1 + 1, 0, none⟩) (by show B ≤ B + 1 + 1 + 1; omega) _
      have HOz : Hid (wz.ownsRow B 63 3 (.slice an l.length cn) l.length (ncells l)) := by
        rw [← hwz]
        have hle := HLE.out
        exact own_base (ownsRow_setCell_below (ownsRow_setCell_below (ownsRow_setCell_below HR5.out.nodes (by show B + 1 < R + 1; omega) _) (by show B + 1 + 1 < R + 1; omega) _) (by show B + 1 + 1 + 1 < R + 1; omega) _) (by omega)
      rw [hwz]
      clear hwz c1 c2 c3 f1 f2 f3 hc7
      refine leaves_cons (f := 29) (args := #[.pointer (some ⟨B + 1, 0, none⟩), .pointer (some ⟨B + 1 + 1, 0, none⟩), .pointer (some ⟨B + 1 + 1 + 1, 0, none⟩)]) (by simp) (by simp [go_sem]) ?_
      refine (catch_idle (B + 1) (B + 1 + 1) (B + 1 + 1 + 1) _).mono ?_
      rintro e u w6 ⟨rfl, rfl, rfl⟩
      simp [bodyPostD, Leaves, settle, results, Tryd.results14, go_sem, z1, z2, z3]
      obtain rfl := HBB.out
      exact ⟨.ok l, ⟨fun _ => HRun.out, fun h => (by rw [HM.out] at h; cases h)⟩, _, rfl, HOz.out, HBz.out⟩
theorem decode_any (s : ByteArray) (d i b ro : Int) (w : World) (hz : s.size ≤ 140737488351232) (hU : UT w.heap.size w) :
    Calls Tryd.prog 14 #[.string s, .agg #[.int .i64 d, .int .i64 i, .int .i64 b, .int .i64 ro]] w (RetDec s d i b ro w) := by
  cases hm : mayOk d i b ro
  · exact decode_no s d i b ro w hm
  · exact decode_yes s d i b ro w hm hz hU
end Go.Proofs.YteglahkgnggmgaaDoor
