import Derived.Test.YtikgonlhdkknkaaGreatDoorCuM
import Derived.Test.YtikgonlhdkknkaaGreatDoorCuJ
set_option maxRecDepth 100000
set_option maxHeartbeats 1600000
set_option linter.unusedVariables false
set_option linter.unusedSimpArgs false
open Go.Lib (hid)
namespace Go.Proofs.YtikgonlhdkknkaaGreatDoor
open Go.RowKit
namespace Co
open Dr (Rs Lm has lack at0S lackE lackP)
def rg11 (s : ByteArray) (L : Lm) (ro : Int) (er : Int) (pl tk fr : Nat) (en : Bool) : List Value :=
 [.string s, .int .i64 (L.depth : Int), .int .i64 (L.items : Int), .int .i64 (L.bytes : Int), .int .i64 ro, .slice none 0 0, .int .i64 er, .int .i64 (pl : Int), .int .i64 (tk : Int), .int .i64 (fr : Int), .bool en]
theorem results_tc {P : Program} {w : World} {fn : Func} {p u : Tmp} {ty : TypeId} (h : fn.results = #[.tmp u, .cell p ty]) (tmps : Array Value) (g : Nat) (cs : List Value) (d : TypeDesc)
  (hp : tmps.getD p undef = .pointer (some ⟨g, 0, none⟩)) (hg : At w g 0 cs) (hu : P.underlying ty = some d) (hd : d.isRow = true) (hi : (P.info? ty).map (·.size) = some cs.length) (v : Value) (hv : tmps.getD u undef = v) :
  (results fn tmps).run P w = .ok (.tuple #[v, .agg cs.toArray]) w := by
 subst hv
 have hp' : tmps[p]?.getD undef = .pointer (some ⟨g, 0, none⟩) := by simpa using hp
 simp [results, h, hp', asAddr, run_loadVar_mid w g 0 ty cs d hg.range hu hd hi, Result.andThen]
def RetRead (s : ByteArray) (L : Lm) (ro : Int) (w : World) (e : Ending) (w' : World) : Prop :=
 (∃ l v tk fr, RunsG s.toList L (.el [] [] 0) (.ok l) ∧ e = .returned (.tuple #[v, .agg (rg11 s L ro 0 0 tk fr false).toArray]) ∧ Hid (w'.ownsRow (w.heap.size + 1) 60 3 v l.length (rcells (l.map up))) ∧ Hid (Below w.heap.size w w')) ∨
 (∃ c q b tk fr, RunsG s.toList L (.el [] [] 0) (.no c q b) ∧ e = .returned (.tuple #[.slice none 0 0, .agg (rg11 s L ro c q tk fr b).toArray]) ∧ Hid (Below w.heap.size w w'))
def zr11 : List Value := [.string ⟨#[]⟩, .int .i64 0, .int .i64 0, .int .i64 0, .int .i64 0, .slice none 0 0, .int .i64 0, .int .i64 0, .int .i64 0, .int .i64 0, .bool false]
theorem fill11 {w : World} {T : Nat} (h : At w T 0 zr11) (v0 v1 v2 v3 v4 v5 v6 v7 v8 v9 v10 : Value) : At (((((((((((w.setCell ⟨T, 0, none⟩ v0).setCell ⟨T, 1, none⟩ v1).setCell ⟨T, 2, none⟩ v2).setCell ⟨T, 3, none⟩ v3).setCell ⟨T, 4, none⟩ v4).setCell ⟨T, 5, none⟩ v5).setCell ⟨T, 6, none⟩ v6).setCell ⟨T, 7, none⟩ v7).setCell ⟨T, 8, none⟩ v8).setCell ⟨T, 9, none⟩ v9).setCell ⟨T, 10, none⟩ v10) T 0 [v0, v1, v2, v3, v4, v5, v6, v7, v8, v9, v10] := (((((((((((h.set 0 v0).set 1 v1).set 2 v2).set 3 v3).set 4 v4).set 5 v5).set 6 v6).set 7 v7).set 8 v8).set 9 v9).set 10 v10)
theorem below11 {w0 w : World} {T B : Nat} (hb : Below B w0 w) (hT : B ≤ T) (v0 v1 v2 v3 v4 v5 v6 v7 v8 v9 v10 : Value) : Below B w0 (((((((((((w.setCell ⟨T, 0, none⟩ v0).setCell ⟨T, 1, none⟩ v1).setCell ⟨T, 2, none⟩ v2).setCell ⟨T, 3, none⟩ v3).setCell ⟨T, 4, none⟩ v4).setCell ⟨T, 5, none⟩ v5).setCell ⟨T, 6, none⟩ v6).setCell ⟨T, 7, none⟩ v7).setCell ⟨T, 8, none⟩ v8).setCell ⟨T, 9, none⟩ v9).setCell ⟨T, 10, none⟩ v10) := (((((((((((hb.setCell (p := ⟨T, 0, none⟩) hT v0).setCell (p := ⟨T, 1, none⟩) hT v1).setCell (p := ⟨T, 2, none⟩) hT v2).setCell (p := ⟨T, 3, none⟩) hT v3).setCell (p := ⟨T, 4, none⟩) hT v4).setCell (p := ⟨T, 5, none⟩) hT v5).setCell (p := ⟨T, 6, none⟩) hT v6).setCell (p := ⟨T, 7, none⟩) hT v7).setCell (p := ⟨T, 8, none⟩) hT v8).setCell (p := ⟨T, 9, none⟩) hT v9).setCell (p := ⟨T, 10, none⟩) hT v10)
theorem own11 {w : World} {T B e z n : Nat} {v : Value} {xs : List Value} (h : w.ownsRow B e z v n xs) (hT : T < B) (v0 v1 v2 v3 v4 v5 v6 v7 v8 v9 v10 : Value) : World.ownsRow (((((((((((w.setCell ⟨T, 0, none⟩ v0).setCell ⟨T, 1, none⟩ v1).setCell ⟨T, 2, none⟩ v2).setCell ⟨T, 3, none⟩ v3).setCell ⟨T, 4, none⟩ v4).setCell ⟨T, 5, none⟩ v5).setCell ⟨T, 6, none⟩ v6).setCell ⟨T, 7, none⟩ v7).setCell ⟨T, 8, none⟩ v8).setCell ⟨T, 9, none⟩ v9).setCell ⟨T, 10, none⟩ v10) B e z v n xs := (ownsRow_setCell_below (ownsRow_setCell_below (ownsRow_setCell_below (ownsRow_setCell_below (ownsRow_setCell_below (ownsRow_setCell_below (ownsRow_setCell_below (ownsRow_setCell_below (ownsRow_setCell_below (ownsRow_setCell_below (ownsRow_setCell_below h hT v0) hT v1) hT v2) hT v3) hT v4) hT v5) hT v6) hT v7) hT v8) hT v9) hT v10)
theorem rread_any (s : ByteArray) (L : Lm) (d i b ro : Int) (hd : (L.depth : Int) = d) (hi : (L.items : Int) = i) (hb : (L.bytes : Int) = b) (hLi : L.items ≤ 4096) (hLd : L.depth ≤ 32) (hz : s.size ≤ 140737488351232) (w : World) :
  Calls Tryz.prog 40 #[.string s, .agg #[.int .i64 d, .int .i64 i, .int .i64 b, .int .i64 ro]] w (RetRead s L ro w) := by
 subst hd hi hb
 obtain ⟨w0, hw0⟩ : ∃ x, ((w.alloc (Obj.cells #[Value.int .i64 (L.depth : Int), Value.int .i64 (L.items : Int), Value.int .i64 (L.bytes : Int), Value.int .i64 ro] 23)).alloc (Obj.cells #[Value.string ⟨#[]⟩, Value.int .i64 0, Value.int .i64 0, Value.int .i64 0, Value.int .i64 0, Value.slice none 0 0, Value.int .i64 0, Value.int .i64 0, Value.int .i64 0, Value.int .i64 0, Value.bool false] 93)).alloc (Obj.cells #[Value.string s, Value.int .i64 (L.depth : Int), Value.int .i64 (L.items : Int), Value.int .i64 (L.bytes : Int), Value.int .i64 ro, Value.slice none 0 0, Value.int .i64 0, Value.int .i64 0, Value.int .i64 0, Value.int .i64 0, Value.bool false, Value.slice none 0 0] 125) = x := ⟨_, rfl⟩
 obtain ⟨T, hT⟩ : ∃ T, w.heap.size + 1 = T := ⟨_, rfl⟩
 have HB0 : Hid (Below w.heap.size w w0) := by
  rw [← hw0]
  exact (((Below.refl _ _).alloc (nle _) _).alloc (by simp) _).alloc (by simp; omega) _
 have HT0 : Hid (At w0 T 0 zr11 ∧ T < T + 1 ∧ w.heap.size < T) := by
  refine ⟨?_, by omega, by omega⟩
  rw [← hw0, ← hT]
  have h := (At.ofAlloc (w.alloc (Obj.cells #[Value.int .i64 (L.depth : Int), Value.int .i64 (L.items : Int), Value.int .i64 (L.bytes : Int), Value.int .i64 ro] 23)) #[Value.string ⟨#[]⟩, Value.int .i64 0, Value.int .i64 0, Value.int .i64 0, Value.int .i64 0, Value.slice none 0 0, Value.int .i64 0, Value.int .i64 0, Value.int .i64 0, Value.int .i64 0, Value.bool false] 93).alloc (Obj.cells #[Value.string s, Value.int .i64 (L.depth : Int), Value.int .i64 (L.items : Int), Value.int .i64 (L.bytes : Int), Value.int .i64 ro, Value.slice none 0 0, Value.int .i64 0, Value.int .i64 0, Value.int .i64 0, Value.int .i64 0, Value.bool false, Value.slice none 0 0] 125)
  rw [show (w.alloc (Obj.cells #[Value.int .i64 (L.depth : Int), Value.int .i64 (L.items : Int), Value.int .i64 (L.bytes : Int), Value.int .i64 ro] 23)).heap.size = w.heap.size + 1 by simp] at h
  exact h
 have HQ0 : Hid (Gok w0 (T + 1) s L ro [] 0) := by
  refine ⟨.slice none 0 0, 0, ?_, World.ownsRow_nil _ _ _ _, by rw [← hw0, ← hT]; simp⟩
  rw [← hw0, ← hT]
  have h := At.ofAlloc ((w.alloc (Obj.cells #[Value.int .i64 (L.depth : Int), Value.int .i64 (L.items : Int), Value.int .i64 (L.bytes : Int), Value.int .i64 ro] 23)).alloc (Obj.cells #[Value.string ⟨#[]⟩, Value.int .i64 0, Value.int .i64 0, Value.int .i64 0, Value.int .i64 0, Value.slice none 0 0, Value.int .i64 0, Value.int .i64 0, Value.int .i64 0, Value.int .i64 0, Value.bool false] 93)) #[Value.string s, Value.int .i64 (L.depth : Int), Value.int .i64 (L.items : Int), Value.int .i64 (L.bytes : Int), Value.int .i64 ro, Value.slice none 0 0, Value.int .i64 0, Value.int .i64 0, Value.int .i64 0, Value.int .i64 0, Value.bool false, Value.slice none 0 0] 125
  rw [show ((w.alloc (Obj.cells #[Value.int .i64 (L.depth : Int), Value.int .i64 (L.items : Int), Value.int .i64 (L.bytes : Int), Value.int .i64 ro] 23)).alloc (Obj.cells #[Value.string ⟨#[]⟩, Value.int .i64 0, Value.int .i64 0, Value.int .i64 0, Value.int .i64 0, Value.slice none 0 0, Value.int .i64 0, Value.int .i64 0, Value.int .i64 0, Value.int .i64 0, Value.bool false] 93)).heap.size = w.heap.size + 1 + 1 by simp] at h
  exact h
 have EL := hid (item_all s L ro (T + 1) hz hLi hLd (s.size + 1))
 have HZ := hid hz
 have HTT := hid hT
 clear hLi hLd hz
 go_enter Tryz.func40, Tryz.ntmps40
 go_wp2_with fail
 try rw [hw0]
 try rw [hT]
 clear hw0 hT
 obtain ⟨g, hg⟩ : ∃ g, T + 1 = g := ⟨_, rfl⟩
 have HG := hid hg
 rw [hg] at EL HQ0 HT0
 try rw [hg]
 clear hg
 refine (EL.out _ [] [] [] 0 0 (by omega) HQ0.out rfl (Nat.zero_le _) (by simp) rfl).mono ?_
 rintro e w1 (⟨N, q, ⟨rfl, HQ1, HB1⟩, h4, h5, h6⟩ | ⟨c, x, b2, ⟨rfl, HQ1, HB1⟩, h6⟩)
 ·have hfin : RunsG s.toList L (.el [] [] 0) (fin s.toList L N q) := h6 _ (Runs.pend (s := .loop [] N q) rfl Runs.fin)
  have HBw : Hid (Below w.heap.size w w1) := HB0.out.trans (HB1.out.mono (by have := HG.out; have := HTT.out; omega))
  have hwg : Hid (w.heap.size ≤ g ∧ T < g ∧ w.heap.size + 1 ≤ g + 1) := by have h8 := HG.out; have h9 := HTT.out; exact ⟨by omega, by omega, by omega⟩
  by_cases h1 : q < s.size
  ·have e1 : (q : Int) < (s.size : Int) := by omega
   rw [fin, if_pos (by rw [tl_size]; exact h1)] at hfin
   by_cases h2 : q < L.bytes
   ·rw [if_pos (has_yes s L q ⟨h1, h2⟩)] at hfin
    have HRR := hid hfin
    have W := hid (gwant_yes HQ1.out (q : Int) q rfl h1 h2 HZ.out)
    clear h4 h5 h6 hfin h1 h2
    go_wp2_with (first
     | (go_at_call 61; refine W.out.mono ?_; rintro e w2 ⟨rfl, HQ2, HB2⟩)
     | (go_at_call 62; refine (gfault17_ok HQ2.out _ _ q rfl).mono ?_; rintro e w3 ⟨rfl, HQ3, HB3⟩; have HBx : Hid (Below w.heap.size w w3) := (HBw.out.trans (HB2.out.mono hwg.out.1)).trans (HB3.out.mono hwg.out.1); have HTx : Hid (At w3 T 0 zr11) := ((HT0.out.1.below HB1.out HT0.out.2.1).below HB2.out HT0.out.2.1).below HB3.out HT0.out.2.1; obtain ⟨O, vo, tk, fr, HR0⟩ := HQ3.out; have HR9 := hid HR0; have HR := HR9.out; have HT := HTx.out; have k0 := HR.at0.cell 0 _ rfl; have k1 := HR.at0.cell 1 _ rfl; have k2 := HR.at0.cell 2 _ rfl; have k3 := HR.at0.cell 3 _ rfl; have k4 := HR.at0.cell 4 _ rfl; have k5 := HR.at0.cell 5 _ rfl; have k6 := HR.at0.cell 6 _ rfl; have k7 := HR.at0.cell 7 _ rfl; have k8 := HR.at0.cell 8 _ rfl; have k9 := HR.at0.cell 9 _ rfl; have k10 := HR.at0.cell 10 _ rfl; have k11 := HR.at0.cell 11 _ rfl; have t0 := HT.cell 0 _ rfl; have f0 := HT.froz 0 (Nat.le_of_ble_eq_true rfl); have t1 := HT.cell 1 _ rfl; have f1 := HT.froz 1 (Nat.le_of_ble_eq_true rfl); have t2 := HT.cell 2 _ rfl; have f2 := HT.froz 2 (Nat.le_of_ble_eq_true rfl); have t3 := HT.cell 3 _ rfl; have f3 := HT.froz 3 (Nat.le_of_ble_eq_true rfl); have t4 := HT.cell 4 _ rfl; have f4 := HT.froz 4 (Nat.le_of_ble_eq_true rfl); have t5 := HT.cell 5 _ rfl; have f5 := HT.froz 5 (Nat.le_of_ble_eq_true rfl); have t6 := HT.cell 6 _ rfl; have f6 := HT.froz 6 (Nat.le_of_ble_eq_true rfl); have t7 := HT.cell 7 _ rfl; have f7 := HT.froz 7 (Nat.le_of_ble_eq_true rfl); have t8 := HT.cell 8 _ rfl; have f8 := HT.froz 8 (Nat.le_of_ble_eq_true rfl); have t9 := HT.cell 9 _ rfl; have f9 := HT.froz 9 (Nat.le_of_ble_eq_true rfl); have t10 := HT.cell 10 _ rfl; have f10 := HT.froz 10 (Nat.le_of_ble_eq_true rfl); have hgT : g ≠ T := (by have := HG.out; omega); clear HR HT HR0))
    go_region
    all_goals
     go_wp2_with fail
     (try simp only [Exit.inBlock, Exit.then])
     refine bodyPost_ret (results_tc rfl _ T (rg11 s L ro 9 q tk fr false) _ rfl ((fill11 HTx.out _ _ _ _ _ _ _ _ _ _ _).drewN 1) Tryz.underlying93 rfl (by kernel_rfl) _ rfl) rfl ?_
     exact .inr ⟨9, q, false, tk, fr, HRR.out, rfl, (below11 HBx.out (Nat.le_of_lt HT0.out.2.2) _ _ _ _ _ _ _ _ _ _ _).drew⟩
   ·rw [if_neg (by rw [has_no s L q (fun h => h2 h.2)]; decide)] at hfin
    have HRR := hid hfin
    have W := hid (gwant_no HQ1.out (q : Int) q rfl (fun h => h2 h.2))
    have hl0 : ¬ lackE s.toList L = 0 := by rw [lackE]; split <;> decide
    obtain ⟨le, hle⟩ : ∃ x, lackE s.toList L = x := ⟨_, rfl⟩
    rw [glack_eq] at HRR
    rw [hle] at W hl0 HRR
    obtain ⟨lp, hlp⟩ : ∃ x, lackP s.toList L = x := ⟨_, rfl⟩
    obtain ⟨lb, hlb⟩ : ∃ x, decide (s.toList.length ≤ L.bytes) = x := ⟨_, rfl⟩
    rw [hlp, hlb] at W HRR
    clear h4 h5 h6 hfin h1 h2 hle hlp hlb
    go_wp2_with (first
     | (go_at_call 61; refine W.out.mono ?_; rintro e w2 ⟨rfl, HQ2, HB2⟩; have HBx : Hid (Below w.heap.size w w2) := HBw.out.trans (HB2.out.mono hwg.out.1); have HTx : Hid (At w2 T 0 zr11) := (HT0.out.1.below HB1.out HT0.out.2.1).below HB2.out HT0.out.2.1; obtain ⟨O, vo, tk, fr, HR0⟩ := HQ2.out; have HR9 := hid HR0; have HR := HR9.out; have HT := HTx.out; have k0 := HR.at0.cell 0 _ rfl; have k1 := HR.at0.cell 1 _ rfl; have k2 := HR.at0.cell 2 _ rfl; have k3 := HR.at0.cell 3 _ rfl; have k4 := HR.at0.cell 4 _ rfl; have k5 := HR.at0.cell 5 _ rfl; have k6 := HR.at0.cell 6 _ rfl; have k7 := HR.at0.cell 7 _ rfl; have k8 := HR.at0.cell 8 _ rfl; have k9 := HR.at0.cell 9 _ rfl; have k10 := HR.at0.cell 10 _ rfl; have k11 := HR.at0.cell 11 _ rfl; have t0 := HT.cell 0 _ rfl; have f0 := HT.froz 0 (Nat.le_of_ble_eq_true rfl); have t1 := HT.cell 1 _ rfl; have f1 := HT.froz 1 (Nat.le_of_ble_eq_true rfl); have t2 := HT.cell 2 _ rfl; have f2 := HT.froz 2 (Nat.le_of_ble_eq_true rfl); have t3 := HT.cell 3 _ rfl; have f3 := HT.froz 3 (Nat.le_of_ble_eq_true rfl); have t4 := HT.cell 4 _ rfl; have f4 := HT.froz 4 (Nat.le_of_ble_eq_true rfl); have t5 := HT.cell 5 _ rfl; have f5 := HT.froz 5 (Nat.le_of_ble_eq_true rfl); have t6 := HT.cell 6 _ rfl; have f6 := HT.froz 6 (Nat.le_of_ble_eq_true rfl); have t7 := HT.cell 7 _ rfl; have f7 := HT.froz 7 (Nat.le_of_ble_eq_true rfl); have t8 := HT.cell 8 _ rfl; have f8 := HT.froz 8 (Nat.le_of_ble_eq_true rfl); have t9 := HT.cell 9 _ rfl; have f9 := HT.froz 9 (Nat.le_of_ble_eq_true rfl); have t10 := HT.cell 10 _ rfl; have f10 := HT.froz 10 (Nat.le_of_ble_eq_true rfl); have hgT : g ≠ T := (by have := HG.out; omega); clear HR HT HR0))
    go_region
    all_goals
     go_wp2_with fail
     (try simp only [Exit.inBlock, Exit.then])
     refine bodyPost_ret (results_tc rfl _ T (rg11 s L ro le lp tk fr lb) _ rfl ((fill11 HTx.out _ _ _ _ _ _ _ _ _ _ _).drewN 1) Tryz.underlying93 rfl (by kernel_rfl) _ rfl) rfl ?_
     exact .inr ⟨le, lp, lb, tk, fr, HRR.out, rfl, (below11 HBx.out (Nat.le_of_lt HT0.out.2.2) _ _ _ _ _ _ _ _ _ _ _).drew⟩
  ·have e1 : ¬ (q : Int) < (s.size : Int) := by omega
   have e1b : decide ((q : Int) < (s.size : Int)) = false := dfa e1
   rw [fin, if_neg (by rw [tl_size]; exact h1)] at hfin
   have HRR := hid hfin
   have HTx : Hid (At w1 T 0 zr11) := HT0.out.1.below HB1.out HT0.out.2.1
   obtain ⟨vo, tk, HR0⟩ := HQ1.out
   have HR9 := hid HR0
   have HR := HR9.out
   have HT := HTx.out
   have k0 := HR.at0.cell 0 _ rfl
   have k1 := HR.at0.cell 1 _ rfl
   have k2 := HR.at0.cell 2 _ rfl
   have k3 := HR.at0.cell 3 _ rfl
   have k4 := HR.at0.cell 4 _ rfl
   have k5 := HR.at0.cell 5 _ rfl
   have k6 := HR.at0.cell 6 _ rfl
   have k7 := HR.at0.cell 7 _ rfl
   have k8 := HR.at0.cell 8 _ rfl
   have k9 := HR.at0.cell 9 _ rfl
   have k10 := HR.at0.cell 10 _ rfl
   have k11 := HR.at0.cell 11 _ rfl
   have t0 := HT.cell 0 _ rfl
   have f0 := HT.froz 0 (Nat.le_of_ble_eq_true rfl)
   have t1 := HT.cell 1 _ rfl
   have f1 := HT.froz 1 (Nat.le_of_ble_eq_true rfl)
   have t2 := HT.cell 2 _ rfl
   have f2 := HT.froz 2 (Nat.le_of_ble_eq_true rfl)
   have t3 := HT.cell 3 _ rfl
   have f3 := HT.froz 3 (Nat.le_of_ble_eq_true rfl)
   have t4 := HT.cell 4 _ rfl
   have f4 := HT.froz 4 (Nat.le_of_ble_eq_true rfl)
   have t5 := HT.cell 5 _ rfl
   have f5 := HT.froz 5 (Nat.le_of_ble_eq_true rfl)
   have t6 := HT.cell 6 _ rfl
   have f6 := HT.froz 6 (Nat.le_of_ble_eq_true rfl)
   have t7 := HT.cell 7 _ rfl
   have f7 := HT.froz 7 (Nat.le_of_ble_eq_true rfl)
   have t8 := HT.cell 8 _ rfl
   have f8 := HT.froz 8 (Nat.le_of_ble_eq_true rfl)
   have t9 := HT.cell 9 _ rfl
   have f9 := HT.froz 9 (Nat.le_of_ble_eq_true rfl)
   have t10 := HT.cell 10 _ rfl
   have f10 := HT.froz 10 (Nat.le_of_ble_eq_true rfl)
   have hgT : g ≠ T := (by have := HG.out; omega)
   clear HR HT HR0 h4 h5 h6 hfin h1
   go_wp2_with fail
   go_region
   all_goals
    go_wp2_with fail
    (try simp only [Exit.inBlock, Exit.then])
    refine bodyPost_ret (results_tc rfl _ T (rg11 s L ro 0 0 tk ([] : List Fr).length false) _ rfl ((fill11 HTx.out _ _ _ _ _ _ _ _ _ _ _).drewN 1) Tryz.underlying93 rfl (by kernel_rfl) _ rfl) rfl ?_
    exact .inl ⟨N, vo, tk, 0, HRR.out, rfl, own_base (own_drewN (own11 HR9.out.out (Nat.lt_succ_of_lt hwg.out.2.1) _ _ _ _ _ _ _ _ _ _ _) 1) hwg.out.2.2, (below11 HBw.out (Nat.le_of_lt HT0.out.2.2) _ _ _ _ _ _ _ _ _ _ _).drew⟩
 ·have hc : ¬ c = 0 := Runs.ne h6 _ _ _ rfl
  have HRR := hid h6
  have HBw : Hid (Below w.heap.size w w1) := HB0.out.trans (HB1.out.mono (by have := HG.out; have := HTT.out; omega))
  have HTx : Hid (At w1 T 0 zr11) := HT0.out.1.below HB1.out HT0.out.2.1
  obtain ⟨O, vo, tk, fr, HR0⟩ := HQ1.out
  have HR9 := hid HR0
  have HR := HR9.out
  have HT := HTx.out
  have k0 := HR.at0.cell 0 _ rfl
  have k1 := HR.at0.cell 1 _ rfl
  have k2 := HR.at0.cell 2 _ rfl
  have k3 := HR.at0.cell 3 _ rfl
  have k4 := HR.at0.cell 4 _ rfl
  have k5 := HR.at0.cell 5 _ rfl
  have k6 := HR.at0.cell 6 _ rfl
  have k7 := HR.at0.cell 7 _ rfl
  have k8 := HR.at0.cell 8 _ rfl
  have k9 := HR.at0.cell 9 _ rfl
  have k10 := HR.at0.cell 10 _ rfl
  have k11 := HR.at0.cell 11 _ rfl
  have t0 := HT.cell 0 _ rfl
  have f0 := HT.froz 0 (Nat.le_of_ble_eq_true rfl)
  have t1 := HT.cell 1 _ rfl
  have f1 := HT.froz 1 (Nat.le_of_ble_eq_true rfl)
  have t2 := HT.cell 2 _ rfl
  have f2 := HT.froz 2 (Nat.le_of_ble_eq_true rfl)
  have t3 := HT.cell 3 _ rfl
  have f3 := HT.froz 3 (Nat.le_of_ble_eq_true rfl)
  have t4 := HT.cell 4 _ rfl
  have f4 := HT.froz 4 (Nat.le_of_ble_eq_true rfl)
  have t5 := HT.cell 5 _ rfl
  have f5 := HT.froz 5 (Nat.le_of_ble_eq_true rfl)
  have t6 := HT.cell 6 _ rfl
  have f6 := HT.froz 6 (Nat.le_of_ble_eq_true rfl)
  have t7 := HT.cell 7 _ rfl
  have f7 := HT.froz 7 (Nat.le_of_ble_eq_true rfl)
  have t8 := HT.cell 8 _ rfl
  have f8 := HT.froz 8 (Nat.le_of_ble_eq_true rfl)
  have t9 := HT.cell 9 _ rfl
  have f9 := HT.froz 9 (Nat.le_of_ble_eq_true rfl)
  have t10 := HT.cell 10 _ rfl
  have f10 := HT.froz 10 (Nat.le_of_ble_eq_true rfl)
  have hgT : g ≠ T := (by have := HG.out; omega)
  clear HR HT h6 HR0
  go_wp2_with fail
  go_region
  all_goals
   go_wp2_with fail
   (try simp only [Exit.inBlock, Exit.then])
   refine bodyPost_ret (results_tc rfl _ T (rg11 s L ro c x tk fr b2) _ rfl ((fill11 HTx.out _ _ _ _ _ _ _ _ _ _ _).drewN 1) Tryz.underlying93 rfl (by kernel_rfl) _ rfl) rfl ?_
   exact .inr ⟨c, x, b2, tk, fr, HRR.out, rfl, (below11 HBw.out (Nat.le_of_lt HT0.out.2.2) _ _ _ _ _ _ _ _ _ _ _).drew⟩
theorem rdecode_any (s : ByteArray) (d i b ro : Int) (w : World) (hz : s.size ≤ 140737488351232) :
  Calls Tryz.prog 20 #[.string s, .agg #[.int .i64 d, .int .i64 i, .int .i64 b, .int .i64 ro]] w (RetDec s d i b ro w) := by
 have M := hid (fun w => rmay_any d i b ro w)
 have HL := hid (Lm4.ofAlloc w d i b ro)
 have HB0 : Hid (Below w.heap.size w (w.alloc (Obj.cells #[.int .i64 d, .int .i64 i, .int .i64 b, .int .i64 ro] 23))) := (Below.refl _ _).alloc (nle _) _
 cases hm : mayOk d i b ro with
 | false =>
  rw [hm] at M
  have HM := hid hm
  clear hm hz
  go_enter Tryz.func20, Tryz.ntmps20
  go_wp2_with (first | (go_at_call 39; refine (M.out _).mono ?_; rintro e w1 ⟨rfl, hb1⟩))
  go_ret3
  exact ⟨.no 2 0 false, ⟨fun h => (by rw [HM.out] at h; cases h), fun _ => rfl⟩, _, rfl, World.ownsRow_nil _ _ _ _, HB0.out.trans (hb1.mono HB0.out.size)⟩
 | true =>
  rw [hm] at M
  have HM := hid hm
  have hy := mayOk_yes hm
  have RD := hid (fun w' => rread_any s (limL d i b) d i b ro (by show ((d.toNat : Nat) : Int) = d; omega) (by show ((i.toNat : Nat) : Int) = i; omega) (by show ((b.toNat : Nat) : Int) = b; omega) (by show i.toNat ≤ 4096; omega) (by show d.toNat ≤ 32; omega) hz w')
  obtain ⟨B, hB⟩ : ∃ B, w.heap.size = B := ⟨_, rfl⟩
  rw [hB] at HL
  have HBB := hid hB
  clear hm hz hy
  go_enter Tryz.func20, Tryz.ntmps20
  go_wp2_with fail
  try rw [hB]
  clear hB
  obtain ⟨w0, hw0⟩ : ∃ x, w.alloc (Obj.cells #[.int .i64 d, .int .i64 i, .int .i64 b, .int .i64 ro] 23) = x := ⟨_, rfl⟩
  rw [hw0] at HL HB0
  rw [hw0]
  clear hw0
  refine (M.out _).mono ?_
  rintro e w1 ⟨rfl, hb1⟩
  have HB1 : Hid (Below w.heap.size w w1) := HB0.out.trans (hb1.mono HB0.out.size)
  have HL1 := hid (HL.out.below hb1)
  clear hb1
  obtain ⟨l0, l1, l2, l3⟩ := HL1.out.at0.c4
  go_wp2_with fail
  refine (RD.out _).mono ?_
  rintro e w2 (⟨l, v, tk, fr, hr, rfl, ho, hb2⟩ | ⟨c, q, bb, tk, fr, hr, rfl, hb2⟩)
  ·have HB2 : Hid (Below w.heap.size w w2) := HB1.out.trans (hb2.out.mono HB1.out.size)
   have HO : Hid (w2.ownsRow (w.heap.size + 1) 60 3 v l.length (rcells (l.map up))) := own_base ho.out (Nat.succ_le_succ HB1.out.size)
   have HR := hid hr
   unfold rg11
   clear l0 l1 l2 l3 hb2 hr ho
   go_wp2_with fail
   go_quiet (fail)
   go_wp2_with fail
   go_ret3
   exact ⟨.ok l, ⟨fun _ => HR.out, fun h => (by rw [HM.out] at h; cases h)⟩, _, rfl, own_base (own_drewN (HO.out.alloc _) _) (Nat.le_succ _), (HB2.out.alloc HB2.out.size _).trans (below_drewN _ _ _)⟩
  ·have HB2 : Hid (Below w.heap.size w w2) := HB1.out.trans (hb2.out.mono HB1.out.size)
   have HR := hid hr
   unfold rg11
   clear l0 l1 l2 l3 hb2 hr
   go_wp2_with fail
   go_quiet (fail)
   go_wp2_with fail
   go_ret3
   exact ⟨.no c q bb, ⟨fun _ => HR.out, fun h => (by rw [HM.out] at h; cases h)⟩, _, rfl, World.ownsRow_nil _ _ _ _, (HB2.out.alloc HB2.out.size _).trans (below_drewN _ _ _)⟩
end Co
end Go.Proofs.YtikgonlhdkknkaaGreatDoor
