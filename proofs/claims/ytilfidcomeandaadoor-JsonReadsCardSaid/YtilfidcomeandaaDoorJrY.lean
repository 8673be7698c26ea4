/- The document's Read of JSON. -/
import Derived.Test.YtilfidcomeandaaDoorJzE
namespace Go.Proofs.YtilfidcomeandaaDoor
open Go.RowKit
set_option linter.unusedVariables false
set_option linter.unusedSimpArgs false
namespace Jr
open Js
open Dr (Rs Lm has lack lackE lackP)
theorem own_base {w : World} {B B' e size n : Nat} {v : Value} {xs : List Value} (h : w.ownsRow B e size v n xs) (hB : B' ≤ B) : w.ownsRow B' e size v n xs := by
  refine ⟨h.1, ?_⟩
  rcases h.2 with h2 | ⟨k, cap, cur, h2, h3, h4⟩
  · exact .inl h2
  · exact .inr ⟨k, cap, cur, h2, Nat.le_trans hB h3, h4⟩
/-- the reader, handed back -/
def rg11 (s : ByteArray) (L : Lm) (ro : Int) (er : Int) (pl tk fr : Nat) (en : Bool) : List Value :=
  [.string s, .int .i64 (L.depth : Int), .int .i64 (L.items : Int), .int .i64 (L.bytes : Int), .int .i64 ro, .slice none 0 0, .int .i64 er, .int .i64 (pl : Int), .int .i64 (tk : Int), .int .i64 (fr : Int), .bool en]
theorem results_tc {P : Program} {w : World} {fn : Func} {p u : Tmp} {ty : TypeId} (h : fn.results = #[.tmp u, .cell p ty]) (tmps : Array Value) (g : Nat) (cs : List Value) (d : TypeDesc)
    (hp : tmps.getD p undef = .pointer (some ⟨g, 0, none⟩)) (hg : At w g 0 cs) (hu : P.underlying ty = some d) (hd : d.isRow = true) (hi : (P.info? ty).map (·.size) = some cs.length) (v : Value) (hv : tmps.getD u undef = v) :
    (results fn tmps).run P w = .ok (.tuple #[v, .agg cs.toArray]) w := by
  subst hv
  have hp' : tmps[p]?.getD undef = .pointer (some ⟨g, 0, none⟩) := by simpa using hp
  simp [results, h, hp', asAddr, run_loadVar_mid w g 0 ty cs d hg.range hu hd hi, Result.andThen]
def RetRead (s : ByteArray) (L : Lm) (ro : Int) (w : World) (e : Ending) (w' : World) : Prop :=
  (∃ l v tk fr, RunsT s.toList L st0 0 (.ok l) tk fr ∧ e = .returned (.tuple #[v, .agg (rg11 s L ro 0 0 tk fr false).toArray]) ∧ Hid (w'.ownsRow (w.heap.size + 1) 61 3 v l.length (vcells l)) ∧ Hid (Below w.heap.size w w')) ∨
  (∃ c q b tk fr, RunsT s.toList L st0 0 (.no c q b) tk fr ∧ e = .returned (.tuple #[.slice none 0 0, .agg (rg11 s L ro c q tk fr b).toArray]) ∧ Hid (Below w.heap.size w w'))
def zr11 : List Value := [.string ⟨#[]⟩, .int .i64 0, .int .i64 0, .int .i64 0, .int .i64 0, .slice none 0 0, .int .i64 0, .int .i64 0, .int .i64 0, .int .i64 0, .bool false]
theorem fill11 {w : World} {T : Nat} (h : At w T 0 zr11) (v0 v1 v2 v3 v4 v5 v6 v7 v8 v9 v10 : Value) : At (((((((((((w.setCell ⟨T, 0, none⟩ v0).setCell ⟨T, 1, none⟩ v1).setCell ⟨T, 2, none⟩ v2).setCell ⟨T, 3, none⟩ v3).setCell ⟨T, 4, none⟩ v4).setCell ⟨T, 5, none⟩ v5).setCell ⟨T, 6, none⟩ v6).setCell ⟨T, 7, none⟩ v7).setCell ⟨T, 8, none⟩ v8).setCell ⟨T, 9, none⟩ v9).setCell ⟨T, 10, none⟩ v10) T 0 [v0, v1, v2, v3, v4, v5, v6, v7, v8, v9, v10] := (((((((((((h.set 0 v0).set 1 v1).set 2 v2).set 3 v3).set 4 v4).set 5 v5).set 6 v6).set 7 v7).set 8 v8).set 9 v9).set 10 v10)
theorem below11 {w0 w : World} {T B : Nat} (hb : Below B w0 w) (hT : B ≤ T) (v0 v1 v2 v3 v4 v5 v6 v7 v8 v9 v10 : Value) : Below B w0 (((((((((((w.setCell ⟨T, 0, none⟩ v0).setCell ⟨T, 1, none⟩ v1).setCell ⟨T, 2, none⟩ v2).setCell ⟨T, 3, none⟩ v3).setCell ⟨T, 4, none⟩ v4).setCell ⟨T, 5, none⟩ v5).setCell ⟨T, 6, none⟩ v6).setCell ⟨T, 7, none⟩ v7).setCell ⟨T, 8, none⟩ v8).setCell ⟨T, 9, none⟩ v9).setCell ⟨T, 10, none⟩ v10) := (((((((((((hb.setCell (p := ⟨T, 0, none⟩) hT v0).setCell (p := ⟨T, 1, none⟩) hT v1).setCell (p := ⟨T, 2, none⟩) hT v2).setCell (p := ⟨T, 3, none⟩) hT v3).setCell (p := ⟨T, 4, none⟩) hT v4).setCell (p := ⟨T, 5, none⟩) hT v5).setCell (p := ⟨T, 6, none⟩) hT v6).setCell (p := ⟨T, 7, none⟩) hT v7).setCell (p := ⟨T, 8, none⟩) hT v8).setCell (p := ⟨T, 9, none⟩) hT v9).setCell (p := ⟨T, 10, none⟩) hT v10)
theorem own11 {w : World} {T B e z n : Nat} {v : Value} {xs : List Value} (h : w.ownsRow B e z v n xs) (hT : T < B) (v0 v1 v2 v3 v4 v5 v6 v7 v8 v9 v10 : Value) : World.ownsRow (((((((((((w.setCell ⟨T, 0, none⟩ v0).setCell ⟨T, 1, none⟩ v1).setCell ⟨T, 2, none⟩ v2).setCell ⟨T, 3, none⟩ v3).setCell ⟨T, 4, none⟩ v4).setCell ⟨T, 5, none⟩ v5).setCell ⟨T, 6, none⟩ v6).setCell ⟨T, 7, none⟩ v7).setCell ⟨T, 8, none⟩ v8).setCell ⟨T, 9, none⟩ v9).setCell ⟨T, 10, none⟩ v10) B e z v n xs := (ownsRow_setCell_below (ownsRow_setCell_below (ownsRow_setCell_below (ownsRow_setCell_below (ownsRow_setCell_below (ownsRow_setCell_below (ownsRow_setCell_below (ownsRow_setCell_below (ownsRow_setCell_below (ownsRow_setCell_below (ownsRow_setCell_below h hT v0) hT v1) hT v2) hT v3) hT v4) hT v5) hT v6) hT v7) hT v8) hT v9) hT v10)
set_option maxRecDepth 100000 in
set_option maxHeartbeats 6400000 in
theorem rread_any (s : ByteArray) (L : Lm) (d i b ro : Int) (hd : (L.depth : Int) = d) (hi : (L.items : Int) = i) (hb : (L.bytes : Int) = b) (hLi : L.items ≤ 4096) (hLd : L.depth ≤ 32) (hLb : L.bytes ≤ 262144) (hz : s.size ≤ 140737488351232) (w : World) :
    Calls Tryd.prog 27 #[.string s, .agg #[.int .i64 d, .int .i64 i, .int .i64 b, .int .i64 ro]] w (RetRead s L ro w) := by
  subst hd hi hb
  obtain ⟨w0, hw0⟩ : ∃ x, ((w.alloc (Obj.cells #[Value.int .i64 (L.depth : Int), Value.int .i64 (L.items : Int), Value.int .i64 (L.bytes : Int), Value.int .i64 ro] 23)).alloc (Obj.cells #[Value.string ⟨#[]⟩, Value.int .i64 0, Value.int .i64 0, Value.int .i64 0, Value.int .i64 0, Value.slice none 0 0, Value.int .i64 0, Value.int .i64 0, Value.int .i64 0, Value.int .i64 0, Value.bool false] 57)).alloc (Obj.cells #[Value.string s, Value.int .i64 (L.depth : Int), Value.int .i64 (L.items : Int), Value.int .i64 (L.bytes : Int), Value.int .i64 ro, Value.slice none 0 0, Value.int .i64 0, Value.int .i64 0, Value.int .i64 0, Value.int .i64 0, Value.bool false, Value.slice none 0 0] 83) = x := ⟨_, rfl⟩
  obtain ⟨T, hT⟩ : ∃ T, w.heap.size + 1 = T := ⟨_, rfl⟩
  have HB0 : Hid (Below w.heap.size w w0) := by
    rw [← hw0]
    exact (((Below.refl _ _).alloc (Nat.le_refl _) _).alloc (by simp) _).alloc (by simp; omega) _
  have HT0 : Hid (At w0 T 0 zr11 ∧ T < T + 1 ∧ w.heap.size < T) := by
    refine ⟨?_, by omega, by omega⟩
    rw [← hw0, ← hT]
    have h := (At.ofAlloc (w.alloc (Obj.cells #[Value.int .i64 (L.depth : Int), Value.int .i64 (L.items : Int), Value.int .i64 (L.bytes : Int), Value.int .i64 ro] 23)) #[Value.string ⟨#[]⟩, Value.int .i64 0, Value.int .i64 0, Value.int .i64 0, Value.int .i64 0, Value.slice none 0 0, Value.int .i64 0, Value.int .i64 0, Value.int .i64 0, Value.int .i64 0, Value.bool false] 57).alloc (Obj.cells #[Value.string s, Value.int .i64 (L.depth : Int), Value.int .i64 (L.items : Int), Value.int .i64 (L.bytes : Int), Value.int .i64 ro, Value.slice none 0 0, Value.int .i64 0, Value.int .i64 0, Value.int .i64 0, Value.int .i64 0, Value.bool false, Value.slice none 0 0] 83)
    rw [show (w.alloc (Obj.cells #[Value.int .i64 (L.depth : Int), Value.int .i64 (L.items : Int), Value.int .i64 (L.bytes : Int), Value.int .i64 ro] 23)).heap.size = w.heap.size + 1 by simp] at h
    exact h
  have HQ0 : Hid (Gok w0 (T + 1) s L ro [] 0 0) := by
    refine ⟨⟨.slice none 0 0, ?_, World.ownsRow_nil _ _ _ _, by rw [← hw0, ← hT]; simp⟩, Nat.zero_le _, Nat.zero_le _⟩
    rw [← hw0, ← hT]
    have h := At.ofAlloc ((w.alloc (Obj.cells #[Value.int .i64 (L.depth : Int), Value.int .i64 (L.items : Int), Value.int .i64 (L.bytes : Int), Value.int .i64 ro] 23)).alloc (Obj.cells #[Value.string ⟨#[]⟩, Value.int .i64 0, Value.int .i64 0, Value.int .i64 0, Value.int .i64 0, Value.slice none 0 0, Value.int .i64 0, Value.int .i64 0, Value.int .i64 0, Value.int .i64 0, Value.bool false] 57)) #[Value.string s, Value.int .i64 (L.depth : Int), Value.int .i64 (L.items : Int), Value.int .i64 (L.bytes : Int), Value.int .i64 ro, Value.slice none 0 0, Value.int .i64 0, Value.int .i64 0, Value.int .i64 0, Value.int .i64 0, Value.bool false, Value.slice none 0 0] 83
    rw [show ((w.alloc (Obj.cells #[Value.int .i64 (L.depth : Int), Value.int .i64 (L.items : Int), Value.int .i64 (L.bytes : Int), Value.int .i64 ro] 23)).alloc (Obj.cells #[Value.string ⟨#[]⟩, Value.int .i64 0, Value.int .i64 0, Value.int .i64 0, Value.int .i64 0, Value.slice none 0 0, Value.int .i64 0, Value.int .i64 0, Value.int .i64 0, Value.int .i64 0, Value.bool false] 57)).heap.size = w.heap.size + 1 + 1 by simp] at h
    exact h
  have EL := Lib.hid (value_all (T + 1) s L ro hz hLb hLi hLd s.size)
  have HZ := Lib.hid hz
  have HTT := Lib.hid hT
  clear hLi hLd hz hLb
  go_enter Tryd.func27, Tryd.ntmps27
  go_wp2_with fail
  try rw [hw0]
  try rw [hT]
  clear hw0 hT
  obtain ⟨g, hg⟩ : ∃ g, T + 1 = g := ⟨_, rfl⟩
  have HG := Lib.hid hg
  rw [hg] at EL HQ0 HT0
  try rw [hg]
  clear hg
  have PS := Lib.hid (pass_any (g := g) (O := []) (tk := 0) st0 rfl (by decide) HQ0.out 0 HZ.out (Nat.zero_le _) (Nat.zero_le _))
  have hwg : Hid (w.heap.size ≤ g ∧ T < g ∧ w.heap.size + 1 ≤ g + 1) := by have h8 := HG.out; have h9 := HTT.out; exact ⟨by omega, by omega, by omega⟩
  try rw [show (((0 : Nat) : Int)) = 0 from rfl] at PS
  refine PS.out.mono ?_
  rintro e w1 (⟨q, -, hhq, hblq, hcl, rfl, HQ1, HF1⟩ | ⟨c, x, b2, tt, hrun, rfl, HQ1, HF1⟩)
  · have HB1 : Hid (Below g w0 w1) := HF1.out.below
    have HBw : Hid (Below w.heap.size w w1) := HB0.out.trans (HB1.out.mono hwg.out.1)
    have HT1 : Hid (At w1 T 0 zr11) := HT0.out.1.below HB1.out hwg.out.2.1
    have VI := Lib.hid (EL.out w1 [] (q + 1) q st0 (Nat.sub_le _ _) rfl rfl (.inl rfl) rfl hhq hblq HQ1.out (Nat.le_refl _))
    try rw [show ((st0.G.length : Nat) : Int) = 0 from rfl] at VI
    have HC1 := Lib.hid hcl
    clear hhq hblq hcl
    go_wp2_with fail
    refine VI.out.mono ?_
    rintro e w2 (⟨N, q2, hq2, hcl2, rfl, HQ2, HF2⟩ | ⟨c, x, b2, tt, kk, hrun, rfl, HQ2, HF2⟩)
    · have HB2 : Hid (Below g w1 w2) := HF2.out.below
      have HC2 := Lib.hid (Cl.trans hcl2 HC1.out)
      have HB2w : Hid (Below w.heap.size w w2) := HBw.out.trans (HB2.out.mono hwg.out.1)
      have HT2 : Hid (At w2 T 0 zr11) := HT1.out.below HB2.out hwg.out.2.1
      clear hcl2 hq2
      go_wp2_with fail
      go_loopw [7, 8] (fun va vo wr => ∃ (a : Int) (bo : Bool), va = .int .i64 a ∧ vo = .bool bo ∧ Hid (Below w.heap.size w wr) ∧ Hid (At wr T 0 zr11) ∧ Hid ((bo = true ∧ ∃ k : Nat, a = (k : Int) ∧ Gok wr g s L ro ([] ++ N) 0 k ∧ Cl s.toList L (after st0 N) k st0 0) ∨ (bo = false ∧ 0 ≤ a ∧ a ≤ (s.size : Int) ∧ ∃ c x b2 tt kk, Gno wr g s L ro c x b2 tt kk ∧ RunsT s.toList L st0 0 (.no c x b2) tt kk))) (fun va _ _ => s.size + 1 - (intOf va).toNat)
      case atStart => exact ⟨_, true, rfl, rfl, HB2w, HT2, .inl ⟨rfl, q2, rfl, HQ2.out, HC2.out⟩⟩
      case round =>
        obtain ⟨a, bo, rfl, rfl, HBr, HTr, HX⟩ := hrel
        rcases HX.out with ⟨rfl, k, rfl, hGk, hCk⟩ | ⟨rfl, ha0, has, c, x, b2, tt, kk, hNo, hRun⟩
        · have HGk := Lib.hid hGk
          have HCk := Lib.hid hCk
          have hkz : k ≤ s.size := by obtain ⟨-, -, h⟩ := hGk; exact h
          have hkb : k ≤ L.bytes := by obtain ⟨-, h, -⟩ := hGk; exact h
          clear hGk hCk HX HB2w HT2 HQ2 HC2
          by_cases h1 : k < s.size
          · have e1 : (k : Int) < (s.size : Int) := by omega
            have e2 : (0 : Int) ≤ (k : Int) := by omega
            have e3 : (k : Int) ≤ 140737488351232 := by have := HZ.out; omega
            by_cases h2 : k < L.bytes
            · have W := Lib.hid (gwant_yes HGk.out (k : Int) k rfl h1 h2 HZ.out (Nat.le_succ k))
              have hh := has_of h1 h2
              have hbt := byte_at s k h1
              obtain ⟨b, hb⟩ : ∃ b, s.toList.getD k 0 = b := ⟨_, rfl⟩
              rw [hb] at hbt
              have BL := Lib.hid (fun w' => rblank_any b w')
              rw [← hbt] at BL
              obtain ⟨y, hy⟩ : ∃ y, (s[k]).toNat = y := ⟨_, rfl⟩
              rw [hy] at BL
              cases hbl : Js.blank b with
              | true =>
                have HC9 : Hid (Cl s.toList L (after st0 N) (k + 1) st0 0) := Cl.trans (fun r t kk h => pass_blank rfl hh hb hbl h) HCk.out
                have HK1 := Lib.hid h1
                rw [hbl] at BL
                clear hh hb hbl hbt h2 hkz hkb
                go_wp2_with (first
                  | (go_at_call 43; refine W.out.mono ?_; rintro e w5 ⟨rfl, HG5, HF5⟩)
                  | (go_at_call 44; refine (BL.out _).mono ?_; rintro e w6 ⟨rfl, rfl⟩))
                go_roundw
                case rel => exact ⟨(k : Int) + 1, true, rfl, rfl, HBr.out.trans (HF5.out.below.mono hwg.out.1), HTr.out.below HF5.out.below hwg.out.2.1, .inl ⟨rfl, k + 1, by omega, HG5.out, HC9.out⟩⟩
                case measure => have h9 := HK1.out; simp [intOf]; omega
              | false =>
                have HRN : Hid (RunsT s.toList L st0 0 (.no 9 k false) (k + 1) 0) := HCk.out _ _ _ (RunsT.fl hh (by rw [hb, act_step rfl hbl]; rfl))
                have HK1 := Lib.hid h1
                rw [hbl] at BL
                clear hh hb hbl hbt h2 hkz hkb
                go_wp2_with (first
                  | (go_at_call 43; refine W.out.mono ?_; rintro e w5 ⟨rfl, HG5, HF5⟩)
                  | (go_at_call 44; refine (BL.out _).mono ?_; rintro e w6 ⟨rfl, rfl⟩)
                  | (go_at_call 45; refine (gfault16_ok HG5.out _ _ k rfl).mono ?_; rintro e w7 ⟨rfl, HG7, HF7⟩))
                go_roundw
                case rel => exact ⟨(k : Int) + 1, false, rfl, rfl, (HBr.out.trans (HF5.out.below.mono hwg.out.1)).trans (HF7.out.below.mono hwg.out.1), (HTr.out.below HF5.out.below hwg.out.2.1).below HF7.out.below hwg.out.2.1, .inr ⟨rfl, by omega, by have := HK1.out; omega, _, _, _, _, _, HG7.out, HRN.out⟩⟩
                case measure => have h9 := HK1.out; simp [intOf]; omega
            · have W := Lib.hid (gwant_no HGk.out (k : Int) k rfl (fun h => h2 h.2))
              have HRN : Hid (RunsT s.toList L st0 0 (lack s.toList L) (lackK s.toList L) 0) := HCk.out _ _ _ (stop_lack (s := after st0 N) (has_not (fun h => h2 h.2)) (fun h => by rw [tl_size] at h; omega))
              have HK1 := Lib.hid h1
              clear h1 h2 hkz hkb
              go_wp2_with (go_at_call 43; refine W.out.mono ?_; rintro e w5 ⟨rfl, HG5, HF5⟩)
              go_roundw
              case rel => exact ⟨(k : Int) + 1, false, rfl, rfl, HBr.out.trans (HF5.out.below.mono hwg.out.1), HTr.out.below HF5.out.below hwg.out.2.1, .inr ⟨rfl, by omega, by have := HK1.out; omega, _, _, _, _, _, HG5.out, HRN.out⟩⟩
              case measure => have h9 := HK1.out; simp [intOf]; omega
          · obtain rfl : k = s.size := by omega
            have e1 : ¬ (s.size : Int) < (s.size : Int) := by omega
            have HRR : Hid (RunsT s.toList L st0 0 (.ok N) s.size 0) := by
              have h9 := RunsT.stop (S := s.toList) (L := L) (s := after st0 N) (p := s.size) (has_not (fun h => h1 h.1))
              rw [fin, if_pos (by rw [tl_size]; exact hkb), show (after st0 N).last = some N from rfl, lackK, if_neg (by rw [tl_size]; omega), tl_size] at h9
              exact HCk.out _ _ _ h9
            obtain ⟨⟨vo, HR0⟩, -⟩ := HGk.out
            have HTx : Hid (At wr T 0 zr11) := HTr.out
            have HR9 := Lib.hid HR0
            have HR := HR9.out
            have HT := HTx.out
            have k0 := HR.at0.cell 0 _ rfl
            have k1 := HR.at0.cell 1 _ rfl
            have k2 := HR.at0.cell 2 _ rfl
            have k3 := HR.at0.cell 3 _ rfl
            have k4 := HR.at0.cell 4 _ rfl
            have k5 := HR.at0.cell 5 _ rfl
            have k6 := HR.at0.cell 6 _ rfl
            have k7 := HR.at0.cell 7 _ rfl
            have k8 := HR.at0.cell 8 _ rfl
            have k9 := HR.at0.cell 9 _ rfl
            have k10 := HR.at0.cell 10 _ rfl
            have k11 := HR.at0.cell 11 _ rfl
            have t0 := HT.cell 0 _ rfl
            have f0 := HT.froz 0 (Nat.le_of_ble_eq_true rfl)
            have t1 := HT.cell 1 _ rfl
            have f1 := HT.froz 1 (Nat.le_of_ble_eq_true rfl)
            have t2 := HT.cell 2 _ rfl
            have f2 := HT.froz 2 (Nat.le_of_ble_eq_true rfl)
            have t3 := HT.cell 3 _ rfl
            have f3 := HT.froz 3 (Nat.le_of_ble_eq_true rfl)
            have t4 := HT.cell 4 _ rfl
            have f4 := HT.froz 4 (Nat.le_of_ble_eq_true rfl)
            have t5 := HT.cell 5 _ rfl
            have f5 := HT.froz 5 (Nat.le_of_ble_eq_true rfl)
            have t6 := HT.cell 6 _ rfl
            have f6 := HT.froz 6 (Nat.le_of_ble_eq_true rfl)
            have t7 := HT.cell 7 _ rfl
            have f7 := HT.froz 7 (Nat.le_of_ble_eq_true rfl)
            have t8 := HT.cell 8 _ rfl
            have f8 := HT.froz 8 (Nat.le_of_ble_eq_true rfl)
            have t9 := HT.cell 9 _ rfl
            have f9 := HT.froz 9 (Nat.le_of_ble_eq_true rfl)
            have t10 := HT.cell 10 _ rfl
            have f10 := HT.froz 10 (Nat.le_of_ble_eq_true rfl)
            have hgT : g ≠ T := (by have := HG.out; omega)
            clear HR HT HR0 h1 hkz hkb
            go_wp2_with fail
            go_region
            all_goals
              go_wp2_with fail
              (try simp only [Exit.inBlock, Exit.then])
              refine bodyPost_ret (results_tc rfl _ T (rg11 s L ro 0 0 s.size 0 false) _ rfl ((fill11 HTx.out _ _ _ _ _ _ _ _ _ _ _).drewN 1) Tryd.underlying57 rfl (by kernel_rfl) _ rfl) rfl ?_
              exact .inl ⟨N, vo, s.size, 0, HRR.out, rfl, own_base (own_drewN (own11 HR9.out.out (Nat.lt_succ_of_lt hwg.out.2.1) _ _ _ _ _ _ _ _ _ _ _) 1) hwg.out.2.2, (below11 HBr.out (Nat.le_of_lt HT0.out.2.2) _ _ _ _ _ _ _ _ _ _ _).drew⟩
        · have HRR := Lib.hid hRun
          obtain ⟨O, vo, HR0⟩ := hNo
          clear hRun HX HB2w HT2 HQ2 HC2
          have HTx : Hid (At wr T 0 zr11) := HTr.out
          have HR9 := Lib.hid HR0
          have HR := HR9.out
          have HT := HTx.out
          have k0 := HR.at0.cell 0 _ rfl
          have k1 := HR.at0.cell 1 _ rfl
          have k2 := HR.at0.cell 2 _ rfl
          have k3 := HR.at0.cell 3 _ rfl
          have k4 := HR.at0.cell 4 _ rfl
          have k5 := HR.at0.cell 5 _ rfl
          have k6 := HR.at0.cell 6 _ rfl
          have k7 := HR.at0.cell 7 _ rfl
          have k8 := HR.at0.cell 8 _ rfl
          have k9 := HR.at0.cell 9 _ rfl
          have k10 := HR.at0.cell 10 _ rfl
          have k11 := HR.at0.cell 11 _ rfl
          have t0 := HT.cell 0 _ rfl
          have f0 := HT.froz 0 (Nat.le_of_ble_eq_true rfl)
          have t1 := HT.cell 1 _ rfl
          have f1 := HT.froz 1 (Nat.le_of_ble_eq_true rfl)
          have t2 := HT.cell 2 _ rfl
          have f2 := HT.froz 2 (Nat.le_of_ble_eq_true rfl)
          have t3 := HT.cell 3 _ rfl
          have f3 := HT.froz 3 (Nat.le_of_ble_eq_true rfl)
          have t4 := HT.cell 4 _ rfl
          have f4 := HT.froz 4 (Nat.le_of_ble_eq_true rfl)
          have t5 := HT.cell 5 _ rfl
          have f5 := HT.froz 5 (Nat.le_of_ble_eq_true rfl)
          have t6 := HT.cell 6 _ rfl
          have f6 := HT.froz 6 (Nat.le_of_ble_eq_true rfl)
          have t7 := HT.cell 7 _ rfl
          have f7 := HT.froz 7 (Nat.le_of_ble_eq_true rfl)
          have t8 := HT.cell 8 _ rfl
          have f8 := HT.froz 8 (Nat.le_of_ble_eq_true rfl)
          have t9 := HT.cell 9 _ rfl
          have f9 := HT.froz 9 (Nat.le_of_ble_eq_true rfl)
          have t10 := HT.cell 10 _ rfl
          have f10 := HT.froz 10 (Nat.le_of_ble_eq_true rfl)
          have hgT : g ≠ T := (by have := HG.out; omega)
          have HBx : Hid (Below w.heap.size w wr) := HBr.out
          clear HR HT HR0
          go_wp2_with fail
          go_region
          all_goals
            go_wp2_with fail
            (try simp only [Exit.inBlock, Exit.then])
            refine bodyPost_ret (results_tc rfl _ T (rg11 s L ro c x tt kk b2) _ rfl ((fill11 HTx.out _ _ _ _ _ _ _ _ _ _ _).drewN 1) Tryd.underlying57 rfl (by kernel_rfl) _ rfl) rfl ?_
            exact .inr ⟨c, x, b2, tt, kk, HRR.out, rfl, (below11 HBx.out (Nat.le_of_lt HT0.out.2.2) _ _ _ _ _ _ _ _ _ _ _).drew⟩
    · have HRR := Lib.hid (HC1.out _ _ _ hrun)
      have HB2 : Hid (Below g w1 w2) := HF2.out.below
      obtain ⟨O, vo, HR0⟩ := HQ2.out
      clear hrun
      go_wp2_with fail
      go_loopw [7, 8] (fun va vo wr => va = .int .i64 0 ∧ vo = .bool false ∧ w2 = wr) (fun _ _ _ => 0)
      case atStart => exact ⟨rfl, rfl, rfl⟩
      case round =>
        obtain ⟨rfl, rfl, rfl⟩ := hrel
        have HTx : Hid (At w2 T 0 zr11) := HT1.out.below HB2.out hwg.out.2.1
        have HR9 := Lib.hid HR0
        have HR := HR9.out
        have HT := HTx.out
        have k0 := HR.at0.cell 0 _ rfl
        have k1 := HR.at0.cell 1 _ rfl
        have k2 := HR.at0.cell 2 _ rfl
        have k3 := HR.at0.cell 3 _ rfl
        have k4 := HR.at0.cell 4 _ rfl
        have k5 := HR.at0.cell 5 _ rfl
        have k6 := HR.at0.cell 6 _ rfl
        have k7 := HR.at0.cell 7 _ rfl
        have k8 := HR.at0.cell 8 _ rfl
        have k9 := HR.at0.cell 9 _ rfl
        have k10 := HR.at0.cell 10 _ rfl
        have k11 := HR.at0.cell 11 _ rfl
        have t0 := HT.cell 0 _ rfl
        have f0 := HT.froz 0 (Nat.le_of_ble_eq_true rfl)
        have t1 := HT.cell 1 _ rfl
        have f1 := HT.froz 1 (Nat.le_of_ble_eq_true rfl)
        have t2 := HT.cell 2 _ rfl
        have f2 := HT.froz 2 (Nat.le_of_ble_eq_true rfl)
        have t3 := HT.cell 3 _ rfl
        have f3 := HT.froz 3 (Nat.le_of_ble_eq_true rfl)
        have t4 := HT.cell 4 _ rfl
        have f4 := HT.froz 4 (Nat.le_of_ble_eq_true rfl)
        have t5 := HT.cell 5 _ rfl
        have f5 := HT.froz 5 (Nat.le_of_ble_eq_true rfl)
        have t6 := HT.cell 6 _ rfl
        have f6 := HT.froz 6 (Nat.le_of_ble_eq_true rfl)
        have t7 := HT.cell 7 _ rfl
        have f7 := HT.froz 7 (Nat.le_of_ble_eq_true rfl)
        have t8 := HT.cell 8 _ rfl
        have f8 := HT.froz 8 (Nat.le_of_ble_eq_true rfl)
        have t9 := HT.cell 9 _ rfl
        have f9 := HT.froz 9 (Nat.le_of_ble_eq_true rfl)
        have t10 := HT.cell 10 _ rfl
        have f10 := HT.froz 10 (Nat.le_of_ble_eq_true rfl)
        have hgT : g ≠ T := (by have := HG.out; omega)
        have HBx : Hid (Below w.heap.size w w2) := HBw.out.trans (HB2.out.mono hwg.out.1)
        clear HR HT HR0
        go_wp2_with fail
        go_region
        all_goals
          go_wp2_with fail
          (try simp only [Exit.inBlock, Exit.then])
          refine bodyPost_ret (results_tc rfl _ T (rg11 s L ro c x tt kk b2) _ rfl ((fill11 HTx.out _ _ _ _ _ _ _ _ _ _ _).drewN 1) Tryd.underlying57 rfl (by kernel_rfl) _ rfl) rfl ?_
          exact .inr ⟨c, x, b2, tt, kk, HRR.out, rfl, (below11 HBx.out (Nat.le_of_lt HT0.out.2.2) _ _ _ _ _ _ _ _ _ _ _).drew⟩
  · have HRR := Lib.hid hrun
    have HB1 : Hid (Below g w0 w1) := HF1.out.below
    obtain ⟨O, vo, HR0⟩ := HQ1.out
    clear hrun
    go_wp2_with fail
    go_loopw [7, 8] (fun va vo wr => va = .int .i64 0 ∧ vo = .bool false ∧ w1 = wr) (fun _ _ _ => 0)
    case atStart => exact ⟨rfl, rfl, rfl⟩
    case round =>
      obtain ⟨rfl, rfl, rfl⟩ := hrel
      have HTx : Hid (At w1 T 0 zr11) := HT0.out.1.below HB1.out hwg.out.2.1
      have HR9 := Lib.hid HR0
      have HR := HR9.out
      have HT := HTx.out
      have k0 := HR.at0.cell 0 _ rfl
      have k1 := HR.at0.cell 1 _ rfl
      have k2 := HR.at0.cell 2 _ rfl
      have k3 := HR.at0.cell 3 _ rfl
      have k4 := HR.at0.cell 4 _ rfl
      have k5 := HR.at0.cell 5 _ rfl
      have k6 := HR.at0.cell 6 _ rfl
      have k7 := HR.at0.cell 7 _ rfl
      have k8 := HR.at0.cell 8 _ rfl
      have k9 := HR.at0.cell 9 _ rfl
      have k10 := HR.at0.cell 10 _ rfl
      have k11 := HR.at0.cell 11 _ rfl
      have t0 := HT.cell 0 _ rfl
      have f0 := HT.froz 0 (Nat.le_of_ble_eq_true rfl)
      have t1 := HT.cell 1 _ rfl
      have f1 := HT.froz 1 (Nat.le_of_ble_eq_true rfl)
      have t2 := HT.cell 2 _ rfl
      have f2 := HT.froz 2 (Nat.le_of_ble_eq_true rfl)
      have t3 := HT.cell 3 _ rfl
      have f3 := HT.froz 3 (Nat.le_of_ble_eq_true rfl)
      have t4 := HT.cell 4 _ rfl
      have f4 := HT.froz 4 (Nat.le_of_ble_eq_true rfl)
      have t5 := HT.cell 5 _ rfl
      have f5 := HT.froz 5 (Nat.le_of_ble_eq_true rfl)
      have t6 := HT.cell 6 _ rfl
      have f6 := HT.froz 6 (Nat.le_of_ble_eq_true rfl)
      have t7 := HT.cell 7 _ rfl
      have f7 := HT.froz 7 (Nat.le_of_ble_eq_true rfl)
      have t8 := HT.cell 8 _ rfl
      have f8 := HT.froz 8 (Nat.le_of_ble_eq_true rfl)
      have t9 := HT.cell 9 _ rfl
      have f9 := HT.froz 9 (Nat.le_of_ble_eq_true rfl)
      have t10 := HT.cell 10 _ rfl
      have f10 := HT.froz 10 (Nat.le_of_ble_eq_true rfl)
      have hgT : g ≠ T := (by have := HG.out; omega)
      have HBx : Hid (Below w.heap.size w w1) := HB0.out.trans (HB1.out.mono hwg.out.1)
      clear HR HT HR0
      go_wp2_with fail
      go_region
      all_goals
        go_wp2_with fail
        (try simp only [Exit.inBlock, Exit.then])
        refine bodyPost_ret (results_tc rfl _ T (rg11 s L ro c x tt st0.G.length b2) _ rfl ((fill11 HTx.out _ _ _ _ _ _ _ _ _ _ _).drewN 1) Tryd.underlying57 rfl (by kernel_rfl) _ rfl) rfl ?_
        exact .inr ⟨c, x, b2, tt, st0.G.length, HRR.out, rfl, (below11 HBx.out (Nat.le_of_lt HT0.out.2.2) _ _ _ _ _ _ _ _ _ _ _).drew⟩
end Jr
end Go.Proofs.YtilfidcomeandaaDoor
