/- The document's Read and Decode. -/
import Derived.Test.YteglahkgnggmgaaDoorDvH
import Derived.Test.YteglahkgnggmgaaDoorDrU
import Derived.Test.YteglahkgnggmgaaDoorDtX
namespace Go.Proofs.YteglahkgnggmgaaDoor
open Go.RowKit
set_option linter.unusedVariables false
set_option linter.unusedSimpArgs false
open Dr
/-- the reader, behind all of its reading -/
def RdEnd (s : ByteArray) (L : Lm) (ro : Int) (r : Rs (List Nd)) (g : Nat) (w : World) : Prop :=
  match r with
  | .ok l => ∃ vo tk fr, Rf w g s L ro l vo 0 0 tk fr false
  | .no c q b => ∃ tk fr, Rf w g s L ro [] (.slice none 0 0) c q tk fr b
def RetRd (s : ByteArray) (L : Lm) (ro : Int) (w : World) (e : Ending) (w' : World) : Prop :=
  ∃ r g, RunsD s.toList L (.el [] [] 0) r ∧ e = .returned (.pointer (some ⟨g, 0, none⟩)) ∧ w.heap.size ≤ g ∧ Hid (RdEnd s L ro r g w') ∧ Hid (Below w.heap.size w w')
theorem Rf.nilOut {w : World} {g : Nat} {s : ByteArray} {L : Lm} {ro : Int} {O : List Nd} {vo : Value} {er : Int} {pl tk fr : Nat} {en : Bool} (h : Rf w g s L ro O vo er pl tk fr en) : Rf (w.setCell ⟨g, 5, none⟩ (.slice none 0 0)) g s L ro [] (.slice none 0 0) er pl tk fr en :=
  ⟨h.at0.set 5 _, World.ownsRow_nil _ _ _ _, by rw [show (w.setCell ⟨g, 5, none⟩ (.slice none 0 0)).heap.size = w.heap.size by simp [World.setCell]]; exact h.lt⟩
set_option maxRecDepth 100000 in
set_option maxHeartbeats 1600000 in
theorem rread_any (s : ByteArray) (L : Lm) (d i b ro : Int) (hd : (L.depth : Int) = d) (hi : (L.items : Int) = i) (hb : (L.bytes : Int) = b) (hLi : L.items ≤ 4096) (hLd : L.depth ≤ 32) (hz : s.size ≤ 140737488351232) (w : World) :
    Calls Tryd.prog 32 #[.string s, .agg #[.int .i64 d, .int .i64 i, .int .i64 b, .int .i64 ro]] w (RetRd s L ro w) := by
  have HB0 : Hid (Below w.heap.size w ((w.alloc (Obj.cells #[.int .i64 d, .int .i64 i, .int .i64 b, .int .i64 ro] 23)).alloc (Obj.cells #[.string s, .int .i64 d, .int .i64 i, .int .i64 b, .int .i64 ro, .slice none 0 0, .int .i64 0, .int .i64 0, .int .i64 0, .int .i64 0, .bool false] 75))) := ((Below.refl _ _).alloc (Nat.le_refl _) _).alloc (by simp) _
  have HR0 : Hid (Rok ((w.alloc (Obj.cells #[.int .i64 d, .int .i64 i, .int .i64 b, .int .i64 ro] 23)).alloc (Obj.cells #[.string s, .int .i64 d, .int .i64 i, .int .i64 b, .int .i64 ro, .slice none 0 0, .int .i64 0, .int .i64 0, .int .i64 0, .int .i64 0, .bool false] 75)) (w.heap.size + 1) s L ro [] ([] : List Fr).length) := by
    refine ⟨.slice none 0 0, 0, ?_, World.ownsRow_nil _ _ _ _, by simp⟩
    have h := At.ofAlloc (w.alloc (Obj.cells #[.int .i64 d, .int .i64 i, .int .i64 b, .int .i64 ro] 23)) #[.string s, .int .i64 d, .int .i64 i, .int .i64 b, .int .i64 ro, .slice none 0 0, .int .i64 0, .int .i64 0, .int .i64 0, .int .i64 0, .bool false] 75
    rw [show (w.alloc (Obj.cells #[.int .i64 d, .int .i64 i, .int .i64 b, .int .i64 ro] 23)).heap.size = w.heap.size + 1 by simp] at h
    rw [rfc, hd, hi, hb]
    exact h
  have EL := Lib.hid (element_all s L ro (w.heap.size + 1) hz hLi hLd (s.size + 1))
  have HZ := Lib.hid hz
  clear hd hi hb hLi hLd hz
  go_enter Tryd.func32, Tryd.ntmps32
  go_wp2_with fail
  refine (EL.out _ [] [] [] 0 (-1) 0 (by omega) HR0.out rfl (Nat.zero_le _) (.inl ⟨rfl, rfl⟩) (by simp) rfl).mono ?_
  obtain ⟨g, hg⟩ : ∃ g, w.heap.size + 1 = g := ⟨_, rfl⟩
  have HG := Lib.hid hg
  rw [hg]
  clear hg
  rintro e w1 (⟨N, q, ⟨rfl, HR1, HB1⟩, h4, h5, -, h6⟩ | ⟨c, x, b2, ⟨rfl, HR1, HB1⟩, h6⟩)
  · rw [List.nil_append] at HR1
    have hfin : RunsD s.toList L (.el [] [] 0) (fin s.toList L N q) := h6 _ (Runs.pend (s := .loop [] N q) rfl Runs.fin)
    have HBw : Hid (Below w.heap.size w w1) := HB0.out.trans (HB1.out.mono (by have := HG.out; omega))
    have hgw : Hid (w.heap.size ≤ g) := by have := HG.out; show w.heap.size ≤ g; omega
    by_cases h1 : q < s.size
    · have e1 : (q : Int) < (s.size : Int) := by omega
      rw [fin, if_pos (by rw [tl_size]; exact h1)] at hfin
      by_cases h2 : q < L.bytes
      · rw [if_pos (has_yes s L q ⟨h1, h2⟩)] at hfin
        have HF := Lib.hid hfin
        have W := Lib.hid (dwant_yes HR1.out (q : Int) q rfl h1 h2 HZ.out)
        clear h4 h5 h6 hfin h1 h2
        go_wp2_with (first
          | (go_at_call 51; refine W.out.mono ?_; rintro e w2 ⟨rfl, HR2, HB2⟩)
          | (go_at_call 52; refine (dfault_ok HR2.out _ _ q rfl).mono ?_; rintro e w3 ⟨rfl, HRq, HB3⟩; obtain ⟨O, vo, tk, fr, HR3⟩ := HRq.out; have HR3 := Lib.hid HR3; have k6 := HR3.out.at0.cell 6 _ rfl; have k5 := HR3.out.at0.cell 5 _ rfl; have f5 := HR3.out.at0.froz 5 (Nat.le_of_ble_eq_true rfl)))
        go_ret
        exact ⟨.no 9 q false, g, HF.out, rfl, hgw.out, ⟨_, _, HR3.out.nilOut⟩, ((HBw.out.trans (HB2.out.mono hgw.out)).trans (HB3.out.mono hgw.out)).setCell (p := ⟨g, 5, none⟩) hgw.out _⟩
      · rw [if_neg (by rw [has_no s L q (fun h => h2 h.2)]; decide)] at hfin
        have HF := Lib.hid hfin
        have W := Lib.hid (dwant_no HR1.out (q : Int) q rfl (fun h => h2 h.2))
        have hl0 : ¬ lackE s.toList L = 0 := by rw [lackE]; split <;> decide
        obtain ⟨le, hle⟩ : ∃ x, lackE s.toList L = x := ⟨_, rfl⟩
        rw [hle] at W hl0
        rw [dlack_eq, hle] at HF
        clear h4 h5 h6 hfin h1 h2 hle
        go_wp2_with (first
          | (go_at_call 51; refine W.out.mono ?_; rintro e w2 ⟨rfl, HRq, HB2⟩; obtain ⟨O, vo, tk, fr, HR3⟩ := HRq.out; have HR3 := Lib.hid HR3; have k6 := HR3.out.at0.cell 6 _ rfl; have k5 := HR3.out.at0.cell 5 _ rfl; have f5 := HR3.out.at0.froz 5 (Nat.le_of_ble_eq_true rfl)))
        go_ret
        exact ⟨.no le _ _, g, HF.out, rfl, hgw.out, ⟨_, _, HR3.out.nilOut⟩, (HBw.out.trans (HB2.out.mono hgw.out)).setCell (p := ⟨g, 5, none⟩) hgw.out _⟩
    · have e1 : ¬ (q : Int) < (s.size : Int) := by omega
      rw [fin, if_neg (by rw [tl_size]; exact h1)] at hfin
      have HF := Lib.hid hfin
      obtain ⟨vo, tk, HR3⟩ := HR1.out
      have k6 := HR3.at0.cell 6 _ rfl
      have HR3 := Lib.hid HR3
      clear h4 h5 h6 hfin h1
      go_wp2_with fail
      go_ret
      exact ⟨.ok N, g, HF.out, rfl, hgw.out, ⟨_, _, _, HR3.out⟩, HBw⟩
  · have hc : ¬ c = 0 := Runs.ne h6 _ _ _ rfl
    obtain ⟨O, vo, tk, fr, HRF⟩ := HR1.out
    have HRF := Lib.hid HRF
    have k6 := HRF.out.at0.cell 6 _ rfl
    have k5 := HRF.out.at0.cell 5 _ rfl
    have f5 := HRF.out.at0.froz 5 (Nat.le_of_ble_eq_true rfl)
    go_wp2_with fail
    go_ret
    exact ⟨.no c x b2, g, h6, rfl, by have := HG.out; omega, ⟨_, _, HRF.out.nilOut⟩, (HB0.out.trans (HB1.out.mono (by have := HG.out; omega))).setCell (p := ⟨g, 5, none⟩) (by have := HG.out; show w.heap.size ≤ g; omega) _⟩
set_option maxRecDepth 100000 in
set_option maxHeartbeats 1600000 in
theorem rdecode_any (s : ByteArray) (d i b ro : Int) (w : World) (hz : s.size ≤ 140737488351232) :
    Calls Tryd.prog 15 #[.string s, .agg #[.int .i64 d, .int .i64 i, .int .i64 b, .int .i64 ro]] w (RetDec s d i b ro w) := by
  have M := Lib.hid (fun w => rmay_any d i b ro w)
  have HL := Lib.hid (At.ofAlloc w #[.int .i64 d, .int .i64 i, .int .i64 b, .int .i64 ro] 23)
  have HB0 : Hid (Below w.heap.size w (w.alloc (Obj.cells #[.int .i64 d, .int .i64 i, .int .i64 b, .int .i64 ro] 23))) := (Below.refl _ _).alloc (Nat.le_refl _) _
  cases hm : mayOk d i b ro with
  | false =>
    rw [hm] at M
    have HM := Lib.hid hm
    clear hm hz
    go_enter Tryd.func15, Tryd.ntmps15
    go_wp2_with (first | (go_at_call 24; refine (M.out _).mono ?_; rintro e w1 ⟨rfl, hb1⟩))
    go_ret3
    exact ⟨.no 2 0 false, ⟨fun h => (by rw [HM.out] at h; cases h), fun _ => rfl⟩, _, rfl, World.ownsRow_nil _ _ _ _, HB0.out.trans (hb1.mono HB0.out.size)⟩
  | true =>
    rw [hm] at M
    have HM := Lib.hid hm
    have hy := mayOk_yes hm
    have RD := Lib.hid (fun w' => rread_any s (limL d i b) d i b ro (by show ((d.toNat : Nat) : Int) = d; omega) (by show ((i.toNat : Nat) : Int) = i; omega) (by show ((b.toNat : Nat) : Int) = b; omega) (by show i.toNat ≤ 4096; omega) (by show d.toNat ≤ 32; omega) hz w')
    obtain ⟨B, hB⟩ : ∃ B, w.heap.size = B := ⟨_, rfl⟩
    rw [hB] at HL
    have HBB := Lib.hid hB
    clear hm hz hy
    go_enter Tryd.func15, Tryd.ntmps15
    go_wp2_with fail
    try rw [hB]
    clear hB
    obtain ⟨w0, hw0⟩ : ∃ x, w.alloc (Obj.cells #[.int .i64 d, .int .i64 i, .int .i64 b, .int .i64 ro] 23) = x := ⟨_, rfl⟩
    rw [hw0] at HL HB0
    rw [hw0]
    clear hw0
    refine (M.out _).mono ?_
    rintro e w1 ⟨rfl, hb1⟩
    have HB1 : Hid (Below w.heap.size w w1) := HB0.out.trans (hb1.mono HB0.out.size)
    have hlt := HL.out.lt (by simp)
    have HL1 := HL.out.below hb1 hlt
    have l0 := HL1.cell 0 _ rfl
    have l1 := HL1.cell 1 _ rfl
    have l2 := HL1.cell 2 _ rfl
    have l3 := HL1.cell 3 _ rfl
    rw [Nat.zero_add] at l0 l1 l2 l3
    clear hb1 HL1 hlt
    go_wp2_with fail
    refine (RD.out _).mono ?_
    rintro e w2 ⟨r, g, hr, rfl, hg, HE, hb2⟩
    have HB2 : Hid (Below w.heap.size w w2) := HB1.out.trans (hb2.out.mono HB1.out.size)
    have HG : Hid (w.heap.size ≤ g) := Nat.le_trans HB1.out.size hg
    have HR := Lib.hid hr
    clear l0 l1 l2 l3 hb2 hr hg
    cases r with
    | no c q b2 =>
      obtain ⟨tk, fr, HR3⟩ := HE.out
      have k5 := HR3.at0.cell 5 _ rfl
      have k6 := HR3.at0.cell 6 _ rfl
      have k7 := HR3.at0.cell 7 _ rfl
      clear HR3
      go_wp2_with fail
      go_quiet (fail)
      go_wp2_with fail
      go_ret3
      exact ⟨.no c q b2, ⟨fun _ => HR.out, fun h => (by rw [HM.out] at h; cases h)⟩, _, rfl, World.ownsRow_nil _ _ _ _, HB2.out.trans (below_drewN _ _ _)⟩
    | ok l =>
      obtain ⟨vo, tk, fr, HR3⟩ := HE.out
      have k5 := HR3.at0.cell 5 _ rfl
      have k6 := HR3.at0.cell 6 _ rfl
      have k7 := HR3.at0.cell 7 _ rfl
      have HO := Lib.hid HR3.out
      clear HR3
      go_wp2_with fail
      go_quiet (fail)
      go_wp2_with fail
      go_ret3
      exact ⟨.ok l, ⟨fun _ => HR.out, fun h => (by rw [HM.out] at h; cases h)⟩, _, rfl, own_base (own_drewN HO.out _) (Nat.le_succ_of_le HG.out), HB2.out.trans (below_drewN _ _ _)⟩
end Go.Proofs.YteglahkgnggmgaaDoor
