/- The tree: the loop over what is begun. -/
import Derived.Test.YteglahkgnggmgaaDoorDrQ
import Derived.Deep.LoopGhost
namespace Go.Proofs.YteglahkgnggmgaaDoor
open Go.RowKit
set_option linter.unusedVariables false
set_option linter.unusedSimpArgs false
open Dr
theorem ncells_modify (z : Int) : ∀ (l : List Nd) (i : Nat), i < l.length → ncells (l.modify i fun n => { n with kids := z }) = (ncells l).set (i * 3 + 1) (.int .i64 z)
  | [], i, h => by simp at h
  | a :: l, 0, _ => by
    rw [List.modify_zero_cons]
    rfl
  | a :: l, i + 1, h => by
    have h1 : i < l.length := by simpa using h
    rw [List.modify_succ_cons, show ∀ (x : Nd) (m : List Nd), ncells (x :: m) = nv x ++ ncells m from fun _ _ => rfl, ncells_modify z l i h1, show ncells (a :: l) = nv a ++ ncells l from rfl, List.set_append_right _ _ (by show 3 ≤ _; omega)]
    show nv a ++ (ncells l).set (i * 3 + 1) _ = nv a ++ (ncells l).set ((i + 1) * 3 + 1 - 3) _
    rw [show (i + 1) * 3 + 1 - 3 = i * 3 + 1 by omega]
section
variable {w : World} {g : Nat} {s : ByteArray} {L : Lm} {p : Nat} {l : List Nd} {G : List Fr} {f : Fr} {vn vs : Value} {ro : Int} {k kn cap capn : Nat}
theorem Rd.setKids (h : Rd w g s L p l G (.slice (some ⟨kn, 0, none⟩) l.length capn) vs ro) (i : Nat) (hi : i < l.length) (z : Int) :
    Rd (w.setCell ⟨kn, i * 3 + 1, none⟩ (.int .i64 z)) g s L p (l.modify i fun n => { n with kids := z }) G (.slice (some ⟨kn, 0, none⟩) l.length capn) vs ro := by
  have hgk := (h.nodes.lt kn rfl).1
  have hs := (h.nodes.stored (i * 3 + 1) (.int .i64 z)).1
  have hne : vs.ownBlock ≠ some kn := by
    rcases own_ne h.stack h.nodes (Ne.symm node_ne) with h1 | h1
    · rw [h1]; exact fun e => by cases e
    · exact h1
  rw [← ncells_modify z l i hi] at hs
  refine ⟨h.at0.other kn (i * 3 + 1) _ (Or.inl (by omega)), by rw [List.length_modify]; exact hs, ownsRow_setCell_other h.stack hne _, by rw [show (w.setCell ⟨kn, i * 3 + 1, none⟩ (.int .i64 z)).heap.size = w.heap.size by simp [World.setCell]]; exact h.lt⟩
theorem Rd.pop (h : Rd w g s L p l (f :: G) vn (.slice (some ⟨k, 0, none⟩) (G.length + 1) cap) ro) :
    Rd (w.setCell ⟨g, 8, none⟩ (.slice (some ⟨k, 0, none⟩) G.length cap)) g s L p l G vn (.slice (some ⟨k, 0, none⟩) G.length cap) ro := by
  have h1 : w.ownsRow (g + 1) 91 5 (.slice (some ⟨k, 0, none⟩) G.length cap) G.length (fcells G) := ownsRow_pop (last := fv f) (by rw [fcells_length]; omega) (by rw [← fcells_cons]; exact h.stack)
  exact ⟨h.at0.set 8 _, ownsRow_setCell_below h.nodes (Nat.lt_succ_self g) _, ownsRow_setCell_below h1 (Nat.lt_succ_self g) _, by
    rw [show (w.setCell ⟨g, 8, none⟩ (.slice (some ⟨k, 0, none⟩) G.length cap)).heap.size = w.heap.size by simp [World.setCell]]; exact h.lt⟩
end
theorem own_cap {w : World} {B e size n cap : Nat} {a : Option Addr} {xs : List Value} (h : w.ownsRow B e size (.slice a n cap) n xs) : n ≤ cap := by
  rcases h.2 with ⟨h1, h0⟩ | ⟨g, cap', cur, h1, _, _, h2, _⟩
  · rw [h0]; exact Nat.zero_le _
  · cases h1; exact h2
def RsTree (r : Rs (List Nd)) (g : Nat) (s : ByteArray) (L : Lm) (ro : Int) (w : World) (e : Ending) (w' : World) : Prop :=
  match r with
  | .ok l => e = .returned (.tuple #[]) ∧ (∃ p vn vs, Hid (Rd w' g s L p l [] vn vs ro)) ∧ Hid (Below g w w')
  | .no c q _ => No c q g w e w'
def TreeP (g : Nat) (s : ByteArray) (L : Lm) (ro : Int) (w : World) (e : Ending) (w' : World) : Prop := ∃ r, RunsD s.toList L (.el [] [] 0) r ∧ RsTree r g s L ro w e w'
def InTree (g : Nat) (s : ByteArray) (L : Lm) (ro : Int) (w : World) (gk : Nat) (wr : World) : Prop :=
  ∃ G l p vn vs, Hid (Rd wr g s L p l G vn vs ro) ∧ Hid (Chain l G p ∧ p ≤ s.size ∧ 2 * (s.size - p) + G.length < gk ∧ ∀ r, RunsD s.toList L (.loop G l p) r → RunsD s.toList L (.el [] [] 0) r) ∧ Hid (Below g w wr)
set_option maxRecDepth 100000 in
set_option maxHeartbeats 1600000 in
theorem tree_any (w : World) (g : Nat) (s : ByteArray) (L : Lm) (vn vs : Value) (ro : Int) (hyp : ElHyp w g s L 0 [] [] vn vs ro) :
    Calls Tryd.prog 31 #[.pointer (some ⟨g, 0, none⟩)] w (TreeP g s L ro w) := by
  have F := Lib.hid (fun c p w => fail_any c p w)
  have EL := Lib.hid (element_any w g s L 0 [] [] vn vs ro hyp)
  have HYP := Lib.hid hyp
  clear hyp
  go_enter Tryd.func31, Tryd.ntmps31
  go_wp2_with fail
  refine EL.out.mono ?_
  intro e w1 h1
  rcases elT_cases (S := s.toList) (L := L) (G := []) (l := []) (p := 0) with ⟨c, q, b, hE, hRun⟩ | ⟨G2, l2, p2, hE, hRun⟩
  · rw [hE] at h1
    obtain ⟨rfl, hb⟩ := h1
    exact ⟨rfl, _, hRun, rfl, hb⟩
  rw [hE] at h1
  obtain ⟨rfl, ⟨vn1, vs1, HR1⟩, HB1⟩ := h1
  obtain ⟨h2, h3, h4, h5⟩ := elT_next (show Chain [] [] 0 from trivial) hE
  rw [tl_size] at h3
  have HIN : Hid (InTree g s L ro w (2 * s.size + 2) w1) := ⟨G2, l2, p2, vn1, vs1, HR1, ⟨h4, h3, by have : G2.length ≤ 0 + 1 := h5; omega, hRun⟩, HB1⟩
  clear hE hRun h2 h3 h4 h5 HR1 HB1
  go_wp2_with fail
  go_loopg [] (2 * s.size + 2) (fun gk wr => InTree g s L ro w gk wr)
  case atStart => exact HIN.out
  case round =>
    obtain ⟨G, l, p, vn, vs, HR, HC, HB⟩ := hrel
    clear HIN EL
    cases G with
    | nil =>
      obtain ⟨ad, cd, rfl, -⟩ := own_form HR.out.stack
      have hc8 := HR.out.at0.cell 8 _ rfl
      have TE := Lib.hid (fun w b hT hb => tended_ok w g s L.bytes p b hT hb)
      by_cases hE : s.size ≤ p
      · have TE1 := Lib.hid (fun w hT => TE.out w true hT (decide_eq_true hE))
        have HF : Hid (fin s.toList L l p = .ok l) := by show _ = _; rw [fin, if_neg (by rw [tl_size]; omega)]
        clear hE
        go_wp2_with (first | (go_at_call 47; refine (TE1.out _ HR.out.tx.1).mono ?_; rintro e w2 ⟨rfl, k, rfl⟩))
        first | go_end0 | refine bodyPost_ret (results_none rfl _ _ _) rfl ?_
        exact ⟨_, HC.out.2.2.2 _ Runs.fin, by rw [HF.out]; exact ⟨rfl, ⟨_, _, _, HR.out.drewN k⟩, HB.out.trans (below_drewN _ _ _)⟩⟩
      · have TE1 := Lib.hid (fun w hT => TE.out w false hT (decide_eq_false hE))
        by_cases h0 : p < s.size ∧ p < L.bytes
        · have HF : Hid (fin s.toList L l p = .no 9 p false) := by show _ = _; rw [fin, if_pos (by rw [tl_size]; omega), if_pos (has_yes s L p h0)]
          have e9 : (p : Int) ≤ 140737488351232 := by have := HYP.out.2.2.2.1; omega
          have HNX := Lib.hid h0
          clear hE h0
          go_wp2_with (first
            | (go_at_call 47; refine (TE1.out _ HR.out.tx.1).mono ?_; rintro e w2 ⟨rfl, k, rfl⟩)
            | (go_at_call 48; refine (next_yes (HR.out.drewN k) HNX.out.1 HNX.out.2 HYP.out.2.2.2.1 _ rfl).mono ?_; rintro e w3 ⟨rfl, HR3, HB3⟩)
            | (go_at_call 45; refine (place_yes HR3.out).mono ?_; rintro e w4 ⟨rfl, rfl⟩)
            | (go_at_call 49; refine (F.out _ _ _).mono ?_; rintro e w5 ⟨rfl, rfl⟩))
          exact ⟨rfl, _, HC.out.2.2.2 _ Runs.fin, by rw [HF.out]; exact ⟨rfl, (HB.out.trans (below_drewN _ _ _)).trans HB3.out⟩⟩
        · have HF : Hid (fin s.toList L l p = .no (lkE L.bytes s) (lkP L.bytes s) (decide (s.size ≤ L.bytes))) := by show _ = _; rw [fin, if_pos (by rw [tl_size]; omega), if_neg (by rw [has_no s L p h0]; decide), lack_eq]
          have HNX := Lib.hid h0
          have hp0 : p ≤ 140737488351232 := by have := HYP.out.2.2.2.1; have := HC.out.2.1; omega
          clear hE h0
          go_wp2_with (first
            | (go_at_call 47; refine (TE1.out _ HR.out.tx.1).mono ?_; rintro e w2 ⟨rfl, k, rfl⟩)
            | (go_at_call 48; refine (next_lack (HR.out.drewN k) HNX.out hp0).mono ?_; rintro e w3 ⟨rfl, HB3⟩))
          exact ⟨rfl, _, HC.out.2.2.2 _ Runs.fin, by rw [HF.out]; exact ⟨rfl, (HB.out.trans (below_drewN _ _ _)).trans HB3⟩⟩
    | cons f G =>
      obtain ⟨k, cap, rfl, hgk, hAt⟩ := HR.out.top
      obtain ⟨gn, hgn⟩ : ∃ gn, G.length = gn := ⟨_, rfl⟩
      have e4 : IntKind.i64.wrap (gn : Int) = (gn : Int) := wrap_fit gn (by have := own_fit HR.out.stack; rw [List.length_cons, hgn] at this; omega)
      have e4b : (gn : Int) < (gn : Int) + 1 := by omega
      have hc8 := HR.out.at0.cell 8 _ rfl
      rw [hgn] at hAt hc8
      have ht0 := hAt.cell 0 _ rfl
      have ht1 := hAt.cell 1 _ rfl
      have ht2 := hAt.cell 2 _ rfl
      have ht3 := hAt.cell 3 _ rfl
      have ht4 := hAt.cell 4 _ rfl
      rw [Nat.add_zero] at ht0
      obtain ⟨lst, hlst⟩ : ∃ x : ByteArray, (if f.tag = 0x31 then (⟨f.last.toArray⟩ : ByteArray) else ByteArray.empty) = x := ⟨_, rfl⟩
      rw [hlst] at ht4
      have HLS := Lib.hid hlst
      have hk8 : ∀ ob : Obj, (wr.alloc ob).cell? ⟨g, 8, none⟩ = some (.slice (some ⟨k, 0, none⟩) (gn + 1) cap) := fun ob => by
        have := (HR.out.alloc ob).at0.cell 8 _ rfl
        rw [hgn] at this
        exact this
      have hkA : ∀ ob : Obj, At (wr.alloc ob) k (gn * 5) (fv f) := fun ob => hAt.alloc ob
      have hk0 : ∀ ob : Obj, (wr.alloc ob).cell? ⟨k, gn * 5, none⟩ = _ := fun ob => (hkA ob).cell 0 _ rfl
      have hk1 : ∀ ob : Obj, (wr.alloc ob).cell? ⟨k, gn * 5 + 1, none⟩ = _ := fun ob => (hkA ob).cell 1 _ rfl
      have hk2 : ∀ ob : Obj, (wr.alloc ob).cell? ⟨k, gn * 5 + 2, none⟩ = _ := fun ob => (hkA ob).cell 2 _ rfl
      have hk3 : ∀ ob : Obj, (wr.alloc ob).cell? ⟨k, gn * 5 + 3, none⟩ = _ := fun ob => (hkA ob).cell 3 _ rfl
      have hk4 : ∀ ob : Obj, (wr.alloc ob).cell? ⟨k, gn * 5 + 4, none⟩ = _ := fun ob => (hkA ob).cell 4 _ rfl
      rw [hlst] at hk4
      have HGN := Lib.hid hgn
      clear hAt hlst hkA
      have HRT := Lib.hid ((HR.out.alloc (Obj.cells #[.int .i64 (f.node : Int), .int .i64 (f.p0 : Int), .int .i64 (f.e : Int), .int .i64 (f.kids : Int), .string lst] 91)).drewN 1)
      have HAT := Lib.hid ((At.ofAlloc wr #[.int .i64 (f.node : Int), .int .i64 (f.p0 : Int), .int .i64 (f.e : Int), .int .i64 (f.kids : Int), .string lst] 91).drewN 1)
      have HBT := Lib.hid (HB.out.trans (((Below.refl g wr).alloc (Nat.le_of_lt HR.out.lt) (Obj.cells #[.int .i64 (f.node : Int), .int .i64 (f.p0 : Int), .int .i64 (f.e : Int), .int .i64 (f.kids : Int), .string lst] 91)).drew))
      go_upto_region 2 with fail
      go_cut [2] from 11 to 22 (fun v wx => ∃ T, v = .pointer (some ⟨T, 0, none⟩) ∧ Rd wx g s L p l (f :: G) vn (.slice (some ⟨k, 0, none⟩) (G.length + 1) cap) ro ∧ At wx T 0 [.int .i64 (f.node : Int), .int .i64 (f.p0 : Int), .int .i64 (f.e : Int), .int .i64 (f.kids : Int), .string lst] ∧ Below g w wx ∧ wr.heap.size ≤ T)
      case first =>
        go_wp2_with fail
        go_region
        go_wp2_with fail
        go_meet
        case rel => exact ⟨wr.heap.size, rfl, HRT.out, HAT.out, HBT.out, Nat.le_refl _⟩
      case rest =>
        obtain ⟨T, rfl, hRT, hAT, hBT, hgT⟩ := hcut
        have HRC := Lib.hid hRT
        have HAC := Lib.hid hAT
        have HBC := Lib.hid hBT
        have HGT := Lib.hid hgT
        have hT2 := hAT.cell 2 _ rfl
        clear hk8 hk0 hk1 hk2 hk3 hk4 hc8 ht0 ht1 ht2 ht3 ht4 hRT hBT hgT hAT HRT HAT HBT
        by_cases hpe : p < f.e
        · have e8 : (p : Int) < (f.e : Int) := by omega
          have HPE := Lib.hid hpe
          clear hpe
          go_wp2_with fail
          go_quiet (first | (go_at_call 45; exact (place_yes (HRC.out.drewN _)).mono fun _ _ h => ⟨h.1, _, h.2.symm⟩))
          go_wp2_with fail
          refine (element_any _ g s L p l (f :: G) _ _ ro ⟨HRC.out.drewN _, HC.out.1, HC.out.2.1, HYP.out.2.2.2.1, HYP.out.2.2.2.2.1, HYP.out.2.2.2.2.2.1, HYP.out.2.2.2.2.2.2.1, HYP.out.2.2.2.2.2.2.2.below (HBC.out.trans (below_drewN _ _ _))⟩).mono ?_
          intro e w5 h5
          have hloop : loopS f G l p = .el (f :: G) l p := by rw [loopS, if_pos HPE.out]
          rcases elT_cases (S := s.toList) (L := L) (G := f :: G) (l := l) (p := p) with ⟨c, q, b, hE, hRun⟩ | ⟨G3, l3, p3, hE, hRun⟩
          · rw [hE] at h5
            obtain ⟨rfl, hb⟩ := h5
            have HB9 := Lib.hid hb
            have HL := Lib.hid hloop
            have HRN := Lib.hid hRun
            clear hb hloop hRun hE
            go_wp2_with fail
            exact ⟨rfl, .no c q b, HC.out.2.2.2 _ (Runs.loop (by rw [HL.out]; exact HRN.out)), rfl, (HBC.out.trans (below_drewN _ _ _)).trans HB9.out⟩
          rw [hE] at h5
          obtain ⟨rfl, ⟨vn5, vs5, HR5⟩, HB5⟩ := h5
          obtain ⟨h2, h3, h4, h6⟩ := elT_next HC.out.1 hE
          rw [tl_size] at h3
          have HIN : Hid (InTree g s L ro w (2 * (s.size - p3) + G3.length + 1) w5) := ⟨G3, l3, p3, vn5, vs5, HR5, ⟨h4, h3, by omega, fun r hr => HC.out.2.2.2 _ (Runs.loop (by rw [hloop]; exact hRun r hr))⟩, (HBC.out.trans (below_drewN _ _ _)).trans HB5.out⟩
          have HLT : Hid (2 * (s.size - p3) + G3.length + 1 < gk + 1 ∧ 2 * (s.size - p3) + G3.length + 1 < gk) := by
            have := HC.out.2.2.1
            have := HPE.out
            rw [List.length_cons] at *
            constructor <;> omega
          clear hE hRun h2 h3 h4 h6 HR5 HB5 hloop
          go_wp2_with fail
          go_roundg (2 * (s.size - p3) + G3.length + 1)
          case measure => exact HLT.out.2
          case rel => exact HIN.out
        · have e8 : ¬ (p : Int) < (f.e : Int) := by omega
          have e8b : decide ((p : Int) < (f.e : Int)) = false := decide_eq_false e8
          have HPE := Lib.hid hpe
          obtain ⟨kn, capn, rfl, hgn2, hAn⟩ := HRC.out.node f.node HC.out.1.2.2.1
          have hc7 := HRC.out.at0.cell 7 _ rfl
          have hn1 := hAn.cell 1 _ rfl
          have hnf := hAn.froz 1 (by simp [nv])
          have hT0 := HAC.out.cell 0 _ rfl
          have hT3 := HAC.out.cell 3 _ rfl
          have hlt : (f.node : Int) < (l.length : Int) := by have := HC.out.1.2.2.1; omega
          have HK6 := Lib.hid (fun K => (HRC.out.drewN K).setKids f.node HC.out.1.2.2.1 (f.kids : Int))
          have hcap : gn + 1 ≤ cap := by have := own_cap HRC.out.stack; rw [hgn] at this; exact this
          have hcapz : (gn : Int) ≤ (cap : Int) := by omega
          have hknT : kn ≠ T := fun h => by
            have h1 := (HR.out.nodes.lt kn rfl).2
            have := HGT.out
            omega
          have HA6 := Lib.hid (fun K => (HAC.out.drewN K).other kn (f.node * 3 + 1) (.int .i64 (f.kids : Int)) (Or.inl hknT))
          have HB6 := Lib.hid (fun K => (HBC.out.trans (below_drewN g wc K)).setCell (p := ⟨kn, f.node * 3 + 1, none⟩) (Nat.le_of_lt hgn2) (.int .i64 (f.kids : Int)))
          clear hpe hAn
          go_wp2_with fail
          go_quiet (first | (go_at_call 45; exact (place_yes (HRC.out.drewN _)).mono fun _ _ h => ⟨h.1, _, h.2.symm⟩))
          go_wp2_with fail
          go_cut [] from 32 to 41 (fun wx => Rd wx g s L p (l.modify f.node fun n => { n with kids := (f.kids : Int) }) (f :: G) (.slice (some ⟨kn, 0, none⟩) l.length capn) (.slice (some ⟨k, 0, none⟩) (G.length + 1) cap) ro ∧ At wx T 0 [.int .i64 (f.node : Int), .int .i64 (f.p0 : Int), .int .i64 (f.e : Int), .int .i64 (f.kids : Int), .string lst] ∧ Below g w wx)
          case first =>
            go_wp2_with fail
            go_region
            go_wp2_with fail
            go_meet
            case rel => exact ⟨HK6.out _, HA6.out _, HB6.out _⟩
          case rest =>
            obtain ⟨hR6, hA6, hB6⟩ := hcut
            have HR7 := Lib.hid hR6
            have HA7 := Lib.hid hA6
            have HB7 := Lib.hid hB6
            have hc8 := hR6.at0.cell 8 _ rfl
            have hf8 := hR6.at0.froz 8 (by simp)
            rw [hgn] at hc8
            have hA71 := hA6.cell 1 _ rfl
            have HR8 := HR7.out.pop
            rw [hgn] at HR8
            have HR9 := Lib.hid (HR8.drewN 1)
            have HB9 := Lib.hid ((HB7.out.setCell (p := ⟨g, 8, none⟩) (Nat.le_refl _) (.slice (some ⟨k, 0, none⟩) gn cap)).trans (below_drewN g _ 1))
            have HCH : Hid (Chain (l.modify f.node fun n => { n with kids := (f.kids : Int) }) G f.p0 ∧ f.p0 < p) := ⟨HC.out.1.2.2.2.2.modify _ _, HC.out.1.2.1⟩
            clear HR8
            clear hR6 hA6 hB6 HK6 hn1 hnf hT0 hT3 hc7 hT2 HB6 HA6
            go_wp2_with fail
            go_region
            go_wp2_with fail
            refine (ended_any _ g s L f.p0 p _ G _ _ ro HR9.out HCH.out.1 (Nat.le_of_lt HCH.out.2) HC.out.2.1 HYP.out.2.2.2.1).mono ?_
            intro e w9 h9
            have hloop : loopS f G l p = .pend G (l.modify f.node fun n => { n with kids := (f.kids : Int) }) f.p0 p := by rw [loopS, if_neg HPE.out]
            have HL := Lib.hid hloop
            rcases pend_cases (S := s.toList) (l := l.modify f.node fun n => { n with kids := (f.kids : Int) }) (G := G) (a := f.p0) (p := p) with ⟨c, q, b, hE⟩ | ⟨G3, hE⟩
            · rw [hE] at h9
              obtain ⟨rfl, hb⟩ := h9
              have HBx := Lib.hid hb
              have HE := Lib.hid hE
              clear hb hloop hE
              go_wp2_with fail
              exact ⟨rfl, .no c q b, HC.out.2.2.2 _ (Runs.loop (by rw [HL.out]; exact Runs.pendNo HE.out)), rfl, HB9.out.trans HBx.out⟩
            rw [hE] at h9
            obtain ⟨rfl, HRx, HBx⟩ := h9
            obtain ⟨-, -, h4, h6⟩ := pend_chain HCH.out.1 HCH.out.2 hE
            have HIN : Hid (InTree g s L ro w (2 * (s.size - p) + G3.length + 1) w9) := ⟨G3, _, p, _, _, HRx, ⟨h4, HC.out.2.1, by omega, fun r hr => HC.out.2.2.2 _ (Runs.loop (by rw [HL.out]; exact Runs.pend hE hr))⟩, HB9.out.trans HBx.out⟩
            have HLT : Hid (2 * (s.size - p) + G3.length + 1 < gk) := by
              show 2 * (s.size - p) + G3.length + 1 < gk
              have := HC.out.2.2.1
              rw [List.length_cons] at this
              omega
            clear hE h4 h6 HRx HBx hloop
            go_wp2_with fail
            go_roundg (2 * (s.size - p) + G3.length + 1)
            case measure => exact HLT.out
            case rel => exact HIN.out
end Go.Proofs.YteglahkgnggmgaaDoor
