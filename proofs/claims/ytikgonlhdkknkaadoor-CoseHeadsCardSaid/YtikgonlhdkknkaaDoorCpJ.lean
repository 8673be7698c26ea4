/- Items: one is read; the loop over what is begun. -/
import Derived.Test.YtikgonlhdkknkaaDoorCpH
import Derived.Test.YtikgonlhdkknkaaDoorCpI
import Derived.Deep.LoopGhost
namespace Go.Proofs.YtikgonlhdkknkaaDoor
open Go.RowKit
set_option linter.unusedVariables false
set_option linter.unusedSimpArgs false
namespace Co
open Dr (Rs Lm has lack at0S)
theorem item_any (w : World) (g : Nat) (s : ByteArray) (L : Lm) (p : Nat) (l : List Am) (G : List Fr) (vn vs : Value) (ro : Int) (hyp : ElHyp w g s L p l G vn vs ro) :
    Calls Tryd.prog 49 #[.pointer (some ⟨g, 0, none⟩)] w (RsAll (elT s.toList L G l p) g s L ro w) := by
  by_cases h0 : p < s.size ∧ p < L.bytes
  · obtain ⟨t, ht⟩ : ∃ t, (s.toList.getD p 0).toNat = t := ⟨_, rfl⟩
    by_cases h2 : L.items ≤ l.length
    · exact item_items w g s L p l G vn vs ro hyp h0 t ht h2
    by_cases h3 : headE (s.toList.getD p 0) = 0
    · cases hA : argR s.toList L p with
      | no c q b => exact item_arg w g s L p l G vn vs ro hyp h0 t ht h2 h3 c q b hA
      | ok n =>
        obtain ⟨k, hk⟩ : ∃ k, kindT (s.toList.getD p 0) = k := ⟨_, rfl⟩
        obtain ⟨q, hq⟩ : ∃ q, p + 1 + widT (s.toList.getD p 0) = q := ⟨_, rfl⟩
        by_cases h5 : k = 2 ∨ k = 3
        · by_cases h6 : n ≠ 0 ∧ has s.toList L (q + n - 1) = false
          · rcases h5 with rfl | rfl
            · exact item_short2 w g s L p l G vn vs ro hyp h0 t ht h2 h3 n hA hk q hq h6
            · exact item_short3 w g s L p l G vn vs ro hyp h0 t ht h2 h3 n hA hk q hq h6
          · rcases h5 with rfl | rfl
            · exact item_text2 w g s L p l G vn vs ro hyp h0 t ht h2 h3 n hA hk q hq h6
            · cases h7 : Lib.validD (Dr.part s.toList q (q + n)) with
              | true => exact item_text3 w g s L p l G vn vs ro hyp h0 t ht h2 h3 n hA hk q hq h6 h7
              | false => exact item_utf3 w g s L p l G vn vs ro hyp h0 t ht h2 h3 n hA hk q hq h6 h7
        · cases h6 : holds k with
          | false => exact item_plain w g s L p l G vn vs ro hyp h0 t ht h2 h3 n hA k hk q hq h5 h6
          | true =>
            by_cases h7 : L.depth ≤ G.length
            · exact item_deep w g s L p l G vn vs ro hyp h0 t ht h2 h3 n hA k hk q hq h6 h7
            · exact item_hold w g s L p l G vn vs ro hyp h0 t ht h2 h3 n hA k hk q hq h6 h7
    · exact item_bad w g s L p l G vn vs ro hyp h0 t ht h2 h3
  · exact item_lack w g s L p l G vn vs ro hyp h0
abbrev RunsC (S : List UInt8) (L : Lm) : St → Rs (List Am) → Prop := Runs S L Lib.validD Op.bytesLess
/-- frames in a loop's state: the topmost one may hold nothing more -/
def Top (G : List Fr) (p : Nat) : Prop := (∀ f ∈ G, f.left < 18446744073709551616 ∧ f.p0 ≤ p) ∧ ∀ f ∈ G.tail, 0 < f.left
theorem Top.gd {f : Fr} {G : List Fr} {p : Nat} (h : Top (f :: G) p) (h0 : f.left ≠ 0) : Gd (f :: G) p := fun x hx => by
  have h1 := h.1 x hx
  refine ⟨?_, h1.1, h1.2⟩
  rcases List.mem_cons.1 hx with rfl | hx
  · omega
  · exact h.2 x hx
theorem Top.rest {f : Fr} {G : List Fr} {p : Nat} (h : Top (f :: G) p) : Gd G p := fun x hx => by
  have h1 := h.1 x (List.mem_cons_of_mem _ hx)
  exact ⟨h.2 x hx, h1.1, h1.2⟩
theorem Gd.mono {G : List Fr} {p q : Nat} (h : Gd G p) (hq : p ≤ q) : Gd G q := fun x hx => by
  have h1 := h x hx
  exact ⟨h1.1, h1.2.1, by omega⟩
theorem pend_top {S : List UInt8} {G : List Fr} {l : List Am} {a p : Nat} {s : St} (hG : Gd G p) (h : pendS S Op.bytesLess G l a p = .ok s) : ∃ G3, s = .loop G3 l p ∧ Top G3 p ∧ G3.length = G.length := by
  cases G with
  | nil =>
    cases h
    exact ⟨[], rfl, ⟨fun x hx => (by cases hx), fun x hx => (by cases hx)⟩, rfl⟩
  | cons f G =>
    obtain ⟨rfl, -⟩ := pend_inv h
    refine ⟨_, rfl, ⟨fun x hx => ?_, fun x hx => (hG x (List.mem_cons_of_mem _ hx)).1⟩, rfl⟩
    rcases List.mem_cons.1 hx with rfl | hx
    · have h1 := hG f (List.mem_cons_self ..)
      rw [adv]
      split
      · exact ⟨h1.2.1, h1.2.2⟩
      · exact ⟨by show f.left - 1 < _; omega, h1.2.2⟩
    · have h1 := hG x (List.mem_cons_of_mem _ hx)
      exact ⟨h1.2.1, h1.2.2⟩
section
variable {S : List UInt8} {L : Lm} {G : List Fr} {l : List Am} {p : Nat}
theorem elT_cases : (∃ e q b, elT S L G l p = .no e q b ∧ RunsC S L (.el G l p) (.no e q b)) ∨ (∃ s, elT S L G l p = .ok s ∧ ∀ r, RunsC S L s r → RunsC S L (.el G l p) r) := by
  cases hq : elS S L Lib.validD G l p with
  | no e q b => exact Or.inl ⟨e, q, b, by rw [elT, hq], Runs.elNo hq⟩
  | ok s =>
    cases s with
    | el G2 l2 p2 => exact Or.inr ⟨_, by rw [elT, hq], fun r h => Runs.el hq h⟩
    | loop G2 l2 p2 => exact Or.inr ⟨_, by rw [elT, hq], fun r h => Runs.el hq h⟩
    | pend G2 l2 a q =>
      cases hp : pendS S Op.bytesLess G2 l2 a q with
      | no e q2 b => exact Or.inl ⟨e, q2, b, by rw [elT, hq]; exact hp, Runs.el hq (Runs.pendNo hp)⟩
      | ok s2 => exact Or.inr ⟨s2, by rw [elT, hq]; exact hp, fun r h => Runs.el hq (Runs.pend hp h)⟩
theorem elT_next (hG : Gd G p) {s : St} (h : elT S L G l p = .ok s) : ∃ G2 l2 p2, s = .loop G2 l2 p2 ∧ p + 1 ≤ p2 ∧ p2 ≤ S.length ∧ Top G2 p2 ∧ G2.length ≤ G.length + 1 := by
  rw [elT] at h
  cases hq : elS S L Lib.validD G l p with
  | no e q b => rw [hq] at h; cases h
  | ok s1 =>
    rw [hq] at h
    obtain ⟨h0, h1, h2, n, hA, hE⟩ := elS_ok hq
    obtain ⟨g1, g2, g3, g4⟩ := argR_inv h0 h2 hA
    cases hE with
    | text h3 h4 h5 =>
      have hle : p + 1 + widT (S.getD p 0) + n ≤ S.length := by
        rcases h4 with rfl | h4
        · omega
        · have h9 : _ < S.length ∧ _ < L.bytes := of_decide_eq_true h4
          omega
      obtain ⟨G3, rfl, h6, h7⟩ := pend_top (hG.mono (by omega)) h
      exact ⟨_, _, _, rfl, by omega, hle, h6, by omega⟩
    | plain h3 h4 =>
      obtain ⟨G3, rfl, h6, h7⟩ := pend_top (hG.mono (by omega)) h
      exact ⟨_, _, _, rfl, by omega, g4, h6, by omega⟩
    | hold h3 h4 =>
      cases h
      refine ⟨_, _, _, rfl, by omega, g4, ⟨fun x hx => ?_, fun x hx => (hG x hx).1⟩, by simp⟩
      rcases List.mem_cons.1 hx with rfl | hx
      · refine ⟨?_, by show p ≤ _; omega⟩
        show (if kindT (S.getD p 0) = 6 then 1 else n) < _
        split <;> omega
      · have h9 := hG x hx
        exact ⟨h9.2.1, by omega⟩
end
theorem Rd.pop {w : World} {g : Nat} {s : ByteArray} {L : Lm} {p : Nat} {l : List Am} {G : List Fr} {f : Fr} {vn : Value} {ro : Int} {k cap : Nat} (h : Rd w g s L p l (f :: G) vn (.slice (some ⟨k, 0, none⟩) (G.length + 1) cap) ro) :
    Rd (w.setCell ⟨g, 8, none⟩ (.slice (some ⟨k, 0, none⟩) G.length cap)) g s L p l G vn (.slice (some ⟨k, 0, none⟩) G.length cap) ro := by
  have h1 : w.ownsRow (g + 1) 108 6 (.slice (some ⟨k, 0, none⟩) G.length cap) G.length (hcells G) := ownsRow_pop (last := hv f) (by rw [hcells_length]; omega) (by rw [← hcells_cons]; exact h.stack)
  exact ⟨h.at0.set 8 _, ownsRow_setCell_below h.nodes (Nat.lt_succ_self g) _, ownsRow_setCell_below h1 (Nat.lt_succ_self g) _, by
    rw [show (w.setCell ⟨g, 8, none⟩ (.slice (some ⟨k, 0, none⟩) G.length cap)).heap.size = w.heap.size by simp [World.setCell]]; exact h.lt⟩
def RsWhole (r : Rs (List Am)) (g : Nat) (s : ByteArray) (L : Lm) (ro : Int) (w : World) (e : Ending) (w' : World) : Prop :=
  match r with
  | .ok l => e = .returned (.tuple #[]) ∧ (∃ p vn vs, Hid (Rd w' g s L p l [] vn vs ro)) ∧ Hid (Below g w w')
  | .no c q _ => No c q g w e w'
def WholeP (g : Nat) (s : ByteArray) (L : Lm) (ro : Int) (w : World) (e : Ending) (w' : World) : Prop := ∃ r, RunsC s.toList L (.el [] [] 0) r ∧ RsWhole r g s L ro w e w'
def InWhole (g : Nat) (s : ByteArray) (L : Lm) (ro : Int) (w : World) (gk : Nat) (wr : World) : Prop :=
  ∃ G l p vn vs, Hid (Rd wr g s L p l G vn vs ro) ∧ Hid (Top G p ∧ p ≤ s.size ∧ 2 * (s.size - p) + G.length < gk ∧ ∀ r, RunsC s.toList L (.loop G l p) r → RunsC s.toList L (.el [] [] 0) r) ∧ Hid (Below g w wr)
set_option maxRecDepth 100000 in
set_option maxHeartbeats 1600000 in
theorem whole_any (w : World) (g : Nat) (s : ByteArray) (L : Lm) (vn vs : Value) (ro : Int) (hyp : ElHyp w g s L 0 [] [] vn vs ro) :
    Calls Tryd.prog 37 #[.pointer (some ⟨g, 0, none⟩)] w (WholeP g s L ro w) := by
  have F := Lib.hid (fun c p w => fail_any c p w)
  have EL := Lib.hid (item_any w g s L 0 [] [] vn vs ro hyp)
  have HYP := Lib.hid hyp
  clear hyp
  go_enter Tryd.func37, Tryd.ntmps37
  go_wp2_with fail
  refine EL.out.mono ?_
  intro e w1 h1
  rcases elT_cases (S := s.toList) (L := L) (G := []) (l := []) (p := 0) with ⟨c, q, b, hE, hRun⟩ | ⟨s2, hE, hRun⟩
  · rw [hE] at h1
    obtain ⟨rfl, hb⟩ := h1
    exact ⟨rfl, _, hRun, rfl, hb⟩
  obtain ⟨G2, l2, p2, rfl, h2, h3, h4, h5⟩ := elT_next (show Gd [] 0 from fun x hx => by cases hx) hE
  rw [hE] at h1
  obtain ⟨rfl, ⟨vn1, vs1, HR1⟩, HB1⟩ := h1
  rw [tl_size] at h3
  have HIN : Hid (InWhole g s L ro w (2 * s.size + 2) w1) := ⟨G2, l2, p2, vn1, vs1, HR1, ⟨h4, h3, by have : G2.length ≤ 0 + 1 := h5; omega, hRun⟩, HB1⟩
  clear hE hRun h2 h3 h4 h5 HR1 HB1
  go_wp2_with fail
  go_loopg [] (2 * s.size + 2) (fun gk wr => InWhole g s L ro w gk wr)
  case atStart => exact HIN.out
  case round =>
    obtain ⟨G, l, p, vn, vs, HR, HC, HB⟩ := hrel
    clear HIN EL
    cases G with
    | nil =>
      obtain ⟨ad, cd, rfl, -⟩ := own_form HR.out.stack
      have hc8 := HR.out.at0.cell 8 _ rfl
      have TE := Lib.hid (fun w b hT hb => tended_ok w g s L.bytes p b hT hb)
      by_cases hE : s.size ≤ p
      · have TE1 := Lib.hid (fun w hT => TE.out w true hT (decide_eq_true hE))
        have HF : Hid (fin s.toList L l p = .ok l) := by show _ = _; rw [fin, if_neg (by rw [tl_size]; omega)]
        clear hE
        go_wp2_with (first | (go_at_call 53; refine (TE1.out _ HR.out.tx.1).mono ?_; rintro e w2 ⟨rfl, k, rfl⟩))
        first | go_end0 | refine bodyPost_ret (results_none rfl _ _ _) rfl ?_
        exact ⟨_, HC.out.2.2.2 _ Runs.fin, by rw [HF.out]; exact ⟨rfl, ⟨_, _, _, HR.out.drewN k⟩, HB.out.trans (below_drewN _ _ _)⟩⟩
      · have TE1 := Lib.hid (fun w hT => TE.out w false hT (decide_eq_false hE))
        by_cases h0 : p < s.size ∧ p < L.bytes
        · have HF : Hid (fin s.toList L l p = .no 9 p false) := by show _ = _; rw [fin, if_pos (by rw [tl_size]; omega), if_pos (has_yes s L p h0)]
          have e9 : (p : Int) ≤ 140737488351232 := by have := HYP.out.2.2.2.1; omega
          have HNX := Lib.hid h0
          clear hE h0
          go_wp2_with (first
            | (go_at_call 53; refine (TE1.out _ HR.out.tx.1).mono ?_; rintro e w2 ⟨rfl, k, rfl⟩)
            | (go_at_call 54; refine (next_yes (HR.out.drewN k) HNX.out.1 HNX.out.2 HYP.out.2.2.2.1 _ rfl).mono ?_; rintro e w3 ⟨rfl, HR3, HB3⟩)
            | (go_at_call 56; refine (place_yes HR3.out).mono ?_; rintro e w4 ⟨rfl, rfl⟩)
            | (go_at_call 55; refine (F.out _ _ _).mono ?_; rintro e w5 ⟨rfl, rfl⟩))
          exact ⟨rfl, _, HC.out.2.2.2 _ Runs.fin, by rw [HF.out]; exact ⟨rfl, (HB.out.trans (below_drewN _ _ _)).trans HB3.out⟩⟩
        · have HF : Hid (fin s.toList L l p = .no (lkE L.bytes s) (lkP L.bytes s) (decide (s.size ≤ L.bytes))) := by show _ = _; rw [fin, if_pos (by rw [tl_size]; omega), if_neg (by rw [has_no s L p h0]; decide), lack_eq]
          have HNX := Lib.hid h0
          have hp0 : p ≤ 140737488351232 := by have := HYP.out.2.2.2.1; have := HC.out.2.1; omega
          clear hE h0
          go_wp2_with (first
            | (go_at_call 53; refine (TE1.out _ HR.out.tx.1).mono ?_; rintro e w2 ⟨rfl, k, rfl⟩)
            | (go_at_call 54; refine (next_lack (HR.out.drewN k) HNX.out hp0).mono ?_; rintro e w3 ⟨rfl, HB3⟩))
          exact ⟨rfl, _, HC.out.2.2.2 _ Runs.fin, by rw [HF.out]; exact ⟨rfl, (HB.out.trans (below_drewN _ _ _)).trans HB3⟩⟩
    | cons f G =>
      obtain ⟨k, cap, rfl, hgk, hAt⟩ := HR.out.top
      obtain ⟨gn, hgn⟩ : ∃ gn, G.length = gn := ⟨_, rfl⟩
      have e4 : IntKind.i64.wrap (gn : Int) = (gn : Int) := wrap_fit gn (by have := own_fit HR.out.stack; rw [List.length_cons, hgn] at this; omega)
      have e4b : (gn : Int) < (gn : Int) + 1 := by omega
      have hc8 := HR.out.at0.cell 8 _ rfl
      rw [hgn] at hAt hc8
      have ht0 := hAt.cell 0 _ rfl
      have ht1 := hAt.cell 1 _ rfl
      have ht2 := hAt.cell 2 _ rfl
      have ht3 := hAt.cell 3 _ rfl
      have ht4 := hAt.cell 4 _ rfl
      have ht5 := hAt.cell 5 _ rfl
      rw [Nat.add_zero] at ht0
      have hk8 : ∀ ob : Obj, (wr.alloc ob).cell? ⟨g, 8, none⟩ = some (.slice (some ⟨k, 0, none⟩) (gn + 1) cap) := fun ob => by
        have := (HR.out.alloc ob).at0.cell 8 _ rfl
        rw [hgn] at this
        exact this
      have hkA : ∀ ob : Obj, At (wr.alloc ob) k (gn * 6) (hv f) := fun ob => hAt.alloc ob
      have hk0 : ∀ ob : Obj, (wr.alloc ob).cell? ⟨k, gn * 6, none⟩ = _ := fun ob => (hkA ob).cell 0 _ rfl
      have hk1 : ∀ ob : Obj, (wr.alloc ob).cell? ⟨k, gn * 6 + 1, none⟩ = _ := fun ob => (hkA ob).cell 1 _ rfl
      have hk2 : ∀ ob : Obj, (wr.alloc ob).cell? ⟨k, gn * 6 + 2, none⟩ = _ := fun ob => (hkA ob).cell 2 _ rfl
      have hk3 : ∀ ob : Obj, (wr.alloc ob).cell? ⟨k, gn * 6 + 3, none⟩ = _ := fun ob => (hkA ob).cell 3 _ rfl
      have hk4 : ∀ ob : Obj, (wr.alloc ob).cell? ⟨k, gn * 6 + 4, none⟩ = _ := fun ob => (hkA ob).cell 4 _ rfl
      have hk5 : ∀ ob : Obj, (wr.alloc ob).cell? ⟨k, gn * 6 + 5, none⟩ = _ := fun ob => (hkA ob).cell 5 _ rfl
      have HGN := Lib.hid hgn
      clear hAt hkA
      have HRT := Lib.hid ((HR.out.alloc (Obj.cells #[.int .i64 (f.p0 : Int), .int .u64 (f.left : Int), .bool f.pairs, .bool f.value, .bool f.keys, .string ⟨f.last.toArray⟩] 108)).drewN 1)
      have HAT := Lib.hid ((At.ofAlloc wr #[.int .i64 (f.p0 : Int), .int .u64 (f.left : Int), .bool f.pairs, .bool f.value, .bool f.keys, .string ⟨f.last.toArray⟩] 108).drewN 1)
      have HBT := Lib.hid (HB.out.trans (((Below.refl g wr).alloc (Nat.le_of_lt HR.out.lt) (Obj.cells #[.int .i64 (f.p0 : Int), .int .u64 (f.left : Int), .bool f.pairs, .bool f.value, .bool f.keys, .string ⟨f.last.toArray⟩] 108)).drew))
      go_upto_region 2 with fail
      go_cut [2] from 11 to 22 (fun v wx => ∃ T, v = .pointer (some ⟨T, 0, none⟩) ∧ Rd wx g s L p l (f :: G) vn (.slice (some ⟨k, 0, none⟩) (G.length + 1) cap) ro ∧ At wx T 0 (hv f) ∧ Below g w wx ∧ wr.heap.size ≤ T)
      case first =>
        go_wp2_with fail
        go_region
        go_wp2_with fail
        go_meet
        case rel => exact ⟨wr.heap.size, rfl, HRT.out, HAT.out, HBT.out, Nat.le_refl _⟩
      case rest =>
        obtain ⟨T, rfl, hRT, hAT, hBT, hgT⟩ := hcut
        have HRC := Lib.hid hRT
        have HAC := Lib.hid hAT
        have HBC := Lib.hid hBT
        have HGT := Lib.hid hgT
        have hT1 := hAT.cell 1 _ rfl
        have hT0 := hAT.cell 0 _ rfl
        rw [Nat.add_zero] at hT0
        clear hk8 hk0 hk1 hk2 hk3 hk4 hk5 hc8 ht0 ht1 ht2 ht3 ht4 ht5 hRT hBT hgT hAT HRT HAT HBT
        have FU := Lib.hid (full_any wc T 0 f.left hT1)
        by_cases hpe : f.left = 0
        · rw [decide_eq_true hpe] at FU
          have HPE := Lib.hid hpe
          have hc8 := HRC.out.at0.cell 8 _ rfl
          have hf8 := HRC.out.at0.froz 8 (by simp)
          rw [hgn] at hc8
          have hcap : gn + 1 ≤ cap := by have := own_cap HRC.out.stack; rw [hgn] at this; exact this
          have hcapz : (gn : Int) ≤ (cap : Int) := by omega
          have HR8 := HRC.out.pop
          rw [hgn] at HR8
          have HR9 := Lib.hid (fun z : Nat => HR8.drewN z)
          have HB9 := Lib.hid (fun z : Nat => (HBC.out.setCell (p := ⟨g, 8, none⟩) (Nat.le_refl _) (.slice (some ⟨k, 0, none⟩) gn cap)).trans (below_drewN g _ z))
          have hgT2 : g ≠ T := by have h1 := HGT.out; have h2 := HR.out.lt; omega
          have ATC := Lib.hid (fun z : Nat => at_any ((wc.setCell ⟨g, 8, none⟩ (.slice (some ⟨k, 0, none⟩) gn cap)).drewN z) T 0 f.p0 (((HAC.out.other g 8 (.slice (some ⟨k, 0, none⟩) gn cap) (Or.inl hgT2)).drewN z).cell 0 _ rfl))
          clear hpe HR8 hcap hT0 hT1
          go_wp2_with (first
            | (go_at_call 50; refine FU.out.mono ?_; rintro e w5 ⟨rfl, rfl⟩))
          go_region
          go_wp2_with (first
            | (go_at_call 52; refine (ATC.out _).mono ?_; rintro e w5 ⟨rfl, rfl⟩))
          refine (citemEnded_any _ g s L f.p0 p _ G _ _ ro (HR9.out _) HC.out.1.rest.head (HC.out.1.1 f (List.mem_cons_self ..)).2 HC.out.2.1 HYP.out.2.2.2.1).mono ?_
          intro e w9 h9
          have hloop : loopS f G l p = .pend G l f.p0 p := by rw [loopS, if_pos HPE.out]
          have HL := Lib.hid hloop
          cases hE : pendS s.toList Op.bytesLess G l f.p0 p with
          | no c q b =>
            rw [hE] at h9
            obtain ⟨rfl, hb⟩ := h9
            have HBx := Lib.hid hb
            have HE := Lib.hid hE
            clear hb hloop hE
            go_wp2_with fail
            exact ⟨rfl, .no c q b, HC.out.2.2.2 _ (Runs.loop (by rw [HL.out]; exact Runs.pendNo HE.out)), rfl, (HB9.out _).trans HBx.out⟩
          | ok s3 =>
            obtain ⟨G3, rfl, h4, h6⟩ := pend_top HC.out.1.rest hE
            rw [hE] at h9
            obtain ⟨rfl, HRx, HBx⟩ := h9
            have HIN : Hid (InWhole g s L ro w (2 * (s.size - p) + G3.length + 1) w9) := ⟨G3, _, p, _, _, HRx, ⟨h4, HC.out.2.1, by omega, fun r hr => HC.out.2.2.2 _ (Runs.loop (by rw [HL.out]; exact Runs.pend hE hr))⟩, (HB9.out _).trans HBx.out⟩
            have HLT : Hid (2 * (s.size - p) + G3.length + 1 < gk) := by
              show 2 * (s.size - p) + G3.length + 1 < gk
              have := HC.out.2.2.1
              rw [List.length_cons] at this
              omega
            clear hE h4 h6 HRx HBx hloop
            go_wp2_with fail
            go_roundg (2 * (s.size - p) + G3.length + 1)
            case measure => exact HLT.out
            case rel => exact HIN.out
        · rw [decide_eq_false hpe] at FU
          have HPE := Lib.hid hpe
          clear hpe hT0 hT1
          go_wp2_with (first
            | (go_at_call 50; refine FU.out.mono ?_; rintro e w5 ⟨rfl, rfl⟩))
          refine (item_any _ g s L p l (f :: G) _ _ ro ⟨HRC.out, HC.out.1.gd HPE.out, HC.out.2.1, HYP.out.2.2.2.1, HYP.out.2.2.2.2.1, HYP.out.2.2.2.2.2.1, HYP.out.2.2.2.2.2.2.1, HYP.out.2.2.2.2.2.2.2.below HBC.out⟩).mono ?_
          intro e w5 h5
          have hloop : loopS f G l p = .el (f :: G) l p := by rw [loopS, if_neg HPE.out]
          rcases elT_cases (S := s.toList) (L := L) (G := f :: G) (l := l) (p := p) with ⟨c, q, b, hE, hRun⟩ | ⟨s3, hE, hRun⟩
          · rw [hE] at h5
            obtain ⟨rfl, hb⟩ := h5
            have HB9 := Lib.hid hb
            have HL := Lib.hid hloop
            have HRN := Lib.hid hRun
            clear hb hloop hRun hE
            go_wp2_with fail
            exact ⟨rfl, .no c q b, HC.out.2.2.2 _ (Runs.loop (by rw [HL.out]; exact HRN.out)), rfl, HBC.out.trans HB9.out⟩
          obtain ⟨G3, l3, p3, rfl, h2, h3, h4, h6⟩ := elT_next (HC.out.1.gd HPE.out) hE
          rw [hE] at h5
          obtain ⟨rfl, ⟨vn5, vs5, HR5⟩, HB5⟩ := h5
          rw [tl_size] at h3
          have HIN : Hid (InWhole g s L ro w (2 * (s.size - p3) + G3.length + 1) w5) := ⟨G3, l3, p3, vn5, vs5, HR5, ⟨h4, h3, by omega, fun r hr => HC.out.2.2.2 _ (Runs.loop (by rw [hloop]; exact hRun r hr))⟩, HBC.out.trans HB5.out⟩
          have HLT : Hid (2 * (s.size - p3) + G3.length + 1 < gk) := by
            show 2 * (s.size - p3) + G3.length + 1 < gk
            have := HC.out.2.2.1
            rw [List.length_cons] at *
            omega
          clear hE hRun h2 h3 h4 h6 HR5 HB5 hloop
          go_wp2_with fail
          go_roundg (2 * (s.size - p3) + G3.length + 1)
          case measure => exact HLT.out
          case rel => exact HIN.out
end Co
end Go.Proofs.YtikgonlhdkknkaaDoor
