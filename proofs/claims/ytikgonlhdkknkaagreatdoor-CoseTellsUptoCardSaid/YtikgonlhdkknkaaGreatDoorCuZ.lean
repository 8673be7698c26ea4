import Derived.Test.YtikgonlhdkknkaaGreatDoorCpH
import Derived.Test.YtikgonlhdkknkaaGreatDoorCpI
import Derived.Deep.LoopGhost
import Derived.Recover
import Derived.Defers
set_option maxRecDepth 100000
set_option maxHeartbeats 3200000
set_option linter.unusedVariables false
set_option linter.unusedSimpArgs false
open Go.Lib (hid)
namespace Go.Proofs.YtikgonlhdkknkaaGreatDoor
open Go.RowKit
namespace Co
open Dr (Rs Lm has lack at0S)
theorem item_any (w : World) (g : Nat) (s : ByteArray) (L : Lm) (p : Nat) (l : List Am) (G : List Fr) (vn vs : Value) (ro : Int) (hyp : ElHyp w g s L p l G vn vs ro) :
  Calls Tryz.prog 49 #[.pointer (some ⟨g, 0, none⟩)] w (RsAll (elT s.toList L G l p) g s L ro w) := by
 by_cases h0 : p < s.size ∧ p < L.bytes
 ·obtain ⟨t, ht⟩ : ∃ t, (s.toList.getD p 0).toNat = t := ⟨_, rfl⟩
  by_cases h2 : L.items ≤ l.length
  ·exact item_items w g s L p l G vn vs ro hyp h0 t ht h2
  by_cases h3 : headE (s.toList.getD p 0) = 0
  ·cases hA : argR s.toList L p with
   | no c q b => exact item_arg w g s L p l G vn vs ro hyp h0 t ht h2 h3 c q b hA
   | ok n =>
    obtain ⟨k, hk⟩ : ∃ k, kindT (s.toList.getD p 0) = k := ⟨_, rfl⟩
    obtain ⟨q, hq⟩ : ∃ q, p + 1 + widT (s.toList.getD p 0) = q := ⟨_, rfl⟩
    by_cases h5 : k = 2 ∨ k = 3
    ·by_cases h6 : n ≠ 0 ∧ has s.toList L (q + n - 1) = false
     ·rcases h5 with rfl | rfl
      ·exact item_short2 w g s L p l G vn vs ro hyp h0 t ht h2 h3 n hA hk q hq h6
      ·exact item_short3 w g s L p l G vn vs ro hyp h0 t ht h2 h3 n hA hk q hq h6
     ·rcases h5 with rfl | rfl
      ·exact item_text2 w g s L p l G vn vs ro hyp h0 t ht h2 h3 n hA hk q hq h6
      ·cases h7 : Lib.validD (Dr.part s.toList q (q + n)) with
       | true => exact item_text3 w g s L p l G vn vs ro hyp h0 t ht h2 h3 n hA hk q hq h6 h7
       | false => exact item_utf3 w g s L p l G vn vs ro hyp h0 t ht h2 h3 n hA hk q hq h6 h7
    ·cases h6 : holds k with
     | false => exact item_plain w g s L p l G vn vs ro hyp h0 t ht h2 h3 n hA k hk q hq h5 h6
     | true =>
      by_cases h7 : L.depth ≤ G.length
      ·exact item_deep w g s L p l G vn vs ro hyp h0 t ht h2 h3 n hA k hk q hq h6 h7
      ·exact item_hold w g s L p l G vn vs ro hyp h0 t ht h2 h3 n hA k hk q hq h6 h7
  ·exact item_bad w g s L p l G vn vs ro hyp h0 t ht h2 h3
 ·exact item_lack w g s L p l G vn vs ro hyp h0
abbrev RunsC (S : List UInt8) (L : Lm) : St → Rs (List Am) → Prop := Runs S L Lib.validD Op.bytesLess
def Top (G : List Fr) (p : Nat) : Prop := (∀ f ∈ G, f.left < 18446744073709551616 ∧ f.p0 ≤ p) ∧ ∀ f ∈ G.tail, 0 < f.left
theorem Top.gd {f : Fr} {G : List Fr} {p : Nat} (h : Top (f :: G) p) (h0 : f.left ≠ 0) : Gd (f :: G) p := fun x hx => by
 have h1 := h.1 x hx
 refine ⟨?_, h1.1, h1.2⟩
 rcases List.mem_cons.1 hx with rfl | hx
 ·omega
 ·exact h.2 x hx
theorem Top.rest {f : Fr} {G : List Fr} {p : Nat} (h : Top (f :: G) p) : Gd G p := fun x hx => by
 have h1 := h.1 x (List.mem_cons_of_mem _ hx)
 exact ⟨h.2 x hx, h1.1, h1.2⟩
theorem Gd.mono {G : List Fr} {p q : Nat} (h : Gd G p) (hq : p ≤ q) : Gd G q := fun x hx => by
 have h1 := h x hx
 exact ⟨h1.1, h1.2.1, by omega⟩
theorem pend_top {S : List UInt8} {G : List Fr} {l : List Am} {a p : Nat} {s : St} (hG : Gd G p) (h : pendS S Op.bytesLess G l a p = .ok s) : ∃ G3, s = .loop G3 l p ∧ Top G3 p ∧ G3.length = G.length := by
 cases G with
 | nil =>
  cases h
  exact ⟨[], rfl, ⟨fun x hx => (by cases hx), fun x hx => (by cases hx)⟩, rfl⟩
 | cons f G =>
  obtain ⟨rfl, -⟩ := pend_inv h
  refine ⟨_, rfl, ⟨fun x hx => ?_, fun x hx => (hG x (List.mem_cons_of_mem _ hx)).1⟩, rfl⟩
  rcases List.mem_cons.1 hx with rfl | hx
  ·have h1 := hG f (List.mem_cons_self ..)
   rw [adv]
   split
   ·exact ⟨h1.2.1, h1.2.2⟩
   ·exact ⟨by show f.left - 1 < _; omega, h1.2.2⟩
  ·have h1 := hG x (List.mem_cons_of_mem _ hx)
   exact ⟨h1.2.1, h1.2.2⟩
section
variable {S : List UInt8} {L : Lm} {G : List Fr} {l : List Am} {p : Nat}
theorem elT_cases : (∃ e q b, elT S L G l p = .no e q b ∧ RunsC S L (.el G l p) (.no e q b)) ∨ (∃ s, elT S L G l p = .ok s ∧ ∀ r, RunsC S L s r → RunsC S L (.el G l p) r) := by
 cases hq : elS S L Lib.validD G l p with
 | no e q b => exact Or.inl ⟨e, q, b, by rw [elT, hq], Runs.elNo hq⟩
 | ok s =>
  cases s with
  | el G2 l2 p2 => exact Or.inr ⟨_, by rw [elT, hq], fun r h => Runs.el hq h⟩
  | loop G2 l2 p2 => exact Or.inr ⟨_, by rw [elT, hq], fun r h => Runs.el hq h⟩
  | pend G2 l2 a q =>
   cases hp : pendS S Op.bytesLess G2 l2 a q with
   | no e q2 b => exact Or.inl ⟨e, q2, b, by rw [elT, hq]; exact hp, Runs.el hq (Runs.pendNo hp)⟩
   | ok s2 => exact Or.inr ⟨s2, by rw [elT, hq]; exact hp, fun r h => Runs.el hq (Runs.pend hp h)⟩
theorem elT_next (hG : Gd G p) {s : St} (h : elT S L G l p = .ok s) : ∃ G2 l2 p2, s = .loop G2 l2 p2 ∧ p + 1 ≤ p2 ∧ p2 ≤ S.length ∧ Top G2 p2 ∧ G2.length ≤ G.length + 1 := by
 rw [elT] at h
 cases hq : elS S L Lib.validD G l p with
 | no e q b => rw [hq] at h; cases h
 | ok s1 =>
  rw [hq] at h
  obtain ⟨h0, h1, h2, n, hA, hE⟩ := elS_ok hq
  obtain ⟨g1, g2, g3, g4⟩ := argR_inv h0 h2 hA
  cases hE with
  | text h3 h4 h5 =>
   have hle : p + 1 + widT (S.getD p 0) + n ≤ S.length := by
    rcases h4 with rfl | h4
    ·omega
    ·have h9 : _ < S.length ∧ _ < L.bytes := of_decide_eq_true h4
     omega
   obtain ⟨G3, rfl, h6, h7⟩ := pend_top (hG.mono (by omega)) h
   exact ⟨_, _, _, rfl, by omega, hle, h6, by omega⟩
  | plain h3 h4 =>
   obtain ⟨G3, rfl, h6, h7⟩ := pend_top (hG.mono (by omega)) h
   exact ⟨_, _, _, rfl, by omega, g4, h6, by omega⟩
  | hold h3 h4 =>
   cases h
   refine ⟨_, _, _, rfl, by omega, g4, ⟨fun x hx => ?_, fun x hx => (hG x hx).1⟩, by simp⟩
   rcases List.mem_cons.1 hx with rfl | hx
   ·refine ⟨?_, by show p ≤ _; omega⟩
    show (if kindT (S.getD p 0) = 6 then 1 else n) < _
    split <;> omega
   ·have h9 := hG x hx
    exact ⟨h9.2.1, by omega⟩
end
theorem Rd.pop {w : World} {g : Nat} {s : ByteArray} {L : Lm} {p : Nat} {l : List Am} {G : List Fr} {f : Fr} {vn : Value} {ro : Int} {k cap : Nat} (h : Rd w g s L p l (f :: G) vn (.slice (some ⟨k, 0, none⟩) (G.length + 1) cap) ro) :
  Rd (w.setCell ⟨g, 8, none⟩ (.slice (some ⟨k, 0, none⟩) G.length cap)) g s L p l G vn (.slice (some ⟨k, 0, none⟩) G.length cap) ro := by
 have h1 : w.ownsRow (g + 1) 110 6 (.slice (some ⟨k, 0, none⟩) G.length cap) G.length (hcells G) := ownsRow_pop (last := hv f) (by rw [hcells_length]; omega) (by rw [← hcells_cons]; exact h.stack)
 exact ⟨h.at0.set 8 _, ownsRow_setCell_below h.nodes (Nat.lt_succ_self g) _, ownsRow_setCell_below h1 (Nat.lt_succ_self g) _, by
  rw [show (w.setCell ⟨g, 8, none⟩ (.slice (some ⟨k, 0, none⟩) G.length cap)).heap.size = w.heap.size by simp [World.setCell]]; exact h.lt⟩
def RsWhole (r : Rs (List Am)) (g : Nat) (s : ByteArray) (L : Lm) (ro : Int) (w : World) (e : Ending) (w' : World) : Prop :=
 match r with
 | .ok l => e = .returned (.tuple #[]) ∧ (∃ p vn vs, Hid (Rd w' g s L p l [] vn vs ro)) ∧ Hid (Below g w w')
 | .no c q _ => No c q g w e w'
def WholeP (g : Nat) (s : ByteArray) (L : Lm) (ro : Int) (w : World) (e : Ending) (w' : World) : Prop := ∃ r, RunsC s.toList L (.el [] [] 0) r ∧ RsWhole r g s L ro w e w'
def InWhole (g : Nat) (s : ByteArray) (L : Lm) (ro : Int) (w : World) (gk : Nat) (wr : World) : Prop :=
 ∃ G l p vn vs, Hid (Rd wr g s L p l G vn vs ro) ∧ Hid (Top G p ∧ p ≤ s.size ∧ 2 * (s.size - p) + G.length < gk ∧ ∀ r, RunsC s.toList L (.loop G l p) r → RunsC s.toList L (.el [] [] 0) r) ∧ Hid (Below g w wr)
theorem whole_any (w : World) (g : Nat) (s : ByteArray) (L : Lm) (vn vs : Value) (ro : Int) (hyp : ElHyp w g s L 0 [] [] vn vs ro) :
  Calls Tryz.prog 30 #[.pointer (some ⟨g, 0, none⟩)] w (WholeP g s L ro w) := by
 have F := hid (fun c p w => fail_any c p w)
 have EL := hid (item_any w g s L 0 [] [] vn vs ro hyp)
 have HYP := hid hyp
 clear hyp
 go_enter Tryz.func30, Tryz.ntmps30
 go_wp2_with fail
 refine EL.out.mono ?_
 intro e w1 h1
 rcases elT_cases (S := s.toList) (L := L) (G := []) (l := []) (p := 0) with ⟨c, q, b, hE, hRun⟩ | ⟨s2, hE, hRun⟩
 ·rw [hE] at h1
  obtain ⟨rfl, hb⟩ := h1
  exact ⟨rfl, _, hRun, rfl, hb⟩
 obtain ⟨G2, l2, p2, rfl, h2, h3, h4, h5⟩ := elT_next (show Gd [] 0 from fun x hx => by cases hx) hE
 rw [hE] at h1
 obtain ⟨rfl, ⟨vn1, vs1, HR1⟩, HB1⟩ := h1
 rw [tl_size] at h3
 have HIN : Hid (InWhole g s L ro w (2 * s.size + 2) w1) := ⟨G2, l2, p2, vn1, vs1, HR1, ⟨h4, h3, by have : G2.length ≤ 0 + 1 := h5; omega, hRun⟩, HB1⟩
 clear hE hRun h2 h3 h4 h5 HR1 HB1
 go_wp2_with fail
 go_loopg [] (2 * s.size + 2) (fun gk wr => InWhole g s L ro w gk wr)
 case atStart => exact HIN.out
 case round =>
  obtain ⟨G, l, p, vn, vs, HR, HC, HB⟩ := hrel
  clear HIN EL
  cases G with
  | nil =>
   obtain ⟨ad, cd, rfl, -⟩ := own_form HR.out.stack
   have hc8 := HR.out.at0.cell 8 _ rfl
   have TE := hid (fun w b hT hb => tended_ok w g s L.bytes p b hT hb)
   by_cases hE : s.size ≤ p
   ·have TE1 := hid (fun w hT => TE.out w true hT (dtr hE))
    have HF : Hid (fin s.toList L l p = .ok l) := by show _ = _; rw [fin, if_neg (by rw [tl_size]; omega)]
    clear hE
    go_wp2_with (first | (go_at_call 53; refine (TE1.out _ HR.out.tx.1).mono ?_; rintro e w2 ⟨rfl, k, rfl⟩))
    first | go_end0 | refine bodyPost_ret (results_none rfl _ _ _) rfl ?_
    exact ⟨_, HC.out.2.2.2 _ Runs.fin, by rw [HF.out]; exact ⟨rfl, ⟨_, _, _, HR.out.drewN k⟩, HB.out.trans (below_drewN _ _ _)⟩⟩
   ·have TE1 := hid (fun w hT => TE.out w false hT (dfa hE))
    by_cases h0 : p < s.size ∧ p < L.bytes
    ·have HF : Hid (fin s.toList L l p = .no 9 p false) := by show _ = _; rw [fin, if_pos (by rw [tl_size]; omega), if_pos (has_yes s L p h0)]
     have e9 : (p : Int) ≤ 140737488351232 := by have := HYP.out.2.2.2.1; omega
     have HNX := hid h0
     clear hE h0
     go_wp2_with (first
      | (go_at_call 53; refine (TE1.out _ HR.out.tx.1).mono ?_; rintro e w2 ⟨rfl, k, rfl⟩)
      | (go_at_call 54; refine (next_yes (HR.out.drewN k) HNX.out.1 HNX.out.2 HYP.out.2.2.2.1 _ rfl).mono ?_; rintro e w3 ⟨rfl, HR3, HB3⟩)
      | (go_at_call 56; refine (place_yes HR3.out).mono ?_; rintro e w4 ⟨rfl, rfl⟩)
      | (go_at_call 55; refine (F.out _ _ _).mono ?_; rintro e w5 ⟨rfl, rfl⟩))
     exact ⟨rfl, _, HC.out.2.2.2 _ Runs.fin, by rw [HF.out]; exact ⟨rfl, (HB.out.trans (below_drewN _ _ _)).trans HB3.out⟩⟩
    ·have HF : Hid (fin s.toList L l p = .no (lkE L.bytes s) (lkP L.bytes s) (decide (s.size ≤ L.bytes))) := by show _ = _; rw [fin, if_pos (by rw [tl_size]; omega), if_neg (by rw [has_no s L p h0]; decide), lack_eq]
     have HNX := hid h0
     have hp0 : p ≤ 140737488351232 := by have := HYP.out.2.2.2.1; have := HC.out.2.1; omega
     clear hE h0
     go_wp2_with (first
      | (go_at_call 53; refine (TE1.out _ HR.out.tx.1).mono ?_; rintro e w2 ⟨rfl, k, rfl⟩)
      | (go_at_call 54; refine (next_lack (HR.out.drewN k) HNX.out hp0).mono ?_; rintro e w3 ⟨rfl, HB3⟩))
     exact ⟨rfl, _, HC.out.2.2.2 _ Runs.fin, by rw [HF.out]; exact ⟨rfl, (HB.out.trans (below_drewN _ _ _)).trans HB3⟩⟩
  | cons f G =>
   obtain ⟨k, cap, rfl, hgk, hAt⟩ := HR.out.top
   obtain ⟨gn, hgn⟩ : ∃ gn, G.length = gn := ⟨_, rfl⟩
   have e4 : IntKind.i64.wrap (gn : Int) = (gn : Int) := wrap_fit gn (by have := own_fit HR.out.stack; rw [lco, hgn] at this; omega)
   have e4b : (gn : Int) < (gn : Int) + 1 := by omega
   have hc8 := HR.out.at0.cell 8 _ rfl
   rw [hgn] at hAt hc8
   have ht0 := hAt.cell 0 _ rfl
   have ht1 := hAt.cell 1 _ rfl
   have ht2 := hAt.cell 2 _ rfl
   have ht3 := hAt.cell 3 _ rfl
   have ht4 := hAt.cell 4 _ rfl
   have ht5 := hAt.cell 5 _ rfl
   rw [Nat.add_zero] at ht0
   have hk8 : ∀ ob : Obj, (wr.alloc ob).cell? ⟨g, 8, none⟩ = some (.slice (some ⟨k, 0, none⟩) (gn + 1) cap) := fun ob => by
    have := (HR.out.alloc ob).at0.cell 8 _ rfl
    rw [hgn] at this
    exact this
   have hkA : ∀ ob : Obj, At (wr.alloc ob) k (gn * 6) (hv f) := fun ob => hAt.alloc ob
   have hk0 : ∀ ob : Obj, (wr.alloc ob).cell? ⟨k, gn * 6, none⟩ = _ := fun ob => (hkA ob).cell 0 _ rfl
   have hk1 : ∀ ob : Obj, (wr.alloc ob).cell? ⟨k, gn * 6 + 1, none⟩ = _ := fun ob => (hkA ob).cell 1 _ rfl
   have hk2 : ∀ ob : Obj, (wr.alloc ob).cell? ⟨k, gn * 6 + 2, none⟩ = _ := fun ob => (hkA ob).cell 2 _ rfl
   have hk3 : ∀ ob : Obj, (wr.alloc ob).cell? ⟨k, gn * 6 + 3, none⟩ = _ := fun ob => (hkA ob).cell 3 _ rfl
   have hk4 : ∀ ob : Obj, (wr.alloc ob).cell? ⟨k, gn * 6 + 4, none⟩ = _ := fun ob => (hkA ob).cell 4 _ rfl
   have hk5 : ∀ ob : Obj, (wr.alloc ob).cell? ⟨k, gn * 6 + 5, none⟩ = _ := fun ob => (hkA ob).cell 5 _ rfl
   have HGN := hid hgn
   clear hAt hkA
   have HRT := hid ((HR.out.alloc (Obj.cells #[.int .i64 (f.p0 : Int), .int .u64 (f.left : Int), .bool f.pairs, .bool f.value, .bool f.keys, .string ⟨f.last.toArray⟩] 110)).drewN 1)
   have HAT := hid ((At.ofAlloc wr #[.int .i64 (f.p0 : Int), .int .u64 (f.left : Int), .bool f.pairs, .bool f.value, .bool f.keys, .string ⟨f.last.toArray⟩] 110).drewN 1)
   have HBT := hid (HB.out.trans (((Below.refl g wr).alloc (Nat.le_of_lt HR.out.lt) (Obj.cells #[.int .i64 (f.p0 : Int), .int .u64 (f.left : Int), .bool f.pairs, .bool f.value, .bool f.keys, .string ⟨f.last.toArray⟩] 110)).drew))
   go_upto_region 2 with fail
   go_cut [2] from 11 to 22 (fun v wx => ∃ T, v = .pointer (some ⟨T, 0, none⟩) ∧ Rd wx g s L p l (f :: G) vn (.slice (some ⟨k, 0, none⟩) (G.length + 1) cap) ro ∧ At wx T 0 (hv f) ∧ Below g w wx ∧ wr.heap.size ≤ T)
   case first =>
    go_wp2_with fail
    go_region
    go_wp2_with fail
    go_meet
    case rel => exact ⟨wr.heap.size, rfl, HRT.out, HAT.out, HBT.out, nle _⟩
   case rest =>
    obtain ⟨T, rfl, hRT, hAT, hBT, hgT⟩ := hcut
    have HRC := hid hRT
    have HAC := hid hAT
    have HBC := hid hBT
    have HGT := hid hgT
    have hT1 := hAT.cell 1 _ rfl
    have hT0 := hAT.cell 0 _ rfl
    rw [Nat.add_zero] at hT0
    clear hk8 hk0 hk1 hk2 hk3 hk4 hk5 hc8 ht0 ht1 ht2 ht3 ht4 ht5 hRT hBT hgT hAT HRT HAT HBT
    have FU := hid (full_any wc T 0 f.left hT1)
    by_cases hpe : f.left = 0
    ·rw [dtr hpe] at FU
     have HPE := hid hpe
     have hc8 := HRC.out.at0.cell 8 _ rfl
     have hf8 := HRC.out.at0.froz 8 (by simp)
     rw [hgn] at hc8
     have hcap : gn + 1 ≤ cap := by have := own_cap HRC.out.stack; rw [hgn] at this; exact this
     have hcapz : (gn : Int) ≤ (cap : Int) := by omega
     have HR8 := HRC.out.pop
     rw [hgn] at HR8
     have HR9 := hid (fun z : Nat => HR8.drewN z)
     have HB9 := hid (fun z : Nat => (HBC.out.setCell (p := ⟨g, 8, none⟩) (nle _) (.slice (some ⟨k, 0, none⟩) gn cap)).trans (below_drewN g _ z))
     have hgT2 : g ≠ T := by have h1 := HGT.out; have h2 := HR.out.lt; omega
     have ATC := hid (fun z : Nat => at_any ((wc.setCell ⟨g, 8, none⟩ (.slice (some ⟨k, 0, none⟩) gn cap)).drewN z) T 0 f.p0 (((HAC.out.other g 8 (.slice (some ⟨k, 0, none⟩) gn cap) (Or.inl hgT2)).drewN z).cell 0 _ rfl))
     clear hpe HR8 hcap hT0 hT1
     go_wp2_with (first
      | (go_at_call 50; refine FU.out.mono ?_; rintro e w5 ⟨rfl, rfl⟩))
     go_region
     go_wp2_with (first
      | (go_at_call 52; refine (ATC.out _).mono ?_; rintro e w5 ⟨rfl, rfl⟩))
     refine (citemEnded_any _ g s L f.p0 p _ G _ _ ro (HR9.out _) HC.out.1.rest.head (HC.out.1.1 f (List.mem_cons_self ..)).2 HC.out.2.1 HYP.out.2.2.2.1).mono ?_
     intro e w9 h9
     have hloop : loopS f G l p = .pend G l f.p0 p := by rw [loopS, if_pos HPE.out]
     have HL := hid hloop
     cases hE : pendS s.toList Op.bytesLess G l f.p0 p with
     | no c q b =>
      rw [hE] at h9
      obtain ⟨rfl, hb⟩ := h9
      have HBx := hid hb
      have HE := hid hE
      clear hb hloop hE
      go_wp2_with fail
      exact ⟨rfl, .no c q b, HC.out.2.2.2 _ (Runs.loop (by rw [HL.out]; exact Runs.pendNo HE.out)), rfl, (HB9.out _).trans HBx.out⟩
     | ok s3 =>
      obtain ⟨G3, rfl, h4, h6⟩ := pend_top HC.out.1.rest hE
      rw [hE] at h9
      obtain ⟨rfl, HRx, HBx⟩ := h9
      have HIN : Hid (InWhole g s L ro w (2 * (s.size - p) + G3.length + 1) w9) := ⟨G3, _, p, _, _, HRx, ⟨h4, HC.out.2.1, by omega, fun r hr => HC.out.2.2.2 _ (Runs.loop (by rw [HL.out]; exact Runs.pend hE hr))⟩, (HB9.out _).trans HBx.out⟩
      have HLT : Hid (2 * (s.size - p) + G3.length + 1 < gk) := by
       show 2 * (s.size - p) + G3.length + 1 < gk
       have := HC.out.2.2.1
       rw [lco] at this
       omega
      clear hE h4 h6 HRx HBx hloop
      go_wp2_with fail
      go_roundg (2 * (s.size - p) + G3.length + 1)
      case measure => exact HLT.out
      case rel => exact HIN.out
    ·rw [dfa hpe] at FU
     have HPE := hid hpe
     clear hpe hT0 hT1
     go_wp2_with (first
      | (go_at_call 50; refine FU.out.mono ?_; rintro e w5 ⟨rfl, rfl⟩))
     refine (item_any _ g s L p l (f :: G) _ _ ro ⟨HRC.out, HC.out.1.gd HPE.out, HC.out.2.1, HYP.out.2.2.2.1, HYP.out.2.2.2.2.1, HYP.out.2.2.2.2.2.1, HYP.out.2.2.2.2.2.2.1, HYP.out.2.2.2.2.2.2.2.below HBC.out⟩).mono ?_
     intro e w5 h5
     have hloop : loopS f G l p = .el (f :: G) l p := by rw [loopS, if_neg HPE.out]
     rcases elT_cases (S := s.toList) (L := L) (G := f :: G) (l := l) (p := p) with ⟨c, q, b, hE, hRun⟩ | ⟨s3, hE, hRun⟩
     ·rw [hE] at h5
      obtain ⟨rfl, hb⟩ := h5
      have HB9 := hid hb
      have HL := hid hloop
      have HRN := hid hRun
      clear hb hloop hRun hE
      go_wp2_with fail
      exact ⟨rfl, .no c q b, HC.out.2.2.2 _ (Runs.loop (by rw [HL.out]; exact HRN.out)), rfl, HBC.out.trans HB9.out⟩
     obtain ⟨G3, l3, p3, rfl, h2, h3, h4, h6⟩ := elT_next (HC.out.1.gd HPE.out) hE
     rw [hE] at h5
     obtain ⟨rfl, ⟨vn5, vs5, HR5⟩, HB5⟩ := h5
     rw [tl_size] at h3
     have HIN : Hid (InWhole g s L ro w (2 * (s.size - p3) + G3.length + 1) w5) := ⟨G3, l3, p3, vn5, vs5, HR5, ⟨h4, h3, by omega, fun r hr => HC.out.2.2.2 _ (Runs.loop (by rw [hloop]; exact hRun r hr))⟩, HBC.out.trans HB5.out⟩
     have HLT : Hid (2 * (s.size - p3) + G3.length + 1 < gk) := by
      show 2 * (s.size - p3) + G3.length + 1 < gk
      have := HC.out.2.2.1
      rw [lco] at *
      omega
     clear hE hRun h2 h3 h4 h6 HR5 HB5 hloop
     go_wp2_with fail
     go_roundg (2 * (s.size - p3) + G3.length + 1)
     case measure => exact HLT.out
     case rel => exact HIN.out
end Co
end Go.Proofs.YtikgonlhdkknkaaGreatDoor
namespace Go.Proofs.YtikgonlhdkknkaaGreatDoor
open Go.RowKit
namespace Co
open Dr (Rs Lm has lack at0S)
def mayOk (d i b r : Int) : Bool := decide (1 ≤ d ∧ d ≤ 32 ∧ 1 ≤ i ∧ i ≤ 4096 ∧ 1 ≤ b ∧ b ≤ 262144 ∧ 1 ≤ r ∧ r ≤ 4096)
theorem mayOk_yes {d i b r : Int} (h : mayOk d i b r = true) : 1 ≤ d ∧ d ≤ 32 ∧ 1 ≤ i ∧ i ≤ 4096 ∧ 1 ≤ b ∧ b ≤ 262144 ∧ 1 ≤ r ∧ r ≤ 4096 := by rw [mayOk, decide_eq_true_iff] at h; exact h
theorem may_any (d i b r : Int) (w : World) : Calls Tryz.prog 27 #[.agg #[.int .i64 d, .int .i64 i, .int .i64 b, .int .i64 r]] w (fun e w' => e = .returned (.bool (mayOk d i b r)) ∧ Below w.heap.size w w') := by
 obtain ⟨R, hR⟩ : ∃ R, mayOk d i b r = R := ⟨_, rfl⟩
 rw [hR]
 rw [mayOk] at hR
 have ENTER : True := trivial
 by_cases h0 : (1 : Int) ≤ (d : Int)
 case neg =>
  obtain rfl : R = false := by rw [← hR]; exact dfa (fun h => by omega)
  have f0 : decide ((1 : Int) ≤ (d : Int)) = false := dfa h0
  clear hR ENTER h0
  go_enter Tryz.func27, Tryz.ntmps27
  go_wp2_with fail
  go_ret
  exact ⟨rfl, (Below.refl _ _).alloc (nle _) _⟩
 by_cases h1 : (d : Int) ≤ (32 : Int)
 case neg =>
  obtain rfl : R = false := by rw [← hR]; exact dfa (fun h => by omega)
  have f1 : decide ((d : Int) ≤ (32 : Int)) = false := dfa h1
  have t0 : decide ((1 : Int) ≤ (d : Int)) = true := dtr h0
  clear hR ENTER h0 h1
  go_enter Tryz.func27, Tryz.ntmps27
  go_wp2_with fail
  go_ret
  exact ⟨rfl, (Below.refl _ _).alloc (nle _) _⟩
 by_cases h2 : (1 : Int) ≤ (i : Int)
 case neg =>
  obtain rfl : R = false := by rw [← hR]; exact dfa (fun h => by omega)
  have f2 : decide ((1 : Int) ≤ (i : Int)) = false := dfa h2
  have t0 : decide ((1 : Int) ≤ (d : Int)) = true := dtr h0
  have t1 : decide ((d : Int) ≤ (32 : Int)) = true := dtr h1
  clear hR ENTER h0 h1 h2
  go_enter Tryz.func27, Tryz.ntmps27
  go_wp2_with fail
  go_ret
  exact ⟨rfl, (Below.refl _ _).alloc (nle _) _⟩
 by_cases h3 : (i : Int) ≤ (4096 : Int)
 case neg =>
  obtain rfl : R = false := by rw [← hR]; exact dfa (fun h => by omega)
  have f3 : decide ((i : Int) ≤ (4096 : Int)) = false := dfa h3
  have t0 : decide ((1 : Int) ≤ (d : Int)) = true := dtr h0
  have t1 : decide ((d : Int) ≤ (32 : Int)) = true := dtr h1
  have t2 : decide ((1 : Int) ≤ (i : Int)) = true := dtr h2
  clear hR ENTER h0 h1 h2 h3
  go_enter Tryz.func27, Tryz.ntmps27
  go_wp2_with fail
  go_ret
  exact ⟨rfl, (Below.refl _ _).alloc (nle _) _⟩
 by_cases h4 : (1 : Int) ≤ (b : Int)
 case neg =>
  obtain rfl : R = false := by rw [← hR]; exact dfa (fun h => by omega)
  have f4 : decide ((1 : Int) ≤ (b : Int)) = false := dfa h4
  have t0 : decide ((1 : Int) ≤ (d : Int)) = true := dtr h0
  have t1 : decide ((d : Int) ≤ (32 : Int)) = true := dtr h1
  have t2 : decide ((1 : Int) ≤ (i : Int)) = true := dtr h2
  have t3 : decide ((i : Int) ≤ (4096 : Int)) = true := dtr h3
  clear hR ENTER h0 h1 h2 h3 h4
  go_enter Tryz.func27, Tryz.ntmps27
  go_wp2_with fail
  go_ret
  exact ⟨rfl, (Below.refl _ _).alloc (nle _) _⟩
 by_cases h5 : (b : Int) ≤ (262144 : Int)
 case neg =>
  obtain rfl : R = false := by rw [← hR]; exact dfa (fun h => by omega)
  have f5 : decide ((b : Int) ≤ (262144 : Int)) = false := dfa h5
  have t0 : decide ((1 : Int) ≤ (d : Int)) = true := dtr h0
  have t1 : decide ((d : Int) ≤ (32 : Int)) = true := dtr h1
  have t2 : decide ((1 : Int) ≤ (i : Int)) = true := dtr h2
  have t3 : decide ((i : Int) ≤ (4096 : Int)) = true := dtr h3
  have t4 : decide ((1 : Int) ≤ (b : Int)) = true := dtr h4
  clear hR ENTER h0 h1 h2 h3 h4 h5
  go_enter Tryz.func27, Tryz.ntmps27
  go_wp2_with fail
  go_ret
  exact ⟨rfl, (Below.refl _ _).alloc (nle _) _⟩
 by_cases h6 : (1 : Int) ≤ (r : Int)
 case neg =>
  obtain rfl : R = false := by rw [← hR]; exact dfa (fun h => by omega)
  have f6 : decide ((1 : Int) ≤ (r : Int)) = false := dfa h6
  have t0 : decide ((1 : Int) ≤ (d : Int)) = true := dtr h0
  have t1 : decide ((d : Int) ≤ (32 : Int)) = true := dtr h1
  have t2 : decide ((1 : Int) ≤ (i : Int)) = true := dtr h2
  have t3 : decide ((i : Int) ≤ (4096 : Int)) = true := dtr h3
  have t4 : decide ((1 : Int) ≤ (b : Int)) = true := dtr h4
  have t5 : decide ((b : Int) ≤ (262144 : Int)) = true := dtr h5
  clear hR ENTER h0 h1 h2 h3 h4 h5 h6
  go_enter Tryz.func27, Tryz.ntmps27
  go_wp2_with fail
  go_ret
  exact ⟨rfl, (Below.refl _ _).alloc (nle _) _⟩
 by_cases h7 : (r : Int) ≤ (4096 : Int)
 case neg =>
  obtain rfl : R = false := by rw [← hR]; exact dfa (fun h => by omega)
  have f7 : decide ((r : Int) ≤ (4096 : Int)) = false := dfa h7
  have t0 : decide ((1 : Int) ≤ (d : Int)) = true := dtr h0
  have t1 : decide ((d : Int) ≤ (32 : Int)) = true := dtr h1
  have t2 : decide ((1 : Int) ≤ (i : Int)) = true := dtr h2
  have t3 : decide ((i : Int) ≤ (4096 : Int)) = true := dtr h3
  have t4 : decide ((1 : Int) ≤ (b : Int)) = true := dtr h4
  have t5 : decide ((b : Int) ≤ (262144 : Int)) = true := dtr h5
  have t6 : decide ((1 : Int) ≤ (r : Int)) = true := dtr h6
  clear hR ENTER h0 h1 h2 h3 h4 h5 h6 h7
  go_enter Tryz.func27, Tryz.ntmps27
  go_wp2_with fail
  go_ret
  exact ⟨rfl, (Below.refl _ _).alloc (nle _) _⟩
 obtain rfl : R = true := by rw [← hR]; exact dtr ⟨h0, h1, h2, h3, h4, h5, h6, h7⟩
 have t0 : decide ((1 : Int) ≤ (d : Int)) = true := dtr h0
 have t1 : decide ((d : Int) ≤ (32 : Int)) = true := dtr h1
 have t2 : decide ((1 : Int) ≤ (i : Int)) = true := dtr h2
 have t3 : decide ((i : Int) ≤ (4096 : Int)) = true := dtr h3
 have t4 : decide ((1 : Int) ≤ (b : Int)) = true := dtr h4
 have t5 : decide ((b : Int) ≤ (262144 : Int)) = true := dtr h5
 have t6 : decide ((1 : Int) ≤ (r : Int)) = true := dtr h6
 have t7 : decide ((r : Int) ≤ (4096 : Int)) = true := dtr h7
 clear hR ENTER h0 h1 h2 h3 h4 h5 h6 h7
 go_enter Tryz.func27, Tryz.ntmps27
 go_wp2_with fail
 go_ret
 exact ⟨rfl, (Below.refl _ _).alloc (nle _) _⟩
theorem rmay_any (d i b r : Int) (w : World) : Calls Tryz.prog 39 #[.agg #[.int .i64 d, .int .i64 i, .int .i64 b, .int .i64 r]] w (fun e w' => e = .returned (.bool (mayOk d i b r)) ∧ Below w.heap.size w w') := by
 obtain ⟨R, hR⟩ : ∃ R, mayOk d i b r = R := ⟨_, rfl⟩
 rw [hR]
 rw [mayOk] at hR
 have ENTER : True := trivial
 by_cases h0 : (1 : Int) ≤ (d : Int)
 case neg =>
  obtain rfl : R = false := by rw [← hR]; exact dfa (fun h => by omega)
  have f0 : decide ((1 : Int) ≤ (d : Int)) = false := dfa h0
  clear hR ENTER h0
  go_enter Tryz.func39, Tryz.ntmps39
  go_wp2_with fail
  go_ret
  exact ⟨rfl, (Below.refl _ _).alloc (nle _) _⟩
 by_cases h1 : (d : Int) ≤ (32 : Int)
 case neg =>
  obtain rfl : R = false := by rw [← hR]; exact dfa (fun h => by omega)
  have f1 : decide ((d : Int) ≤ (32 : Int)) = false := dfa h1
  have t0 : decide ((1 : Int) ≤ (d : Int)) = true := dtr h0
  clear hR ENTER h0 h1
  go_enter Tryz.func39, Tryz.ntmps39
  go_wp2_with fail
  go_ret
  exact ⟨rfl, (Below.refl _ _).alloc (nle _) _⟩
 by_cases h2 : (1 : Int) ≤ (i : Int)
 case neg =>
  obtain rfl : R = false := by rw [← hR]; exact dfa (fun h => by omega)
  have f2 : decide ((1 : Int) ≤ (i : Int)) = false := dfa h2
  have t0 : decide ((1 : Int) ≤ (d : Int)) = true := dtr h0
  have t1 : decide ((d : Int) ≤ (32 : Int)) = true := dtr h1
  clear hR ENTER h0 h1 h2
  go_enter Tryz.func39, Tryz.ntmps39
  go_wp2_with fail
  go_ret
  exact ⟨rfl, (Below.refl _ _).alloc (nle _) _⟩
 by_cases h3 : (i : Int) ≤ (4096 : Int)
 case neg =>
  obtain rfl : R = false := by rw [← hR]; exact dfa (fun h => by omega)
  have f3 : decide ((i : Int) ≤ (4096 : Int)) = false := dfa h3
  have t0 : decide ((1 : Int) ≤ (d : Int)) = true := dtr h0
  have t1 : decide ((d : Int) ≤ (32 : Int)) = true := dtr h1
  have t2 : decide ((1 : Int) ≤ (i : Int)) = true := dtr h2
  clear hR ENTER h0 h1 h2 h3
  go_enter Tryz.func39, Tryz.ntmps39
  go_wp2_with fail
  go_ret
  exact ⟨rfl, (Below.refl _ _).alloc (nle _) _⟩
 by_cases h4 : (1 : Int) ≤ (b : Int)
 case neg =>
  obtain rfl : R = false := by rw [← hR]; exact dfa (fun h => by omega)
  have f4 : decide ((1 : Int) ≤ (b : Int)) = false := dfa h4
  have t0 : decide ((1 : Int) ≤ (d : Int)) = true := dtr h0
  have t1 : decide ((d : Int) ≤ (32 : Int)) = true := dtr h1
  have t2 : decide ((1 : Int) ≤ (i : Int)) = true := dtr h2
  have t3 : decide ((i : Int) ≤ (4096 : Int)) = true := dtr h3
  clear hR ENTER h0 h1 h2 h3 h4
  go_enter Tryz.func39, Tryz.ntmps39
  go_wp2_with fail
  go_ret
  exact ⟨rfl, (Below.refl _ _).alloc (nle _) _⟩
 by_cases h5 : (b : Int) ≤ (262144 : Int)
 case neg =>
  obtain rfl : R = false := by rw [← hR]; exact dfa (fun h => by omega)
  have f5 : decide ((b : Int) ≤ (262144 : Int)) = false := dfa h5
  have t0 : decide ((1 : Int) ≤ (d : Int)) = true := dtr h0
  have t1 : decide ((d : Int) ≤ (32 : Int)) = true := dtr h1
  have t2 : decide ((1 : Int) ≤ (i : Int)) = true := dtr h2
  have t3 : decide ((i : Int) ≤ (4096 : Int)) = true := dtr h3
  have t4 : decide ((1 : Int) ≤ (b : Int)) = true := dtr h4
  clear hR ENTER h0 h1 h2 h3 h4 h5
  go_enter Tryz.func39, Tryz.ntmps39
  go_wp2_with fail
  go_ret
  exact ⟨rfl, (Below.refl _ _).alloc (nle _) _⟩
 by_cases h6 : (1 : Int) ≤ (r : Int)
 case neg =>
  obtain rfl : R = false := by rw [← hR]; exact dfa (fun h => by omega)
  have f6 : decide ((1 : Int) ≤ (r : Int)) = false := dfa h6
  have t0 : decide ((1 : Int) ≤ (d : Int)) = true := dtr h0
  have t1 : decide ((d : Int) ≤ (32 : Int)) = true := dtr h1
  have t2 : decide ((1 : Int) ≤ (i : Int)) = true := dtr h2
  have t3 : decide ((i : Int) ≤ (4096 : Int)) = true := dtr h3
  have t4 : decide ((1 : Int) ≤ (b : Int)) = true := dtr h4
  have t5 : decide ((b : Int) ≤ (262144 : Int)) = true := dtr h5
  clear hR ENTER h0 h1 h2 h3 h4 h5 h6
  go_enter Tryz.func39, Tryz.ntmps39
  go_wp2_with fail
  go_ret
  exact ⟨rfl, (Below.refl _ _).alloc (nle _) _⟩
 by_cases h7 : (r : Int) ≤ (4096 : Int)
 case neg =>
  obtain rfl : R = false := by rw [← hR]; exact dfa (fun h => by omega)
  have f7 : decide ((r : Int) ≤ (4096 : Int)) = false := dfa h7
  have t0 : decide ((1 : Int) ≤ (d : Int)) = true := dtr h0
  have t1 : decide ((d : Int) ≤ (32 : Int)) = true := dtr h1
  have t2 : decide ((1 : Int) ≤ (i : Int)) = true := dtr h2
  have t3 : decide ((i : Int) ≤ (4096 : Int)) = true := dtr h3
  have t4 : decide ((1 : Int) ≤ (b : Int)) = true := dtr h4
  have t5 : decide ((b : Int) ≤ (262144 : Int)) = true := dtr h5
  have t6 : decide ((1 : Int) ≤ (r : Int)) = true := dtr h6
  clear hR ENTER h0 h1 h2 h3 h4 h5 h6 h7
  go_enter Tryz.func39, Tryz.ntmps39
  go_wp2_with fail
  go_ret
  exact ⟨rfl, (Below.refl _ _).alloc (nle _) _⟩
 obtain rfl : R = true := by rw [← hR]; exact dtr ⟨h0, h1, h2, h3, h4, h5, h6, h7⟩
 have t0 : decide ((1 : Int) ≤ (d : Int)) = true := dtr h0
 have t1 : decide ((d : Int) ≤ (32 : Int)) = true := dtr h1
 have t2 : decide ((1 : Int) ≤ (i : Int)) = true := dtr h2
 have t3 : decide ((i : Int) ≤ (4096 : Int)) = true := dtr h3
 have t4 : decide ((1 : Int) ≤ (b : Int)) = true := dtr h4
 have t5 : decide ((b : Int) ≤ (262144 : Int)) = true := dtr h5
 have t6 : decide ((1 : Int) ≤ (r : Int)) = true := dtr h6
 have t7 : decide ((r : Int) ≤ (4096 : Int)) = true := dtr h7
 clear hR ENTER h0 h1 h2 h3 h4 h5 h6 h7
 go_enter Tryz.func39, Tryz.ntmps39
 go_wp2_with fail
 go_ret
 exact ⟨rfl, (Below.refl _ _).alloc (nle _) _⟩
theorem catch_panicking (a b c : Nat) (z : Int) (q : Int) (v0 : Value) (n0 n1 : Int) (w : World) (h1 : w.cell? ⟨a, 0, none⟩ = some (.slice none 0 0)) (h2 : w.cell? ⟨b, 0, none⟩ = some (.int .i64 n0)) (h3 : w.cell? ⟨c, 0, none⟩ = some (.int .i64 n1))
  (f1 : w.frozen? ⟨a, 0, none⟩ = false) (f2 : w.frozen? ⟨b, 0, none⟩ = false) (f3 : w.frozen? ⟨c, 0, none⟩ = false) (hab : a ≠ b) (hac : a ≠ c) (hbc : b ≠ c) :
  CallsD Tryz.prog 28 #[.pointer (some ⟨a, 0, none⟩), .pointer (some ⟨b, 0, none⟩), .pointer (some ⟨c, 0, none⟩)] (.panicking (flt z q)) w fun e u' w' =>
   e = .returned (.tuple #[]) ∧ u' = .panicking [{ v := .iface 67 (.agg #[.int .i64 z, .int .i64 q]), recovered := true }] ∧
   w'.cell? ⟨a, 0, none⟩ = some (.slice none 0 0) ∧ w'.cell? ⟨b, 0, none⟩ = some (.int .i64 q) ∧ w'.cell? ⟨c, 0, none⟩ = some (.int .i64 z) ∧ ∀ B, B ≤ a → B ≤ b → B ≤ c → B ≤ w.heap.size → Below B w w' := by
 refine callsD_of_wpS Tryz.func28 rfl fun c₀ cs hu => ?_
 apply wpS_seq
 apply wpS_region
 simp [wpOpsS, go_sem, recoverD, hu, Tryz.ntmps28, Exit.thenS, flt]
 refine wpS_of_wp ?_
 rw [show (#[Value.pointer (some ⟨a, 0, none⟩), Value.pointer (some ⟨b, 0, none⟩), Value.pointer (some ⟨c, 0, none⟩)] ++ ((Array.replicate 11 undef).setIfInBounds 2 (Value.iface 67 (Value.agg #[Value.int .i64 z, Value.int .i64 q]))).setIfInBounds 0 (Value.iface 67 (Value.agg #[Value.int .i64 z, Value.int .i64 q]))) = #[Value.pointer (some ⟨a, 0, none⟩), Value.pointer (some ⟨b, 0, none⟩), Value.pointer (some ⟨c, 0, none⟩), Value.iface 67 (Value.agg #[Value.int .i64 z, Value.int .i64 q]), undef, Value.iface 67 (Value.agg #[Value.int .i64 z, Value.int .i64 q]), undef, undef, undef, undef, undef, undef, undef, undef] from rfl]
 have hla := World.block_lt_of_cell? w _ h1
 have hlb := World.block_lt_of_cell? w _ h2
 have hlc := World.block_lt_of_cell? w _ h3
 have hta : ∀ (v : Value) (w : World), (Instr.typeAssert (.iface 67 v) 20 67 false).run Tryz.prog w = .ok v w := fun _ _ => by kernel_rfl
 go_wp2_with fail
 have hAT := At.ofAlloc w #[.int .i64 z, .int .i64 q] 67
 have g1 : (w.alloc (Obj.cells #[.int .i64 z, .int .i64 q] 67)).cell? ⟨a, 0, none⟩ = _ := (World.cell?_alloc_past _ _ _ hla).trans h1
 have g2 : (w.alloc (Obj.cells #[.int .i64 z, .int .i64 q] 67)).cell? ⟨b, 0, none⟩ = _ := (World.cell?_alloc_past _ _ _ hlb).trans h2
 have g3 : (w.alloc (Obj.cells #[.int .i64 z, .int .i64 q] 67)).cell? ⟨c, 0, none⟩ = _ := (World.cell?_alloc_past _ _ _ hlc).trans h3
 have k1 : (w.alloc (Obj.cells #[.int .i64 z, .int .i64 q] 67)).frozen? ⟨a, 0, none⟩ = false := ((Below.refl w.heap.size w).alloc (nle _) _).frozen hla |>.trans f1
 have k2 : (w.alloc (Obj.cells #[.int .i64 z, .int .i64 q] 67)).frozen? ⟨b, 0, none⟩ = false := ((Below.refl w.heap.size w).alloc (nle _) _).frozen hlb |>.trans f2
 have k3 : (w.alloc (Obj.cells #[.int .i64 z, .int .i64 q] 67)).frozen? ⟨c, 0, none⟩ = false := ((Below.refl w.heap.size w).alloc (nle _) _).frozen hlc |>.trans f3
 have t0 := hAT.cell 0 _ rfl
 have t1 := hAT.cell 1 _ rfl
 have na : a ≠ w.heap.size := fun h => by simp [h] at hla
 have nb : b ≠ w.heap.size := fun h => by simp [h] at hlb
 have nc : c ≠ w.heap.size := fun h => by simp [h] at hlc
 obtain ⟨T, hT⟩ : ∃ T, w.heap.size = T := ⟨_, rfl⟩
 obtain ⟨w1, hw1⟩ : ∃ x, w.alloc (Obj.cells #[.int .i64 z, .int .i64 q] 67) = x := ⟨_, rfl⟩
 rw [hw1] at g1 g2 g3 k1 k2 k3 t0 t1 ⊢
 rw [hT] at t0 t1 na nb nc ⊢
 have na' := na.symm
 have nb' := nb.symm
 have nc' := nc.symm
 have hab' := hab.symm
 have hac' := hac.symm
 have hbc' := hbc.symm
 have HB1 : Hid (∀ B, B ≤ w.heap.size → Below B w w1) := fun B hB => by rw [← hw1]; exact (Below.refl B w).alloc hB _
 clear hAT hw1 hT h1 h2 h3 f1 f2 f3 hla hlb hlc
 go_region
 go_wp2_with fail
 have c1 : ((((w1.setCell ⟨a, 0, none⟩ (.slice none 0 0)).setCell ⟨b, 0, none⟩ (.int .i64 q)).setCell ⟨c, 0, none⟩ (.int .i64 z)).drew).cell? ⟨a, 0, none⟩ = some (.slice none 0 0) := by
  simp [go_sem, g1, g2, g3, hab, hac, hbc, hab', hac', hbc']
 have c2 : ((((w1.setCell ⟨a, 0, none⟩ (.slice none 0 0)).setCell ⟨b, 0, none⟩ (.int .i64 q)).setCell ⟨c, 0, none⟩ (.int .i64 z)).drew).cell? ⟨b, 0, none⟩ = some (.int .i64 q) := by
  simp [go_sem, g1, g2, g3, hab, hac, hbc, hab', hac', hbc']
 have c3 : ((((w1.setCell ⟨a, 0, none⟩ (.slice none 0 0)).setCell ⟨b, 0, none⟩ (.int .i64 q)).setCell ⟨c, 0, none⟩ (.int .i64 z)).drew).cell? ⟨c, 0, none⟩ = some (.int .i64 z) := by
  simp [go_sem, g1, g2, g3, hab, hac, hbc, hab', hac', hbc']
 have c4 : ∀ B, B ≤ a → B ≤ b → B ≤ c → B ≤ w.heap.size → Below B w ((((w1.setCell ⟨a, 0, none⟩ (.slice none 0 0)).setCell ⟨b, 0, none⟩ (.int .i64 q)).setCell ⟨c, 0, none⟩ (.int .i64 z)).drew) := fun B ha hb hc hw => ((((HB1.out B hw).setCell (p := ⟨a, 0, none⟩) ha _).setCell (p := ⟨b, 0, none⟩) hb _).setCell (p := ⟨c, 0, none⟩) hc _).drew
 have C := hid (aIn c1 (aIn c2 (aIn c3 c4)))
 clear c1 c2 c3 c4
 generalize (((w1.setCell ⟨a, 0, none⟩ (.slice none 0 0)).setCell ⟨b, 0, none⟩ (.int .i64 q)).setCell ⟨c, 0, none⟩ (.int .i64 z)).drew = wz at C ⊢
 simp [bodyPostS, results, Tryz.results28]
 exact C.out
theorem catch_idle (a b c : Nat) (w : World) :
  CallsD Tryz.prog 28 #[.pointer (some ⟨a, 0, none⟩), .pointer (some ⟨b, 0, none⟩), .pointer (some ⟨c, 0, none⟩)] .returning w fun e u' w' => e = .returned (.tuple #[]) ∧ u' = .returning ∧ w' = w := by
 refine callsD_of_wpS Tryz.func28 rfl fun c₀ cs hu => ?_
 apply wpS_seq
 apply wpS_region
 simp [wpOpsS, go_sem, recoverD, hu, Tryz.ntmps28, Exit.thenS, flt]
 apply wpS_seq
 apply wpS_region
 simp [wpOpsS, go_sem, recoverD, hu, Tryz.ntmps28, Exit.thenS, flt]
 refine wpS_cond (t := false) (by simp [Act.eval, Array.replicate]) ?_
 simp only [Bool.false_eq_true, if_false]
 refine wpS_of_wp (wp_skip ?_)
 cases c₀
 simp_all [bodyPostS, results, Tryz.results28]
def limL (d i b : Int) : Lm := { depth := d.toNat, items := i.toNat, bytes := b.toNat }
def DecR (S : List UInt8) (d i b ro : Int) (r : Rs (List Am)) : Prop := (mayOk d i b ro = true → RunsC S (limL d i b) (.el [] [] 0) r) ∧ (mayOk d i b ro = false → r = .no 2 0 false)
def decL : Rs (List Am) → List Am
 | .ok l => l
 | .no _ _ _ => []
def decP : Rs (List Am) → Nat
 | .ok _ => 0
 | .no _ q _ => q
def decE : Rs (List Am) → Int
 | .ok _ => 0
 | .no c _ _ => c
theorem DecR.same {S : List UInt8} {d i b ro : Int} {r r' : Rs (List Am)} (h : DecR S d i b ro r) (h' : DecR S d i b ro r') : r = r' := by
 cases hm : mayOk d i b ro
 ·rw [h.2 hm, h'.2 hm]
 ·exact Runs.same _ _ _ _ (h.1 hm) (h'.1 hm)
def RetDec (s : ByteArray) (d i b ro : Int) (w : World) (e : Ending) (w' : World) : Prop :=
 ∃ r, DecR s.toList d i b ro r ∧ ∃ v, e = .returned (.tuple #[v, .int .i64 (decP r : Int), .int .i64 (decE r)]) ∧ w'.ownsRow w.heap.size 60 3 v (decL r).length (rcells ((decL r).map up)) ∧ Below w.heap.size w w'
def onlyN (Q : Exit → Act → World → Prop) (e : Exit) (a : Act) (w : World) : Prop := match e with
 | .normal => Q .normal a w
 | _ => False
theorem wp_only {P : Program} {c : Code} {Q : Exit → Act → World → Prop} {a : Act} {w : World} (h : c.wp P (onlyN Q) a w) : c.wp P Q a w := by
 refine wp_mono h ?_
 intro e a' w' hq
 cases e <;> first | exact hq | exact hq.elim
theorem own_base {w : World} {B B' e size n : Nat} {v : Value} {xs : List Value} (h : w.ownsRow B e size v n xs) (hB : B' ≤ B) : w.ownsRow B' e size v n xs := by
 refine ⟨h.1, ?_⟩
 rcases h.2 with h0 | ⟨g, cap, cur, h1, h2, h3⟩
 ·exact .inl h0
 ·exact .inr ⟨g, cap, cur, h1, Nat.le_trans hB h2, h3⟩
theorem sets9 (w : World) (g : Nat) (v0 v1 v2 v3 v4 v5 v6 v7 v8 : Value) : w.setCells g 0 [v0, v1, v2, v3, v4, v5, v6, v7, v8] = (((((((((w.setCell ⟨g, 0, none⟩ v0).setCell ⟨g, 1, none⟩ v1).setCell ⟨g, 2, none⟩ v2).setCell ⟨g, 3, none⟩ v3).setCell ⟨g, 4, none⟩ v4).setCell ⟨g, 5, none⟩ v5).setCell ⟨g, 6, none⟩ v6).setCell ⟨g, 7, none⟩ v7).setCell ⟨g, 8, none⟩ v8) := rfl
theorem rd_start {w : World} {R : Nat} {s : ByteArray} {d i b ro : Int} (h : At w R 0 [.string s, .int .i64 b, .int .i64 0, .int .i64 d, .int .i64 i, .int .i64 b, .int .i64 ro, .slice none 0 0, .slice none 0 0])
  (hm : 1 ≤ d ∧ d ≤ 32 ∧ 1 ≤ i ∧ i ≤ 4096 ∧ 1 ≤ b ∧ b ≤ 262144 ∧ 1 ≤ ro ∧ ro ≤ 4096) : Rd w R s (limL d i b) 0 [] [] (.slice none 0 0) (.slice none 0 0) ro := by
 refine ⟨?_, World.ownsRow_nil _ _ _ _, World.ownsRow_nil _ _ _ _, h.lt (by simp)⟩
 have h1 : ((limL d i b).bytes : Int) = b := by show ((b.toNat : Nat) : Int) = b; omega
 have h2 : ((limL d i b).depth : Int) = d := by show ((d.toNat : Nat) : Int) = d; omega
 have h3 : ((limL d i b).items : Int) = i := by show ((i.toNat : Nat) : Int) = i; omega
 rw [h1, h2, h3]
 exact h
theorem new_any (s : ByteArray) (b : Int) (w : World) : Calls Tryz.prog 29 #[.string s, .int .i64 b] w (fun e w' => e = .returned (.agg #[.string s, .int .i64 b, .int .i64 0]) ∧ Below w.heap.size w w') := by
 go_enter Tryz.func29, Tryz.ntmps29
 go_wp2_with fail
 have hA := At.ofAlloc w #[.string s, .int .i64 b, .int .i64 0] 69
 refine bodyPost_ret (results_at rfl _ w.heap.size _ _ rfl hA Tryz.underlying69 rfl (by kernel_rfl)) rfl ?_
 exact ⟨rfl, (Below.refl _ _).alloc (nle _) _⟩
def DecW (w : World) (d i b ro : Int) : World := (((w.alloc (Obj.cells #[.int .i64 d, .int .i64 i, .int .i64 b, .int .i64 ro] 23)).alloc (Obj.cells #[.slice none 0 0] 43)).alloc (Obj.cells #[.int .i64 0] 3)).alloc (Obj.cells #[.int .i64 0] 28)
structure DecC (w : World) (B : Nat) (d i b ro : Int) : Prop where
 lim : At w B 0 [.int .i64 d, .int .i64 i, .int .i64 b, .int .i64 ro]
 ls : At w (B + 1) 0 [.slice none 0 0]
 at_ : At w (B + 2) 0 [.int .i64 0]
 er : At w (B + 3) 0 [.int .i64 0]
 size : B + 4 ≤ w.heap.size
theorem DecC.below {w w' : World} {B B' : Nat} {d i b ro : Int} (h : DecC w B d i b ro) (hb : Below B' w w') (hB : B + 4 ≤ B') : DecC w' B d i b ro :=
 ⟨h.lim.below hb (by omega), h.ls.below hb (by omega), h.at_.below hb (by omega), h.er.below hb (by omega), Nat.le_trans h.size hb.size⟩
theorem decW (w : World) (d i b ro : Int) : DecC (DecW w d i b ro) w.heap.size d i b ro ∧ Below w.heap.size w (DecW w d i b ro) := by
 have h0 := At.ofAlloc w #[.int .i64 d, .int .i64 i, .int .i64 b, .int .i64 ro] 23
 have h1 := At.ofAlloc (w.alloc (Obj.cells #[.int .i64 d, .int .i64 i, .int .i64 b, .int .i64 ro] 23)) #[.slice none 0 0] 43
 have h2 := At.ofAlloc ((w.alloc (Obj.cells #[.int .i64 d, .int .i64 i, .int .i64 b, .int .i64 ro] 23)).alloc (Obj.cells #[.slice none 0 0] 43)) #[.int .i64 0] 3
 have h3 := At.ofAlloc (((w.alloc (Obj.cells #[.int .i64 d, .int .i64 i, .int .i64 b, .int .i64 ro] 23)).alloc (Obj.cells #[.slice none 0 0] 43)).alloc (Obj.cells #[.int .i64 0] 3)) #[.int .i64 0] 28
 simp only [World.alloc, Array.size_push] at h1 h2 h3
 refine ⟨⟨((h0.alloc _).alloc _).alloc _, (h1.alloc _).alloc _, h2.alloc _, h3, ?_⟩, ?_⟩
 ·simp [DecW]
 ·exact ((((Below.refl _ w).alloc (nle _) _).alloc (by simp) _).alloc (by simp; omega) _).alloc (by simp; omega) _
theorem decode_no (s : ByteArray) (d i b ro : Int) (w : World) (hm : mayOk d i b ro = false) :
  Calls Tryz.prog 14 #[.string s, .agg #[.int .i64 d, .int .i64 i, .int .i64 b, .int .i64 ro]] w (RetDec s d i b ro w) := by
 have M := hid (fun w => may_any d i b ro w)
 rw [hm] at M
 have HM := hid hm
 clear hm
 go_enter_defers Tryz.func14, Tryz.ntmps14
 go_wp2_with fail
 obtain ⟨hC, hB⟩ := decW w d i b ro
 have HC := hid hC
 have HB := hid hB
 obtain ⟨B, hBB⟩ : ∃ B, w.heap.size = B := ⟨_, rfl⟩
 have HBB := hid hBB
 obtain ⟨w0, hw0⟩ : ∃ w0, DecW w d i b ro = w0 := ⟨_, rfl⟩
 have hw1 := hw0
 unfold DecW at hw1
 rw [hw0, hBB] at HC
 rw [hw0, hBB] at HB
 rw [hw1, hBB]
 clear hC hB hw0 hw1 hBB
 refine (M.out _).mono ?_
 rintro e w1 ⟨rfl, hb1⟩
 have HC1 := hid (HC.out.below hb1 HC.out.size)
 have HB1 := hid (HB.out.trans (hb1.mono (by have := HC.out.size; omega)))
 have c1 := HC1.out.ls.cell 0 _ rfl
 have c2 := HC1.out.at_.cell 0 _ rfl
 have c3 := HC1.out.er.cell 0 _ rfl
 have f1 := HC1.out.ls.froz 0 (by simp)
 have f2 := HC1.out.at_.froz 0 (by simp)
 have f3 := HC1.out.er.froz 0 (by simp)
 clear hb1
 go_wp2_with fail
 obtain ⟨wz, hwz⟩ : ∃ wz, (((w1.setCell ⟨B + 1, 0, none⟩ (.slice none 0 0)).setCell ⟨B + 1 + 1, 0, none⟩ (.int .i64 0)).setCell ⟨B + 1 + 1 + 1, 0, none⟩ (.int .i64 2)) = wz := ⟨_, rfl⟩
 have z1 : wz.cell? ⟨B + 1, 0, none⟩ = some (.slice none 0 0) := by rw [← hwz]; simp [go_sem, c1, c2, c3]
 have z2 : wz.cell? ⟨B + 1 + 1, 0, none⟩ = some (.int .i64 0) := by rw [← hwz]; simp [go_sem, c1, c2, c3]
 have z3 : wz.cell? ⟨B + 1 + 1 + 1, 0, none⟩ = some (.int .i64 2) := by rw [← hwz]; simp [go_sem, c1, c2, c3]
 rw [hwz]
 have HBz : Hid (Below B w wz) := by
  rw [← hwz]
  exact ((HB1.out.setCell (p := ⟨B + 1, 0, none⟩) (by show B ≤ B + 1; omega) _).setCell (p := ⟨B + 1 + 1, 0, none⟩) (by show B ≤ B + 1 + 1; omega) _).setCell (p := ⟨B + 1 + 1 + 1, 0, none⟩) (by show B ≤ B + 1 + 1 + 1; omega) _
 clear hwz
 simp [bodyPostD, Leaves, settle, results, Tryz.results14, go_sem, z1, z2, z3]
 obtain rfl := HBB.out
 exact ⟨.no 2 0 false, ⟨fun h => (by rw [HM.out] at h; cases h), fun _ => rfl⟩, _, rfl, World.ownsRow_nil _ _ _ _, HBz⟩
theorem decode_yes (s : ByteArray) (d i b ro : Int) (w : World) (hm : mayOk d i b ro = true) (hz : s.size ≤ 140737488351232) (hU : UT w.heap.size w) :
  Calls Tryz.prog 14 #[.string s, .agg #[.int .i64 d, .int .i64 i, .int .i64 b, .int .i64 ro]] w (RetDec s d i b ro w) := by
 have M := hid (fun w => may_any d i b ro w)
 rw [hm] at M
 have HM := hid hm
 have HMY := hid (mayOk_yes hm)
 have NW := hid (fun w => new_any s b w)
 have HU := hid hU
 have HZ := hid hz
 have hmf : ∀ (fn : Fn) (first cap : Array Value) (w : World), (Instr.makeFunc fn first cap).run Tryz.prog w = .ok (.func fn first cap) w := fun _ _ _ _ => rfl
 clear hm hU hz
 go_enter_defers Tryz.func14, Tryz.ntmps14
 go_wp2_with fail
 obtain ⟨hC, hB⟩ := decW w d i b ro
 have HC := hid hC
 have HB := hid hB
 obtain ⟨B, hBB⟩ : ∃ B, w.heap.size = B := ⟨_, rfl⟩
 have HBB := hid hBB
 obtain ⟨w0, hw0⟩ : ∃ w0, DecW w d i b ro = w0 := ⟨_, rfl⟩
 have hw1 := hw0
 unfold DecW at hw1
 rw [hw0, hBB] at HC
 rw [hw0, hBB] at HB
 rw [hw1, hBB]
 clear hC hB hw0 hw1 hBB
 refine (M.out _).mono ?_
 rintro e w1 ⟨rfl, hb1⟩
 have HC1 := hid (HC.out.below hb1 HC.out.size)
 have HB1 := hid (HB.out.trans (hb1.mono (by have := HC.out.size; omega)))
 have l0 := HC1.out.lim.cell 0 _ rfl
 have l1 := HC1.out.lim.cell 1 _ rfl
 have l2 := HC1.out.lim.cell 2 _ rfl
 have l3 := HC1.out.lim.cell 3 _ rfl
 clear hb1
 go_wp2_with fail
 have lA0 : ∀ (ob : Obj), (w1.alloc ob).cell? ⟨B, 0, none⟩ = some (.int .i64 d) := fun ob => (HC1.out.lim.alloc ob).cell 0 _ rfl
 have lA1 : ∀ (ob : Obj), (w1.alloc ob).cell? ⟨B, 1, none⟩ = some (.int .i64 i) := fun ob => (HC1.out.lim.alloc ob).cell 1 _ rfl
 have lA2 : ∀ (ob : Obj), (w1.alloc ob).cell? ⟨B, 2, none⟩ = some (.int .i64 b) := fun ob => (HC1.out.lim.alloc ob).cell 2 _ rfl
 have lA3 : ∀ (ob : Obj), (w1.alloc ob).cell? ⟨B, 3, none⟩ = some (.int .i64 ro) := fun ob => (HC1.out.lim.alloc ob).cell 3 _ rfl
 go_cut [7] from 12 to 17 (fun v wx => ∃ R, v = .pointer (some ⟨R, 0, none⟩) ∧ w1.heap.size ≤ R ∧ Rd wx R s (limL d i b) 0 [] [] (.slice none 0 0) (.slice none 0 0) ro ∧ Below w1.heap.size w1 wx)
 case first =>
  refine wp_only ?_
  go_region_law (first
   | (go_simp; go_at_call 29; refine (NW.out _).mono ?_; rintro e w2 ⟨rfl, hb2⟩; have hX : Below w1.heap.size w1 w2 := ((Below.refl w1.heap.size w1).alloc (nle _) (Obj.cells #[Value.string ByteArray.empty, Value.int .i64 0, Value.int .i64 0, Value.int .i64 0, Value.int .i64 0, Value.int .i64 0, Value.int .i64 0, Value.slice none 0 0, Value.slice none 0 0] 73)).drew.trans (hb2.mono (by simp)); have hZ : At w2 w1.heap.size 0 (#[Value.string ByteArray.empty, Value.int .i64 0, Value.int .i64 0, Value.int .i64 0, Value.int .i64 0, Value.int .i64 0, Value.int .i64 0, Value.slice none 0 0, Value.slice none 0 0]).toList := (At.ofAlloc w1 #[Value.string ByteArray.empty, Value.int .i64 0, Value.int .i64 0, Value.int .i64 0, Value.int .i64 0, Value.int .i64 0, Value.int .i64 0, Value.slice none 0 0, Value.slice none 0 0] 73).drew.below hb2 (by simp); have r0 := hZ.cell 0 _ rfl; have q0 := hZ.froz 0 (by simp); have r1 := hZ.cell 1 _ rfl; have q1 := hZ.froz 1 (by simp); have r2 := hZ.cell 2 _ rfl; have q2 := hZ.froz 2 (by simp); have r3 := hZ.cell 3 _ rfl; have q3 := hZ.froz 3 (by simp); have r4 := hZ.cell 4 _ rfl; have q4 := hZ.froz 4 (by simp); have r5 := hZ.cell 5 _ rfl; have q5 := hZ.froz 5 (by simp); have r6 := hZ.cell 6 _ rfl; have q6 := hZ.froz 6 (by simp); have r7 := hZ.cell 7 _ rfl; have q7 := hZ.froz 7 (by simp); have r8 := hZ.cell 8 _ rfl; have q8 := hZ.froz 8 (by simp); have LL := HC1.out.lim.below hX (by have := HC1.out.size; omega); have m0 := LL.cell 0 _ rfl; have m1 := LL.cell 1 _ rfl; have m2 := LL.cell 2 _ rfl; have m3 := LL.cell 3 _ rfl; have mA0 : ∀ (ob : Obj), (w2.alloc ob).cell? ⟨B, 0, none⟩ = some (.int .i64 d) := fun ob => (LL.alloc ob).cell 0 _ rfl; have mA1 : ∀ (ob : Obj), (w2.alloc ob).cell? ⟨B, 1, none⟩ = some (.int .i64 i) := fun ob => (LL.alloc ob).cell 1 _ rfl; have mA2 : ∀ (ob : Obj), (w2.alloc ob).cell? ⟨B, 2, none⟩ = some (.int .i64 b) := fun ob => (LL.alloc ob).cell 2 _ rfl; have mA3 : ∀ (ob : Obj), (w2.alloc ob).cell? ⟨B, 3, none⟩ = some (.int .i64 ro) := fun ob => (LL.alloc ob).cell 3 _ rfl; have HX := hid hX; have HZB := hid hZ; clear LL hX hb2 hZ)
   | (go_simp; go_at_call 29; refine (NW.out _).mono ?_; rintro e w2 ⟨rfl, hb2⟩; have hX : Below w1.heap.size w1 w2 := (below_drewN w1.heap.size w1 1).trans hb2; have LL := HC1.out.lim.below hX (by have := HC1.out.size; omega); have m0 := LL.cell 0 _ rfl; have m1 := LL.cell 1 _ rfl; have m2 := LL.cell 2 _ rfl; have m3 := LL.cell 3 _ rfl; have mA0 : ∀ (ob : Obj), (w2.alloc ob).cell? ⟨B, 0, none⟩ = some (.int .i64 d) := fun ob => (LL.alloc ob).cell 0 _ rfl; have mA1 : ∀ (ob : Obj), (w2.alloc ob).cell? ⟨B, 1, none⟩ = some (.int .i64 i) := fun ob => (LL.alloc ob).cell 1 _ rfl; have mA2 : ∀ (ob : Obj), (w2.alloc ob).cell? ⟨B, 2, none⟩ = some (.int .i64 b) := fun ob => (LL.alloc ob).cell 2 _ rfl; have mA3 : ∀ (ob : Obj), (w2.alloc ob).cell? ⟨B, 3, none⟩ = some (.int .i64 ro) := fun ob => (LL.alloc ob).cell 3 _ rfl; have HX := hid hX; clear LL hX hb2))
  all_goals
   simp only [onlyN]
   go_wp2_with fail
   go_meet
   case rel => first
    | exact ⟨_, rfl, HX.out.size, rd_start (At.ofAlloc w2 #[Value.string s, Value.int .i64 b, Value.int .i64 0, Value.int .i64 d, Value.int .i64 i, Value.int .i64 b, Value.int .i64 ro, Value.slice none 0 0, Value.slice none 0 0] 73) HMY.out, HX.out.alloc HX.out.size _⟩
    | (rw [← sets9]; exact ⟨_, rfl, nle _, rd_start (At.ofSets HZB.out (vs := [Value.string s, Value.int .i64 b, Value.int .i64 0, Value.int .i64 d, Value.int .i64 i, Value.int .i64 b, Value.int .i64 ro, Value.slice none 0 0, Value.slice none 0 0]) rfl) HMY.out, below_sets w1.heap.size w1.heap.size (nle _) [Value.string s, Value.int .i64 b, Value.int .i64 0, Value.int .i64 d, Value.int .i64 i, Value.int .i64 b, Value.int .i64 ro, Value.slice none 0 0, Value.slice none 0 0] 0 w1 w2 HX.out⟩)
 case rest =>
  obtain ⟨R, rfl, hR1, hR2, hR3⟩ := hcut
  have HR1 := hid hR1
  have HR2 := hid hR2
  have HR3 := hid hR3
  clear hR1 hR2 hR3 l0 l1 l2 l3 lA0 lA1 lA2 lA3
  have HBw : Hid (Below B w wc) := HB1.out.trans (HR3.out.mono (by have := HC1.out.size; omega))
  have HUT : Hid (UT R wc) := ((HU.out.below (by rw [HBB.out]; exact HBw.out)).mono (by have := HBB.out; have := HC1.out.size; have := HR1.out; omega))
  have HCc := hid (HC1.out.below HR3.out HC1.out.size)
  have HLE : Hid (B + 4 ≤ R) := by show B + 4 ≤ R; have := HC1.out.size; have := HR1.out; omega
  go_wp2_with fail
  refine (whole_any wc R s (limL d i b) _ _ ro ⟨HR2.out, (fun x hx => by cases hx), Nat.zero_le _, HZ.out, by show i.toNat ≤ 4096; have := HMY.out; omega, by show d.toNat ≤ 32; have := HMY.out; omega, by show b.toNat ≤ 262144; have := HMY.out; omega, HUT.out⟩).mono ?_
  rintro e w5 ⟨r, hRun, hT⟩
  cases r with
  | no c q bb =>
   obtain ⟨rfl, hb⟩ := hT
   have HRun := hid hRun
   have HC5 := hid (HCc.out.below hb HLE.out)
   have HB5 := hid (HBw.out.trans (hb.mono (by have := HLE.out; omega)))
   clear hRun hb
   go_wp2_with fail
   refine leaves_cons (f := 28) (args := #[.pointer (some ⟨B + 1, 0, none⟩), .pointer (some ⟨B + 1 + 1, 0, none⟩), .pointer (some ⟨B + 1 + 1 + 1, 0, none⟩)]) (by simp) (by simp [go_sem]) ?_
   refine (catch_panicking (B + 1) (B + 1 + 1) (B + 1 + 1 + 1) c (q : Int) undef 0 0 _ (HC5.out.ls.cell 0 _ rfl) (HC5.out.at_.cell 0 _ rfl) (HC5.out.er.cell 0 _ rfl) (HC5.out.ls.froz 0 (by simp)) (HC5.out.at_.froz 0 (by simp)) (HC5.out.er.froz 0 (by simp)) (by omega) (by omega) (by omega)).mono ?_
   rintro e u w6 ⟨rfl, rfl, z1, z2, z3, hB6⟩
   have HB6 := hid (HB5.out.trans (hB6 B (by omega) (by omega) (by omega) (by have := HC5.out.size; omega)))
   clear hB6
   simp [bodyPostD, Leaves, settle, results, Tryz.results14, go_sem, z1, z2, z3]
   obtain rfl := HBB.out
   exact ⟨.no c q bb, ⟨fun _ => HRun.out, fun h => (by rw [HM.out] at h; cases h)⟩, _, rfl, World.ownsRow_nil _ _ _ _, HB6.out⟩
  | ok l =>
   obtain ⟨rfl, ⟨p, vn, vs, HR5⟩, hb⟩ := hT
   have HRun := hid hRun
   have HC5 := hid (HCc.out.below hb.out HLE.out)
   have HB5 := hid (HBw.out.trans (hb.out.mono (by have := HLE.out; omega)))
   obtain ⟨an, cn, rfl, -⟩ := own_form HR5.out.nodes
   have hc7 := HR5.out.at0.cell 7 _ rfl
   have c1 := HC5.out.ls.cell 0 _ rfl
   have c2 := HC5.out.at_.cell 0 _ rfl
   have c3 := HC5.out.er.cell 0 _ rfl
   have f1 := HC5.out.ls.froz 0 (by simp)
   have f2 := HC5.out.at_.froz 0 (by simp)
   have f3 := HC5.out.er.froz 0 (by simp)
   clear hRun hb
   go_wp2_with fail
   obtain ⟨wz, hwz⟩ : ∃ wz, (((w5.setCell ⟨B + 1, 0, none⟩ (.slice an l.length cn)).setCell ⟨B + 1 + 1, 0, none⟩ (.int .i64 0)).setCell ⟨B + 1 + 1 + 1, 0, none⟩ (.int .i64 0)) = wz := ⟨_, rfl⟩
   have z1 : wz.cell? ⟨B + 1, 0, none⟩ = some (.slice an l.length cn) := by rw [← hwz]; simp [go_sem, c1, c2, c3]
   have z2 : wz.cell? ⟨B + 1 + 1, 0, none⟩ = some (.int .i64 0) := by rw [← hwz]; simp [go_sem, c1, c2, c3]
   have z3 : wz.cell? ⟨B + 1 + 1 + 1, 0, none⟩ = some (.int .i64 0) := by rw [← hwz]; simp [go_sem, c1, c2, c3]
   have HBz : Hid (Below B w wz) := by
    rw [← hwz]
    exact ((HB5.out.setCell (p := ⟨B + 1, 0, none⟩) (by show B ≤ B + 1; omega) _).setCell (p := ⟨B + 1 + 1, 0, none⟩) (by show B ≤ B + 1 + 1; omega) _).setCell (p := ⟨B + 1 + 1 + 1, 0, none⟩) (by show B ≤ B + 1 + 1 + 1; omega) _
   have HOz : Hid (wz.ownsRow B 60 3 (.slice an l.length cn) l.length (rcells (l.map up))) := by
    rw [← hwz]
    have hle := HLE.out
    exact own_base (ownsRow_setCell_below (ownsRow_setCell_below (ownsRow_setCell_below HR5.out.nodes (by show B + 1 < R + 1; omega) _) (by show B + 1 + 1 < R + 1; omega) _) (by show B + 1 + 1 + 1 < R + 1; omega) _) (by omega)
   rw [hwz]
   clear hwz c1 c2 c3 f1 f2 f3 hc7
   refine leaves_cons (f := 28) (args := #[.pointer (some ⟨B + 1, 0, none⟩), .pointer (some ⟨B + 1 + 1, 0, none⟩), .pointer (some ⟨B + 1 + 1 + 1, 0, none⟩)]) (by simp) (by simp [go_sem]) ?_
   refine (catch_idle (B + 1) (B + 1 + 1) (B + 1 + 1 + 1) _).mono ?_
   rintro e u w6 ⟨rfl, rfl, rfl⟩
   simp [bodyPostD, Leaves, settle, results, Tryz.results14, go_sem, z1, z2, z3]
   obtain rfl := HBB.out
   exact ⟨.ok l, ⟨fun _ => HRun.out, fun h => (by rw [HM.out] at h; cases h)⟩, _, rfl, HOz.out, HBz.out⟩
theorem decode_any (s : ByteArray) (d i b ro : Int) (w : World) (hz : s.size ≤ 140737488351232) (hU : UT w.heap.size w) :
  Calls Tryz.prog 14 #[.string s, .agg #[.int .i64 d, .int .i64 i, .int .i64 b, .int .i64 ro]] w (RetDec s d i b ro w) := by
 cases hm : mayOk d i b ro
 ·exact decode_no s d i b ro w hm
 ·exact decode_yes s d i b ro w hm hz hU
end Co
end Go.Proofs.YtikgonlhdkknkaaGreatDoor
