import Derived.Test.YtikgonlhdkknkaaGreatDoorCuX
import Derived.RegionDies
set_option maxRecDepth 100000
set_option maxHeartbeats 1600000
set_option linter.unusedVariables false
set_option linter.unusedSimpArgs false
open Go.Lib (hid)
namespace Go.Proofs.YtikgonlhdkknkaaGreatDoor
open Go.RowKit
namespace Co
open Dr (Rs Lm has lack at0S)
theorem Rd.other {w : World} {g : Nat} {s : ByteArray} {L : Lm} {p : Nat} {l : List Am} {G : List Fr} {vn vs : Value} {ro : Int} (h : Rd w g s L p l G vn vs ro) (T o : Nat) (v : Value) (hg : g ≠ T) (h1 : vn.ownBlock = some T → False) (h2 : vs.ownBlock = some T → False) : Rd (w.setCell ⟨T, o, none⟩ v) g s L p l G vn vs ro :=
 ⟨h.at0.other T o v (Or.inl (fun e => hg e.symm)), ownsRow_setCell_other h.nodes h1 v, ownsRow_setCell_other h.stack h2 v, by rw [show (w.setCell ⟨T, o, none⟩ v).heap.size = w.heap.size by simp [World.setCell]]; exact h.lt⟩
def RsSkip (u : ByteArray) (g : Nat) (s : ByteArray) (L : Lm) (q : Nat) (l : List Am) (G : List Fr) (vn vs : Value) (ro : Int) (w : World) (e : Ending) (w' : World) : Prop :=
 e = .returned (.string u) ∧ Hid (Rd w' g s L q l G vn vs ro) ∧ Hid (Below g w w') ∧ Hid (∀ T cs, g ≠ T → At w T 0 cs → At w' T 0 cs) ∧ Hid (w.heap.size ≤ w'.heap.size)
theorem skip_at {w : World} {g : Nat} {s : ByteArray} {L : Lm} {p : Nat} {l : List Am} {G : List Fr} {vn vs : Value} {ro : Int} (hR : Rd w g s L p l G vn vs ro) (b9 : Nat) (h0 : p ≤ b9) (h1 : b9 ≤ s.size) (h2 : b9 ≤ L.bytes) (u : ByteArray) (hu : s.extract p b9 = u) :
  Calls Tryz.prog 78 #[.pointer (some ⟨g, 0, none⟩), .int .i64 (b9 : Int)] w (RsSkip u g s L b9 l G vn vs ro w) := by
 subst hu
 refine (skip_ok w g s L.bytes p b9 hR.tx.1 hR.tx.2 h0 h1 h2).mono ?_
 rintro e w' ⟨rfl, k, rfl⟩
 refine ⟨rfl, (hR.drewN k).place _, below_place _ _ _ _, fun T cs hg h => (h.drewN k).other g 2 _ (Or.inl hg), ?_⟩
 show w.heap.size ≤ ((w.drewN k).setCell ⟨g, 2, none⟩ (.int .i64 (b9 : Int))).heap.size
 rw [show ((w.drewN k).setCell ⟨g, 2, none⟩ (.int .i64 (b9 : Int))).heap.size = (w.drewN k).heap.size by simp [World.setCell]]
 exact nle _
theorem size_set2 (w : World) (a b : Addr) (v u : Value) : ((w.setCell a v).setCell b u).heap.size = w.heap.size := by simp [World.setCell]
theorem fits_iff {s : ByteArray} {L : Lm} {q n : Nat} (h1 : q ≤ s.size) (h2 : q ≤ L.bytes) : (n ≠ 0 ∧ has s.toList L (q + n - 1) = false) ↔ ¬ (q + n ≤ s.size ∧ q + n ≤ L.bytes) := by
 rw [has, decide_eq_false_iff_not, tl_size]
 omega
theorem argR_pb {S : List UInt8} {L : Lm} {p n : Nat} (h0 : has S L p = true) (h : argR S L p = .ok n) : p + 1 + widT (S.getD p 0) ≤ L.bytes := by
 have h1 : p < S.length ∧ p < L.bytes := of_decide_eq_true h0
 rw [argR] at h
 cases hB : argB S L p (widT (S.getD p 0)) with
 | no e q b => rw [hB] at h; cases h
 | ok m =>
  cases hw : widT (S.getD p 0) with
  | zero => omega
  | succ i =>
   rw [hw, argB] at hB
   split at hB
   ·cases hB
   ·split at hB
    ·rename_i _ hh
     have h2 : p + i + 1 < S.length ∧ p + i + 1 < L.bytes := of_decide_eq_true hh
     omega
    ·rw [lack] at hB; cases hB
theorem item_short2 (w : World) (g : Nat) (s : ByteArray) (L : Lm) (p : Nat) (l : List Am) (G : List Fr) (vn vs : Value) (ro : Int) (hyp : ElHyp w g s L p l G vn vs ro) (h0 : p < s.size ∧ p < L.bytes) (t : Nat) (ht : (s.toList.getD p 0).toNat = t) (h2 : ¬ L.items ≤ l.length) (h3 : headE (s.toList.getD p 0) = 0) (n : Nat) (hA : argR s.toList L p = .ok n) (hk : kindT (s.toList.getD p 0) = 2) (q : Nat) (hq : p + 1 + widT (s.toList.getD p 0) = q) (h6 : n ≠ 0 ∧ has s.toList L (q + n - 1) = false) :
  Calls Tryz.prog 49 #[.pointer (some ⟨g, 0, none⟩)] w (RsAll (elT s.toList L G l p) g s L ro w) := by
 obtain ⟨hR, hG, hp, hz, hLi, hLd, hLb, hU⟩ := hyp
 have F := hid (fun c p w => fail_any c p w)
 have HR := hid hR
 have N := hid (next_yes hR h0.1 h0.2 hz t ht)
 have hh := has_yes s L p h0
 obtain ⟨m, hm⟩ : ∃ m, l.length = m := ⟨_, rfl⟩
 obtain ⟨an, cn, rfl, -⟩ := own_form hR.nodes
 obtain ⟨as_, cs, rfl, -⟩ := own_form hR.stack
 obtain ⟨gl, hgl⟩ : ∃ gl, G.length = gl := ⟨_, rfl⟩
 rw [hm, hgl] at HR
 have HM := hid hm
 have HGL := hid hgl
 have e1 : ¬ (L.items : Int) ≤ (m : Int) := by omega
 have e1b : decide ((L.items : Int) ≤ (m : Int)) = false := dfa e1
 have ht2 : t < 256 := by rw [← ht]; exact (s.toList.getD p 0).toNat_lt
 have hkt : t / 32 = 2 := by rw [← hk, kindT, ht]
 have AR := hid (fun w' vn vs (hR' : Rd w' g s L (p + 1) l G vn vs ro) => argument_any w' g s L p l G vn vs ro hR' t ht h3 (by omega) hz)
 rw [hA, hq] at AR
 have KI := hid (fun w => kind_any t 2 ht2 hkt w)
 have HO := hid (fun w => holds_any 2 w)
 have hinv := argR_inv (L := L) hh h3 hA
 rw [hq, tl_size] at hinv
 have hn64 := hinv.2.2.1
 have hqs := hinv.2.2.2
 obtain ⟨RR, hRR⟩ : ∃ R, elT s.toList L G l p = R := ⟨_, rfl⟩
 rw [hRR]
 rw [elT_short hh h2 h3 hA hk hq (by decide) h6, lack_eq] at hRR
 have HRR := hid hRR
 have hpb := argR_pb hh hA
 rw [hq] at hpb
 have hfit := fits_iff (s := s) (n := n) hqs hpb
 obtain ⟨mn, hmn⟩ : ∃ mn, min n 262145 = mn := ⟨_, rfl⟩
 have LE : Hid (∀ w, Calls Tryz.prog 77 #[.int .u64 (n : Int), .int .u64 262145] w (RetVal (.int .u64 (mn : Int)) w)) := fun w => by rw [← hmn]; exact lesser_any n 262145 w
 have hm2 : mn ≤ 262145 := by omega
 have e5 : (mn : Int) ≤ 262145 := by omega
 have e6 : IntKind.i64.wrap (mn : Int) = (mn : Int) := wrap_fit mn (by unfold maxLen; omega)
 have e7 : (q : Int) ≤ 140737488351232 := by omega
 obtain ⟨b9, hto9⟩ : ∃ b9, q + mn = b9 := ⟨_, rfl⟩
 have e8 : IntKind.i64.wrap ((q : Int) + (mn : Int)) = (b9 : Int) := by
  rw [show (q : Int) + (mn : Int) = ((q + mn : Nat) : Int) by omega, hto9]
  exact wrap_fit b9 (by unfold maxLen; omega)
 have hto : ¬ (b9 ≤ s.size ∧ b9 ≤ L.bytes) := fun h => by
  rw [← hto9] at h
  by_cases h9 : n ≤ 262145
  ·have h10 : mn = n := by omega
   rw [h10] at h
   exact hfit.1 h6 h
  ·omega
 have HTO := hid hto
 clear hfit hto h6 hmn hm2 hpb hto9
 clear hR hG hp hz hLi hLd hLb hU h0 hh h2 h3 hA ht hm hgl hRR hinv hn64 hqs hk hq hkt ht2
 go_enter Tryz.func49, Tryz.ntmps49
 go_wp2_with (first
  | (go_at_call 56; refine (place_yes (by first | exact HR2.out | exact HR1.out | exact HR.out)).mono ?_; rintro e wp ⟨rfl, rfl⟩)
  | (go_at_call 54; refine N.out.mono ?_; rintro e w1 ⟨rfl, HR1, HB1⟩))
 have hc4 := HR1.out.at0.cell 4 _ rfl
 have hc7 := HR1.out.at0.cell 7 _ rfl
 rw [HM.out] at hc7
 go_quiet (fail)
 clear hc4 hc7
 go_wp2_with (first
  | (go_at_call 75; refine (AR.out _ _ _ (by first | exact HR1.out.drewN _ | (rw [HM.out, HGL.out]; exact HR1.out.drewN _))).mono ?_; rintro e w2 ⟨rfl, HR2, HB2⟩; have hT0 := (At.ofAlloc w2 #[.int .i64 2, .int .u64 (n : Int), .string ByteArray.empty] 60).cell 0 _ rfl; rw [Nat.zero_add] at hT0)
  | (go_at_call 76; refine (KI.out _).mono ?_; rintro e wk ⟨rfl, rfl⟩)
  | (go_at_call 77; refine (LE.out _).mono ?_; rintro e wl ⟨rfl, rfl⟩))
 obtain ⟨T, hT⟩ : ∃ T, w2.heap.size = T := ⟨_, rfl⟩
 have HRB := hid HR2.out.nodes
 obtain ⟨wa, hwa⟩ : ∃ x, w2.alloc (Obj.cells #[Value.int .i64 2, Value.int .u64 (n : Int), Value.string ⟨#[]⟩] 60) = x := ⟨_, rfl⟩
 have HRA0 : Hid (Rd wa g s L q l G (.slice an l.length cn) (.slice as_ G.length cs) ro) := by rw [← hwa]; exact HR2.out.alloc _
 have HTA0 : At wa T 0 [.int .i64 2, .int .u64 (n : Int), .string ByteArray.empty] := by rw [← hwa, ← hT]; exact At.ofAlloc w2 #[Value.int .i64 2, Value.int .u64 (n : Int), Value.string ByteArray.empty] 60
 have HTL0 : T < wa.heap.size ∧ g ≠ T := by
  have h1 := HR2.out.lt
  refine ⟨by rw [← hwa, ← hT]; simp, by omega⟩
 have HRG : Hid (g < T) := by have h1 := HR2.out.lt; show g < T; omega
 have HGT : Hid (g ≤ T) := by have h1 := HR2.out.lt; show g ≤ T; omega
 have HBA : Hid (Below g w wa) := by rw [← hwa]; exact ((HB1.out.trans (below_drewN _ _ _)).trans HB2.out).alloc (Nat.le_of_lt HR2.out.lt) _
 have HNE0 : Hid ((Value.slice an l.length cn).ownBlock = some T → False) := fun e => by have h1 := (HRB.out.lt T e).2; omega
 have HNS0 : Hid ((Value.slice as_ G.length cs).ownBlock = some T → False) := fun e => by have h1 := (HR2.out.stack.lt T e).2; omega
 rw [hT, hwa]
 clear hwa hT hT0
 go_region_dies
 rename_i K hK
 go_at_call 56
 refine (place_yes (HRA0.out.drewN 1)).mono ?_
 rintro e wp ⟨rfl, rfl⟩
 refine hK _ _ ?_
 clear hK K
 refine wpAny_ready (rs := [9]) (by kernel_rfl) (by simp) ?_
 refine AllReady.cons rfl (fun K hK => ?_) AllReady.nil
 go_simp
 refine hK _ _ ?_
 clear hK K
 refine wpAny_ready (rs := [10]) (by kernel_rfl) (by simp) ?_
 refine AllReady.cons rfl (fun K hK => ?_) AllReady.nil
 go_simp
 go_at_call 78
 refine (skip_lack (HRA0.out.drewN 1) b9 HTO.out _ rfl).mono ?_
 rintro e w3 ⟨rfl, hb⟩
 refine ⟨rfl, ?_⟩
 rw [← HRR.out]
 exact ⟨rfl, (HBA.out.trans (below_drewN _ _ 1)).trans hb⟩
theorem item_text2 (w : World) (g : Nat) (s : ByteArray) (L : Lm) (p : Nat) (l : List Am) (G : List Fr) (vn vs : Value) (ro : Int) (hyp : ElHyp w g s L p l G vn vs ro) (h0 : p < s.size ∧ p < L.bytes) (t : Nat) (ht : (s.toList.getD p 0).toNat = t) (h2 : ¬ L.items ≤ l.length) (h3 : headE (s.toList.getD p 0) = 0) (n : Nat) (hA : argR s.toList L p = .ok n) (hk : kindT (s.toList.getD p 0) = 2) (q : Nat) (hq : p + 1 + widT (s.toList.getD p 0) = q) (h6 : ¬ (n ≠ 0 ∧ has s.toList L (q + n - 1) = false)) :
  Calls Tryz.prog 49 #[.pointer (some ⟨g, 0, none⟩)] w (RsAll (elT s.toList L G l p) g s L ro w) := by
 obtain ⟨hR, hG, hp, hz, hLi, hLd, hLb, hU⟩ := hyp
 have F := hid (fun c p w => fail_any c p w)
 have HR := hid hR
 have N := hid (next_yes hR h0.1 h0.2 hz t ht)
 have hh := has_yes s L p h0
 obtain ⟨m, hm⟩ : ∃ m, l.length = m := ⟨_, rfl⟩
 obtain ⟨an, cn, rfl, -⟩ := own_form hR.nodes
 obtain ⟨as_, cs, rfl, -⟩ := own_form hR.stack
 obtain ⟨gl, hgl⟩ : ∃ gl, G.length = gl := ⟨_, rfl⟩
 rw [hm, hgl] at HR
 have HM := hid hm
 have HGL := hid hgl
 have e1 : ¬ (L.items : Int) ≤ (m : Int) := by omega
 have e1b : decide ((L.items : Int) ≤ (m : Int)) = false := dfa e1
 have ht2 : t < 256 := by rw [← ht]; exact (s.toList.getD p 0).toNat_lt
 have hkt : t / 32 = 2 := by rw [← hk, kindT, ht]
 have AR := hid (fun w' vn vs (hR' : Rd w' g s L (p + 1) l G vn vs ro) => argument_any w' g s L p l G vn vs ro hR' t ht h3 (by omega) hz)
 rw [hA, hq] at AR
 have KI := hid (fun w => kind_any t 2 ht2 hkt w)
 have HO := hid (fun w => holds_any 2 w)
 have hinv := argR_inv (L := L) hh h3 hA
 rw [hq, tl_size] at hinv
 have hn64 := hinv.2.2.1
 have hqs := hinv.2.2.2
 obtain ⟨RR, hRR⟩ : ∃ R, elT s.toList L G l p = R := ⟨_, rfl⟩
 rw [hRR]
 rw [elT_text hh h2 h3 hA hk hq (by decide) h6 (by rintro ⟨h, -⟩; exact absurd h (by decide))] at hRR
 have hpb := argR_pb hh hA
 rw [hq] at hpb
 have hfit := fits_iff (s := s) (n := n) hqs hpb
 obtain ⟨mn, hmn⟩ : ∃ mn, min n 262145 = mn := ⟨_, rfl⟩
 have LE : Hid (∀ w, Calls Tryz.prog 77 #[.int .u64 (n : Int), .int .u64 262145] w (RetVal (.int .u64 (mn : Int)) w)) := fun w => by rw [← hmn]; exact lesser_any n 262145 w
 have hm2 : mn ≤ 262145 := by omega
 have e5 : (mn : Int) ≤ 262145 := by omega
 have e6 : IntKind.i64.wrap (mn : Int) = (mn : Int) := wrap_fit mn (by unfold maxLen; omega)
 have e7 : (q : Int) ≤ 140737488351232 := by omega
 obtain ⟨b9, hto9⟩ : ∃ b9, q + mn = b9 := ⟨_, rfl⟩
 have e8 : IntKind.i64.wrap ((q : Int) + (mn : Int)) = (b9 : Int) := by
  rw [show (q : Int) + (mn : Int) = ((q + mn : Nat) : Int) by omega, hto9]
  exact wrap_fit b9 (by unfold maxLen; omega)
 have hfit2 : q + n ≤ s.size ∧ q + n ≤ L.bytes := Classical.not_not.1 fun h => h6 (hfit.2 h)
 have hmn2 : n = mn := by omega
 subst hmn2
 rw [hto9] at hfit2
 rw [hto9] at hRR
 obtain ⟨u, hu⟩ : ∃ u, s.extract q b9 = u := ⟨_, rfl⟩
 have hul : u.toList = Dr.part s.toList q b9 := by rw [← hu, tl_extract]; rfl
 have hus : u.size ≤ 140737488351232 := by
  rw [← tl_size, hul, Dr.part, List.length_take, List.length_drop, tl_size]
  omega
 have HSK := hid (aIn (show q ≤ b9 by omega) (aIn hfit2.1 (aIn hfit2.2 hu)))
 have CL := hid (fun w => cclone_any u w (by omega))
 have HRR := hid hRR
 have HG := hid (aIn hG (aIn (show p ≤ b9 by omega) (aIn hfit2.1 hz)))
 have HIT := hid (show l.length ≤ 1000000 by omega)
 have HAV : Hid (rv (up ⟨2, 0, Dr.part s.toList q b9⟩) = (#[Value.int .i64 ((2 : Nat) : Int), Value.int .u64 0, Value.string u]).toList) := by
  show rv (up ⟨2, 0, Dr.part s.toList q b9⟩) = _
  rw [← hul]
  show [Value.int .i64 ((2 : Nat) : Int), Value.int .u64 ((0 : Nat) : Int), Value.string ⟨u.toList.toArray⟩] = _
  rw [tl_arr]
  rfl
 clear hfit hfit2 h6 hmn hm2 hpb hto9 hu hul hus
 clear hR hG hp hz hLi hLd hLb hU h0 hh h2 h3 hA ht hm hgl hRR hinv hn64 hqs hk hq hkt ht2
 go_enter Tryz.func49, Tryz.ntmps49
 go_wp2_with (first
  | (go_at_call 56; refine (place_yes (by first | exact HR2.out | exact HR1.out | exact HR.out)).mono ?_; rintro e wp ⟨rfl, rfl⟩)
  | (go_at_call 54; refine N.out.mono ?_; rintro e w1 ⟨rfl, HR1, HB1⟩))
 have hc4 := HR1.out.at0.cell 4 _ rfl
 have hc7 := HR1.out.at0.cell 7 _ rfl
 rw [HM.out] at hc7
 go_quiet (fail)
 clear hc4 hc7
 go_wp2_with (first
  | (go_at_call 75; refine (AR.out _ _ _ (by first | exact HR1.out.drewN _ | (rw [HM.out, HGL.out]; exact HR1.out.drewN _))).mono ?_; rintro e w2 ⟨rfl, HR2, HB2⟩; have hT0 := (At.ofAlloc w2 #[.int .i64 2, .int .u64 (n : Int), .string ByteArray.empty] 60).cell 0 _ rfl; rw [Nat.zero_add] at hT0)
  | (go_at_call 76; refine (KI.out _).mono ?_; rintro e wk ⟨rfl, rfl⟩)
  | (go_at_call 77; refine (LE.out _).mono ?_; rintro e wl ⟨rfl, rfl⟩))
 obtain ⟨T, hT⟩ : ∃ T, w2.heap.size = T := ⟨_, rfl⟩
 have HRB := hid HR2.out.nodes
 obtain ⟨wa, hwa⟩ : ∃ x, w2.alloc (Obj.cells #[Value.int .i64 2, Value.int .u64 (n : Int), Value.string ⟨#[]⟩] 60) = x := ⟨_, rfl⟩
 have HRA0 : Hid (Rd wa g s L q l G (.slice an l.length cn) (.slice as_ G.length cs) ro) := by rw [← hwa]; exact HR2.out.alloc _
 have HTA0 : At wa T 0 [.int .i64 2, .int .u64 (n : Int), .string ByteArray.empty] := by rw [← hwa, ← hT]; exact At.ofAlloc w2 #[Value.int .i64 2, Value.int .u64 (n : Int), Value.string ByteArray.empty] 60
 have HTL0 : T < wa.heap.size ∧ g ≠ T := by
  have h1 := HR2.out.lt
  refine ⟨by rw [← hwa, ← hT]; simp, by omega⟩
 have HRG : Hid (g < T) := by have h1 := HR2.out.lt; show g < T; omega
 have HGT : Hid (g ≤ T) := by have h1 := HR2.out.lt; show g ≤ T; omega
 have HBA : Hid (Below g w wa) := by rw [← hwa]; exact ((HB1.out.trans (below_drewN _ _ _)).trans HB2.out).alloc (Nat.le_of_lt HR2.out.lt) _
 have HNE0 : Hid ((Value.slice an l.length cn).ownBlock = some T → False) := fun e => by have h1 := (HRB.out.lt T e).2; omega
 have HNS0 : Hid ((Value.slice as_ G.length cs).ownBlock = some T → False) := fun e => by have h1 := (HR2.out.stack.lt T e).2; omega
 rw [hT, hwa]
 clear hwa hT hT0
 go_cut [] from 45 to 58 (fun wx => Rd wx g s L b9 l G (.slice an l.length cn) (.slice as_ G.length cs) ro ∧ At wx T 0 [.int .i64 2, .int .u64 0, .string u] ∧ Below g w wx ∧ T < wx.heap.size)
 case first =>
  go_wp2_with fail
  go_region_with (first
   | (go_at_call 56; refine (place_yes (HRA0.out.drewN _)).mono ?_; rintro e wp ⟨rfl, rfl⟩)
   | (go_at_call 78; refine (skip_at (HRA0.out.drewN _) b9 HSK.out.1 HSK.out.2.1 HSK.out.2.2.1 u HSK.out.2.2.2).mono ?_; rintro e w3 ⟨rfl, HR3, HB3, HA3, HS3⟩)
   | (go_at_call 38; refine (CL.out _).mono ?_; rintro e w4 ⟨rfl, HC4⟩; have HT4 := hid ((HA3.out T _ HTL0.2 (HTA0.drewN _)).below HC4.out (nlt HTL0.1 HS3.out)); have hx1 := HT4.out.cell 1 _ rfl; have hx2 := HT4.out.cell 2 _ rfl; have hy1 := HT4.out.froz 1 (by simp); have hy2 := HT4.out.froz 2 (by simp)))
  all_goals
   go_wp2_with fail
   go_meet
   case rel => exact ⟨((HR3.out.below HC4.out).other T 1 _ HTL0.2 HNE0.out HNS0.out).other T 2 _ HTL0.2 HNE0.out HNS0.out, (HT4.out.set 1 _).set 2 _, (((HBA.out.trans (below_drewN _ _ _)).trans (HB3.out.trans (HC4.out.mono (Nat.le_of_lt HR3.out.lt)))).setCell (p := ⟨T, 1, none⟩) HGT.out _).setCell (p := ⟨T, 2, none⟩) HGT.out _, by rw [size_set2]; exact nlt HTL0.1 (Nat.le_trans HS3.out HC4.out.size)⟩
 case rest =>
  obtain ⟨wb, hwb⟩ : ∃ x, x = wc := ⟨_, rfl⟩
  subst hwb
  obtain ⟨hRc, hTc, hBc, hSc⟩ := hcut
  have hT0 := hTc.z 0 _ rfl
  have HO3 := hid (show holds 2 = false from rfl)
  rw [HO3.out] at HO
  clear HRA0 HTA0 HTL0 HBA
  go_wp2_with fail
  have HRA0 : Hid (Rd wb g s L b9 l G (.slice an l.length cn) (.slice as_ G.length cs) ro) := hRc
  have HTA0 := hTc
  have HTL0 : T < wb.heap.size ∧ g ≠ T := ⟨hSc, fun e => by have h1 := HRG.out; omega⟩
  have HBA : Hid (Below g w wb) := hBc
  clear hT0 hRc hTc hBc hSc
  obtain ⟨vN, hvN, hfN, HRA, HNE⟩ := HRA0.out.hideA (T := T) HNE0.out
  have HTA := hid HTA0
  have HTL : Hid (T < wb.heap.size ∧ g ≠ T ∧ (vN.ownBlock = some T → False)) := ⟨HTL0.1, HTL0.2, HNE.out⟩
  have hT0 := HTA0.z 0 _ rfl
  have hT1 := HTA0.cell 1 _ rfl
  have hT2 := HTA0.cell 2 _ rfl
  go_quiet (first | (go_at_call 71; exact (HO.out _).mono fun _ _ h => ⟨h.1, _, h.2.symm⟩))
  go_wp2_with fail
  have hA7 : ∀ (z : Nat) (ob : Obj), ((wb.drewN z).alloc ob).cell? ⟨g, 7, none⟩ = some vN := fun z ob => (((HRA.out.drewN z).alloc ob).at0).cell 7 _ rfl
  have hf7 : ∀ (z : Nat) (ob : Obj), ((wb.drewN z).alloc ob).frozen? ⟨g, 7, none⟩ = false := fun z ob => (((HRA.out.drewN z).alloc ob).at0).froz 7 (by simp)
  go_cut [] from 88 to 97 (fun wx => ∃ vN', Rd wx g s L b9 (l ++ [⟨2, 0, Dr.part s.toList q b9⟩]) G vN' (.slice as_ G.length cs) ro ∧ At wx T 0 [.int .i64 ((2 : Nat) : Int), .int .u64 0, .string u] ∧ Below g w wx)
  case first =>
   go_wp2_with fail
   go_region_law (refine step_append_at rfl (.tmp 92) (.tmp 94) rfl (g + 1) _ l.length (l.map up) rfl ((own_drewN HRA.out.nodes _).alloc _) _ 1 (up ⟨2, 0, Dr.part s.toList q b9⟩) rfl (at_cells HAV.out (At.ofAlloc _ #[Value.int .i64 ((2 : Nat) : Int), Value.int .u64 0, Value.string u] 60)) (by have := HIT.out; omega) (by have := HRA.out.lt; simp; omega) ?_; intro v' w3 hown3 hgrow3; obtain ⟨a3, c3, hv3, -⟩ := own_form hown3; subst hv3; have hAt3 := At.grown (((HRA.out.drewN _).alloc _).at0) hgrow3 ((HRA.out.drewN _).alloc _).lt (fun e => by have := (HRA.out.nodes.lt g e).1; omega); have hf73 := hAt3.froz 7 (by simp); have hc73 := hAt3.cell 7 _ rfl; have HR3 := hid (Rd.addAtom (l' := l ++ [⟨2, 0, Dr.part s.toList q b9⟩]) ((HRA.out.drewN _).alloc _) hgrow3 (by rw [lap, List.map_append]; exact hown3)); have HT3 := hid ((At.grown ((HTA.out.drewN _).alloc _) hgrow3 (by have := HTL.out.1; simp; omega) HTL.out.2.2).other g 7 (.slice a3 (l.length + 1) c3) (Or.inl HTL.out.2.1)); have HB3 := hid ((((below_drewN g wb _).alloc (Nat.le_of_lt HRA.out.lt) _).grown hgrow3 (by have := HRA.out.lt; simp; omega) (fun k hk => by have := (HRA.out.nodes.lt k hk).1; omega)).setCell (p := ⟨g, 7, none⟩) (nle _) (.slice a3 (l.length + 1) c3)); clear hAt3 hgrow3 hown3)
   all_goals
    go_wp2_with fail
    go_meet
    case rel => exact ⟨_, HR3.out, HT3.out, HBA.out.trans HB3.out⟩
  case rest =>
   obtain ⟨vN2, hR4, hT4, hB4⟩ := hcut
   have HR4 := hid hR4
   have HB4 := hid hB4
   have hT5 := hT4.z 0 _ rfl
   clear hR4 hB4 hvN hfN hA7 hf7 hT0 hT1 hT2 HTA0
   go_wp2_with (first
    | (go_at_call 71; refine (HO.out _).mono ?_; rintro e wh ⟨rfl, rfl⟩))
   refine (citemEnded_any _ g s L p b9 _ G _ _ ro HR4.out HG.out.1.head HG.out.2.1 HG.out.2.2.1 HG.out.2.2.2).mono ?_
   intro e w8 h8
   rw [HRR.out] at h8
   rcases RsEnd.cases h8 HB4.out with ⟨rfl, h9⟩ | ⟨ps, rfl, h9⟩
   ·have H9 := hid h9
    clear h8 h9
    go_wp2_with fail
    first | go_end0 | refine bodyPost_ret (results_none rfl _ _ _) rfl ?_
    exact H9.out
   ·exact ⟨rfl, h9⟩
end Co
end Go.Proofs.YtikgonlhdkknkaaGreatDoor
