import Derived.Test.YtikgonlhdkknkaaGreatDoorCuX
set_option maxRecDepth 100000
set_option maxHeartbeats 1600000
set_option linter.unusedVariables false
set_option linter.unusedSimpArgs false
open Go.Lib (hid)
namespace Go.Proofs.YtikgonlhdkknkaaGreatDoor
open Go.RowKit
namespace Co
open Dr (Rs Lm has lack at0S)
theorem Rd.hideS {w : World} {g : Nat} {s : ByteArray} {L : Lm} {p : Nat} {l : List Am} {G : List Fr} {vn vs : Value} {ro : Int} (h : Rd w g s L p l G vn vs ro) : ∃ vS, w.cell? ⟨g, 8, none⟩ = some vS ∧ w.frozen? ⟨g, 8, none⟩ = false ∧ Hid (Rd w g s L p l G vn vS ro) :=
 ⟨vs, h.at0.cell 8 _ rfl, h.at0.froz 8 (by simp), h⟩
theorem item_deep (w : World) (g : Nat) (s : ByteArray) (L : Lm) (p : Nat) (l : List Am) (G : List Fr) (vn vs : Value) (ro : Int) (hyp : ElHyp w g s L p l G vn vs ro) (h0 : p < s.size ∧ p < L.bytes) (t : Nat) (ht : (s.toList.getD p 0).toNat = t) (h2 : ¬ L.items ≤ l.length) (h3 : headE (s.toList.getD p 0) = 0) (n : Nat) (hA : argR s.toList L p = .ok n) (k : Nat) (hk : kindT (s.toList.getD p 0) = k) (q : Nat) (hq : p + 1 + widT (s.toList.getD p 0) = q) (h5 : holds k = true) (h6 : L.depth ≤ G.length) :
  Calls Tryz.prog 49 #[.pointer (some ⟨g, 0, none⟩)] w (RsAll (elT s.toList L G l p) g s L ro w) := by
 obtain ⟨hR, hG, hp, hz, hLi, hLd, hLb, hU⟩ := hyp
 have F := hid (fun c p w => fail_any c p w)
 have HR := hid hR
 have N := hid (next_yes hR h0.1 h0.2 hz t ht)
 have hh := has_yes s L p h0
 obtain ⟨m, hm⟩ : ∃ m, l.length = m := ⟨_, rfl⟩
 obtain ⟨an, cn, rfl, -⟩ := own_form hR.nodes
 obtain ⟨as_, cs, rfl, -⟩ := own_form hR.stack
 obtain ⟨gl, hgl⟩ : ∃ gl, G.length = gl := ⟨_, rfl⟩
 rw [hm, hgl] at HR
 have HM := hid hm
 have HGL := hid hgl
 have e1 : ¬ (L.items : Int) ≤ (m : Int) := by omega
 have e1b : decide ((L.items : Int) ≤ (m : Int)) = false := dfa e1
 have ht2 : t < 256 := by rw [← ht]; exact (s.toList.getD p 0).toNat_lt
 have hkt : t / 32 = k := by rw [← hk, kindT, ht]
 have AR := hid (fun w' vn vs (hR' : Rd w' g s L (p + 1) l G vn vs ro) => argument_any w' g s L p l G vn vs ro hR' t ht h3 (by omega) hz)
 rw [hA, hq] at AR
 have KI := hid (fun w => kind_any t k ht2 hkt w)
 have HO := hid (fun w => holds_any k w)
 have hinv := argR_inv (L := L) hh h3 hA
 rw [hq, tl_size] at hinv
 have hn64 := hinv.2.2.1
 have hqs := hinv.2.2.2
 obtain ⟨RR, hRR⟩ : ∃ R, elT s.toList L G l p = R := ⟨_, rfl⟩
 rw [hRR]
 rw [elT_deep hh h2 h3 hA hk hq h5 h6] at hRR
 have HRR := hid hRR
 have e9 : (L.depth : Int) ≤ (gl : Int) := by omega
 have HIT := hid (show l.length ≤ 1000000 by omega)
 have e2 : ((k : Int) == 2) = false := by have h9 := holds_not h5; rw [beq_eq_false_iff_ne]; omega
 have e3 : ((k : Int) == 3) = false := by have h9 := holds_not h5; rw [beq_eq_false_iff_ne]; omega
 rw [h5] at HO
 clear hR hG hp hz hLi hLd hLb hU h0 hh h2 h3 hA ht hm hgl hRR hinv hn64 hqs hk hq h5 h6 hkt ht2
 go_enter Tryz.func49, Tryz.ntmps49
 go_wp2_with (first
  | (go_at_call 56; refine (place_yes (by first | exact HR2.out | exact HR1.out | exact HR.out)).mono ?_; rintro e wp ⟨rfl, rfl⟩)
  | (go_at_call 54; refine N.out.mono ?_; rintro e w1 ⟨rfl, HR1, HB1⟩))
 have hc4 := HR1.out.at0.cell 4 _ rfl
 have hc7 := HR1.out.at0.cell 7 _ rfl
 rw [HM.out] at hc7
 go_quiet (fail)
 clear hc4 hc7
 go_wp2_with (first
  | (go_at_call 75; refine (AR.out _ _ _ (by first | exact HR1.out.drewN _ | (rw [HM.out, HGL.out]; exact HR1.out.drewN _))).mono ?_; rintro e w2 ⟨rfl, HR2, HB2⟩; have hT0 := (At.ofAlloc w2 #[.int .i64 (k : Int), .int .u64 (n : Int), .string ByteArray.empty] 60).cell 0 _ rfl; rw [Nat.zero_add] at hT0)
  | (go_at_call 76; refine (KI.out _).mono ?_; rintro e wk ⟨rfl, rfl⟩))
 obtain ⟨T, hT⟩ : ∃ T, w2.heap.size = T := ⟨_, rfl⟩
 have HRB := hid HR2.out.nodes
 obtain ⟨wa, hwa⟩ : ∃ x, w2.alloc (Obj.cells #[Value.int .i64 (k : Int), Value.int .u64 (n : Int), Value.string ⟨#[]⟩] 60) = x := ⟨_, rfl⟩
 have HRA0 : Hid (Rd wa g s L q l G (.slice an l.length cn) (.slice as_ G.length cs) ro) := by rw [← hwa]; exact HR2.out.alloc _
 have HTA0 : At wa T 0 [.int .i64 (k : Int), .int .u64 (n : Int), .string ByteArray.empty] := by rw [← hwa, ← hT]; exact At.ofAlloc w2 #[Value.int .i64 (k : Int), Value.int .u64 (n : Int), Value.string ByteArray.empty] 60
 have HTL0 : T < wa.heap.size ∧ g ≠ T := by
  have h1 := HR2.out.lt
  refine ⟨by rw [← hwa, ← hT]; simp, by omega⟩
 have HRG : Hid (g < T) := by have h1 := HR2.out.lt; show g < T; omega
 have HGT : Hid (g ≤ T) := by have h1 := HR2.out.lt; show g ≤ T; omega
 have HBA : Hid (Below g w wa) := by rw [← hwa]; exact ((HB1.out.trans (below_drewN _ _ _)).trans HB2.out).alloc (Nat.le_of_lt HR2.out.lt) _
 have HNE0 : Hid ((Value.slice an l.length cn).ownBlock = some T → False) := fun e => by have h1 := (HRB.out.lt T e).2; omega
 have HNS0 : Hid ((Value.slice as_ G.length cs).ownBlock = some T → False) := fun e => by have h1 := (HR2.out.stack.lt T e).2; omega
 rw [hT, hwa]
 clear hwa hT hT0
 have hT0 := HTA0.z 0 _ rfl
 have hd8 := HRA0.out.at0.cell 8 _ rfl
 have hd3 := HRA0.out.at0.cell 3 _ rfl
 rw [HGL.out] at hd8
 go_quiet (first | (go_at_call 71; exact (HO.out _).mono fun _ _ h => ⟨h.1, _, h.2.symm⟩))
 go_wp2_with (first
  | (go_at_call 55; refine (F.out _ _ _).mono ?_; rintro e wf ⟨rfl, rfl⟩))
 refine ⟨rfl, ?_⟩
 rw [← HRR.out]
 exact ⟨rfl, HBA.out.trans (below_drewN _ _ _)⟩
theorem item_hold (w : World) (g : Nat) (s : ByteArray) (L : Lm) (p : Nat) (l : List Am) (G : List Fr) (vn vs : Value) (ro : Int) (hyp : ElHyp w g s L p l G vn vs ro) (h0 : p < s.size ∧ p < L.bytes) (t : Nat) (ht : (s.toList.getD p 0).toNat = t) (h2 : ¬ L.items ≤ l.length) (h3 : headE (s.toList.getD p 0) = 0) (n : Nat) (hA : argR s.toList L p = .ok n) (k : Nat) (hk : kindT (s.toList.getD p 0) = k) (q : Nat) (hq : p + 1 + widT (s.toList.getD p 0) = q) (h5 : holds k = true) (h6 : ¬ L.depth ≤ G.length) :
  Calls Tryz.prog 49 #[.pointer (some ⟨g, 0, none⟩)] w (RsAll (elT s.toList L G l p) g s L ro w) := by
 obtain ⟨hR, hG, hp, hz, hLi, hLd, hLb, hU⟩ := hyp
 have F := hid (fun c p w => fail_any c p w)
 have HR := hid hR
 have N := hid (next_yes hR h0.1 h0.2 hz t ht)
 have hh := has_yes s L p h0
 obtain ⟨m, hm⟩ : ∃ m, l.length = m := ⟨_, rfl⟩
 obtain ⟨an, cn, rfl, -⟩ := own_form hR.nodes
 obtain ⟨as_, cs, rfl, -⟩ := own_form hR.stack
 obtain ⟨gl, hgl⟩ : ∃ gl, G.length = gl := ⟨_, rfl⟩
 rw [hm, hgl] at HR
 have HM := hid hm
 have HGL := hid hgl
 have e1 : ¬ (L.items : Int) ≤ (m : Int) := by omega
 have e1b : decide ((L.items : Int) ≤ (m : Int)) = false := dfa e1
 have ht2 : t < 256 := by rw [← ht]; exact (s.toList.getD p 0).toNat_lt
 have hkt : t / 32 = k := by rw [← hk, kindT, ht]
 have AR := hid (fun w' vn vs (hR' : Rd w' g s L (p + 1) l G vn vs ro) => argument_any w' g s L p l G vn vs ro hR' t ht h3 (by omega) hz)
 rw [hA, hq] at AR
 have KI := hid (fun w => kind_any t k ht2 hkt w)
 have HO := hid (fun w => holds_any k w)
 have hinv := argR_inv (L := L) hh h3 hA
 rw [hq, tl_size] at hinv
 have hn64 := hinv.2.2.1
 have hqs := hinv.2.2.2
 obtain ⟨RR, hRR⟩ : ∃ R, elT s.toList L G l p = R := ⟨_, rfl⟩
 rw [hRR]
 rw [elT_hold hh h2 h3 hA hk hq h5 h6] at hRR
 have HRR := hid hRR
 have e9 : ¬ (L.depth : Int) ≤ (gl : Int) := by omega
 have e9b : decide ((L.depth : Int) ≤ (gl : Int)) = false := dfa e9
 have e9c : decide (L.depth ≤ gl) = false := dfa (by omega)
 have e9d : ¬ L.depth ≤ gl := by omega
 have HGT2 := hid (show G.length ≤ 1000000 by omega)
 have HIT := hid (show l.length ≤ 1000000 by omega)
 have e2 : ((k : Int) == 2) = false := by have h9 := holds_not h5; rw [beq_eq_false_iff_ne]; omega
 have e3 : ((k : Int) == 3) = false := by have h9 := holds_not h5; rw [beq_eq_false_iff_ne]; omega
 rw [h5] at HO
 obtain ⟨lf, hlf⟩ : ∃ lf, (if k = 6 then 1 else n) = lf := ⟨_, rfl⟩
 obtain ⟨pb, hpb⟩ : ∃ b, decide (k = 5) = b := ⟨_, rfl⟩
 have HL := hid (fun w => hold_any p k n w)
 rw [hlf, hpb] at HL
 have HFV : Hid (hv (fr0 ⟨k, n, []⟩ p) = (#[Value.int .i64 (p : Int), Value.int .u64 (lf : Int), Value.bool pb, Value.bool false, Value.bool false, Value.string ByteArray.empty]).toList) := by
  show [Value.int .i64 (p : Int), Value.int .u64 ((if k = 6 then 1 else n : Nat) : Int), Value.bool (decide (k = 5)), Value.bool false, Value.bool false, Value.string ⟨[].toArray⟩] = _
  rw [hlf, hpb]
  rfl
 have HAV : Hid (rv (up ⟨k, n, []⟩) = (#[Value.int .i64 (k : Int), Value.int .u64 (n : Int), Value.string ByteArray.empty]).toList) := rfl
 clear hR hG hp hz hLi hLd hLb hU h0 hh h2 h3 hA ht hm hgl hRR hinv hn64 hqs hk hq h5 h6 hkt ht2 hlf hpb
 go_enter Tryz.func49, Tryz.ntmps49
 go_wp2_with (first
  | (go_at_call 56; refine (place_yes (by first | exact HR2.out | exact HR1.out | exact HR.out)).mono ?_; rintro e wp ⟨rfl, rfl⟩)
  | (go_at_call 54; refine N.out.mono ?_; rintro e w1 ⟨rfl, HR1, HB1⟩))
 have hc4 := HR1.out.at0.cell 4 _ rfl
 have hc7 := HR1.out.at0.cell 7 _ rfl
 rw [HM.out] at hc7
 go_quiet (fail)
 clear hc4 hc7
 go_wp2_with (first
  | (go_at_call 75; refine (AR.out _ _ _ (by first | exact HR1.out.drewN _ | (rw [HM.out, HGL.out]; exact HR1.out.drewN _))).mono ?_; rintro e w2 ⟨rfl, HR2, HB2⟩; have hT0 := (At.ofAlloc w2 #[.int .i64 (k : Int), .int .u64 (n : Int), .string ByteArray.empty] 60).cell 0 _ rfl; rw [Nat.zero_add] at hT0)
  | (go_at_call 76; refine (KI.out _).mono ?_; rintro e wk ⟨rfl, rfl⟩))
 obtain ⟨T, hT⟩ : ∃ T, w2.heap.size = T := ⟨_, rfl⟩
 have HRB := hid HR2.out.nodes
 obtain ⟨wa, hwa⟩ : ∃ x, w2.alloc (Obj.cells #[Value.int .i64 (k : Int), Value.int .u64 (n : Int), Value.string ⟨#[]⟩] 60) = x := ⟨_, rfl⟩
 have HRA0 : Hid (Rd wa g s L q l G (.slice an l.length cn) (.slice as_ G.length cs) ro) := by rw [← hwa]; exact HR2.out.alloc _
 have HTA0 : At wa T 0 [.int .i64 (k : Int), .int .u64 (n : Int), .string ByteArray.empty] := by rw [← hwa, ← hT]; exact At.ofAlloc w2 #[Value.int .i64 (k : Int), Value.int .u64 (n : Int), Value.string ByteArray.empty] 60
 have HTL0 : T < wa.heap.size ∧ g ≠ T := by
  have h1 := HR2.out.lt
  refine ⟨by rw [← hwa, ← hT]; simp, by omega⟩
 have HRG : Hid (g < T) := by have h1 := HR2.out.lt; show g < T; omega
 have HGT : Hid (g ≤ T) := by have h1 := HR2.out.lt; show g ≤ T; omega
 have HBA : Hid (Below g w wa) := by rw [← hwa]; exact ((HB1.out.trans (below_drewN _ _ _)).trans HB2.out).alloc (Nat.le_of_lt HR2.out.lt) _
 have HNE0 : Hid ((Value.slice an l.length cn).ownBlock = some T → False) := fun e => by have h1 := (HRB.out.lt T e).2; omega
 have HNS0 : Hid ((Value.slice as_ G.length cs).ownBlock = some T → False) := fun e => by have h1 := (HR2.out.stack.lt T e).2; omega
 rw [hT, hwa]
 clear hwa hT hT0
 obtain ⟨vN, hvN, hfN, HRA, HNE⟩ := HRA0.out.hideA (T := T) HNE0.out
 have HTA := hid HTA0
 have HTL : Hid (T < wa.heap.size ∧ g ≠ T ∧ (vN.ownBlock = some T → False)) := ⟨HTL0.1, HTL0.2, HNE.out⟩
 have hT0 := HTA0.z 0 _ rfl
 have hT1 := HTA0.cell 1 _ rfl
 have hT2 := HTA0.cell 2 _ rfl
 have hd8 := HRA.out.at0.cell 8 _ rfl
 have hd3 := HRA.out.at0.cell 3 _ rfl
 rw [HGL.out] at hd8
 go_quiet (first | (go_at_call 71; exact (HO.out _).mono fun _ _ h => ⟨h.1, _, h.2.symm⟩))
 go_wp2_with fail
 clear hd8 hd3
 have hA7 : ∀ (z : Nat) (ob : Obj), ((wa.drewN z).alloc ob).cell? ⟨g, 7, none⟩ = some vN := fun z ob => (((HRA.out.drewN z).alloc ob).at0).cell 7 _ rfl
 have hf7 : ∀ (z : Nat) (ob : Obj), ((wa.drewN z).alloc ob).frozen? ⟨g, 7, none⟩ = false := fun z ob => (((HRA.out.drewN z).alloc ob).at0).froz 7 (by simp)
 go_cut [] from 88 to 97 (fun wx => ∃ vN', Rd wx g s L q (l ++ [⟨k, n, []⟩]) G vN' (.slice as_ G.length cs) ro ∧ At wx T 0 [.int .i64 (k : Int), .int .u64 (n : Int), .string ByteArray.empty] ∧ Below g w wx)
 case first =>
  go_wp2_with fail
  go_region_law (refine step_append_at rfl (.tmp 92) (.tmp 94) rfl (g + 1) _ l.length (l.map up) rfl ((own_drewN HRA.out.nodes _).alloc _) _ 1 (up ⟨k, n, []⟩) rfl (at_cells HAV.out (At.ofAlloc _ #[Value.int .i64 (k : Int), Value.int .u64 (n : Int), Value.string ByteArray.empty] 60)) (by have := HIT.out; omega) (by have := HRA.out.lt; simp; omega) ?_; intro v' w3 hown3 hgrow3; obtain ⟨a3, c3, hv3, -⟩ := own_form hown3; subst hv3; have hAt3 := At.grown (((HRA.out.drewN _).alloc _).at0) hgrow3 ((HRA.out.drewN _).alloc _).lt (fun e => by have := (HRA.out.nodes.lt g e).1; omega); have hf73 := hAt3.froz 7 (by simp); have hc73 := hAt3.cell 7 _ rfl; have HR3 := hid (Rd.addAtom (l' := l ++ [⟨k, n, []⟩]) ((HRA.out.drewN _).alloc _) hgrow3 (by rw [lap, List.map_append]; exact hown3)); have HT3 := hid ((At.grown ((HTA.out.drewN _).alloc _) hgrow3 (by have := HTL.out.1; simp; omega) HTL.out.2.2).other g 7 (.slice a3 (l.length + 1) c3) (Or.inl HTL.out.2.1)); have HB3 := hid ((((below_drewN g wa _).alloc (Nat.le_of_lt HRA.out.lt) _).grown hgrow3 (by have := HRA.out.lt; simp; omega) (fun k hk => by have := (HRA.out.nodes.lt k hk).1; omega)).setCell (p := ⟨g, 7, none⟩) (nle _) (.slice a3 (l.length + 1) c3)); clear hAt3 hgrow3 hown3)
  all_goals
   go_wp2_with fail
   go_meet
   case rel => exact ⟨_, HR3.out, HT3.out, HBA.out.trans HB3.out⟩
 case rest =>
  obtain ⟨vN2, hR4, hT4, hB4⟩ := hcut
  have HR4 := hid hR4
  have HB4 := hid hB4
  have hT5 := hT4.z 0 _ rfl
  clear hR4 hB4 hvN hfN hA7 hf7 hT0 hT1 hT2 HTA0
  go_wp2_with (first
   | (go_at_call 71; refine (HO.out _).mono ?_; rintro e wh ⟨rfl, rfl⟩))
  obtain ⟨wb, hwb⟩ : ∃ x, x = wc := ⟨_, rfl⟩
  subst hwb
  obtain ⟨vS, hvS, hfS, HRS⟩ := HR4.out.hideS
  have HVS : ∀ z : Nat, (wb.drewN z).cell? ⟨g, 8, none⟩ = some vS := fun z => hvS
  go_cut [] from 101 to 114 (fun wx => ∃ vS', Rd wx g s L q (l ++ [⟨k, n, []⟩]) (fr0 ⟨k, n, []⟩ p :: G) vN2 vS' ro ∧ Below g w wx)
  case first =>
   go_wp2_with fail
   go_region_law (first
    | (go_simp; go_at_call 72; refine (HL.out _).mono ?_; rintro e w5 ⟨rfl, hb5⟩; have HR5 := hid ((HRS.out.drewN _).below hb5); have HB5 := hid ((HB4.out.trans (below_drewN _ _ _)).trans (hb5.mono (Nat.le_of_lt HRS.out.lt))); have hq8 := HR5.out.at0.cell 8 _ rfl; have hqA8 : ∀ ob : Obj, (w5.alloc ob).cell? ⟨g, 8, none⟩ = some vS := (fun ob => (HR5.out.alloc ob).at0.cell 8 _ rfl); clear hb5)
    | (refine step_append_hd rfl (.tmp 105) (.tmp 111) rfl (g + 1) _ G.length G rfl (HR5.out.stack.alloc _) _ 1 (fr0 ⟨k, n, []⟩ p) rfl (at_cells HFV.out (At.ofAlloc _ #[Value.int .i64 (p : Int), Value.int .u64 (lf : Int), Value.bool pb, Value.bool false, Value.bool false, Value.string ByteArray.empty] 110)) (by have := HGT2.out; omega) (by have := HR5.out.lt; simp; omega) ?_; intro v' w6 hown6 hgrow6; obtain ⟨a6, c6, hv6, -⟩ := own_form hown6; subst hv6; have hAt6 := At.grown ((HR5.out.alloc _).at0) hgrow6 (HR5.out.alloc _).lt (fun e => by have := (HR5.out.stack.lt g e).1; omega); have hf86 := hAt6.froz 8 (by simp); have hc86 := hAt6.cell 8 _ rfl; have HR6 := hid (Rd.addFrame (G' := fr0 ⟨k, n, []⟩ p :: G) (HR5.out.alloc _) hgrow6 hown6); have HB6 := hid ((((HB5.out.alloc (Nat.le_of_lt HR5.out.lt) _).grown hgrow6 (by have := HR5.out.lt; simp; omega) (fun k hk => by have := (HR5.out.stack.lt k hk).1; omega)).setCell (p := ⟨g, 8, none⟩) (nle _) (.slice a6 (G.length + 1) c6))); clear hAt6 hgrow6 hown6))
   all_goals
    go_wp2_with fail
    go_meet
    case rel => exact ⟨_, HR6.out, HB6.out⟩
  case rest =>
   obtain ⟨vS2, hR7, hB7⟩ := hcut
   have HR7 := hid hR7
   have HB7 := hid hB7
   clear hR7 hB7
   go_wp2_with fail
   first | go_end0 | refine bodyPost_ret (results_none rfl _ _ _) rfl ?_
   rw [← HRR.out]
   exact ⟨rfl, ⟨_, _, HR7⟩, HB7⟩
end Co
end Go.Proofs.YtikgonlhdkknkaaGreatDoor
