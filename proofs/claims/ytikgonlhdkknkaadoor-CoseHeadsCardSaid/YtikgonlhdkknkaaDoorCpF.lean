/- An item that holds no others is read: plain numbers. -/
import Derived.Test.YtikgonlhdkknkaaDoorCpE
namespace Go.Proofs.YtikgonlhdkknkaaDoor
open Go.RowKit
set_option linter.unusedVariables false
set_option linter.unusedSimpArgs false
namespace Co
open Dr (Rs Lm has lack at0S)
set_option maxRecDepth 100000 in
set_option maxHeartbeats 1600000 in
theorem item_plain (w : World) (g : Nat) (s : ByteArray) (L : Lm) (p : Nat) (l : List Am) (G : List Fr) (vn vs : Value) (ro : Int) (hyp : ElHyp w g s L p l G vn vs ro) (h0 : p < s.size ∧ p < L.bytes) (t : Nat) (ht : (s.toList.getD p 0).toNat = t) (h2 : ¬ L.items ≤ l.length) (h3 : headE (s.toList.getD p 0) = 0) (n : Nat) (hA : argR s.toList L p = .ok n) (k : Nat) (hk : kindT (s.toList.getD p 0) = k) (q : Nat) (hq : p + 1 + widT (s.toList.getD p 0) = q) (h5 : ¬ (k = 2 ∨ k = 3)) (h6 : holds k = false) :
    Calls Tryd.prog 49 #[.pointer (some ⟨g, 0, none⟩)] w (RsAll (elT s.toList L G l p) g s L ro w) := by
  obtain ⟨hR, hG, hp, hz, hLi, hLd, hLb, hU⟩ := hyp
  have F := Lib.hid (fun c p w => fail_any c p w)
  have HR := Lib.hid hR
  have N := Lib.hid (next_yes hR h0.1 h0.2 hz t ht)
  have hh := has_yes s L p h0
  obtain ⟨m, hm⟩ : ∃ m, l.length = m := ⟨_, rfl⟩
  obtain ⟨an, cn, rfl, -⟩ := own_form hR.nodes
  obtain ⟨as_, cs, rfl, -⟩ := own_form hR.stack
  obtain ⟨gl, hgl⟩ : ∃ gl, G.length = gl := ⟨_, rfl⟩
  rw [hm, hgl] at HR
  have HM := Lib.hid hm
  have HGL := Lib.hid hgl
  have e1 : ¬ (L.items : Int) ≤ (m : Int) := by omega
  have e1b : decide ((L.items : Int) ≤ (m : Int)) = false := decide_eq_false e1
  have ht2 : t < 256 := by rw [← ht]; exact (s.toList.getD p 0).toNat_lt
  have hkt : t / 32 = k := by rw [← hk, kindT, ht]
  have AR := Lib.hid (fun w' vn vs (hR' : Rd w' g s L (p + 1) l G vn vs ro) => argument_any w' g s L p l G vn vs ro hR' t ht h3 (by omega) hz)
  rw [hA, hq] at AR
  have KI := Lib.hid (fun w => kind_any t k ht2 hkt w)
  have HO := Lib.hid (fun w => holds_any k w)
  have hinv := argR_inv (L := L) hh h3 hA
  rw [hq, tl_size] at hinv
  have hn64 := hinv.2.2.1
  have hqs := hinv.2.2.2
  obtain ⟨RR, hRR⟩ : ∃ R, elT s.toList L G l p = R := ⟨_, rfl⟩
  rw [hRR]
  rw [elT_plain hh h2 h3 hA hk hq h5 h6] at hRR
  have HRR := Lib.hid hRR
  have HG := Lib.hid (And.intro hG (And.intro (show p ≤ q by omega) (And.intro hqs hz)))
  have HIT := Lib.hid (show l.length ≤ 1000000 by omega)
  have e2 : ((k : Int) == 2) = false := by rw [beq_eq_false_iff_ne]; omega
  have e3 : ((k : Int) == 3) = false := by rw [beq_eq_false_iff_ne]; omega
  rw [h6] at HO
  have HAV : Hid (rv (up ⟨k, n, []⟩) = (#[Value.int .i64 (k : Int), Value.int .u64 (n : Int), Value.string ByteArray.empty]).toList) := rfl
  clear hR hG hp hz hLi hLd hLb hU h0 hh h2 h3 hA ht hm hgl hRR hinv hn64 hqs hk hq h5 h6 hkt ht2
  go_enter Tryd.func49, Tryd.ntmps49
  go_wp2_with (first
    | (go_at_call 56; refine (place_yes (by first | exact HR2.out | exact HR1.out | exact HR.out)).mono ?_; rintro e wp ⟨rfl, rfl⟩)
    | (go_at_call 54; refine N.out.mono ?_; rintro e w1 ⟨rfl, HR1, HB1⟩))
  have hc4 := HR1.out.at0.cell 4 _ rfl
  have hc7 := HR1.out.at0.cell 7 _ rfl
  rw [HM.out] at hc7
  go_quiet (fail)
  clear hc4 hc7
  go_wp2_with (first
    | (go_at_call 67; refine (AR.out _ _ _ (by first | exact HR1.out.drewN _ | (rw [HM.out, HGL.out]; exact HR1.out.drewN _))).mono ?_; rintro e w2 ⟨rfl, HR2, HB2⟩; have hT0 := (At.ofAlloc w2 #[.int .i64 (k : Int), .int .u64 (n : Int), .string ByteArray.empty] 51).cell 0 _ rfl; rw [Nat.zero_add] at hT0)
    | (go_at_call 68; refine (KI.out _).mono ?_; rintro e wk ⟨rfl, rfl⟩))

  obtain ⟨T, hT⟩ : ∃ T, w2.heap.size = T := ⟨_, rfl⟩
  have HRB := Lib.hid HR2.out.nodes
  obtain ⟨wa, hwa⟩ : ∃ x, w2.alloc (Obj.cells #[Value.int .i64 (k : Int), Value.int .u64 (n : Int), Value.string ⟨#[]⟩] 51) = x := ⟨_, rfl⟩
  have HRA0 : Hid (Rd wa g s L q l G (.slice an l.length cn) (.slice as_ G.length cs) ro) := by rw [← hwa]; exact HR2.out.alloc _
  have HTA0 : At wa T 0 [.int .i64 (k : Int), .int .u64 (n : Int), .string ByteArray.empty] := by rw [← hwa, ← hT]; exact At.ofAlloc w2 #[Value.int .i64 (k : Int), Value.int .u64 (n : Int), Value.string ByteArray.empty] 51
  have HTL0 : T < wa.heap.size ∧ g ≠ T := by
    have h1 := HR2.out.lt
    refine ⟨by rw [← hwa, ← hT]; simp, by omega⟩
  have HRG : Hid (g < T) := by have h1 := HR2.out.lt; show g < T; omega
  have HGT : Hid (g ≤ T) := by have h1 := HR2.out.lt; show g ≤ T; omega
  have HBA : Hid (Below g w wa) := by rw [← hwa]; exact ((HB1.out.trans (below_drewN _ _ _)).trans HB2.out).alloc (Nat.le_of_lt HR2.out.lt) _
  have HNE0 : Hid ((Value.slice an l.length cn).ownBlock = some T → False) := fun e => by have h1 := (HRB.out.lt T e).2; omega
  have HNS0 : Hid ((Value.slice as_ G.length cs).ownBlock = some T → False) := fun e => by have h1 := (HR2.out.stack.lt T e).2; omega
  rw [hT, hwa]
  clear hwa hT hT0
  obtain ⟨vN, hvN, hfN, HRA, HNE⟩ := HRA0.out.hideA (T := T) HNE0.out
  have HTA := Lib.hid HTA0
  have HTL : Hid (T < wa.heap.size ∧ g ≠ T ∧ (vN.ownBlock = some T → False)) := ⟨HTL0.1, HTL0.2, HNE.out⟩
  have hT0 := HTA0.cell 0 _ rfl
  have hT1 := HTA0.cell 1 _ rfl
  have hT2 := HTA0.cell 2 _ rfl
  rw [Nat.zero_add] at hT0
  go_quiet (first | (go_at_call 60; exact (HO.out _).mono fun _ _ h => ⟨h.1, _, h.2.symm⟩))
  go_wp2_with fail
  have hA7 : ∀ (z : Nat) (ob : Obj), ((wa.drewN z).alloc ob).cell? ⟨g, 7, none⟩ = some vN := fun z ob => (((HRA.out.drewN z).alloc ob).at0).cell 7 _ rfl
  have hf7 : ∀ (z : Nat) (ob : Obj), ((wa.drewN z).alloc ob).frozen? ⟨g, 7, none⟩ = false := fun z ob => (((HRA.out.drewN z).alloc ob).at0).froz 7 (by simp)
  go_cut [] from 88 to 97 (fun wx => ∃ vN', Rd wx g s L q (l ++ [⟨k, n, []⟩]) G vN' (.slice as_ G.length cs) ro ∧ At wx T 0 [.int .i64 (k : Int), .int .u64 (n : Int), .string ByteArray.empty] ∧ Below g w wx)
  case first =>
    go_wp2_with fail
    go_region_law (refine step_append_at rfl (.tmp 92) (.tmp 94) rfl (g + 1) _ l.length (l.map up) rfl ((own_drewN HRA.out.nodes _).alloc _) _ 1 (up ⟨k, n, []⟩) rfl (at_cells HAV.out (At.ofAlloc _ #[Value.int .i64 (k : Int), Value.int .u64 (n : Int), Value.string ByteArray.empty] 51)) (by have := HIT.out; omega) (by have := HRA.out.lt; simp; omega) ?_; intro v' w3 hown3 hgrow3; obtain ⟨a3, c3, hv3, -⟩ := own_form hown3; subst hv3; have hAt3 := At.grown (((HRA.out.drewN _).alloc _).at0) hgrow3 ((HRA.out.drewN _).alloc _).lt (fun e => by have := (HRA.out.nodes.lt g e).1; omega); have hf73 := hAt3.froz 7 (by simp); have hc73 := hAt3.cell 7 _ rfl; have HR3 := Lib.hid (Rd.addAtom (l' := l ++ [⟨k, n, []⟩]) ((HRA.out.drewN _).alloc _) hgrow3 (by rw [List.length_append, List.map_append]; exact hown3)); have HT3 := Lib.hid ((At.grown ((HTA.out.drewN _).alloc _) hgrow3 (by have := HTL.out.1; simp; omega) HTL.out.2.2).other g 7 (.slice a3 (l.length + 1) c3) (Or.inl HTL.out.2.1)); have HB3 := Lib.hid ((((below_drewN g wa _).alloc (Nat.le_of_lt HRA.out.lt) _).grown hgrow3 (by have := HRA.out.lt; simp; omega) (fun k hk => by have := (HRA.out.nodes.lt k hk).1; omega)).setCell (p := ⟨g, 7, none⟩) (Nat.le_refl _) (.slice a3 (l.length + 1) c3)); clear hAt3 hgrow3 hown3)
    all_goals
      go_wp2_with fail
      go_meet
      case rel => exact ⟨_, HR3.out, HT3.out, HBA.out.trans HB3.out⟩
  case rest =>
    obtain ⟨vN2, hR4, hT4, hB4⟩ := hcut
    have HR4 := Lib.hid hR4
    have HB4 := Lib.hid hB4
    have hT5 := hT4.cell 0 _ rfl
    rw [Nat.zero_add] at hT5
    clear hR4 hB4 hvN hfN hA7 hf7 hT0 hT1 hT2 HTA0
    go_wp2_with (first
      | (go_at_call 60; refine (HO.out _).mono ?_; rintro e wh ⟨rfl, rfl⟩))
    refine (citemEnded_any _ g s L p q _ G _ _ ro HR4.out HG.out.1.head HG.out.2.1 HG.out.2.2.1 HG.out.2.2.2).mono ?_
    intro e w8 h8
    rw [HRR.out] at h8
    rcases RsEnd.cases h8 HB4.out with ⟨rfl, h9⟩ | ⟨ps, rfl, h9⟩
    · have H9 := Lib.hid h9
      clear h8 h9
      go_wp2_with fail
      first | go_end0 | refine bodyPost_ret (results_none rfl _ _ _) rfl ?_
      exact H9.out
    · exact ⟨rfl, h9⟩
end Co
end Go.Proofs.YtikgonlhdkknkaaDoor
