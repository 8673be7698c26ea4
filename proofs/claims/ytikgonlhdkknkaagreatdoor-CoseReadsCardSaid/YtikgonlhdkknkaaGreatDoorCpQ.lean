import Derived.Test.YtikgonlhdkknkaaGreatDoorCtB
set_option maxRecDepth 100000
set_option maxHeartbeats 1600000
set_option linter.unusedVariables false
set_option linter.unusedSimpArgs false
open Go.Lib (hid)
namespace Go.Proofs.YtikgonlhdkknkaaGreatDoor
open Go.RowKit
namespace Co
open Dr (Rs Lm has lack at0S)
theorem Wt.hideS {w : World} {g : Nat} {t : Tl} {vo vs : Value} (h : Wt w g t vo vs) : ∃ vS, w.cell? ⟨g, 1, none⟩ = some vS ∧ w.frozen? ⟨g, 1, none⟩ = false ∧ Hid (Wt w g t vo vS) :=
 ⟨vs, h.at0.cell 1 _ rfl, h.at0.froz 1 (by simp), h⟩
theorem atom_plain (w : World) (g : Nat) (t : Tl) (vo vs : Value) (a : Am) (tx : ByteArray) (hyp : AtHyp w g t vo vs a tx) (h5 : ¬ (a.kind = 2 ∨ a.kind = 3)) (h6 : holds a.kind = false) :
  Calls Tryz.prog 46 #[.pointer (some ⟨g, 0, none⟩), .agg #[.int .i64 (a.kind : Int), .int .u64 (a.num : Int), .string tx]] w (RsAtom (atomT false t a) g w) := by
 have HYP := hid hyp
 have hW := hyp.wt
 obtain ⟨oa, oc, rfl, -⟩ := own_form hW.out
 obtain ⟨sa, sc, rfl, -⟩ := own_form hW.stack
 obtain ⟨n, hn⟩ : ∃ n, t.out.length = n := ⟨_, rfl⟩
 obtain ⟨gl, hgl⟩ : ∃ n, t.G.length = n := ⟨_, rfl⟩
 obtain ⟨k, hk⟩ : ∃ k, a.kind = k := ⟨_, rfl⟩
 obtain ⟨num, hnum⟩ : ∃ num, a.num = num := ⟨_, rfl⟩
 obtain ⟨m, hm⟩ : ∃ m, tx.size = m := ⟨_, rfl⟩
 have hx : a.text.length = m := by rw [← hyp.tl, tl_size, hm]
 have hcA0 : ∀ ob, (w.alloc ob).cell? ⟨g, 0, none⟩ = some (.slice oa n oc) := fun ob => by
  have h1 : (w.alloc ob).cell? ⟨g, 0 + 0, none⟩ = some (.slice oa t.out.length oc) := (hW.at0.alloc ob).cell 0 _ rfl
  rw [hn] at h1
  exact h1
 have hrow : rv (up a) = (#[Value.int .i64 (k : Int), Value.int .u64 (num : Int), Value.string tx]).toList := by
  rw [rv, up, hk, hnum]
  show [Value.int .i64 (k : Int), Value.int .u64 (num : Int), Value.string ⟨a.text.toArray⟩] = _
  rw [← hyp.tl, tl_arr]
 have HT0 := hid (box_row w (g + 1) hW.lt (up a) _ hrow)
 have HW0 := hid (hW.alloc (Obj.cells #[Value.int .i64 (k : Int), Value.int .u64 (num : Int), Value.string tx] 60))
 have HB0 : Hid (Below g w (w.alloc (Obj.cells #[Value.int .i64 (k : Int), Value.int .u64 (num : Int), Value.string tx] 60))) := (Below.refl g w).alloc (Nat.le_of_lt hW.lt) _
 have HROW := hid hrow
 have HN := hid hn
 have HGL := hid hgl
 have HKN := hid (aIn hk (aIn hnum (aIn hx hm)))
 have hk8 : k < 8 := by rw [← hk]; exact hyp.k
 have hn64 : num < 18446744073709551616 := by rw [← hnum]; exact hyp.num
 have hm64 : m < 18446744073709551616 := by rw [← hm]; have := hyp.sz; omega
 have HDN := hid (fun w => chead_any k num hk8 hn64 w)
 have HDM := hid (fun w => chead_any k m hk8 hm64 w)
 have hcm : IntKind.u64.wrap (tx.size : Int) = (m : Int) := by rw [hm]; exact u64c m hm64
 rw [hk, hnum]
 have HO := hid (fun w => holds_any k w)
 obtain ⟨RR, hRR⟩ : ∃ R, atomT false t a = R := ⟨_, rfl⟩
 rw [hRR]
 have e2 : ((k : Int) == 2) = false := by rw [beq_eq_false_iff_ne]; have h9 := h5; rw [hk] at h9; omega
 have e3 : ((k : Int) == 3) = false := by rw [beq_eq_false_iff_ne]; have h9 := h5; rw [hk] at h9; omega
 have hat : atomT false t a = mkT (outT false t.out a) t.deep (ends (outT false t.out a) n t.G t.ord) := by
  rw [atomT, if_neg (by rw [h6]; decide), hn]
 rw [hat] at hRR
 have hot : outT false t.out a = putT false t.out (hdN k num) := by
  rw [outT, if_neg h5, hk, hnum]
 have HOT := hid hot
 have h6k : holds k = false := by rw [← hk]; exact h6
 rw [h6k] at HO
 have HRR := hid hRR
 clear hyp hW hn hk hnum hm hx hrow hRR hk8 hn64 hm64 hgl hat hot h5 h6 h6k
 go_enter Tryz.func46, Tryz.ntmps46
 go_upto_region 2 with fail
 obtain ⟨T, hT⟩ : ∃ T, w.heap.size = T := ⟨_, rfl⟩
 obtain ⟨wa, hwa⟩ : ∃ x, w.alloc (Obj.cells #[Value.int .i64 (k : Int), Value.int .u64 (num : Int), Value.string tx] 60) = x := ⟨_, rfl⟩
 rw [hwa, hT] at HT0
 rw [hwa] at HW0 HB0
 rw [hwa, hT]
 clear hwa hT hcA0
 have hA0 := At.ofOwnN HT0.out
 rw [HROW.out] at hA0
 have hT0 := hA0.z 0 _ rfl
 have hT1 := hA0.cell 1 _ rfl
 have hT2 := hA0.cell 2 _ rfl
 clear hA0
 go_wp2_with (first
  | (go_at_call 70; refine (HDN.out _).mono ?_; rintro e w1 ⟨hs, rfl, hh, hb1⟩; have HS := hid hh; have HW1 := hid (HW0.out.below hb1); have HT1 := hid (own_below HT0.out hb1 (nle _)); have HB1 := hid (HB0.out.trans (hb1.mono (Nat.le_of_lt HW0.out.lt))); clear hb1 hh)
  | (go_at_call 69; refine (tput_any _ g t _ _ hs HW1.out (by have := hd_size HS.out; omega)).mono ?_; rintro e w2 ⟨rfl, ⟨vo2, HW2⟩, HB2, HK2⟩; have HT2 := hid (HK2.out _ _ _ _ _ atom_ne1 HT1.out); have hA2 := At.ofOwnN HT2.out; rw [HROW.out] at hA2; have hu0 := hA2.z 0 _ rfl; have hu1 := hA2.cell 1 _ rfl; have hu2 := hA2.cell 2 _ rfl; clear hA2)
  | (go_at_call 71; refine (HO.out _).mono ?_; rintro e wh ⟨rfl, rfl⟩))
 obtain ⟨o2, ho2⟩ : ∃ o, outT false t.out a = o := ⟨_, rfl⟩
 have HW4 : Hid (Wt w2 g ⟨o2, t.G, t.deep, false, t.ord⟩ vo2 (.slice sa t.G.length sc)) := by
  have h1 := HW2.out
  rw [HYP.out.done] at h1
  show Wt _ _ _ _ _
  rw [← ho2, HOT.out, ← HS.out]
  exact h1
 have HON : Hid (o2 ≠ []) := by show o2 ≠ []; rw [← ho2]; exact outT_ne _ _
 have hge : t.out.length ≤ o2.length := by rw [← ho2]; exact outT_ge _ _ _
 have hgd : Gd t.G o2.length := HYP.out.gd.mono hge
 rw [ho2] at HRR
 refine (tended_any _ g n _ _ _ HW4.out hgd.head (by rw [← HN.out]; exact hge) HON.out).mono ?_
 rintro e w5 ⟨rfl, HW5, HB5⟩
 obtain ⟨G2, dn, od2, hE, hTop, hlen, hcont⟩ := endS_facts n o2 t.G t.deep t.ord hgd
 obtain ⟨dp, hdp⟩ : ∃ d, t.deep = d := ⟨_, rfl⟩
 obtain ⟨R, hR⟩ : ∃ R, ends o2 n t.G t.ord = R := ⟨_, rfl⟩
 rw [hR] at hcont HRR
 rw [hdp] at hE HRR HW5
 have HIN : Hid (InAtom g w o2 dp R (G2.length + 1) w5) := ⟨G2, dn, od2, _, _, by rw [← hE]; exact HW5, ⟨hTop, Nat.lt_succ_self _, hcont⟩, (HB1.out.trans HB2.out).trans HB5.out⟩
 have HRR : Hid (RR = mkT o2 dp R) := HRR.out.symm
 clear hE hTop hcont hlen HW5 HB5 HW4 ho2 hge hgd hdp hR HOT HB1 HB2 HK2 HT1 HT2 HW1 HW2 hT0 hT1 hT2 hu0 hu1 hu2
 clear HW0 HB0 HT0 HDN HDM HO hcm
 go_wp2_with fail
 go_loopg [] (G2.length + 1) (fun gk wr => InAtom g w o2 dp R gk wr)
 case atStart => exact HIN.out
 case round =>
  obtain ⟨G, dn, od, vo, vs, HW, HC, HB⟩ := hrel
  clear HIN
  cases G with
  | nil =>
   obtain ⟨ad, cd, rfl, -⟩ := own_form HW.out.stack
   have hc1 : wr.cell? ⟨g, 0 + 1, none⟩ = some (.slice ad 0 cd) := HW.out.at0.cell 1 _ rfl
   have HF : Hid (RR = ⟨o2, [], dp, dn, od⟩) := by
    show RR = _
    have h1 : ([], dn, od) = R := HC.out.2.2
    rw [HRR.out, ← h1]
    rfl
   go_wp2_with fail
   go_quiet (fail)
   go_wp2_with fail
   first | go_end0 | refine bodyPost_ret (results_none rfl _ _ _) rfl ?_
   rw [HF.out]
   exact ⟨rfl, ⟨_, _, HW.out.drewN _⟩, HB.out.trans (below_drewN _ _ _)⟩
  | cons f G =>
   obtain ⟨k, cap, rfl, hgk0, hAt⟩ := own_top HW.out.stack
   have hgk : g < k := hgk0
   obtain ⟨gn, hgn⟩ : ∃ gn, G.length = gn := ⟨_, rfl⟩
   have e4 : IntKind.i64.wrap (gn : Int) = (gn : Int) := wrap_fit gn (by have h1 := own_fit HW.out.stack; have h9 : (f :: G).length ≤ maxLen := h1; rw [lco, hgn] at h9; omega)
   have e4b : (gn : Int) < (gn : Int) + 1 := by omega
   have hc1 : wr.cell? ⟨g, 0 + 1, none⟩ = some (.slice (some ⟨k, 0, none⟩) (G.length + 1) cap) := HW.out.at0.cell 1 _ rfl
   rw [hgn] at hAt hc1
   have ht0 := hAt.cell 0 _ rfl
   have ht1 := hAt.cell 1 _ rfl
   have ht2 := hAt.cell 2 _ rfl
   have ht3 := hAt.cell 3 _ rfl
   have ht4 := hAt.cell 4 _ rfl
   have ht5 := hAt.cell 5 _ rfl
   rw [Nat.add_zero] at ht0
   have FU := hid (fun z : Nat => full_any (wr.drewN z) k (gn * 6) f.left ht1)
   have HGN := hid hgn
   by_cases hpe : f.left = 0
   ·rw [dtr hpe] at FU
    have HPE := hid hpe
    go_wp2_with fail
    go_quiet (first | (go_at_call 50; exact (FU.out _).mono fun _ _ h => ⟨h.1, _, h.2.symm⟩))
    have HWq := hid (HW.out.drewN nq)
    have HBq := hid (HB.out.trans (below_drewN g wr nq))
    have HATq := hid (hAt.drewN nq)
    obtain ⟨wq, hwq⟩ : ∃ x, wr.drewN nq = x := ⟨_, rfl⟩
    rw [hwq] at HWq HBq HATq
    rw [hwq]
    clear hwq hAt hc1 ht0 ht1 ht2 ht3 ht4 ht5 HW HB FU
    have hc1 : wq.cell? ⟨g, 0 + 1, none⟩ = some (.slice (some ⟨k, 0, none⟩) (G.length + 1) cap) := HWq.out.at0.cell 1 _ rfl
    rw [hgn] at hc1
    have ht0 := HATq.out.cell 0 _ rfl
    have ht1 := HATq.out.cell 1 _ rfl
    have ht2 := HATq.out.cell 2 _ rfl
    have ht3 := HATq.out.cell 3 _ rfl
    have ht4 := HATq.out.cell 4 _ rfl
    have ht5 := HATq.out.cell 5 _ rfl
    rw [Nat.add_zero] at ht0
    have hk8 : ∀ ob : Obj, (wq.alloc ob).cell? ⟨g, 1, none⟩ = some (.slice (some ⟨k, 0, none⟩) (gn + 1) cap) := fun ob => by
     have h1 : (wq.alloc ob).cell? ⟨g, 0 + 1, none⟩ = some (.slice (some ⟨k, 0, none⟩) (G.length + 1) cap) := (HWq.out.alloc ob).at0.cell 1 _ rfl
     rw [hgn] at h1
     exact h1
    have hkA : ∀ ob : Obj, At (wq.alloc ob) k (gn * 6) (hv f) := fun ob => HATq.out.alloc ob
    have hk0 : ∀ ob : Obj, (wq.alloc ob).cell? ⟨k, gn * 6, none⟩ = _ := fun ob => (hkA ob).cell 0 _ rfl
    have hk1 : ∀ ob : Obj, (wq.alloc ob).cell? ⟨k, gn * 6 + 1, none⟩ = _ := fun ob => (hkA ob).cell 1 _ rfl
    have hk2 : ∀ ob : Obj, (wq.alloc ob).cell? ⟨k, gn * 6 + 2, none⟩ = _ := fun ob => (hkA ob).cell 2 _ rfl
    have hk3 : ∀ ob : Obj, (wq.alloc ob).cell? ⟨k, gn * 6 + 3, none⟩ = _ := fun ob => (hkA ob).cell 3 _ rfl
    have hk4 : ∀ ob : Obj, (wq.alloc ob).cell? ⟨k, gn * 6 + 4, none⟩ = _ := fun ob => (hkA ob).cell 4 _ rfl
    have hk5 : ∀ ob : Obj, (wq.alloc ob).cell? ⟨k, gn * 6 + 5, none⟩ = _ := fun ob => (hkA ob).cell 5 _ rfl
    have HRT := hid ((HWq.out.alloc (Obj.cells #[.int .i64 (f.p0 : Int), .int .u64 (f.left : Int), .bool f.pairs, .bool f.value, .bool f.keys, .string ⟨f.last.toArray⟩] 110)).drewN 1)
    have HATT := hid ((At.ofAlloc wq #[.int .i64 (f.p0 : Int), .int .u64 (f.left : Int), .bool f.pairs, .bool f.value, .bool f.keys, .string ⟨f.last.toArray⟩] 110).drewN 1)
    have HBT := hid (HBq.out.trans (((Below.refl g wq).alloc (Nat.le_of_lt HWq.out.lt) (Obj.cells #[.int .i64 (f.p0 : Int), .int .u64 (f.left : Int), .bool f.pairs, .bool f.value, .bool f.keys, .string ⟨f.last.toArray⟩] 110)).drew))
    clear hkA hpe hgn
    go_wp2_with fail
    go_cut [5] from 90 to 101 (fun v wx => ∃ T, v = .pointer (some ⟨T, 0, none⟩) ∧ Wt wx g ⟨o2, f :: G, dp, dn, od⟩ vo (.slice (some ⟨k, 0, none⟩) (G.length + 1) cap) ∧ At wx T 0 (hv f) ∧ Below g w wx ∧ g ≠ T)
    case first =>
     go_wp2_with fail
     go_region
     go_wp2_with fail
     go_meet
     case rel => exact ⟨wq.heap.size, rfl, HRT.out, HATT.out, HBT.out, fun e => by have := HWq.out.lt; omega⟩
    case rest =>
     obtain ⟨T, rfl, hRT, hAT, hBT, hgT⟩ := hcut
     have HRC := hid hRT
     have HAC := hid hAT
     have HBC := hid hBT
     have HGT := hid hgT
     have hd1 : wc.cell? ⟨g, 0 + 1, none⟩ = some (.slice (some ⟨k, 0, none⟩) (G.length + 1) cap) := hRT.at0.cell 1 _ rfl
     have hdf1 := hRT.at0.froz 1 (by simp)
     rw [HGN.out] at hd1
     have hcap : gn + 1 ≤ cap := by have h1 := own_cap hRT.stack; have h9 : (f :: G).length ≤ cap := h1; rw [lco, HGN.out] at h9; exact h9
     have hcapz : (gn : Int) ≤ (cap : Int) := by omega
     have HR8 := HRC.out.pop
     rw [HGN.out] at HR8
     have HR9 := hid (fun z : Nat => HR8.drewN z)
     have HB9 := hid (fun z : Nat => (HBC.out.setCell (p := ⟨g, 1, none⟩) (nle _) (.slice (some ⟨k, 0, none⟩) gn cap)).trans (below_drewN g _ z))
     have ATC := hid (fun z : Nat => at_any ((wc.setCell ⟨g, 1, none⟩ (.slice (some ⟨k, 0, none⟩) gn cap)).drewN z) T 0 f.p0 (((HAC.out.other g 1 (.slice (some ⟨k, 0, none⟩) gn cap) (Or.inl HGT.out)).drewN z).cell 0 _ rfl))
     clear HR8 hcap hRT hAT hBT hgT hk8 hk0 hk1 hk2 hk3 hk4 hk5 ht0 ht1 ht2 ht3 ht4 ht5 HRT HATT HBT hc1
     go_wp2_with fail
     go_region
     go_wp2_with (first
      | (go_at_call 52; refine (ATC.out _).mono ?_; rintro e w5 ⟨rfl, rfl⟩))
     obtain ⟨hdn, htp⟩ := HC.out.2.2
     subst hdn
     refine (tended_any _ g f.p0 _ _ _ (HR9.out _) HC.out.1.rest.head (HC.out.1.1 f (List.mem_cons_self ..)).2 HON.out).mono ?_
     rintro e w9 ⟨rfl, HW9, HB99⟩
     obtain ⟨G3, dn3, od3, hE3, hTop3, hlen3, hcont3⟩ := endS_facts f.p0 o2 G dp od HC.out.1.rest
     have HW10 : Hid (Wt w9 g ⟨o2, G3, dp, dn3, od3⟩ vo (.slice (some ⟨k, 0, none⟩) gn cap)) := by rw [← hE3]; exact HW9
     have HIN : Hid (InAtom g w o2 dp R (G3.length + 1) w9) := ⟨G3, dn3, od3, _, _, HW10, ⟨hTop3, Nat.lt_succ_self _, by rw [← htp, tops, if_pos HPE.out]; exact hcont3⟩, (HB9.out _).trans HB99.out⟩
     have HLT : Hid (G3.length + 1 < gk) := by
      show G3.length + 1 < gk
      have h1 := HC.out.2.1
      rw [lco] at h1
      omega
     clear hE3 hTop3 hlen3 hcont3 HW9 HB99 HW10 htp
     go_wp2_with fail
     go_roundg (G3.length + 1)
     case measure => exact HLT.out
     case rel => exact HIN.out
   ·rw [dfa hpe] at FU
    have HF : Hid (RR = ⟨o2, f :: G, dp, dn, od⟩) := by
     show RR = _
     obtain ⟨h1, h2⟩ := HC.out.2.2
     rw [HRR.out, ← h2, tops, if_neg hpe, h1]
     rfl
    clear hAt hpe
    go_wp2_with fail
    go_quiet (first | (go_at_call 50; exact (FU.out _).mono fun _ _ h => ⟨h.1, _, h.2.symm⟩))
    go_wp2_with fail
    first | go_end0 | refine bodyPost_ret (results_none rfl _ _ _) rfl ?_
    rw [HF.out]
    exact ⟨rfl, ⟨_, _, HW.out.drewN _⟩, HB.out.trans (below_drewN _ _ _)⟩
theorem atom_hold (w : World) (g : Nat) (t : Tl) (vo vs : Value) (a : Am) (tx : ByteArray) (hyp : AtHyp w g t vo vs a tx) (h6 : holds a.kind = true) :
  Calls Tryz.prog 46 #[.pointer (some ⟨g, 0, none⟩), .agg #[.int .i64 (a.kind : Int), .int .u64 (a.num : Int), .string tx]] w (RsAtom (atomT false t a) g w) := by
 have HYP := hid hyp
 have hW := hyp.wt
 obtain ⟨oa, oc, rfl, -⟩ := own_form hW.out
 obtain ⟨sa, sc, rfl, -⟩ := own_form hW.stack
 obtain ⟨n, hn⟩ : ∃ n, t.out.length = n := ⟨_, rfl⟩
 obtain ⟨gl, hgl⟩ : ∃ n, t.G.length = n := ⟨_, rfl⟩
 obtain ⟨k, hk⟩ : ∃ k, a.kind = k := ⟨_, rfl⟩
 obtain ⟨num, hnum⟩ : ∃ num, a.num = num := ⟨_, rfl⟩
 obtain ⟨m, hm⟩ : ∃ m, tx.size = m := ⟨_, rfl⟩
 have hx : a.text.length = m := by rw [← hyp.tl, tl_size, hm]
 have hcA0 : ∀ ob, (w.alloc ob).cell? ⟨g, 0, none⟩ = some (.slice oa n oc) := fun ob => by
  have h1 : (w.alloc ob).cell? ⟨g, 0 + 0, none⟩ = some (.slice oa t.out.length oc) := (hW.at0.alloc ob).cell 0 _ rfl
  rw [hn] at h1
  exact h1
 have hrow : rv (up a) = (#[Value.int .i64 (k : Int), Value.int .u64 (num : Int), Value.string tx]).toList := by
  rw [rv, up, hk, hnum]
  show [Value.int .i64 (k : Int), Value.int .u64 (num : Int), Value.string ⟨a.text.toArray⟩] = _
  rw [← hyp.tl, tl_arr]
 have HT0 := hid (box_row w (g + 1) hW.lt (up a) _ hrow)
 have HW0 := hid (hW.alloc (Obj.cells #[Value.int .i64 (k : Int), Value.int .u64 (num : Int), Value.string tx] 60))
 have HB0 : Hid (Below g w (w.alloc (Obj.cells #[Value.int .i64 (k : Int), Value.int .u64 (num : Int), Value.string tx] 60))) := (Below.refl g w).alloc (Nat.le_of_lt hW.lt) _
 have HROW := hid hrow
 have HN := hid hn
 have HGL := hid hgl
 have HKN := hid (aIn hk (aIn hnum (aIn hx hm)))
 have hk8 : k < 8 := by rw [← hk]; exact hyp.k
 have hn64 : num < 18446744073709551616 := by rw [← hnum]; exact hyp.num
 have hm64 : m < 18446744073709551616 := by rw [← hm]; have := hyp.sz; omega
 have HDN := hid (fun w => chead_any k num hk8 hn64 w)
 have HDM := hid (fun w => chead_any k m hk8 hm64 w)
 have hcm : IntKind.u64.wrap (tx.size : Int) = (m : Int) := by rw [hm]; exact u64c m hm64
 rw [hk, hnum]
 have HO := hid (fun w => holds_any k w)
 obtain ⟨RR, hRR⟩ : ∃ R, atomT false t a = R := ⟨_, rfl⟩
 rw [hRR]
 have h5 : ¬ (a.kind = 2 ∨ a.kind = 3) := holds_not h6
 have e2 : ((k : Int) == 2) = false := by rw [beq_eq_false_iff_ne]; have h9 := h5; rw [hk] at h9; omega
 have e3 : ((k : Int) == 3) = false := by rw [beq_eq_false_iff_ne]; have h9 := h5; rw [hk] at h9; omega
 have hat : atomT false t a = mkT (outT false t.out a) (max t.deep (gl + 1)) (tops (outT false t.out a) (fr0 a n) t.G t.ord) := by
  rw [atomT, if_pos h6, hn, hgl]
 rw [hat] at hRR
 have hot : outT false t.out a = putT false t.out (hdN k num) := by
  rw [outT, if_neg h5, hk, hnum]
 have HOT := hid hot
 have h6k : holds k = true := by rw [← hk]; exact h6
 rw [h6k] at HO
 obtain ⟨lf, hlf⟩ : ∃ lf, (if k = 6 then 1 else num) = lf := ⟨_, rfl⟩
 obtain ⟨pb, hpb⟩ : ∃ b, decide (k = 5) = b := ⟨_, rfl⟩
 have HL := hid (fun w => hold_any n k num w)
 rw [hlf, hpb] at HL
 have HFV : Hid (hv (fr0 a n) = (#[Value.int .i64 (n : Int), Value.int .u64 (lf : Int), Value.bool pb, Value.bool false, Value.bool false, Value.string ByteArray.empty]).toList) := by
  show [Value.int .i64 (n : Int), Value.int .u64 ((if a.kind = 6 then 1 else a.num : Nat) : Int), Value.bool (decide (a.kind = 5)), Value.bool false, Value.bool false, Value.string ⟨[].toArray⟩] = _
  rw [hk, hnum, hlf, hpb]
  rfl
 have HLF : Hid ((fr0 a n).left < 18446744073709551616) := by
  show (if a.kind = 6 then 1 else a.num) < _
  rw [hk, hnum]
  split <;> omega
 have HG6 := hid (show t.G.length ≤ 1000000 by have := hyp.gl; omega)
 have HRR := hid hRR
 clear hyp hW hn hk hnum hm hx hrow hRR hk8 hn64 hm64 hgl hat hot h5 h6 h6k hlf hpb
 go_enter Tryz.func46, Tryz.ntmps46
 go_upto_region 2 with fail
 obtain ⟨T, hT⟩ : ∃ T, w.heap.size = T := ⟨_, rfl⟩
 obtain ⟨wa, hwa⟩ : ∃ x, w.alloc (Obj.cells #[Value.int .i64 (k : Int), Value.int .u64 (num : Int), Value.string tx] 60) = x := ⟨_, rfl⟩
 rw [hwa, hT] at HT0
 rw [hwa] at HW0 HB0
 rw [hwa, hT]
 clear hwa hT hcA0
 have hA0 := At.ofOwnN HT0.out
 rw [HROW.out] at hA0
 have hT0 := hA0.z 0 _ rfl
 have hT1 := hA0.cell 1 _ rfl
 have hT2 := hA0.cell 2 _ rfl
 clear hA0
 go_wp2_with (first
  | (go_at_call 70; refine (HDN.out _).mono ?_; rintro e w1 ⟨hs, rfl, hh, hb1⟩; have HS := hid hh; have HW1 := hid (HW0.out.below hb1); have HT1 := hid (own_below HT0.out hb1 (nle _)); have HB1 := hid (HB0.out.trans (hb1.mono (Nat.le_of_lt HW0.out.lt))); clear hb1 hh)
  | (go_at_call 69; refine (tput_any _ g t _ _ hs HW1.out (by have := hd_size HS.out; omega)).mono ?_; rintro e w2 ⟨rfl, ⟨vo2, HW2⟩, HB2, HK2⟩; have HT2 := hid (HK2.out _ _ _ _ _ atom_ne1 HT1.out); have hA2 := At.ofOwnN HT2.out; rw [HROW.out] at hA2; have hu0 := hA2.z 0 _ rfl; have hu1 := hA2.cell 1 _ rfl; have hu2 := hA2.cell 2 _ rfl; clear hA2)
  | (go_at_call 71; refine (HO.out _).mono ?_; rintro e wh ⟨rfl, rfl⟩))
 obtain ⟨o2, ho2⟩ : ∃ o, outT false t.out a = o := ⟨_, rfl⟩
 have HW4 : Hid (Wt w2 g ⟨o2, t.G, t.deep, false, t.ord⟩ vo2 (.slice sa t.G.length sc)) := by
  have h1 := HW2.out
  rw [HYP.out.done] at h1
  show Wt _ _ _ _ _
  rw [← ho2, HOT.out, ← HS.out]
  exact h1
 have HON : Hid (o2 ≠ []) := by show o2 ≠ []; rw [← ho2]; exact outT_ne _ _
 have hge : t.out.length ≤ o2.length := by rw [← ho2]; exact outT_ge _ _ _
 have HGD := hid (HYP.out.gd.mono hge)
 rw [ho2] at HRR
 have HGE := hid hge
 have HB20 : Hid (Below g w w2) := HB1.out.trans HB2.out
 obtain ⟨vS, hvS, hfS, HRS⟩ := HW4.out.hideS
 obtain ⟨f0, hf0⟩ : ∃ f, fr0 a n = f := ⟨_, rfl⟩
 rw [hf0] at HFV HLF HRR
 have HF0 : Hid (f0.p0 = n) := by rw [← hf0]; rfl
 have HGT : Hid (T < w2.heap.size) := (HT2.out.lt T rfl).2
 clear ho2 hge HOT HB1 HB2 HK2 HT1 HT2 HW1 HW2 hT0 hT1 hT2 HDN HDM hcm HW0 HB0 HT0 hf0
 go_cut [] from 39 to 53 (fun wx => ∃ vs', Wt wx g ⟨o2, f0 :: t.G, t.deep, false, t.ord⟩ vo2 vs' ∧ Below g w wx)
 case first =>
  go_wp2_with fail
  go_region_law (first
   | (go_simp; go_at_call 72; refine (HL.out _).mono ?_; rintro e w5 ⟨rfl, hb5⟩; have HR5 := hid ((HRS.out.drewN _).below hb5); have HB5 := hid ((HB20.out.trans (below_drewN _ _ _)).trans (hb5.mono (Nat.le_of_lt HRS.out.lt))); have hq8 : w5.cell? ⟨g, 0 + 1, none⟩ = some vS := HR5.out.at0.cell 1 _ rfl; have hqA8 : ∀ ob : Obj, (w5.alloc ob).cell? ⟨g, 1, none⟩ = some vS := (fun ob => (HR5.out.alloc ob).at0.cell 1 _ rfl); clear hb5)
   | (refine step_append_hd rfl (.tmp 43) (.tmp 50) rfl (g + 1) _ t.G.length t.G rfl (HR5.out.stack.alloc _) _ 1 f0 rfl (at_cells HFV.out (At.ofAlloc _ #[Value.int .i64 (n : Int), Value.int .u64 (lf : Int), Value.bool pb, Value.bool false, Value.bool false, Value.string ByteArray.empty] 110)) (by have := HG6.out; omega) (by have := HR5.out.lt; simp; omega) ?_; intro v' w6 hown6 hgrow6; obtain ⟨a6, c6, hv6, -⟩ := own_form hown6; subst hv6; have hAt6 := At.grown ((HR5.out.alloc _).at0) hgrow6 (HR5.out.alloc _).lt (fun e => by have := (HR5.out.stack.lt g e).1; omega); have hf86 := hAt6.froz 1 (by simp); have hc86 : w6.cell? ⟨g, 0 + 1, none⟩ = some vS := hAt6.cell 1 _ rfl; have HR6 := hid (Wt.addFrame (G' := f0 :: t.G) (HR5.out.alloc _) hgrow6 hown6); have HB6 := hid ((((HB5.out.alloc (Nat.le_of_lt HR5.out.lt) _).grown hgrow6 (by have := HR5.out.lt; simp; omega) (fun k hk => by have := (HR5.out.stack.lt k hk).1; omega)).setCell (p := ⟨g, 1, none⟩) (nle _) (.slice a6 (t.G.length + 1) c6))); clear hAt6 hgrow6 hown6))
  all_goals
   go_wp2_with fail
   go_meet
   case rel => exact ⟨_, HR6.out, HB6.out⟩
 case rest =>
  obtain ⟨vs2, hR7, hB7⟩ := hcut
  have HR7 := hid hR7
  have HB7 := hid hB7
  obtain ⟨sa2, sc2, rfl, -⟩ := own_form hR7.stack
  obtain ⟨dp0, hdp0⟩ : ∃ d, t.deep = d := ⟨_, rfl⟩
  obtain ⟨dp, hdp⟩ : ∃ d, max dp0 (gl + 1) = d := ⟨_, rfl⟩
  rw [hdp0, hdp] at HRR
  rw [hdp0] at HR7
  have hd1 : wc.cell? ⟨g, 0 + 1, none⟩ = some (.slice sa2 (t.G.length + 1) sc2) := HR7.out.at0.cell 1 _ rfl
  have hd2 : wc.cell? ⟨g, 0 + 2, none⟩ = some (.int .i64 (dp0 : Int)) := HR7.out.at0.cell 2 _ rfl
  have hdf2 := HR7.out.at0.froz 2 (by simp)
  rw [HGL.out] at hd1
  have emx : max (dp0 : Int) ((gl : Int) + 1) = (dp : Int) := by omega
  obtain ⟨R, hR⟩ : ∃ R, tops o2 f0 t.G t.ord = R := ⟨_, rfl⟩
  rw [hR] at HRR
  obtain ⟨G2, hG2⟩ : ∃ G2, f0 :: t.G = G2 := ⟨_, rfl⟩
  have HTOP : Hid (Top G2 o2.length) := by
   rw [← hG2]
   refine ⟨fun x hx => ?_, fun x hx => (HGD.out x hx).1⟩
   rcases List.mem_cons.1 hx with rfl | hx
   ·exact ⟨HLF.out, by rw [HF0.out, ← HN.out]; exact HGE.out⟩
   ·exact (HGD.out x hx).2
  have HCO : Hid (cont o2 G2 false t.ord R) := by rw [← hG2]; exact ⟨rfl, hR⟩
  have HIN0 := hid (fun z : Nat => (show InAtom g w o2 dp R (G2.length + 1) ((wc.drewN z).setCell ⟨g, 2, none⟩ (.int .i64 (dp : Int))) from ⟨G2, false, t.ord, _, _, by have h9 := (HR7.out.drewN z).setDeep dp; rw [hG2] at h9; exact h9, ⟨HTOP.out, Nat.lt_succ_self _, HCO.out⟩, (HB7.out.trans (below_drewN _ _ _)).setCell (p := ⟨g, 2, none⟩) (nle _) _⟩))
  clear hR7 hB7 hdp0 hdp hR hG2 HR7 HB7 HTOP HCO
  go_wp2_with fail
  go_region
  have HIN := hid (HIN0.out 1)
  have HRR : Hid (RR = mkT o2 dp R) := HRR.out.symm
  clear HIN0 hd1 hd2 hdf2 hvS hfS hu0 hu1 hu2
  clear HO
  go_wp2_with fail
  go_loopg [] (G2.length + 1) (fun gk wr => InAtom g w o2 dp R gk wr)
  case atStart => exact HIN.out
  case round =>
   obtain ⟨G, dn, od, vo, vs, HW, HC, HB⟩ := hrel
   clear HIN
   cases G with
   | nil =>
    obtain ⟨ad, cd, rfl, -⟩ := own_form HW.out.stack
    have hc1 : wr.cell? ⟨g, 0 + 1, none⟩ = some (.slice ad 0 cd) := HW.out.at0.cell 1 _ rfl
    have HF : Hid (RR = ⟨o2, [], dp, dn, od⟩) := by
     show RR = _
     have h1 : ([], dn, od) = R := HC.out.2.2
     rw [HRR.out, ← h1]
     rfl
    go_wp2_with fail
    go_quiet (fail)
    go_wp2_with fail
    first | go_end0 | refine bodyPost_ret (results_none rfl _ _ _) rfl ?_
    rw [HF.out]
    exact ⟨rfl, ⟨_, _, HW.out.drewN _⟩, HB.out.trans (below_drewN _ _ _)⟩
   | cons f G =>
    obtain ⟨k, cap, rfl, hgk0, hAt⟩ := own_top HW.out.stack
    have hgk : g < k := hgk0
    obtain ⟨gn, hgn⟩ : ∃ gn, G.length = gn := ⟨_, rfl⟩
    have e4 : IntKind.i64.wrap (gn : Int) = (gn : Int) := wrap_fit gn (by have h1 := own_fit HW.out.stack; have h9 : (f :: G).length ≤ maxLen := h1; rw [lco, hgn] at h9; omega)
    have e4b : (gn : Int) < (gn : Int) + 1 := by omega
    have hc1 : wr.cell? ⟨g, 0 + 1, none⟩ = some (.slice (some ⟨k, 0, none⟩) (G.length + 1) cap) := HW.out.at0.cell 1 _ rfl
    rw [hgn] at hAt hc1
    have ht0 := hAt.cell 0 _ rfl
    have ht1 := hAt.cell 1 _ rfl
    have ht2 := hAt.cell 2 _ rfl
    have ht3 := hAt.cell 3 _ rfl
    have ht4 := hAt.cell 4 _ rfl
    have ht5 := hAt.cell 5 _ rfl
    rw [Nat.add_zero] at ht0
    have FU := hid (fun z : Nat => full_any (wr.drewN z) k (gn * 6) f.left ht1)
    have HGN := hid hgn
    by_cases hpe : f.left = 0
    ·rw [dtr hpe] at FU
     have HPE := hid hpe
     go_wp2_with fail
     go_quiet (first | (go_at_call 50; exact (FU.out _).mono fun _ _ h => ⟨h.1, _, h.2.symm⟩))
     have HWq := hid (HW.out.drewN nq)
     have HBq := hid (HB.out.trans (below_drewN g wr nq))
     have HATq := hid (hAt.drewN nq)
     obtain ⟨wq, hwq⟩ : ∃ x, wr.drewN nq = x := ⟨_, rfl⟩
     rw [hwq] at HWq HBq HATq
     rw [hwq]
     clear hwq hAt hc1 ht0 ht1 ht2 ht3 ht4 ht5 HW HB FU
     have hc1 : wq.cell? ⟨g, 0 + 1, none⟩ = some (.slice (some ⟨k, 0, none⟩) (G.length + 1) cap) := HWq.out.at0.cell 1 _ rfl
     rw [hgn] at hc1
     have ht0 := HATq.out.cell 0 _ rfl
     have ht1 := HATq.out.cell 1 _ rfl
     have ht2 := HATq.out.cell 2 _ rfl
     have ht3 := HATq.out.cell 3 _ rfl
     have ht4 := HATq.out.cell 4 _ rfl
     have ht5 := HATq.out.cell 5 _ rfl
     rw [Nat.add_zero] at ht0
     have hk8 : ∀ ob : Obj, (wq.alloc ob).cell? ⟨g, 1, none⟩ = some (.slice (some ⟨k, 0, none⟩) (gn + 1) cap) := fun ob => by
      have h1 : (wq.alloc ob).cell? ⟨g, 0 + 1, none⟩ = some (.slice (some ⟨k, 0, none⟩) (G.length + 1) cap) := (HWq.out.alloc ob).at0.cell 1 _ rfl
      rw [hgn] at h1
      exact h1
     have hkA : ∀ ob : Obj, At (wq.alloc ob) k (gn * 6) (hv f) := fun ob => HATq.out.alloc ob
     have hk0 : ∀ ob : Obj, (wq.alloc ob).cell? ⟨k, gn * 6, none⟩ = _ := fun ob => (hkA ob).cell 0 _ rfl
     have hk1 : ∀ ob : Obj, (wq.alloc ob).cell? ⟨k, gn * 6 + 1, none⟩ = _ := fun ob => (hkA ob).cell 1 _ rfl
     have hk2 : ∀ ob : Obj, (wq.alloc ob).cell? ⟨k, gn * 6 + 2, none⟩ = _ := fun ob => (hkA ob).cell 2 _ rfl
     have hk3 : ∀ ob : Obj, (wq.alloc ob).cell? ⟨k, gn * 6 + 3, none⟩ = _ := fun ob => (hkA ob).cell 3 _ rfl
     have hk4 : ∀ ob : Obj, (wq.alloc ob).cell? ⟨k, gn * 6 + 4, none⟩ = _ := fun ob => (hkA ob).cell 4 _ rfl
     have hk5 : ∀ ob : Obj, (wq.alloc ob).cell? ⟨k, gn * 6 + 5, none⟩ = _ := fun ob => (hkA ob).cell 5 _ rfl
     have HRT := hid ((HWq.out.alloc (Obj.cells #[.int .i64 (f.p0 : Int), .int .u64 (f.left : Int), .bool f.pairs, .bool f.value, .bool f.keys, .string ⟨f.last.toArray⟩] 110)).drewN 1)
     have HATT := hid ((At.ofAlloc wq #[.int .i64 (f.p0 : Int), .int .u64 (f.left : Int), .bool f.pairs, .bool f.value, .bool f.keys, .string ⟨f.last.toArray⟩] 110).drewN 1)
     have HBT := hid (HBq.out.trans (((Below.refl g wq).alloc (Nat.le_of_lt HWq.out.lt) (Obj.cells #[.int .i64 (f.p0 : Int), .int .u64 (f.left : Int), .bool f.pairs, .bool f.value, .bool f.keys, .string ⟨f.last.toArray⟩] 110)).drew))
     clear hkA hpe hgn
     go_wp2_with fail
     go_cut [5] from 90 to 101 (fun v wx => ∃ T, v = .pointer (some ⟨T, 0, none⟩) ∧ Wt wx g ⟨o2, f :: G, dp, dn, od⟩ vo (.slice (some ⟨k, 0, none⟩) (G.length + 1) cap) ∧ At wx T 0 (hv f) ∧ Below g w wx ∧ g ≠ T)
     case first =>
      go_wp2_with fail
      go_region
      go_wp2_with fail
      go_meet
      case rel => exact ⟨wq.heap.size, rfl, HRT.out, HATT.out, HBT.out, fun e => by have := HWq.out.lt; omega⟩
     case rest =>
      obtain ⟨T, rfl, hRT, hAT, hBT, hgT⟩ := hcut
      have HRC := hid hRT
      have HAC := hid hAT
      have HBC := hid hBT
      have HGT := hid hgT
      have hd1 : wc.cell? ⟨g, 0 + 1, none⟩ = some (.slice (some ⟨k, 0, none⟩) (G.length + 1) cap) := hRT.at0.cell 1 _ rfl
      have hdf1 := hRT.at0.froz 1 (by simp)
      rw [HGN.out] at hd1
      have hcap : gn + 1 ≤ cap := by have h1 := own_cap hRT.stack; have h9 : (f :: G).length ≤ cap := h1; rw [lco, HGN.out] at h9; exact h9
      have hcapz : (gn : Int) ≤ (cap : Int) := by omega
      have HR8 := HRC.out.pop
      rw [HGN.out] at HR8
      have HR9 := hid (fun z : Nat => HR8.drewN z)
      have HB9 := hid (fun z : Nat => (HBC.out.setCell (p := ⟨g, 1, none⟩) (nle _) (.slice (some ⟨k, 0, none⟩) gn cap)).trans (below_drewN g _ z))
      have ATC := hid (fun z : Nat => at_any ((wc.setCell ⟨g, 1, none⟩ (.slice (some ⟨k, 0, none⟩) gn cap)).drewN z) T 0 f.p0 (((HAC.out.other g 1 (.slice (some ⟨k, 0, none⟩) gn cap) (Or.inl HGT.out)).drewN z).cell 0 _ rfl))
      clear HR8 hcap hRT hAT hBT hgT hk8 hk0 hk1 hk2 hk3 hk4 hk5 ht0 ht1 ht2 ht3 ht4 ht5 HRT HATT HBT hc1
      go_wp2_with fail
      go_region
      go_wp2_with (first
       | (go_at_call 52; refine (ATC.out _).mono ?_; rintro e w5 ⟨rfl, rfl⟩))
      obtain ⟨hdn, htp⟩ := HC.out.2.2
      subst hdn
      refine (tended_any _ g f.p0 _ _ _ (HR9.out _) HC.out.1.rest.head (HC.out.1.1 f (List.mem_cons_self ..)).2 HON.out).mono ?_
      rintro e w9 ⟨rfl, HW9, HB99⟩
      obtain ⟨G3, dn3, od3, hE3, hTop3, hlen3, hcont3⟩ := endS_facts f.p0 o2 G dp od HC.out.1.rest
      have HW10 : Hid (Wt w9 g ⟨o2, G3, dp, dn3, od3⟩ vo (.slice (some ⟨k, 0, none⟩) gn cap)) := by rw [← hE3]; exact HW9
      have HIN : Hid (InAtom g w o2 dp R (G3.length + 1) w9) := ⟨G3, dn3, od3, _, _, HW10, ⟨hTop3, Nat.lt_succ_self _, by rw [← htp, tops, if_pos HPE.out]; exact hcont3⟩, (HB9.out _).trans HB99.out⟩
      have HLT : Hid (G3.length + 1 < gk) := by
       show G3.length + 1 < gk
       have h1 := HC.out.2.1
       rw [lco] at h1
       omega
      clear hE3 hTop3 hlen3 hcont3 HW9 HB99 HW10 htp
      go_wp2_with fail
      go_roundg (G3.length + 1)
      case measure => exact HLT.out
      case rel => exact HIN.out
    ·rw [dfa hpe] at FU
     have HF : Hid (RR = ⟨o2, f :: G, dp, dn, od⟩) := by
      show RR = _
      obtain ⟨h1, h2⟩ := HC.out.2.2
      rw [HRR.out, ← h2, tops, if_neg hpe, h1]
      rfl
     clear hAt hpe
     go_wp2_with fail
     go_quiet (first | (go_at_call 50; exact (FU.out _).mono fun _ _ h => ⟨h.1, _, h.2.symm⟩))
     go_wp2_with fail
     first | go_end0 | refine bodyPost_ret (results_none rfl _ _ _) rfl ?_
     rw [HF.out]
     exact ⟨rfl, ⟨_, _, HW.out.drewN _⟩, HB.out.trans (below_drewN _ _ _)⟩
end Co
end Go.Proofs.YtikgonlhdkknkaaGreatDoor
