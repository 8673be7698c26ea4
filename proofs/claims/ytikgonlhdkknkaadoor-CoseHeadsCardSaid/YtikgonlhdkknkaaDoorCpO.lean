/- An atom is told. -/
import Derived.Test.YtikgonlhdkknkaaDoorCpN
import Derived.Deep.LoopGhost
namespace Go.Proofs.YtikgonlhdkknkaaDoor
open Go.RowKit
set_option linter.unusedVariables false
set_option linter.unusedSimpArgs false
namespace Co
open Dr (Rs Lm has lack at0S)
def cont (out : List UInt8) (G : List Fr) (dn od : Bool) (R : List Fr × Bool × Bool) : Prop := match G with
  | [] => ([], dn, od) = R
  | f :: G' => dn = false ∧ tops out f G' od = R
theorem gd_top {G : List Fr} {p : Nat} (h : Gd G p) : Top G p := ⟨fun x hx => (h x hx).2, fun x hx => (h x (List.mem_of_mem_tail hx)).1⟩
theorem endS_facts (a : Nat) (out : List UInt8) (G : List Fr) (dp : Nat) (od : Bool) (hG : Gd G out.length) :
    ∃ G2 dn od2, endS a ⟨out, G, dp, false, od⟩ = ⟨out, G2, dp, dn, od2⟩ ∧ Top G2 out.length ∧ G2.length = G.length ∧ cont out G2 dn od2 (ends out a G od) := by
  cases G with
  | nil => exact ⟨[], true, od, rfl, ⟨fun x hx => (by cases hx), fun x hx => (by cases hx)⟩, rfl, rfl⟩
  | cons f G =>
    refine ⟨_, _, _, rfl, ⟨fun x hx => ?_, fun x hx => (hG x (List.mem_cons_of_mem _ hx)).1⟩, rfl, ⟨rfl, (ends_cons ..).symm⟩⟩
    rcases List.mem_cons.1 hx with rfl | hx
    · have h1 := hG f (List.mem_cons_self ..)
      rw [adv]
      split
      · exact ⟨h1.2.1, h1.2.2⟩
      · exact ⟨by show f.left - 1 < _; omega, h1.2.2⟩
    · have h1 := hG x (List.mem_cons_of_mem _ hx)
      exact ⟨h1.2.1, h1.2.2⟩
def InAtom (g : Nat) (w : World) (out : List UInt8) (dp : Nat) (R : List Fr × Bool × Bool) (gk : Nat) (wr : World) : Prop :=
  ∃ G dn od vo vs, Hid (Wt wr g ⟨out, G, dp, dn, od⟩ vo vs) ∧ Hid (Top G out.length ∧ G.length < gk ∧ cont out G dn od R) ∧ Hid (Below g w wr)
def RsAtom (t2 : Tl) (g : Nat) (w : World) (e : Ending) (w' : World) : Prop :=
  e = .returned (.tuple #[]) ∧ (∃ vo vs, Hid (Wt w' g t2 vo vs)) ∧ Hid (Below g w w')
/-- an atom's box -/
theorem box_row (w : World) (B : Nat) (hB : B ≤ w.heap.size) (y : Ra) (cs : Array Value) (hc : rv y = cs.toList) : (w.alloc (Obj.cells cs 51)).ownsRow B 51 3 (.slice (some ⟨w.heap.size, 0, none⟩) 1 1) 1 (rv y) := by
  rw [hc]
  exact World.ownsRow_lit w cs 1 hB (by decide) (by rw [← Array.length_toList, ← hc]; rfl)
theorem atom_ne1 : (51 : Nat) ≠ 5 := by decide
/-- what a teller must be for an atom to be told -/
structure AtHyp (w : World) (g : Nat) (t : Tl) (vo vs : Value) (a : Am) (tx : ByteArray) : Prop where
  wt : Wt w g t vo vs
  done : t.done = false
  gd : Gd t.G t.out.length
  k : a.kind < 8
  num : a.num < 18446744073709551616
  tl : tx.toList = a.text
  sz : tx.size ≤ 140737488351232
  gl : t.G.length ≤ 100000
theorem hd_size {hs : ByteArray} {k n : Nat} (h : hs.toList = hdN k n) : hs.size ≤ 9 := by
  have h1 := congrArg List.length h
  rw [tl_size, hdN_length] at h1
  have h2 : widN n ≤ 8 := by rw [widN]; repeat' split
                             all_goals omega
  omega
theorem putT_len (b : Bool) (o s : List UInt8) : (putT b o s).length ≤ o.length + s.length := by
  rw [putT]
  split
  · rw [List.length_append]; exact Nat.le_refl _
  · omega
theorem putT_pos (b : Bool) (o s : List UInt8) (h : s ≠ []) : putT b o s ≠ [] := by
  rw [putT]
  split
  · intro h1; exact h (List.append_eq_nil_iff.1 h1).2
  · rename_i h1
    intro h2
    rw [h2] at h1
    exact h1 (.inr (by simp))
theorem outT_ne (o : List UInt8) (a : Am) : outT false o a ≠ [] := by
  rw [outT]
  have h1 : ∀ k n, hdN k n ≠ [] := fun k n => by rw [hdN]; simp
  split
  · intro h2
    have h3 := putT_ge false (putT false o (hdN a.kind a.text.length)) a.text
    rw [h2] at h3
    have h4 := putT_pos false o _ (h1 a.kind a.text.length)
    exact h4 (List.length_eq_zero_iff.1 (Nat.le_zero.1 h3))
  · exact putT_pos false o _ (h1 _ _)
set_option maxRecDepth 100000 in
set_option maxHeartbeats 1600000 in
theorem atom_text2 (w : World) (g : Nat) (t : Tl) (vo vs : Value) (a : Am) (tx : ByteArray) (hyp : AtHyp w g t vo vs a tx) (hkind : a.kind = 2) :
    Calls Tryd.prog 39 #[.pointer (some ⟨g, 0, none⟩), .agg #[.int .i64 (a.kind : Int), .int .u64 (a.num : Int), .string tx]] w (RsAtom (atomT false t a) g w) := by
  have HYP := Lib.hid hyp
  have hW := hyp.wt
  obtain ⟨oa, oc, rfl, -⟩ := own_form hW.out
  obtain ⟨sa, sc, rfl, -⟩ := own_form hW.stack
  obtain ⟨n, hn⟩ : ∃ n, t.out.length = n := ⟨_, rfl⟩
  obtain ⟨gl, hgl⟩ : ∃ n, t.G.length = n := ⟨_, rfl⟩
  have hk : a.kind = 2 := hkind
  obtain ⟨num, hnum⟩ : ∃ num, a.num = num := ⟨_, rfl⟩
  obtain ⟨m, hm⟩ : ∃ m, tx.size = m := ⟨_, rfl⟩
  have hx : a.text.length = m := by rw [← hyp.tl, tl_size, hm]
  have hcA0 : ∀ ob, (w.alloc ob).cell? ⟨g, 0, none⟩ = some (.slice oa n oc) := fun ob => by
    have h1 : (w.alloc ob).cell? ⟨g, 0 + 0, none⟩ = some (.slice oa t.out.length oc) := (hW.at0.alloc ob).cell 0 _ rfl
    rw [hn] at h1
    exact h1
  have hrow : rv (up a) = (#[Value.int .i64 2, Value.int .u64 (num : Int), Value.string tx]).toList := by
    rw [rv, up, hk, hnum]
    show [Value.int .i64 2, Value.int .u64 (num : Int), Value.string ⟨a.text.toArray⟩] = _
    rw [← hyp.tl, tl_arr]
  have HT0 := Lib.hid (box_row w (g + 1) hW.lt (up a) _ hrow)
  have HW0 := Lib.hid (hW.alloc (Obj.cells #[Value.int .i64 2, Value.int .u64 (num : Int), Value.string tx] 51))
  have HB0 : Hid (Below g w (w.alloc (Obj.cells #[Value.int .i64 2, Value.int .u64 (num : Int), Value.string tx] 51))) := (Below.refl g w).alloc (Nat.le_of_lt hW.lt) _
  have HROW := Lib.hid hrow
  have HN := Lib.hid hn
  have HGL := Lib.hid hgl
  have HKN := Lib.hid (And.intro hk (And.intro hnum (And.intro hx hm)))
  have hk8 : 2 < 8 := by decide
  have hn64 : num < 18446744073709551616 := by rw [← hnum]; exact hyp.num
  have hm64 : m < 18446744073709551616 := by rw [← hm]; have := hyp.sz; omega
  have HDN : True := trivial
  have HDM : Hid (∀ w, Calls Tryd.prog 59 #[.int .i64 2, .int .u64 (m : Int)] w (RetS (hdN 2 m) w)) := fun w => chead_any 2 m hk8 hm64 w
  have hcm : IntKind.u64.wrap (tx.size : Int) = (m : Int) := by rw [hm]; exact u64c m hm64
  rw [hk, hnum, show ((2 : Nat) : Int) = (2 : Int) from rfl]
  have HO : Hid (∀ w, Calls Tryd.prog 60 #[.int .i64 2] w (RetVal (.bool false) w)) := fun w => holds_any 2 w
  obtain ⟨RR, hRR⟩ : ∃ R, atomT false t a = R := ⟨_, rfl⟩
  rw [hRR]
  have hat : atomT false t a = mkT (outT false t.out a) t.deep (ends (outT false t.out a) n t.G t.ord) := by
    rw [atomT, if_neg (by rw [hk]; decide), hn]
  rw [hat] at hRR
  have hot : outT false t.out a = putT false (putT false t.out (hdN 2 m)) tx.toList := by
    rw [outT, if_pos (by rw [hk]; decide), hk, hx, hyp.tl]
  have HOT := Lib.hid hot

  have HRR := Lib.hid hRR
  clear hyp hW hn hk hnum hm hx hrow hRR hk8 hn64 hm64 hgl hat hot
  go_enter Tryd.func39, Tryd.ntmps39
  go_upto_region 2 with fail
  obtain ⟨T, hT⟩ : ∃ T, w.heap.size = T := ⟨_, rfl⟩
  obtain ⟨wa, hwa⟩ : ∃ x, w.alloc (Obj.cells #[Value.int .i64 2, Value.int .u64 (num : Int), Value.string tx] 51) = x := ⟨_, rfl⟩
  rw [hwa, hT] at HT0
  rw [hwa] at HW0 HB0
  rw [hwa, hT]
  clear hwa hT hcA0
  have hA0 := At.ofOwnN HT0.out
  rw [HROW.out] at hA0
  have hT0 := hA0.cell 0 _ rfl
  have hT1 := hA0.cell 1 _ rfl
  have hT2 := hA0.cell 2 _ rfl
  rw [Nat.zero_add] at hT0
  clear hA0
  go_wp2_with (first
    | (go_at_call 59; refine (HDM.out _).mono ?_; rintro e w1 ⟨hs, rfl, hh, hb1⟩; have HS := Lib.hid hh; have HW1 := Lib.hid (HW0.out.below hb1); have HT1 := Lib.hid (own_below HT0.out hb1 (Nat.le_refl _)); have HB1 := Lib.hid (HB0.out.trans (hb1.mono (Nat.le_of_lt HW0.out.lt))); clear hb1 hh)
    | (go_at_call 58; refine (tput_any _ g _ _ _ tx HW2.out HYP.out.sz).mono ?_; rintro e w3 ⟨rfl, ⟨vo3, HW3⟩, HB3, HK3⟩; have HT3 := Lib.hid (HK3.out _ _ _ _ _ atom_ne1 HT2.out); have hA3 := At.ofOwnN HT3.out; rw [HROW.out] at hA3; have hx0 := hA3.cell 0 _ rfl; rw [Nat.zero_add] at hx0; clear hA3)
    | (go_at_call 58; refine (tput_any _ g t _ _ hs HW1.out (by have := hd_size HS.out; omega)).mono ?_; rintro e w2 ⟨rfl, ⟨vo2, HW2⟩, HB2, HK2⟩; have HT2 := Lib.hid (HK2.out _ _ _ _ _ atom_ne1 HT1.out); have hA2 := At.ofOwnN HT2.out; rw [HROW.out] at hA2; have hu0 := hA2.cell 0 _ rfl; have hu1 := hA2.cell 1 _ rfl; have hu2 := hA2.cell 2 _ rfl; rw [Nat.zero_add] at hu0; clear hA2)
    | (go_at_call 60; refine (HO.out _).mono ?_; rintro e wh ⟨rfl, rfl⟩))
  obtain ⟨o2, ho2⟩ : ∃ o, outT false t.out a = o := ⟨_, rfl⟩
  have HW4 : Hid (Wt w3 g ⟨o2, t.G, t.deep, false, t.ord⟩ vo3 (.slice sa t.G.length sc)) := by
    have h1 := HW3.out
    rw [HYP.out.done] at h1
    show Wt _ _ _ _ _
    rw [← ho2, HOT.out, ← HS.out]
    exact h1
  have HON : Hid (o2 ≠ []) := by show o2 ≠ []; rw [← ho2]; exact outT_ne _ _
  have hge : t.out.length ≤ o2.length := by rw [← ho2]; exact outT_ge _ _ _
  have hgd : Gd t.G o2.length := HYP.out.gd.mono hge
  rw [ho2] at HRR
  refine (tended_any _ g n _ _ _ HW4.out hgd.head (by rw [← HN.out]; exact hge) HON.out).mono ?_
  rintro e w5 ⟨rfl, HW5, HB5⟩
  obtain ⟨G2, dn, od2, hE, hTop, hlen, hcont⟩ := endS_facts n o2 t.G t.deep t.ord hgd
  obtain ⟨dp, hdp⟩ : ∃ d, t.deep = d := ⟨_, rfl⟩
  obtain ⟨R, hR⟩ : ∃ R, ends o2 n t.G t.ord = R := ⟨_, rfl⟩
  rw [hR] at hcont HRR
  rw [hdp] at hE HRR HW5
  have HIN : Hid (InAtom g w o2 dp R (G2.length + 1) w5) := ⟨G2, dn, od2, _, _, by rw [← hE]; exact HW5, ⟨hTop, Nat.lt_succ_self _, hcont⟩, ((HB1.out.trans HB2.out).trans HB3.out).trans HB5.out⟩
  have HRR : Hid (RR = mkT o2 dp R) := HRR.out.symm
  clear hE hTop hcont hlen HW5 HB5 HW4 ho2 hge hgd hdp hR HOT HB1 HB2 HB3 HK2 HK3 HT1 HT2 HT3 HW1 HW2 HW3 hT0 hT1 hT2 hu0 hu1 hu2 hx0
  clear HW0 HB0 HT0 HDN HDM HO hcm
  go_wp2_with fail
  go_loopg [] (G2.length + 1) (fun gk wr => InAtom g w o2 dp R gk wr)
  case atStart => exact HIN.out
  case round =>
    obtain ⟨G, dn, od, vo, vs, HW, HC, HB⟩ := hrel
    clear HIN
    cases G with
    | nil =>
      obtain ⟨ad, cd, rfl, -⟩ := own_form HW.out.stack
      have hc1 : wr.cell? ⟨g, 0 + 1, none⟩ = some (.slice ad 0 cd) := HW.out.at0.cell 1 _ rfl
      have HF : Hid (RR = ⟨o2, [], dp, dn, od⟩) := by
        show RR = _
        have h1 : ([], dn, od) = R := HC.out.2.2
        rw [HRR.out, ← h1]
        rfl
      go_wp2_with fail
      go_quiet (fail)
      go_wp2_with fail
      first | go_end0 | refine bodyPost_ret (results_none rfl _ _ _) rfl ?_
      rw [HF.out]
      exact ⟨rfl, ⟨_, _, HW.out.drewN _⟩, HB.out.trans (below_drewN _ _ _)⟩
    | cons f G =>
      obtain ⟨k, cap, rfl, hgk0, hAt⟩ := own_top HW.out.stack
      have hgk : g < k := hgk0
      obtain ⟨gn, hgn⟩ : ∃ gn, G.length = gn := ⟨_, rfl⟩
      have e4 : IntKind.i64.wrap (gn : Int) = (gn : Int) := wrap_fit gn (by have h1 := own_fit HW.out.stack; have h9 : (f :: G).length ≤ maxLen := h1; rw [List.length_cons, hgn] at h9; omega)
      have e4b : (gn : Int) < (gn : Int) + 1 := by omega
      have hc1 : wr.cell? ⟨g, 0 + 1, none⟩ = some (.slice (some ⟨k, 0, none⟩) (G.length + 1) cap) := HW.out.at0.cell 1 _ rfl
      rw [hgn] at hAt hc1
      have ht0 := hAt.cell 0 _ rfl
      have ht1 := hAt.cell 1 _ rfl
      have ht2 := hAt.cell 2 _ rfl
      have ht3 := hAt.cell 3 _ rfl
      have ht4 := hAt.cell 4 _ rfl
      have ht5 := hAt.cell 5 _ rfl
      rw [Nat.add_zero] at ht0
      have FU := Lib.hid (fun z : Nat => full_any (wr.drewN z) k (gn * 6) f.left ht1)
      have HGN := Lib.hid hgn
      by_cases hpe : f.left = 0
      · rw [decide_eq_true hpe] at FU
        have HPE := Lib.hid hpe
        go_wp2_with fail
        go_quiet (first | (go_at_call 50; exact (FU.out _).mono fun _ _ h => ⟨h.1, _, h.2.symm⟩))
        have HWq := Lib.hid (HW.out.drewN nq)
        have HBq := Lib.hid (HB.out.trans (below_drewN g wr nq))
        have HATq := Lib.hid (hAt.drewN nq)
        obtain ⟨wq, hwq⟩ : ∃ x, wr.drewN nq = x := ⟨_, rfl⟩
        rw [hwq] at HWq HBq HATq
        rw [hwq]
        clear hwq hAt hc1 ht0 ht1 ht2 ht3 ht4 ht5 HW HB FU
        have hc1 : wq.cell? ⟨g, 0 + 1, none⟩ = some (.slice (some ⟨k, 0, none⟩) (G.length + 1) cap) := HWq.out.at0.cell 1 _ rfl
        rw [hgn] at hc1
        have ht0 := HATq.out.cell 0 _ rfl
        have ht1 := HATq.out.cell 1 _ rfl
        have ht2 := HATq.out.cell 2 _ rfl
        have ht3 := HATq.out.cell 3 _ rfl
        have ht4 := HATq.out.cell 4 _ rfl
        have ht5 := HATq.out.cell 5 _ rfl
        rw [Nat.add_zero] at ht0
        have hk8 : ∀ ob : Obj, (wq.alloc ob).cell? ⟨g, 1, none⟩ = some (.slice (some ⟨k, 0, none⟩) (gn + 1) cap) := fun ob => by
          have h1 : (wq.alloc ob).cell? ⟨g, 0 + 1, none⟩ = some (.slice (some ⟨k, 0, none⟩) (G.length + 1) cap) := (HWq.out.alloc ob).at0.cell 1 _ rfl
          rw [hgn] at h1
          exact h1
        have hkA : ∀ ob : Obj, At (wq.alloc ob) k (gn * 6) (hv f) := fun ob => HATq.out.alloc ob
        have hk0 : ∀ ob : Obj, (wq.alloc ob).cell? ⟨k, gn * 6, none⟩ = _ := fun ob => (hkA ob).cell 0 _ rfl
        have hk1 : ∀ ob : Obj, (wq.alloc ob).cell? ⟨k, gn * 6 + 1, none⟩ = _ := fun ob => (hkA ob).cell 1 _ rfl
        have hk2 : ∀ ob : Obj, (wq.alloc ob).cell? ⟨k, gn * 6 + 2, none⟩ = _ := fun ob => (hkA ob).cell 2 _ rfl
        have hk3 : ∀ ob : Obj, (wq.alloc ob).cell? ⟨k, gn * 6 + 3, none⟩ = _ := fun ob => (hkA ob).cell 3 _ rfl
        have hk4 : ∀ ob : Obj, (wq.alloc ob).cell? ⟨k, gn * 6 + 4, none⟩ = _ := fun ob => (hkA ob).cell 4 _ rfl
        have hk5 : ∀ ob : Obj, (wq.alloc ob).cell? ⟨k, gn * 6 + 5, none⟩ = _ := fun ob => (hkA ob).cell 5 _ rfl
        have HRT := Lib.hid ((HWq.out.alloc (Obj.cells #[.int .i64 (f.p0 : Int), .int .u64 (f.left : Int), .bool f.pairs, .bool f.value, .bool f.keys, .string ⟨f.last.toArray⟩] 108)).drewN 1)
        have HATT := Lib.hid ((At.ofAlloc wq #[.int .i64 (f.p0 : Int), .int .u64 (f.left : Int), .bool f.pairs, .bool f.value, .bool f.keys, .string ⟨f.last.toArray⟩] 108).drewN 1)
        have HBT := Lib.hid (HBq.out.trans (((Below.refl g wq).alloc (Nat.le_of_lt HWq.out.lt) (Obj.cells #[.int .i64 (f.p0 : Int), .int .u64 (f.left : Int), .bool f.pairs, .bool f.value, .bool f.keys, .string ⟨f.last.toArray⟩] 108)).drew))
        clear hkA hpe hgn
        go_wp2_with fail
        go_cut [5] from 90 to 101 (fun v wx => ∃ T, v = .pointer (some ⟨T, 0, none⟩) ∧ Wt wx g ⟨o2, f :: G, dp, dn, od⟩ vo (.slice (some ⟨k, 0, none⟩) (G.length + 1) cap) ∧ At wx T 0 (hv f) ∧ Below g w wx ∧ g ≠ T)
        case first =>
          go_wp2_with fail
          go_region
          go_wp2_with fail
          go_meet
          case rel => exact ⟨wq.heap.size, rfl, HRT.out, HATT.out, HBT.out, fun e => by have := HWq.out.lt; omega⟩
        case rest =>
          obtain ⟨T, rfl, hRT, hAT, hBT, hgT⟩ := hcut
          have HRC := Lib.hid hRT
          have HAC := Lib.hid hAT
          have HBC := Lib.hid hBT
          have HGT := Lib.hid hgT
          have hd1 : wc.cell? ⟨g, 0 + 1, none⟩ = some (.slice (some ⟨k, 0, none⟩) (G.length + 1) cap) := hRT.at0.cell 1 _ rfl
          have hdf1 := hRT.at0.froz 1 (by simp)
          rw [HGN.out] at hd1
          have hcap : gn + 1 ≤ cap := by have h1 := own_cap hRT.stack; have h9 : (f :: G).length ≤ cap := h1; rw [List.length_cons, HGN.out] at h9; exact h9
          have hcapz : (gn : Int) ≤ (cap : Int) := by omega
          have HR8 := HRC.out.pop
          rw [HGN.out] at HR8
          have HR9 := Lib.hid (fun z : Nat => HR8.drewN z)
          have HB9 := Lib.hid (fun z : Nat => (HBC.out.setCell (p := ⟨g, 1, none⟩) (Nat.le_refl _) (.slice (some ⟨k, 0, none⟩) gn cap)).trans (below_drewN g _ z))
          have ATC := Lib.hid (fun z : Nat => at_any ((wc.setCell ⟨g, 1, none⟩ (.slice (some ⟨k, 0, none⟩) gn cap)).drewN z) T 0 f.p0 (((HAC.out.other g 1 (.slice (some ⟨k, 0, none⟩) gn cap) (Or.inl HGT.out)).drewN z).cell 0 _ rfl))
          clear HR8 hcap hRT hAT hBT hgT hk8 hk0 hk1 hk2 hk3 hk4 hk5 ht0 ht1 ht2 ht3 ht4 ht5 HRT HATT HBT hc1
          go_wp2_with fail
          go_region
          go_wp2_with (first
            | (go_at_call 52; refine (ATC.out _).mono ?_; rintro e w5 ⟨rfl, rfl⟩))
          obtain ⟨hdn, htp⟩ := HC.out.2.2
          subst hdn
          refine (tended_any _ g f.p0 _ _ _ (HR9.out _) HC.out.1.rest.head (HC.out.1.1 f (List.mem_cons_self ..)).2 HON.out).mono ?_
          rintro e w9 ⟨rfl, HW9, HB99⟩
          obtain ⟨G3, dn3, od3, hE3, hTop3, hlen3, hcont3⟩ := endS_facts f.p0 o2 G dp od HC.out.1.rest
          have HW10 : Hid (Wt w9 g ⟨o2, G3, dp, dn3, od3⟩ vo (.slice (some ⟨k, 0, none⟩) gn cap)) := by rw [← hE3]; exact HW9
          have HIN : Hid (InAtom g w o2 dp R (G3.length + 1) w9) := ⟨G3, dn3, od3, _, _, HW10, ⟨hTop3, Nat.lt_succ_self _, by rw [← htp, tops, if_pos HPE.out]; exact hcont3⟩, (HB9.out _).trans HB99.out⟩
          have HLT : Hid (G3.length + 1 < gk) := by
            show G3.length + 1 < gk
            have h1 := HC.out.2.1
            rw [List.length_cons] at h1
            omega
          clear hE3 hTop3 hlen3 hcont3 HW9 HB99 HW10 htp
          go_wp2_with fail
          go_roundg (G3.length + 1)
          case measure => exact HLT.out
          case rel => exact HIN.out
      · rw [decide_eq_false hpe] at FU
        have HF : Hid (RR = ⟨o2, f :: G, dp, dn, od⟩) := by
          show RR = _
          obtain ⟨h1, h2⟩ := HC.out.2.2
          rw [HRR.out, ← h2, tops, if_neg hpe, h1]
          rfl
        clear hAt hpe
        go_wp2_with fail
        go_quiet (first | (go_at_call 50; exact (FU.out _).mono fun _ _ h => ⟨h.1, _, h.2.symm⟩))
        go_wp2_with fail
        first | go_end0 | refine bodyPost_ret (results_none rfl _ _ _) rfl ?_
        rw [HF.out]
        exact ⟨rfl, ⟨_, _, HW.out.drewN _⟩, HB.out.trans (below_drewN _ _ _)⟩
set_option maxRecDepth 100000 in
set_option maxHeartbeats 1600000 in
theorem atom_text3 (w : World) (g : Nat) (t : Tl) (vo vs : Value) (a : Am) (tx : ByteArray) (hyp : AtHyp w g t vo vs a tx) (hkind : a.kind = 3) :
    Calls Tryd.prog 39 #[.pointer (some ⟨g, 0, none⟩), .agg #[.int .i64 (a.kind : Int), .int .u64 (a.num : Int), .string tx]] w (RsAtom (atomT false t a) g w) := by
  have HYP := Lib.hid hyp
  have hW := hyp.wt
  obtain ⟨oa, oc, rfl, -⟩ := own_form hW.out
  obtain ⟨sa, sc, rfl, -⟩ := own_form hW.stack
  obtain ⟨n, hn⟩ : ∃ n, t.out.length = n := ⟨_, rfl⟩
  obtain ⟨gl, hgl⟩ : ∃ n, t.G.length = n := ⟨_, rfl⟩
  have hk : a.kind = 3 := hkind
  obtain ⟨num, hnum⟩ : ∃ num, a.num = num := ⟨_, rfl⟩
  obtain ⟨m, hm⟩ : ∃ m, tx.size = m := ⟨_, rfl⟩
  have hx : a.text.length = m := by rw [← hyp.tl, tl_size, hm]
  have hcA0 : ∀ ob, (w.alloc ob).cell? ⟨g, 0, none⟩ = some (.slice oa n oc) := fun ob => by
    have h1 : (w.alloc ob).cell? ⟨g, 0 + 0, none⟩ = some (.slice oa t.out.length oc) := (hW.at0.alloc ob).cell 0 _ rfl
    rw [hn] at h1
    exact h1
  have hrow : rv (up a) = (#[Value.int .i64 3, Value.int .u64 (num : Int), Value.string tx]).toList := by
    rw [rv, up, hk, hnum]
    show [Value.int .i64 3, Value.int .u64 (num : Int), Value.string ⟨a.text.toArray⟩] = _
    rw [← hyp.tl, tl_arr]
  have HT0 := Lib.hid (box_row w (g + 1) hW.lt (up a) _ hrow)
  have HW0 := Lib.hid (hW.alloc (Obj.cells #[Value.int .i64 3, Value.int .u64 (num : Int), Value.string tx] 51))
  have HB0 : Hid (Below g w (w.alloc (Obj.cells #[Value.int .i64 3, Value.int .u64 (num : Int), Value.string tx] 51))) := (Below.refl g w).alloc (Nat.le_of_lt hW.lt) _
  have HROW := Lib.hid hrow
  have HN := Lib.hid hn
  have HGL := Lib.hid hgl
  have HKN := Lib.hid (And.intro hk (And.intro hnum (And.intro hx hm)))
  have hk8 : 3 < 8 := by decide
  have hn64 : num < 18446744073709551616 := by rw [← hnum]; exact hyp.num
  have hm64 : m < 18446744073709551616 := by rw [← hm]; have := hyp.sz; omega
  have HDN : True := trivial
  have HDM : Hid (∀ w, Calls Tryd.prog 59 #[.int .i64 3, .int .u64 (m : Int)] w (RetS (hdN 3 m) w)) := fun w => chead_any 3 m hk8 hm64 w
  have hcm : IntKind.u64.wrap (tx.size : Int) = (m : Int) := by rw [hm]; exact u64c m hm64
  rw [hk, hnum, show ((3 : Nat) : Int) = (3 : Int) from rfl]
  have HO : Hid (∀ w, Calls Tryd.prog 60 #[.int .i64 3] w (RetVal (.bool false) w)) := fun w => holds_any 3 w
  obtain ⟨RR, hRR⟩ : ∃ R, atomT false t a = R := ⟨_, rfl⟩
  rw [hRR]
  have hat : atomT false t a = mkT (outT false t.out a) t.deep (ends (outT false t.out a) n t.G t.ord) := by
    rw [atomT, if_neg (by rw [hk]; decide), hn]
  rw [hat] at hRR
  have hot : outT false t.out a = putT false (putT false t.out (hdN 3 m)) tx.toList := by
    rw [outT, if_pos (by rw [hk]; decide), hk, hx, hyp.tl]
  have HOT := Lib.hid hot

  have HRR := Lib.hid hRR
  clear hyp hW hn hk hnum hm hx hrow hRR hk8 hn64 hm64 hgl hat hot
  go_enter Tryd.func39, Tryd.ntmps39
  go_upto_region 2 with fail
  obtain ⟨T, hT⟩ : ∃ T, w.heap.size = T := ⟨_, rfl⟩
  obtain ⟨wa, hwa⟩ : ∃ x, w.alloc (Obj.cells #[Value.int .i64 3, Value.int .u64 (num : Int), Value.string tx] 51) = x := ⟨_, rfl⟩
  rw [hwa, hT] at HT0
  rw [hwa] at HW0 HB0
  rw [hwa, hT]
  clear hwa hT hcA0
  have hA0 := At.ofOwnN HT0.out
  rw [HROW.out] at hA0
  have hT0 := hA0.cell 0 _ rfl
  have hT1 := hA0.cell 1 _ rfl
  have hT2 := hA0.cell 2 _ rfl
  rw [Nat.zero_add] at hT0
  clear hA0
  go_wp2_with (first
    | (go_at_call 59; refine (HDM.out _).mono ?_; rintro e w1 ⟨hs, rfl, hh, hb1⟩; have HS := Lib.hid hh; have HW1 := Lib.hid (HW0.out.below hb1); have HT1 := Lib.hid (own_below HT0.out hb1 (Nat.le_refl _)); have HB1 := Lib.hid (HB0.out.trans (hb1.mono (Nat.le_of_lt HW0.out.lt))); clear hb1 hh)
    | (go_at_call 58; refine (tput_any _ g _ _ _ tx HW2.out HYP.out.sz).mono ?_; rintro e w3 ⟨rfl, ⟨vo3, HW3⟩, HB3, HK3⟩; have HT3 := Lib.hid (HK3.out _ _ _ _ _ atom_ne1 HT2.out); have hA3 := At.ofOwnN HT3.out; rw [HROW.out] at hA3; have hx0 := hA3.cell 0 _ rfl; rw [Nat.zero_add] at hx0; clear hA3)
    | (go_at_call 58; refine (tput_any _ g t _ _ hs HW1.out (by have := hd_size HS.out; omega)).mono ?_; rintro e w2 ⟨rfl, ⟨vo2, HW2⟩, HB2, HK2⟩; have HT2 := Lib.hid (HK2.out _ _ _ _ _ atom_ne1 HT1.out); have hA2 := At.ofOwnN HT2.out; rw [HROW.out] at hA2; have hu0 := hA2.cell 0 _ rfl; have hu1 := hA2.cell 1 _ rfl; have hu2 := hA2.cell 2 _ rfl; rw [Nat.zero_add] at hu0; clear hA2)
    | (go_at_call 60; refine (HO.out _).mono ?_; rintro e wh ⟨rfl, rfl⟩))
  obtain ⟨o2, ho2⟩ : ∃ o, outT false t.out a = o := ⟨_, rfl⟩
  have HW4 : Hid (Wt w3 g ⟨o2, t.G, t.deep, false, t.ord⟩ vo3 (.slice sa t.G.length sc)) := by
    have h1 := HW3.out
    rw [HYP.out.done] at h1
    show Wt _ _ _ _ _
    rw [← ho2, HOT.out, ← HS.out]
    exact h1
  have HON : Hid (o2 ≠ []) := by show o2 ≠ []; rw [← ho2]; exact outT_ne _ _
  have hge : t.out.length ≤ o2.length := by rw [← ho2]; exact outT_ge _ _ _
  have hgd : Gd t.G o2.length := HYP.out.gd.mono hge
  rw [ho2] at HRR
  refine (tended_any _ g n _ _ _ HW4.out hgd.head (by rw [← HN.out]; exact hge) HON.out).mono ?_
  rintro e w5 ⟨rfl, HW5, HB5⟩
  obtain ⟨G2, dn, od2, hE, hTop, hlen, hcont⟩ := endS_facts n o2 t.G t.deep t.ord hgd
  obtain ⟨dp, hdp⟩ : ∃ d, t.deep = d := ⟨_, rfl⟩
  obtain ⟨R, hR⟩ : ∃ R, ends o2 n t.G t.ord = R := ⟨_, rfl⟩
  rw [hR] at hcont HRR
  rw [hdp] at hE HRR HW5
  have HIN : Hid (InAtom g w o2 dp R (G2.length + 1) w5) := ⟨G2, dn, od2, _, _, by rw [← hE]; exact HW5, ⟨hTop, Nat.lt_succ_self _, hcont⟩, ((HB1.out.trans HB2.out).trans HB3.out).trans HB5.out⟩
  have HRR : Hid (RR = mkT o2 dp R) := HRR.out.symm
  clear hE hTop hcont hlen HW5 HB5 HW4 ho2 hge hgd hdp hR HOT HB1 HB2 HB3 HK2 HK3 HT1 HT2 HT3 HW1 HW2 HW3 hT0 hT1 hT2 hu0 hu1 hu2 hx0
  clear HW0 HB0 HT0 HDN HDM HO hcm
  go_wp2_with fail
  go_loopg [] (G2.length + 1) (fun gk wr => InAtom g w o2 dp R gk wr)
  case atStart => exact HIN.out
  case round =>
    obtain ⟨G, dn, od, vo, vs, HW, HC, HB⟩ := hrel
    clear HIN
    cases G with
    | nil =>
      obtain ⟨ad, cd, rfl, -⟩ := own_form HW.out.stack
      have hc1 : wr.cell? ⟨g, 0 + 1, none⟩ = some (.slice ad 0 cd) := HW.out.at0.cell 1 _ rfl
      have HF : Hid (RR = ⟨o2, [], dp, dn, od⟩) := by
        show RR = _
        have h1 : ([], dn, od) = R := HC.out.2.2
        rw [HRR.out, ← h1]
        rfl
      go_wp2_with fail
      go_quiet (fail)
      go_wp2_with fail
      first | go_end0 | refine bodyPost_ret (results_none rfl _ _ _) rfl ?_
      rw [HF.out]
      exact ⟨rfl, ⟨_, _, HW.out.drewN _⟩, HB.out.trans (below_drewN _ _ _)⟩
    | cons f G =>
      obtain ⟨k, cap, rfl, hgk0, hAt⟩ := own_top HW.out.stack
      have hgk : g < k := hgk0
      obtain ⟨gn, hgn⟩ : ∃ gn, G.length = gn := ⟨_, rfl⟩
      have e4 : IntKind.i64.wrap (gn : Int) = (gn : Int) := wrap_fit gn (by have h1 := own_fit HW.out.stack; have h9 : (f :: G).length ≤ maxLen := h1; rw [List.length_cons, hgn] at h9; omega)
      have e4b : (gn : Int) < (gn : Int) + 1 := by omega
      have hc1 : wr.cell? ⟨g, 0 + 1, none⟩ = some (.slice (some ⟨k, 0, none⟩) (G.length + 1) cap) := HW.out.at0.cell 1 _ rfl
      rw [hgn] at hAt hc1
      have ht0 := hAt.cell 0 _ rfl
      have ht1 := hAt.cell 1 _ rfl
      have ht2 := hAt.cell 2 _ rfl
      have ht3 := hAt.cell 3 _ rfl
      have ht4 := hAt.cell 4 _ rfl
      have ht5 := hAt.cell 5 _ rfl
      rw [Nat.add_zero] at ht0
      have FU := Lib.hid (fun z : Nat => full_any (wr.drewN z) k (gn * 6) f.left ht1)
      have HGN := Lib.hid hgn
      by_cases hpe : f.left = 0
      · rw [decide_eq_true hpe] at FU
        have HPE := Lib.hid hpe
        go_wp2_with fail
        go_quiet (first | (go_at_call 50; exact (FU.out _).mono fun _ _ h => ⟨h.1, _, h.2.symm⟩))
        have HWq := Lib.hid (HW.out.drewN nq)
        have HBq := Lib.hid (HB.out.trans (below_drewN g wr nq))
        have HATq := Lib.hid (hAt.drewN nq)
        obtain ⟨wq, hwq⟩ : ∃ x, wr.drewN nq = x := ⟨_, rfl⟩
        rw [hwq] at HWq HBq HATq
        rw [hwq]
        clear hwq hAt hc1 ht0 ht1 ht2 ht3 ht4 ht5 HW HB FU
        have hc1 : wq.cell? ⟨g, 0 + 1, none⟩ = some (.slice (some ⟨k, 0, none⟩) (G.length + 1) cap) := HWq.out.at0.cell 1 _ rfl
        rw [hgn] at hc1
        have ht0 := HATq.out.cell 0 _ rfl
        have ht1 := HATq.out.cell 1 _ rfl
        have ht2 := HATq.out.cell 2 _ rfl
        have ht3 := HATq.out.cell 3 _ rfl
        have ht4 := HATq.out.cell 4 _ rfl
        have ht5 := HATq.out.cell 5 _ rfl
        rw [Nat.add_zero] at ht0
        have hk8 : ∀ ob : Obj, (wq.alloc ob).cell? ⟨g, 1, none⟩ = some (.slice (some ⟨k, 0, none⟩) (gn + 1) cap) := fun ob => by
          have h1 : (wq.alloc ob).cell? ⟨g, 0 + 1, none⟩ = some (.slice (some ⟨k, 0, none⟩) (G.length + 1) cap) := (HWq.out.alloc ob).at0.cell 1 _ rfl
          rw [hgn] at h1
          exact h1
        have hkA : ∀ ob : Obj, At (wq.alloc ob) k (gn * 6) (hv f) := fun ob => HATq.out.alloc ob
        have hk0 : ∀ ob : Obj, (wq.alloc ob).cell? ⟨k, gn * 6, none⟩ = _ := fun ob => (hkA ob).cell 0 _ rfl
        have hk1 : ∀ ob : Obj, (wq.alloc ob).cell? ⟨k, gn * 6 + 1, none⟩ = _ := fun ob => (hkA ob).cell 1 _ rfl
        have hk2 : ∀ ob : Obj, (wq.alloc ob).cell? ⟨k, gn * 6 + 2, none⟩ = _ := fun ob => (hkA ob).cell 2 _ rfl
        have hk3 : ∀ ob : Obj, (wq.alloc ob).cell? ⟨k, gn * 6 + 3, none⟩ = _ := fun ob => (hkA ob).cell 3 _ rfl
        have hk4 : ∀ ob : Obj, (wq.alloc ob).cell? ⟨k, gn * 6 + 4, none⟩ = _ := fun ob => (hkA ob).cell 4 _ rfl
        have hk5 : ∀ ob : Obj, (wq.alloc ob).cell? ⟨k, gn * 6 + 5, none⟩ = _ := fun ob => (hkA ob).cell 5 _ rfl
        have HRT := Lib.hid ((HWq.out.alloc (Obj.cells #[.int .i64 (f.p0 : Int), .int .u64 (f.left : Int), .bool f.pairs, .bool f.value, .bool f.keys, .string ⟨f.last.toArray⟩] 108)).drewN 1)
        have HATT := Lib.hid ((At.ofAlloc wq #[.int .i64 (f.p0 : Int), .int .u64 (f.left : Int), .bool f.pairs, .bool f.value, .bool f.keys, .string ⟨f.last.toArray⟩] 108).drewN 1)
        have HBT := Lib.hid (HBq.out.trans (((Below.refl g wq).alloc (Nat.le_of_lt HWq.out.lt) (Obj.cells #[.int .i64 (f.p0 : Int), .int .u64 (f.left : Int), .bool f.pairs, .bool f.value, .bool f.keys, .string ⟨f.last.toArray⟩] 108)).drew))
        clear hkA hpe hgn
        go_wp2_with fail
        go_cut [5] from 90 to 101 (fun v wx => ∃ T, v = .pointer (some ⟨T, 0, none⟩) ∧ Wt wx g ⟨o2, f :: G, dp, dn, od⟩ vo (.slice (some ⟨k, 0, none⟩) (G.length + 1) cap) ∧ At wx T 0 (hv f) ∧ Below g w wx ∧ g ≠ T)
        case first =>
          go_wp2_with fail
          go_region
          go_wp2_with fail
          go_meet
          case rel => exact ⟨wq.heap.size, rfl, HRT.out, HATT.out, HBT.out, fun e => by have := HWq.out.lt; omega⟩
        case rest =>
          obtain ⟨T, rfl, hRT, hAT, hBT, hgT⟩ := hcut
          have HRC := Lib.hid hRT
          have HAC := Lib.hid hAT
          have HBC := Lib.hid hBT
          have HGT := Lib.hid hgT
          have hd1 : wc.cell? ⟨g, 0 + 1, none⟩ = some (.slice (some ⟨k, 0, none⟩) (G.length + 1) cap) := hRT.at0.cell 1 _ rfl
          have hdf1 := hRT.at0.froz 1 (by simp)
          rw [HGN.out] at hd1
          have hcap : gn + 1 ≤ cap := by have h1 := own_cap hRT.stack; have h9 : (f :: G).length ≤ cap := h1; rw [List.length_cons, HGN.out] at h9; exact h9
          have hcapz : (gn : Int) ≤ (cap : Int) := by omega
          have HR8 := HRC.out.pop
          rw [HGN.out] at HR8
          have HR9 := Lib.hid (fun z : Nat => HR8.drewN z)
          have HB9 := Lib.hid (fun z : Nat => (HBC.out.setCell (p := ⟨g, 1, none⟩) (Nat.le_refl _) (.slice (some ⟨k, 0, none⟩) gn cap)).trans (below_drewN g _ z))
          have ATC := Lib.hid (fun z : Nat => at_any ((wc.setCell ⟨g, 1, none⟩ (.slice (some ⟨k, 0, none⟩) gn cap)).drewN z) T 0 f.p0 (((HAC.out.other g 1 (.slice (some ⟨k, 0, none⟩) gn cap) (Or.inl HGT.out)).drewN z).cell 0 _ rfl))
          clear HR8 hcap hRT hAT hBT hgT hk8 hk0 hk1 hk2 hk3 hk4 hk5 ht0 ht1 ht2 ht3 ht4 ht5 HRT HATT HBT hc1
          go_wp2_with fail
          go_region
          go_wp2_with (first
            | (go_at_call 52; refine (ATC.out _).mono ?_; rintro e w5 ⟨rfl, rfl⟩))
          obtain ⟨hdn, htp⟩ := HC.out.2.2
          subst hdn
          refine (tended_any _ g f.p0 _ _ _ (HR9.out _) HC.out.1.rest.head (HC.out.1.1 f (List.mem_cons_self ..)).2 HON.out).mono ?_
          rintro e w9 ⟨rfl, HW9, HB99⟩
          obtain ⟨G3, dn3, od3, hE3, hTop3, hlen3, hcont3⟩ := endS_facts f.p0 o2 G dp od HC.out.1.rest
          have HW10 : Hid (Wt w9 g ⟨o2, G3, dp, dn3, od3⟩ vo (.slice (some ⟨k, 0, none⟩) gn cap)) := by rw [← hE3]; exact HW9
          have HIN : Hid (InAtom g w o2 dp R (G3.length + 1) w9) := ⟨G3, dn3, od3, _, _, HW10, ⟨hTop3, Nat.lt_succ_self _, by rw [← htp, tops, if_pos HPE.out]; exact hcont3⟩, (HB9.out _).trans HB99.out⟩
          have HLT : Hid (G3.length + 1 < gk) := by
            show G3.length + 1 < gk
            have h1 := HC.out.2.1
            rw [List.length_cons] at h1
            omega
          clear hE3 hTop3 hlen3 hcont3 HW9 HB99 HW10 htp
          go_wp2_with fail
          go_roundg (G3.length + 1)
          case measure => exact HLT.out
          case rel => exact HIN.out
      · rw [decide_eq_false hpe] at FU
        have HF : Hid (RR = ⟨o2, f :: G, dp, dn, od⟩) := by
          show RR = _
          obtain ⟨h1, h2⟩ := HC.out.2.2
          rw [HRR.out, ← h2, tops, if_neg hpe, h1]
          rfl
        clear hAt hpe
        go_wp2_with fail
        go_quiet (first | (go_at_call 50; exact (FU.out _).mono fun _ _ h => ⟨h.1, _, h.2.symm⟩))
        go_wp2_with fail
        first | go_end0 | refine bodyPost_ret (results_none rfl _ _ _) rfl ?_
        rw [HF.out]
        exact ⟨rfl, ⟨_, _, HW.out.drewN _⟩, HB.out.trans (below_drewN _ _ _)⟩
end Co
end Go.Proofs.YtikgonlhdkknkaaDoor
