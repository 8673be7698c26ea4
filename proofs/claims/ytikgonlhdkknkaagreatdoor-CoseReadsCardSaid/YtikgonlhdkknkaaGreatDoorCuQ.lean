import Derived.Test.YtikgonlhdkknkaaGreatDoorCuP
import Derived.Deep.CutRange
set_option maxRecDepth 100000
set_option maxHeartbeats 12800000
set_option linter.unusedVariables false
set_option linter.unusedSimpArgs false
open Go.Lib (hid)
namespace Go.Proofs.YtikgonlhdkknkaaGreatDoor
open Go.RowKit
namespace Co
open Dr (Rs Lm has lack at0S)
theorem told_node4 (l A R : List Ra) (K : List Am) (am : Am) (MK : List (List UInt8)) (dK : Nat) (oK : Bool) (hln : l.length ≤ 4096) (IH : ∀ T : List Am, T.length ≤ K.length → CToldOk l T) (hK : Its dK K MK oK) (hl : l = A ++ (am :: K).map up ++ R) (hka : am.kind = 4) (hm : MK.length = need am) (htx0 : am.text.length ≤ 1000) (hnum0 : am.num < 18446744073709551616)
  (w : World) (g k o n cap : Nat) (ou : Bool) (hT : Te w g (.slice (some ⟨k, o, none⟩) n cap) A.length false ou) (hL : Lg w g k o l) (hn : l.length = n) :
  Calls Tryz.prog 94 #[.pointer (some ⟨g, 0, none⟩)] w (CTold g (.slice (some ⟨k, o, none⟩) n cap) (am :: K) ((hdN 4 am.num ++ am.text) ++ MK.flatten) (oK && ordA 4 MK) A.length ou w) := by
 obtain ⟨i, hi0⟩ : ∃ i, A.length = i := ⟨_, rfl⟩
 have hi : i < l.length := by rw [hl, lap, lap, List.length_map, lco]; omega
 have hx : l.getD i ra0 = up am := by rw [hl, ← hi0]; simp [List.getD]
 have hkl : i + 1 + K.length ≤ 4096 := by have h1 := hln; rw [hl, lap, lap, List.length_map, lco] at h1; omega
 have hlens := hK.lens
 obtain ⟨x, hxx⟩ : ∃ x, up am = x := ⟨_, rfl⟩
 have hk : x.kind = 4 := by rw [← hxx]; show (am.kind : Int) = _; rw [hka]; rfl
 have hxn : am.num = x.num := by rw [← hxx]; rfl
 have hxt : am.text = x.text := by rw [← hxx]; rfl
 have hnum : x.num < 18446744073709551616 := by rw [← hxn]; exact hnum0
 have htx : x.text.length ≤ 1000 := by rw [← hxt]; exact htx0
 rw [hxn, hxt]
 rw [need, hxn, hka] at hm
 rw [hi0] at hT ⊢
 rw [hxx] at hx
 obtain ⟨m, hmm⟩ : ∃ m, MK.length = m := ⟨_, rfl⟩
 have hmb : m ≤ 4096 := by omega
 have hmn : x.num = m := by rw [← hmm, hm]; simp
 have HC := hid (aIn hi0 (aIn hmm (aIn hkl (aIn hl (aIn hK (aIn hlens (aIn hln hL)))))))
 have HIH := hid IH
 have HT := hid hT
 have HN := hid (aIn hn (aIn hi hmb))
 have hX := rcell_atO hL.at0 i hi
 rw [hx] at hX
 have n0 := hX.cell 0 _ rfl
 have n1 := hX.cell 1 _ rfl
 have n2 := hX.cell 2 _ rfl
 rw [Nat.add_zero] at n0
 have k0 := hT.at0.z 0 _ rfl
 have k1 := hT.at0.cell 1 _ rfl
 have f1 := hT.at0.froz 1 (Nat.le_of_ble_eq_true rfl)
 have n0A : ∀ ob, (w.alloc ob).cell? ⟨k, o + i * 3, none⟩ = some (.int .i64 x.kind) := fun ob => by have h := (hX.alloc ob).cell 0 _ rfl; rw [Nat.add_zero] at h; exact h
 have n1A : ∀ ob, (w.alloc ob).cell? ⟨k, o + i * 3 + 1, none⟩ = some (.int .u64 (x.num : Int)) := fun ob => (hX.alloc ob).cell 1 _ rfl
 have n2A : ∀ ob, (w.alloc ob).cell? ⟨k, o + i * 3 + 2, none⟩ = some (.string ⟨x.text.toArray⟩) := fun ob => (hX.alloc ob).cell 2 _ rfl
 have k0A : ∀ ob, (w.alloc ob).cell? ⟨g, 0, none⟩ = some (.slice (some ⟨k, o, none⟩) n cap) := fun ob => by have h := (hT.at0.alloc ob).z 0 _ rfl; exact h
 have k1A : ∀ ob, (w.alloc ob).cell? ⟨g, 1, none⟩ = some (.int .i64 (i : Int)) := fun ob => (hT.at0.alloc ob).cell 1 _ rfl
 have e1 : (i : Int) < (n : Int) := by omega
 have e2 : (i : Int) ≤ 4096 := by omega
 have HMN := hid hmn
 clear hmn hT hL hX hn hi hl hx hln hkl hi0 hlens hmm hm hnum0 htx0 hxn hxt hka hxx IH hK
 go_enter Tryz.func94, Tryz.ntmps94
 go_wp2_with fail
 go_region
 have HTa : Hid (Te (w.alloc (Obj.cells #[Value.int .i64 x.kind, Value.int .u64 (x.num : Int), Value.string ⟨x.text.toArray⟩] 60)).drew g (.slice (some ⟨k, o, none⟩) n cap) i false ou) := ⟨(HT.out.at0.alloc _).drewN 1, by have := HT.out.lt; simp; omega⟩
 have HAa : Hid (At (w.alloc (Obj.cells #[Value.int .i64 x.kind, Value.int .u64 (x.num : Int), Value.string ⟨x.text.toArray⟩] 60)).drew w.heap.size 0 [Value.int .i64 x.kind, Value.int .u64 (x.num : Int), Value.string ⟨x.text.toArray⟩]) := (At.ofAlloc w #[Value.int .i64 x.kind, Value.int .u64 (x.num : Int), Value.string ⟨x.text.toArray⟩] 60).drewN 1
 have HBa : Hid (Bw g w (w.alloc (Obj.cells #[Value.int .i64 x.kind, Value.int .u64 (x.num : Int), Value.string ⟨x.text.toArray⟩] 60)).drew) := Bw.of (((Below.refl _ w).alloc (nle _) _).drew)
 rw [hk] at HTa HAa HBa
 have HGT : Hid (g < w.heap.size) := HT.out.lt
 obtain ⟨T, hT⟩ : ∃ T, w.heap.size = T := ⟨_, rfl⟩
 rw [hT] at HAa HGT
 try rw [hk]
 obtain ⟨wa, hwa⟩ : ∃ v, (w.alloc (Obj.cells #[Value.int .i64 4, Value.int .u64 (x.num : Int), Value.string ⟨x.text.toArray⟩] 60)).drew = v := ⟨_, rfl⟩
 rw [hwa] at HTa HAa HBa
 try rw [hwa]
 try rw [hT]
 clear hwa hT n0 n1 n2 k0 k1 f1 n0A n1A n2A k0A k1A
 have k1 := HTa.out.at0.cell 1 _ rfl
 have f1 := HTa.out.at0.froz 1 (Nat.le_of_ble_eq_true rfl)
 obtain ⟨i1, hi1⟩ : ∃ i1, i + 1 = i1 := ⟨_, rfl⟩
 have HI1 := hid hi1
 have e3 : (i : Int) + 1 = (i1 : Int) := by omega
 have e4 : IntKind.i64.wrap (i1 : Int) = (i1 : Int) := wrap_fit i1 (by unfold maxLen; omega)
 have RH := hid (fun w => rhead_any 4 x.num (by decide) hnum w)
 obtain ⟨xn, hxn⟩ : ∃ xn, x.num = xn := ⟨_, rfl⟩
 have g8 : IntKind.i64.wrap (x.num : Int) = (x.num : Int) := wrap_fit x.num (by have := HMN.out; unfold maxLen; omega)
 have g9 : (x.num : Int) * 1 = (m : Int) := by have := HMN.out; omega
 have g10 : IntKind.i64.wrap (m : Int) = (m : Int) := wrap_fit m (by unfold maxLen; omega)
 have hgT : ¬ g = T := by have := HGT.out; omega
 have HTb : Hid (Te (wa.setCell ⟨g, 1, none⟩ (.int .i64 (i1 : Int))) g (.slice (some ⟨k, o, none⟩) n cap) i1 false ou) := ⟨HTa.out.at0.set 1 _, by rw [set_size]; exact HTa.out.lt⟩
 have HAb : Hid (At (wa.setCell ⟨g, 1, none⟩ (.int .i64 (i1 : Int))) T 0 [Value.int .i64 4, Value.int .u64 (x.num : Int), Value.string ⟨x.text.toArray⟩]) := HAa.out.other g 1 _ (Or.inl hgT)
 have HBb : Hid (Bw g w (wa.setCell ⟨g, 1, none⟩ (.int .i64 (i1 : Int)))) := HBa.out.setG 1 _
 have b0 := HAb.out.z 0 _ rfl
 have b1 := HAb.out.cell 1 _ rfl
 have b2 := HAb.out.cell 2 _ rfl
 have HSZ : Hid ((⟨x.text.toArray⟩ : ByteArray).size ≤ 1000) := by show (⟨x.text.toArray⟩ : ByteArray).size ≤ _; rw [← tl_size, tl_mk]; exact htx
 have HGT2 : Hid (¬ g = T) := hgT
 clear hk hi1 hnum hgT htx hxn hmb
 go_upto_region 6 with fail
 obtain ⟨wb, hwb⟩ : ∃ v, wa.setCell ⟨g, 1, none⟩ (.int .i64 (i1 : Int)) = v := ⟨_, rfl⟩
 rw [hwb] at HTb HAb HBb
 try rw [hwb]
 clear hwb b0 b1 b2 k1 f1 HTa HAa HBa
 have HTS : Hid (T < wb.heap.size) := by have := HAb.out.lt (by simp); exact this
 have c0 := HAb.out.z 0 _ rfl
 have c2 := HAb.out.cell 2 _ rfl
 go_cut [5] from 41 (fun v wx => ∃ u : ByteArray, v = .string u ∧ u.toList = (hdN 4 x.num ++ x.text) ∧ Hid (At wx T 0 [Value.int .i64 4, Value.int .u64 (x.num : Int), Value.string ⟨x.text.toArray⟩]) ∧ Hid (Te wx g (.slice (some ⟨k, o, none⟩) n cap) i1 false ou) ∧ Hid (Bw g w wx))
 case first =>
  go_region_with ((go_at_call 48; refine (RH.out _).mono ?_; rintro e w3 ⟨u, rfl, hu, hb3⟩; have HU := hid hu; have hov : ¬ 9223372036854775807 < u.size + (⟨x.text.toArray⟩ : ByteArray).size := (by have h1 := HSZ.out; have h2 := widN_le x.num; have h3 : u.size = widN x.num + 1 := (by rw [← tl_size, hu, hdN_length]); omega); have HA3 : Hid (At w3 T 0 [Value.int .i64 4, Value.int .u64 (x.num : Int), Value.string ⟨x.text.toArray⟩]) := (by first | exact (HAb.out).below hb3 HTS.out | exact (HAb.out.drewN 1).below hb3 HTS.out | exact (HAb.out.drewN 2).below hb3 HTS.out | exact (HAb.out.drewN 3).below hb3 HTS.out | exact (HAb.out.drewN 4).below hb3 HTS.out | exact (HAb.out.drewN 5).below hb3 HTS.out); have HT3 : Hid (Te w3 g (.slice (some ⟨k, o, none⟩) n cap) i1 false ou) := (by first | exact ⟨(HTb.out.at0).below hb3 HTb.out.lt, nlt HTb.out.lt hb3.size⟩ | exact ⟨(HTb.out.at0.drewN 1).below hb3 HTb.out.lt, nlt HTb.out.lt hb3.size⟩ | exact ⟨(HTb.out.at0.drewN 2).below hb3 HTb.out.lt, nlt HTb.out.lt hb3.size⟩ | exact ⟨(HTb.out.at0.drewN 3).below hb3 HTb.out.lt, nlt HTb.out.lt hb3.size⟩ | exact ⟨(HTb.out.at0.drewN 4).below hb3 HTb.out.lt, nlt HTb.out.lt hb3.size⟩ | exact ⟨(HTb.out.at0.drewN 5).below hb3 HTb.out.lt, nlt HTb.out.lt hb3.size⟩); have HB3 : Hid (Bw g w w3) := (by first | exact HBb.out.trans (Bw.of hb3) | exact (HBb.out.trans (Bw.drewN _ _ _)).trans (Bw.of hb3)); have d2 := HA3.out.cell 2 _ rfl; have d0 := HA3.out.z 0 _ rfl; clear hu hb3))
  all_goals
   go_wp2_with fail
   go_meet
   case rel => exact ⟨_, rfl, by rw [tl_app, HU.out, tl_mk], (by first | exact HA3 | exact HA3.out.drewN _), (by first | exact HT3 | exact HT3.out.drewN _), (by first | exact HB3 | exact HB3.out.trans (Bw.drewN _ _ _))⟩
 case rest =>
  obtain ⟨u, rfl, hu, HA3, HT3, HB3⟩ := hcut
  have HU := hid hu
  have c0 := HA3.out.z 0 _ rfl
  have c1 := HA3.out.cell 1 _ rfl
  clear hu
  go_wp2_with fail
  go_loopw [5, 7, 8] (fun v5 v7 v8 wr => CR 4 g (.slice (some ⟨k, o, none⟩) n cap) i m T [Value.int .i64 4, Value.int .u64 (x.num : Int), Value.string ⟨x.text.toArray⟩] (hdN 4 x.num ++ x.text) K MK oK ou w v5 v7 v8 wr) (fun _ _ v8 _ => m - (intOf v8).toNat)
  case atStart =>
   have hE : ByteArray.empty.toList = [] := tl_mk []
   refine ⟨0, rfl, Nat.zero_le _, HA3, HB3, .inl ⟨[], MK, [], K, dK, true, oK, u, ByteArray.empty, rfl, rfl, rfl, HC.out.2.2.2.2.1, by simp, rfl, by rw [HU.out]; simp, ?_, rfl, fun _ => hE, ?_⟩⟩
   ·have h1 := HSZ.out
    rw [← tl_size, tl_mk] at h1
    have h2 := widN_le x.num
    simp only [List.flatten_nil, List.append_nil, lap, hdN_length]
    omega
   ·rw [show (ou || !(true && ordA 4 [])) = ou by cases ou <;> rfl, show i + 1 + ([] : List Am).length = i1 from HI1.out]
    exact HT3
  case round =>
   obtain ⟨j, rfl, hj, HA, HB, hN | hL⟩ := hrel
   ·obtain ⟨P, Q, K1, R1, d2, o1, o2, sb, sl, h⟩ := hN
    obtain ⟨hpl, hmk, hkk, hel, hok, rfl, hbb, hle, rfl, hss, HXR⟩ := h
    have hJw : T < wr.heap.size := HA.out.lt (by simp)
    have l2 := HXR.out.at0.z 2 _ rfl
    have HLw : Hid (Lg wr g k o l) := HC.out.2.2.2.2.2.2.2.bw HB.out HT.out.lt
    have hMN := HMN.out
    by_cases hin : j < m
    ·have e8 : (j : Int) < (m : Int) := by omega
     have hQ : ∃ x Q', Q = x :: Q' := by
      cases Q with
      | nil => exfalso; have h1 := HC.out.2.1; rw [hmk, List.append_nil] at h1; omega
      | cons x Q' => exact ⟨x, Q', rfl⟩
     obtain ⟨y, Q', rfl⟩ := hQ
     obtain ⟨Kc, Rc, d3, d4, o3, o4, hR, hc, hr, -, ho⟩ := hel.split 1 (by simp)
     rw [show (y :: Q').take 1 = [y] from rfl] at hc
     rw [show (y :: Q').drop 1 = Q' from rfl] at hr
     have hq : (A ++ up am :: K1.map up).length = i + 1 + K1.length := by rw [lap, lco, List.length_map, HC.out.1]; omega
     have hKl : K.length = K1.length + (Kc.length + Rc.length) := by rw [hkk, hR, lap, lap]
     have CH := HIH.out Kc (by omega) d3 y o3 hc (A ++ up am :: K1.map up) (Rc.map up ++ R) (by rw [HC.out.2.2.2.1, hkk, hR]; simp) wr g k o n cap _ (by rw [hq]; exact HXR.out) HLw.out HN.out.1
     rw [hq] at CH
     obtain ⟨q, hqq⟩ : ∃ q, i + 1 + K1.length = q := ⟨_, rfl⟩
     rw [hqq] at CH
     have CHH := hid CH
     have HS := hid (aIn hpl (aIn hmk (aIn hkk (aIn hok (aIn hbb (aIn hle (aIn hss (aIn hin (aIn hR (aIn hc (aIn hr (aIn ho (aIn hKl hqq)))))))))))))
     have HJW := hid hJw
     have hcpos : Hid (1 ≤ Kc.length) := hc.pos
     obtain ⟨j1, hj1⟩ : ∃ y, j + 1 = y := ⟨_, rfl⟩
     have e9 : (j : Int) + 1 = (j1 : Int) := by omega
     have ew : IntKind.i64.wrap (j1 : Int) = (j1 : Int) := wrap_fit j1 (by have := HN.out.2.2; unfold maxLen; omega)
     have HJ1 : Hid (j + 1 = j1 ∧ j1 ≤ m) := ⟨hj1, by omega⟩
     clear CH hel hpl hmk hkk hok hbb hle hss hR hc hr ho hKl hqq hq hJw hj1 hMN
     go_wp2_with fail
     refine CHH.out.mono ?_
     rintro e w5 h5
     obtain ⟨s, rfl, hs5, hxl, HX5, HB5⟩ | ⟨s, z, ou5, rfl, hbig, hsz, hz5, HX5, HB5⟩ := h5
     ·obtain ⟨q5, hq5⟩ : ∃ r, q + Kc.length = r := ⟨_, rfl⟩
      rw [hq5] at HX5
      have HQ5 := hid hq5
      clear hq5
      have A5 := atBw HA.out HB5.out HJW.out (fun e => HGT2.out e.symm)
      have d0 := A5.z 0 _ rfl
      have HA5 := hid A5
      clear A5
      have f2 := HX5.out.at0.froz 2 (by show 2 < 4; decide)
      have f3 := HX5.out.at0.froz 3 (by show 3 < 4; decide)
      have y2 := HX5.out.at0.z 2 _ rfl
      have y3 := HX5.out.at0.z 3 _ rfl
      rw [Nat.zero_add] at f2 f3
      obtain ⟨z1, hz1⟩ : ∃ z, sb.size = z := ⟨_, rfl⟩
      obtain ⟨z2, hz2⟩ : ∃ z, s.size = z := ⟨_, rfl⟩
      have hz1b : z1 ≤ 262144 := by rw [← hz1, ← tl_size, HS.out.2.2.2.2.1]; exact HS.out.2.2.2.2.2.1
      have hz2b : z2 ≤ 300000 := by rw [← hz2, ← tl_size, hs5]; exact hxl
      have ov : ¬ 9223372036854775807 < z1 + z2 := by omega
      have HS5 := hid (aIn hs5 (aIn hz1 (aIn hz2 (aIn hz1b hz2b))))
      clear hs5 hxl
      by_cases hbq : 262144 < z1 + z2
      ·have eb1 : (262144 : Int) < (z1 : Int) + (z2 : Int) := by omega
       have eb2 : decide ((262144 : Int) < (z1 : Int) + (z2 : Int)) = true := dtr eb1
       have NX : ∀ (wz : World) (ou' : Bool) (sl' : ByteArray), Te wz g (.slice (some ⟨k, o, none⟩) n cap) q5 true ou' → _ := fun wz ou' sl' hx => CL.next (sl := sl') (K := K) (s := s) (q5 := q5) HS.out.2.1 HS.out.2.2.2.2.1 (by rw [← HS.out.2.2.2.2.1, ← HS5.out.1, tl_size, tl_size, hz1, hz2]; exact hbq) (by rw [hz1]; exact hz1b) (by rw [hz2]; have := HS.out; have := hcpos.out; omega) (by have := HS.out; have := HQ5.out; have := HC.out; omega) hx
       have HNX := hid NX
       clear NX
       go_wp2_with fail
       go_roundw
       case rel => exact ⟨j1, rfl, HJ1.out.2, (HA5.out).other g 2 _ (.inl HGT2.out), ((HB.out.trans HB5.out)).setG 2 _, .inr (HNX.out _ _ _ ((HX5.out).set 2 true true _ rfl))⟩
       case measure => have h9 := HJ1.out; simp [intOf]; omega
      ·have eb1 : ¬ (262144 : Int) < (z1 : Int) + (z2 : Int) := by omega
       have eb2 : decide ((262144 : Int) < (z1 : Int) + (z2 : Int)) = false := dfa eb1
       have NX : ∀ (wz : World) (sl' : ByteArray), (4 = 5 → sl'.toList = lastK (P ++ [y])) → Te wz g (.slice (some ⟨k, o, none⟩) n cap) q5 false (ou || !((o1 && o3) && ordA 4 (P ++ [y]))) → _ := fun wz sl' hsl hx => CN.next (k := 4) (sl := sl') (j1 := j1) (q5 := q5) (p := i) HS.out.1 HS.out.2.1 HS.out.2.2.1 HS.out.2.2.2.1 HS.out.2.2.2.2.1 HS.out.2.2.2.2.2.2.2.2.1 HS.out.2.2.2.2.2.2.2.2.2.2.1 HS.out.2.2.2.2.2.2.2.2.2.2.2.1 HS5.out.1 HS.out.2.2.2.2.2.2.2.2.2.2.2.2.2 HQ5.out HJ1.out.1 (by rw [hz1, hz2]; omega) hsl hx
       have HNX := hid NX
       clear NX
       go_wp2_with fail
       go_roundw
       case rel => exact ⟨j1, rfl, HJ1.out.2, (HA5.out).other g 2 _ (.inl HGT2.out), ((HB.out.trans HB5.out)).setG 2 _, .inl (HNX.out _ _ (fun h => absurd h (by decide)) (by rw [ordA_no _ _ (by decide), ← flag_and, ← ordA_no 4 P (by decide)]; exact (HX5.out).set 2 false false _ rfl))⟩
       case measure => have h9 := HJ1.out; simp [intOf]; omega
     ·have HSB := hid (aIn hbig (aIn hsz hz5))
      have A5 := atBw HA.out HB5.out HJW.out (fun e => HGT2.out e.symm)
      have d0 := A5.z 0 _ rfl
      have HA5 := hid A5
      clear A5
      have f2 := HX5.out.at0.froz 2 (by show 2 < 4; decide)
      have f3 := HX5.out.at0.froz 3 (by show 3 < 4; decide)
      have y2 := HX5.out.at0.z 2 _ rfl
      have y3 := HX5.out.at0.z 3 _ rfl
      rw [Nat.zero_add] at f2 f3
      obtain ⟨z1, hz1⟩ : ∃ z, sb.size = z := ⟨_, rfl⟩
      obtain ⟨z2, hz2⟩ : ∃ z, s.size = z := ⟨_, rfl⟩
      have hz1b : z1 ≤ 262144 := by rw [← hz1, ← tl_size, HS.out.2.2.2.2.1]; exact HS.out.2.2.2.2.2.1
      have hz2b : z2 ≤ 300000 * Kc.length := by rw [← hz2]; exact hsz
      have ov : ¬ 9223372036854775807 < z1 + z2 := by have := HS.out; have := HC.out; omega
      have NX : ∀ (wz : World) (ou' : Bool) (sl' : ByteArray), Te wz g (.slice (some ⟨k, o, none⟩) n cap) z true ou' → _ := fun wz ou' sl' hx => CL.next (sl := sl') (K := K) (s := s) (q5 := z) HS.out.2.1 HS.out.2.2.2.2.1 (by have := HSB.out.1; omega) (by rw [hz1]; exact hz1b) (by rw [hz2]; have := HS.out; omega) HSB.out.2.2 hx
      have HNX := hid NX
      clear NX hbig hsz hz5 hz2b
      go_wp2_with fail
      go_roundw
      case rel => exact ⟨j1, rfl, HJ1.out.2, (HA5.out).other g 2 _ (.inl HGT2.out), ((HB.out.trans HB5.out)).setG 2 _, .inr (HNX.out _ _ _ ((HX5.out).set 2 true true _ rfl))⟩
      case measure => have h9 := HJ1.out; simp [intOf]; omega
    ·have e8 : ¬ (j : Int) < (m : Int) := by omega
     have hQ : Q = [] := by
      have h1 := HC.out.2.1
      rw [hmk, lap, hpl] at h1
      exact List.length_eq_zero_iff.1 (by omega)
     subst hQ
     obtain ⟨hR0, -, ho2⟩ := hel.none
     have hMP : P = MK := by rw [hmk, List.append_nil]
     have hoK : o1 = oK := by rw [hok, ho2, Bool.and_true]
     have hKK : K1 = K := by rw [hkk, hR0, List.append_nil]
     rw [hMP, hoK, hKK] at HXR
     rw [hMP] at hbb hle
     have HD : Hid (sb.toList = (hdN 4 x.num ++ x.text) ++ MK.flatten ∧ ((hdN 4 x.num ++ x.text) ++ MK.flatten).length ≤ 262144) := ⟨hbb, hle⟩
     clear hpl hmk hkk hel hok hbb hle hss hin hR0 ho2 hMP hoK hKK hj hJw hMN
     go_wp2_with fail
     go_ret
     try rw [← List.append_assoc]
     exact CTold.done HD.out.1 (Nat.le_trans HD.out.2 (by decide)) (q := i + 1 + K.length) (by rw [lco]; omega) HXR.out HB.out
   ·obtain ⟨sb, sl, z, ou', h⟩ := hL
    obtain ⟨hbig, rfl, hbs, rfl, hz, HXR⟩ := h
    have l2 := HXR.out.at0.z 2 _ rfl
    have HD : Hid (262144 < ((hdN 4 x.num ++ x.text) ++ MK.flatten).length ∧ sb.size ≤ 262144 + 300000 * K.length ∧ z ≤ 100000) := ⟨hbig, hbs, hz⟩
    clear hbig hbs hz
    have e8 : (j : Int) < (m : Int) ∨ ¬ (j : Int) < (m : Int) := Classical.em _
    rcases e8 with e8 | e8
    all_goals
     go_wp2_with fail
     go_ret
     try rw [← List.append_assoc]
     exact CTold.long (ou' := ou') HD.out.1 (by have := HD.out; rw [lco]; omega) HD.out.2.2 HXR.out HB.out
theorem told_node5 (l A R : List Ra) (K : List Am) (am : Am) (MK : List (List UInt8)) (dK : Nat) (oK : Bool) (hln : l.length ≤ 4096) (IH : ∀ T : List Am, T.length ≤ K.length → CToldOk l T) (hK : Its dK K MK oK) (hl : l = A ++ (am :: K).map up ++ R) (hka : am.kind = 5) (hm : MK.length = need am) (htx0 : am.text.length ≤ 1000) (hnum0 : am.num < 18446744073709551616)
  (w : World) (g k o n cap : Nat) (ou : Bool) (hT : Te w g (.slice (some ⟨k, o, none⟩) n cap) A.length false ou) (hL : Lg w g k o l) (hn : l.length = n) :
  Calls Tryz.prog 94 #[.pointer (some ⟨g, 0, none⟩)] w (CTold g (.slice (some ⟨k, o, none⟩) n cap) (am :: K) ((hdN 5 am.num ++ am.text) ++ MK.flatten) (oK && ordA 5 MK) A.length ou w) := by
 obtain ⟨i, hi0⟩ : ∃ i, A.length = i := ⟨_, rfl⟩
 have hi : i < l.length := by rw [hl, lap, lap, List.length_map, lco]; omega
 have hx : l.getD i ra0 = up am := by rw [hl, ← hi0]; simp [List.getD]
 have hkl : i + 1 + K.length ≤ 4096 := by have h1 := hln; rw [hl, lap, lap, List.length_map, lco] at h1; omega
 have hlens := hK.lens
 obtain ⟨x, hxx⟩ : ∃ x, up am = x := ⟨_, rfl⟩
 have hk : x.kind = 5 := by rw [← hxx]; show (am.kind : Int) = _; rw [hka]; rfl
 have hxn : am.num = x.num := by rw [← hxx]; rfl
 have hxt : am.text = x.text := by rw [← hxx]; rfl
 have hnum : x.num < 18446744073709551616 := by rw [← hxn]; exact hnum0
 have htx : x.text.length ≤ 1000 := by rw [← hxt]; exact htx0
 rw [hxn, hxt]
 rw [need, hxn, hka] at hm
 rw [hi0] at hT ⊢
 rw [hxx] at hx
 obtain ⟨m, hmm⟩ : ∃ m, MK.length = m := ⟨_, rfl⟩
 have hmb : m ≤ 4096 := by omega
 have hmn : x.num * 2 = m := by rw [← hmm, hm]; simp; omega
 have HC := hid (aIn hi0 (aIn hmm (aIn hkl (aIn hl (aIn hK (aIn hlens (aIn hln hL)))))))
 have HIH := hid IH
 have HT := hid hT
 have HN := hid (aIn hn (aIn hi hmb))
 have hX := rcell_atO hL.at0 i hi
 rw [hx] at hX
 have n0 := hX.cell 0 _ rfl
 have n1 := hX.cell 1 _ rfl
 have n2 := hX.cell 2 _ rfl
 rw [Nat.add_zero] at n0
 have k0 := hT.at0.z 0 _ rfl
 have k1 := hT.at0.cell 1 _ rfl
 have f1 := hT.at0.froz 1 (Nat.le_of_ble_eq_true rfl)
 have n0A : ∀ ob, (w.alloc ob).cell? ⟨k, o + i * 3, none⟩ = some (.int .i64 x.kind) := fun ob => by have h := (hX.alloc ob).cell 0 _ rfl; rw [Nat.add_zero] at h; exact h
 have n1A : ∀ ob, (w.alloc ob).cell? ⟨k, o + i * 3 + 1, none⟩ = some (.int .u64 (x.num : Int)) := fun ob => (hX.alloc ob).cell 1 _ rfl
 have n2A : ∀ ob, (w.alloc ob).cell? ⟨k, o + i * 3 + 2, none⟩ = some (.string ⟨x.text.toArray⟩) := fun ob => (hX.alloc ob).cell 2 _ rfl
 have k0A : ∀ ob, (w.alloc ob).cell? ⟨g, 0, none⟩ = some (.slice (some ⟨k, o, none⟩) n cap) := fun ob => by have h := (hT.at0.alloc ob).z 0 _ rfl; exact h
 have k1A : ∀ ob, (w.alloc ob).cell? ⟨g, 1, none⟩ = some (.int .i64 (i : Int)) := fun ob => (hT.at0.alloc ob).cell 1 _ rfl
 have e1 : (i : Int) < (n : Int) := by omega
 have e2 : (i : Int) ≤ 4096 := by omega
 have HMN := hid hmn
 clear hmn hT hL hX hn hi hl hx hln hkl hi0 hlens hmm hm hnum0 htx0 hxn hxt hka hxx IH hK
 go_enter Tryz.func94, Tryz.ntmps94
 go_wp2_with fail
 go_region
 have HTa : Hid (Te (w.alloc (Obj.cells #[Value.int .i64 x.kind, Value.int .u64 (x.num : Int), Value.string ⟨x.text.toArray⟩] 60)).drew g (.slice (some ⟨k, o, none⟩) n cap) i false ou) := ⟨(HT.out.at0.alloc _).drewN 1, by have := HT.out.lt; simp; omega⟩
 have HAa : Hid (At (w.alloc (Obj.cells #[Value.int .i64 x.kind, Value.int .u64 (x.num : Int), Value.string ⟨x.text.toArray⟩] 60)).drew w.heap.size 0 [Value.int .i64 x.kind, Value.int .u64 (x.num : Int), Value.string ⟨x.text.toArray⟩]) := (At.ofAlloc w #[Value.int .i64 x.kind, Value.int .u64 (x.num : Int), Value.string ⟨x.text.toArray⟩] 60).drewN 1
 have HBa : Hid (Bw g w (w.alloc (Obj.cells #[Value.int .i64 x.kind, Value.int .u64 (x.num : Int), Value.string ⟨x.text.toArray⟩] 60)).drew) := Bw.of (((Below.refl _ w).alloc (nle _) _).drew)
 rw [hk] at HTa HAa HBa
 have HGT : Hid (g < w.heap.size) := HT.out.lt
 obtain ⟨T, hT⟩ : ∃ T, w.heap.size = T := ⟨_, rfl⟩
 rw [hT] at HAa HGT
 try rw [hk]
 obtain ⟨wa, hwa⟩ : ∃ v, (w.alloc (Obj.cells #[Value.int .i64 5, Value.int .u64 (x.num : Int), Value.string ⟨x.text.toArray⟩] 60)).drew = v := ⟨_, rfl⟩
 rw [hwa] at HTa HAa HBa
 try rw [hwa]
 try rw [hT]
 clear hwa hT n0 n1 n2 k0 k1 f1 n0A n1A n2A k0A k1A
 have k1 := HTa.out.at0.cell 1 _ rfl
 have f1 := HTa.out.at0.froz 1 (Nat.le_of_ble_eq_true rfl)
 obtain ⟨i1, hi1⟩ : ∃ i1, i + 1 = i1 := ⟨_, rfl⟩
 have HI1 := hid hi1
 have e3 : (i : Int) + 1 = (i1 : Int) := by omega
 have e4 : IntKind.i64.wrap (i1 : Int) = (i1 : Int) := wrap_fit i1 (by unfold maxLen; omega)
 have RH := hid (fun w => rhead_any 5 x.num (by decide) hnum w)
 obtain ⟨xn, hxn⟩ : ∃ xn, x.num = xn := ⟨_, rfl⟩
 have g8 : IntKind.i64.wrap (x.num : Int) = (x.num : Int) := wrap_fit x.num (by have := HMN.out; unfold maxLen; omega)
 have g9 : (x.num : Int) * 2 = (m : Int) := by have := HMN.out; omega
 have g10 : IntKind.i64.wrap (m : Int) = (m : Int) := wrap_fit m (by unfold maxLen; omega)
 have hgT : ¬ g = T := by have := HGT.out; omega
 have HTb : Hid (Te (wa.setCell ⟨g, 1, none⟩ (.int .i64 (i1 : Int))) g (.slice (some ⟨k, o, none⟩) n cap) i1 false ou) := ⟨HTa.out.at0.set 1 _, by rw [set_size]; exact HTa.out.lt⟩
 have HAb : Hid (At (wa.setCell ⟨g, 1, none⟩ (.int .i64 (i1 : Int))) T 0 [Value.int .i64 5, Value.int .u64 (x.num : Int), Value.string ⟨x.text.toArray⟩]) := HAa.out.other g 1 _ (Or.inl hgT)
 have HBb : Hid (Bw g w (wa.setCell ⟨g, 1, none⟩ (.int .i64 (i1 : Int)))) := HBa.out.setG 1 _
 have b0 := HAb.out.z 0 _ rfl
 have b1 := HAb.out.cell 1 _ rfl
 have b2 := HAb.out.cell 2 _ rfl
 have HSZ : Hid ((⟨x.text.toArray⟩ : ByteArray).size ≤ 1000) := by show (⟨x.text.toArray⟩ : ByteArray).size ≤ _; rw [← tl_size, tl_mk]; exact htx
 have HGT2 : Hid (¬ g = T) := hgT
 clear hk hi1 hnum hgT htx hxn hmb
 go_upto_region 6 with fail
 obtain ⟨wb, hwb⟩ : ∃ v, wa.setCell ⟨g, 1, none⟩ (.int .i64 (i1 : Int)) = v := ⟨_, rfl⟩
 rw [hwb] at HTb HAb HBb
 try rw [hwb]
 clear hwb b0 b1 b2 k1 f1 HTa HAa HBa
 have HTS : Hid (T < wb.heap.size) := by have := HAb.out.lt (by simp); exact this
 have c0 := HAb.out.z 0 _ rfl
 have c2 := HAb.out.cell 2 _ rfl
 go_cut [5] from 41 (fun v wx => ∃ u : ByteArray, v = .string u ∧ u.toList = (hdN 5 x.num ++ x.text) ∧ Hid (At wx T 0 [Value.int .i64 5, Value.int .u64 (x.num : Int), Value.string ⟨x.text.toArray⟩]) ∧ Hid (Te wx g (.slice (some ⟨k, o, none⟩) n cap) i1 false ou) ∧ Hid (Bw g w wx))
 case first =>
  go_region_with ((go_at_call 48; refine (RH.out _).mono ?_; rintro e w3 ⟨u, rfl, hu, hb3⟩; have HU := hid hu; have hov : ¬ 9223372036854775807 < u.size + (⟨x.text.toArray⟩ : ByteArray).size := (by have h1 := HSZ.out; have h2 := widN_le x.num; have h3 : u.size = widN x.num + 1 := (by rw [← tl_size, hu, hdN_length]); omega); have HA3 : Hid (At w3 T 0 [Value.int .i64 5, Value.int .u64 (x.num : Int), Value.string ⟨x.text.toArray⟩]) := (by first | exact (HAb.out).below hb3 HTS.out | exact (HAb.out.drewN 1).below hb3 HTS.out | exact (HAb.out.drewN 2).below hb3 HTS.out | exact (HAb.out.drewN 3).below hb3 HTS.out | exact (HAb.out.drewN 4).below hb3 HTS.out | exact (HAb.out.drewN 5).below hb3 HTS.out); have HT3 : Hid (Te w3 g (.slice (some ⟨k, o, none⟩) n cap) i1 false ou) := (by first | exact ⟨(HTb.out.at0).below hb3 HTb.out.lt, nlt HTb.out.lt hb3.size⟩ | exact ⟨(HTb.out.at0.drewN 1).below hb3 HTb.out.lt, nlt HTb.out.lt hb3.size⟩ | exact ⟨(HTb.out.at0.drewN 2).below hb3 HTb.out.lt, nlt HTb.out.lt hb3.size⟩ | exact ⟨(HTb.out.at0.drewN 3).below hb3 HTb.out.lt, nlt HTb.out.lt hb3.size⟩ | exact ⟨(HTb.out.at0.drewN 4).below hb3 HTb.out.lt, nlt HTb.out.lt hb3.size⟩ | exact ⟨(HTb.out.at0.drewN 5).below hb3 HTb.out.lt, nlt HTb.out.lt hb3.size⟩); have HB3 : Hid (Bw g w w3) := (by first | exact HBb.out.trans (Bw.of hb3) | exact (HBb.out.trans (Bw.drewN _ _ _)).trans (Bw.of hb3)); have d2 := HA3.out.cell 2 _ rfl; have d0 := HA3.out.z 0 _ rfl; clear hu hb3))
  all_goals
   go_wp2_with fail
   go_meet
   case rel => exact ⟨_, rfl, by rw [tl_app, HU.out, tl_mk], (by first | exact HA3 | exact HA3.out.drewN _), (by first | exact HT3 | exact HT3.out.drewN _), (by first | exact HB3 | exact HB3.out.trans (Bw.drewN _ _ _))⟩
 case rest =>
  obtain ⟨u, rfl, hu, HA3, HT3, HB3⟩ := hcut
  have HU := hid hu
  have c0 := HA3.out.z 0 _ rfl
  have c1 := HA3.out.cell 1 _ rfl
  clear hu
  go_wp2_with fail
  go_loopw [5, 7, 8] (fun v5 v7 v8 wr => CR 5 g (.slice (some ⟨k, o, none⟩) n cap) i m T [Value.int .i64 5, Value.int .u64 (x.num : Int), Value.string ⟨x.text.toArray⟩] (hdN 5 x.num ++ x.text) K MK oK ou w v5 v7 v8 wr) (fun _ _ v8 _ => m - (intOf v8).toNat)
  case atStart =>
   have hE : ByteArray.empty.toList = [] := tl_mk []
   refine ⟨0, rfl, Nat.zero_le _, HA3, HB3, .inl ⟨[], MK, [], K, dK, true, oK, u, ByteArray.empty, rfl, rfl, rfl, HC.out.2.2.2.2.1, by simp, rfl, by rw [HU.out]; simp, ?_, rfl, fun _ => hE, ?_⟩⟩
   ·have h1 := HSZ.out
    rw [← tl_size, tl_mk] at h1
    have h2 := widN_le x.num
    simp only [List.flatten_nil, List.append_nil, lap, hdN_length]
    omega
   ·rw [show (ou || !(true && ordA 5 [])) = ou by cases ou <;> rfl, show i + 1 + ([] : List Am).length = i1 from HI1.out]
    exact HT3
  case round =>
   obtain ⟨j, rfl, hj, HA, HB, hN | hL⟩ := hrel
   ·obtain ⟨P, Q, K1, R1, d2, o1, o2, sb, sl, h⟩ := hN
    obtain ⟨hpl, hmk, hkk, hel, hok, rfl, hbb, hle, rfl, hss, HXR⟩ := h
    have hJw : T < wr.heap.size := HA.out.lt (by simp)
    have l2 := HXR.out.at0.z 2 _ rfl
    have HLw : Hid (Lg wr g k o l) := HC.out.2.2.2.2.2.2.2.bw HB.out HT.out.lt
    have hMN := HMN.out
    by_cases hin : j < m
    ·have e8 : (j : Int) < (m : Int) := by omega
     have hQ : ∃ x Q', Q = x :: Q' := by
      cases Q with
      | nil => exfalso; have h1 := HC.out.2.1; rw [hmk, List.append_nil] at h1; omega
      | cons x Q' => exact ⟨x, Q', rfl⟩
     obtain ⟨y, Q', rfl⟩ := hQ
     obtain ⟨Kc, Rc, d3, d4, o3, o4, hR, hc, hr, -, ho⟩ := hel.split 1 (by simp)
     rw [show (y :: Q').take 1 = [y] from rfl] at hc
     rw [show (y :: Q').drop 1 = Q' from rfl] at hr
     have hq : (A ++ up am :: K1.map up).length = i + 1 + K1.length := by rw [lap, lco, List.length_map, HC.out.1]; omega
     have hKl : K.length = K1.length + (Kc.length + Rc.length) := by rw [hkk, hR, lap, lap]
     have CH := HIH.out Kc (by omega) d3 y o3 hc (A ++ up am :: K1.map up) (Rc.map up ++ R) (by rw [HC.out.2.2.2.1, hkk, hR]; simp) wr g k o n cap _ (by rw [hq]; exact HXR.out) HLw.out HN.out.1
     rw [hq] at CH
     obtain ⟨q, hqq⟩ : ∃ q, i + 1 + K1.length = q := ⟨_, rfl⟩
     rw [hqq] at CH
     have CHH := hid CH
     have HS := hid (aIn hpl (aIn hmk (aIn hkk (aIn hok (aIn hbb (aIn hle (aIn hss (aIn hin (aIn hR (aIn hc (aIn hr (aIn ho (aIn hKl hqq)))))))))))))
     have HJW := hid hJw
     have hcpos : Hid (1 ≤ Kc.length) := hc.pos
     obtain ⟨j1, hj1⟩ : ∃ y, j + 1 = y := ⟨_, rfl⟩
     have e9 : (j : Int) + 1 = (j1 : Int) := by omega
     have ew : IntKind.i64.wrap (j1 : Int) = (j1 : Int) := wrap_fit j1 (by have := HN.out.2.2; unfold maxLen; omega)
     have HJ1 : Hid (j + 1 = j1 ∧ j1 ≤ m) := ⟨hj1, by omega⟩
     clear CH hel hpl hmk hkk hok hbb hle hss hR hc hr ho hKl hqq hq hJw hj1 hMN
     go_wp2_with fail
     refine CHH.out.mono ?_
     rintro e w5 h5
     obtain ⟨s, rfl, hs5, hxl, HX5, HB5⟩ | ⟨s, z, ou5, rfl, hbig, hsz, hz5, HX5, HB5⟩ := h5
     ·obtain ⟨q5, hq5⟩ : ∃ r, q + Kc.length = r := ⟨_, rfl⟩
      rw [hq5] at HX5
      have HQ5 := hid hq5
      clear hq5
      have A5 := atBw HA.out HB5.out HJW.out (fun e => HGT2.out e.symm)
      have d0 := A5.z 0 _ rfl
      have HA5 := hid A5
      clear A5
      have f2 := HX5.out.at0.froz 2 (by show 2 < 4; decide)
      have f3 := HX5.out.at0.froz 3 (by show 3 < 4; decide)
      have y2 := HX5.out.at0.z 2 _ rfl
      have y3 := HX5.out.at0.z 3 _ rfl
      rw [Nat.zero_add] at f2 f3
      obtain ⟨z1, hz1⟩ : ∃ z, sb.size = z := ⟨_, rfl⟩
      obtain ⟨z2, hz2⟩ : ∃ z, s.size = z := ⟨_, rfl⟩
      have hz1b : z1 ≤ 262144 := by rw [← hz1, ← tl_size, HS.out.2.2.2.2.1]; exact HS.out.2.2.2.2.2.1
      have hz2b : z2 ≤ 300000 := by rw [← hz2, ← tl_size, hs5]; exact hxl
      have ov : ¬ 9223372036854775807 < z1 + z2 := by omega
      have HS5 := hid (aIn hs5 (aIn hz1 (aIn hz2 (aIn hz1b hz2b))))
      clear hs5 hxl
      by_cases hbq : 262144 < z1 + z2
      ·have eb1 : (262144 : Int) < (z1 : Int) + (z2 : Int) := by omega
       have eb2 : decide ((262144 : Int) < (z1 : Int) + (z2 : Int)) = true := dtr eb1
       have NX : ∀ (wz : World) (ou' : Bool) (sl' : ByteArray), Te wz g (.slice (some ⟨k, o, none⟩) n cap) q5 true ou' → _ := fun wz ou' sl' hx => CL.next (sl := sl') (K := K) (s := s) (q5 := q5) HS.out.2.1 HS.out.2.2.2.2.1 (by rw [← HS.out.2.2.2.2.1, ← HS5.out.1, tl_size, tl_size, hz1, hz2]; exact hbq) (by rw [hz1]; exact hz1b) (by rw [hz2]; have := HS.out; have := hcpos.out; omega) (by have := HS.out; have := HQ5.out; have := HC.out; omega) hx
       have HNX := hid NX
       clear NX
       obtain hj2 | hj2 : j % 2 = 0 ∨ j % 2 = 1 := by omega
       ·have ep : ((j % 2 : Nat) : Int) = 0 := by omega
        by_cases h0 : 0 < j
        ·have e0 : (0 : Int) < (j : Int) := by omega
         obtain ⟨lb, hlb⟩ : ∃ b, Op.bytesLess sl.toList s.toList = b := ⟨_, rfl⟩
         have hcmp : (Op.bytesLess s.toList sl.toList || s.toList == sl.toList) = !lb := by
          rw [← hlb, ← bl_swap2 s.toList sl.toList]
          cases Op.bytesLess s.toList sl.toList <;> cases (s.toList == sl.toList) <;> rfl
         have HJ2 := hid (aIn hj2 h0)
         clear hj2 h0 hlb
         cases lb with
         | true =>
          have hcmp : (Op.bytesLess s.toList sl.toList || s.toList == sl.toList) = false := hcmp
          go_wp2_with fail
          go_roundw
          case rel => exact ⟨j1, rfl, HJ1.out.2, (HA5.out).other g 2 _ (.inl HGT2.out), ((HB.out.trans HB5.out)).setG 2 _, .inr (HNX.out _ _ _ ((HX5.out).set 2 true true _ rfl))⟩
          case measure => have h9 := HJ1.out; simp [intOf]; omega
         | false =>
          have hcmp : (Op.bytesLess s.toList sl.toList || s.toList == sl.toList) = true := hcmp
          go_wp2_with fail
          go_roundw
          case rel => exact ⟨j1, rfl, HJ1.out.2, ((HA5.out).other g 3 _ (.inl HGT2.out)).other g 2 _ (.inl HGT2.out), (((HB.out.trans HB5.out)).setG 3 _).setG 2 _, .inr (HNX.out _ _ _ (((HX5.out).set 3 true false true rfl).set 2 true true true rfl))⟩
          case measure => have h9 := HJ1.out; simp [intOf]; omega
        ·have e0 : ¬ (0 : Int) < (j : Int) := by omega
         have e0b : decide ((0 : Int) < (j : Int)) = false := dfa e0
         have HJ2 := hid (aIn hj2 h0)
         clear hj2 h0
         go_wp2_with fail
         go_roundw
         case rel => exact ⟨j1, rfl, HJ1.out.2, (HA5.out).other g 2 _ (.inl HGT2.out), ((HB.out.trans HB5.out)).setG 2 _, .inr (HNX.out _ _ _ ((HX5.out).set 2 true true _ rfl))⟩
         case measure => have h9 := HJ1.out; simp [intOf]; omega
       ·have ep : ((j % 2 : Nat) : Int) = 1 := by omega
        have HJ2 := hid hj2
        clear hj2
        go_wp2_with fail
        go_roundw
        case rel => exact ⟨j1, rfl, HJ1.out.2, (HA5.out).other g 2 _ (.inl HGT2.out), ((HB.out.trans HB5.out)).setG 2 _, .inr (HNX.out _ _ _ ((HX5.out).set 2 true true _ rfl))⟩
        case measure => have h9 := HJ1.out; simp [intOf]; omega
      ·have eb1 : ¬ (262144 : Int) < (z1 : Int) + (z2 : Int) := by omega
       have eb2 : decide ((262144 : Int) < (z1 : Int) + (z2 : Int)) = false := dfa eb1
       have NX : ∀ (wz : World) (sl' : ByteArray), (5 = 5 → sl'.toList = lastK (P ++ [y])) → Te wz g (.slice (some ⟨k, o, none⟩) n cap) q5 false (ou || !((o1 && o3) && ordA 5 (P ++ [y]))) → _ := fun wz sl' hsl hx => CN.next (k := 5) (sl := sl') (j1 := j1) (q5 := q5) (p := i) HS.out.1 HS.out.2.1 HS.out.2.2.1 HS.out.2.2.2.1 HS.out.2.2.2.2.1 HS.out.2.2.2.2.2.2.2.2.1 HS.out.2.2.2.2.2.2.2.2.2.2.1 HS.out.2.2.2.2.2.2.2.2.2.2.2.1 HS5.out.1 HS.out.2.2.2.2.2.2.2.2.2.2.2.2.2 HQ5.out HJ1.out.1 (by rw [hz1, hz2]; omega) hsl hx
       have HNX := hid NX
       clear NX
       obtain hj2 | hj2 : j % 2 = 0 ∨ j % 2 = 1 := by omega
       ·have ep : ((j % 2 : Nat) : Int) = 0 := by omega
        by_cases h0 : 0 < j
        ·have e0 : (0 : Int) < (j : Int) := by omega
         obtain ⟨lb, hlb⟩ : ∃ b, Op.bytesLess sl.toList s.toList = b := ⟨_, rfl⟩
         have hcmp : (Op.bytesLess s.toList sl.toList || s.toList == sl.toList) = !lb := by
          rw [← hlb, ← bl_swap2 s.toList sl.toList]
          cases Op.bytesLess s.toList sl.toList <;> cases (s.toList == sl.toList) <;> rfl
         have HLB : Hid (Op.bytesLess (lastK P) y = lb) := by show _ = _; rw [← hlb, HS.out.2.2.2.2.2.2.1 (by trivial), HS5.out.1]
         have HOK : Hid (ordA 5 (P ++ [y]) = (ordA 5 P && Op.bytesLess (lastK P) y)) := ordA_key P y (by rw [HS.out.1]; exact hj2) (by rw [HS.out.1]; exact h0)
         have HJ2 := hid (aIn hj2 h0)
         clear hj2 h0 hlb
         cases lb with
         | true =>
          have hcmp : (Op.bytesLess s.toList sl.toList || s.toList == sl.toList) = false := hcmp
          go_wp2_with fail
          go_roundw
          case rel => exact ⟨j1, rfl, HJ1.out.2, (HA5.out).other g 2 _ (.inl HGT2.out), ((HB.out.trans HB5.out)).setG 2 _, .inl (HNX.out _ _ (fun _ => by rw [lastK_key _ _ (by rw [HS.out.1]; exact HJ2.out.1)]; exact HS5.out.1) (by rw [HOK.out, HLB.out, ← flag_yes]; exact (HX5.out).set 2 false false _ rfl))⟩
          case measure => have h9 := HJ1.out; simp [intOf]; omega
         | false =>
          have hcmp : (Op.bytesLess s.toList sl.toList || s.toList == sl.toList) = true := hcmp
          go_wp2_with fail
          go_roundw
          case rel => exact ⟨j1, rfl, HJ1.out.2, ((HA5.out).other g 3 _ (.inl HGT2.out)).other g 2 _ (.inl HGT2.out), (((HB.out.trans HB5.out)).setG 3 _).setG 2 _, .inl (HNX.out _ _ (fun _ => by rw [lastK_key _ _ (by rw [HS.out.1]; exact HJ2.out.1)]; exact HS5.out.1) (by rw [HOK.out, HLB.out, ← flag_no]; exact ((HX5.out).set 3 true false true rfl).set 2 false false true rfl))⟩
          case measure => have h9 := HJ1.out; simp [intOf]; omega
        ·have e0 : ¬ (0 : Int) < (j : Int) := by omega
         have e0b : decide ((0 : Int) < (j : Int)) = false := dfa e0
         have HJ2 := hid (aIn hj2 h0)
         clear hj2 h0
         have HP0 : Hid (ordA 5 (P ++ [y]) = ordA 5 P) := by
          have h1 : P = [] := List.length_eq_zero_iff.1 (by have := HS.out.1; have := HJ2.out.2; omega)
          rw [h1]
          exact rfl
         go_wp2_with fail
         go_roundw
         case rel => exact ⟨j1, rfl, HJ1.out.2, (HA5.out).other g 2 _ (.inl HGT2.out), ((HB.out.trans HB5.out)).setG 2 _, .inl (HNX.out _ _ (fun _ => by rw [lastK_key _ _ (by rw [HS.out.1]; exact HJ2.out.1)]; exact HS5.out.1) (by rw [HP0.out, ← flag_and]; exact (HX5.out).set 2 false false _ rfl))⟩
         case measure => have h9 := HJ1.out; simp [intOf]; omega
       ·have ep : ((j % 2 : Nat) : Int) = 1 := by omega
        have HJ2 := hid hj2
        clear hj2
        go_wp2_with fail
        go_roundw
        case rel => exact ⟨j1, rfl, HJ1.out.2, (HA5.out).other g 2 _ (.inl HGT2.out), ((HB.out.trans HB5.out)).setG 2 _, .inl (HNX.out _ _ (fun h => by rw [lastK_value _ _ (by rw [HS.out.1]; exact HJ2.out)]; exact HS.out.2.2.2.2.2.2.1 (by trivial)) (by rw [ordA_value _ _ (by rw [HS.out.1]; exact HJ2.out), ← flag_and]; exact (HX5.out).set 2 false false _ rfl))⟩
        case measure => have h9 := HJ1.out; simp [intOf]; omega
     ·have HSB := hid (aIn hbig (aIn hsz hz5))
      have A5 := atBw HA.out HB5.out HJW.out (fun e => HGT2.out e.symm)
      have d0 := A5.z 0 _ rfl
      have HA5 := hid A5
      clear A5
      have f2 := HX5.out.at0.froz 2 (by show 2 < 4; decide)
      have f3 := HX5.out.at0.froz 3 (by show 3 < 4; decide)
      have y2 := HX5.out.at0.z 2 _ rfl
      have y3 := HX5.out.at0.z 3 _ rfl
      rw [Nat.zero_add] at f2 f3
      obtain ⟨z1, hz1⟩ : ∃ z, sb.size = z := ⟨_, rfl⟩
      obtain ⟨z2, hz2⟩ : ∃ z, s.size = z := ⟨_, rfl⟩
      have hz1b : z1 ≤ 262144 := by rw [← hz1, ← tl_size, HS.out.2.2.2.2.1]; exact HS.out.2.2.2.2.2.1
      have hz2b : z2 ≤ 300000 * Kc.length := by rw [← hz2]; exact hsz
      have ov : ¬ 9223372036854775807 < z1 + z2 := by have := HS.out; have := HC.out; omega
      have NX : ∀ (wz : World) (ou' : Bool) (sl' : ByteArray), Te wz g (.slice (some ⟨k, o, none⟩) n cap) z true ou' → _ := fun wz ou' sl' hx => CL.next (sl := sl') (K := K) (s := s) (q5 := z) HS.out.2.1 HS.out.2.2.2.2.1 (by have := HSB.out.1; omega) (by rw [hz1]; exact hz1b) (by rw [hz2]; have := HS.out; omega) HSB.out.2.2 hx
      have HNX := hid NX
      clear NX hbig hsz hz5 hz2b
      obtain hj2 | hj2 : j % 2 = 0 ∨ j % 2 = 1 := by omega
      ·have ep : ((j % 2 : Nat) : Int) = 0 := by omega
       by_cases h0 : 0 < j
       ·have e0 : (0 : Int) < (j : Int) := by omega
        obtain ⟨lb, hlb⟩ : ∃ b, Op.bytesLess sl.toList s.toList = b := ⟨_, rfl⟩
        have hcmp : (Op.bytesLess s.toList sl.toList || s.toList == sl.toList) = !lb := by
         rw [← hlb, ← bl_swap2 s.toList sl.toList]
         cases Op.bytesLess s.toList sl.toList <;> cases (s.toList == sl.toList) <;> rfl
        have HJ2 := hid (aIn hj2 h0)
        clear hj2 h0 hlb
        cases lb with
        | true =>
         have hcmp : (Op.bytesLess s.toList sl.toList || s.toList == sl.toList) = false := hcmp
         go_wp2_with fail
         go_roundw
         case rel => exact ⟨j1, rfl, HJ1.out.2, (HA5.out).other g 2 _ (.inl HGT2.out), ((HB.out.trans HB5.out)).setG 2 _, .inr (HNX.out _ _ _ ((HX5.out).set 2 true true _ rfl))⟩
         case measure => have h9 := HJ1.out; simp [intOf]; omega
        | false =>
         have hcmp : (Op.bytesLess s.toList sl.toList || s.toList == sl.toList) = true := hcmp
         go_wp2_with fail
         go_roundw
         case rel => exact ⟨j1, rfl, HJ1.out.2, ((HA5.out).other g 3 _ (.inl HGT2.out)).other g 2 _ (.inl HGT2.out), (((HB.out.trans HB5.out)).setG 3 _).setG 2 _, .inr (HNX.out _ _ _ (((HX5.out).set 3 true true true rfl).set 2 true true true rfl))⟩
         case measure => have h9 := HJ1.out; simp [intOf]; omega
       ·have e0 : ¬ (0 : Int) < (j : Int) := by omega
        have e0b : decide ((0 : Int) < (j : Int)) = false := dfa e0
        have HJ2 := hid (aIn hj2 h0)
        clear hj2 h0
        go_wp2_with fail
        go_roundw
        case rel => exact ⟨j1, rfl, HJ1.out.2, (HA5.out).other g 2 _ (.inl HGT2.out), ((HB.out.trans HB5.out)).setG 2 _, .inr (HNX.out _ _ _ ((HX5.out).set 2 true true _ rfl))⟩
        case measure => have h9 := HJ1.out; simp [intOf]; omega
      ·have ep : ((j % 2 : Nat) : Int) = 1 := by omega
       have HJ2 := hid hj2
       clear hj2
       go_wp2_with fail
       go_roundw
       case rel => exact ⟨j1, rfl, HJ1.out.2, (HA5.out).other g 2 _ (.inl HGT2.out), ((HB.out.trans HB5.out)).setG 2 _, .inr (HNX.out _ _ _ ((HX5.out).set 2 true true _ rfl))⟩
       case measure => have h9 := HJ1.out; simp [intOf]; omega
    ·have e8 : ¬ (j : Int) < (m : Int) := by omega
     have hQ : Q = [] := by
      have h1 := HC.out.2.1
      rw [hmk, lap, hpl] at h1
      exact List.length_eq_zero_iff.1 (by omega)
     subst hQ
     obtain ⟨hR0, -, ho2⟩ := hel.none
     have hMP : P = MK := by rw [hmk, List.append_nil]
     have hoK : o1 = oK := by rw [hok, ho2, Bool.and_true]
     have hKK : K1 = K := by rw [hkk, hR0, List.append_nil]
     rw [hMP, hoK, hKK] at HXR
     rw [hMP] at hbb hle
     have HD : Hid (sb.toList = (hdN 5 x.num ++ x.text) ++ MK.flatten ∧ ((hdN 5 x.num ++ x.text) ++ MK.flatten).length ≤ 262144) := ⟨hbb, hle⟩
     clear hpl hmk hkk hel hok hbb hle hss hin hR0 ho2 hMP hoK hKK hj hJw hMN
     go_wp2_with fail
     go_ret
     try rw [← List.append_assoc]
     exact CTold.done HD.out.1 (Nat.le_trans HD.out.2 (by decide)) (q := i + 1 + K.length) (by rw [lco]; omega) HXR.out HB.out
   ·obtain ⟨sb, sl, z, ou', h⟩ := hL
    obtain ⟨hbig, rfl, hbs, rfl, hz, HXR⟩ := h
    have l2 := HXR.out.at0.z 2 _ rfl
    have HD : Hid (262144 < ((hdN 5 x.num ++ x.text) ++ MK.flatten).length ∧ sb.size ≤ 262144 + 300000 * K.length ∧ z ≤ 100000) := ⟨hbig, hbs, hz⟩
    clear hbig hbs hz
    have e8 : (j : Int) < (m : Int) ∨ ¬ (j : Int) < (m : Int) := Classical.em _
    rcases e8 with e8 | e8
    all_goals
     go_wp2_with fail
     go_ret
     try rw [← List.append_assoc]
     exact CTold.long (ou' := ou') HD.out.1 (by have := HD.out; rw [lco]; omega) HD.out.2.2 HXR.out HB.out
theorem told_node6 (l A R : List Ra) (K : List Am) (am : Am) (MK : List (List UInt8)) (dK : Nat) (oK : Bool) (hln : l.length ≤ 4096) (IH : ∀ T : List Am, T.length ≤ K.length → CToldOk l T) (hK : Its dK K MK oK) (hl : l = A ++ (am :: K).map up ++ R) (hka : am.kind = 6) (hm : MK.length = need am) (htx0 : am.text.length ≤ 1000) (hnum0 : am.num < 18446744073709551616)
  (w : World) (g k o n cap : Nat) (ou : Bool) (hT : Te w g (.slice (some ⟨k, o, none⟩) n cap) A.length false ou) (hL : Lg w g k o l) (hn : l.length = n) :
  Calls Tryz.prog 94 #[.pointer (some ⟨g, 0, none⟩)] w (CTold g (.slice (some ⟨k, o, none⟩) n cap) (am :: K) ((hdN 6 am.num ++ am.text) ++ MK.flatten) (oK && ordA 6 MK) A.length ou w) := by
 obtain ⟨i, hi0⟩ : ∃ i, A.length = i := ⟨_, rfl⟩
 have hi : i < l.length := by rw [hl, lap, lap, List.length_map, lco]; omega
 have hx : l.getD i ra0 = up am := by rw [hl, ← hi0]; simp [List.getD]
 have hkl : i + 1 + K.length ≤ 4096 := by have h1 := hln; rw [hl, lap, lap, List.length_map, lco] at h1; omega
 have hlens := hK.lens
 obtain ⟨x, hxx⟩ : ∃ x, up am = x := ⟨_, rfl⟩
 have hk : x.kind = 6 := by rw [← hxx]; show (am.kind : Int) = _; rw [hka]; rfl
 have hxn : am.num = x.num := by rw [← hxx]; rfl
 have hxt : am.text = x.text := by rw [← hxx]; rfl
 have hnum : x.num < 18446744073709551616 := by rw [← hxn]; exact hnum0
 have htx : x.text.length ≤ 1000 := by rw [← hxt]; exact htx0
 rw [hxn, hxt]
 rw [need, hxn, hka] at hm
 rw [hi0] at hT ⊢
 rw [hxx] at hx
 obtain ⟨m, hmm⟩ : ∃ m, MK.length = m := ⟨_, rfl⟩
 have hmb : m ≤ 4096 := by omega
 have hmn : 1 = m := by rw [← hmm, hm]; simp
 have HC := hid (aIn hi0 (aIn hmm (aIn hkl (aIn hl (aIn hK (aIn hlens (aIn hln hL)))))))
 have HIH := hid IH
 have HT := hid hT
 have HN := hid (aIn hn (aIn hi hmb))
 have hX := rcell_atO hL.at0 i hi
 rw [hx] at hX
 have n0 := hX.cell 0 _ rfl
 have n1 := hX.cell 1 _ rfl
 have n2 := hX.cell 2 _ rfl
 rw [Nat.add_zero] at n0
 have k0 := hT.at0.z 0 _ rfl
 have k1 := hT.at0.cell 1 _ rfl
 have f1 := hT.at0.froz 1 (Nat.le_of_ble_eq_true rfl)
 have n0A : ∀ ob, (w.alloc ob).cell? ⟨k, o + i * 3, none⟩ = some (.int .i64 x.kind) := fun ob => by have h := (hX.alloc ob).cell 0 _ rfl; rw [Nat.add_zero] at h; exact h
 have n1A : ∀ ob, (w.alloc ob).cell? ⟨k, o + i * 3 + 1, none⟩ = some (.int .u64 (x.num : Int)) := fun ob => (hX.alloc ob).cell 1 _ rfl
 have n2A : ∀ ob, (w.alloc ob).cell? ⟨k, o + i * 3 + 2, none⟩ = some (.string ⟨x.text.toArray⟩) := fun ob => (hX.alloc ob).cell 2 _ rfl
 have k0A : ∀ ob, (w.alloc ob).cell? ⟨g, 0, none⟩ = some (.slice (some ⟨k, o, none⟩) n cap) := fun ob => by have h := (hT.at0.alloc ob).z 0 _ rfl; exact h
 have k1A : ∀ ob, (w.alloc ob).cell? ⟨g, 1, none⟩ = some (.int .i64 (i : Int)) := fun ob => (hT.at0.alloc ob).cell 1 _ rfl
 have e1 : (i : Int) < (n : Int) := by omega
 have e2 : (i : Int) ≤ 4096 := by omega
 have HMN := hid hmn
 clear hmn hT hL hX hn hi hl hx hln hkl hi0 hlens hmm hm hnum0 htx0 hxn hxt hka hxx IH hK
 go_enter Tryz.func94, Tryz.ntmps94
 go_wp2_with fail
 go_region
 have HTa : Hid (Te (w.alloc (Obj.cells #[Value.int .i64 x.kind, Value.int .u64 (x.num : Int), Value.string ⟨x.text.toArray⟩] 60)).drew g (.slice (some ⟨k, o, none⟩) n cap) i false ou) := ⟨(HT.out.at0.alloc _).drewN 1, by have := HT.out.lt; simp; omega⟩
 have HAa : Hid (At (w.alloc (Obj.cells #[Value.int .i64 x.kind, Value.int .u64 (x.num : Int), Value.string ⟨x.text.toArray⟩] 60)).drew w.heap.size 0 [Value.int .i64 x.kind, Value.int .u64 (x.num : Int), Value.string ⟨x.text.toArray⟩]) := (At.ofAlloc w #[Value.int .i64 x.kind, Value.int .u64 (x.num : Int), Value.string ⟨x.text.toArray⟩] 60).drewN 1
 have HBa : Hid (Bw g w (w.alloc (Obj.cells #[Value.int .i64 x.kind, Value.int .u64 (x.num : Int), Value.string ⟨x.text.toArray⟩] 60)).drew) := Bw.of (((Below.refl _ w).alloc (nle _) _).drew)
 rw [hk] at HTa HAa HBa
 have HGT : Hid (g < w.heap.size) := HT.out.lt
 obtain ⟨T, hT⟩ : ∃ T, w.heap.size = T := ⟨_, rfl⟩
 rw [hT] at HAa HGT
 try rw [hk]
 obtain ⟨wa, hwa⟩ : ∃ v, (w.alloc (Obj.cells #[Value.int .i64 6, Value.int .u64 (x.num : Int), Value.string ⟨x.text.toArray⟩] 60)).drew = v := ⟨_, rfl⟩
 rw [hwa] at HTa HAa HBa
 try rw [hwa]
 try rw [hT]
 clear hwa hT n0 n1 n2 k0 k1 f1 n0A n1A n2A k0A k1A
 have k1 := HTa.out.at0.cell 1 _ rfl
 have f1 := HTa.out.at0.froz 1 (Nat.le_of_ble_eq_true rfl)
 obtain ⟨i1, hi1⟩ : ∃ i1, i + 1 = i1 := ⟨_, rfl⟩
 have HI1 := hid hi1
 have e3 : (i : Int) + 1 = (i1 : Int) := by omega
 have e4 : IntKind.i64.wrap (i1 : Int) = (i1 : Int) := wrap_fit i1 (by unfold maxLen; omega)
 have RH := hid (fun w => rhead_any 6 x.num (by decide) hnum w)
 obtain ⟨xn, hxn⟩ : ∃ xn, x.num = xn := ⟨_, rfl⟩
 have hgT : ¬ g = T := by have := HGT.out; omega
 have HTb : Hid (Te (wa.setCell ⟨g, 1, none⟩ (.int .i64 (i1 : Int))) g (.slice (some ⟨k, o, none⟩) n cap) i1 false ou) := ⟨HTa.out.at0.set 1 _, by rw [set_size]; exact HTa.out.lt⟩
 have HAb : Hid (At (wa.setCell ⟨g, 1, none⟩ (.int .i64 (i1 : Int))) T 0 [Value.int .i64 6, Value.int .u64 (x.num : Int), Value.string ⟨x.text.toArray⟩]) := HAa.out.other g 1 _ (Or.inl hgT)
 have HBb : Hid (Bw g w (wa.setCell ⟨g, 1, none⟩ (.int .i64 (i1 : Int)))) := HBa.out.setG 1 _
 have b0 := HAb.out.z 0 _ rfl
 have b1 := HAb.out.cell 1 _ rfl
 have b2 := HAb.out.cell 2 _ rfl
 have HSZ : Hid ((⟨x.text.toArray⟩ : ByteArray).size ≤ 1000) := by show (⟨x.text.toArray⟩ : ByteArray).size ≤ _; rw [← tl_size, tl_mk]; exact htx
 have HGT2 : Hid (¬ g = T) := hgT
 clear hk hi1 hnum hgT htx hxn hmb
 go_upto_region 6 with fail
 obtain ⟨wb, hwb⟩ : ∃ v, wa.setCell ⟨g, 1, none⟩ (.int .i64 (i1 : Int)) = v := ⟨_, rfl⟩
 rw [hwb] at HTb HAb HBb
 try rw [hwb]
 clear hwb b0 b1 b2 k1 f1 HTa HAa HBa
 have HTS : Hid (T < wb.heap.size) := by have := HAb.out.lt (by simp); exact this
 have c0 := HAb.out.z 0 _ rfl
 have c2 := HAb.out.cell 2 _ rfl
 go_cut [5] from 41 (fun v wx => ∃ u : ByteArray, v = .string u ∧ u.toList = (hdN 6 x.num ++ x.text) ∧ Hid (At wx T 0 [Value.int .i64 6, Value.int .u64 (x.num : Int), Value.string ⟨x.text.toArray⟩]) ∧ Hid (Te wx g (.slice (some ⟨k, o, none⟩) n cap) i1 false ou) ∧ Hid (Bw g w wx))
 case first =>
  go_region_with ((go_at_call 48; refine (RH.out _).mono ?_; rintro e w3 ⟨u, rfl, hu, hb3⟩; have HU := hid hu; have hov : ¬ 9223372036854775807 < u.size + (⟨x.text.toArray⟩ : ByteArray).size := (by have h1 := HSZ.out; have h2 := widN_le x.num; have h3 : u.size = widN x.num + 1 := (by rw [← tl_size, hu, hdN_length]); omega); have HA3 : Hid (At w3 T 0 [Value.int .i64 6, Value.int .u64 (x.num : Int), Value.string ⟨x.text.toArray⟩]) := (by first | exact (HAb.out).below hb3 HTS.out | exact (HAb.out.drewN 1).below hb3 HTS.out | exact (HAb.out.drewN 2).below hb3 HTS.out | exact (HAb.out.drewN 3).below hb3 HTS.out | exact (HAb.out.drewN 4).below hb3 HTS.out | exact (HAb.out.drewN 5).below hb3 HTS.out); have HT3 : Hid (Te w3 g (.slice (some ⟨k, o, none⟩) n cap) i1 false ou) := (by first | exact ⟨(HTb.out.at0).below hb3 HTb.out.lt, nlt HTb.out.lt hb3.size⟩ | exact ⟨(HTb.out.at0.drewN 1).below hb3 HTb.out.lt, nlt HTb.out.lt hb3.size⟩ | exact ⟨(HTb.out.at0.drewN 2).below hb3 HTb.out.lt, nlt HTb.out.lt hb3.size⟩ | exact ⟨(HTb.out.at0.drewN 3).below hb3 HTb.out.lt, nlt HTb.out.lt hb3.size⟩ | exact ⟨(HTb.out.at0.drewN 4).below hb3 HTb.out.lt, nlt HTb.out.lt hb3.size⟩ | exact ⟨(HTb.out.at0.drewN 5).below hb3 HTb.out.lt, nlt HTb.out.lt hb3.size⟩); have HB3 : Hid (Bw g w w3) := (by first | exact HBb.out.trans (Bw.of hb3) | exact (HBb.out.trans (Bw.drewN _ _ _)).trans (Bw.of hb3)); have d2 := HA3.out.cell 2 _ rfl; have d0 := HA3.out.z 0 _ rfl; clear hu hb3))
  all_goals
   go_wp2_with fail
   go_meet
   case rel => exact ⟨_, rfl, by rw [tl_app, HU.out, tl_mk], (by first | exact HA3 | exact HA3.out.drewN _), (by first | exact HT3 | exact HT3.out.drewN _), (by first | exact HB3 | exact HB3.out.trans (Bw.drewN _ _ _))⟩
 case rest =>
  obtain ⟨u, rfl, hu, HA3, HT3, HB3⟩ := hcut
  have HU := hid hu
  have c0 := HA3.out.z 0 _ rfl
  have c1 := HA3.out.cell 1 _ rfl
  clear hu
  go_wp2_with fail
  go_loopw [5, 7, 8] (fun v5 v7 v8 wr => CR 6 g (.slice (some ⟨k, o, none⟩) n cap) i m T [Value.int .i64 6, Value.int .u64 (x.num : Int), Value.string ⟨x.text.toArray⟩] (hdN 6 x.num ++ x.text) K MK oK ou w v5 v7 v8 wr) (fun _ _ v8 _ => m - (intOf v8).toNat)
  case atStart =>
   have hE : ByteArray.empty.toList = [] := tl_mk []
   refine ⟨0, rfl, Nat.zero_le _, HA3, HB3, .inl ⟨[], MK, [], K, dK, true, oK, u, ByteArray.empty, rfl, rfl, rfl, HC.out.2.2.2.2.1, by simp, rfl, by rw [HU.out]; simp, ?_, rfl, fun _ => hE, ?_⟩⟩
   ·have h1 := HSZ.out
    rw [← tl_size, tl_mk] at h1
    have h2 := widN_le x.num
    simp only [List.flatten_nil, List.append_nil, lap, hdN_length]
    omega
   ·rw [show (ou || !(true && ordA 6 [])) = ou by cases ou <;> rfl, show i + 1 + ([] : List Am).length = i1 from HI1.out]
    exact HT3
  case round =>
   obtain ⟨j, rfl, hj, HA, HB, hN | hL⟩ := hrel
   ·obtain ⟨P, Q, K1, R1, d2, o1, o2, sb, sl, h⟩ := hN
    obtain ⟨hpl, hmk, hkk, hel, hok, rfl, hbb, hle, rfl, hss, HXR⟩ := h
    have hJw : T < wr.heap.size := HA.out.lt (by simp)
    have l2 := HXR.out.at0.z 2 _ rfl
    have HLw : Hid (Lg wr g k o l) := HC.out.2.2.2.2.2.2.2.bw HB.out HT.out.lt
    have hMN := HMN.out
    by_cases hin : j < m
    ·have e8 : (j : Int) < 1 := by omega
     have hQ : ∃ x Q', Q = x :: Q' := by
      cases Q with
      | nil => exfalso; have h1 := HC.out.2.1; rw [hmk, List.append_nil] at h1; omega
      | cons x Q' => exact ⟨x, Q', rfl⟩
     obtain ⟨y, Q', rfl⟩ := hQ
     obtain ⟨Kc, Rc, d3, d4, o3, o4, hR, hc, hr, -, ho⟩ := hel.split 1 (by simp)
     rw [show (y :: Q').take 1 = [y] from rfl] at hc
     rw [show (y :: Q').drop 1 = Q' from rfl] at hr
     have hq : (A ++ up am :: K1.map up).length = i + 1 + K1.length := by rw [lap, lco, List.length_map, HC.out.1]; omega
     have hKl : K.length = K1.length + (Kc.length + Rc.length) := by rw [hkk, hR, lap, lap]
     have CH := HIH.out Kc (by omega) d3 y o3 hc (A ++ up am :: K1.map up) (Rc.map up ++ R) (by rw [HC.out.2.2.2.1, hkk, hR]; simp) wr g k o n cap _ (by rw [hq]; exact HXR.out) HLw.out HN.out.1
     rw [hq] at CH
     obtain ⟨q, hqq⟩ : ∃ q, i + 1 + K1.length = q := ⟨_, rfl⟩
     rw [hqq] at CH
     have CHH := hid CH
     have HS := hid (aIn hpl (aIn hmk (aIn hkk (aIn hok (aIn hbb (aIn hle (aIn hss (aIn hin (aIn hR (aIn hc (aIn hr (aIn ho (aIn hKl hqq)))))))))))))
     have HJW := hid hJw
     have hcpos : Hid (1 ≤ Kc.length) := hc.pos
     obtain ⟨j1, hj1⟩ : ∃ y, j + 1 = y := ⟨_, rfl⟩
     have e9 : (j : Int) + 1 = (j1 : Int) := by omega
     have ew : IntKind.i64.wrap (j1 : Int) = (j1 : Int) := wrap_fit j1 (by have := HN.out.2.2; unfold maxLen; omega)
     have HJ1 : Hid (j + 1 = j1 ∧ j1 ≤ m) := ⟨hj1, by omega⟩
     clear CH hel hpl hmk hkk hok hbb hle hss hR hc hr ho hKl hqq hq hJw hj1 hMN
     go_wp2_with fail
     refine CHH.out.mono ?_
     rintro e w5 h5
     obtain ⟨s, rfl, hs5, hxl, HX5, HB5⟩ | ⟨s, z, ou5, rfl, hbig, hsz, hz5, HX5, HB5⟩ := h5
     ·obtain ⟨q5, hq5⟩ : ∃ r, q + Kc.length = r := ⟨_, rfl⟩
      rw [hq5] at HX5
      have HQ5 := hid hq5
      clear hq5
      have A5 := atBw HA.out HB5.out HJW.out (fun e => HGT2.out e.symm)
      have d0 := A5.z 0 _ rfl
      have HA5 := hid A5
      clear A5
      have f2 := HX5.out.at0.froz 2 (by show 2 < 4; decide)
      have f3 := HX5.out.at0.froz 3 (by show 3 < 4; decide)
      have y2 := HX5.out.at0.z 2 _ rfl
      have y3 := HX5.out.at0.z 3 _ rfl
      rw [Nat.zero_add] at f2 f3
      obtain ⟨z1, hz1⟩ : ∃ z, sb.size = z := ⟨_, rfl⟩
      obtain ⟨z2, hz2⟩ : ∃ z, s.size = z := ⟨_, rfl⟩
      have hz1b : z1 ≤ 262144 := by rw [← hz1, ← tl_size, HS.out.2.2.2.2.1]; exact HS.out.2.2.2.2.2.1
      have hz2b : z2 ≤ 300000 := by rw [← hz2, ← tl_size, hs5]; exact hxl
      have ov : ¬ 9223372036854775807 < z1 + z2 := by omega
      have HS5 := hid (aIn hs5 (aIn hz1 (aIn hz2 (aIn hz1b hz2b))))
      clear hs5 hxl
      by_cases hbq : 262144 < z1 + z2
      ·have eb1 : (262144 : Int) < (z1 : Int) + (z2 : Int) := by omega
       have eb2 : decide ((262144 : Int) < (z1 : Int) + (z2 : Int)) = true := dtr eb1
       have NX : ∀ (wz : World) (ou' : Bool) (sl' : ByteArray), Te wz g (.slice (some ⟨k, o, none⟩) n cap) q5 true ou' → _ := fun wz ou' sl' hx => CL.next (sl := sl') (K := K) (s := s) (q5 := q5) HS.out.2.1 HS.out.2.2.2.2.1 (by rw [← HS.out.2.2.2.2.1, ← HS5.out.1, tl_size, tl_size, hz1, hz2]; exact hbq) (by rw [hz1]; exact hz1b) (by rw [hz2]; have := HS.out; have := hcpos.out; omega) (by have := HS.out; have := HQ5.out; have := HC.out; omega) hx
       have HNX := hid NX
       clear NX
       go_wp2_with fail
       go_roundw
       case rel => exact ⟨j1, rfl, HJ1.out.2, (HA5.out).other g 2 _ (.inl HGT2.out), ((HB.out.trans HB5.out)).setG 2 _, .inr (HNX.out _ _ _ ((HX5.out).set 2 true true _ rfl))⟩
       case measure => have h9 := HJ1.out; simp [intOf]; omega
      ·have eb1 : ¬ (262144 : Int) < (z1 : Int) + (z2 : Int) := by omega
       have eb2 : decide ((262144 : Int) < (z1 : Int) + (z2 : Int)) = false := dfa eb1
       have NX : ∀ (wz : World) (sl' : ByteArray), (6 = 5 → sl'.toList = lastK (P ++ [y])) → Te wz g (.slice (some ⟨k, o, none⟩) n cap) q5 false (ou || !((o1 && o3) && ordA 6 (P ++ [y]))) → _ := fun wz sl' hsl hx => CN.next (k := 6) (sl := sl') (j1 := j1) (q5 := q5) (p := i) HS.out.1 HS.out.2.1 HS.out.2.2.1 HS.out.2.2.2.1 HS.out.2.2.2.2.1 HS.out.2.2.2.2.2.2.2.2.1 HS.out.2.2.2.2.2.2.2.2.2.2.1 HS.out.2.2.2.2.2.2.2.2.2.2.2.1 HS5.out.1 HS.out.2.2.2.2.2.2.2.2.2.2.2.2.2 HQ5.out HJ1.out.1 (by rw [hz1, hz2]; omega) hsl hx
       have HNX := hid NX
       clear NX
       go_wp2_with fail
       go_roundw
       case rel => exact ⟨j1, rfl, HJ1.out.2, (HA5.out).other g 2 _ (.inl HGT2.out), ((HB.out.trans HB5.out)).setG 2 _, .inl (HNX.out _ _ (fun h => absurd h (by decide)) (by rw [ordA_no _ _ (by decide), ← flag_and, ← ordA_no 6 P (by decide)]; exact (HX5.out).set 2 false false _ rfl))⟩
       case measure => have h9 := HJ1.out; simp [intOf]; omega
     ·have HSB := hid (aIn hbig (aIn hsz hz5))
      have A5 := atBw HA.out HB5.out HJW.out (fun e => HGT2.out e.symm)
      have d0 := A5.z 0 _ rfl
      have HA5 := hid A5
      clear A5
      have f2 := HX5.out.at0.froz 2 (by show 2 < 4; decide)
      have f3 := HX5.out.at0.froz 3 (by show 3 < 4; decide)
      have y2 := HX5.out.at0.z 2 _ rfl
      have y3 := HX5.out.at0.z 3 _ rfl
      rw [Nat.zero_add] at f2 f3
      obtain ⟨z1, hz1⟩ : ∃ z, sb.size = z := ⟨_, rfl⟩
      obtain ⟨z2, hz2⟩ : ∃ z, s.size = z := ⟨_, rfl⟩
      have hz1b : z1 ≤ 262144 := by rw [← hz1, ← tl_size, HS.out.2.2.2.2.1]; exact HS.out.2.2.2.2.2.1
      have hz2b : z2 ≤ 300000 * Kc.length := by rw [← hz2]; exact hsz
      have ov : ¬ 9223372036854775807 < z1 + z2 := by have := HS.out; have := HC.out; omega
      have NX : ∀ (wz : World) (ou' : Bool) (sl' : ByteArray), Te wz g (.slice (some ⟨k, o, none⟩) n cap) z true ou' → _ := fun wz ou' sl' hx => CL.next (sl := sl') (K := K) (s := s) (q5 := z) HS.out.2.1 HS.out.2.2.2.2.1 (by have := HSB.out.1; omega) (by rw [hz1]; exact hz1b) (by rw [hz2]; have := HS.out; omega) HSB.out.2.2 hx
      have HNX := hid NX
      clear NX hbig hsz hz5 hz2b
      go_wp2_with fail
      go_roundw
      case rel => exact ⟨j1, rfl, HJ1.out.2, (HA5.out).other g 2 _ (.inl HGT2.out), ((HB.out.trans HB5.out)).setG 2 _, .inr (HNX.out _ _ _ ((HX5.out).set 2 true true _ rfl))⟩
      case measure => have h9 := HJ1.out; simp [intOf]; omega
    ·have e8 : ¬ (j : Int) < 1 := by omega
     have hQ : Q = [] := by
      have h1 := HC.out.2.1
      rw [hmk, lap, hpl] at h1
      exact List.length_eq_zero_iff.1 (by omega)
     subst hQ
     obtain ⟨hR0, -, ho2⟩ := hel.none
     have hMP : P = MK := by rw [hmk, List.append_nil]
     have hoK : o1 = oK := by rw [hok, ho2, Bool.and_true]
     have hKK : K1 = K := by rw [hkk, hR0, List.append_nil]
     rw [hMP, hoK, hKK] at HXR
     rw [hMP] at hbb hle
     have HD : Hid (sb.toList = (hdN 6 x.num ++ x.text) ++ MK.flatten ∧ ((hdN 6 x.num ++ x.text) ++ MK.flatten).length ≤ 262144) := ⟨hbb, hle⟩
     clear hpl hmk hkk hel hok hbb hle hss hin hR0 ho2 hMP hoK hKK hj hJw hMN
     go_wp2_with fail
     go_ret
     try rw [← List.append_assoc]
     exact CTold.done HD.out.1 (Nat.le_trans HD.out.2 (by decide)) (q := i + 1 + K.length) (by rw [lco]; omega) HXR.out HB.out
   ·obtain ⟨sb, sl, z, ou', h⟩ := hL
    obtain ⟨hbig, rfl, hbs, rfl, hz, HXR⟩ := h
    have l2 := HXR.out.at0.z 2 _ rfl
    have HD : Hid (262144 < ((hdN 6 x.num ++ x.text) ++ MK.flatten).length ∧ sb.size ≤ 262144 + 300000 * K.length ∧ z ≤ 100000) := ⟨hbig, hbs, hz⟩
    clear hbig hbs hz
    have e8 : (j : Int) < 1 ∨ ¬ (j : Int) < 1 := Classical.em _
    rcases e8 with e8 | e8
    all_goals
     go_wp2_with fail
     go_ret
     try rw [← List.append_assoc]
     exact CTold.long (ou' := ou') HD.out.1 (by have := HD.out; rw [lco]; omega) HD.out.2.2 HXR.out HB.out
end Co
end Go.Proofs.YtikgonlhdkknkaaGreatDoor
