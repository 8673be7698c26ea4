import Derived.Test.YtikgonlhdkknkaaGreatDoorCqK
import Derived.Test.YtikgonlhdkknkaaGreatDoorCuJ
set_option maxRecDepth 100000
set_option maxHeartbeats 3200000
set_option linter.unusedVariables false
set_option linter.unusedSimpArgs false
open Go.Lib (hid)
namespace Go.Proofs.YtikgonlhdkknkaaGreatDoor
open Go.RowKit
namespace Co
open Dr (Rs Lm has lack at0S)
def icN (W : List Nat) : List Value := icells (W.reverse.map Int.ofNat)
theorem icN_length (W : List Nat) : (icN W).length = W.length := by rw [icN, icells_length, List.length_map, List.length_reverse]
theorem icN_cons (x : Nat) (W : List Nat) : icN (x :: W) = icN W ++ [.int .i64 (x : Int)] := by simp [icN, icells]
structure Bt (w : World) (B : Nat) (v : Value) (W : List Nat) : Prop where
 own : w.ownsRow B 3 1 v W.length (icN W)
 all : ∀ x ∈ W, x ≤ 10000
theorem pop0_cons {x : Nat} {W : List Nat} (h : x ≠ 0) : pop0 (x :: W) = x :: W := by rw [pop0, if_neg h]
theorem pop0_zero (W : List Nat) : pop0 (0 :: W) = pop0 W := by rw [pop0, if_pos rfl]
theorem pop0_idem : ∀ W : List Nat, pop0 (pop0 W) = pop0 W
 | [] => rfl
 | x :: W => by
  by_cases h : x = 0
  ·subst h; rw [pop0_zero]; exact pop0_idem W
  ·rw [pop0_cons h, pop0_cons h]
theorem pop0_head {x : Nat} {W V : List Nat} (h : pop0 V = x :: W) : x ≠ 0 := by
 have h1 := pop0_idem V
 rw [h] at h1
 intro h2
 subst h2
 rw [pop0_zero] at h1
 have h3 : ∀ U : List Nat, (pop0 U).length ≤ U.length := by
  intro U
  induction U with
  | nil => exact nle _
  | cons y U ih =>
   rw [pop0]
   split
   ·rw [lco]; omega
   ·exact nle _
 have h4 := h3 W
 rw [h1, lco] at h4
 omega
theorem own_takeC {w : World} {B e size n m cap : Nat} {a : Option Addr} {xs : List Value} (h : w.ownsRow B e size (.slice a n cap) n xs) (hm : m ≤ n) (h0 : 0 < n) : w.ownsRow B e size (.slice a m cap) m (xs.take (m * size)) := by
 obtain ⟨hl, h⟩ := h
 have hms : m * size ≤ n * size := Nat.mul_le_mul_right _ hm
 refine ⟨by rw [List.length_take]; omega, ?_⟩
 rcases h with ⟨h1, h2⟩ | ⟨g, cap', cur, h1, h2, h3, h4, h5, h6, h7⟩
 ·omega
 ·cases h1
  refine .inr ⟨g, cap, cur, rfl, h2, h3, by omega, h5, h6, ?_⟩
  rw [← h7, List.take_take, Nat.min_eq_left hms]
theorem Bt.low {w : World} {B k cap : Nat} {D V : List Nat} (h : Bt w B (.slice (some ⟨k, 0, none⟩) (D ++ V).length cap) (D ++ V)) : Bt w B (.slice (some ⟨k, 0, none⟩) V.length cap) V := by
 refine ⟨?_, fun x hx => h.all x (List.mem_append_right _ hx)⟩
 by_cases h0 : 0 < (D ++ V).length
 ·have h1 := own_takeC h.own (show V.length ≤ (D ++ V).length by rw [lap]; omega) h0
  rw [Nat.mul_one, icN, icells, List.reverse_append, List.map_append, List.map_append, List.take_left' (by simp)] at h1
  exact h1
 ·have h2 : V = [] ∧ D = [] := by
   rw [lap] at h0
   exact ⟨List.length_eq_zero_iff.1 (by omega), List.length_eq_zero_iff.1 (by omega)⟩
  obtain ⟨rfl, rfl⟩ := h2
  exact h.own
theorem behind_at (l : List Ra) (at0 : Nat) (hat : at0 ≤ l.length) (v : Value) (w : World) (hS : SrO w v l) (hK : ∀ a ∈ l, a.num < 18446744073709551616) (hn : l.length ≤ 4096) :
  Calls Tryz.prog 63 #[v, .int .i64 (at0 : Int)] w (fun e w' => e = .returned (.tuple #[.int .i64 (bhc [] 0 at0 (l.drop at0)).1, .int .i64 ((bhc [] 0 at0 (l.drop at0)).2 : Int)]) ∧ Below w.heap.size w w') := by
 obtain ⟨R, hR⟩ : ∃ R, bhc [] 0 at0 (l.drop at0) = R := ⟨_, rfl⟩
 rw [hR]
 have HS := hid hS
 obtain ⟨a, cap0, rfl, hl⟩ := hS
 obtain ⟨n, hn0⟩ : ∃ n, l.length = n := ⟨_, rfl⟩
 have HL := hid hl
 have HR := hid hR
 have HAT : Hid (at0 ≤ n) := by show at0 ≤ n; omega
 have HN := hid (aIn hn hn0)
 have HK := hid hK
 rw [hn0]
 clear hR hl hK hn hat
 go_enter Tryz.func63, Tryz.ntmps63
 go_wp2_with fail
 go_loopw [6, 7, 8] (fun vW vd vi wr => ∃ (i : Nat) (W : List Nat) (m : Nat), vi = .int .i64 (i : Int) ∧ vd = .int .i64 (m : Int) ∧ i ≤ n ∧ Hid (Bt wr w.heap.size vW W) ∧ pop0 W = W ∧ bhc W m i (l.drop i) = R ∧ Hid (Below w.heap.size w wr) ∧ W.length ≤ i ∧ m ≤ i) (fun _ _ vi _ => n - (intOf vi).toNat)
 case atStart => exact ⟨at0, [], 0, rfl, rfl, HAT.out, ⟨World.ownsRow_nil _ _ _ _, fun x hx => (List.not_mem_nil hx).elim⟩, rfl, HR.out, Below.refl _ _, Nat.zero_le _, Nat.zero_le _⟩
 case round =>
  obtain ⟨i, W, m, rfl, rfl, hi, HW, htw, hT, HB, hwl, hml⟩ := hrel
  have HT := hid hT
  have HWL := hid (aIn hwl (aIn hml htw))
  clear hT hwl hml htw
  by_cases hin : i < n
  ·have hil : i < l.length := by omega
   have hne : l ≠ [] := fun h => by rw [h] at hil; simp at hil
   obtain ⟨g, o, rfl, hAg, hgl⟩ := HL.out hne
   have hNc := (rcell_atO hAg i hil).below HB.out hgl
   obtain ⟨x, hx⟩ : ∃ x, l.getD i ra0 = x := ⟨_, rfl⟩
   have hdrop := rdrop_cons hil
   have hkn := HK.out x (by rw [← hx]; exact rgetD_mem hil)
   rw [hx] at hNc hdrop
   have HNC := hid hNc
   have e1 : (i : Int) < (n : Int) := by omega
   have e9 : (i : Int) ≤ 4096 := by have h1 := HN.out.1; omega
   have HII := hid (show ∃ j, n = i + 1 + j from ⟨n - i - 1, by omega⟩)
   have HGL := hid hgl
   have HXN := hid hkn
   rw [hdrop, bhc] at HT
   clear hNc hdrop hkn hin hi hil hx hne hgl hAg
   obtain ⟨aW, cW, rfl, haW⟩ := own_form HW.out.own
   obtain ⟨nW, hnW⟩ : ∃ nW, W.length = nW := ⟨_, rfl⟩
   have hn4 : nW ≤ 4096 := by have h1 := HWL.out.1; have h2 := HN.out.1; obtain ⟨j, hj⟩ := HII.out; omega
   rw [hnW]
   have hd2 : (dec1 W).length = nW := by rw [← hnW]; cases W <;> rfl
   have n0 := HNC.out.cell 0 _ rfl
   go_upto_if 19 with fail
   go_cut [] from 19 to 31 (fun wx => Hid (Bt wx w.heap.size (.slice aW nW cW) (dec1 W)) ∧ Hid (Below w.heap.size w wx) ∧ Hid (At wx g (o + i * 3) (rv x)))
   case first =>
    cases W with
    | nil =>
     have hz : nW = 0 := hnW.symm
     subst hz
     clear hnW hd2 hn4 n0
     go_wp2_with fail
     go_meet
     case rel => exact ⟨HW.out, HB, HNC⟩
    | cons y V =>
     obtain ⟨k, rfl⟩ := haW (by rw [lco]; omega)
     obtain ⟨mv, hmv⟩ : ∃ m, V.length = m := ⟨_, rfl⟩
     obtain rfl : nW = mv + 1 := by rw [← hnW, lco, hmv]
     have hy0 : y ≠ 0 := pop0_head HWL.out.2.2
     have hyr := HW.out.all y (List.mem_cons_self ..)
     have e4 : IntKind.i64.wrap (mv : Int) = (mv : Int) := wrap_fit mv (by unfold maxLen; omega)
     have e5 : (mv : Int) < (mv : Int) + 1 := by omega
     have e5b : (0 : Int) < (mv : Int) + 1 := by omega
     obtain ⟨z, hz⟩ : ∃ z, y - 1 = z := ⟨_, rfl⟩
     have e6 : (y : Int) - 1 = (z : Int) := by omega
     have e7 : IntKind.i64.wrap (z : Int) = (z : Int) := wrap_fit z (by unfold maxLen; omega)
     have e8 : wrap64 ((y : Int) - 1) = (z : Int) := by
      rw [e6]
      exact w64n z (by omega)
     have hown2 : wr.ownsRow w.heap.size 3 1 (.slice (some ⟨k, 0, none⟩) (mv + 1) cW) (mv + 1) (icN (y :: V)) := by have h1 := HW.out.own; rw [lco, hmv] at h1; exact h1
     have hAx := At.ofOwn hown2
     have hvl : (icN V).length = mv := by rw [icN_length, hmv]
     have hx := hAx.cell mv (.int .i64 (y : Int)) (by rw [icN_cons, List.getElem?_append_right (by omega), hvl]; simp)
     have hfx := hAx.froz mv (by rw [icN_length, lco, hmv]; omega)
     rw [Nat.zero_add] at hx hfx
     have hset : (icN (y :: V)).set mv (.int .i64 (z : Int)) = icN (z :: V) := by
      rw [icN_cons, icN_cons, List.set_append_right _ _ (by omega), hvl]
      simp
     have hkg : ¬ k = g := fun h => by
      have h1 := (hown2.lt k rfl).1
      have h2 := HGL.out
      omega
     have HW9 : Hid (Bt (wr.setCell ⟨k, mv, none⟩ (.int .i64 (z : Int))) w.heap.size (.slice (some ⟨k, 0, none⟩) (mv + 1) cW) (z :: V)) := ⟨by
      have h1 := (World.ownsRow.stored hown2 mv (.int .i64 (z : Int))).1
      rw [hset] at h1
      rw [lco, hmv]
      exact h1, fun u hu => by
       rcases List.mem_cons.1 hu with rfl | hu
       ·omega
       ·exact HW.out.all u (List.mem_cons_of_mem _ hu)⟩
     have HB9 : Hid (Below w.heap.size w (wr.setCell ⟨k, mv, none⟩ (.int .i64 (z : Int)))) := HB.out.setCell (p := ⟨k, mv, none⟩) (hown2.lt k rfl).1 (.int .i64 (z : Int))
     have HN9 : Hid (At (wr.setCell ⟨k, mv, none⟩ (.int .i64 (z : Int))) g (o + i * 3) (rv x)) := HNC.out.other k mv _ (Or.inl hkg)
     have HZ := hid hz
     clear hy0 hyr hown2 hset hAx hz hnW hd2 hn4 hmv n0 e6 hvl
     go_wp2_with fail
     go_meet
     case rel => exact ⟨by rw [dec1, HZ.out]; exact HW9, HB9, HN9⟩
   case rest =>
    obtain ⟨HW1, HB1, HN1⟩ := hcut
    obtain ⟨wa, hwa⟩ : ∃ x, x = wc := ⟨_, rfl⟩
    subst hwa
    clear n0
    obtain ⟨kk, hkk⟩ : ∃ k, x.kind = k := ⟨_, rfl⟩
    obtain ⟨nm, hnm⟩ : ∃ k, x.num = k := ⟨_, rfl⟩
    have n0 := HN1.out.cell 0 _ rfl
    have n1 := HN1.out.cell 1 _ rfl
    rw [hkk, Nat.add_zero] at n0
    rw [hnm] at n1
    obtain ⟨vW, hvW⟩ : ∃ v, Value.slice aW nW cW = v := ⟨_, rfl⟩
    have HO1 : Hid (wa.ownsRow w.heap.size 3 1 vW nW (icN (dec1 W))) := by
     have h := HW1.out.own
     rw [hd2, hvW] at h
     exact h
    have HAL : Hid (∀ z ∈ dec1 W, z ≤ 10000) := HW1.out.all
    rw [hvW]
    by_cases hbig : holdR x = true ∧ x.kind < 6 ∧ 5000 < x.num
    ·have HF : Hid (R = (-1, m)) := by show R = _; rw [← HT.out, if_pos hbig]
     have h4 : 4 ≤ x.kind ∧ x.kind ≤ 6 := of_decide_eq_true hbig.1
     have f1 : (4 : Int) ≤ kk := by omega
     have f2 : kk ≤ 6 := by omega
     have f3 : kk < 6 := by omega
     have f4 : (5000 : Int) < (nm : Int) := by omega
     clear hbig h4 hkk hnm hnW hd2 hn4
     go_wp2_with fail
     go_ret2
     exact ⟨by rw [HF.out]; rfl, HB1.out⟩
    ·rw [if_neg hbig] at HT
     have HNW := hid hnW
     by_cases hh : holdR x = true
     ·have HHO := hid hh
      have h4 : 4 ≤ x.kind ∧ x.kind ≤ 6 := of_decide_eq_true hh
      obtain ⟨i0, hi0, hq⟩ := Option.map_eq_some_iff.1 info3
      simp only [Prod.mk.injEq] at hq
      obtain ⟨hz0, hz1, hz2⟩ := hq
      have hmn : nW ≤ 17592186044415 := by omega
      obtain ⟨n2, hn2⟩ : ∃ n2, nW + 1 = n2 := ⟨_, rfl⟩
      have HLE : Hid (n2 ≤ nW + 1) := by show n2 ≤ _; omega
      by_cases h6 : x.kind = 6
      ·have HND : Hid (needR x = 1) := by show needR x = 1; rw [needR, if_neg (by omega)]
       have HBN : Hid ((1 : Nat) ≤ 10000) := by show (1 : Nat) ≤ 10000; decide
       obtain rfl : kk = 6 := by omega
       clear hbig h4 hkk hnm hnW hd2 hn4 hh h6 hvW
       go_upto_if 87 with (at_builtin; refine wpList_append_i64 rfl (.tmp 80) (.tmp 82) 168 rfl w.heap.size 3 i0 Tryz.underlying168 hi0 hz0 hz1 hz2 vW nW ((dec1 W).reverse.map Int.ofNat) rfl (HO1.out.alloc _) wa.heap.size 1 1 rfl (by simp) hmn (by have := HB1.out.size; simp; omega) ?_; intro v' wb hown10 hgrow; have HB2 := hid (below_own (HB1.out.alloc HB1.out.size (Obj.cells #[.int .i64 1] 3)) hgrow (by have := HB1.out.size; simp; omega) (HO1.out.alloc _)); have HO10 := hid hown10; clear hgrow; obtain ⟨a2, c2, rfl, ha2⟩ := own_form hown10; clear hown10)
       have HWb : Hid (Bt wb w.heap.size (.slice a2 (nW + 1) c2) (pushR x (dec1 W))) := by
        have hd3 : (dec1 W).length = nW := by have := HO1.out.1; rw [icN_length] at this; omega
        show Bt _ _ _ _
        rw [pushR, if_pos HHO.out, show needR x = 1 from HND.out]
        refine ⟨?_, fun z hz => ?_⟩
        ·have h1 := HO10.out
         rw [lco, hd3, icN, List.reverse_cons, List.map_append]
         exact h1
        ·rcases List.mem_cons.1 hz with rfl | hz
         ·exact HBN.out
         ·exact HAL.out z hz
       rw [hn2] at HWb
       try rw [hn2]
       clear hn2
       obtain ⟨W2, hW2⟩ : ∃ W2, pushR x (dec1 W) = W2 := ⟨_, rfl⟩
       rw [hW2] at HWb HT
       have HNL : Hid (W2.length = n2 ∧ n2 ≤ i + 1) := by
        have h9 := HWb.out.own.1
        rw [icN_length] at h9
        have h8 := own_len HWb.out.own
        have h7 : n2 = W2.length := by simpa [sliceLen] using h8
        have h2 := HWL.out.1
        rw [HNW.out] at h2
        exact ⟨h7.symm, by have := HLE.out; omega⟩
       have HW2 : Hid (Bt wb w.heap.size (.slice a2 W2.length c2) W2) := by have h := HWb.out; rw [← HNL.out.1] at h; exact h
       obtain ⟨m2, hm2⟩ : ∃ m2, max m n2 = m2 := ⟨_, rfl⟩
       rw [HNL.out.1, hm2] at HT
       clear hW2
       go_cut [7] from 87 to 89 (fun v7 wx => v7 = .int .i64 (m2 : Int) ∧ wx = wb)
       case first =>
        by_cases h1 : m < n2
        ·have f1 : (m : Int) < (n2 : Int) := by omega
         have h2 : m2 = n2 := by omega
         go_wp2_with fail
         go_meet
         case rel => exact ⟨by rw [h2], rfl⟩
        ·have f1 : ¬ (m : Int) < (n2 : Int) := by omega
         have h2 : m2 = m := by omega
         go_wp2_with fail
         go_meet
         case rel => exact ⟨by rw [h2], rfl⟩
       case rest =>
        obtain ⟨rfl, hwc⟩ := hcut
        have hwc := hwc.symm
        subst hwc
        have HM2 : Hid (m2 ≤ i + 1) := by have h1 := HWL.out.2.1; have h2 := HNL.out.2; show m2 ≤ i + 1; omega
        clear hm2
        have hcl : n2 ≤ c2 := by have h1 := own_cap HW2.out.own; rw [HNL.out.1] at h1; exact h1
        have HCL := hid hcl
        clear hcl
        go_wp2_with fail
        go_loop [6] (fun v => ∃ (D V : List Nat), v = .slice a2 V.length c2 ∧ W2 = D ++ V ∧ pop0 V = pop0 W2) (fun v => sliceLen v)
        case atStart => exact ⟨[], W2, by rw [HNL.out.1], rfl, rfl⟩
        case round =>
         obtain ⟨D, V, rfl, hD, hTV⟩ := hrel
         have HD2 := hid hD
         have HTV := hid hTV
         clear hD hTV
         cases V with
         | nil =>
          have h0 : pop0 W2 = [] := by rw [← HTV.out]; rfl
          have HF : Hid (R = ((i : Int) + 1, m2)) := by show R = _; rw [← HT.out, if_pos h0]
          have e11 : IntKind.i64.wrap ((i : Int) + 1) = (i : Int) + 1 := by
           have h3 : ((i + 1 : Nat) : Int) = (i : Int) + 1 := by omega
           rw [← h3]
           exact wrap_fit (i + 1) (by have := HN.out.1; unfold maxLen; omega)
          clear h0
          go_wp2_with fail
          go_ret2
          exact ⟨by rw [HF.out]; rfl, HB2.out⟩
         | cons z V =>
          obtain ⟨mv, hmv⟩ : ∃ m, V.length = m := ⟨_, rfl⟩
          have hlW : 0 < W2.length := by rw [HD2.out, lap, lco]; omega
          obtain ⟨k, rfl⟩ := ha2 (by have := HNL.out.1; omega)
          have hAx := At.ofOwn HW2.out.own
          have hx := hAx.cell mv (.int .i64 (z : Int)) (by
           rw [HD2.out, icN, icells, List.reverse_append, List.reverse_cons, List.map_append, List.map_append, List.map_append, List.map_append, List.append_assoc, List.getElem?_append_right (by simp [hmv])]
           simp [hmv])
          rw [Nat.zero_add] at hx
          have hlen2 : W2.length = D.length + (mv + 1) := by rw [HD2.out, lap, lco, hmv]
          have e4 : IntKind.i64.wrap (mv : Int) = (mv : Int) := wrap_fit mv (by have := HNL.out; have := HN.out; unfold maxLen; omega)
          have e5 : (mv : Int) < (mv : Int) + 1 := by omega
          have e5b : (0 : Int) < (mv : Int) + 1 := by omega
          have hmc : (mv : Int) ≤ (c2 : Int) := by have h1 := HNL.out.1; have h2 := HCL.out; omega
          by_cases hz : z = 0
          ·subst hz
           have HM := hid hmv
           clear hAx hlW hlen2
           go_wp2_with fail
           go_round
           case rel => exact ⟨D ++ [0], V, by rw [HM.out], by rw [HD2.out]; simp, by rw [← HTV.out, pop0_zero]⟩
           case measure => have h1 := HM.out; simp [sliceLen]; omega
          ·have f1 : ((z : Int) == 0) = false := by rw [beq_eq_false_iff_ne]; omega
           have hV : pop0 W2 = z :: V := by rw [← HTV.out]; exact pop0_cons hz
           have HM := hid (aIn hmv (aIn hV hlen2))
           have HF : Hid (bhc (z :: V) m2 (i + 1) (l.drop (i + 1)) = R) := by
            show _ = R
            rw [← HT.out, hV, if_neg (List.cons_ne_nil _ _)]
           have HW5 : Hid (Bt wb w.heap.size (.slice (some ⟨k, 0, none⟩) (mv + 1) c2) (z :: V)) := by
            have h1 := HW2.out
            rw [HD2.out] at h1
            have h2 := Bt.low h1
            rw [lco, hmv] at h2
            exact h2
           clear hAx hlW hlen2 hV
           go_wp2_with fail
           go_roundw
           case rel => exact ⟨i + 1, z :: V, m2, by go_num, rfl, by obtain ⟨j, hj⟩ := HII.out; omega, (by have h := HW5; rw [← HM.out.1] at h; exact h), pop0_cons hz, HF.out, HB2, by rw [lco, HM.out.1]; have h1 := HM.out.2.2; have h2 := HNL.out; omega, HM2.out⟩
           case measure => obtain ⟨j, hj⟩ := HII.out; simp [intOf]; omega
      ·obtain ⟨q, hq⟩ : ∃ q : Nat, kk - 3 = (q : Int) ∧ (q = 1 ∨ q = 2) := by
        rcases (by omega : kk = 4 ∨ kk = 5) with h | h
        ·exact ⟨1, by omega, .inl rfl⟩
        ·exact ⟨2, by omega, .inr rfl⟩
       have hnm5 : ¬ 5000 < x.num := fun h => hbig ⟨hh, by omega, h⟩
       obtain ⟨nd, hnd⟩ : ∃ nd, nm * q = nd := ⟨_, rfl⟩
       have hnd2 : nd ≤ 10000 := by rcases hq.2 with rfl | rfl <;> omega
       have HND : Hid (needR x = nd) := by
        show needR x = nd
        rw [needR, if_pos (by omega), ← hnd, hnm, show (x.kind - 3).toNat = q by omega]
       have HBN : Hid (nd ≤ 10000) := hnd2
       have f1 : (4 : Int) ≤ kk := by omega
       have f2 : kk ≤ 6 := by omega
       have f3 : kk < 6 := by omega
       have f4 : ¬ (5000 : Int) < (nm : Int) := by omega
       have f4b : decide ((5000 : Int) < (nm : Int)) = false := dfa f4
       have f5 : IntKind.i64.wrap (nm : Int) = (nm : Int) := wrap_fit nm (by unfold maxLen; omega)
       have f6 : kk - 3 = (q : Int) := hq.1
       have f7 : IntKind.i64.wrap (q : Int) = (q : Int) := wrap_fit q (by unfold maxLen; omega)
       have f8 : (nm : Int) * (q : Int) = (nd : Int) := by rw [← hnd]; exact (Int.natCast_mul nm q).symm
       have f9 : IntKind.i64.wrap (nd : Int) = (nd : Int) := wrap_fit nd (by unfold maxLen; omega)
       clear hbig h4 hkk hnm hnW hd2 hn4 hh h6 hvW hq hnd hnd2 hnm5
       go_wp2_with fail
       go_quiet (fail)
       have HOq := hid (own_drewN HO1.out nq)
       have HBq : Hid (Below w.heap.size w (wa.drewN nq)) := HB1.out.trans (below_drewN _ _ _)
       obtain ⟨wq, hwq⟩ : ∃ v, wa.drewN nq = v := ⟨_, rfl⟩
       rw [hwq] at HOq HBq
       try rw [hwq]
       clear hwq
       go_upto_if 87 with (at_builtin; refine wpList_append_i64 rfl (.tmp 80) (.tmp 82) 168 rfl w.heap.size 3 i0 Tryz.underlying168 hi0 hz0 hz1 hz2 vW nW ((dec1 W).reverse.map Int.ofNat) rfl (HOq.out.alloc _) wq.heap.size 1 (nd : Int) rfl (by simp) hmn (by have := HBq.out.size; simp; omega) ?_; intro v' wb hown10 hgrow; have HB2 := hid (below_own (HBq.out.alloc HBq.out.size (Obj.cells #[.int .i64 (nd : Int)] 3)) hgrow (by have := HBq.out.size; simp; omega) (HOq.out.alloc _)); have HO10 := hid hown10; clear hgrow; obtain ⟨a2, c2, rfl, ha2⟩ := own_form hown10; clear hown10)
       have HWb : Hid (Bt wb w.heap.size (.slice a2 (nW + 1) c2) (pushR x (dec1 W))) := by
        have hd3 : (dec1 W).length = nW := by have := HO1.out.1; rw [icN_length] at this; omega
        show Bt _ _ _ _
        rw [pushR, if_pos HHO.out, show needR x = nd from HND.out]
        refine ⟨?_, fun z hz => ?_⟩
        ·have h1 := HO10.out
         rw [lco, hd3, icN, List.reverse_cons, List.map_append]
         exact h1
        ·rcases List.mem_cons.1 hz with rfl | hz
         ·exact HBN.out
         ·exact HAL.out z hz
       rw [hn2] at HWb
       try rw [hn2]
       clear hn2
       obtain ⟨W2, hW2⟩ : ∃ W2, pushR x (dec1 W) = W2 := ⟨_, rfl⟩
       rw [hW2] at HWb HT
       have HNL : Hid (W2.length = n2 ∧ n2 ≤ i + 1) := by
        have h9 := HWb.out.own.1
        rw [icN_length] at h9
        have h8 := own_len HWb.out.own
        have h7 : n2 = W2.length := by simpa [sliceLen] using h8
        have h2 := HWL.out.1
        rw [HNW.out] at h2
        exact ⟨h7.symm, by have := HLE.out; omega⟩
       have HW2 : Hid (Bt wb w.heap.size (.slice a2 W2.length c2) W2) := by have h := HWb.out; rw [← HNL.out.1] at h; exact h
       obtain ⟨m2, hm2⟩ : ∃ m2, max m n2 = m2 := ⟨_, rfl⟩
       rw [HNL.out.1, hm2] at HT
       clear hW2
       go_cut [7] from 87 to 89 (fun v7 wx => v7 = .int .i64 (m2 : Int) ∧ wx = wb)
       case first =>
        by_cases h1 : m < n2
        ·have f1 : (m : Int) < (n2 : Int) := by omega
         have h2 : m2 = n2 := by omega
         go_wp2_with fail
         go_meet
         case rel => exact ⟨by rw [h2], rfl⟩
        ·have f1 : ¬ (m : Int) < (n2 : Int) := by omega
         have h2 : m2 = m := by omega
         go_wp2_with fail
         go_meet
         case rel => exact ⟨by rw [h2], rfl⟩
       case rest =>
        obtain ⟨rfl, hwc⟩ := hcut
        have hwc := hwc.symm
        subst hwc
        have HM2 : Hid (m2 ≤ i + 1) := by have h1 := HWL.out.2.1; have h2 := HNL.out.2; show m2 ≤ i + 1; omega
        clear hm2
        have hcl : n2 ≤ c2 := by have h1 := own_cap HW2.out.own; rw [HNL.out.1] at h1; exact h1
        have HCL := hid hcl
        clear hcl
        go_wp2_with fail
        go_loop [6] (fun v => ∃ (D V : List Nat), v = .slice a2 V.length c2 ∧ W2 = D ++ V ∧ pop0 V = pop0 W2) (fun v => sliceLen v)
        case atStart => exact ⟨[], W2, by rw [HNL.out.1], rfl, rfl⟩
        case round =>
         obtain ⟨D, V, rfl, hD, hTV⟩ := hrel
         have HD2 := hid hD
         have HTV := hid hTV
         clear hD hTV
         cases V with
         | nil =>
          have h0 : pop0 W2 = [] := by rw [← HTV.out]; rfl
          have HF : Hid (R = ((i : Int) + 1, m2)) := by show R = _; rw [← HT.out, if_pos h0]
          have e11 : IntKind.i64.wrap ((i : Int) + 1) = (i : Int) + 1 := by
           have h3 : ((i + 1 : Nat) : Int) = (i : Int) + 1 := by omega
           rw [← h3]
           exact wrap_fit (i + 1) (by have := HN.out.1; unfold maxLen; omega)
          clear h0
          go_wp2_with fail
          go_ret2
          exact ⟨by rw [HF.out]; rfl, HB2.out⟩
         | cons z V =>
          obtain ⟨mv, hmv⟩ : ∃ m, V.length = m := ⟨_, rfl⟩
          have hlW : 0 < W2.length := by rw [HD2.out, lap, lco]; omega
          obtain ⟨k, rfl⟩ := ha2 (by have := HNL.out.1; omega)
          have hAx := At.ofOwn HW2.out.own
          have hx := hAx.cell mv (.int .i64 (z : Int)) (by
           rw [HD2.out, icN, icells, List.reverse_append, List.reverse_cons, List.map_append, List.map_append, List.map_append, List.map_append, List.append_assoc, List.getElem?_append_right (by simp [hmv])]
           simp [hmv])
          rw [Nat.zero_add] at hx
          have hlen2 : W2.length = D.length + (mv + 1) := by rw [HD2.out, lap, lco, hmv]
          have e4 : IntKind.i64.wrap (mv : Int) = (mv : Int) := wrap_fit mv (by have := HNL.out; have := HN.out; unfold maxLen; omega)
          have e5 : (mv : Int) < (mv : Int) + 1 := by omega
          have e5b : (0 : Int) < (mv : Int) + 1 := by omega
          have hmc : (mv : Int) ≤ (c2 : Int) := by have h1 := HNL.out.1; have h2 := HCL.out; omega
          by_cases hz : z = 0
          ·subst hz
           have HM := hid hmv
           clear hAx hlW hlen2
           go_wp2_with fail
           go_round
           case rel => exact ⟨D ++ [0], V, by rw [HM.out], by rw [HD2.out]; simp, by rw [← HTV.out, pop0_zero]⟩
           case measure => have h1 := HM.out; simp [sliceLen]; omega
          ·have f1 : ((z : Int) == 0) = false := by rw [beq_eq_false_iff_ne]; omega
           have hV : pop0 W2 = z :: V := by rw [← HTV.out]; exact pop0_cons hz
           have HM := hid (aIn hmv (aIn hV hlen2))
           have HF : Hid (bhc (z :: V) m2 (i + 1) (l.drop (i + 1)) = R) := by
            show _ = R
            rw [← HT.out, hV, if_neg (List.cons_ne_nil _ _)]
           have HW5 : Hid (Bt wb w.heap.size (.slice (some ⟨k, 0, none⟩) (mv + 1) c2) (z :: V)) := by
            have h1 := HW2.out
            rw [HD2.out] at h1
            have h2 := Bt.low h1
            rw [lco, hmv] at h2
            exact h2
           clear hAx hlW hlen2 hV
           go_wp2_with fail
           go_roundw
           case rel => exact ⟨i + 1, z :: V, m2, by go_num, rfl, by obtain ⟨j, hj⟩ := HII.out; omega, (by have h := HW5; rw [← HM.out.1] at h; exact h), pop0_cons hz, HF.out, HB2, by rw [lco, HM.out.1]; have h1 := HM.out.2.2; have h2 := HNL.out; omega, HM2.out⟩
           case measure => obtain ⟨j, hj⟩ := HII.out; simp [intOf]; omega
     ·have hp : pushR x (dec1 W) = dec1 W := by rw [pushR, if_neg hh]
      have h4 : ¬ (4 ≤ x.kind ∧ x.kind ≤ 6) := fun h => hh (dtr h)
      obtain ⟨n2, hn2⟩ : ∃ n2, nW = n2 := ⟨_, rfl⟩
      have HLE : Hid (n2 ≤ nW + 1) := by show n2 ≤ _; omega
      obtain ⟨a2, c2, ha2, hvW2⟩ : ∃ a2 c2, (0 < n2 → ∃ g, a2 = some (⟨g, 0, none⟩ : Addr)) ∧ vW = .slice a2 n2 c2 := ⟨aW, cW, fun h => haW (by omega), by rw [← hvW, hn2]⟩
      have HWb : Hid (Bt wa w.heap.size (.slice a2 n2 c2) (pushR x (dec1 W))) := by
       rw [hp, ← hvW2, ← hvW]
       exact HW1
      clear hvW
      subst hvW2
      have HB2 := HB1
      obtain ⟨wb, hwb⟩ : ∃ x, x = wa := ⟨_, rfl⟩
      subst hwb
      by_cases h5 : 4 ≤ x.kind
      ·have f1 : (4 : Int) ≤ kk := by omega
       have f2 : ¬ kk ≤ 6 := by omega
       have f2b : decide (kk ≤ 6) = false := dfa f2
       clear hbig h4 hkk hnm hnW hn4 hh h5 hp hd2 hn2
       obtain ⟨W2, hW2⟩ : ∃ W2, pushR x (dec1 W) = W2 := ⟨_, rfl⟩
       rw [hW2] at HWb HT
       have HNL : Hid (W2.length = n2 ∧ n2 ≤ i + 1) := by
        have h9 := HWb.out.own.1
        rw [icN_length] at h9
        have h8 := own_len HWb.out.own
        have h7 : n2 = W2.length := by simpa [sliceLen] using h8
        have h2 := HWL.out.1
        rw [HNW.out] at h2
        exact ⟨h7.symm, by have := HLE.out; omega⟩
       have HW2 : Hid (Bt wb w.heap.size (.slice a2 W2.length c2) W2) := by have h := HWb.out; rw [← HNL.out.1] at h; exact h
       obtain ⟨m2, hm2⟩ : ∃ m2, max m n2 = m2 := ⟨_, rfl⟩
       rw [HNL.out.1, hm2] at HT
       clear hW2
       go_upto_if 87 with fail
       go_cut [7] from 87 to 89 (fun v7 wx => v7 = .int .i64 (m2 : Int) ∧ wx = wb)
       case first =>
        by_cases h1 : m < n2
        ·have f1 : (m : Int) < (n2 : Int) := by omega
         have h2 : m2 = n2 := by omega
         go_wp2_with fail
         go_meet
         case rel => exact ⟨by rw [h2], rfl⟩
        ·have f1 : ¬ (m : Int) < (n2 : Int) := by omega
         have h2 : m2 = m := by omega
         go_wp2_with fail
         go_meet
         case rel => exact ⟨by rw [h2], rfl⟩
       case rest =>
        obtain ⟨rfl, hwc⟩ := hcut
        have hwc := hwc.symm
        subst hwc
        have HM2 : Hid (m2 ≤ i + 1) := by have h1 := HWL.out.2.1; have h2 := HNL.out.2; show m2 ≤ i + 1; omega
        clear hm2
        have hcl : n2 ≤ c2 := by have h1 := own_cap HW2.out.own; rw [HNL.out.1] at h1; exact h1
        have HCL := hid hcl
        clear hcl
        go_wp2_with fail
        go_loop [6] (fun v => ∃ (D V : List Nat), v = .slice a2 V.length c2 ∧ W2 = D ++ V ∧ pop0 V = pop0 W2) (fun v => sliceLen v)
        case atStart => exact ⟨[], W2, by rw [HNL.out.1], rfl, rfl⟩
        case round =>
         obtain ⟨D, V, rfl, hD, hTV⟩ := hrel
         have HD2 := hid hD
         have HTV := hid hTV
         clear hD hTV
         cases V with
         | nil =>
          have h0 : pop0 W2 = [] := by rw [← HTV.out]; rfl
          have HF : Hid (R = ((i : Int) + 1, m2)) := by show R = _; rw [← HT.out, if_pos h0]
          have e11 : IntKind.i64.wrap ((i : Int) + 1) = (i : Int) + 1 := by
           have h3 : ((i + 1 : Nat) : Int) = (i : Int) + 1 := by omega
           rw [← h3]
           exact wrap_fit (i + 1) (by have := HN.out.1; unfold maxLen; omega)
          clear h0
          go_wp2_with fail
          go_ret2
          exact ⟨by rw [HF.out]; rfl, HB2.out⟩
         | cons z V =>
          obtain ⟨mv, hmv⟩ : ∃ m, V.length = m := ⟨_, rfl⟩
          have hlW : 0 < W2.length := by rw [HD2.out, lap, lco]; omega
          obtain ⟨k, rfl⟩ := ha2 (by have := HNL.out.1; omega)
          have hAx := At.ofOwn HW2.out.own
          have hx := hAx.cell mv (.int .i64 (z : Int)) (by
           rw [HD2.out, icN, icells, List.reverse_append, List.reverse_cons, List.map_append, List.map_append, List.map_append, List.map_append, List.append_assoc, List.getElem?_append_right (by simp [hmv])]
           simp [hmv])
          rw [Nat.zero_add] at hx
          have hlen2 : W2.length = D.length + (mv + 1) := by rw [HD2.out, lap, lco, hmv]
          have e4 : IntKind.i64.wrap (mv : Int) = (mv : Int) := wrap_fit mv (by have := HNL.out; have := HN.out; unfold maxLen; omega)
          have e5 : (mv : Int) < (mv : Int) + 1 := by omega
          have e5b : (0 : Int) < (mv : Int) + 1 := by omega
          have hmc : (mv : Int) ≤ (c2 : Int) := by have h1 := HNL.out.1; have h2 := HCL.out; omega
          by_cases hz : z = 0
          ·subst hz
           have HM := hid hmv
           clear hAx hlW hlen2
           go_wp2_with fail
           go_round
           case rel => exact ⟨D ++ [0], V, by rw [HM.out], by rw [HD2.out]; simp, by rw [← HTV.out, pop0_zero]⟩
           case measure => have h1 := HM.out; simp [sliceLen]; omega
          ·have f1 : ((z : Int) == 0) = false := by rw [beq_eq_false_iff_ne]; omega
           have hV : pop0 W2 = z :: V := by rw [← HTV.out]; exact pop0_cons hz
           have HM := hid (aIn hmv (aIn hV hlen2))
           have HF : Hid (bhc (z :: V) m2 (i + 1) (l.drop (i + 1)) = R) := by
            show _ = R
            rw [← HT.out, hV, if_neg (List.cons_ne_nil _ _)]
           have HW5 : Hid (Bt wb w.heap.size (.slice (some ⟨k, 0, none⟩) (mv + 1) c2) (z :: V)) := by
            have h1 := HW2.out
            rw [HD2.out] at h1
            have h2 := Bt.low h1
            rw [lco, hmv] at h2
            exact h2
           clear hAx hlW hlen2 hV
           go_wp2_with fail
           go_roundw
           case rel => exact ⟨i + 1, z :: V, m2, by go_num, rfl, by obtain ⟨j, hj⟩ := HII.out; omega, (by have h := HW5; rw [← HM.out.1] at h; exact h), pop0_cons hz, HF.out, HB2, by rw [lco, HM.out.1]; have h1 := HM.out.2.2; have h2 := HNL.out; omega, HM2.out⟩
           case measure => obtain ⟨j, hj⟩ := HII.out; simp [intOf]; omega
      ·have f1 : ¬ (4 : Int) ≤ kk := by omega
       have f1b : decide ((4 : Int) ≤ kk) = false := dfa f1
       clear hbig h4 hkk hnm hnW hn4 hh h5 hp hd2 hn2
       obtain ⟨W2, hW2⟩ : ∃ W2, pushR x (dec1 W) = W2 := ⟨_, rfl⟩
       rw [hW2] at HWb HT
       have HNL : Hid (W2.length = n2 ∧ n2 ≤ i + 1) := by
        have h9 := HWb.out.own.1
        rw [icN_length] at h9
        have h8 := own_len HWb.out.own
        have h7 : n2 = W2.length := by simpa [sliceLen] using h8
        have h2 := HWL.out.1
        rw [HNW.out] at h2
        exact ⟨h7.symm, by have := HLE.out; omega⟩
       have HW2 : Hid (Bt wb w.heap.size (.slice a2 W2.length c2) W2) := by have h := HWb.out; rw [← HNL.out.1] at h; exact h
       obtain ⟨m2, hm2⟩ : ∃ m2, max m n2 = m2 := ⟨_, rfl⟩
       rw [HNL.out.1, hm2] at HT
       clear hW2
       go_upto_if 87 with fail
       go_cut [7] from 87 to 89 (fun v7 wx => v7 = .int .i64 (m2 : Int) ∧ wx = wb)
       case first =>
        by_cases h1 : m < n2
        ·have f1 : (m : Int) < (n2 : Int) := by omega
         have h2 : m2 = n2 := by omega
         go_wp2_with fail
         go_meet
         case rel => exact ⟨by rw [h2], rfl⟩
        ·have f1 : ¬ (m : Int) < (n2 : Int) := by omega
         have h2 : m2 = m := by omega
         go_wp2_with fail
         go_meet
         case rel => exact ⟨by rw [h2], rfl⟩
       case rest =>
        obtain ⟨rfl, hwc⟩ := hcut
        have hwc := hwc.symm
        subst hwc
        have HM2 : Hid (m2 ≤ i + 1) := by have h1 := HWL.out.2.1; have h2 := HNL.out.2; show m2 ≤ i + 1; omega
        clear hm2
        have hcl : n2 ≤ c2 := by have h1 := own_cap HW2.out.own; rw [HNL.out.1] at h1; exact h1
        have HCL := hid hcl
        clear hcl
        go_wp2_with fail
        go_loop [6] (fun v => ∃ (D V : List Nat), v = .slice a2 V.length c2 ∧ W2 = D ++ V ∧ pop0 V = pop0 W2) (fun v => sliceLen v)
        case atStart => exact ⟨[], W2, by rw [HNL.out.1], rfl, rfl⟩
        case round =>
         obtain ⟨D, V, rfl, hD, hTV⟩ := hrel
         have HD2 := hid hD
         have HTV := hid hTV
         clear hD hTV
         cases V with
         | nil =>
          have h0 : pop0 W2 = [] := by rw [← HTV.out]; rfl
          have HF : Hid (R = ((i : Int) + 1, m2)) := by show R = _; rw [← HT.out, if_pos h0]
          have e11 : IntKind.i64.wrap ((i : Int) + 1) = (i : Int) + 1 := by
           have h3 : ((i + 1 : Nat) : Int) = (i : Int) + 1 := by omega
           rw [← h3]
           exact wrap_fit (i + 1) (by have := HN.out.1; unfold maxLen; omega)
          clear h0
          go_wp2_with fail
          go_ret2
          exact ⟨by rw [HF.out]; rfl, HB2.out⟩
         | cons z V =>
          obtain ⟨mv, hmv⟩ : ∃ m, V.length = m := ⟨_, rfl⟩
          have hlW : 0 < W2.length := by rw [HD2.out, lap, lco]; omega
          obtain ⟨k, rfl⟩ := ha2 (by have := HNL.out.1; omega)
          have hAx := At.ofOwn HW2.out.own
          have hx := hAx.cell mv (.int .i64 (z : Int)) (by
           rw [HD2.out, icN, icells, List.reverse_append, List.reverse_cons, List.map_append, List.map_append, List.map_append, List.map_append, List.append_assoc, List.getElem?_append_right (by simp [hmv])]
           simp [hmv])
          rw [Nat.zero_add] at hx
          have hlen2 : W2.length = D.length + (mv + 1) := by rw [HD2.out, lap, lco, hmv]
          have e4 : IntKind.i64.wrap (mv : Int) = (mv : Int) := wrap_fit mv (by have := HNL.out; have := HN.out; unfold maxLen; omega)
          have e5 : (mv : Int) < (mv : Int) + 1 := by omega
          have e5b : (0 : Int) < (mv : Int) + 1 := by omega
          have hmc : (mv : Int) ≤ (c2 : Int) := by have h1 := HNL.out.1; have h2 := HCL.out; omega
          by_cases hz : z = 0
          ·subst hz
           have HM := hid hmv
           clear hAx hlW hlen2
           go_wp2_with fail
           go_round
           case rel => exact ⟨D ++ [0], V, by rw [HM.out], by rw [HD2.out]; simp, by rw [← HTV.out, pop0_zero]⟩
           case measure => have h1 := HM.out; simp [sliceLen]; omega
          ·have f1 : ((z : Int) == 0) = false := by rw [beq_eq_false_iff_ne]; omega
           have hV : pop0 W2 = z :: V := by rw [← HTV.out]; exact pop0_cons hz
           have HM := hid (aIn hmv (aIn hV hlen2))
           have HF : Hid (bhc (z :: V) m2 (i + 1) (l.drop (i + 1)) = R) := by
            show _ = R
            rw [← HT.out, hV, if_neg (List.cons_ne_nil _ _)]
           have HW5 : Hid (Bt wb w.heap.size (.slice (some ⟨k, 0, none⟩) (mv + 1) c2) (z :: V)) := by
            have h1 := HW2.out
            rw [HD2.out] at h1
            have h2 := Bt.low h1
            rw [lco, hmv] at h2
            exact h2
           clear hAx hlW hlen2 hV
           go_wp2_with fail
           go_roundw
           case rel => exact ⟨i + 1, z :: V, m2, by go_num, rfl, by obtain ⟨j, hj⟩ := HII.out; omega, (by have h := HW5; rw [← HM.out.1] at h; exact h), pop0_cons hz, HF.out, HB2, by rw [lco, HM.out.1]; have h1 := HM.out.2.2; have h2 := HNL.out; omega, HM2.out⟩
           case measure => obtain ⟨j, hj⟩ := HII.out; simp [intOf]; omega
  ·obtain rfl : i = n := by omega
   have e1 : ¬ (i : Int) < (i : Int) := by omega
   have HF : Hid (R = (-1, m)) := by show R = _; rw [← HT.out, List.drop_eq_nil_of_le (by have := HN.out.2; omega)]; rfl
   clear hin hi
   go_wp2_with fail
   go_ret2
   exact ⟨by rw [HF.out]; rfl, HB.out⟩
theorem behind_any (l : List Ra) (v : Value) (w : World) (hS : SrO w v l) (hK : ∀ a ∈ l, a.num < 18446744073709551616) (hn : l.length ≤ 4096) :
  Calls Tryz.prog 63 #[v, .int .i64 0] w (fun e w' => e = .returned (.tuple #[.int .i64 (bhc [] 0 0 l).1, .int .i64 ((bhc [] 0 0 l).2 : Int)]) ∧ Below w.heap.size w w') := behind_at l 0 (Nat.zero_le _) v w hS hK hn
end Co
end Go.Proofs.YtikgonlhdkknkaaGreatDoor
