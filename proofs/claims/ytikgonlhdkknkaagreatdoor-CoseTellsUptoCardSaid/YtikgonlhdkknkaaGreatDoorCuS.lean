import Derived.Test.YtikgonlhdkknkaaGreatDoorCuJ
import Derived.Test.YtikgonlhdkknkaaGreatDoorCuD
set_option maxRecDepth 100000
set_option maxHeartbeats 1600000
set_option linter.unusedVariables false
set_option linter.unusedSimpArgs false
open Go.Lib (hid)
namespace Go.Proofs.YtikgonlhdkknkaaGreatDoor
open Go.RowKit
namespace Co
open Dr (Rs Lm has lack at0S)
theorem cencode_anyO (l : List Ra) (v : Value) (w : World) (hS : SrO w v l) (hN : ∀ a ∈ l, a.num < 18446744073709551616) (hb : ∀ a ∈ l, a.text.length ≤ 140737488351232) (hmax : l.length ≤ 140737488351232) (hU : UT w.heap.size w) :
  Calls Tryz.prog 24 #[v] w (RetEnc (enc Lib.validD l) w) := by
 obtain ⟨R0, hR0⟩ : ∃ R, enc Lib.validD l = R := ⟨_, rfl⟩
 rw [hR0]
 rw [enc] at hR0
 obtain ⟨n, hn0⟩ : ∃ n, l.length = n := ⟨_, rfl⟩
 obtain ⟨a, cap0, rfl, hl⟩ := hS
 have hnm : (n : Int) ≤ 140737488351232 := by omega
 by_cases h1 : 4096 < n
 ·have e1 : (4096 : Int) < (n : Int) := by omega
  have HR : Hid (R0 = ([], 10)) := by show R0 = _; rw [← hR0, if_pos (by rw [hn0]; exact h1)]
  rw [hn0]
  clear hR0 h1 hl hN hU hb hmax hn0
  go_enter Tryz.func24, Tryz.ntmps24
  go_wp2_with fail
  go_ret2
  exact ⟨⟨#[]⟩, by rw [HR.out]; rfl, by rw [HR.out]; exact tl_mk [], Below.refl _ _⟩
 ·have e1 : ¬ (4096 : Int) < (n : Int) := by omega
  rw [if_neg (by rw [hn0]; exact h1)] at hR0
  have HL := hid hl
  have HN := hid hn0
  have HNU := hid hN
  have HBD := hid hb
  have HU := hid hU
  have HGO : Hid (go Lib.validD false (l.drop 0) ini = R0) := hR0
  obtain ⟨g, hg⟩ : ∃ g, w.heap.size = g := ⟨_, rfl⟩
  have HW0 : Hid (Wt (w.alloc (Obj.cells #[.slice none 0 0, .slice none 0 0, .int .i64 0, .bool false, .bool true] 104)) g ini (.slice none 0 0) (.slice none 0 0)) := by
   rw [← hg]
   exact ⟨At.ofAlloc w #[.slice none 0 0, .slice none 0 0, .int .i64 0, .bool false, .bool true] 104, World.ownsRow_nil _ _ _ _, World.ownsRow_nil _ _ _ _, by simp⟩
  have HB0 : Hid (Below g w (w.alloc (Obj.cells #[.slice none 0 0, .slice none 0 0, .int .i64 0, .bool false, .bool true] 104))) := by rw [← hg]; exact (Below.refl _ _).alloc (nle _) _
  have HIV : Hid (TInv l 0 ini) := ⟨fun x hx => (by cases hx), Nat.zero_le _, Nat.zero_le _⟩
  have HG := hid hg
  have H1 := hid h1
  rw [hn0]
  clear hR0 h1 hl hN hU hb hmax hn0
  go_enter Tryz.func24, Tryz.ntmps24
  go_wp2_with fail
  clear hg
  go_loopw [13] (fun vi wr => ∃ (i : Nat) (t : Tl) (vo vs : Value), vi = .int .i64 (i : Int) ∧ i ≤ n ∧ Hid (Wt wr g t vo vs) ∧ Hid (TInv l i t) ∧ Hid (go Lib.validD false (l.drop i) t = R0) ∧ Hid (Below g w wr)) (fun vi _ => n - (intOf vi).toNat)
  case atStart => exact ⟨0, ini, _, _, rfl, Nat.zero_le _, HW0, HIV, HGO, HB0⟩
  case round =>
   obtain ⟨i, t, vo, vs, rfl, hi, HW, HIV, HGO, HB⟩ := hrel
   clear HW0 HB0
   by_cases hin : i < n
   ·have hil : i < l.length := by rw [HN.out]; exact hin
    obtain ⟨gL, oL, rfl, hAg, hgl0⟩ := HL.out (fun h => by rw [h] at hil; simp at hil)
    have hgl : gL < g := by rw [← HG.out]; exact hgl0
    have hNc := (rcell_atO hAg i hil).below HB.out hgl
    obtain ⟨x, hx⟩ : ∃ x, l.getD i ra0 = x := ⟨_, rfl⟩
    have hmem : x ∈ l := by rw [← hx]; exact rgetD_mem hil
    have hxn := HNU.out x hmem
    have hsum := wsum_take l i hil
    have hsum2 := wsum_le l (i + 1)
    have hbd := HBD.out
    have hdrop := rdrop_cons hil
    have hnext := HIV.out.next hil (by rw [hx]; exact hxn)
    rw [hx] at hNc hsum hdrop hnext
    rw [hdrop] at HGO
    obtain ⟨tx, htx⟩ : ∃ b : ByteArray, (⟨x.text.toArray⟩ : ByteArray) = b := ⟨_, rfl⟩
    have htl : tx.toList = x.text := by rw [← htx, tl_mk]
    have hts : tx.size = x.text.length := by rw [← tl_size, htl]
    have n0 := hNc.cell 0 _ rfl
    have n1 := hNc.cell 1 _ rfl
    have n2 := hNc.cell 2 _ rfl
    rw [Nat.add_zero] at n0
    rw [htx] at n2
    have hbnd : tx.size ≤ 140737488351232 := by rw [hts]; exact hbd x hmem
    obtain ⟨kk, hkk⟩ : ∃ kk, x.kind = kk := ⟨_, rfl⟩
    obtain ⟨num, hnum⟩ : ∃ num, x.num = num := ⟨_, rfl⟩
    rw [hkk] at n0
    rw [hnum] at n1
    have RT := hid (fun w' hU => cright_any kk num tx x.text htl (by omega) w' hU)
    have hxe : (⟨kk, num, x.text⟩ : Ra) = x := by rw [← hkk, ← hnum]
    rw [hxe] at RT
    have HUW := hid (((HU.out.below (by rw [HG.out]; exact HB.out)).mono (by rw [HG.out]; exact Nat.le_of_lt HW.out.lt)).at ((Below.refl wr.heap.size wr).alloc (nle _) (Obj.cells #[Value.int .i64 kk, Value.int .u64 (num : Int), Value.string tx] 60)))
    have HW1 := hid (HW.out.alloc (Obj.cells #[Value.int .i64 kk, Value.int .u64 (num : Int), Value.string tx] 60))
    have HT1 := hid (At.ofAlloc wr #[Value.int .i64 kk, Value.int .u64 (num : Int), Value.string tx] 60)
    have HB1 := hid (HB.out.alloc (Nat.le_of_lt HW.out.lt) (Obj.cells #[Value.int .i64 kk, Value.int .u64 (num : Int), Value.string tx] 60))
    have HWL := hid HW.out.lt
    have e2 : (i : Int) < (n : Int) := by omega
    have e9 : (i : Int) ≤ 4096 := by have := H1.out; omega
    have HII := hid (show ∃ j, n = i + 1 + j from ⟨n - i - 1, by omega⟩)
    cases hdn : t.done with
    | true =>
     have HF : Hid (R0 = ([], 9)) := by show R0 = _; rw [← HGO.out, go_done (.inl hdn)]
     have hd3 : ∀ ob, (wr.alloc ob).cell? ⟨g, 3, none⟩ = some (.bool true) := fun ob => by
      have h9 : (wr.alloc ob).cell? ⟨g, 0 + 3, none⟩ = some (.bool t.done) := (HW.out.alloc ob).at0.cell 3 _ rfl
      rw [hdn] at h9
      exact h9
     clear hNc hAg hgl hgl0 hx hmem hxn hsum hsum2 hbd hdrop hnext htx htl hts hbnd hkk hnum hxe hdn hin hil hi
     go_wp2_with fail
     go_ret2
     exact ⟨⟨#[]⟩, by rw [HF.out]; rfl, by rw [HF.out]; exact tl_mk [], by rw [HG.out]; exact HB1.out⟩
    | false =>
     have hd3 : ∀ ob, (wr.alloc ob).cell? ⟨g, 3, none⟩ = some (.bool false) := fun ob => by
      have h9 : (wr.alloc ob).cell? ⟨g, 0 + 3, none⟩ = some (.bool t.done) := (HW.out.alloc ob).at0.cell 3 _ rfl
      rw [hdn] at h9
      exact h9
     have hT0 := HT1.out.z 0 _ rfl
     have hT1 := HT1.out.cell 1 _ rfl
     have hT2 := HT1.out.cell 2 _ rfl
     cases hr : rightR Lib.validD x with
     | false =>
      have HF : Hid (R0 = ([], 9)) := by show R0 = _; rw [← HGO.out, go_done (.inr hr)]
      rw [hr] at RT
      clear hNc hAg hgl hgl0 hx hmem hxn hsum hsum2 hbd hdrop hnext htx htl hts hbnd hkk hnum hxe hdn hin hil hi hr
      go_wp2_with (first | (go_at_call 45; refine (RT.out _ HUW.out).mono ?_; rintro e w2 ⟨rfl, hb2⟩))
      go_ret2
      exact ⟨⟨#[]⟩, by rw [HF.out]; rfl, by rw [HF.out]; exact tl_mk [], by rw [HG.out]; exact HB1.out.trans (hb2.mono (by have := HWL.out; simp; omega))⟩
     | true =>
      obtain ⟨hok, hup⟩ := okA_dn (txt := Lib.validD) hxn (by omega) hr
      have HGN : Hid (go Lib.validD false (l.drop (i + 1)) (atomT false t (dn x)) = R0) := by
       show _ = R0
       rw [← HGO.out, go_next hdn hr]
      have hk2 : ((dn x).kind : Int) = kk := by rw [← hkk]; exact congrArg Ra.kind hup
      have hn2 : (dn x).num = num := hnum
      have AT := hid (fun w' vo vs hyp => atom_all w' g t vo vs (dn x) tx hyp)
      rw [hk2, hn2] at AT
      rw [hr] at RT
      have hk8 : (dn x).kind < 8 := by
       obtain ⟨-, -, h9⟩ := hok
       omega
      have HAH := hid (fun w' vo vs (hW' : Wt w' g t vo vs) => (show AtHyp w' g t vo vs (dn x) tx from ⟨hW', hdn, HIV.out.gd, hk8, by rw [hn2, ← hnum]; exact hxn, htl, hbnd, by have := HIV.out.gl; omega⟩))
      obtain ⟨t2, ht2⟩ : ∃ t2, atomT false t (dn x) = t2 := ⟨_, rfl⟩
      rw [ht2] at AT HGN hnext
      have HNX := hid hnext
      clear hNc hAg hgl hgl0 hx hmem hxn hsum hsum2 hbd hdrop hnext htx htl hts hbnd hkk hnum hxe hdn hin hil hi hr hok hup hk2 hn2 hk8 ht2
      go_wp2_with (first
       | (go_at_call 45; refine (RT.out _ HUW.out).mono ?_; rintro e w2 ⟨rfl, hb2⟩; have HW2 := hid (HW1.out.below hb2); have HT2 := HT1.out.below hb2 (by simp); have hy0 := HT2.z 0 _ rfl; have hy1 := HT2.cell 1 _ rfl; have hy2 := HT2.cell 2 _ rfl; have HB2 : Hid (Below g w w2) := HB1.out.trans (hb2.mono (by have := HWL.out; simp; omega)); clear hb2 HT2)
       | (go_at_call 46; refine (AT.out _ _ _ (HAH.out _ _ _ HW2.out)).mono ?_; rintro e w3 ⟨rfl, ⟨vo3, vs3, HW3⟩, HB3⟩))
      go_roundw
      case rel => exact ⟨i + 1, t2, vo3, vs3, by go_num, by obtain ⟨j, hj⟩ := HII.out; omega, HW3, HNX, HGN, HB2.out.trans HB3.out⟩
      case measure => obtain ⟨j, hj⟩ := HII.out; simp [intOf]; omega
   ·obtain rfl : i = n := by omega
    have e2 : ¬ (i : Int) < (i : Int) := by omega
    rw [List.drop_eq_nil_of_le (by rw [HN.out]; exact nle _)] at HGO
    have hR := HGO.out
    rw [go, fins] at hR
    obtain ⟨out, G, dp, dn, od⟩ := t
    dsimp only at hR
    have hout : wr.ownsRow (g + 1) 5 1 vo out.length (bcells out) := HW.out.out
    obtain ⟨oa, oc, rfl, -⟩ := own_form hout
    obtain ⟨m, hm⟩ : ∃ m, out.length = m := ⟨_, rfl⟩
    have hcv := run_convert_own (P := Tryz.prog) hout 102 9 Tryz.underlying102 Tryz.underlying5 Tryz.underlying9
    have c0 : wr.cell? ⟨g, 0 + 0, none⟩ = some (.slice oa out.length oc) := HW.out.at0.cell 0 _ rfl
    have c2 : wr.cell? ⟨g, 0 + 2, none⟩ = some (.int .i64 (dp : Int)) := HW.out.at0.cell 2 _ rfl
    have c3 : wr.cell? ⟨g, 0 + 3, none⟩ = some (.bool dn) := HW.out.at0.cell 3 _ rfl
    have c4 : wr.cell? ⟨g, 0 + 4, none⟩ = some (.bool od) := HW.out.at0.cell 4 _ rfl
    rw [hm] at hcv c0 hR
    clear hin hi hout HGO
    cases dn with
    | false =>
     have HF : Hid (R0 = ([], 9)) := by show R0 = _; rw [← hR, if_pos rfl]
     clear hR hm
     go_wp2_with fail
     go_ret2
     exact ⟨⟨#[]⟩, by rw [HF.out]; rfl, by rw [HF.out]; exact tl_mk [], by rw [HG.out]; exact HB.out⟩
    | true =>
     rw [if_neg (by decide)] at hR
     by_cases h32 : 32 < dp
     ·have HF : Hid (R0 = ([], 10)) := by show R0 = _; rw [← hR, if_pos (.inl h32)]
      have e3 : (32 : Int) < (dp : Int) := by omega
      clear hR hm h32
      go_wp2_with fail
      go_ret2
      exact ⟨⟨#[]⟩, by rw [HF.out]; rfl, by rw [HF.out]; exact tl_mk [], by rw [HG.out]; exact HB.out⟩
     ·have e3 : ¬ (32 : Int) < (dp : Int) := by omega
      have e3b : decide ((32 : Int) < (dp : Int)) = false := dfa e3
      by_cases h26 : 262144 < m
      ·have HF : Hid (R0 = ([], 10)) := by show R0 = _; rw [← hR, if_pos (.inr h26)]
       have e5 : (262144 : Int) < (m : Int) := by omega
       clear hR hm h32 h26
       go_wp2_with fail
       go_ret2
       exact ⟨⟨#[]⟩, by rw [HF.out]; rfl, by rw [HF.out]; exact tl_mk [], by rw [HG.out]; exact HB.out⟩
      ·have e5 : ¬ (262144 : Int) < (m : Int) := by omega
       have e5b : decide ((262144 : Int) < (m : Int)) = false := dfa e5
       rw [if_neg (by omega)] at hR
       clear hm h32 h26
       cases od with
       | false =>
        have HF : Hid (R0 = ([], 9)) := by show R0 = _; rw [← hR, if_pos rfl]
        clear hR
        go_wp2_with fail
        go_ret2
        exact ⟨⟨#[]⟩, by rw [HF.out]; rfl, by rw [HF.out]; exact tl_mk [], by rw [HG.out]; exact HB.out⟩
       | true =>
        have HF : Hid (R0 = (out, 0)) := by show R0 = _; rw [← hR, if_neg (by decide)]
        clear hR
        go_wp2_with fail
        go_ret2
        exact ⟨_, by rw [HF.out]; rfl, by rw [HF.out]; exact tl_mk _, by rw [HG.out]; exact HB.out⟩
end Co
end Go.Proofs.YtikgonlhdkknkaaGreatDoor
namespace Go.Proofs.YtikgonlhdkknkaaGreatDoor
open Go.RowKit
namespace Ce
open Co (Am Ra up rcells rv okA UT DecR)
open Dr (Rs)
def RetIt (g : Nat) (l : List Am) (w : World) (d i b r : Int) (e : Ending) (w' : World) : Prop :=
 ∃ H, (preE l = 0 → Hd (hdrN l) d i b r H) ∧ e = .returned (.int .i64 (itE l H)) ∧ Bg g w w' ∧
  (itE l H = 0 → ∃ vp vl, Mm g w' (fmtN l) 0 (.slice none 0 0) (bs (hdrN l)) (bs (looseN l)) ⟨#[]⟩ ⟨#[]⟩ (bs (headN l 2).text) (bs (tagN l)) d i b r vp vl (.slice none 0 0) ∧ Hdm (fun k => k = g) w' vp (prot (hdrN l) H) ∧ Hdm (fun k => k = g) w' vl (partN l 1))
theorem two_atoms {S : List UInt8} {l : List Am} {d : Nat} (h : Part d l S) (h6 : (l.getD 0 a0).kind = 6) : 1 < l.length := by
 cases l with
 | nil => exact absurd rfl h.ne
 | cons t l =>
  have ht : t.kind = 6 := h6
  obtain ⟨Ps, Bs, hF, hr, hn, hB⟩ := h.openB (by rw [ht]; rfl)
  have hn1 : Ps.length = 1 := by rw [hn, Co.need, if_pos ht]
  have := hF.len_le
  rw [hr, lco]
  omega
theorem citem_any (g Bu : Nat) (l : List Am) (S : List UInt8) (dd : Nat) (v : Value) (w : World) (d i b r : Int)
  (hM : Mm g w 0 0 (.slice none 0 0) ⟨#[]⟩ ⟨#[]⟩ ⟨#[]⟩ ⟨#[]⟩ ⟨#[]⟩ ⟨#[]⟩ d i b r (.slice none 0 0) (.slice none 0 0) (.slice none 0 0)) (hg : g < w.heap.size) (hv : WX (fun k => k = g) w v l) (ha : Apart S l dd) (hU : UT Bu w) (hBu : Bu ≤ g) :
  Calls Tryz.prog 15 #[.pointer (some ⟨g, 0, none⟩), v] w (RetIt g l w d i b r) := by
 have HM := hid hM
 have HG := hid hg
 have HAP := hid ha
 have HUT := hid (aIn hU hBu)
 obtain ⟨gl, ol, cl, rfl, hl1, hc1, hA, hgl, hgn⟩ := hv
 have HA := hid hA
 have HGL : Hid (gl < w.heap.size ∧ gl ≠ g ∧ l.length ≤ cl ∧ cl ≤ maxLen) := ⟨hgl, hgn, hl1, hc1⟩
 have hx := At.headA hA 0 (List.length_pos_iff.2 ha.one.ne)
 rw [Nat.zero_mul, Nat.add_zero] at hx
 obtain ⟨n, hn⟩ : ∃ n, l.length = n := ⟨_, rfl⟩
 have hn0 : 0 < n := by rw [← hn]; exact List.length_pos_iff.2 ha.one.ne
 have HN := hid hn
 obtain ⟨x, hxx⟩ : ∃ x, l.getD 0 a0 = x := ⟨_, rfl⟩
 rw [show l.getD 0 ⟨0, 0, []⟩ = x from hxx] at hx
 obtain ⟨kx, hkx⟩ : ∃ t, x.kind = t := ⟨_, rfl⟩
 obtain ⟨mx, hmx⟩ : ∃ t, x.num = t := ⟨_, rfl⟩
 rw [hkx, hmx] at hx
 have n0 := hx.cell 0 _ rfl
 have n1 := hx.cell 1 _ rfl
 rw [Nat.add_zero] at n0
 have HX : Hid ((l.getD 0 a0).kind = kx ∧ (l.getD 0 a0).num = mx) := ⟨by rw [hxx, hkx], by rw [hxx, hmx]⟩
 rw [hn]
 clear hM hg ha hU hBu hl1 hc1 hA hgl hgn hx hn hxx hkx hmx
 by_cases h6 : kx = 6
 case neg =>
  have f6 : ¬ (kx : Int) = 6 := by omega
  have f6b : ((kx : Int) != 6) = true := by simp; omega
  have HE : Hid (preE l = 9) := by show preE l = 9; rw [preE, HX.out.1, if_pos h6]
  clear h6
  go_enter Tryz.func15, Tryz.ntmps15
  go_wp2_with fail
  go_ret
  exact ⟨.ok [], fun h => (by rw [HE.out] at h; cases h), by rw [itE, if_pos (by rw [HE.out]; decide), HE.out]; rfl, Bg.refl _ _, fun h => by rw [itE, if_pos (by rw [HE.out]; decide), HE.out] at h; cases h⟩
 subst h6
 rw [show ((6 : Nat) : Int) = (6 : Int) from rfl] at n0
 have hmxe := HX.out.2
 by_cases h16 : mx = 16
 ·have hmx : 16 = mx := h16.symm
  subst hmx
  rw [show ((16 : Nat) : Int) = (16 : Int) from rfl] at n1
  have HFW : Hid (fmtN l = 5 ∧ wantN l = 3) := ⟨by rw [fmtN, HX.out.2]; rfl, by rw [wantN, HX.out.2]; rfl⟩
  have z0 := HM.out.zf 0 (by simp [mcells])
  have d0 := HM.out.z 0 _ rfl
  have hne : g ≠ gl := fun h => HGL.out.2.1 h.symm
  have HM1 := hid (HM.out.set 0 (.int .i64 5))
  have HB1 : Hid (Bg g w (w.setCell ⟨g, 0, none⟩ (.int .i64 5))) := (Bg.refl g w).set 0 _
  have hA1 := HA.out.other g 0 (.int .i64 5) (Or.inl hne)
  have h2 := two_atoms HAP.out.one (by rw [HX.out.1])
  have hx := At.headA hA1 1 h2
  have e1 : (1 : Int) < (n : Int) := by have := HN.out; omega
  obtain ⟨x1, hx1⟩ : ∃ x, l.getD 1 a0 = x := ⟨_, rfl⟩
  rw [show l.getD 1 ⟨0, 0, []⟩ = x1 from hx1] at hx
  obtain ⟨ky, hky⟩ : ∃ t, x1.kind = t := ⟨_, rfl⟩
  obtain ⟨my, hmy⟩ : ∃ t, x1.num = t := ⟨_, rfl⟩
  rw [hky, hmy] at hx
  have y0 := hx.cell 0 _ rfl
  have y1 := hx.cell 1 _ rfl
  rw [Nat.one_mul] at y0 y1
  rw [Nat.add_zero] at y0
  have HY : Hid ((l.getD 1 a0).kind = ky ∧ (l.getD 1 a0).num = my) := ⟨by rw [hx1, hky], by rw [hx1, hmy]⟩
  have HA1 := hid hA1
  have HG1 : Hid (g < (w.setCell ⟨g, 0, none⟩ (.int .i64 5)).heap.size ∧ gl < (w.setCell ⟨g, 0, none⟩ (.int .i64 5)).heap.size) := by rw [World.size_setCell]; exact ⟨HG.out, HGL.out.1⟩
  have HPRE : Hid (preE l = if ky ≠ 4 ∨ my ≠ 3 then 9 else if (l.getD 2 a0).kind ≠ 2 then 9 else 0) := by
   show preE l = _
   rw [preE, HX.out.1, HX.out.2, HFW.out.2, HY.out.1, HY.out.2, if_neg (by decide), if_neg (by decide)]
  clear hx hx1 hky hmy hne hA1 h2
  by_cases h4 : ky = 4
  case neg =>
   have f4 : ¬ (ky : Int) = 4 := by omega
   have f4b : ((ky : Int) != 4) = true := by simp; omega
   have HE : Hid (preE l = 9) := by show preE l = 9; rw [HPRE.out, if_pos (.inl h4)]
   clear h4
   go_enter Tryz.func15, Tryz.ntmps15
   go_wp2_with fail
   go_ret
   exact ⟨.ok [], fun h => (by rw [HE.out] at h; cases h), by rw [itE, if_pos (by rw [HE.out]; decide), HE.out]; rfl, HB1.out, fun h => by rw [itE, if_pos (by rw [HE.out]; decide), HE.out] at h; cases h⟩
  subst h4
  rw [show ((4 : Nat) : Int) = (4 : Int) from rfl] at y0
  by_cases h5 : my = 3
  case neg =>
   have f5 : ¬ (my : Int) = 3 := by omega
   have f5b : ((my : Int) != 3) = true := by simp; omega
   have HE : Hid (preE l = 9) := by show preE l = 9; rw [HPRE.out, if_pos (.inr h5)]
   clear h5
   go_enter Tryz.func15, Tryz.ntmps15
   go_wp2_with fail
   go_ret
   exact ⟨.ok [], fun h => (by rw [HE.out] at h; cases h), by rw [itE, if_pos (by rw [HE.out]; decide), HE.out]; rfl, HB1.out, fun h => by rw [itE, if_pos (by rw [HE.out]; decide), HE.out] at h; cases h⟩
  subst h5
  rw [show ((3 : Nat) : Int) = (3 : Int) from rfl] at y1
  obtain ⟨Ps, Bs, hLd⟩ := laid HAP.out.one HX.out.1 HY.out.1 (by rw [HY.out.2, HFW.out.2])
  have HLD := hid hLd
  have hl1 : l.drop 1 = l.getD 1 a0 :: Ps.flatten := (congrArg (List.drop 1) hLd.eq).trans rfl
  have hdl : (l.drop 1).length = n - 1 := by rw [List.length_drop, HN.out]
  have hAd := At.dropA HA1.out 1 (by have := HN.out; omega)
  rw [Nat.one_mul] at hAd
  have hcl := HGL.out.2.2
  have hnl := HAP.out.len
  have WI := hid (cwithin_any (fun k => k = g) (l.drop 1) _ dd Ps Bs gl (ol + 3) (cl - 1) _ hAd HG1.out.2 (by rw [hdl]; have := HN.out; omega) (by omega) (by rw [hdl]; have := HN.out; omega) hl1 hLd.fo HGL.out.2.1)
  rw [hdl] at WI
  have f6 : ¬ cl = 1 := by have := HN.out; omega
  have e2 : (1 : Int) ≤ (n : Int) := by omega
  have e3 : (n : Int) ≤ (cl : Int) := by have := HN.out; omega
  clear hLd hl1 hdl hAd hnl hcl
  go_enter Tryz.func15, Tryz.ntmps15
  go_wp2_with fail
  refine WI.out.mono ?_
  rintro e w2 ⟨v, vs, rfl, ho, hS, hb2⟩
  have hcnt : Ps.length = 3 := by rw [HLD.out.cnt, HFW.out.2]
  rw [hcnt] at ho
  obtain ⟨av, cv, rfl, hav⟩ := own_form ho
  obtain ⟨gv, rfl⟩ := hav (by decide)
  obtain ⟨v0, hv0, hw0⟩ := hS.get 0 (by rw [hcnt]; decide)
  obtain ⟨v1, hv1, hw1⟩ := hS.get 1 (by rw [hcnt]; decide)
  obtain ⟨v2, hv2, hw2⟩ := hS.get 2 (by rw [hcnt]; decide)
  obtain ⟨vL, hvL, hwL⟩ := hS.get (3 - 1) (by rw [hcnt]; decide)
  have hcap : 3 ≤ cv := by
   rcases ho.2 with ⟨h, _⟩ | ⟨q, cap, cur, h, _, _, h3, h4, _⟩
   ·cases h
   ·cases h; exact h3
  have HPN : Hid (∀ j, partN l j = Ps.getD j []) := fun j => by rw [partN, HLD.out.parts]
  rw [← HPN.out] at hw0 hw1 hw2 hwL
  have hpa : ∀ j, j < 3 → Apart (Bs.getD j []) (partN l j) dd := fun j hj => HLD.out.part HAP.out j (by rw [HFW.out.2]; exact hj)
  have HPA := hid hpa
  have hgv := ho.lt gv rfl
  have c0 := ho.cellAt 0 (by decide)
  have c1 := ho.cellAt 1 (by decide)
  have c2 := ho.cellAt 2 (by decide)
  have cL := ho.cellAt (3 - 1) (by decide)
  rw [hv0] at c0
  rw [hv1] at c1
  rw [hv2] at c2
  rw [hvL] at cL
  have HM2 := hid (HM1.out.below hb2 HG1.out.1)
  have HB2 : Hid (Bg g w w2) := HB1.out.trans (Bg.of hb2)
  have HG2 : Hid (g < w2.heap.size ∧ gv < w2.heap.size ∧ gv ≠ g) := ⟨nlt HG1.out.1 hb2.size, hgv.2, by have h1 := hgv.1; have h2 := HG1.out.1; omega⟩
  have HW0 := hid (hw0.below hb2)
  have HW1 := hid (hw1.below hb2)
  have HW2 := hid (hw2.below hb2)
  have HWL := hid (hwL.below hb2)
  have HCC : Hid (w2.cell? ⟨gv, 1, none⟩ = some v1 ∧ w2.cell? ⟨gv, 2, none⟩ = some v2 ∧ w2.cell? ⟨gv, 3 - 1, none⟩ = some vL) := ⟨c1, c2, cL⟩
  have HCV := hid hcap
  have HIS : Hid (isSl v1 ∧ isSl v2 ∧ isSl vL) := ⟨hw1.isSl, hw2.isSl, hwL.isSl⟩
  have HL2 : Hid (l.getD 2 a0 = (partN l 0).headD a0) := by
   show _ = _
   have h9 := head_cons (hpa 0 (by decide)).one.ne
   have h8 := HLD.out.eq
   have h7 : Ps.flatten = Ps.getD 0 [] ++ (Ps.tail).flatten := by
    cases Ps with
    | nil => exact absurd hcnt (by decide)
    | cons P Ps => rfl
   rw [h7, ← HPN.out 0, h9] at h8
   exact (congrArg (fun x => x.getD 2 a0) h8).trans rfl
  obtain ⟨g0, o0, q0, r0, rfl, hq0, hx0, hg0, hn0'⟩ := HW0.out.head (hpa 0 (by decide)).one.ne
  rw [← HL2.out] at hx0
  obtain ⟨a, ha⟩ : ∃ a, l.getD 2 a0 = a := ⟨_, rfl⟩
  rw [ha] at hx0
  have HAA := hid ha
  have hal : a ∈ l := by
   have h9 := head_cons (hpa 0 (by decide)).one.ne
   rw [← ha, HL2.out]
   have hin : ∀ y, y ∈ l.getD 0 a0 :: l.getD 1 a0 :: Ps.flatten → y ∈ l := fun y hy => by rw [HLD.out.eq]; exact hy
   refine hin _ (List.mem_cons_of_mem _ (List.mem_cons_of_mem _ (List.mem_flatten.2 ⟨partN l 0, ?_, by rw [h9]; exact List.mem_cons_self ..⟩)))
   rw [HPN.out 0, List.getD, List.getElem?_eq_getElem (by rw [hcnt]; decide)]
   exact List.getElem_mem _
  have x0 := hx0.cell 0 _ rfl
  have x1 := hx0.cell 1 _ rfl
  have x2 := hx0.cell 2 _ rfl
  rw [Nat.add_zero] at x0
  have CH := hid (cheader_any g Bu a w2 5 0 (.slice none 0 0) ⟨#[]⟩ ⟨#[]⟩ ⟨#[]⟩ ⟨#[]⟩ ⟨#[]⟩ ⟨#[]⟩ d i b r (.slice none 0 0) (.slice none 0 0) HM2.out HG2.out.1 (HUT.out.1.below (HB2.out.to HUT.out.2 (Nat.le_trans HUT.out.2 (Nat.le_of_lt HG.out)))) HUT.out.2 (HAP.out.okL a hal).2.2)
  obtain ⟨ak, hak⟩ : ∃ t : Int, (a.kind : Int) = t := ⟨_, rfl⟩
  obtain ⟨an, han⟩ : ∃ t : Int, (a.num : Int) = t := ⟨_, rfl⟩
  obtain ⟨ax, hax⟩ : ∃ t, bs a.text = t := ⟨_, rfl⟩
  rw [hak, han, hax] at CH
  rw [hak] at x0
  rw [han] at x1
  rw [hax] at x2
  have HAX := hid (aIn hak (aIn han hax))
  clear hS ho hav hv0 hv1 hv2 hvL hw0 hw1 hw2 hwL hcap hpa hgv hb2 c1 c2 cL hx0 hg0 hn0' ha hal hcnt hak han hax f6 e2 e3
  go_wp2_with fail
  refine CH.out.mono ?_
  rintro e w3 ⟨H, hHd, rfl, hB3, hok⟩
  obtain ⟨cc, hcc⟩ : ∃ c : Int, (if a.kind ≠ 2 then 9 else hdE a.text H) = c := ⟨_, rfl⟩
  rw [hcc]
  have HB3 : Hid (Bg g w w3) := HB2.out.trans hB3
  have HPRE2 : Hid (preE l = if a.kind ≠ 2 then 9 else 0) := by show preE l = _; rw [HPRE.out, if_neg (by simp), HAA.out]
  have HITE : Hid (itE l H = if cc ≠ 0 then cc else posE l) := by
   show itE l H = _
   rw [itE, HPRE2.out]
   by_cases h : a.kind = 2
   ·rw [if_neg (show ¬ a.kind ≠ 2 by simp [h]), if_neg (by decide)]
    rw [if_neg (by simp [h])] at hcc
    rw [show hdrN l = a.text from by rw [hdrN, HAA.out], hcc]
   ·rw [if_pos (show a.kind ≠ 2 from h), if_pos (by decide)]
    rw [if_pos h] at hcc
    subst hcc
    rfl
  have HHD : Hid (preE l = 0 → Hd (hdrN l) d i b r H) := fun h0 => by
   rw [HPRE2.out] at h0
   by_cases h : a.kind = 2
   ·rw [show hdrN l = a.text from by rw [hdrN, HAA.out]]; exact hHd h
   ·rw [if_pos h] at h0; cases h0
  by_cases hc : cc = 0
  case neg =>
   have f1 : (cc != 0) = true := by simpa using hc
   have HE : Hid (itE l H = cc) := by show _ = _; rw [HITE.out, if_pos hc]
   have HCN := hid hc
   clear hHd hok hcc hc hB3
   go_wp2_with fail
   go_ret
   exact ⟨H, HHD.out, by rw [HE.out]; rfl, HB3.out, fun h => absurd (HE.out ▸ h) HCN.out⟩
  subst hc
  have hk2 : a.kind = 2 := by
   by_cases h : a.kind = 2
   ·exact h
   ·rw [if_pos h] at hcc; cases hcc
  rw [if_neg (by simp [hk2])] at hcc
  obtain ⟨vp', hM3, hHp⟩ := hok hk2 hcc
  have HM3 := hid hM3
  have HHP := hid hHp
  have HB23 := hid hB3
  have HG3 : Hid (g < w3.heap.size ∧ gv < w3.heap.size) := ⟨nlt HG2.out.1 hB3.size, nlt HG2.out.2.1 hB3.size⟩
  have HITE2 : Hid (itE l H = posE l) := by show _ = _; rw [HITE.out, if_neg (by simp)]
  have hcell : ∀ j u, w2.cell? ⟨gv, j, none⟩ = some u → w3.cell? ⟨gv, j, none⟩ = some u := fun j u h => by
   have h1 := hB3.keep gv HG2.out.2.1 HG2.out.2.2
   rw [World.cell?] at h ⊢
   simp only at h ⊢
   rw [h1]; exact h
  have c1 := hcell 1 _ HCC.out.1
  have c2 := hcell 2 _ HCC.out.2.1
  have cL := hcell (3 - 1) _ HCC.out.2.2
  have HW13 := hid (HW1.out.bg hB3)
  have HW23 := hid (HW2.out.bg hB3)
  have HWL3 := hid (HWL.out.bg hB3)
  obtain ⟨g1, o1, q1, r1, rfl, hq1, hx1, hg1, hn1⟩ := HW13.out.head (HPA.out 1 (by decide)).one.ne
  obtain ⟨p2a, p2b, p2c, rfl⟩ := HIS.out.2.1
  have z14 := HM3.out.zf 14 (by simp [mcells])
  have d14 := HM3.out.z 14 _ rfl
  have HM4 := hid (HM3.out.set 14 (.slice (some ⟨g1, o1, none⟩) q1 r1))
  have HB4 := hid (HB3.out.set 14 (.slice (some ⟨g1, o1, none⟩) q1 r1))
  have HB34 : Hid (Bg g w3 (w3.setCell ⟨g, 14, none⟩ (.slice (some ⟨g1, o1, none⟩) q1 r1))) := (Bg.refl g w3).set 14 _
  have d14b := HM4.out.z 14 _ rfl
  have hx4 := At.bg hx1 HB34.out hg1 hn1
  obtain ⟨bk, hbk⟩ : ∃ t : Nat, (headN l 1).kind = t := ⟨_, rfl⟩
  rw [show (partN l 1).headD a0 = headN l 1 from rfl, hbk] at hx4
  have b0 := hx4.cell 0 _ rfl
  rw [Nat.add_zero] at b0
  have HBK := hid hbk
  have HPOS : Hid (posE l = if bk ≠ 5 then 9 else txE (headN l 2) (headN l (3 - 1))) := by
   show posE l = _
   rw [posE, hbk, HFW.out.2, txE]
  clear hHd hok hcc hk2 hM3 hHp hB3 hcell hx1 hx4 hg1 hn1 hbk
  by_cases h5 : bk = 5
  case neg =>
   have f5 : ¬ (bk : Int) = 5 := by omega
   have f5b : ((bk : Int) != 5) = true := by simp; omega
   have HE : Hid (itE l H = 9) := by show _ = _; rw [HITE2.out, HPOS.out, if_pos h5]
   clear h5
   go_wp2_with fail
   go_ret
   exact ⟨H, HHD.out, by rw [HE.out]; rfl, HB4.out, fun h => by rw [HE.out] at h; cases h⟩
  subst h5
  rw [show ((5 : Nat) : Int) = (5 : Int) from rfl] at b0
  obtain ⟨w4, hw4⟩ : ∃ x, w3.setCell ⟨g, 14, none⟩ (.slice (some ⟨g1, o1, none⟩) q1 r1) = x := ⟨_, rfl⟩
  rw [hw4] at HM4 HB4 HB34 d14b b0
  have HG4 : Hid (g < w4.heap.size ∧ gv < w4.heap.size) := by rw [← hw4, World.size_setCell]; exact HG3.out
  have HW14 := hid (HW13.out.bg HB34.out)
  have hro := Co.read_ok (HPA.out 1 (by decide)).dec
  have hU4 : UT w4.heap.size w4 := (HUT.out.1.below (HB4.out.to HUT.out.2 (Nat.le_trans HUT.out.2 (Nat.le_of_lt HG.out)))).mono (Nat.le_trans HUT.out.2 (Nat.le_of_lt HG4.out.1))
  have EN := hid (Co.cencode_anyO ((partN l 1).map up) _ w4 HW14.out.wl.sr hro.2.1 hro.2.2.1 (by rw [List.length_map]; have := hro.2.2.2; omega) hU4)
  have HLO : Hid (Co.enc Lib.validD ((partN l 1).map up) = (looseN l, 0)) := by
   show _ = _
   rw [looseN, hro.1]
  rw [HLO.out] at EN
  clear hro hU4
  go_upto_region 20 with fail
  try rw [hw4]
  clear hw4 z14 d14
  go_wp2_with fail
  refine EN.out.mono ?_
  rintro e w5 ⟨s, rfl, hs, hb5⟩
  have HM5 := hid (HM4.out.below hb5 HG4.out.1)
  have HB5 : Hid (Bg g w w5) := HB4.out.trans (Bg.of hb5)
  have HB35 : Hid (Bg g w3 w5) := HB34.out.trans (Bg.of hb5)
  have HG5 : Hid (g < w5.heap.size ∧ gv < w5.heap.size) := ⟨nlt HG4.out.1 hb5.size, nlt HG4.out.2 hb5.size⟩
  have z4 := HM5.out.zf 4 (by simp [mcells])
  have d4 := HM5.out.z 4 _ rfl
  have HM6 := hid (HM5.out.set 4 (.string s))
  have HB6 := hid (HB5.out.set 4 (.string s))
  have HB36 := hid (HB35.out.set 4 (.string s))
  have HSS : Hid (s = bs (looseN l)) := by show _ = _; rw [show looseN l = s.toList from hs.symm, bs_of]
  obtain ⟨w6, hw6⟩ : ∃ x, w5.setCell ⟨g, 4, none⟩ (.string s) = x := ⟨_, rfl⟩
  rw [hw6] at HM6 HB6 HB36
  have HG6 : Hid (g < w6.heap.size ∧ gv < w6.heap.size) := by rw [← hw6, World.size_setCell]; exact HG5.out
  have hcell : ∀ j u, w3.cell? ⟨gv, j, none⟩ = some u → w6.cell? ⟨gv, j, none⟩ = some u := fun j u h => by
   have h1 := HB36.out.keep gv HG3.out.2 HG2.out.2.2
   rw [World.cell?] at h ⊢
   simp only at h ⊢
   rw [h1]; exact h
  have c26 := hcell 2 _ c2
  have cL6 := hcell (3 - 1) _ cL
  have HW26 := hid (HW23.out.bg HB36.out)
  have HWL6 := hid (HWL3.out.bg HB36.out)
  have CT := hid (ctexts_any g gv 2 1 (cv - 2) _ _ (partN l 2) (partN l (3 - 1)) w6 5 0 (.slice none 0 0) ax s ⟨#[]⟩ ⟨#[]⟩ ⟨#[]⟩ ⟨#[]⟩ d i b r vp' _ (.slice none 0 0) (by rw [← HAX.out.2.2]; exact HM6.out) HG6.out.1 (by decide) c26 cL6 HW26.out HWL6.out (HPA.out 2 (by decide)).one.ne (HPA.out (3 - 1) (by decide)).one.ne)
  obtain ⟨TE, hTE⟩ : ∃ t, txE ((partN l 2).headD a0) ((partN l (3 - 1)).headD a0) = t := ⟨_, rfl⟩
  rw [hTE] at CT
  have HTE := hid hTE
  clear hTE
  have f7 : ¬ cv = 2 := by have := HCV.out; omega
  have f8 : (2 : Int) ≤ (cv : Int) := by have := HCV.out; omega
  have f9 : (3 : Int) ≤ (cv : Int) := by have := HCV.out; omega
  clear hs hb5 hcell c1 c2 cL
  go_upto_region 21 with fail
  try rw [hw6]
  clear hw6 z4 d4 c26 cL6
  go_wp2_with fail
  refine CT.out.mono ?_
  rintro e w7 ⟨rfl, hB7, hok⟩
  have HE : Hid (itE l H = TE) := by show _ = _; rw [HITE2.out, HPOS.out, if_neg (by simp), ← HTE.out]; rfl
  have HOK := hid hok
  have HB67 := hid hB7
  clear hok hB7
  go_wp2_with fail
  go_ret
  refine ⟨H, HHD.out, by rw [HE.out]; rfl, HB6.out.trans HB67.out, fun h0 => ⟨vp', .slice (some ⟨g1, o1, none⟩) q1 r1, ?_, ?_, ?_⟩⟩
  ·rw [HE.out] at h0
   have h9 := HOK.out h0
   rw [show hdrN l = a.text from by rw [hdrN, HAA.out], HAX.out.2.2, ← HSS.out, HFW.out.1]
   rw [show bs (tagN l) = (if (5 : Int) = 6 then bs ((partN l (3 - 1)).headD a0).text else ⟨#[]⟩) from by rw [tagN, HFW.out.1]; rfl]
   exact h9
  ·rw [show hdrN l = a.text from by rw [hdrN, HAA.out]]
   exact (HHP.out.bg HB36.out).bg HB67.out
  ·exact .inr ⟨((HW13.out.bg HB36.out)).bg HB67.out, ⟨_, _, (HPA.out 1 (by decide)).one⟩, HBK.out, (HPA.out 1 (by decide)).len, (HPA.out 1 (by decide)).okL⟩
 by_cases h17 : mx = 17
 ·have hmx : 17 = mx := h17.symm
  subst hmx
  rw [show ((17 : Nat) : Int) = (17 : Int) from rfl] at n1
  have HFW : Hid (fmtN l = 6 ∧ wantN l = 4) := ⟨by rw [fmtN, HX.out.2]; rfl, by rw [wantN, HX.out.2]; rfl⟩
  have z0 := HM.out.zf 0 (by simp [mcells])
  have d0 := HM.out.z 0 _ rfl
  have hne : g ≠ gl := fun h => HGL.out.2.1 h.symm
  have HM1 := hid (HM.out.set 0 (.int .i64 6))
  have HB1 : Hid (Bg g w (w.setCell ⟨g, 0, none⟩ (.int .i64 6))) := (Bg.refl g w).set 0 _
  have hA1 := HA.out.other g 0 (.int .i64 6) (Or.inl hne)
  have h2 := two_atoms HAP.out.one (by rw [HX.out.1])
  have hx := At.headA hA1 1 h2
  have e1 : (1 : Int) < (n : Int) := by have := HN.out; omega
  obtain ⟨x1, hx1⟩ : ∃ x, l.getD 1 a0 = x := ⟨_, rfl⟩
  rw [show l.getD 1 ⟨0, 0, []⟩ = x1 from hx1] at hx
  obtain ⟨ky, hky⟩ : ∃ t, x1.kind = t := ⟨_, rfl⟩
  obtain ⟨my, hmy⟩ : ∃ t, x1.num = t := ⟨_, rfl⟩
  rw [hky, hmy] at hx
  have y0 := hx.cell 0 _ rfl
  have y1 := hx.cell 1 _ rfl
  rw [Nat.one_mul] at y0 y1
  rw [Nat.add_zero] at y0
  have HY : Hid ((l.getD 1 a0).kind = ky ∧ (l.getD 1 a0).num = my) := ⟨by rw [hx1, hky], by rw [hx1, hmy]⟩
  have HA1 := hid hA1
  have HG1 : Hid (g < (w.setCell ⟨g, 0, none⟩ (.int .i64 6)).heap.size ∧ gl < (w.setCell ⟨g, 0, none⟩ (.int .i64 6)).heap.size) := by rw [World.size_setCell]; exact ⟨HG.out, HGL.out.1⟩
  have HPRE : Hid (preE l = if ky ≠ 4 ∨ my ≠ 4 then 9 else if (l.getD 2 a0).kind ≠ 2 then 9 else 0) := by
   show preE l = _
   rw [preE, HX.out.1, HX.out.2, HFW.out.2, HY.out.1, HY.out.2, if_neg (by decide), if_neg (by decide)]
  clear hx hx1 hky hmy hne hA1 h2
  by_cases h4 : ky = 4
  case neg =>
   have f4 : ¬ (ky : Int) = 4 := by omega
   have f4b : ((ky : Int) != 4) = true := by simp; omega
   have HE : Hid (preE l = 9) := by show preE l = 9; rw [HPRE.out, if_pos (.inl h4)]
   clear h4
   go_enter Tryz.func15, Tryz.ntmps15
   go_wp2_with fail
   go_ret
   exact ⟨.ok [], fun h => (by rw [HE.out] at h; cases h), by rw [itE, if_pos (by rw [HE.out]; decide), HE.out]; rfl, HB1.out, fun h => by rw [itE, if_pos (by rw [HE.out]; decide), HE.out] at h; cases h⟩
  subst h4
  rw [show ((4 : Nat) : Int) = (4 : Int) from rfl] at y0
  by_cases h5 : my = 4
  case neg =>
   have f5 : ¬ (my : Int) = 4 := by omega
   have f5b : ((my : Int) != 4) = true := by simp; omega
   have HE : Hid (preE l = 9) := by show preE l = 9; rw [HPRE.out, if_pos (.inr h5)]
   clear h5
   go_enter Tryz.func15, Tryz.ntmps15
   go_wp2_with fail
   go_ret
   exact ⟨.ok [], fun h => (by rw [HE.out] at h; cases h), by rw [itE, if_pos (by rw [HE.out]; decide), HE.out]; rfl, HB1.out, fun h => by rw [itE, if_pos (by rw [HE.out]; decide), HE.out] at h; cases h⟩
  subst h5
  rw [show ((4 : Nat) : Int) = (4 : Int) from rfl] at y1
  obtain ⟨Ps, Bs, hLd⟩ := laid HAP.out.one HX.out.1 HY.out.1 (by rw [HY.out.2, HFW.out.2])
  have HLD := hid hLd
  have hl1 : l.drop 1 = l.getD 1 a0 :: Ps.flatten := (congrArg (List.drop 1) hLd.eq).trans rfl
  have hdl : (l.drop 1).length = n - 1 := by rw [List.length_drop, HN.out]
  have hAd := At.dropA HA1.out 1 (by have := HN.out; omega)
  rw [Nat.one_mul] at hAd
  have hcl := HGL.out.2.2
  have hnl := HAP.out.len
  have WI := hid (cwithin_any (fun k => k = g) (l.drop 1) _ dd Ps Bs gl (ol + 3) (cl - 1) _ hAd HG1.out.2 (by rw [hdl]; have := HN.out; omega) (by omega) (by rw [hdl]; have := HN.out; omega) hl1 hLd.fo HGL.out.2.1)
  rw [hdl] at WI
  have f6 : ¬ cl = 1 := by have := HN.out; omega
  have e2 : (1 : Int) ≤ (n : Int) := by omega
  have e3 : (n : Int) ≤ (cl : Int) := by have := HN.out; omega
  clear hLd hl1 hdl hAd hnl hcl
  go_enter Tryz.func15, Tryz.ntmps15
  go_wp2_with fail
  refine WI.out.mono ?_
  rintro e w2 ⟨v, vs, rfl, ho, hS, hb2⟩
  have hcnt : Ps.length = 4 := by rw [HLD.out.cnt, HFW.out.2]
  rw [hcnt] at ho
  obtain ⟨av, cv, rfl, hav⟩ := own_form ho
  obtain ⟨gv, rfl⟩ := hav (by decide)
  obtain ⟨v0, hv0, hw0⟩ := hS.get 0 (by rw [hcnt]; decide)
  obtain ⟨v1, hv1, hw1⟩ := hS.get 1 (by rw [hcnt]; decide)
  obtain ⟨v2, hv2, hw2⟩ := hS.get 2 (by rw [hcnt]; decide)
  obtain ⟨vL, hvL, hwL⟩ := hS.get (4 - 1) (by rw [hcnt]; decide)
  have hcap : 4 ≤ cv := by
   rcases ho.2 with ⟨h, _⟩ | ⟨q, cap, cur, h, _, _, h3, h4, _⟩
   ·cases h
   ·cases h; exact h3
  have HPN : Hid (∀ j, partN l j = Ps.getD j []) := fun j => by rw [partN, HLD.out.parts]
  rw [← HPN.out] at hw0 hw1 hw2 hwL
  have hpa : ∀ j, j < 4 → Apart (Bs.getD j []) (partN l j) dd := fun j hj => HLD.out.part HAP.out j (by rw [HFW.out.2]; exact hj)
  have HPA := hid hpa
  have hgv := ho.lt gv rfl
  have c0 := ho.cellAt 0 (by decide)
  have c1 := ho.cellAt 1 (by decide)
  have c2 := ho.cellAt 2 (by decide)
  have cL := ho.cellAt (4 - 1) (by decide)
  rw [hv0] at c0
  rw [hv1] at c1
  rw [hv2] at c2
  rw [hvL] at cL
  have HM2 := hid (HM1.out.below hb2 HG1.out.1)
  have HB2 : Hid (Bg g w w2) := HB1.out.trans (Bg.of hb2)
  have HG2 : Hid (g < w2.heap.size ∧ gv < w2.heap.size ∧ gv ≠ g) := ⟨nlt HG1.out.1 hb2.size, hgv.2, by have h1 := hgv.1; have h2 := HG1.out.1; omega⟩
  have HW0 := hid (hw0.below hb2)
  have HW1 := hid (hw1.below hb2)
  have HW2 := hid (hw2.below hb2)
  have HWL := hid (hwL.below hb2)
  have HCC : Hid (w2.cell? ⟨gv, 1, none⟩ = some v1 ∧ w2.cell? ⟨gv, 2, none⟩ = some v2 ∧ w2.cell? ⟨gv, 4 - 1, none⟩ = some vL) := ⟨c1, c2, cL⟩
  have HCV := hid hcap
  have HIS : Hid (isSl v1 ∧ isSl v2 ∧ isSl vL) := ⟨hw1.isSl, hw2.isSl, hwL.isSl⟩
  have HL2 : Hid (l.getD 2 a0 = (partN l 0).headD a0) := by
   show _ = _
   have h9 := head_cons (hpa 0 (by decide)).one.ne
   have h8 := HLD.out.eq
   have h7 : Ps.flatten = Ps.getD 0 [] ++ (Ps.tail).flatten := by
    cases Ps with
    | nil => exact absurd hcnt (by decide)
    | cons P Ps => rfl
   rw [h7, ← HPN.out 0, h9] at h8
   exact (congrArg (fun x => x.getD 2 a0) h8).trans rfl
  obtain ⟨g0, o0, q0, r0, rfl, hq0, hx0, hg0, hn0'⟩ := HW0.out.head (hpa 0 (by decide)).one.ne
  rw [← HL2.out] at hx0
  obtain ⟨a, ha⟩ : ∃ a, l.getD 2 a0 = a := ⟨_, rfl⟩
  rw [ha] at hx0
  have HAA := hid ha
  have hal : a ∈ l := by
   have h9 := head_cons (hpa 0 (by decide)).one.ne
   rw [← ha, HL2.out]
   have hin : ∀ y, y ∈ l.getD 0 a0 :: l.getD 1 a0 :: Ps.flatten → y ∈ l := fun y hy => by rw [HLD.out.eq]; exact hy
   refine hin _ (List.mem_cons_of_mem _ (List.mem_cons_of_mem _ (List.mem_flatten.2 ⟨partN l 0, ?_, by rw [h9]; exact List.mem_cons_self ..⟩)))
   rw [HPN.out 0, List.getD, List.getElem?_eq_getElem (by rw [hcnt]; decide)]
   exact List.getElem_mem _
  have x0 := hx0.cell 0 _ rfl
  have x1 := hx0.cell 1 _ rfl
  have x2 := hx0.cell 2 _ rfl
  rw [Nat.add_zero] at x0
  have CH := hid (cheader_any g Bu a w2 6 0 (.slice none 0 0) ⟨#[]⟩ ⟨#[]⟩ ⟨#[]⟩ ⟨#[]⟩ ⟨#[]⟩ ⟨#[]⟩ d i b r (.slice none 0 0) (.slice none 0 0) HM2.out HG2.out.1 (HUT.out.1.below (HB2.out.to HUT.out.2 (Nat.le_trans HUT.out.2 (Nat.le_of_lt HG.out)))) HUT.out.2 (HAP.out.okL a hal).2.2)
  obtain ⟨ak, hak⟩ : ∃ t : Int, (a.kind : Int) = t := ⟨_, rfl⟩
  obtain ⟨an, han⟩ : ∃ t : Int, (a.num : Int) = t := ⟨_, rfl⟩
  obtain ⟨ax, hax⟩ : ∃ t, bs a.text = t := ⟨_, rfl⟩
  rw [hak, han, hax] at CH
  rw [hak] at x0
  rw [han] at x1
  rw [hax] at x2
  have HAX := hid (aIn hak (aIn han hax))
  clear hS ho hav hv0 hv1 hv2 hvL hw0 hw1 hw2 hwL hcap hpa hgv hb2 c1 c2 cL hx0 hg0 hn0' ha hal hcnt hak han hax f6 e2 e3
  go_wp2_with fail
  refine CH.out.mono ?_
  rintro e w3 ⟨H, hHd, rfl, hB3, hok⟩
  obtain ⟨cc, hcc⟩ : ∃ c : Int, (if a.kind ≠ 2 then 9 else hdE a.text H) = c := ⟨_, rfl⟩
  rw [hcc]
  have HB3 : Hid (Bg g w w3) := HB2.out.trans hB3
  have HPRE2 : Hid (preE l = if a.kind ≠ 2 then 9 else 0) := by show preE l = _; rw [HPRE.out, if_neg (by simp), HAA.out]
  have HITE : Hid (itE l H = if cc ≠ 0 then cc else posE l) := by
   show itE l H = _
   rw [itE, HPRE2.out]
   by_cases h : a.kind = 2
   ·rw [if_neg (show ¬ a.kind ≠ 2 by simp [h]), if_neg (by decide)]
    rw [if_neg (by simp [h])] at hcc
    rw [show hdrN l = a.text from by rw [hdrN, HAA.out], hcc]
   ·rw [if_pos (show a.kind ≠ 2 from h), if_pos (by decide)]
    rw [if_pos h] at hcc
    subst hcc
    rfl
  have HHD : Hid (preE l = 0 → Hd (hdrN l) d i b r H) := fun h0 => by
   rw [HPRE2.out] at h0
   by_cases h : a.kind = 2
   ·rw [show hdrN l = a.text from by rw [hdrN, HAA.out]]; exact hHd h
   ·rw [if_pos h] at h0; cases h0
  by_cases hc : cc = 0
  case neg =>
   have f1 : (cc != 0) = true := by simpa using hc
   have HE : Hid (itE l H = cc) := by show _ = _; rw [HITE.out, if_pos hc]
   have HCN := hid hc
   clear hHd hok hcc hc hB3
   go_wp2_with fail
   go_ret
   exact ⟨H, HHD.out, by rw [HE.out]; rfl, HB3.out, fun h => absurd (HE.out ▸ h) HCN.out⟩
  subst hc
  have hk2 : a.kind = 2 := by
   by_cases h : a.kind = 2
   ·exact h
   ·rw [if_pos h] at hcc; cases hcc
  rw [if_neg (by simp [hk2])] at hcc
  obtain ⟨vp', hM3, hHp⟩ := hok hk2 hcc
  have HM3 := hid hM3
  have HHP := hid hHp
  have HB23 := hid hB3
  have HG3 : Hid (g < w3.heap.size ∧ gv < w3.heap.size) := ⟨nlt HG2.out.1 hB3.size, nlt HG2.out.2.1 hB3.size⟩
  have HITE2 : Hid (itE l H = posE l) := by show _ = _; rw [HITE.out, if_neg (by simp)]
  have hcell : ∀ j u, w2.cell? ⟨gv, j, none⟩ = some u → w3.cell? ⟨gv, j, none⟩ = some u := fun j u h => by
   have h1 := hB3.keep gv HG2.out.2.1 HG2.out.2.2
   rw [World.cell?] at h ⊢
   simp only at h ⊢
   rw [h1]; exact h
  have c1 := hcell 1 _ HCC.out.1
  have c2 := hcell 2 _ HCC.out.2.1
  have cL := hcell (4 - 1) _ HCC.out.2.2
  have HW13 := hid (HW1.out.bg hB3)
  have HW23 := hid (HW2.out.bg hB3)
  have HWL3 := hid (HWL.out.bg hB3)
  obtain ⟨g1, o1, q1, r1, rfl, hq1, hx1, hg1, hn1⟩ := HW13.out.head (HPA.out 1 (by decide)).one.ne
  obtain ⟨p2a, p2b, p2c, rfl⟩ := HIS.out.2.1
  have z14 := HM3.out.zf 14 (by simp [mcells])
  have d14 := HM3.out.z 14 _ rfl
  have HM4 := hid (HM3.out.set 14 (.slice (some ⟨g1, o1, none⟩) q1 r1))
  have HB4 := hid (HB3.out.set 14 (.slice (some ⟨g1, o1, none⟩) q1 r1))
  have HB34 : Hid (Bg g w3 (w3.setCell ⟨g, 14, none⟩ (.slice (some ⟨g1, o1, none⟩) q1 r1))) := (Bg.refl g w3).set 14 _
  have d14b := HM4.out.z 14 _ rfl
  have hx4 := At.bg hx1 HB34.out hg1 hn1
  obtain ⟨bk, hbk⟩ : ∃ t : Nat, (headN l 1).kind = t := ⟨_, rfl⟩
  rw [show (partN l 1).headD a0 = headN l 1 from rfl, hbk] at hx4
  have b0 := hx4.cell 0 _ rfl
  rw [Nat.add_zero] at b0
  have HBK := hid hbk
  have HPOS : Hid (posE l = if bk ≠ 5 then 9 else txE (headN l 2) (headN l (4 - 1))) := by
   show posE l = _
   rw [posE, hbk, HFW.out.2, txE]
  clear hHd hok hcc hk2 hM3 hHp hB3 hcell hx1 hx4 hg1 hn1 hbk
  by_cases h5 : bk = 5
  case neg =>
   have f5 : ¬ (bk : Int) = 5 := by omega
   have f5b : ((bk : Int) != 5) = true := by simp; omega
   have HE : Hid (itE l H = 9) := by show _ = _; rw [HITE2.out, HPOS.out, if_pos h5]
   clear h5
   go_wp2_with fail
   go_ret
   exact ⟨H, HHD.out, by rw [HE.out]; rfl, HB4.out, fun h => by rw [HE.out] at h; cases h⟩
  subst h5
  rw [show ((5 : Nat) : Int) = (5 : Int) from rfl] at b0
  obtain ⟨w4, hw4⟩ : ∃ x, w3.setCell ⟨g, 14, none⟩ (.slice (some ⟨g1, o1, none⟩) q1 r1) = x := ⟨_, rfl⟩
  rw [hw4] at HM4 HB4 HB34 d14b b0
  have HG4 : Hid (g < w4.heap.size ∧ gv < w4.heap.size) := by rw [← hw4, World.size_setCell]; exact HG3.out
  have HW14 := hid (HW13.out.bg HB34.out)
  have hro := Co.read_ok (HPA.out 1 (by decide)).dec
  have hU4 : UT w4.heap.size w4 := (HUT.out.1.below (HB4.out.to HUT.out.2 (Nat.le_trans HUT.out.2 (Nat.le_of_lt HG.out)))).mono (Nat.le_trans HUT.out.2 (Nat.le_of_lt HG4.out.1))
  have EN := hid (Co.cencode_anyO ((partN l 1).map up) _ w4 HW14.out.wl.sr hro.2.1 hro.2.2.1 (by rw [List.length_map]; have := hro.2.2.2; omega) hU4)
  have HLO : Hid (Co.enc Lib.validD ((partN l 1).map up) = (looseN l, 0)) := by
   show _ = _
   rw [looseN, hro.1]
  rw [HLO.out] at EN
  clear hro hU4
  go_upto_region 20 with fail
  try rw [hw4]
  clear hw4 z14 d14
  go_wp2_with fail
  refine EN.out.mono ?_
  rintro e w5 ⟨s, rfl, hs, hb5⟩
  have HM5 := hid (HM4.out.below hb5 HG4.out.1)
  have HB5 : Hid (Bg g w w5) := HB4.out.trans (Bg.of hb5)
  have HB35 : Hid (Bg g w3 w5) := HB34.out.trans (Bg.of hb5)
  have HG5 : Hid (g < w5.heap.size ∧ gv < w5.heap.size) := ⟨nlt HG4.out.1 hb5.size, nlt HG4.out.2 hb5.size⟩
  have z4 := HM5.out.zf 4 (by simp [mcells])
  have d4 := HM5.out.z 4 _ rfl
  have HM6 := hid (HM5.out.set 4 (.string s))
  have HB6 := hid (HB5.out.set 4 (.string s))
  have HB36 := hid (HB35.out.set 4 (.string s))
  have HSS : Hid (s = bs (looseN l)) := by show _ = _; rw [show looseN l = s.toList from hs.symm, bs_of]
  obtain ⟨w6, hw6⟩ : ∃ x, w5.setCell ⟨g, 4, none⟩ (.string s) = x := ⟨_, rfl⟩
  rw [hw6] at HM6 HB6 HB36
  have HG6 : Hid (g < w6.heap.size ∧ gv < w6.heap.size) := by rw [← hw6, World.size_setCell]; exact HG5.out
  have hcell : ∀ j u, w3.cell? ⟨gv, j, none⟩ = some u → w6.cell? ⟨gv, j, none⟩ = some u := fun j u h => by
   have h1 := HB36.out.keep gv HG3.out.2 HG2.out.2.2
   rw [World.cell?] at h ⊢
   simp only at h ⊢
   rw [h1]; exact h
  have c26 := hcell 2 _ c2
  have cL6 := hcell (4 - 1) _ cL
  have HW26 := hid (HW23.out.bg HB36.out)
  have HWL6 := hid (HWL3.out.bg HB36.out)
  have CT := hid (ctexts_any g gv 2 2 (cv - 2) _ _ (partN l 2) (partN l (4 - 1)) w6 6 0 (.slice none 0 0) ax s ⟨#[]⟩ ⟨#[]⟩ ⟨#[]⟩ ⟨#[]⟩ d i b r vp' _ (.slice none 0 0) (by rw [← HAX.out.2.2]; exact HM6.out) HG6.out.1 (by decide) c26 cL6 HW26.out HWL6.out (HPA.out 2 (by decide)).one.ne (HPA.out (4 - 1) (by decide)).one.ne)
  obtain ⟨TE, hTE⟩ : ∃ t, txE ((partN l 2).headD a0) ((partN l (4 - 1)).headD a0) = t := ⟨_, rfl⟩
  rw [hTE] at CT
  have HTE := hid hTE
  clear hTE
  have f7 : ¬ cv = 2 := by have := HCV.out; omega
  have f8 : (2 : Int) ≤ (cv : Int) := by have := HCV.out; omega
  have f9 : (4 : Int) ≤ (cv : Int) := by have := HCV.out; omega
  clear hs hb5 hcell c1 c2 cL
  go_upto_region 21 with fail
  try rw [hw6]
  clear hw6 z4 d4 c26 cL6
  go_wp2_with fail
  refine CT.out.mono ?_
  rintro e w7 ⟨rfl, hB7, hok⟩
  have HE : Hid (itE l H = TE) := by show _ = _; rw [HITE2.out, HPOS.out, if_neg (by simp), ← HTE.out]; rfl
  have HOK := hid hok
  have HB67 := hid hB7
  clear hok hB7
  go_wp2_with fail
  go_ret
  refine ⟨H, HHD.out, by rw [HE.out]; rfl, HB6.out.trans HB67.out, fun h0 => ⟨vp', .slice (some ⟨g1, o1, none⟩) q1 r1, ?_, ?_, ?_⟩⟩
  ·rw [HE.out] at h0
   have h9 := HOK.out h0
   rw [show hdrN l = a.text from by rw [hdrN, HAA.out], HAX.out.2.2, ← HSS.out, HFW.out.1]
   rw [show bs (tagN l) = (if (6 : Int) = 6 then bs ((partN l (4 - 1)).headD a0).text else ⟨#[]⟩) from by rw [tagN, HFW.out.1]; rfl]
   exact h9
  ·rw [show hdrN l = a.text from by rw [hdrN, HAA.out]]
   exact (HHP.out.bg HB36.out).bg HB67.out
  ·exact .inr ⟨((HW13.out.bg HB36.out)).bg HB67.out, ⟨_, _, (HPA.out 1 (by decide)).one⟩, HBK.out, (HPA.out 1 (by decide)).len, (HPA.out 1 (by decide)).okL⟩
 have f16 : ¬ (mx : Int) = 16 := by omega
 have f17 : ¬ (mx : Int) = 17 := by omega
 have f16b : ((mx : Int) == 16) = false := by simp; omega
 have f17b : ((mx : Int) == 17) = false := by simp; omega
 have HE : Hid (preE l = 11) := by show preE l = 11; rw [preE, HX.out.1, HX.out.2, if_neg (by decide), if_pos ⟨h16, h17⟩]
 clear h16 h17 hmxe
 go_enter Tryz.func15, Tryz.ntmps15
 go_wp2_with fail
 go_ret
 exact ⟨.ok [], fun h => (by rw [HE.out] at h; cases h), by rw [itE, if_pos (by rw [HE.out]; decide), HE.out]; rfl, Bg.refl _ _, fun h => by rw [itE, if_pos (by rw [HE.out]; decide), HE.out] at h; cases h⟩
end Ce
end Go.Proofs.YtikgonlhdkknkaaGreatDoor
