/- The program's Encode (cbor) of a list at any place of a row. -/
import Derived.Test.YtikgonlhdkknkaaDoorCuJ
namespace Go.Proofs.YtikgonlhdkknkaaDoor
open Go.RowKit
set_option linter.unusedVariables false
set_option linter.unusedSimpArgs false
namespace Co
open Dr (Rs Lm has lack at0S)
set_option maxRecDepth 100000 in
set_option maxHeartbeats 1600000 in
theorem cencode_anyO (l : List Ra) (v : Value) (w : World) (hS : SrO w v l) (hN : ∀ a ∈ l, a.num < 18446744073709551616) (hb : ∀ a ∈ l, a.text.length ≤ 140737488351232) (hmax : l.length ≤ 140737488351232) (hU : UT w.heap.size w) :
    Calls Tryd.prog 21 #[v] w (RetEnc (enc Lib.validD l) w) := by
  obtain ⟨R0, hR0⟩ : ∃ R, enc Lib.validD l = R := ⟨_, rfl⟩
  rw [hR0]
  rw [enc] at hR0
  obtain ⟨n, hn0⟩ : ∃ n, l.length = n := ⟨_, rfl⟩
  obtain ⟨a, cap0, rfl, hl⟩ := hS
  have hnm : (n : Int) ≤ 140737488351232 := by omega
  by_cases h1 : 4096 < n
  · have e1 : (4096 : Int) < (n : Int) := by omega
    have HR : Hid (R0 = ([], 10)) := by show R0 = _; rw [← hR0, if_pos (by rw [hn0]; exact h1)]
    rw [hn0]
    clear hR0 h1 hl hN hU hb hmax hn0
    go_enter Tryd.func21, Tryd.ntmps21
    go_wp2_with fail
    go_ret2
    exact ⟨⟨#[]⟩, by rw [HR.out]; rfl, by rw [HR.out]; exact tl_mk [], Below.refl _ _⟩
  · have e1 : ¬ (4096 : Int) < (n : Int) := by omega
    rw [if_neg (by rw [hn0]; exact h1)] at hR0
    have HL := Lib.hid hl
    have HN := Lib.hid hn0
    have HNU := Lib.hid hN
    have HBD := Lib.hid hb
    have HU := Lib.hid hU
    have HGO : Hid (go Lib.validD false (l.drop 0) ini = R0) := hR0
    obtain ⟨g, hg⟩ : ∃ g, w.heap.size = g := ⟨_, rfl⟩
    have HW0 : Hid (Wt (w.alloc (Obj.cells #[.slice none 0 0, .slice none 0 0, .int .i64 0, .bool false, .bool true] 84)) g ini (.slice none 0 0) (.slice none 0 0)) := by
      rw [← hg]
      exact ⟨At.ofAlloc w #[.slice none 0 0, .slice none 0 0, .int .i64 0, .bool false, .bool true] 84, World.ownsRow_nil _ _ _ _, World.ownsRow_nil _ _ _ _, by simp⟩
    have HB0 : Hid (Below g w (w.alloc (Obj.cells #[.slice none 0 0, .slice none 0 0, .int .i64 0, .bool false, .bool true] 84))) := by rw [← hg]; exact (Below.refl _ _).alloc (Nat.le_refl _) _
    have HIV : Hid (TInv l 0 ini) := ⟨fun x hx => (by cases hx), Nat.zero_le _, Nat.zero_le _⟩
    have HG := Lib.hid hg
    have H1 := Lib.hid h1
    rw [hn0]
    clear hR0 h1 hl hN hU hb hmax hn0
    go_enter Tryd.func21, Tryd.ntmps21
    go_wp2_with fail
    clear hg
    go_loopw [13] (fun vi wr => ∃ (i : Nat) (t : Tl) (vo vs : Value), vi = .int .i64 (i : Int) ∧ i ≤ n ∧ Hid (Wt wr g t vo vs) ∧ Hid (TInv l i t) ∧ Hid (go Lib.validD false (l.drop i) t = R0) ∧ Hid (Below g w wr)) (fun vi _ => n - (intOf vi).toNat)
    case atStart => exact ⟨0, ini, _, _, rfl, Nat.zero_le _, HW0, HIV, HGO, HB0⟩
    case round =>
      obtain ⟨i, t, vo, vs, rfl, hi, HW, HIV, HGO, HB⟩ := hrel
      clear HW0 HB0
      by_cases hin : i < n
      · have hil : i < l.length := by rw [HN.out]; exact hin
        obtain ⟨gL, oL, rfl, hAg, hgl0⟩ := HL.out (fun h => by rw [h] at hil; simp at hil)
        have hgl : gL < g := by rw [← HG.out]; exact hgl0
        have hNc := (rcell_atO hAg i hil).below HB.out hgl
        obtain ⟨x, hx⟩ : ∃ x, l.getD i ra0 = x := ⟨_, rfl⟩
        have hmem : x ∈ l := by rw [← hx]; exact rgetD_mem hil
        have hxn := HNU.out x hmem
        have hsum := wsum_take l i hil
        have hsum2 := wsum_le l (i + 1)
        have hbd := HBD.out
        have hdrop := rdrop_cons hil
        have hnext := HIV.out.next hil (by rw [hx]; exact hxn)
        rw [hx] at hNc hsum hdrop hnext
        rw [hdrop] at HGO
        obtain ⟨tx, htx⟩ : ∃ b : ByteArray, (⟨x.text.toArray⟩ : ByteArray) = b := ⟨_, rfl⟩
        have htl : tx.toList = x.text := by rw [← htx, tl_mk]
        have hts : tx.size = x.text.length := by rw [← tl_size, htl]
        have n0 := hNc.cell 0 _ rfl
        have n1 := hNc.cell 1 _ rfl
        have n2 := hNc.cell 2 _ rfl
        rw [Nat.add_zero] at n0
        rw [htx] at n2
        have hbnd : tx.size ≤ 140737488351232 := by rw [hts]; exact hbd x hmem
        obtain ⟨kk, hkk⟩ : ∃ kk, x.kind = kk := ⟨_, rfl⟩
        obtain ⟨num, hnum⟩ : ∃ num, x.num = num := ⟨_, rfl⟩
        rw [hkk] at n0
        rw [hnum] at n1
        have RT := Lib.hid (fun w' hU => cright_any kk num tx x.text htl (by omega) w' hU)
        have hxe : (⟨kk, num, x.text⟩ : Ra) = x := by rw [← hkk, ← hnum]
        rw [hxe] at RT
        have HUW := Lib.hid (((HU.out.below (by rw [HG.out]; exact HB.out)).mono (by rw [HG.out]; exact Nat.le_of_lt HW.out.lt)).at ((Below.refl wr.heap.size wr).alloc (Nat.le_refl _) (Obj.cells #[Value.int .i64 kk, Value.int .u64 (num : Int), Value.string tx] 51)))
        have HW1 := Lib.hid (HW.out.alloc (Obj.cells #[Value.int .i64 kk, Value.int .u64 (num : Int), Value.string tx] 51))
        have HT1 := Lib.hid (At.ofAlloc wr #[Value.int .i64 kk, Value.int .u64 (num : Int), Value.string tx] 51)
        have HB1 := Lib.hid (HB.out.alloc (Nat.le_of_lt HW.out.lt) (Obj.cells #[Value.int .i64 kk, Value.int .u64 (num : Int), Value.string tx] 51))
        have HWL := Lib.hid HW.out.lt
        have e2 : (i : Int) < (n : Int) := by omega
        have e9 : (i : Int) ≤ 4096 := by have := H1.out; omega
        have HII := Lib.hid (show ∃ j, n = i + 1 + j from ⟨n - i - 1, by omega⟩)
        cases hdn : t.done with
        | true =>
          have HF : Hid (R0 = ([], 9)) := by show R0 = _; rw [← HGO.out, go_done (.inl hdn)]
          have hd3 : ∀ ob, (wr.alloc ob).cell? ⟨g, 3, none⟩ = some (.bool true) := fun ob => by
            have h9 : (wr.alloc ob).cell? ⟨g, 0 + 3, none⟩ = some (.bool t.done) := (HW.out.alloc ob).at0.cell 3 _ rfl
            rw [hdn] at h9
            exact h9
          clear hNc hAg hgl hgl0 hx hmem hxn hsum hsum2 hbd hdrop hnext htx htl hts hbnd hkk hnum hxe hdn hin hil hi
          go_wp2_with fail
          go_ret2
          exact ⟨⟨#[]⟩, by rw [HF.out]; rfl, by rw [HF.out]; exact tl_mk [], by rw [HG.out]; exact HB1.out⟩
        | false =>
          have hd3 : ∀ ob, (wr.alloc ob).cell? ⟨g, 3, none⟩ = some (.bool false) := fun ob => by
            have h9 : (wr.alloc ob).cell? ⟨g, 0 + 3, none⟩ = some (.bool t.done) := (HW.out.alloc ob).at0.cell 3 _ rfl
            rw [hdn] at h9
            exact h9
          have hT0 := HT1.out.cell 0 _ rfl
          have hT1 := HT1.out.cell 1 _ rfl
          have hT2 := HT1.out.cell 2 _ rfl
          rw [Nat.zero_add] at hT0
          cases hr : rightR Lib.validD x with
          | false =>
            have HF : Hid (R0 = ([], 9)) := by show R0 = _; rw [← HGO.out, go_done (.inr hr)]
            rw [hr] at RT
            clear hNc hAg hgl hgl0 hx hmem hxn hsum hsum2 hbd hdrop hnext htx htl hts hbnd hkk hnum hxe hdn hin hil hi hr
            go_wp2_with (first | (go_at_call 38; refine (RT.out _ HUW.out).mono ?_; rintro e w2 ⟨rfl, hb2⟩))
            go_ret2
            exact ⟨⟨#[]⟩, by rw [HF.out]; rfl, by rw [HF.out]; exact tl_mk [], by rw [HG.out]; exact HB1.out.trans (hb2.mono (by have := HWL.out; simp; omega))⟩
          | true =>
            obtain ⟨hok, hup⟩ := okA_dn (txt := Lib.validD) hxn (by omega) hr
            have HGN : Hid (go Lib.validD false (l.drop (i + 1)) (atomT false t (dn x)) = R0) := by
              show _ = R0
              rw [← HGO.out, go_next hdn hr]
            have hk2 : ((dn x).kind : Int) = kk := by rw [← hkk]; exact congrArg Ra.kind hup
            have hn2 : (dn x).num = num := hnum
            have AT := Lib.hid (fun w' vo vs hyp => atom_all w' g t vo vs (dn x) tx hyp)
            rw [hk2, hn2] at AT
            rw [hr] at RT
            have hk8 : (dn x).kind < 8 := by
              obtain ⟨-, -, h9⟩ := hok
              omega
            have HAH := Lib.hid (fun w' vo vs (hW' : Wt w' g t vo vs) => (show AtHyp w' g t vo vs (dn x) tx from ⟨hW', hdn, HIV.out.gd, hk8, by rw [hn2, ← hnum]; exact hxn, htl, hbnd, by have := HIV.out.gl; omega⟩))
            obtain ⟨t2, ht2⟩ : ∃ t2, atomT false t (dn x) = t2 := ⟨_, rfl⟩
            rw [ht2] at AT HGN hnext
            have HNX := Lib.hid hnext
            clear hNc hAg hgl hgl0 hx hmem hxn hsum hsum2 hbd hdrop hnext htx htl hts hbnd hkk hnum hxe hdn hin hil hi hr hok hup hk2 hn2 hk8 ht2
            go_wp2_with (first
              | (go_at_call 38; refine (RT.out _ HUW.out).mono ?_; rintro e w2 ⟨rfl, hb2⟩; have HW2 := Lib.hid (HW1.out.below hb2); have HT2 := HT1.out.below hb2 (by simp); have hy0 := HT2.cell 0 _ rfl; have hy1 := HT2.cell 1 _ rfl; have hy2 := HT2.cell 2 _ rfl; rw [Nat.zero_add] at hy0; have HB2 : Hid (Below g w w2) := HB1.out.trans (hb2.mono (by have := HWL.out; simp; omega)); clear hb2 HT2)
              | (go_at_call 39; refine (AT.out _ _ _ (HAH.out _ _ _ HW2.out)).mono ?_; rintro e w3 ⟨rfl, ⟨vo3, vs3, HW3⟩, HB3⟩))
            go_roundw
            case rel => exact ⟨i + 1, t2, vo3, vs3, by go_num, by obtain ⟨j, hj⟩ := HII.out; omega, HW3, HNX, HGN, HB2.out.trans HB3.out⟩
            case measure => obtain ⟨j, hj⟩ := HII.out; simp [intOf]; omega
      · obtain rfl : i = n := by omega
        have e2 : ¬ (i : Int) < (i : Int) := by omega
        rw [List.drop_eq_nil_of_le (by rw [HN.out]; exact Nat.le_refl _)] at HGO
        have hR := HGO.out
        rw [go, fins] at hR
        obtain ⟨out, G, dp, dn, od⟩ := t
        dsimp only at hR
        have hout : wr.ownsRow (g + 1) 5 1 vo out.length (bcells out) := HW.out.out
        obtain ⟨oa, oc, rfl, -⟩ := own_form hout
        obtain ⟨m, hm⟩ : ∃ m, out.length = m := ⟨_, rfl⟩
        have hcv := run_convert_own (P := Tryd.prog) hout 82 9 Tryd.underlying82 Tryd.underlying5 Tryd.underlying9
        have c0 : wr.cell? ⟨g, 0 + 0, none⟩ = some (.slice oa out.length oc) := HW.out.at0.cell 0 _ rfl
        have c2 : wr.cell? ⟨g, 0 + 2, none⟩ = some (.int .i64 (dp : Int)) := HW.out.at0.cell 2 _ rfl
        have c3 : wr.cell? ⟨g, 0 + 3, none⟩ = some (.bool dn) := HW.out.at0.cell 3 _ rfl
        have c4 : wr.cell? ⟨g, 0 + 4, none⟩ = some (.bool od) := HW.out.at0.cell 4 _ rfl
        rw [hm] at hcv c0 hR
        clear hin hi hout HGO
        cases dn with
        | false =>
          have HF : Hid (R0 = ([], 9)) := by show R0 = _; rw [← hR, if_pos rfl]
          clear hR hm
          go_wp2_with fail
          go_ret2
          exact ⟨⟨#[]⟩, by rw [HF.out]; rfl, by rw [HF.out]; exact tl_mk [], by rw [HG.out]; exact HB.out⟩
        | true =>
          rw [if_neg (by decide)] at hR
          by_cases h32 : 32 < dp
          · have HF : Hid (R0 = ([], 10)) := by show R0 = _; rw [← hR, if_pos (.inl h32)]
            have e3 : (32 : Int) < (dp : Int) := by omega
            clear hR hm h32
            go_wp2_with fail
            go_ret2
            exact ⟨⟨#[]⟩, by rw [HF.out]; rfl, by rw [HF.out]; exact tl_mk [], by rw [HG.out]; exact HB.out⟩
          · have e3 : ¬ (32 : Int) < (dp : Int) := by omega
            have e3b : decide ((32 : Int) < (dp : Int)) = false := decide_eq_false e3
            by_cases h26 : 262144 < m
            · have HF : Hid (R0 = ([], 10)) := by show R0 = _; rw [← hR, if_pos (.inr h26)]
              have e5 : (262144 : Int) < (m : Int) := by omega
              clear hR hm h32 h26
              go_wp2_with fail
              go_ret2
              exact ⟨⟨#[]⟩, by rw [HF.out]; rfl, by rw [HF.out]; exact tl_mk [], by rw [HG.out]; exact HB.out⟩
            · have e5 : ¬ (262144 : Int) < (m : Int) := by omega
              have e5b : decide ((262144 : Int) < (m : Int)) = false := decide_eq_false e5
              rw [if_neg (by omega)] at hR
              clear hm h32 h26
              cases od with
              | false =>
                have HF : Hid (R0 = ([], 9)) := by show R0 = _; rw [← hR, if_pos rfl]
                clear hR
                go_wp2_with fail
                go_ret2
                exact ⟨⟨#[]⟩, by rw [HF.out]; rfl, by rw [HF.out]; exact tl_mk [], by rw [HG.out]; exact HB.out⟩
              | true =>
                have HF : Hid (R0 = (out, 0)) := by show R0 = _; rw [← hR, if_neg (by decide)]
                clear hR
                go_wp2_with fail
                go_ret2
                exact ⟨_, by rw [HF.out]; rfl, by rw [HF.out]; exact tl_mk _, by rw [HG.out]; exact HB.out⟩
end Co
end Go.Proofs.YtikgonlhdkknkaaDoor
