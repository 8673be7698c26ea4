/- Telling: Encode. -/
import Derived.Test.YtikgonlhdkknkaaDoorCpQ
import Derived.Test.YtikgonlhdkknkaaDoorCpR
namespace Go.Proofs.YtikgonlhdkknkaaDoor
open Go.RowKit
set_option linter.unusedVariables false
set_option linter.unusedSimpArgs false
namespace Co
open Dr (Rs Lm has lack at0S)
/-- a list of atoms that one is handed -/
def Sr (w : World) (v : Value) (l : List Ra) : Prop := ∃ a c, v = .slice a l.length c ∧ (l ≠ [] → ∃ g, a = some ⟨g, 0, none⟩ ∧ At w g 0 (rcells l) ∧ g < w.heap.size)
theorem Sr.below {w w' : World} {v : Value} {l : List Ra} (h : Sr w v l) (hb : Below w.heap.size w w') : Sr w' v l := by
  obtain ⟨a, cap, hv, h1⟩ := h
  exact ⟨a, cap, hv, fun hl => by obtain ⟨g, h2, h3, h4⟩ := h1 hl; exact ⟨g, h2, h3.below hb h4, Nat.lt_of_lt_of_le h4 hb.size⟩⟩
def ra0 : Ra := ⟨0, 0, []⟩
theorem rv_get (l : List Ra) (i : Nat) (hi : i < l.length) : ∃ A B, rcells l = A ++ rv (l.getD i ra0) ++ B ∧ A.length = i * 3 := by
  refine ⟨rcells (l.take i), rcells (l.drop (i + 1)), ?_, ?_⟩
  · have h1 : l = l.take i ++ (l[i] :: l.drop (i + 1)) := by rw [List.getElem_cons_drop, List.take_append_drop]
    have h2 : l.getD i ra0 = l[i] := by rw [List.getD, List.getElem?_eq_getElem hi]; rfl
    rw [h2]
    conv => lhs; rw [h1]
    rw [rcells_append, show rcells (l[i] :: l.drop (i + 1)) = rv l[i] ++ rcells (l.drop (i + 1)) from rfl, List.append_assoc]
  · rw [rcells_length, List.length_take, Nat.min_eq_left (Nat.le_of_lt hi), Nat.mul_comm]
theorem rcell_at {w : World} {g : Nat} {l : List Ra} (h : At w g 0 (rcells l)) (i : Nat) (hi : i < l.length) : At w g (i * 3) (rv (l.getD i ra0)) := by
  obtain ⟨A, B, hAB, hA⟩ := rv_get l i hi
  rw [hAB] at h
  have h2 := At.sub h
  rw [hA, Nat.zero_add] at h2
  exact h2
theorem rdrop_cons {l : List Ra} {i : Nat} (hi : i < l.length) : l.drop i = l.getD i ra0 :: l.drop (i + 1) := by
  rw [← List.getElem_cons_drop (h := hi), List.getD, List.getElem?_eq_getElem hi]
  rfl
theorem rgetD_mem {l : List Ra} {i : Nat} (hi : i < l.length) : l.getD i ra0 ∈ l := by
  rw [List.getD, List.getElem?_eq_getElem hi]
  exact List.getElem_mem hi
/-- what a list's telling may come to -/
def wsum (l : List Ra) : Nat := (l.map (fun a => 9 + a.text.length)).sum
theorem wsum_take (l : List Ra) (i : Nat) (hi : i < l.length) : wsum (l.take (i + 1)) = wsum (l.take i) + (9 + (l.getD i ra0).text.length) := by
  rw [wsum, wsum, List.take_add_one, List.getElem?_eq_getElem hi, List.map_append, List.sum_append, List.getD, List.getElem?_eq_getElem hi]
  simp
theorem wsum_app (l m : List Ra) : wsum (l ++ m) = wsum l + wsum m := by rw [wsum, wsum, wsum, List.map_append, List.sum_append]
theorem wsum_le (l : List Ra) (i : Nat) : wsum (l.take i) ≤ wsum l := by
  have h1 := wsum_app (l.take i) (l.drop i)
  rw [List.take_append_drop] at h1
  omega
theorem ends_gd (out : List UInt8) (p : Nat) : ∀ (G : List Fr) (a : Nat) (o : Bool), Gd G p → Gd (ends out a G o).1 p ∧ (ends out a G o).1.length ≤ G.length
  | [], a, o, _ => ⟨fun x hx => (by cases hx), Nat.le_refl _⟩
  | f :: G, a, o, h => by
    have hG : Gd G p := fun x hx => h x (List.mem_cons_of_mem _ hx)
    have hf := h f (List.mem_cons_self ..)
    rw [ends]
    split
    · obtain ⟨h1, h2⟩ := ends_gd out p G f.p0 (o && okB f (out.drop a)) hG
      exact ⟨h1, by rw [List.length_cons]; omega⟩
    · rename_i h0
      refine ⟨fun x hx => ?_, Nat.le_refl _⟩
      rcases List.mem_cons.1 hx with rfl | hx
      · refine ⟨by omega, ?_⟩
        rw [adv]
        split
        · exact ⟨hf.2.1, hf.2.2⟩
        · exact ⟨by show f.left - 1 < _; omega, hf.2.2⟩
      · exact hG x hx
theorem tops_gd {out : List UInt8} {p : Nat} {f : Fr} {G : List Fr} {o : Bool} (h1 : f.left < 18446744073709551616) (h2 : f.p0 ≤ p) (hG : Gd G p) : Gd (tops out f G o).1 p ∧ (tops out f G o).1.length ≤ G.length + 1 := by
  rw [tops]
  split
  · obtain ⟨h3, h4⟩ := ends_gd out p G f.p0 o hG
    exact ⟨h3, by omega⟩
  · rename_i h0
    refine ⟨fun x hx => ?_, Nat.le_refl _⟩
    rcases List.mem_cons.1 hx with rfl | hx
    · exact ⟨by omega, h1, h2⟩
    · exact hG x hx
theorem outT_len (o : List UInt8) (a : Am) : (outT false o a).length ≤ o.length + 9 + a.text.length := by
  have h8 : ∀ n, widN n ≤ 8 := fun n => by rw [widN]; repeat' split
                                           all_goals omega
  have h1 : ∀ k n, (hdN k n).length ≤ 9 := fun k n => by rw [hdN_length]; have := h8 n; omega
  rw [outT]
  split
  · have h2 := putT_len false (putT false o (hdN a.kind a.text.length)) a.text
    have h3 := putT_len false o (hdN a.kind a.text.length)
    have h4 := h1 a.kind a.text.length
    omega
  · have h3 := putT_len false o (hdN a.kind a.num)
    have h4 := h1 a.kind a.num
    omega
/-- what a teller is, behind i atoms -/
structure TInv (l : List Ra) (i : Nat) (t : Tl) : Prop where
  gd : Gd t.G t.out.length
  gl : t.G.length ≤ i
  out : t.out.length ≤ wsum (l.take i)
theorem TInv.next {l : List Ra} {i : Nat} {t : Tl} (h : TInv l i t) (hi : i < l.length) (hn : (l.getD i ra0).num < 18446744073709551616) : TInv l (i + 1) (atomT false t (dn (l.getD i ra0))) := by
  obtain ⟨a, ha⟩ : ∃ a, dn (l.getD i ra0) = a := ⟨_, rfl⟩
  have hat : a.text = (l.getD i ra0).text := by rw [← ha]; rfl
  have han : a.num = (l.getD i ra0).num := by rw [← ha]; rfl
  rw [ha]
  have h1 := outT_ge false t.out a
  have h2 := outT_len t.out a
  have h3 := wsum_take l i hi
  have h4 := h.out
  have h5 := h.gl
  have hgd := h.gd.mono h1
  rw [hat] at h2
  rw [atomT]
  split
  · obtain ⟨h6, h7⟩ := tops_gd (out := outT false t.out a) (o := t.ord) (f := fr0 a t.out.length) (by show (if a.kind = 6 then 1 else a.num) < _; rw [han]; split <;> omega) (show t.out.length ≤ (outT false t.out a).length from h1) hgd
    exact ⟨h6, by show _ ≤ _; exact Nat.le_trans h7 (by omega), by show (outT false t.out a).length ≤ _; omega⟩
  · obtain ⟨h6, h7⟩ := ends_gd (outT false t.out a) _ t.G t.out.length t.ord hgd
    exact ⟨h6, by show _ ≤ _; exact Nat.le_trans h7 (by omega), by show (outT false t.out a).length ≤ _; omega⟩
theorem atom_all (w : World) (g : Nat) (t : Tl) (vo vs : Value) (a : Am) (tx : ByteArray) (hyp : AtHyp w g t vo vs a tx) :
    Calls Tryd.prog 39 #[.pointer (some ⟨g, 0, none⟩), .agg #[.int .i64 (a.kind : Int), .int .u64 (a.num : Int), .string tx]] w (RsAtom (atomT false t a) g w) := by
  by_cases h2 : a.kind = 2
  · exact atom_text2 w g t vo vs a tx hyp h2
  by_cases h3 : a.kind = 3
  · exact atom_text3 w g t vo vs a tx hyp h3
  cases h : holds a.kind with
  | false => exact atom_plain w g t vo vs a tx hyp (by rintro (h4 | h4); exact h2 h4; exact h3 h4) h
  | true => exact atom_hold w g t vo vs a tx hyp h
def RetEnc (r : List UInt8 × Int) (w : World) (e : Ending) (w' : World) : Prop := ∃ s : ByteArray, e = .returned (.tuple #[.string s, .int .i64 r.2]) ∧ s.toList = r.1 ∧ Below w.heap.size w w'
theorem go_done {txt : List UInt8 → Bool} {a : Ra} {r : List Ra} {t : Tl} (h : t.done = true ∨ rightR txt a = false) : go txt false (a :: r) t = ([], 9) := by rw [go, if_pos h]
theorem go_next {txt : List UInt8 → Bool} {a : Ra} {r : List Ra} {t : Tl} (h : t.done = false) (h2 : rightR txt a = true) : go txt false (a :: r) t = go txt false r (atomT false t (dn a)) := by
  rw [go, if_neg]
  rintro (h3 | h3)
  · rw [h] at h3; cases h3
  · rw [h2] at h3; cases h3
set_option maxRecDepth 100000 in
set_option maxHeartbeats 1600000 in
theorem cencode_any (l : List Ra) (v : Value) (w : World) (hS : Sr w v l) (hN : ∀ a ∈ l, a.num < 18446744073709551616) (hb : ∀ a ∈ l, a.text.length ≤ 140737488351232) (hmax : l.length ≤ 140737488351232) (hU : UT w.heap.size w) :
    Calls Tryd.prog 21 #[v] w (RetEnc (enc Lib.validD l) w) := by
  obtain ⟨R0, hR0⟩ : ∃ R, enc Lib.validD l = R := ⟨_, rfl⟩
  rw [hR0]
  rw [enc] at hR0
  obtain ⟨n, hn0⟩ : ∃ n, l.length = n := ⟨_, rfl⟩
  obtain ⟨a, cap0, rfl, hl⟩ := hS
  have hnm : (n : Int) ≤ 140737488351232 := by omega
  by_cases h1 : 4096 < n
  · have e1 : (4096 : Int) < (n : Int) := by omega
    have HR : Hid (R0 = ([], 10)) := by show R0 = _; rw [← hR0, if_pos (by rw [hn0]; exact h1)]
    rw [hn0]
    clear hR0 h1 hl hN hU hb hmax hn0
    go_enter Tryd.func21, Tryd.ntmps21
    go_wp2_with fail
    go_ret2
    exact ⟨⟨#[]⟩, by rw [HR.out]; rfl, by rw [HR.out]; exact tl_mk [], Below.refl _ _⟩
  · have e1 : ¬ (4096 : Int) < (n : Int) := by omega
    rw [if_neg (by rw [hn0]; exact h1)] at hR0
    have HL := Lib.hid hl
    have HN := Lib.hid hn0
    have HNU := Lib.hid hN
    have HBD := Lib.hid hb
    have HU := Lib.hid hU
    have HGO : Hid (go Lib.validD false (l.drop 0) ini = R0) := hR0
    obtain ⟨g, hg⟩ : ∃ g, w.heap.size = g := ⟨_, rfl⟩
    have HW0 : Hid (Wt (w.alloc (Obj.cells #[.slice none 0 0, .slice none 0 0, .int .i64 0, .bool false, .bool true] 84)) g ini (.slice none 0 0) (.slice none 0 0)) := by
      rw [← hg]
      exact ⟨At.ofAlloc w #[.slice none 0 0, .slice none 0 0, .int .i64 0, .bool false, .bool true] 84, World.ownsRow_nil _ _ _ _, World.ownsRow_nil _ _ _ _, by simp⟩
    have HB0 : Hid (Below g w (w.alloc (Obj.cells #[.slice none 0 0, .slice none 0 0, .int .i64 0, .bool false, .bool true] 84))) := by rw [← hg]; exact (Below.refl _ _).alloc (Nat.le_refl _) _
    have HIV : Hid (TInv l 0 ini) := ⟨fun x hx => (by cases hx), Nat.zero_le _, Nat.zero_le _⟩
    have HG := Lib.hid hg
    have H1 := Lib.hid h1
    rw [hn0]
    clear hR0 h1 hl hN hU hb hmax hn0
    go_enter Tryd.func21, Tryd.ntmps21
    go_wp2_with fail
    clear hg
    go_loopw [13] (fun vi wr => ∃ (i : Nat) (t : Tl) (vo vs : Value), vi = .int .i64 (i : Int) ∧ i ≤ n ∧ Hid (Wt wr g t vo vs) ∧ Hid (TInv l i t) ∧ Hid (go Lib.validD false (l.drop i) t = R0) ∧ Hid (Below g w wr)) (fun vi _ => n - (intOf vi).toNat)
    case atStart => exact ⟨0, ini, _, _, rfl, Nat.zero_le _, HW0, HIV, HGO, HB0⟩
    case round =>
      obtain ⟨i, t, vo, vs, rfl, hi, HW, HIV, HGO, HB⟩ := hrel
      clear HW0 HB0
      by_cases hin : i < n
      · have hil : i < l.length := by rw [HN.out]; exact hin
        obtain ⟨gL, rfl, hAg, hgl0⟩ := HL.out (fun h => by rw [h] at hil; simp at hil)
        have hgl : gL < g := by rw [← HG.out]; exact hgl0
        have hNc := (rcell_at hAg i hil).below HB.out hgl
        obtain ⟨x, hx⟩ : ∃ x, l.getD i ra0 = x := ⟨_, rfl⟩
        have hmem : x ∈ l := by rw [← hx]; exact rgetD_mem hil
        have hxn := HNU.out x hmem
        have hsum := wsum_take l i hil
        have hsum2 := wsum_le l (i + 1)
        have hbd := HBD.out
        have hdrop := rdrop_cons hil
        have hnext := HIV.out.next hil (by rw [hx]; exact hxn)
        rw [hx] at hNc hsum hdrop hnext
        rw [hdrop] at HGO
        obtain ⟨tx, htx⟩ : ∃ b : ByteArray, (⟨x.text.toArray⟩ : ByteArray) = b := ⟨_, rfl⟩
        have htl : tx.toList = x.text := by rw [← htx, tl_mk]
        have hts : tx.size = x.text.length := by rw [← tl_size, htl]
        have n0 := hNc.cell 0 _ rfl
        have n1 := hNc.cell 1 _ rfl
        have n2 := hNc.cell 2 _ rfl
        rw [Nat.add_zero] at n0
        rw [htx] at n2
        have hbnd : tx.size ≤ 140737488351232 := by rw [hts]; exact hbd x hmem
        obtain ⟨kk, hkk⟩ : ∃ kk, x.kind = kk := ⟨_, rfl⟩
        obtain ⟨num, hnum⟩ : ∃ num, x.num = num := ⟨_, rfl⟩
        rw [hkk] at n0
        rw [hnum] at n1
        have RT := Lib.hid (fun w' hU => cright_any kk num tx x.text htl (by omega) w' hU)
        have hxe : (⟨kk, num, x.text⟩ : Ra) = x := by rw [← hkk, ← hnum]
        rw [hxe] at RT
        have HUW := Lib.hid (((HU.out.below (by rw [HG.out]; exact HB.out)).mono (by rw [HG.out]; exact Nat.le_of_lt HW.out.lt)).at ((Below.refl wr.heap.size wr).alloc (Nat.le_refl _) (Obj.cells #[Value.int .i64 kk, Value.int .u64 (num : Int), Value.string tx] 51)))
        have HW1 := Lib.hid (HW.out.alloc (Obj.cells #[Value.int .i64 kk, Value.int .u64 (num : Int), Value.string tx] 51))
        have HT1 := Lib.hid (At.ofAlloc wr #[Value.int .i64 kk, Value.int .u64 (num : Int), Value.string tx] 51)
        have HB1 := Lib.hid (HB.out.alloc (Nat.le_of_lt HW.out.lt) (Obj.cells #[Value.int .i64 kk, Value.int .u64 (num : Int), Value.string tx] 51))
        have HWL := Lib.hid HW.out.lt
        have e2 : (i : Int) < (n : Int) := by omega
        have e9 : (i : Int) ≤ 4096 := by have := H1.out; omega
        have HII := Lib.hid (show ∃ j, n = i + 1 + j from ⟨n - i - 1, by omega⟩)
        cases hdn : t.done with
        | true =>
          have HF : Hid (R0 = ([], 9)) := by show R0 = _; rw [← HGO.out, go_done (.inl hdn)]
          have hd3 : ∀ ob, (wr.alloc ob).cell? ⟨g, 3, none⟩ = some (.bool true) := fun ob => by
            have h9 : (wr.alloc ob).cell? ⟨g, 0 + 3, none⟩ = some (.bool t.done) := (HW.out.alloc ob).at0.cell 3 _ rfl
            rw [hdn] at h9
            exact h9
          clear hNc hAg hgl hgl0 hx hmem hxn hsum hsum2 hbd hdrop hnext htx htl hts hbnd hkk hnum hxe hdn hin hil hi
          go_wp2_with fail
          go_ret2
          exact ⟨⟨#[]⟩, by rw [HF.out]; rfl, by rw [HF.out]; exact tl_mk [], by rw [HG.out]; exact HB1.out⟩
        | false =>
          have hd3 : ∀ ob, (wr.alloc ob).cell? ⟨g, 3, none⟩ = some (.bool false) := fun ob => by
            have h9 : (wr.alloc ob).cell? ⟨g, 0 + 3, none⟩ = some (.bool t.done) := (HW.out.alloc ob).at0.cell 3 _ rfl
            rw [hdn] at h9
            exact h9
          have hT0 := HT1.out.cell 0 _ rfl
          have hT1 := HT1.out.cell 1 _ rfl
          have hT2 := HT1.out.cell 2 _ rfl
          rw [Nat.zero_add] at hT0
          cases hr : rightR Lib.validD x with
          | false =>
            have HF : Hid (R0 = ([], 9)) := by show R0 = _; rw [← HGO.out, go_done (.inr hr)]
            rw [hr] at RT
            clear hNc hAg hgl hgl0 hx hmem hxn hsum hsum2 hbd hdrop hnext htx htl hts hbnd hkk hnum hxe hdn hin hil hi hr
            go_wp2_with (first | (go_at_call 38; refine (RT.out _ HUW.out).mono ?_; rintro e w2 ⟨rfl, hb2⟩))
            go_ret2
            exact ⟨⟨#[]⟩, by rw [HF.out]; rfl, by rw [HF.out]; exact tl_mk [], by rw [HG.out]; exact HB1.out.trans (hb2.mono (by have := HWL.out; simp; omega))⟩
          | true =>
            obtain ⟨hok, hup⟩ := okA_dn (txt := Lib.validD) hxn (by omega) hr
            have HGN : Hid (go Lib.validD false (l.drop (i + 1)) (atomT false t (dn x)) = R0) := by
              show _ = R0
              rw [← HGO.out, go_next hdn hr]
            have hk2 : ((dn x).kind : Int) = kk := by rw [← hkk]; exact congrArg Ra.kind hup
            have hn2 : (dn x).num = num := hnum
            have AT := Lib.hid (fun w' vo vs hyp => atom_all w' g t vo vs (dn x) tx hyp)
            rw [hk2, hn2] at AT
            rw [hr] at RT
            have hk8 : (dn x).kind < 8 := by
              obtain ⟨-, -, h9⟩ := hok
              omega
            have HAH := Lib.hid (fun w' vo vs (hW' : Wt w' g t vo vs) => (show AtHyp w' g t vo vs (dn x) tx from ⟨hW', hdn, HIV.out.gd, hk8, by rw [hn2, ← hnum]; exact hxn, htl, hbnd, by have := HIV.out.gl; omega⟩))
            obtain ⟨t2, ht2⟩ : ∃ t2, atomT false t (dn x) = t2 := ⟨_, rfl⟩
            rw [ht2] at AT HGN hnext
            have HNX := Lib.hid hnext
            clear hNc hAg hgl hgl0 hx hmem hxn hsum hsum2 hbd hdrop hnext htx htl hts hbnd hkk hnum hxe hdn hin hil hi hr hok hup hk2 hn2 hk8 ht2
            go_wp2_with (first
              | (go_at_call 38; refine (RT.out _ HUW.out).mono ?_; rintro e w2 ⟨rfl, hb2⟩; have HW2 := Lib.hid (HW1.out.below hb2); have HT2 := HT1.out.below hb2 (by simp); have hy0 := HT2.cell 0 _ rfl; have hy1 := HT2.cell 1 _ rfl; have hy2 := HT2.cell 2 _ rfl; rw [Nat.zero_add] at hy0; have HB2 : Hid (Below g w w2) := HB1.out.trans (hb2.mono (by have := HWL.out; simp; omega)); clear hb2 HT2)
              | (go_at_call 39; refine (AT.out _ _ _ (HAH.out _ _ _ HW2.out)).mono ?_; rintro e w3 ⟨rfl, ⟨vo3, vs3, HW3⟩, HB3⟩))
            go_roundw
            case rel => exact ⟨i + 1, t2, vo3, vs3, by go_num, by obtain ⟨j, hj⟩ := HII.out; omega, HW3, HNX, HGN, HB2.out.trans HB3.out⟩
            case measure => obtain ⟨j, hj⟩ := HII.out; simp [intOf]; omega
      · obtain rfl : i = n := by omega
        have e2 : ¬ (i : Int) < (i : Int) := by omega
        rw [List.drop_eq_nil_of_le (by rw [HN.out]; exact Nat.le_refl _)] at HGO
        have hR := HGO.out
        rw [go, fins] at hR
        obtain ⟨out, G, dp, dn, od⟩ := t
        dsimp only at hR
        have hout : wr.ownsRow (g + 1) 5 1 vo out.length (bcells out) := HW.out.out
        obtain ⟨oa, oc, rfl, -⟩ := own_form hout
        obtain ⟨m, hm⟩ : ∃ m, out.length = m := ⟨_, rfl⟩
        have hcv := run_convert_own (P := Tryd.prog) hout 82 9 Tryd.underlying82 Tryd.underlying5 Tryd.underlying9
        have c0 : wr.cell? ⟨g, 0 + 0, none⟩ = some (.slice oa out.length oc) := HW.out.at0.cell 0 _ rfl
        have c2 : wr.cell? ⟨g, 0 + 2, none⟩ = some (.int .i64 (dp : Int)) := HW.out.at0.cell 2 _ rfl
        have c3 : wr.cell? ⟨g, 0 + 3, none⟩ = some (.bool dn) := HW.out.at0.cell 3 _ rfl
        have c4 : wr.cell? ⟨g, 0 + 4, none⟩ = some (.bool od) := HW.out.at0.cell 4 _ rfl
        rw [hm] at hcv c0 hR
        clear hin hi hout HGO
        cases dn with
        | false =>
          have HF : Hid (R0 = ([], 9)) := by show R0 = _; rw [← hR, if_pos rfl]
          clear hR hm
          go_wp2_with fail
          go_ret2
          exact ⟨⟨#[]⟩, by rw [HF.out]; rfl, by rw [HF.out]; exact tl_mk [], by rw [HG.out]; exact HB.out⟩
        | true =>
          rw [if_neg (by decide)] at hR
          by_cases h32 : 32 < dp
          · have HF : Hid (R0 = ([], 10)) := by show R0 = _; rw [← hR, if_pos (.inl h32)]
            have e3 : (32 : Int) < (dp : Int) := by omega
            clear hR hm h32
            go_wp2_with fail
            go_ret2
            exact ⟨⟨#[]⟩, by rw [HF.out]; rfl, by rw [HF.out]; exact tl_mk [], by rw [HG.out]; exact HB.out⟩
          · have e3 : ¬ (32 : Int) < (dp : Int) := by omega
            have e3b : decide ((32 : Int) < (dp : Int)) = false := decide_eq_false e3
            by_cases h26 : 262144 < m
            · have HF : Hid (R0 = ([], 10)) := by show R0 = _; rw [← hR, if_pos (.inr h26)]
              have e5 : (262144 : Int) < (m : Int) := by omega
              clear hR hm h32 h26
              go_wp2_with fail
              go_ret2
              exact ⟨⟨#[]⟩, by rw [HF.out]; rfl, by rw [HF.out]; exact tl_mk [], by rw [HG.out]; exact HB.out⟩
            · have e5 : ¬ (262144 : Int) < (m : Int) := by omega
              have e5b : decide ((262144 : Int) < (m : Int)) = false := decide_eq_false e5
              rw [if_neg (by omega)] at hR
              clear hm h32 h26
              cases od with
              | false =>
                have HF : Hid (R0 = ([], 9)) := by show R0 = _; rw [← hR, if_pos rfl]
                clear hR
                go_wp2_with fail
                go_ret2
                exact ⟨⟨#[]⟩, by rw [HF.out]; rfl, by rw [HF.out]; exact tl_mk [], by rw [HG.out]; exact HB.out⟩
              | true =>
                have HF : Hid (R0 = (out, 0)) := by show R0 = _; rw [← hR, if_neg (by decide)]
                clear hR
                go_wp2_with fail
                go_ret2
                exact ⟨_, by rw [HF.out]; rfl, by rw [HF.out]; exact tl_mk _, by rw [HG.out]; exact HB.out⟩
end Co
end Go.Proofs.YtikgonlhdkknkaaDoor
