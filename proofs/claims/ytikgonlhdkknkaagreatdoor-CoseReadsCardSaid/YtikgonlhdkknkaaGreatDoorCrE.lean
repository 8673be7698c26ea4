import Derived.Test.YtikgonlhdkknkaaGreatDoorCuQ
import Derived.Test.YtikgonlhdkknkaaGreatDoorCqJ
set_option maxRecDepth 100000
set_option maxHeartbeats 6400000
set_option linter.unusedVariables false
set_option linter.unusedSimpArgs false
open Go.Lib (hid)
namespace Go.Proofs.YtikgonlhdkknkaaGreatDoor
open Go.RowKit
namespace Co
open Dr (Rs Lm has lack at0S)
theorem up_inj {a b : Am} (h : up a = up b) : a = b := by rw [← dn_up a, h, dn_up]
theorem told_all (l : List Ra) (hln : l.length ≤ 4096) (hall : ∀ a : Am, up a ∈ l → okA Lib.validD a ∧ a.text.length ≤ 262144) : ∀ (N : Nat) (K : List Am), K.length ≤ N → CToldOk l K := by
 intro N
 induction N with
 | zero =>
  intro K hK d B o h
  have := h.pos
  omega
 | succ N ih =>
  intro K hK d B o h A R hl w g k o0 n cap ou hT hL hn
  have hlt : A.length < l.length := by
   have h1 := h.pos
   rw [hl, lap, lap, List.length_map]; omega
  cases h with
  | @leaf a d N' M o hk hr =>
   obtain ⟨rfl, rfl, rfl⟩ := hr.none
   obtain ⟨hok, htx⟩ := hall a (by rw [hl]; simp)
   have hx : l.getD A.length ra0 = up a := by rw [hl]; simp [List.getD]
   have hfl : (ou || !true) = ou := by cases ou <;> rfl
   have hlen : (tell a).length ≤ 300000 := by
    rw [tell]
    have h1 := widN_le a.text.length
    have h2 := widN_le a.num
    split
    ·rw [lap, hdN_length]; omega
    ·rw [hdN_length]; omega
   have fin : ∀ {e w'}, (∃ u : ByteArray, e = .returned (.string u) ∧ u.toList = tell a ∧ Hid (Te w' g (.slice (some ⟨k, o0, none⟩) n cap) (A.length + 1) false ou) ∧ Hid (Bw g w w')) → CTold g (.slice (some ⟨k, o0, none⟩) n cap) [a] (tell a) true A.length ou w e w' := by
    rintro e w' ⟨u, rfl, hu, h1, h2⟩
    exact CTold.done (q := A.length + 1) hu hlen rfl (by rw [hfl]; exact h1) h2
   have hnh : ¬ (4 ≤ a.kind ∧ a.kind ≤ 6) := by rw [holds] at hk; exact of_decide_eq_false hk
   obtain ⟨h1, h2, h3⟩ := hok
   by_cases k2 : a.kind = 2
   ·refine (told_text2 w g k o0 n cap A.length false ou l hT hL hn hlt hln (up a) hx (by show (a.kind : Int) = 2; rw [k2]; rfl) h1 (by show a.text.length ≤ _; omega)).mono ?_
    rintro e w' ⟨u, he, hu, h5, h6⟩
    exact fin ⟨u, he, by rw [hu, tell, if_pos (.inl k2), k2]; rfl, h5, h6⟩
   by_cases k3 : a.kind = 3
   ·refine (told_text3 w g k o0 n cap A.length false ou l hT hL hn hlt hln (up a) hx (by show (a.kind : Int) = 3; rw [k3]; rfl) h1 (by show a.text.length ≤ _; omega)).mono ?_
    rintro e w' ⟨u, he, hu, h5, h6⟩
    exact fin ⟨u, he, by rw [hu, tell, if_pos (.inr k3), k3]; rfl, h5, h6⟩
   have hk7 : a.kind < 2 ∨ a.kind = 7 := by
    rcases h3 with ⟨h, -⟩ | ⟨h, -⟩ | ⟨h, -⟩ | ⟨h, -⟩ <;> omega
   have htn : a.text = [] := by
    rcases h3 with ⟨-, h⟩ | ⟨h, -⟩ | ⟨h, -⟩ | ⟨-, h, -⟩
    ·exact h
    ·exact absurd h k2
    ·exact absurd h k3
    ·exact h
   refine (told_plain w g k o0 n cap A.length false ou l hT hL hn hlt hln (up a) hx a.kind rfl hk7 h1 (by show a.text.length ≤ _; omega)).mono ?_
   rintro e w' ⟨u, he, hu, h5, h6⟩
   exact fin ⟨u, he, by rw [hu, tell, if_neg (by omega)]; show hdN a.kind a.num ++ a.text = _; rw [htn, List.append_nil], h5, h6⟩
  | @node a dK K' MK oK d N' M o hk hm hK' hr =>
   obtain ⟨rfl, rfl, rfl⟩ := hr.none
   obtain ⟨⟨h1, h2, h3⟩, -⟩ := hall a (by rw [hl]; simp)
   rw [List.append_nil, lco] at hK
   rw [List.append_nil] at hl
   rw [List.append_nil, Bool.and_true]
   have hkk : a.kind = 4 ∨ a.kind = 5 ∨ a.kind = 6 := by
    rw [holds] at hk
    have := of_decide_eq_true hk
    omega
   have htn : a.text = [] := by
    rcases h3 with ⟨-, h⟩ | ⟨h, -⟩ | ⟨h, -⟩ | ⟨-, h, -⟩
    ·exact h
    ·omega
    ·omega
    ·exact h
   rcases hkk with h4 | h4 | h4
   ·have h5 := told_node4 l A R K' a MK dK oK hln (fun T' hT' => ih T' (by omega)) hK' hl h4 hm (by rw [htn]; decide) h1 w g k o0 n cap ou hT hL hn
    rw [htn, List.append_nil] at h5
    rw [h4]
    exact h5
   ·have h5 := told_node5 l A R K' a MK dK oK hln (fun T' hT' => ih T' (by omega)) hK' hl h4 hm (by rw [htn]; decide) h1 w g k o0 n cap ou hT hL hn
    rw [htn, List.append_nil] at h5
    rw [h4]
    exact h5
   ·have h5 := told_node6 l A R K' a MK dK oK hln (fun T' hT' => ih T' (by omega)) hK' hl h4 hm (by rw [htn]; decide) h1 w g k o0 n cap ou hT hL hn
    rw [htn, List.append_nil] at h5
    rw [h4]
    exact h5
def txs (l : List Ra) : Nat := (l.map fun a => a.text.length).sum
theorem txs_take (l : List Ra) (i : Nat) (hi : i < l.length) : txs (l.take (i + 1)) = txs (l.take i) + (l.getD i ra0).text.length := by
 rw [List.take_succ_eq_append_getElem hi, txs, txs, List.map_append, List.sum_append, List.getD, List.getElem?_eq_getElem hi]
 simp
theorem txs_le (l : List Ra) (i : Nat) : txs (l.take i) ≤ txs l := by
 have h := congrArg txs (List.take_append_drop i l)
 rw [txs, List.map_append, List.sum_append] at h
 rw [← h]
 exact Nat.le_add_right _ _
theorem mem_txs : ∀ (l : List Ra) (x : Ra), x ∈ l → x.text.length ≤ txs l
 | [], x, h => by cases h
 | a :: l, x, h => by
  rw [txs, List.map_cons, List.sum_cons]
  rcases List.mem_cons.1 h with rfl | h
  ·omega
  ·have := mem_txs l x h
   rw [txs] at this
   omega
theorem txs_up (N : List Am) : txs (N.map up) = (N.map fun a => a.text.length).sum := by
 rw [txs, List.map_map]
 rfl
theorem RetEnc.no {l : List Ra} {E : List UInt8 × Int} {c : Int} {w w' : World} (hE : enc Lib.validD l = E) (h : enc Lib.validD l = ([], c)) (hb : Below w.heap.size w w') : RetEnc E w (.returned (.tuple #[.string ⟨#[]⟩, .int .i64 c])) w' := by
 subst hE
 rw [h]
 exact ⟨⟨#[]⟩, rfl, tl_mk [], hb⟩
theorem RetEnc.yes {l : List Ra} {E : List UInt8 × Int} {B : List UInt8} {s : ByteArray} {w w' : World} (hE : enc Lib.validD l = E) (h : enc Lib.validD l = (B, 0)) (hs : s.toList = B) (hb : Below w.heap.size w w') : RetEnc E w (.returned (.tuple #[.string s, .int .i64 0])) w' := by
 subst hE
 rw [h]
 exact ⟨s, rfl, hs, hb⟩
theorem rencode_any (l : List Ra) (v : Value) (w : World) (hS : SrO w v l) (hK : ∀ a ∈ l, a.num < 18446744073709551616) (hbo : ∀ a ∈ l, a.text.length ≤ 140737488351232) (hn : l.length ≤ 140737488351232) :
  Calls Tryz.prog 64 #[v] w (RetEnc (enc Lib.validD l) w) := by
 obtain ⟨E, hE⟩ : ∃ E, enc Lib.validD l = E := ⟨_, rfl⟩
 rw [hE]
 have BH := hid (fun v' w' hS' h4 => behind_any l v' w' hS' hK h4)
 have HS := hid hS
 obtain ⟨a, cap, rfl, hl⟩ := hS
 obtain ⟨n, hn0⟩ : ∃ n, l.length = n := ⟨_, rfl⟩
 have HL := hid hl
 have HN := hid (aIn hn0 (aIn hK hbo))
 have HE := hid hE
 rw [hn0] at HS hn
 rw [hn0]
 clear hE hl hK hbo hn0
 go_enter Tryz.func64, Tryz.ntmps64
 by_cases h4 : 4096 < n
 ·have e1 : (4096 : Int) < (n : Int) := by omega
  have hb9 : enc Lib.validD l = ([], 10) := by rw [enc, if_pos (by rw [HN.out.1]; exact h4)]
  have HB9 := hid hb9
  clear hb9
  go_wp2_with fail
  go_ret2
  exact RetEnc.no HE.out HB9.out (Below.refl _ _)
 have h44 : ¬ (4096 : Int) < (n : Int) := by omega
 have HN4 : Hid (l.length ≤ 4096) := by show _ ≤ _; rw [HN.out.1]; omega
 have hn4 : n ≤ 4096 := by omega
 clear h4
 go_wp2_with fail
 go_loopw [4] (fun v4 wr => ∃ i : Nat, v4 = .int .i64 (i : Int) ∧ i ≤ n ∧ Hid (∀ j, j < i → rightR Lib.validD (l.getD j ra0) = true) ∧ Hid (Below w.heap.size w wr)) (fun v4 _ => n - (intOf v4).toNat)
 case atStart => exact ⟨0, rfl, Nat.zero_le _, fun j hj => absurd hj (Nat.not_lt_zero _), Below.refl _ _⟩
 case round =>
  obtain ⟨i, rfl, hi, HO, HB⟩ := hrel
  by_cases hin : i < n
  ·have e1 : (i : Int) < (n : Int) := by omega
   have hil : i < l.length := by rw [HN.out.1]; exact hin
   have hne : l ≠ [] := fun h => by rw [h] at hil; simp at hil
   obtain ⟨g, o, rfl, hAg, hgl⟩ := HL.out hne
   have hNc := (rcell_atO hAg i hil).below HB.out hgl
   obtain ⟨x, hx⟩ : ∃ x, l.getD i ra0 = x := ⟨_, rfl⟩
   have hmem : x ∈ l := by rw [← hx]; exact rgetD_mem hil
   rw [hx] at hNc
   have n0 := hNc.cell 0 _ rfl
   have n1 := hNc.cell 1 _ rfl
   have n2 := hNc.cell 2 _ rfl
   rw [Nat.add_zero] at n0
   obtain ⟨i1, hi1⟩ : ∃ j, i + 1 = j := ⟨_, rfl⟩
   have e4 : (i : Int) + 1 = (i1 : Int) := by omega
   have e5 : IntKind.i64.wrap (i1 : Int) = (i1 : Int) := wrap_fit i1 (by unfold maxLen; omega)
   have RR := hid (fun w' => rright_any x.kind x.num ⟨x.text.toArray⟩ x.text (tl_mk _) (by rw [← tl_size, tl_mk]; exact HN.out.2.2 x hmem) w')
   obtain ⟨rb, hrb⟩ : ∃ b, rightR Lib.validD ⟨x.kind, x.num, x.text⟩ = b := ⟨_, rfl⟩
   rw [hrb] at RR
   have hrb2 : rightR Lib.validD x = rb := hrb
   have HBad : Hid (rb = false → enc Lib.validD l = ([], 9)) := fun h9 => enc_wrong HN4.out ⟨x, hmem, by rw [hrb2, h9]⟩
   have HOk : Hid (rb = true → ∀ j, j < i1 → rightR Lib.validD (l.getD j ra0) = true) := fun h9 j hj => by
    rcases Nat.lt_or_ge j i with h8 | h8
    ·exact HO.out j h8
    ·rw [show j = i by omega, hx, hrb2, h9]
   have HI : Hid (i + 1 = i1 ∧ i1 ≤ n) := ⟨hi1, by omega⟩
   clear hmem hx hrb hrb2 hi1 hNc hil hi hne hAg hgl HO
   cases rb with
   | false =>
    have HB9 := hid (HBad.out rfl)
    go_wp2_with (first | (go_at_call 93; refine (RR.out _).mono ?_; rintro e w3 ⟨rfl, hb3⟩; have HB3 : Hid (Below w.heap.size w w3) := HB.out.trans (hb3.mono HB.out.size); clear hb3))
    go_ret2
    exact RetEnc.no HE.out HB9.out HB3.out
   | true =>
    have HO9 := hid (HOk.out rfl)
    go_wp2_with (first | (go_at_call 93; refine (RR.out _).mono ?_; rintro e w3 ⟨rfl, hb3⟩; have HB3 : Hid (Below w.heap.size w w3) := HB.out.trans (hb3.mono HB.out.size); clear hb3))
    go_roundw
    case rel => exact ⟨i1, rfl, HI.out.2, HO9, HB3⟩
    case measure => have h9 := HI.out; simp [intOf]; omega
  ·obtain rfl : i = n := by omega
   have e1 : ¬ (i : Int) < (i : Int) := by omega
   have hall : ∀ x ∈ l, rightR Lib.validD x = true := fun x hx => by
    obtain ⟨j, hj, rfl⟩ := List.mem_iff_getElem.1 hx
    have h9 := HO.out j (by rw [← HN.out.1]; exact hj)
    rw [List.getD, List.getElem?_eq_getElem hj] at h9
    exact h9
   have HALL := hid hall
   have HBND : Hid (∀ a ∈ l, a.num < 18446744073709551616 ∧ a.text.length < 18446744073709551616) := fun a ha => ⟨HN.out.2.1 a ha, by have := HN.out.2.2 a ha; omega⟩
   have HS1 : Hid (SrO wr (.slice a i cap) l) := HS.out.below HB.out
   clear hall hi
   go_wp2_with fail
   refine (BH.out _ _ HS1.out HN4.out).mono ?_
   rintro e w1 ⟨rfl, hb1⟩
   obtain ⟨en, hen⟩ : ∃ z, (bhc [] 0 0 l).1 = z := ⟨_, rfl⟩
   obtain ⟨mo, hmo⟩ : ∃ z, (bhc [] 0 0 l).2 = z := ⟨_, rfl⟩
   rw [hen, hmo]
   have HB1 : Hid (Below w.heap.size w w1) := HB.out.trans (hb1.mono HB.out.size)
   clear hb1
   by_cases h1 : en = (i : Int)
   case neg =>
    have HB9 := hid (enc_notree (txt := Lib.validD) HN4.out HBND.out HALL.out (.inl (by rw [hen, HN.out.1]; exact h1)))
    have x1 : (en != (i : Int)) = true := by rw [bne_iff_ne]; exact h1
    clear hen hmo h44 hn h1
    go_wp2_with fail
    go_ret2
    exact RetEnc.no HE.out HB9.out HB1.out
   case pos =>
    subst h1
    obtain ⟨d, N, B, oo, hlN, hI, hok, hdd⟩ := bhc_tree (txt := Lib.validD) HN4.out HBND.out HALL.out (by rw [hen, HN.out.1])
    have hln : l.length = N.length := by rw [hlN, List.length_map]
    have hnp : 0 < i := by have := hI.pos; have := HN.out.1; omega
    have x1 : ((i : Int) != (i : Int)) = false := by rw [bne_eq_false_iff_eq]
    have x0 : ((i : Int) == 0) = false := by rw [beq_eq_false_iff_ne]; omega
    have hne : l ≠ [] := fun h => by rw [h] at hln; have := hI.pos; simp at hln; omega
    obtain ⟨gl, o, rfl, hA, hlt⟩ := HL.out hne
    have hen2 := enc_tree hI hok (by rw [← hln]; exact HN4.out)
    rw [← hlN] at hen2
    have hmd : mo = d := by rw [← hmo]; exact hdd
    rw [← hmd] at hen2
    have htl := hI.texts_le hok
    rw [← txs_up, ← hlN] at htl
    simp only [List.flatten_cons, List.flatten_nil, List.append_nil] at htl
    have HX := hid (aIn hen2 (aIn htl (aIn hA (aIn hlt (aIn hI (aIn hok hlN))))))
    clear hen2 htl hA hlt hI hok hlN hen hmo hmd hdd hln hne hnp
    by_cases hd : 32 < mo
    ·have ed : (32 : Int) < (mo : Int) := by omega
     have HB9 : Hid (enc Lib.validD l = ([], 10)) := by show _ = _; rw [HX.out.1, if_pos (.inl hd)]
     go_wp2_with fail
     go_ret2
     exact RetEnc.no HE.out HB9.out HB1.out
    have ed : ¬ (32 : Int) < (mo : Int) := by omega
    have HBIG : Hid (262144 < B.length → enc Lib.validD l = ([], 10)) := fun h => by rw [HX.out.1, if_pos (.inr h)]
    have HSM : Hid (¬ 262144 < B.length → enc Lib.validD l = if oo = false then ([], 9) else (B, 0)) := fun h => by rw [HX.out.1, if_neg (by omega)]
    clear hd
    go_wp2_with fail
    go_loopw [7, 8] (fun v7 v8 wr => ∃ (j T : Nat), v8 = .int .i64 (j : Int) ∧ v7 = .int .i64 (T : Int) ∧ j ≤ i ∧ T = txs (l.take j) ∧ T ≤ 524288 ∧ wr = w1) (fun _ v8 _ => i - (intOf v8).toNat)
    case atStart => exact ⟨0, 0, rfl, rfl, Nat.zero_le _, rfl, by omega, rfl⟩
    case round =>
     obtain ⟨j, T, rfl, rfl, hj, hT, hTb, rfl⟩ := hrel
     by_cases hTT : T ≤ 262144
     ·have eT : (T : Int) ≤ 262144 := by omega
      have eT2 : ¬ (262144 : Int) < (T : Int) := by omega
      by_cases hji : j < i
      ·have e2 : (j : Int) < (i : Int) := by omega
       have hjl : j < l.length := by rw [HN.out.1]; exact hji
       have hNc := (rcell_atO HX.out.2.2.1 j hjl).below HB1.out HX.out.2.2.2.1
       obtain ⟨x, hx⟩ : ∃ x, l.getD j ra0 = x := ⟨_, rfl⟩
       have hmem : x ∈ l := by rw [← hx]; exact rgetD_mem hjl
       have htk := txs_take l j hjl
       rw [hx] at hNc htk
       have n2 := hNc.cell 2 _ rfl
       obtain ⟨y, hy⟩ : ∃ y, (⟨x.text.toArray⟩ : ByteArray).size = y := ⟨_, rfl⟩
       have hyl : x.text.length = y := by rw [← hy, ← tl_size, tl_mk]
       have hle := txs_le l (j + 1)
       rw [htk, hyl, ← hT] at hle
       obtain ⟨j1, hj1⟩ : ∃ q, j + 1 = q := ⟨_, rfl⟩
       have e4 : (j : Int) + 1 = (j1 : Int) := by omega
       have e5 : IntKind.i64.wrap (j1 : Int) = (j1 : Int) := wrap_fit j1 (by unfold maxLen; omega)
       by_cases hyb : 262144 < y
       ·have ey : (262144 : Int) < (y : Int) := by omega
        have HB9 : Hid (enc Lib.validD l = ([], 10)) := HBIG.out (by have := HX.out.2.1; omega)
        clear hle htk hmem hx hNc hj1 hyl hjl hT
        go_wp2_with fail
        go_ret2
        exact RetEnc.no HE.out HB9.out HB1.out
       ·have ey : ¬ (262144 : Int) < (y : Int) := by omega
        obtain ⟨T1, hT1⟩ : ∃ q, T + y = q := ⟨_, rfl⟩
        have e6 : (T : Int) + (y : Int) = (T1 : Int) := by omega
        have e7 : IntKind.i64.wrap (T1 : Int) = (T1 : Int) := wrap_fit T1 (by unfold maxLen; omega)
        have HJ : Hid (j1 ≤ i ∧ T1 = txs (l.take j1) ∧ T1 ≤ 524288 ∧ j + 1 = j1) := ⟨by omega, by rw [← hj1, htk, hyl, ← hT1, hT], by omega, hj1⟩
        clear hle htk hmem hx hNc hj1 hyl hjl hT hT1
        go_wp2_with fail
        go_roundw
        case rel => exact ⟨j1, T1, rfl, rfl, HJ.out.1, HJ.out.2.1, HJ.out.2.2.1, (by trivial)⟩
        case measure => have h9 := HJ.out; simp [intOf]; omega
      ·have hjn : j = i := by omega
       have e2 : ¬ (j : Int) < (i : Int) := by omega
       have hTl : T = txs l := by rw [hT, List.take_of_length_le (by rw [HN.out.1]; omega)]
       have HLL : Hid (∀ a : Am, up a ∈ l → okA Lib.validD a ∧ a.text.length ≤ 262144) := fun am ham => by
        have h7 := HX.out.2.2.2.2.2.2
        refine ⟨?_, ?_⟩
        ·rw [h7] at ham
         obtain ⟨b, hb, hbe⟩ := List.mem_map.1 ham
         rw [← up_inj hbe]
         exact HX.out.2.2.2.2.2.1 b hb
        ·have h8 := mem_txs l _ ham
         have h9 : am.text.length ≤ txs l := h8
         omega
       have CH := told_all l HN4.out HLL.out l.length N (by rw [HX.out.2.2.2.2.2.2, List.length_map]; exact nle _) d B oo HX.out.2.2.2.2.1 [] [] (by rw [HX.out.2.2.2.2.2.2]; simp)
       have CHH := hid CH
       have HXE : Hid (Te (wr.alloc (Obj.cells #[.slice (some ⟨gl, o, none⟩) i cap, .int .i64 0, .bool false, .bool false] 171)) wr.heap.size (.slice (some ⟨gl, o, none⟩) i cap) 0 false false) := ⟨At.ofAlloc wr _ _, by simp⟩
       have HLG : Hid (Lg (wr.alloc (Obj.cells #[.slice (some ⟨gl, o, none⟩) i cap, .int .i64 0, .bool false, .bool false] 171)) wr.heap.size gl o l) := ⟨(HX.out.2.2.1.below HB1.out HX.out.2.2.2.1).alloc _, nlt HX.out.2.2.2.1 HB1.out.size⟩
       have HB3 : Hid (Below w.heap.size w (wr.alloc (Obj.cells #[.slice (some ⟨gl, o, none⟩) i cap, .int .i64 0, .bool false, .bool false] 171))) := HB1.out.alloc HB1.out.size _
       have HG : Hid (w.heap.size ≤ wr.heap.size) := HB1.out.size
       clear CH hT hTl hj hjn hTb hTT
       go_wp2_with fail
       refine (CHH.out _ _ _ _ _ _ _ HXE.out HLG.out HN.out.1).mono ?_
       rintro e w5 h5
       obtain ⟨s, rfl, hs, hBl, HX5, HB5⟩ | ⟨s, x, ou, rfl, hbig, hsz, hx, HX5, HB5⟩ := h5
       ·have HB6 : Hid (Below w.heap.size w w5) := HB3.out.trans (HB5.out.low HG.out (by simp))
        have y2 := HX5.out.at0.z 2 _ rfl
        have y3 := HX5.out.at0.z 3 _ rfl
        obtain ⟨z, hz⟩ : ∃ z, s.size = z := ⟨_, rfl⟩
        have hzB : B.length = z := by rw [← hs, tl_size, hz]
        have HSS := hid hs
        by_cases hzz : 262144 < z
        ·have ez : (262144 : Int) < (z : Int) := by omega
         have HB9 : Hid (enc Lib.validD l = ([], 10)) := HBIG.out (by rw [hzB]; exact hzz)
         clear hs hBl hzB
         go_wp2_with fail
         go_ret2
         exact RetEnc.no HE.out HB9.out HB6.out
        ·have ez : ¬ (262144 : Int) < (z : Int) := by omega
         have h9 := HSM.out (by rw [hzB]; exact hzz)
         cases oo with
         | false =>
          rw [if_pos rfl] at h9
          have HB9 := hid h9
          rw [show (false || !false) = true from rfl] at y3
          clear hs hBl hzB h9
          go_wp2_with fail
          go_ret2
          exact RetEnc.no HE.out HB9.out HB6.out
         | true =>
          rw [if_neg (by decide)] at h9
          have HB9 := hid h9
          rw [show (false || !true) = false from rfl] at y3
          clear hs hBl hzB h9
          go_wp2_with fail
          go_ret2
          exact RetEnc.yes HE.out HB9.out HSS.out HB6.out
       ·have HB6 : Hid (Below w.heap.size w w5) := HB3.out.trans (HB5.out.low HG.out (by simp))
        have y2 := HX5.out.at0.z 2 _ rfl
        have HB9 : Hid (enc Lib.validD l = ([], 10)) := HBIG.out hbig
        clear hbig hsz hx
        go_wp2_with fail
        go_ret2
        exact RetEnc.no HE.out HB9.out HB6.out
     ·have eT : ¬ (T : Int) ≤ 262144 := by omega
      have eT2 : (262144 : Int) < (T : Int) := by omega
      have HB9 : Hid (enc Lib.validD l = ([], 10)) := HBIG.out (by have h1 := HX.out.2.1; have h2 := txs_le l j; omega)
      have e2 : (j : Int) < (i : Int) ∨ ¬ (j : Int) < (i : Int) := Classical.em _
      clear hT hTT
      rcases e2 with e2 | e2
      all_goals
       go_wp2_with fail
       go_ret2
       exact RetEnc.no HE.out HB9.out HB1.out
end Co
end Go.Proofs.YtikgonlhdkknkaaGreatDoor
