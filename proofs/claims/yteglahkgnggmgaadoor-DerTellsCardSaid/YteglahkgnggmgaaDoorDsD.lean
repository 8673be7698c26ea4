/- Telling: Encode. -/
import Derived.Test.YteglahkgnggmgaaDoorDsC
namespace Go.Proofs.YteglahkgnggmgaaDoor
open Go.RowKit
set_option linter.unusedVariables false
set_option linter.unusedSimpArgs false
open Dr
def RetEnc (r : List UInt8 × Int) (w : World) (e : Ending) (w' : World) : Prop := ∃ s : ByteArray, e = .returned (.tuple #[.string s, .int .i64 r.2]) ∧ s.toList = r.1 ∧ Below w.heap.size w w'
theorem bods_take (l : List Nd) (i : Nat) (hi : i < l.length) : bods (l.take (i + 1)) = bods (l.take i) + (l.getD i ⟨0, 0, []⟩).body.length := by
  rw [bods, bods, List.take_add_one, List.getElem?_eq_getElem hi, List.map_append, List.sum_append, List.getD, List.getElem?_eq_getElem hi]
  simp
theorem bods_all (l : List Nd) (B : Nat) (h : ∀ n ∈ l, n.body.length ≤ B) : bods l ≤ B * l.length := by
  induction l with
  | nil => exact Nat.zero_le _
  | cons n l ih =>
    have h1 := ih (fun x hx => h x (List.mem_cons_of_mem _ hx))
    have h2 := h n (List.mem_cons_self ..)
    have : bods (n :: l) = n.body.length + bods l := by simp [bods]
    rw [this, List.length_cons, Nat.mul_succ]
    omega
theorem all_take (l : List Nd) (i : Nat) (hi : i < l.length) : (l.take (i + 1)).all nodeOk = ((l.take i).all nodeOk && nodeOk (l.getD i ⟨0, 0, []⟩)) := by
  rw [List.take_add_one, List.getElem?_eq_getElem hi, List.getD, List.getElem?_eq_getElem hi]
  simp only [Option.toList, List.all_append, List.all_cons, List.all_nil, Bool.and_true]
  rfl
set_option maxRecDepth 100000 in
set_option maxHeartbeats 1600000 in
theorem encode_any (l : List Nd) (v : Value) (w : World) (hS : Sl w v l) (hK : KidsOk l) (hb : ∀ n ∈ l, n.body.length ≤ 140737488351232) (hmax : l.length ≤ 140737488351232) (hU : UT w.heap.size w) :
    Calls Tryd.prog 17 #[v] w (RetEnc (enc l) w) := by
  obtain ⟨R, hR⟩ : ∃ R, enc l = R := ⟨_, rfl⟩
  rw [hR]
  rw [enc] at hR
  obtain ⟨n, hn0⟩ : ∃ n, l.length = n := ⟨_, rfl⟩
  have HS := Lib.hid hS
  have HK := Lib.hid hK
  have HU := Lib.hid hU
  have HBL := Lib.hid hb
  obtain ⟨a, cap0, rfl, hl⟩ := hS
  have HL := Lib.hid hl
  have hnm : (n : Int) ≤ 140737488351232 := by omega
  by_cases h1 : 4096 < n
  · have e1 : (4096 : Int) < (n : Int) := by omega
    have HR : Hid (R = ([], 10)) := by show R = _; rw [← hR, if_pos (by rw [hn0]; exact h1)]
    have HN := Lib.hid hn0
    rw [hn0]
    clear hR h1 hl hK hU hb hmax hn0
    go_enter Tryd.func17, Tryd.ntmps17
    go_wp2_with fail
    go_ret2
    exact ⟨⟨#[]⟩, by rw [HR.out]; rfl, by rw [HR.out]; exact tl_mk [], Below.refl _ _⟩
  · have e1 : ¬ (4096 : Int) < (n : Int) := by omega
    rw [if_neg (by rw [hn0]; exact h1)] at hR
    have SH := Lib.hid (shape_any l _ w HS.out hK (by rw [hn0]; omega))
    rw [hn0] at SH
    obtain ⟨dp, hdp⟩ : ∃ d, (shp [1] 0 l).1 = d := ⟨_, rfl⟩
    cases ho : (shp [1] 0 l).2 with
    | false =>
      rw [ho] at hR
      have HR : Hid (R = ([], 9)) := by show R = _; rw [← hR]; rfl
      have HSV := Lib.hid (And.intro hdp ho)
      have HN := Lib.hid hn0
      rw [hn0]
      clear hR h1 hl hK hU hb hmax hn0 hdp ho
      go_enter Tryd.func17, Tryd.ntmps17
      go_wp2_with (first | (go_at_call 33; refine SH.out.mono ?_; rintro e w1 ⟨h9, hb1⟩; rw [HSV.out.1, HSV.out.2] at h9; subst h9))
      go_ret2
      exact ⟨⟨#[]⟩, by rw [HR.out]; rfl, by rw [HR.out]; exact tl_mk [], hb1⟩
    | true =>
      rw [ho, if_neg (by decide)] at hR
      obtain ⟨hFi, hj1, hne⟩ := shp_one ho
      have hdp0 : 0 ≤ dp := by rw [← hdp]; exact shp_le l _ _ (Int.le_refl _)
      obtain ⟨g, rfl, hAg, hgl⟩ := hl hne
      have JN := Lib.hid (fun (w' : World) (hS' : Sl w' (.slice (some ⟨g, 0, none⟩) l.length cap0) l) (hbo : bods l ≤ 262144) => join_any l _ w' hS' hK hFi (by rw [hn0]; omega) hne hbo)
      rw [hn0] at JN
      rw [hdp] at hR
      have HRR := Lib.hid hR
      have HSV := Lib.hid (And.intro hdp (And.intro ho (And.intro hj1 h1)))
      have HAG := Lib.hid (And.intro hAg hgl)
      have HN := Lib.hid hn0
      rw [hn0]
      clear hR h1 hl hK hU hb hmax hdp ho hFi hj1 hne hAg hgl hn0
      go_enter Tryd.func17, Tryd.ntmps17
      go_wp2_with (first | (go_at_call 33; refine SH.out.mono ?_; rintro e w1 ⟨h9, hb1⟩; rw [HSV.out.1, HSV.out.2.1] at h9; subst h9))
      have HB1 := Lib.hid hb1
      clear hb1
      go_loopw [6, 23] (fun vs vi wr => ∃ i z : Nat, vi = .int .i64 (i : Int) ∧ i ≤ n ∧ vs = .int .i64 (z : Int) ∧ Hid (bods (l.take i) = z) ∧ Hid ((l.take i).all nodeOk = true) ∧ Hid (Below w.heap.size w wr)) (fun _ vi _ => n - (intOf vi).toNat)
      case atStart => exact ⟨0, 0, rfl, Nat.zero_le _, rfl, rfl, rfl, HB1⟩
      case round =>
        obtain ⟨i, z, rfl, hi, rfl, HZ, HA, HB⟩ := hrel
        clear HB1
        by_cases hin : i < n
        · have hil : i < l.length := by rw [HN.out]; exact hin
          have hNc := (ncell_at HAG.out.1 i hil).below HB.out HAG.out.2
          obtain ⟨nd, hnd⟩ : ∃ nd, l.getD i ⟨0, 0, []⟩ = nd := ⟨_, rfl⟩
          have hkn := HK.out nd (by rw [← hnd]; exact getD_mem hil)
          have hbn := HBL.out nd (by rw [← hnd]; exact getD_mem hil)
          have hbt := bods_take l i hil
          have hat := all_take l i hil
          have hmem : nd ∈ l := by rw [← hnd]; exact getD_mem hil
          rw [hnd] at hNc hbt hat
          have n0 := hNc.cell 0 _ rfl
          have n1 := hNc.cell 1 _ rfl
          have n2 := hNc.cell 2 _ rfl
          rw [Nat.add_zero] at n0
          obtain ⟨bd, hbd⟩ : ∃ b : ByteArray, (⟨nd.body.toArray⟩ : ByteArray) = b := ⟨_, rfl⟩
          have hbl : bd.toList = nd.body := by rw [← hbd, tl_mk]
          rw [hbd] at n2
          obtain ⟨y, hy⟩ : ∃ y, bd.size = y := ⟨_, rfl⟩
          have hyb : nd.body.length = y := by rw [← hbl, tl_size, hy]
          rw [hyb] at hbn hbt
          have RN := Lib.hid (fun w' hU => rightNode_any nd bd hbl (by omega) w' hU)
          obtain ⟨r, hr⟩ : ∃ r, nodeOk nd = r := ⟨_, rfl⟩
          rw [hr] at RN hat
          have hsum : bods (l.take (i + 1)) ≤ 140737488351232 * 4096 := by
            have h1 := bods_all (l.take (i + 1)) 140737488351232 (fun x hx => HBL.out x (List.mem_of_mem_take hx))
            rw [List.length_take] at h1
            have h2 := HSV.out.2.2.2
            have h3 : min (i + 1) l.length ≤ 4096 := by have := HN.out; omega
            exact Nat.le_trans h1 (Nat.mul_le_mul_left _ h3)
          rw [HZ.out] at hbt
          rw [hbt] at hsum
          have e2 : (i : Int) < (n : Int) := by omega
          have e9 : (i : Int) ≤ 4096 := by have := HSV.out.2.2.2; omega
          obtain ⟨q, hq⟩ : ∃ q, z + y = q := ⟨_, rfl⟩
          have e3 : (z : Int) + (y : Int) = (q : Int) := by omega
          have e4 : IntKind.i64.wrap (q : Int) = (q : Int) := wrap_fit q (by unfold maxLen; omega)
          have HII := Lib.hid (show ∃ j, n = i + 1 + j from ⟨n - i - 1, by omega⟩)
          have HQ : Hid (bods (l.take (i + 1)) = q) := by show _ = _; rw [hbt, hq]
          have HA2 : Hid ((l.take (i + 1)).all nodeOk = r) := by show _ = _; rw [hat, HA.out]; exact Bool.true_and r
          have HUW := Lib.hid ((HU.out.below (HB.out.alloc HB.out.size (Obj.cells #[.int .u8 (nd.tag.toNat : Int), .int .i64 nd.kids, .string bd] 63))).1)
          have HRB : Hid (r = false → l.all nodeOk = false) := fun h => by
            rw [List.all_eq_false]
            exact ⟨nd, hmem, by rw [hr, h]; decide⟩
          obtain ⟨kk, hkk⟩ : ∃ kk, nd.kids = kk := ⟨_, rfl⟩
          rw [hkk] at n1 hkn RN HUW
          have HKK := Lib.hid hkn
          clear hNc hnd hkn hbn hbt hat hbd hbl hyb hr hsum hq hi hin hil hmem hkk
          cases r with
          | false =>
            have HF : Hid (R = ([], 9)) := by show R = _; rw [← HRR.out, if_pos (HRB.out rfl)]
            go_wp2_with (first | (go_at_call 34; refine (RN.out _ HUW.out).mono ?_; rintro e w2 ⟨rfl, hb2⟩))
            go_ret2
            exact ⟨⟨#[]⟩, by rw [HF.out]; rfl, by rw [HF.out]; exact tl_mk [], (HB.out.alloc HB.out.size _).trans (hb2.mono (by have := HB.out.size; simp; omega))⟩
          | true =>
            have hT1 := (At.ofAlloc wr #[.int .u8 (nd.tag.toNat : Int), .int .i64 kk, .string bd] 63).cell 2 _ rfl
            have HT1 := Lib.hid (At.ofAlloc wr #[.int .u8 (nd.tag.toNat : Int), .int .i64 kk, .string bd] 63)
            go_wp2_with (first | (go_at_call 34; refine (RN.out _ HUW.out).mono ?_; rintro e w2 ⟨rfl, hb2⟩; have hT2 := (HT1.out.below hb2 (by simp)).cell 2 _ rfl; rw [Nat.zero_add] at hT2; have HB2 : Hid (Below w.heap.size w w2) := (HB.out.alloc HB.out.size _).trans (hb2.mono (by have := HB.out.size; simp; omega)); clear hb2))
            go_roundw
            case rel => exact ⟨i + 1, q, by go_num, by obtain ⟨j, hj⟩ := HII.out; omega, rfl, HQ, HA2, HB2⟩
            case measure => obtain ⟨j, hj⟩ := HII.out; simp [intOf]; omega
        · obtain rfl : i = n := by omega
          have e2 : ¬ (i : Int) < (i : Int) := by omega
          rw [List.take_of_length_le (by rw [HN.out]; exact Nat.le_refl _)] at HZ HA
          have hR := HRR.out
          rw [if_neg (by rw [HA.out]; decide), HZ.out] at hR
          clear HRR hin hi
          by_cases h32 : 32 < dp
          · have HF : Hid (R = ([], 10)) := by show R = _; rw [← hR, if_pos (.inl h32)]
            clear hR
            go_wp2_with fail
            go_ret2
            exact ⟨⟨#[]⟩, by rw [HF.out]; rfl, by rw [HF.out]; exact tl_mk [], HB.out⟩
          · by_cases h26 : 262144 < z
            · have HF : Hid (R = ([], 10)) := by show R = _; rw [← hR, if_pos (.inr h26)]
              have e3 : (262144 : Int) < (z : Int) := by omega
              clear hR h26
              go_wp2_with fail
              go_ret2
              exact ⟨⟨#[]⟩, by rw [HF.out]; rfl, by rw [HF.out]; exact tl_mk [], HB.out⟩
            · rw [if_neg (by omega)] at hR
              have e3 : ¬ (262144 : Int) < (z : Int) := by omega
              have HJ := Lib.hid (JN.out wr (by have h1 := HS.out.below HB.out; rw [HN.out] at h1; exact h1) (by rw [HZ.out]; omega))
              obtain ⟨o, ho⟩ : ∃ o, (jnS l).2 = o := ⟨_, rfl⟩
              obtain ⟨t, ht⟩ : ∃ t, (jnS l).1.getD 0 [] = t := ⟨_, rfl⟩
              rw [ho, ht] at hR
              have HJ2 : Hid (∀ e w5, RetJn l wr e w5 → ∃ s : ByteArray, e = .returned (.tuple #[.string s, .bool o]) ∧ Hid (s.toList = t) ∧ Hid (Below w.heap.size w w5)) := by
                rintro e w5 ⟨s, h9, hs, hb⟩
                rw [ho] at h9
                rw [HSV.out.2.2.1, Nat.sub_self, ht] at hs
                exact ⟨s, h9, hs, HB.out.trans (hb.mono HB.out.size)⟩
              clear ho ht h26
              by_cases hl2 : 262144 < t.length
              · have HF : Hid (R = ([], 10)) := by show R = _; rw [← hR, if_pos hl2]
                have HT := Lib.hid hl2
                clear hR hl2
                go_wp2_with (first | (go_at_call 35; refine HJ.out.mono ?_; intro e w5 h9; obtain ⟨s, rfl, hs, hb5⟩ := HJ2.out e w5 h9; have e5 : (262144 : Int) < (s.size : Int) := by (have h8 := HT.out; rw [← hs.out, tl_size] at h8; omega)))
                go_ret2
                exact ⟨⟨#[]⟩, by rw [HF.out]; rfl, by rw [HF.out]; exact tl_mk [], hb5⟩
              · rw [if_neg hl2] at hR
                have HT := Lib.hid hl2
                cases o with
                | false =>
                  have HF : Hid (R = ([], 9)) := by show R = _; rw [← hR, if_pos rfl]
                  clear hR hl2
                  go_wp2_with (first | (go_at_call 35; refine HJ.out.mono ?_; intro e w5 h9; obtain ⟨s, rfl, hs, hb5⟩ := HJ2.out e w5 h9; have e5 : ¬ (262144 : Int) < (s.size : Int) := by (have h8 := HT.out; rw [← hs.out, tl_size] at h8; omega)))
                  go_ret2
                  exact ⟨⟨#[]⟩, by rw [HF.out]; rfl, by rw [HF.out]; exact tl_mk [], hb5⟩
                | true =>
                  have HF : Hid (R = (t, 0)) := by show R = _; rw [← hR, if_neg (by decide)]
                  clear hR hl2
                  go_wp2_with (first | (go_at_call 35; refine HJ.out.mono ?_; intro e w5 h9; obtain ⟨s, rfl, hs, hb5⟩ := HJ2.out e w5 h9; have e5 : ¬ (262144 : Int) < (s.size : Int) := by (have h8 := HT.out; rw [← hs.out, tl_size] at h8; omega)))
                  go_ret2
                  exact ⟨s, by rw [HF.out]; rfl, by rw [HF.out]; exact hs, hb5⟩
end Go.Proofs.YteglahkgnggmgaaDoor
