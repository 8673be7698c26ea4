/- Structures: the program's. -/
import Derived.Test.YtikgonlhdkknkaaDoorCvA
import Derived.Test.YtikgonlhdkknkaaDoorRowS
namespace Go.Proofs.YtikgonlhdkknkaaDoor
open Go.RowKit
set_option linter.unusedVariables false
set_option linter.unusedSimpArgs false
namespace Ce
open Co (Am Ra up rcells rv UT DecR enc Its holds tell okA hdN infN widN bytesN)
def preS (x : Ev) : List UInt8 := if x.format = 5 then [0x83, 0x68, 69, 110, 99, 114, 121, 112, 116, 48] else [0x84, 0x64, 77, 65, 67, 48]
def partsS (x : Ev) (aad : List UInt8) : List (List UInt8) := if x.format = 5 then [x.header, aad] else [x.header, aad, x.cipher]
def strP (x : Ev) (aad : List UInt8) : List UInt8 := preS x ++ ((partsS x aad).map byt).flatten
theorem byt_len (s : List UInt8) : (byt s).length ≤ s.length + 9 := by
  rw [byt, List.length_append, Co.hdN_length]
  have := widN_le s.length
  omega
theorem flat_take_len {L : List (List UInt8)} (hL : ∀ s ∈ L, s.length ≤ 1048576) (i : Nat) : (((L.take i).map byt).flatten).length ≤ i * 1048585 := by
  induction i with
  | zero => simp
  | succ i ih =>
    by_cases h : i < L.length
    · rw [List.take_succ_eq_append_getElem h, List.map_append, List.flatten_append, List.length_append]
      have h1 := byt_len L[i]
      have h2 := hL L[i] (List.getElem_mem h)
      simp only [List.map_cons, List.map_nil, List.flatten_cons, List.flatten_nil, List.append_nil]
      rw [Nat.add_mul, Nat.one_mul]
      exact Nat.add_le_add ih (Nat.le_trans h1 (Nat.add_le_add_right h2 9))
    · rw [List.take_of_length_le (by omega)] at ih ⊢
      exact Nat.le_trans ih (Nat.mul_le_mul_right _ (Nat.le_succ i))
theorem flat_take_succ {L : List (List UInt8)} {i : Nat} {s : List UInt8} (h : L[i]? = some s) : ((L.take (i + 1)).map byt).flatten = ((L.take i).map byt).flatten ++ byt s := by
  obtain ⟨h1, h2⟩ := List.getElem?_eq_some_iff.1 h
  rw [List.take_succ_eq_append_getElem h1, List.map_append, List.flatten_append, h2]
  simp
theorem preS_len (x : Ev) : (preS x).length ≤ 10 := by rw [preS]; split <;> decide
theorem partsS_len (x : Ev) (aad : List UInt8) : (partsS x aad).length ≤ 3 := by rw [partsS]; split <;> simp
theorem partsS_all {x : Ev} {aad : List UInt8} (hh : x.header.length ≤ 1048576) (hc : x.cipher.length ≤ 1048576) (ha : aad.length ≤ 1048576) : ∀ s ∈ partsS x aad, s.length ≤ 1048576 := by
  intro s hs
  rw [partsS] at hs
  split at hs <;> simp only [List.mem_cons, List.mem_nil_iff, or_false] at hs
  · rcases hs with rfl | rfl <;> assumption
  · rcases hs with rfl | rfl | rfl <;> assumption
set_option maxRecDepth 100000 in
set_option maxHeartbeats 3200000 in
theorem cstruct_any (x : Ev) (vx : Value) (aad : List UInt8) (w : World) (hx : Ty w vx x.rcs) (hh : x.header.length ≤ 1048576) (hc : x.cipher.length ≤ 1048576) (ha : aad.length ≤ 1048576) (hU : UT w.heap.size w) :
    Calls Tryd.prog 15 #[evv x vx, .string (bs aad)] w (fun e w' => e = .returned (.string (bs (strP x aad))) ∧ Below w.heap.size w w') := by
  obtain ⟨i0, hi, hq⟩ := Option.map_eq_some_iff.1 infoS
  simp only [Prod.mk.injEq] at hq
  obtain ⟨hz0, hz1, hz2⟩ := hq
  have HU := Lib.hid hU
  have HTA := Lib.hid (fun (k : Nat) (s : List UInt8) (w' : World) hk hs hU => ctold_any k s hk hs w' hU)
  have HHA := Lib.hid (fun (m : Nat) (w' : World) hm hU => chead_any 4 m (.inr (.inr rfl)) hm w' hU)
  have HALL := Lib.hid (partsS_all hh hc ha)
  obtain ⟨ax, cx, rfl, -⟩ := hx
  obtain ⟨n, hn⟩ : ∃ n, x.rcs.length = n := ⟨_, rfl⟩
  rw [hn]
  unfold evv
  have hA0 := At.ofAlloc w #[.int .i64 x.format, .int .i64 x.alg, .slice ax n cx, .string (bs x.header), .string (bs x.loose), .string (bs x.aad), .string (bs x.iv), .string (bs x.cipher), .string (bs x.tag)] 24
  have hb0 : Below w.heap.size w (w.alloc (Obj.cells #[.int .i64 x.format, .int .i64 x.alg, .slice ax n cx, .string (bs x.header), .string (bs x.loose), .string (bs x.aad), .string (bs x.iv), .string (bs x.cipher), .string (bs x.tag)] 24)) := (Below.refl _ _).alloc (Nat.le_refl _) _
  obtain ⟨B, hB⟩ : ∃ B, w.heap.size = B := ⟨_, rfl⟩
  have HBB := Lib.hid hB
  clear hU hh hc ha hn
  go_enter Tryd.func15, Tryd.ntmps15
  go_upto_region 1 with fail
  obtain ⟨w0, hw0⟩ : ∃ q, w.alloc (Obj.cells #[.int .i64 x.format, .int .i64 x.alg, .slice ax n cx, .string (bs x.header), .string (bs x.loose), .string (bs x.aad), .string (bs x.iv), .string (bs x.cipher), .string (bs x.tag)] 24) = q := ⟨_, rfl⟩
  have hs0 : w0.heap.size = B + 1 := by rw [← hw0, ← hB]; simp
  rw [hw0] at hA0 hb0
  try rw [hw0]
  rw [hB] at hA0
  try rw [hB]
  have HA0 := Lib.hid hA0
  have HB0 := Lib.hid hb0
  have HS0 := Lib.hid hs0
  have a3 := hA0.cell 3 _ rfl
  rw [Nat.zero_add] at a3
  clear hw0 hA0 hb0 hs0 hB
  go_upto_region 2 with fail
  obtain ⟨T, hT⟩ : ∃ T, w0.heap.size = T := ⟨_, rfl⟩
  obtain ⟨w1, hw1⟩ : ∃ q, w0.alloc (Obj.cells #[.string (bs x.header), .string (bs aad)] 9) = q := ⟨_, rfl⟩
  have HO1 : Hid (w1.ownsRow T 9 1 (.slice (some ⟨T, 0, none⟩) 2 2) 2 (scells [bs x.header, bs aad])) := by
    show World.ownsRow _ _ _ _ _ _ _
    rw [← hw1, ← hT]
    exact World.ownsRow_lit (base := w0.heap.size) (e := 9) (size := 1) w0 #[.string (bs x.header), .string (bs aad)] 2 (Nat.le_refl _) (by unfold maxLen; omega) rfl
  have hb1 : Below w0.heap.size w0 w1 := by rw [← hw1]; exact (Below.refl _ _).alloc (Nat.le_refl _) _
  have HB1 : Hid (Below w.heap.size w w1) := HB0.out.trans (hb1.mono HB0.out.size)
  have HA1 := Lib.hid (HA0.out.below hb1 (by rw [HS0.out]; omega))
  have HS1 : Hid (w1.heap.size = T + 1 ∧ B < T) := ⟨by rw [← hw1, ← hT]; simp, by rw [← hT, HS0.out]; omega⟩
  rw [hw1]
  try rw [hT]
  clear hw1 hT hb1 a3
  go_wp2_with fail
  refine (HTA.out 3 [69, 110, 99, 114, 121, 112, 116, 48] w1 (.inr rfl) (by decide) (HU.out.at HB1.out)).mono ?_
  rintro e w2 ⟨rfl, hb2⟩
  have HB2 : Hid (Below w.heap.size w w2) := HB1.out.trans (hb2.mono HB1.out.size)
  have HA2 := Lib.hid (HA1.out.below hb2 (by have := HS1.out; omega))
  have HO2 := Lib.hid (own_below HO1.out hb2 (Nat.le_refl _))
  have HS2 : Hid (T < w2.heap.size ∧ B < T) := ⟨by have := HS1.out; have := hb2.size; omega, HS1.out.2⟩
  clear hb2
  have a0 := HA2.out.cell 0 _ rfl
  have a7 := HA2.out.cell 7 _ rfl
  rw [Nat.zero_add] at a0 a7
  obtain ⟨bb, hbb⟩ : ∃ b, (x.format != 5) = b := ⟨_, rfl⟩
  go_upto_if 16 with fail
  have HBN := Lib.hid hbb
  clear hbb a0
  go_cut [5, 6] from 16 to 22 (fun v5 v6 wx => ∃ (g k c : Nat) (P : List UInt8), v5 = .slice (some ⟨g, 0, none⟩) k c ∧ v6 = .string (bs P) ∧ Hid (k = (partsS x aad).length) ∧ Hid (hdN 4 (k + 1) ++ P = preS x) ∧ Hid (wx.ownsRow T 9 1 (.slice (some ⟨g, 0, none⟩) k c) k (scells ((partsS x aad).map bs))) ∧ Hid (Below w.heap.size w wx) ∧ Hid (T < wx.heap.size))
  case first =>
    cases bb
    case false =>
      have h5 : x.format = 5 := by have h := HBN.out; simpa using h
      have HPP : Hid (partsS x aad = [x.header, aad]) := by show _ = _; rw [partsS, if_pos h5]
      have HPR : Hid (preS x = [0x83, 0x68, 69, 110, 99, 114, 121, 112, 116, 48]) := by show _ = _; rw [preS, if_pos h5]
      clear h5
      go_wp2_with fail
      go_meet
      case rel => exact ⟨T, 2, 2, hdN 3 8 ++ [69, 110, 99, 114, 121, 112, 116, 48], rfl, rfl, by rw [HPP.out]; rfl, by rw [HPR.out]; rfl, by rw [HPP.out]; exact HO2.out, HB2.out, HS2.out.1⟩
    case true =>
      have h5 : ¬ x.format = 5 := by have h := HBN.out; simpa using h
      have HPP : Hid (partsS x aad = [x.header, aad, x.cipher]) := by show _ = _; rw [partsS, if_neg h5]
      have HPR : Hid (preS x = [0x84, 0x64, 77, 65, 67, 48]) := by show _ = _; rw [preS, if_neg h5]
      clear h5
      have hb3 : Below w2.heap.size w2 (w2.alloc (Obj.cells #[.string (bs x.cipher)] 9)) := (Below.refl _ _).alloc (Nat.le_refl _) _
      have HO3 := Lib.hid (own_below HO2.out hb3 (Nat.le_refl _))
      have HC3 := Lib.hid ((At.ofAlloc w2 #[.string (bs x.cipher)] 9).cell 0 _ rfl)
      have HB3 : Hid (Below T w (w2.alloc (Obj.cells #[.string (bs x.cipher)] 9)) → True) := fun _ => trivial
      clear hb3
      go_wp2_with (at_builtin; refine wpList_append_str rfl (.tmp 17) (.tmp 20) 70 rfl T 9 i0 Tryd.underlying70 hi hz0 hz1 hz2 _ 2 [bs x.header, bs aad] rfl HO3.out w2.heap.size 1 (bs x.cipher) rfl HC3.out (by omega) (by have := HS2.out; simp; omega) ?_; intro v4 w4 hown4 hgrow4; obtain ⟨g4, c4, rfl, hg4⟩ := own_form hown4; have HO4 := Lib.hid hown4; have HG4 := Lib.hid hg4; have HB4 : Hid (Below w.heap.size w w4) := (HB2.out.alloc HB2.out.size _).grown hgrow4 (by have h1 := HB2.out.size; have h2 := HS2.out; simp; omega) (fun k hk => by have h1 := (HO3.out.lt k hk).1; have h2 := HS2.out.2; rw [HBB.out]; omega); have HS4 : Hid (T < w4.heap.size) := by { have h1 := hgrow4.size; have h2 := HS2.out.1; rw [World.size_alloc] at h1; show T < _; omega }; clear hown4 hgrow4 hg4)
      refine (HTA.out 3 [77, 65, 67, 48] w4 (.inr rfl) (by decide) (HU.out.at HB4.out)).mono ?_
      rintro e w5 ⟨rfl, hb5⟩
      have HB5 : Hid (Below w.heap.size w w5) := HB4.out.trans (hb5.mono HB4.out.size)
      have HO5 := Lib.hid (own_below HO4.out hb5 (Nat.le_refl _))
      have HS5 : Hid (T < w5.heap.size) := Nat.lt_of_lt_of_le HS4.out hb5.size
      clear hb5
      obtain ⟨g, rfl⟩ := HG4.out (by omega)
      go_wp2_with fail
      go_meet
      case rel => exact ⟨g, 2 + 1, c4, hdN 3 4 ++ [77, 65, 67, 48], rfl, rfl, by rw [HPP.out]; rfl, by rw [HPR.out]; rfl, by rw [HPP.out]; exact HO5.out, HB5.out, HS5.out⟩
  case rest =>
    obtain ⟨g, k, c, P, rfl, rfl, hk, hP, HO, HB, HS⟩ := hcut
    have HK := hk
    have HP := hP
    have hk3 : k ≤ 3 := by rw [hk.out]; exact partsS_len x aad
    have hpl : (hdN 4 (k + 1) ++ P).length ≤ 10 := by rw [hP.out]; exact preS_len x
    rw [List.length_append] at hpl
    obtain ⟨m, hm⟩ : ∃ m, k + 1 = m := ⟨_, rfl⟩
    have HM := Lib.hid hm
    have e1 : (k : Int) + 1 = (m : Int) := by omega
    have e2 : IntKind.i64.wrap (m : Int) = (m : Int) := Co.wrap_fit m (by unfold maxLen; omega)
    rw [hm] at hpl HP
    have HPL := Lib.hid hpl
    have HK3 := Lib.hid hk3
    clear hk hP hk3 hpl hm
    go_wp2_with fail
    refine (HHA.out m _ (by have := HM.out; have := HK3.out; omega) (HU.out.at HB.out)).mono ?_
    rintro e w6 ⟨rfl, hb6⟩
    have HB6 : Hid (Below w.heap.size w w6) := HB.out.trans (hb6.mono HB.out.size)
    have HO6 := Lib.hid (own_below HO.out hb6 (Nat.le_refl _))
    clear hb6
    have hov : ¬ 9223372036854775807 < (bs (hdN 4 m)).size + (bs P).size := by have := HPL.out; rw [bs_size, bs_size]; omega
    go_upto_region 7 with fail
    have hpp : bs (hdN 4 m) ++ bs P = bs (preS x) := by rw [ss_app, HP.out]
    try rw [hpp]
    clear hov
    go_wp2_with fail
    go_loopw [6, 8, 31] (fun vo _ vi wr => ∃ (i : Nat) (O : List UInt8), vi = .int .i64 (i : Int) ∧ vo = .string (bs O) ∧ Hid (O = preS x ++ (((partsS x aad).take i).map byt).flatten) ∧ i ≤ k ∧ Hid (Below w6.heap.size w6 wr)) (fun _ _ vi _ => k - (intOf vi).toNat)
    case atStart => exact ⟨0, preS x, rfl, rfl, by show _ = _; rw [List.take_zero, List.map_nil, List.flatten_nil, List.append_nil], Nat.zero_le _, Below.refl _ _⟩
    case round =>
      obtain ⟨i, O, rfl, rfl, HO7, hi, HBr⟩ := hrel
      have HBw : Hid (Below w.heap.size w wr) := HB6.out.trans (HBr.out.mono HB6.out.size)
      by_cases hin : i < k
      case pos =>
        have hil : i < (partsS x aad).length := by rw [← HK.out]; exact hin
        obtain ⟨s, hs⟩ : ∃ s, (partsS x aad)[i]? = some s := ⟨_, List.getElem?_eq_getElem hil⟩
        have hsl : s.length ≤ 1048576 := HALL.out s (List.mem_of_getElem? hs)
        have hcell := scell (own_below HO6.out HBr.out (Nat.le_refl _)) i (bs s) (by rw [List.getElem?_map, hs]; rfl)
        have e3 : (i : Int) < (k : Int) := by omega
        have e4 : IntKind.i64.wrap ((i : Int) + 1) = (i : Int) + 1 := by have := HK3.out; have := Co.wrap_fit (i + 1) (by unfold maxLen; omega); push_cast at this; exact this
        have e5 : (i : Int) ≤ 140737488351232 := by have := HK3.out; omega
        have hfl := flat_take_len HALL.out i
        have hps := preS_len x
        have hbl := byt_len s
        have hov : ¬ 9223372036854775807 < (bs O).size + (bs (byt s)).size := by
          rw [bs_size, bs_size, HO7.out, List.length_append]
          have := HK3.out
          have : i * 1048585 ≤ 3 * 1048585 := Nat.mul_le_mul_right _ (by omega)
          omega
        obtain ⟨Q, hQ⟩ : ∃ Q, O ++ byt s = Q := ⟨_, rfl⟩
        have happ : bs O ++ bs (byt s) = bs Q := by rw [ss_app, hQ]
        have HQ : Hid (Q = preS x ++ (((partsS x aad).take (i + 1)).map byt).flatten) := by
          show _ = _
          rw [← hQ, HO7.out, List.append_assoc, ← flat_take_succ hs]
        have TO := Lib.hid (HTA.out 2 s wr (.inl rfl) (Nat.le_trans hsl (by decide)) (HU.out.at HBw.out))
        have HII := Lib.hid (show ∃ j, k = i + 1 + j from ⟨k - i - 1, by omega⟩)
        clear hi hin hil hs hsl hfl hps hbl hQ
        rw [show hdN 2 s.length ++ s = byt s from rfl] at TO
        go_wp2_with fail
        refine TO.out.mono ?_
        rintro e w7 ⟨rfl, hb7⟩
        have HB7 : Hid (Below w6.heap.size w6 w7) := HBr.out.trans (hb7.mono HBr.out.size)
        clear hb7
        go_wp2_with fail
        go_roundw
        case rel => exact ⟨i + 1, Q, by go_num, rfl, HQ, by obtain ⟨j, hj⟩ := HII.out; omega, HB7⟩
        case measure => obtain ⟨j, hj⟩ := HII.out; simp [intOf]; omega
      case neg =>
        obtain rfl : i = k := by omega
        have e3 : ¬ (i : Int) < (i : Int) := by omega
        have HF : Hid (O = strP x aad) := by
          show _ = _
          rw [HO7.out]
          rw [List.take_of_length_le (by rw [HK.out]; exact Nat.le_refl _)]
          rfl
        clear hi hin
        go_wp2_with fail
        go_ret
        exact ⟨by rw [← HF.out]; rfl, HBw.out⟩
end Ce
end Go.Proofs.YtikgonlhdkknkaaDoor
