/- Structures: the document's; unlike things beside have unlike ones. -/
import Derived.Test.YtikgonlhdkknkaaDoorCvB
namespace Go.Proofs.YtikgonlhdkknkaaDoor
open Go.RowKit
set_option linter.unusedVariables false
set_option linter.unusedSimpArgs false
namespace Ce
open Co (Am Ra up rcells rv UT DecR enc Its holds tell okA hdN infN widN bytesN)
theorem widN_mono {m n : Nat} (h : m ≤ n) : widN m ≤ widN n := by
  rw [widN, widN]
  repeat' split
  all_goals omega
theorem byt_len_eq (s : List UInt8) : (byt s).length = widN s.length + 1 + s.length := by rw [byt, List.length_append, Co.hdN_length]
theorem byt_inj {a b : List UInt8} (h : byt a = byt b) : a = b := by
  have h1 := congrArg List.length h
  rw [byt_len_eq, byt_len_eq] at h1
  have h2 : a.length = b.length := by
    rcases Nat.lt_trichotomy a.length b.length with h2 | h2 | h2
    · have := widN_mono (Nat.le_of_lt h2); omega
    · exact h2
    · have := widN_mono (Nat.le_of_lt h2); omega
  rw [byt, byt, h2] at h
  exact List.append_cancel_left h
theorem strP_inj {x : Ev} {a b : List UInt8} (h : strP x a = strP x b) : a = b := by
  have h1 : ((partsS x a).map byt).flatten = ((partsS x b).map byt).flatten := List.append_cancel_left h
  rw [partsS, partsS] at h1
  by_cases h5 : x.format = 5
  · rw [if_pos h5, if_pos h5] at h1
    simp only [List.map_cons, List.map_nil, List.flatten_cons, List.flatten_nil, List.append_nil] at h1
    exact byt_inj (List.append_cancel_left h1)
  · rw [if_neg h5, if_neg h5] at h1
    simp only [List.map_cons, List.map_nil, List.flatten_cons, List.flatten_nil, List.append_nil] at h1
    have h2 := List.append_cancel_left h1
    exact byt_inj (List.append_cancel_right h2)
set_option maxRecDepth 100000 in
set_option maxHeartbeats 3200000 in
theorem rstruct_any (x : Ev) (vx : Value) (aad : List UInt8) (w : World) (hx : Ty w vx x.rcs) (hh : x.header.length ≤ 1048576) (hc : x.cipher.length ≤ 1048576) (ha : aad.length ≤ 1048576) :
    Calls Tryd.prog 16 #[evv x vx, .string (bs aad)] w (fun e w' => e = .returned (.string (bs (strP x aad))) ∧ Below w.heap.size w w') := by
  have RB := Lib.hid (fun (s : List UInt8) (w' : World) (hs : s.length ≤ 1048576) => rbytes_any s (Nat.le_trans hs (by decide)) w')
  have HLN := Lib.hid (And.intro hh (And.intro hc ha))
  obtain ⟨ax, cx, rfl, -⟩ := hx
  obtain ⟨n, hn⟩ : ∃ n, x.rcs.length = n := ⟨_, rfl⟩
  rw [hn]
  unfold evv
  have hA0 := At.ofAlloc w #[.int .i64 x.format, .int .i64 x.alg, .slice ax n cx, .string (bs x.header), .string (bs x.loose), .string (bs x.aad), .string (bs x.iv), .string (bs x.cipher), .string (bs x.tag)] 24
  have hb0 : Below w.heap.size w (w.alloc (Obj.cells #[.int .i64 x.format, .int .i64 x.alg, .slice ax n cx, .string (bs x.header), .string (bs x.loose), .string (bs x.aad), .string (bs x.iv), .string (bs x.cipher), .string (bs x.tag)] 24)) := (Below.refl _ _).alloc (Nat.le_refl _) _
  obtain ⟨B, hB⟩ : ∃ B, w.heap.size = B := ⟨_, rfl⟩
  have HBB := Lib.hid hB
  have hl1 := byt_len x.header
  have hl2 := byt_len aad
  have hl3 := byt_len x.cipher
  by_cases h5 : x.format = 5
  case pos =>
    have f5 : (x.format == 5) = true := by simpa using h5
    have HST : Hid (strP x aad = [131, 104, 69, 110, 99, 114, 121, 112, 116, 48] ++ byt x.header ++ byt aad) := by
      show _ = _
      rw [strP, preS, partsS, if_pos h5, if_pos h5]
      simp
    have hov1 : ¬ 9223372036854775807 < 10 + (bs (byt x.header)).size := by rw [bs_size]; omega
    obtain ⟨Q, hQ⟩ : ∃ Q, [131, 104, 69, 110, 99, 114, 121, 112, 116, 48] ++ byt x.header = Q := ⟨_, rfl⟩
    have hq1 : (⟨#[131, 104, 69, 110, 99, 114, 121, 112, 116, 48]⟩ : ByteArray) ++ bs (byt x.header) = bs Q := by rw [← hQ, ← ss_app]; rfl
    have hov2 : ¬ 9223372036854775807 < (bs Q).size + (bs (byt aad)).size := by rw [bs_size, bs_size, ← hQ, List.length_append]; simp; omega
    have HQ2 : Hid (bs Q ++ bs (byt aad) = bs (strP x aad)) := by show _ = _; rw [ss_app, HST.out, ← hQ]
    clear hh hc ha hn h5 hl1 hl2 hl3 hQ
    go_enter Tryd.func16, Tryd.ntmps16
    go_upto_region 1 with fail
    obtain ⟨w0, hw0⟩ : ∃ q, w.alloc (Obj.cells #[.int .i64 x.format, .int .i64 x.alg, .slice ax n cx, .string (bs x.header), .string (bs x.loose), .string (bs x.aad), .string (bs x.iv), .string (bs x.cipher), .string (bs x.tag)] 24) = q := ⟨_, rfl⟩
    rw [hw0] at hA0 hb0
    try rw [hw0]
    have hs0 : B < w0.heap.size := by rw [← hw0, ← hB]; simp
    rw [hB] at hA0
    try rw [hB]
    have HA0 := Lib.hid hA0
    have HB0 := Lib.hid hb0
    have a0 := hA0.cell 0 _ rfl
    have a3 := hA0.cell 3 _ rfl
    rw [Nat.zero_add] at a0 a3
    clear hw0 hA0 hb0 hs0 hB
    go_wp2_with fail
    refine (RB.out x.header w0 HLN.out.1).mono ?_
    rintro e w1 ⟨rfl, hb1⟩
    have HB1 : Hid (Below w.heap.size w w1) := HB0.out.trans (hb1.mono HB0.out.size)
    clear hb1 a0 a3
    go_wp2_with fail
    refine (RB.out aad w1 HLN.out.2.2).mono ?_
    rintro e w2 ⟨rfl, hb2⟩
    have HB2 : Hid (Below w.heap.size w w2) := HB1.out.trans (hb2.mono HB1.out.size)
    clear hb2
    go_wp2_with fail
    go_ret
    exact ⟨by rw [← HQ2.out]; rfl, HB2.out⟩
  case neg =>
    have f5 : (x.format == 5) = false := by simpa using h5
    have HST : Hid (strP x aad = [132, 100, 77, 65, 67, 48] ++ byt x.header ++ byt aad ++ byt x.cipher) := by
      show _ = _
      rw [strP, preS, partsS, if_neg h5, if_neg h5]
      simp
    have hov1 : ¬ 9223372036854775807 < 6 + (bs (byt x.header)).size := by rw [bs_size]; omega
    obtain ⟨Q, hQ⟩ : ∃ Q, [132, 100, 77, 65, 67, 48] ++ byt x.header = Q := ⟨_, rfl⟩
    have hq1 : (⟨#[132, 100, 77, 65, 67, 48]⟩ : ByteArray) ++ bs (byt x.header) = bs Q := by rw [← hQ, ← ss_app]; rfl
    have hov2 : ¬ 9223372036854775807 < (bs Q).size + (bs (byt aad)).size := by rw [bs_size, bs_size, ← hQ, List.length_append]; simp; omega
    obtain ⟨T, hT⟩ : ∃ T, Q ++ byt aad = T := ⟨_, rfl⟩
    have hq2 : bs Q ++ bs (byt aad) = bs T := by rw [← hT, ss_app]
    have hov3 : ¬ 9223372036854775807 < (bs T).size + (bs (byt x.cipher)).size := by rw [bs_size, bs_size, ← hT, ← hQ, List.length_append, List.length_append]; simp; omega
    have HQ2 : Hid (bs T ++ bs (byt x.cipher) = bs (strP x aad)) := by show _ = _; rw [ss_app, HST.out, ← hT, ← hQ]
    clear hh hc ha hn h5 hl1 hl2 hl3 hQ hT
    go_enter Tryd.func16, Tryd.ntmps16
    go_upto_region 1 with fail
    obtain ⟨w0, hw0⟩ : ∃ q, w.alloc (Obj.cells #[.int .i64 x.format, .int .i64 x.alg, .slice ax n cx, .string (bs x.header), .string (bs x.loose), .string (bs x.aad), .string (bs x.iv), .string (bs x.cipher), .string (bs x.tag)] 24) = q := ⟨_, rfl⟩
    have hs0 : w0.heap.size = B + 1 := by rw [← hw0, ← hB]; simp
    rw [hw0] at hA0 hb0
    try rw [hw0]
    rw [hB] at hA0
    try rw [hB]
    have HA0 := Lib.hid hA0
    have HB0 := Lib.hid hb0
    have HS0 := Lib.hid hs0
    have a0 := hA0.cell 0 _ rfl
    have a3 := hA0.cell 3 _ rfl
    have a7 := hA0.cell 7 _ rfl
    rw [Nat.zero_add] at a0 a3 a7
    clear hw0 hA0 hb0 hs0 hB
    have HQ : Hid (∀ k w1, Below (w0.drewN k).heap.size (w0.drewN k) w1 → Below w.heap.size w w1 ∧ At w1 B 0 #[.int .i64 x.format, .int .i64 x.alg, .slice ax n cx, .string (bs x.header), .string (bs x.loose), .string (bs x.aad), .string (bs x.iv), .string (bs x.cipher), .string (bs x.tag)].toList ∧ B < w1.heap.size) := by
      intro k w1 hb
      have h3 : Below w0.heap.size w0 w1 := (bdN (Below.refl w0.heap.size w0) k).trans hb
      have h4 := HS0.out
      exact ⟨HB0.out.trans (h3.mono HB0.out.size), HA0.out.below h3 (by omega), by have := h3.size; omega⟩
    have T1 : Hid (1 = 1) := rfl
    have T2 : Hid (2 = 2) := rfl
    go_wp2_with fail
    go_region_with (first
      | (go_at_call 30; clear T1; refine (RB.out x.header _ HLN.out.1).mono ?_; rintro e wa ⟨rfl, hba⟩; have HWa := Lib.hid (HQ.out _ wa hba); have b3 := HWa.out.2.1.cell 3 _ rfl; have b7 := HWa.out.2.1.cell 7 _ rfl; rw [Nat.zero_add] at b3 b7; clear hba)
      | (go_at_call 30; clear T2; refine (RB.out aad _ HLN.out.2.2).mono ?_; rintro e wb ⟨rfl, hbb⟩; have HWb : Hid (Below w.heap.size w wb ∧ At wb B 0 #[.int .i64 x.format, .int .i64 x.alg, .slice ax n cx, .string (bs x.header), .string (bs x.loose), .string (bs x.aad), .string (bs x.iv), .string (bs x.cipher), .string (bs x.tag)].toList ∧ B < wb.heap.size) := ⟨HWa.out.1.trans (hbb.mono HWa.out.1.size), HWa.out.2.1.below hbb HWa.out.2.2, Nat.lt_of_lt_of_le HWa.out.2.2 hbb.size⟩; have d3 := HWb.out.2.1.cell 3 _ rfl; have d7 := HWb.out.2.1.cell 7 _ rfl; rw [Nat.zero_add] at d3 d7; clear hbb)
      | (go_at_call 30; refine (RB.out x.cipher _ HLN.out.2.1).mono ?_; rintro e wd ⟨rfl, hbd⟩; have HBd : Hid (Below w.heap.size w wd) := HWb.out.1.trans (hbd.mono HWb.out.1.size); clear hbd))
    all_goals (go_wp2_with fail)
    all_goals go_ret
    all_goals exact ⟨by rw [← HQ2.out]; rfl, HBd.out⟩
end Ce
end Go.Proofs.YtikgonlhdkknkaaDoor
