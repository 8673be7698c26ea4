/- CoseOneWay: the walk. -/
import Derived.Test.YtikgonlhdkknkaaDoorCuG
namespace Go.Proofs.YtikgonlhdkknkaaDoor
open Go.RowKit
set_option linter.unusedVariables false
set_option linter.unusedSimpArgs false
namespace Ce
open Co (Am Ra up rcells rv UT DecR enc Its holds tell okA)
theorem Rd.err {S : List UInt8} {d i b ro : Int} {y : Int × Ev} (h : Rd S d i b ro y) (h0 : ¬ y.1 = 0) : y.2 = Ev0 := by
  cases h with
  | no _ => rfl
  | pre _ _ => rfl
  | all _ _ _ => show rdV _ _ = _; rw [rdV, if_pos h0]
theorem canon_len (x : Ev) : x.loose.length ≤ (canon x).length ∧ x.header.length ≤ (canon x).length ∧ x.cipher.length ≤ (canon x).length ∧ x.tag.length ≤ (canon x).length := by
  rw [canon]
  split <;> simp only [byt, List.length_append] <;> omega
theorem Rd.lens {S : List UInt8} {d i b ro : Int} {x : Ev} (h : Rd S d i b ro (0, x)) : S = canon x ∧ x.loose.length ≤ 262144 ∧ x.header.length ≤ 262144 ∧ x.cipher.length ≤ 262144 ∧ x.tag.length ≤ 262144 := by
  have h1 := h.sz
  obtain ⟨_, _, -, -, -, -, -, h2, -⟩ := canon_of h
  have h3 := canon_len x
  rw [← h2] at h3
  exact ⟨h2, by omega, by omega, by omega, by omega⟩
set_option maxRecDepth 100000 in
set_option maxHeartbeats 3200000 in
theorem coseOneWay_walk (s : ByteArray) (d i b ro : Int) (hz : s.size ≤ 140737488351232) (w : World) (hU : UT w.heap.size w) :
    Calls Tryd.prog 4 #[.string s, .agg #[.int .i64 d, .int .i64 i, .int .i64 b, .int .i64 ro]] w (Co.RetT w) := by
  have HU := Lib.hid hU
  have WK := Lib.hid (fun w hU => wakes25_any w hU)
  have RD := Lib.hid (fun w' hU => cread_any s d i b ro w' hz hU)
  have HB0 : Hid (Below w.heap.size w (w.alloc (Obj.cells #[.int .i64 d, .int .i64 i, .int .i64 b, .int .i64 ro] 33))) := (Below.refl _ _).alloc (Nat.le_refl _) _
  have HL0 := Lib.hid (Co.Lm4.ofAlloc w d i b ro)
  obtain ⟨B, hB⟩ : ∃ B, w.heap.size = B := ⟨_, rfl⟩
  rw [hB] at HL0
  have HBB := Lib.hid hB
  clear hU hz
  go_enter Tryd.func4, Tryd.ntmps4
  go_wp2_with fail
  try rw [hB]
  clear hB
  obtain ⟨w0, hw0⟩ : ∃ x, w.alloc (Obj.cells #[.int .i64 d, .int .i64 i, .int .i64 b, .int .i64 ro] 33) = x := ⟨_, rfl⟩
  rw [hw0] at HL0 HB0
  rw [hw0]
  clear hw0
  refine (WK.out _ (HU.out.at HB0.out)).mono ?_
  rintro e w1 ⟨rfl, hb1⟩
  have HB1 : Hid (Below w.heap.size w w1) := HB0.out.trans (hb1.mono HB0.out.size)
  have HL1 := Lib.hid (HL0.out.below hb1)
  clear hb1
  have l0 := HL1.out.at0.cell 0 _ rfl
  have l1 := HL1.out.at0.cell 1 _ rfl
  have l2 := HL1.out.at0.cell 2 _ rfl
  have l3 := HL1.out.at0.cell 3 _ rfl
  rw [Nat.zero_add] at l0 l1 l2 l3
  go_wp2_with fail
  refine (RD.out _ (HU.out.at HB1.out)).mono ?_
  rintro e w2 ⟨y, hy, v2, rfl, hT2, hb2⟩
  have HB2 : Hid (Below w.heap.size w w2) := HB1.out.trans (hb2.mono HB1.out.size)
  have HY := Lib.hid hy
  have HT2 := Lib.hid hT2
  obtain ⟨a2, c2, rfl, -⟩ := hT2
  clear hy hb2 l0 l1 l2 l3
  obtain ⟨c, x⟩ := y
  have HEV : Hid (evv x (.slice a2 x.rcs.length c2) = .agg #[.int .i64 x.format, .int .i64 x.alg, .slice a2 x.rcs.length c2, .string (bs x.header), .string (bs x.loose), .string (bs x.aad), .string (bs x.iv), .string (bs x.cipher), .string (bs x.tag)]) := rfl
  dsimp only at HT2 ⊢
  rw [HEV.out]
  by_cases h0 : c = 0
  case neg =>
    have hx := HY.out.err h0
    dsimp only at hx
    subst hx
    have HC0 := Lib.hid h0
    have hcb : (c != 0) = true := by simpa using h0
    obtain ⟨w3, hw3⟩ : ∃ q, w2.alloc (Obj.cells #[.int .i64 Ev0.format, .int .i64 Ev0.alg, .slice a2 Ev0.rcs.length c2, .string (bs Ev0.header), .string (bs Ev0.loose), .string (bs Ev0.aad), .string (bs Ev0.iv), .string (bs Ev0.cipher), .string (bs Ev0.tag)] 24) = q := ⟨_, rfl⟩
    have hb3 : Below w2.heap.size w2 w3 := by rw [← hw3]; exact (Below.refl _ _).alloc (Nat.le_refl _) _
    have HB3 : Hid (Below w.heap.size w w3) := HB2.out.trans (hb3.mono HB2.out.size)
    have SM := Lib.hid (esame_yes Ev0 (.slice a2 Ev0.rcs.length c2) (.slice none 0 0) w3 (HT2.out.below hb3) (Ty.nil w3) (by decide))
    rw [HEV.out] at SM
    clear h0 hb3
    go_upto_region 5 with fail
    try rw [hw3]
    have hA3 := At.ofAlloc w2 #[.int .i64 Ev0.format, .int .i64 Ev0.alg, .slice a2 Ev0.rcs.length c2, .string (bs Ev0.header), .string (bs Ev0.loose), .string (bs Ev0.aad), .string (bs Ev0.iv), .string (bs Ev0.cipher), .string (bs Ev0.tag)] 24
    rw [hw3] at hA3
    have k0 := hA3.cell 0 _ rfl
    have k1 := hA3.cell 1 _ rfl
    have k2 := hA3.cell 2 _ rfl
    have k3 := hA3.cell 3 _ rfl
    have k4 := hA3.cell 4 _ rfl
    have k5 := hA3.cell 5 _ rfl
    have k6 := hA3.cell 6 _ rfl
    have k7 := hA3.cell 7 _ rfl
    have k8 := hA3.cell 8 _ rfl
    rw [Nat.zero_add] at k0 k1 k2 k3 k4 k5 k6 k7 k8
    clear hA3 hw3
    go_wp2_with fail
    refine SM.out.mono ?_
    rintro e w4 ⟨rfl, hb4⟩
    have HB4 : Hid (Below w.heap.size w w4) := HB3.out.trans (hb4.mono HB3.out.size)
    clear hb4
    go_wp2_with fail
    go_ret
    exact ⟨rfl, HB4.out⟩
  case pos =>
    subst h0
    obtain ⟨hS, h1, h2, h3, h4⟩ := HY.out.lens
    have HR1 := Lib.hid HY.out.rcs
    obtain ⟨w3, hw3⟩ : ∃ q, w2.alloc (Obj.cells #[.int .i64 x.format, .int .i64 x.alg, .slice a2 x.rcs.length c2, .string (bs x.header), .string (bs x.loose), .string (bs x.aad), .string (bs x.iv), .string (bs x.cipher), .string (bs x.tag)] 24) = q := ⟨_, rfl⟩
    have hb3 : Below w2.heap.size w2 w3 := by rw [← hw3]; exact (Below.refl _ _).alloc (Nat.le_refl _) _
    have HB3 : Hid (Below w.heap.size w w3) := HB2.out.trans (hb3.mono HB2.out.size)
    have hm := HY.out.most
    rw [hS] at hm
    have hss : bs (canon x) = s := by rw [← hS]; exact bs_of s
    have TE := ctell_is hm (.slice a2 x.rcs.length c2) w3 (HT2.out.below hb3) (Nat.le_trans HR1.out (by decide)) (by omega) (by omega) (by omega) (by omega) (HU.out.at HB3.out)
    rw [HEV.out, hss] at TE
    have TE := Lib.hid TE
    clear hm hss hS h1 h2 h3 h4 hb3
    go_upto_region 6 with fail
    try rw [hw3]
    have hA3 := At.ofAlloc w2 #[.int .i64 x.format, .int .i64 x.alg, .slice a2 x.rcs.length c2, .string (bs x.header), .string (bs x.loose), .string (bs x.aad), .string (bs x.iv), .string (bs x.cipher), .string (bs x.tag)] 24
    rw [hw3] at hA3
    have k0 := hA3.cell 0 _ rfl
    have k1 := hA3.cell 1 _ rfl
    have k2 := hA3.cell 2 _ rfl
    have k3 := hA3.cell 3 _ rfl
    have k4 := hA3.cell 4 _ rfl
    have k5 := hA3.cell 5 _ rfl
    have k6 := hA3.cell 6 _ rfl
    have k7 := hA3.cell 7 _ rfl
    have k8 := hA3.cell 8 _ rfl
    rw [Nat.zero_add] at k0 k1 k2 k3 k4 k5 k6 k7 k8
    clear hA3 hw3
    go_wp2_with fail
    refine TE.out.mono ?_
    rintro e w4 ⟨rfl, hb4⟩
    have HB4 : Hid (Below w.heap.size w w4) := HB3.out.trans (hb4.mono HB3.out.size)
    clear hb4
    go_wp2_with fail
    go_ret
    exact ⟨rfl, HB4.out⟩
end Ce
end Go.Proofs.YtikgonlhdkknkaaDoor
