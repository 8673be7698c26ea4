/- SuiteRows: wakes, the walk. -/
import Derived.Test.YtflofbimecnakaaGreatSuB
namespace Go.Proofs.YtflofbimecnakaaGreat
open Go.RowKit
set_option linter.unusedVariables false
set_option linter.unusedSimpArgs false
namespace Ce
def kA : ByteArray := ⟨#[48, 49, 50, 51, 52, 53, 54, 55, 56, 57, 97, 98, 99, 100, 101, 102]⟩
def vA : ByteArray := ⟨#[48, 49, 50, 51, 52, 53, 54, 55, 56, 57, 97, 98]⟩
section
variable [Inhabited Gh.Tw]
set_option maxRecDepth 100000 in
set_option maxHeartbeats 1600000 in
theorem wakes13_any (w : World) (hF : Fal w) : Calls Tryz.prog 6 #[] w (fun e w' => e = .returned (.bool true) ∧ Below w.heap.size w w') := by
  have OF := Lib.hid (fun w' => by have h := of_any 1 w'; unfold RetOf at h; rw [show rowZ 1 = (16, 12, 16) from rfl, if_neg (show ¬ rowOf 1 = none by decide)] at h; exact h)
  have SE := Lib.hid (fun w' (h : Fal w') => sseal_any kA vA ⟨#[120]⟩ ⟨#[97, 98, 99]⟩ rfl rfl (by decide) w' h)
  have SO := Lib.hid (fun c t (hc : c.size ≤ 100000) (ht : t.size = 16) w' (h : Fal w') => sopen_any kA vA ⟨#[120]⟩ c t rfl rfl hc ht w' h)
  have hgb := giBack kA.toList vA.toList (ByteArray.mk #[120]).toList (ByteArray.mk #[97, 98, 99]).toList 16 (by rw [tl_size, tl_size, tl_size, tl_size]; decide)
  rw [show ((16 : Nat) : Int) = 16 from rfl, tl_size, show (ByteArray.mk #[97, 98, 99]).size + 16 = 19 from rfl] at hgb
  have HGB := Lib.hid hgb
  have HF := Lib.hid hF
  clear hF hgb
  unfold kA vA at SE SO HGB
  go_enter Tryz.func6, Tryz.ntmps6
  go_wp2_with fail
  refine (OF.out w).mono ?_
  rintro e w1 ⟨rfl, hb1⟩
  have HB1 : Hid (Below w.heap.size w w1) := hb1
  dsimp only
  have hA1 := At.ofAlloc w1 #[.int .i64 16, .int .i64 12, .int .i64 16] 23
  have hB2 : Below w.heap.size w (w1.alloc (Obj.cells #[.int .i64 16, .int .i64 12, .int .i64 16] 23)) := HB1.out.alloc HB1.out.size _
  go_upto_region 2 with fail
  obtain ⟨G, hG⟩ : ∃ G, w1.heap.size = G := ⟨_, rfl⟩
  obtain ⟨w2, hw2⟩ : ∃ q, w1.alloc (Obj.cells #[.int .i64 16, .int .i64 12, .int .i64 16] 23) = q := ⟨_, rfl⟩
  have HS2 : Hid (G < w2.heap.size) := by show G < _; rw [← hw2, ← hG]; simp
  rw [hw2] at hA1 hB2
  try rw [hw2]
  rw [hG] at hA1
  try rw [hG]
  have HA2 := Lib.hid hA1
  have HB2 := Lib.hid hB2
  clear hw2 hG hb1 hA1 hB2
  go_wp2_with fail
  refine (SE.out w2 (HF.out.below HB2.out HF.out.2)).mono ?_
  rintro e w3 ⟨c, t, rfl, hct, ht, hb3⟩
  have HB3 : Hid (Below w.heap.size w w3) := HB2.out.trans (hb3.mono HB2.out.size)
  have HA3 := Lib.hid (HA2.out.below hb3 HS2.out)
  have HS3 : Hid (G < w3.heap.size) := Nat.lt_of_lt_of_le HS2.out hb3.size
  have hcl : c.size ≤ 100000 := by
    have h := HGB.out.1
    rw [← hct, tl_size, ByteArray.size_append] at h
    omega
  have HCT : Hid (gcOpenE (ByteArray.mk #[48, 49, 50, 51, 52, 53, 54, 55, 56, 57, 97, 98, 99, 100, 101, 102]).toList (ByteArray.mk #[48, 49, 50, 51, 52, 53, 54, 55, 56, 57, 97, 98]).toList (ByteArray.mk #[120]).toList (c ++ t).toList 16 = 0 ∧ gcOpenL (ByteArray.mk #[48, 49, 50, 51, 52, 53, 54, 55, 56, 57, 97, 98, 99, 100, 101, 102]).toList (ByteArray.mk #[48, 49, 50, 51, 52, 53, 54, 55, 56, 57, 97, 98]).toList (ByteArray.mk #[120]).toList (c ++ t).toList 16 = (ByteArray.mk #[97, 98, 99]).toList) := by
    show _ ∧ _
    rw [hct]
    exact HGB.out.2
  have SP := SO.out c t hcl ht w3 (HF.out.below HB3.out HF.out.2)
  rw [HCT.out.1, HCT.out.2] at SP
  have SP := Lib.hid SP
  have HT := Lib.hid ht
  clear hct hb3 hcl
  go_wp2_with fail
  refine SP.out.mono ?_
  rintro e w4 ⟨s, rfl, hs, hb4⟩
  obtain rfl := tl_inj hs
  have HB4 : Hid (Below w.heap.size w w4) := HB3.out.trans (hb4.mono HB3.out.size)
  have hA4 := HA3.out.below hb4 HS3.out
  have c0 := hA4.cell 0 _ rfl
  have c1 := hA4.cell 1 _ rfl
  have c2 := hA4.cell 2 _ rfl
  rw [Nat.zero_add] at c0 c1 c2
  have z1 : t.size = 16 := HT.out
  clear hs hb4 hA4
  go_wp2_with fail
  go_ret
  exact ⟨rfl, HB4.out⟩
set_option maxRecDepth 100000 in
set_option maxHeartbeats 1600000 in
/-- the walk, for a number that has no row -/
theorem rows_no (n : Int) (hn : rowOf n = none) (h13 : of13 n = R50) (w : World) (hF : Fal w) : Calls Tryz.prog 3 #[.int .i64 n] w (fun e w' => e = .returned (.bool true) ∧ Below w.heap.size w w') := by
  have OF := Lib.hid (fun w' => by have h := of_any n w'; unfold RetOf at h; rw [show rowZ n = (0, 0, 0) by rw [rowZ, hn], if_pos hn] at h; exact h)
  have RO := Lib.hid (fun w' => by have h := rof_any n w'; rw [h13] at h; exact h)
  have WK := Lib.hid (fun w' (h : Fal w') => wakes13_any w' h)
  have HF := Lib.hid hF
  clear hF hn h13
  go_enter Tryz.func3, Tryz.ntmps3
  go_wp2_with fail
  refine (OF.out w).mono ?_
  rintro e w1 ⟨rfl, hb1⟩
  have HB1 : Hid (Below w.heap.size w w1) := hb1
  dsimp only
  have hA1 := At.ofAlloc w1 #[.int .i64 0, .int .i64 0, .int .i64 0] 23
  have hB2 : Below w.heap.size w (w1.alloc (Obj.cells #[.int .i64 0, .int .i64 0, .int .i64 0] 23)) := HB1.out.alloc HB1.out.size _
  go_upto_region 2 with fail
  obtain ⟨G, hG⟩ : ∃ G, w1.heap.size = G := ⟨_, rfl⟩
  obtain ⟨w2, hw2⟩ : ∃ q, w1.alloc (Obj.cells #[.int .i64 0, .int .i64 0, .int .i64 0] 23) = q := ⟨_, rfl⟩
  have HS2 : Hid (G < w2.heap.size) := by show G < _; rw [← hw2, ← hG]; simp
  rw [hw2] at hA1 hB2
  try rw [hw2]
  rw [hG] at hA1
  try rw [hG]
  have HA2 := Lib.hid hA1
  have HB2 := Lib.hid hB2
  clear hw2 hG hb1 hA1 hB2
  go_wp2_with fail
  refine (RO.out w2).mono ?_
  rintro e w3 ⟨rfl, hb3⟩
  have HB3 : Hid (Below w.heap.size w w3) := HB2.out.trans (hb3.mono HB2.out.size)
  have HA3 := Lib.hid (HA2.out.below hb3 HS2.out)
  have HS3 : Hid (G < w3.heap.size) := Nat.lt_of_lt_of_le HS2.out hb3.size
  clear hb3
  rw [show Value.agg (r5v R50).toArray = Value.agg #[.int .i64 0, .int .i64 0, .int .i64 0, .int .i64 0, .int .i64 0] from rfl]
  have hA4 := At.ofAlloc w3 #[.int .i64 0, .int .i64 0, .int .i64 0, .int .i64 0, .int .i64 0] 28
  have hA5 := HA3.out.alloc (Obj.cells #[.int .i64 0, .int .i64 0, .int .i64 0, .int .i64 0, .int .i64 0] 28)
  have hB4 : Below w.heap.size w (w3.alloc (Obj.cells #[.int .i64 0, .int .i64 0, .int .i64 0, .int .i64 0, .int .i64 0] 28)) := HB3.out.alloc HB3.out.size _
  go_upto_region 3 with fail
  obtain ⟨G2, hG2⟩ : ∃ G, w3.heap.size = G := ⟨_, rfl⟩
  obtain ⟨w4, hw4⟩ : ∃ q, w3.alloc (Obj.cells #[.int .i64 0, .int .i64 0, .int .i64 0, .int .i64 0, .int .i64 0] 28) = q := ⟨_, rfl⟩
  have HS4 : Hid (G < w4.heap.size ∧ G2 < w4.heap.size) := by show _ ∧ _; rw [← hw4, ← hG2]; have := HS3.out; simp; omega
  rw [hw4] at hA4 hA5 hB4
  try rw [hw4]
  rw [hG2] at hA4
  try rw [hG2]
  have HA4 := Lib.hid hA4
  have HA5 := Lib.hid hA5
  have HB4 := Lib.hid hB4
  clear hw4 hG2 hA4 hA5 hB4
  have d0 := HA4.out.cell 0 _ rfl
  rw [Nat.zero_add] at d0
  go_wp2_with fail
  refine (WK.out w4 (HF.out.below HB4.out HF.out.2)).mono ?_
  rintro e w5 ⟨rfl, hb5⟩
  have HB5 : Hid (Below w.heap.size w w5) := HB4.out.trans (hb5.mono HB4.out.size)
  have hA6 := HA5.out.below hb5 HS4.out.1
  have hA7 := HA4.out.below hb5 HS4.out.2
  have c0 := hA6.cell 0 _ rfl
  have c1 := hA6.cell 1 _ rfl
  have c2 := hA6.cell 2 _ rfl
  have e1 := hA7.cell 1 _ rfl
  have e2 := hA7.cell 2 _ rfl
  have e3 := hA7.cell 3 _ rfl
  rw [Nat.zero_add] at c0 c1 c2 e1 e2 e3
  clear hb5 hA6 hA7 d0
  go_wp2_with fail
  go_ret
  exact ⟨rfl, HB5.out⟩
set_option maxRecDepth 100000 in
set_option maxHeartbeats 1600000 in
/-- the walk, for a number that has a row -/
theorem rows_yes (n : Int) (r : R5) (hn : rowOf n = some (r.key, r.iv, r.tag)) (h0 : ¬ n = 0) (hr : r.alg = n) (h13 : of13 n = r) (w : World) (hF : Fal w) : Calls Tryz.prog 3 #[.int .i64 n] w (fun e w' => e = .returned (.bool true) ∧ Below w.heap.size w w') := by
  have OF := Lib.hid (fun w' => by have h := of_any n w'; unfold RetOf at h; rw [show rowZ n = (r.key, r.iv, r.tag) by rw [rowZ, hn], if_neg (by rw [hn]; simp)] at h; exact h)
  have RO := Lib.hid (fun w' => by have h := rof_any n w'; rw [h13] at h; exact h)
  have WK := Lib.hid (fun w' (h : Fal w') => wakes13_any w' h)
  have HF := Lib.hid hF
  obtain ⟨ra, rk, ri, rt, rl⟩ := r
  dsimp only at hr OF RO
  subst hr
  have f0 : (ra == 0) = false := by simpa using h0
  have f1 : (ra != ra) = false := by simp
  clear hF hn h13 h0
  go_enter Tryz.func3, Tryz.ntmps3
  go_wp2_with fail
  refine (OF.out w).mono ?_
  rintro e w1 ⟨rfl, hb1⟩
  have HB1 : Hid (Below w.heap.size w w1) := hb1
  dsimp only
  have hA1 := At.ofAlloc w1 #[.int .i64 rk, .int .i64 ri, .int .i64 rt] 23
  have hB2 : Below w.heap.size w (w1.alloc (Obj.cells #[.int .i64 rk, .int .i64 ri, .int .i64 rt] 23)) := HB1.out.alloc HB1.out.size _
  go_upto_region 2 with fail
  obtain ⟨G, hG⟩ : ∃ G, w1.heap.size = G := ⟨_, rfl⟩
  obtain ⟨w2, hw2⟩ : ∃ q, w1.alloc (Obj.cells #[.int .i64 rk, .int .i64 ri, .int .i64 rt] 23) = q := ⟨_, rfl⟩
  have HS2 : Hid (G < w2.heap.size) := by show G < _; rw [← hw2, ← hG]; simp
  rw [hw2] at hA1 hB2
  try rw [hw2]
  rw [hG] at hA1
  try rw [hG]
  have HA2 := Lib.hid hA1
  have HB2 := Lib.hid hB2
  clear hw2 hG hb1 hA1 hB2
  go_wp2_with fail
  refine (RO.out w2).mono ?_
  rintro e w3 ⟨rfl, hb3⟩
  have HB3 : Hid (Below w.heap.size w w3) := HB2.out.trans (hb3.mono HB2.out.size)
  have HA3 := Lib.hid (HA2.out.below hb3 HS2.out)
  have HS3 : Hid (G < w3.heap.size) := Nat.lt_of_lt_of_le HS2.out hb3.size
  clear hb3
  rw [show Value.agg (r5v ⟨ra, rk, ri, rt, rl⟩).toArray = Value.agg #[.int .i64 ra, .int .i64 rk, .int .i64 ri, .int .i64 rt, .int .i64 rl] from rfl]
  have hA4 := At.ofAlloc w3 #[.int .i64 ra, .int .i64 rk, .int .i64 ri, .int .i64 rt, .int .i64 rl] 28
  have hA5 := HA3.out.alloc (Obj.cells #[.int .i64 ra, .int .i64 rk, .int .i64 ri, .int .i64 rt, .int .i64 rl] 28)
  have hB4 : Below w.heap.size w (w3.alloc (Obj.cells #[.int .i64 ra, .int .i64 rk, .int .i64 ri, .int .i64 rt, .int .i64 rl] 28)) := HB3.out.alloc HB3.out.size _
  go_upto_region 3 with fail
  obtain ⟨G2, hG2⟩ : ∃ G, w3.heap.size = G := ⟨_, rfl⟩
  obtain ⟨w4, hw4⟩ : ∃ q, w3.alloc (Obj.cells #[.int .i64 ra, .int .i64 rk, .int .i64 ri, .int .i64 rt, .int .i64 rl] 28) = q := ⟨_, rfl⟩
  have HS4 : Hid (G < w4.heap.size ∧ G2 < w4.heap.size) := by show _ ∧ _; rw [← hw4, ← hG2]; have := HS3.out; simp; omega
  rw [hw4] at hA4 hA5 hB4
  try rw [hw4]
  rw [hG2] at hA4
  try rw [hG2]
  have HA4 := Lib.hid hA4
  have HA5 := Lib.hid hA5
  have HB4 := Lib.hid hB4
  clear hw4 hG2 hA4 hA5 hB4
  have d0 := HA4.out.cell 0 _ rfl
  rw [Nat.zero_add] at d0
  go_wp2_with fail
  refine (WK.out w4 (HF.out.below HB4.out HF.out.2)).mono ?_
  rintro e w5 ⟨rfl, hb5⟩
  have HB5 : Hid (Below w.heap.size w w5) := HB4.out.trans (hb5.mono HB4.out.size)
  have hA6 := HA5.out.below hb5 HS4.out.1
  have hA7 := HA4.out.below hb5 HS4.out.2
  have c0 := hA6.cell 0 _ rfl
  have c1 := hA6.cell 1 _ rfl
  have c2 := hA6.cell 2 _ rfl
  have e1 := hA7.cell 1 _ rfl
  have e2 := hA7.cell 2 _ rfl
  have e3 := hA7.cell 3 _ rfl
  rw [Nat.zero_add] at c0 c1 c2 e1 e2 e3
  clear hb5 hA6 hA7 d0
  go_wp2_with fail
  go_ret
  exact ⟨rfl, HB5.out⟩
theorem suiteRows_walk (n : Int) (w : World) (hF : Fal w) : Calls Tryz.prog 3 #[.int .i64 n] w (fun e w' => e = .returned (.bool true) ∧ Below w.heap.size w w') := by
  rcases of13_row n with ⟨h1, h2⟩ | ⟨r, h1, h2, h3, h4⟩
  · exact rows_no n h1 h2 w hF
  · exact rows_yes n r h4 h3 h2 h1 w hF
end
end Ce
end Go.Proofs.YtflofbimecnakaaGreat
