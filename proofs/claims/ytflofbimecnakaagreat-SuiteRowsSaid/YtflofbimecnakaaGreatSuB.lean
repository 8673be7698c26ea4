/- suite: the cipher by its number 1, sealing and opening, over any table; wakes. -/
import Derived.Test.YtflofbimecnakaaGreatSuA
import Derived.Test.YtflofbimecnakaaGreatGiF
namespace Go.Proofs.YtflofbimecnakaaGreat
open Go.RowKit
set_option linter.unusedVariables false
set_option linter.unusedSimpArgs false
namespace Ce
theorem gcTE_nil {k v a n : Nat} {s : Int} (h : gcTE k v a s n = 0) : gcE k v a s = 0 ∧ n ≤ 70000 := by
  unfold gcTE at h
  split at h
  · rename_i h1
    split at h
    · cases h
    · exact ⟨h1, by omega⟩
  · rename_i h1
    exact absurd h h1
section
variable [Inhabited Gh.Tw]
theorem giBack (K V A T : List UInt8) (m : Nat) (h : gcTE K.length V.length A.length (m : Int) T.length = 0) :
    (gcSealL K V A T (m : Int)).length = T.length + m ∧ gcOpenE K V A (gcSealL K V A T (m : Int)) (m : Int) = 0 ∧ gcOpenL K V A (gcSealL K V A T (m : Int)) (m : Int) = T := by
  obtain ⟨hE, hn⟩ := gcTE_nil h
  have hz := gcE_zero hE
  have m16 : m ≤ 16 := by omega
  have hS : gcSealL K V A T (m : Int) = gcJoin K V T ++ gcTag K V A (gcJoin K V T) m := by rw [gcSealL, if_pos h, Int.toNat_natCast]
  have hj : (gcJoin K V T).length = T.length := gcJoin_length _ _ _
  have ht : (gcTag K V A (gcJoin K V T) m).length = m := gcTag_length _ _ _ _ _ m16
  have hl : (gcSealL K V A T (m : Int)).length = T.length + m := by rw [hS, List.length_append, hj, ht]
  have hO : gcOE K.length V.length A.length (m : Int) (gcSealL K V A T (m : Int)).length = 0 := by rw [gcOE, if_pos hE, hl, if_neg (by omega)]
  have hC : gcCut (gcSealL K V A T (m : Int)) (m : Int) = gcJoin K V T := by
    rw [gcCut, Int.toNat_natCast, hl, Nat.add_sub_cancel, hS, List.take_left' hj]
  have hD : (gcSealL K V A T (m : Int)).drop ((gcSealL K V A T (m : Int)).length - m) = gcTag K V A (gcJoin K V T) m := by
    rw [hl, Nat.add_sub_cancel, hS, List.drop_left' hj]
  have hOE : gcOpenE K V A (gcSealL K V A T (m : Int)) (m : Int) = 0 := by
    rw [gcOpenE, if_pos hO, hC, Int.toNat_natCast, hD, if_pos rfl]
  exact ⟨hl, hOE, by rw [gcOpenL, if_pos hOE, hC, gcJoin_twice]⟩
set_option maxRecDepth 100000 in
set_option maxHeartbeats 1600000 in
theorem bgseal_any (key iv aad text : ByteArray) (w : World) (hF : Fal w) : Calls Tryz.prog 32 #[.agg #[], .string key, .string iv, .string aad, .string text] w (RetSE (gcSealL key.toList iv.toList aad.toList text.toList 16) (gcTE key.size iv.size aad.size 16 text.size) w) := by
  have GS := Lib.hid (fun w' (h : Fal w') => gSeal_any key iv aad text 16 w' h)
  have HF := Lib.hid hF
  clear hF
  go_enter Tryz.func32, Tryz.ntmps32
  go_wp2_with fail
  have hb0 : Below w.heap.size w (w.alloc (Obj.cells #[] 47)) := (Below.refl _ _).alloc (Nat.le_refl _) _
  have HB0 := Lib.hid hb0
  refine (GS.out _ (HF.out.below hb0 HF.out.2)).mono ?_
  rintro e w1 ⟨s, rfl, hs, hb1⟩
  have HS := Lib.hid hs
  have HB1 : Hid (Below w.heap.size w w1) := HB0.out.trans (hb1.mono HB0.out.size)
  clear hs hb1 hb0
  go_wp2_with fail
  go_ret2
  exact ⟨s, rfl, HS.out, HB1.out⟩
set_option maxRecDepth 100000 in
set_option maxHeartbeats 1600000 in
theorem bgopen_any (key iv aad text : ByteArray) (w : World) (hF : Fal w) : Calls Tryz.prog 31 #[.agg #[], .string key, .string iv, .string aad, .string text] w (RetSE (gcOpenL key.toList iv.toList aad.toList text.toList 16) (gcOpenE key.toList iv.toList aad.toList text.toList 16) w) := by
  have GS := Lib.hid (fun w' (h : Fal w') => gOpen_any key iv aad text 16 w' h)
  have HF := Lib.hid hF
  clear hF
  go_enter Tryz.func31, Tryz.ntmps31
  go_wp2_with fail
  have hb0 : Below w.heap.size w (w.alloc (Obj.cells #[] 47)) := (Below.refl _ _).alloc (Nat.le_refl _) _
  have HB0 := Lib.hid hb0
  refine (GS.out _ (HF.out.below hb0 HF.out.2)).mono ?_
  rintro e w1 ⟨s, rfl, hs, hb1⟩
  have HS := Lib.hid hs
  have HB1 : Hid (Below w.heap.size w w1) := HB0.out.trans (hb1.mono HB0.out.size)
  clear hs hb1 hb0
  obtain ⟨c, hc⟩ : ∃ c, gcOpenE key.toList iv.toList aad.toList text.toList 16 = c := ⟨_, rfl⟩
  rw [hc]
  go_wp2_with fail
  go_ret2
  exact ⟨s, by rw [hc]; rfl, HS.out, HB1.out⟩
end
/-- the row of number 1 -/
def vOne : Value := .agg #[.int .i64 16, .int .i64 12, .int .i64 16, .iface 47 (.agg #[]), .nilIface]
set_option maxRecDepth 100000 in
set_option maxHeartbeats 1600000 in
theorem may_one (key iv : ByteArray) (hk : key.size = 16) (hv : iv.size = 12) (w : World) : Calls Tryz.prog 13 #[vOne, .string key, .string iv] w (fun e w' => e = .returned (.int .i64 0) ∧ Below w.heap.size w w') := by
  unfold vOne
  have hA0 := At.ofAlloc w #[.int .i64 16, .int .i64 12, .int .i64 16, .iface 47 (.agg #[]), .nilIface] 37
  have c0 := hA0.cell 0 _ rfl
  have c1 := hA0.cell 1 _ rfl
  have c2 := hA0.cell 2 _ rfl
  have c3 := hA0.cell 3 _ rfl
  have c4 := hA0.cell 4 _ rfl
  rw [Nat.zero_add] at c0 c1 c2 c3 c4
  clear hA0
  go_enter Tryz.func13, Tryz.ntmps13
  go_wp2_with fail
  go_ret
  exact ⟨rfl, (Below.refl _ _).alloc (Nat.le_refl _) _⟩
section
variable [Inhabited Gh.Tw]
set_option maxRecDepth 100000 in
set_option maxHeartbeats 1600000 in
theorem sseal_any (key iv aad text : ByteArray) (hk : key.size = 16) (hv : iv.size = 12) (ht : gcTE 16 12 aad.size 16 text.size = 0) (w : World) (hF : Fal w) : Calls Tryz.prog 9 #[.int .i64 1, .string key, .string iv, .string aad, .string text] w
    (fun e w' => ∃ c t : ByteArray, e = .returned (.tuple #[.string c, .string t, .int .i64 0]) ∧ (c ++ t).toList = gcSealL key.toList iv.toList aad.toList text.toList 16 ∧ t.size = 16 ∧ Below w.heap.size w w') := by
  have FI := Lib.hid (fun w' => find_one w')
  have MA := Lib.hid (fun w' => by have h := may_one key iv hk hv w'; unfold vOne at h; exact h)
  have SE := Lib.hid (fun w' (h : Fal w') => by have h2 := bgseal_any key iv aad text w' h; rw [hk, hv, ht] at h2; exact h2)
  have hgl := (giBack key.toList iv.toList aad.toList text.toList 16 (by rw [tl_size, tl_size, tl_size, tl_size, hk, hv]; exact ht)).1
  rw [show ((16 : Nat) : Int) = 16 from rfl] at hgl
  have HGL := Lib.hid hgl
  have HF := Lib.hid hF
  clear hF hgl
  go_enter Tryz.func9, Tryz.ntmps9
  go_wp2_with fail
  refine (FI.out w).mono ?_
  rintro e w1 ⟨rfl, hb1⟩
  have HB1 : Hid (Below w.heap.size w w1) := hb1
  have hA1 := At.ofAlloc w1 #[.int .i64 16, .int .i64 12, .int .i64 16, .iface 47 (.agg #[]), .nilIface] 37
  have hB2 : Below w.heap.size w (w1.alloc (Obj.cells #[.int .i64 16, .int .i64 12, .int .i64 16, .iface 47 (.agg #[]), .nilIface] 37)) := HB1.out.alloc HB1.out.size _
  have c4 := hA1.cell 4 _ rfl
  have f4 := hA1.froz 4 (by decide)
  rw [Nat.zero_add] at c4 f4
  go_upto_region 2 with fail
  obtain ⟨G, hG⟩ : ∃ G, w1.heap.size = G := ⟨_, rfl⟩
  obtain ⟨w2, hw2⟩ : ∃ q, w1.alloc (Obj.cells #[.int .i64 16, .int .i64 12, .int .i64 16, .iface 47 (.agg #[]), .nilIface] 37) = q := ⟨_, rfl⟩
  have HS2 : Hid (G < w2.heap.size) := by show G < _; rw [← hw2, ← hG]; simp
  rw [hw2] at hA1 hB2 ⊢
  rw [hG] at hA1 ⊢
  have HA2 := Lib.hid hA1
  have HB2 := Lib.hid hB2
  clear c4 f4 hw2 hG hb1 hA1 hB2
  have c0 := HA2.out.cell 0 _ rfl
  have c1 := HA2.out.cell 1 _ rfl
  have c2 := HA2.out.cell 2 _ rfl
  have c3 := HA2.out.cell 3 _ rfl
  have c4 := HA2.out.cell 4 _ rfl
  rw [Nat.zero_add] at c0 c1 c2 c3 c4
  go_wp2_with fail
  refine (MA.out w2).mono ?_
  rintro e w3 ⟨rfl, hb3⟩
  have HB3 : Hid (Below w.heap.size w w3) := HB2.out.trans (hb3.mono HB2.out.size)
  have HA3 := Lib.hid (HA2.out.below hb3 HS2.out)
  have HS3 : Hid (G < w3.heap.size) := Nat.lt_of_lt_of_le HS2.out hb3.size
  clear hb3 c0 c1 c2 c3 c4
  have c2 := HA3.out.cell 2 _ rfl
  have c3 := HA3.out.cell 3 _ rfl
  rw [Nat.zero_add] at c2 c3
  go_wp2_with fail
  refine (SE.out w3 (HF.out.below HB3.out HF.out.2)).mono ?_
  rintro e w4 ⟨s, rfl, hs, hb4⟩
  have HB4 : Hid (Below w.heap.size w w4) := HB3.out.trans (hb4.mono HB3.out.size)
  have HA4 := Lib.hid (HA3.out.below hb4 HS3.out)
  have HSS := Lib.hid hs
  have HSZ : Hid (s.size = text.size + 16) := by show _ = _; rw [← tl_size, hs, HGL.out, tl_size]
  obtain ⟨n, hn⟩ : ∃ n, text.size = n := ⟨_, rfl⟩
  rw [hn] at HSZ
  clear hb4 hs c2 c3
  have c2 := HA4.out.cell 2 _ rfl
  rw [Nat.zero_add] at c2
  have z1 : s.size = n + 16 := HSZ.out
  have z2 : ((n : Int) + 16) - 16 = (n : Int) := by omega
  have hnm : n ≤ 70000 := by rw [← hn]; exact (gcTE_nil ht).2
  have z3 : IntKind.i64.wrap (n : Int) = (n : Int) := wfit n (by unfold maxLen; omega)
  have z4 : (0 : Int) ≤ (n : Int) := by omega
  have z5 : (n : Int) ≤ (n : Int) + 16 := by omega
  go_upto_region 9 with fail
  clear c2 hn hnm z2
  have z6 : n ≤ s.size := by omega
  have z7 : (n : Int) ≤ (s.size : Int) := by omega
  go_region
  go_wp2_with fail
  go_ret3
  refine ⟨s.extract 0 n, s.extract n (n + 16), rfl, ?_, ?_, by first | exact HB4.out | exact HB4.out.drew | exact bdN HB4.out _⟩
  · rw [gx_app, gx_ext0, gx_extE s n (n + 16) HSZ.out.symm, List.take_append_drop]
    exact HSS.out
  · rw [ByteArray.size_extract]
    have := HSZ.out
    omega
set_option maxRecDepth 100000 in
set_option maxHeartbeats 1600000 in
theorem sopen_any (key iv aad c t : ByteArray) (hk : key.size = 16) (hv : iv.size = 12) (hc : c.size ≤ 100000) (ht : t.size = 16) (w : World) (hF : Fal w) : Calls Tryz.prog 10 #[.int .i64 1, .string key, .string iv, .string aad, .string c, .string t] w
    (RetSE (gcOpenL key.toList iv.toList aad.toList (c ++ t).toList 16) (gcOpenE key.toList iv.toList aad.toList (c ++ t).toList 16) w) := by
  have FI := Lib.hid (fun w' => find_one w')
  have MA := Lib.hid (fun w' => by have h := may_one key iv hk hv w'; unfold vOne at h; exact h)
  have SE := Lib.hid (fun w' (h : Fal w') => bgopen_any key iv aad (c ++ t) w' h)
  have hov : ¬ 9223372036854775807 < c.size + t.size := by omega
  have HF := Lib.hid hF
  clear hF
  go_enter Tryz.func10, Tryz.ntmps10
  go_wp2_with fail
  refine (FI.out w).mono ?_
  rintro e w1 ⟨rfl, hb1⟩
  have HB1 : Hid (Below w.heap.size w w1) := hb1
  have hA1 := At.ofAlloc w1 #[.int .i64 16, .int .i64 12, .int .i64 16, .iface 47 (.agg #[]), .nilIface] 37
  have hB2 : Below w.heap.size w (w1.alloc (Obj.cells #[.int .i64 16, .int .i64 12, .int .i64 16, .iface 47 (.agg #[]), .nilIface] 37)) := HB1.out.alloc HB1.out.size _
  have c4 := hA1.cell 4 _ rfl
  have f4 := hA1.froz 4 (by decide)
  rw [Nat.zero_add] at c4 f4
  go_upto_region 2 with fail
  obtain ⟨G, hG⟩ : ∃ G, w1.heap.size = G := ⟨_, rfl⟩
  obtain ⟨w2, hw2⟩ : ∃ q, w1.alloc (Obj.cells #[.int .i64 16, .int .i64 12, .int .i64 16, .iface 47 (.agg #[]), .nilIface] 37) = q := ⟨_, rfl⟩
  have HS2 : Hid (G < w2.heap.size) := by show G < _; rw [← hw2, ← hG]; simp
  rw [hw2] at hA1 hB2 ⊢
  rw [hG] at hA1 ⊢
  have HA2 := Lib.hid hA1
  have HB2 := Lib.hid hB2
  clear c4 f4 hw2 hG hb1 hA1 hB2
  have c0 := HA2.out.cell 0 _ rfl
  have c1 := HA2.out.cell 1 _ rfl
  have c2 := HA2.out.cell 2 _ rfl
  have c3 := HA2.out.cell 3 _ rfl
  have c4 := HA2.out.cell 4 _ rfl
  rw [Nat.zero_add] at c0 c1 c2 c3 c4
  go_wp2_with fail
  refine (MA.out w2).mono ?_
  rintro e w3 ⟨rfl, hb3⟩
  have HB3 : Hid (Below w.heap.size w w3) := HB2.out.trans (hb3.mono HB2.out.size)
  have HA3 := Lib.hid (HA2.out.below hb3 HS2.out)
  have HS3 : Hid (G < w3.heap.size) := Nat.lt_of_lt_of_le HS2.out hb3.size
  clear hb3 c0 c1 c2 c3 c4
  have c2 := HA3.out.cell 2 _ rfl
  have c3 := HA3.out.cell 3 _ rfl
  rw [Nat.zero_add] at c2 c3
  go_wp2_with fail
  refine (SE.out w3 (HF.out.below HB3.out HF.out.2)).mono ?_
  rintro e w4 ⟨s, rfl, hs, hb4⟩
  have HB4 : Hid (Below w.heap.size w w4) := HB3.out.trans (hb4.mono HB3.out.size)
  have HSS := Lib.hid hs
  obtain ⟨E, hE⟩ : ∃ k, gcOpenE key.toList iv.toList aad.toList (c ++ t).toList 16 = k := ⟨_, rfl⟩
  rw [hE]
  clear hb4 hs c2 c3
  go_wp2_with fail
  go_ret2
  exact ⟨s, by rw [hE]; rfl, HSS.out, HB4.out⟩
end
end Ce
end Go.Proofs.YtflofbimecnakaaGreat
