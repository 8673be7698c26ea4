/- The field of 128 bits: the program's read and tell. -/
import Derived.Test.YtkedoiikkjeadaaDoorGhA
import Derived.Test.YtkedoiikkjeadaaDoorOctE
namespace Go.Proofs.YtkedoiikkjeadaaDoor
open Go.RowKit
set_option linter.unusedVariables false
set_option linter.unusedSimpArgs false
theorem gx_app (a b : ByteArray) : (a ++ b).toList = a.toList ++ b.toList := by
  rw [Lib.toList_data, Lib.toList_data, Lib.toList_data, ByteArray.data_append]
  simp
theorem gx_ext0 (s : ByteArray) (b : Nat) : (s.extract 0 b).toList = s.toList.take b := by rw [Lib.extract_toList, ← Lib.toList_data]; simp
theorem gx_extE (s : ByteArray) (a n : Nat) (h : n = s.size) : (s.extract a n).toList = s.toList.drop a := by
  rw [Lib.extract_toList, ← Lib.toList_data, List.take_of_length_le (by rw [List.length_drop, Lib.toList_data, Array.length_toList]; subst h; exact Nat.le_refl _)]
theorem get8 (L : List UInt8) (h : L.length = 8) : getN L = ofBe L ∧ getE L = 0 := by
  have : getOk L = true := by rw [getOk, h]; rfl
  rw [getN, getE, this]
  exact ⟨rfl, rfl⟩
theorem put8 (n : Nat) (h : n < 2 ^ 64) : putL n 8 = be 8 n ∧ putE n 8 = 0 := by
  have : putOk n 8 = true := by rw [putOk, decide_eq_true_eq]; exact ⟨by decide, by decide, by exact h⟩
  rw [putL, putE, this]
  exact ⟨rfl, rfl⟩
set_option maxRecDepth 100000 in
theorem gread_any (s : ByteArray) (hs : s.size = 16) (w : World) : Calls Tryd.prog 30 #[.string s] w (RetEl (ofBe s.toList) w) := by
  have hL : s.toList.length = 16 := by rw [tl_size]; exact hs
  obtain ⟨h1, h2⟩ := of16_half _ hL
  obtain ⟨x, hx⟩ : ∃ x, s.extract 0 8 = x := ⟨_, rfl⟩
  obtain ⟨y, hy⟩ : ∃ y, s.extract 8 16 = y := ⟨_, rfl⟩
  have xl : x.toList = s.toList.take 8 := by rw [← hx, gx_ext0]
  have yl : y.toList = s.toList.drop 8 := by rw [← hy, gx_extE _ _ _ hs.symm]
  have xs : x.size = 8 := by rw [← tl_size, xl, List.length_take, hL]; rfl
  have ys : y.size = 8 := by rw [← tl_size, yl, List.length_drop, hL]
  have g1 := get8 x.toList (by rw [tl_size]; exact xs)
  have g2 := get8 y.toList (by rw [tl_size]; exact ys)
  rw [xl, ← h1] at g1
  rw [yl, ← h2] at g2
  rw [← xl] at g1
  rw [← yl] at g2
  have c1 := get_any x
  have c2 := get_any y
  rw [g1.1, g1.2] at c1
  rw [g2.1, g2.2] at c2
  have C1 := Lib.hid c1
  have C2 := Lib.hid c2
  have hsI : (s.size : Int) = 16 := by rw [hs]; rfl
  have XS := Lib.hid xs
  have YS := Lib.hid ys
  clear c1 c2 g1 g2 xl yl h1 h2 hL xs ys
  go_enter Tryd.func30, Tryd.ntmps30
  go_wp2_with fail
  refine (C1.out _ (by have := XS.out; unfold maxLen; omega)).mono ?_
  rintro e w1 ⟨rfl, rfl⟩
  go_wp2_with fail
  refine (C2.out _ (by have := YS.out; unfold maxLen; omega)).mono ?_
  rintro e w2 ⟨rfl, rfl⟩
  go_wp2_with fail
  refine bodyPost_ret (results_at rfl _ w.heap.size _ _ rfl (At.ofAlloc w #[.int .u64 ((Gh.hi (ofBe s.toList) : Nat) : Int), .int .u64 ((Gh.lo (ofBe s.toList) : Nat) : Int)] 44) Tryd.underlying44 rfl rfl) rfl ?_
  exact ⟨rfl, (Below.refl _ _).alloc (Nat.le_refl _) _⟩
set_option maxRecDepth 100000 in
theorem gtell_any (v : Nat) (hv : v < 2 ^ 128) (w : World) : Calls Tryd.prog 28 #[.agg #[.int .u64 ((Gh.hi v : Nat) : Int), .int .u64 ((Gh.lo v : Nat) : Int)]] w (fun e w' => ∃ s : ByteArray, e = .returned (.string s) ∧ s.toList = be 16 v ∧ Below w.heap.size w w') := by
  have ah := Gh.hi_lt v hv
  have bh := Gh.lo_lt v
  have B := be16 v hv
  obtain ⟨a, ha⟩ : ∃ a, Gh.hi v = a := ⟨_, rfl⟩
  obtain ⟨b, hb⟩ : ∃ b, Gh.lo v = b := ⟨_, rfl⟩
  rw [ha] at ah B ⊢
  rw [hb] at bh B ⊢
  have p1 := fun w => put_any a 8 w ah
  have p2 := fun w => put_any b 8 w bh
  rw [(put8 a ah).1, (put8 a ah).2] at p1
  rw [(put8 b bh).1, (put8 b bh).2] at p2
  have P1 := Lib.hid p1
  have P2 := Lib.hid p2
  have HB := Lib.hid B
  clear p1 p2 B ah bh ha hb
  go_enter Tryd.func28, Tryd.ntmps28
  go_wp2_with fail
  obtain ⟨w0, hw0, hb0, hc0⟩ : ∃ w0, w.alloc (Obj.cells #[.int .u64 (a : Int), .int .u64 (b : Int)] 44) = w0 ∧ Below w.heap.size w w0 ∧ w0.cell? ⟨w.heap.size, 1, none⟩ = some (.int .u64 (b : Int)) ∧ w.heap.size < w0.heap.size :=
    ⟨_, rfl, (Below.refl _ _).alloc (Nat.le_refl _) _, (At.ofAlloc w #[.int .u64 (a : Int), .int .u64 (b : Int)] 44).cell 1 _ rfl, by simp⟩
  rw [hw0]
  refine (P1.out w0).mono ?_
  rintro e w1 ⟨s1, rfl, hs1, hb1⟩
  have hc1 := (hb1.cell (p := ⟨w.heap.size, 1, none⟩) hc0.2).trans hc0.1
  have hb01 := hb0.trans (hb1.mono hb0.size)
  have z1 : s1.size = 8 := by rw [← tl_size, hs1, be_length]
  have H1 := Lib.hid hs1
  clear hw0 hb0 hc0 hb1 hs1
  go_wp2_with fail
  refine (P2.out w1).mono ?_
  rintro e w2 ⟨s2, rfl, hs2, hb2⟩
  have hb02 := hb01.trans (hb2.mono hb01.size)
  have z2 : s2.size = 8 := by rw [← tl_size, hs2, be_length]
  have H2 := Lib.hid hs2
  have z3 : ¬ 9223372036854775807 < s1.size + s2.size := by omega
  have H3 : Hid ((s1 ++ s2).toList = be 16 v) := by show _ = _; rw [gx_app, H1.out, hs2, HB.out]
  clear hs2 hb2 hb01 z1 z2 hc1
  go_wp2_with fail
  go_ret
  exact ⟨_, rfl, H3.out, hb02⟩
end Go.Proofs.YtkedoiikkjeadaaDoor
