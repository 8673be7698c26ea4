/- The document's Root. -/
import Derived.Test.YtjlmmlnldjandaaGreatDoorShAX
namespace Go.Proofs.YtjlmmlnldjandaaGreatDoor
open Go.RowKit
set_option linter.unusedVariables false
set_option linter.unusedSimpArgs false
theorem nw_bit (a k i : Nat) : (nw a k).testBit i = (decide (i < 64) && a.testBit (64 * k + i)) := by
  rw [nw, Nat.testBit_mod_two_pow, ← Nat.shiftRight_eq_div_pow, Nat.testBit_shiftRight]
theorem nw_or (X j k : Nat) : nw (X ||| 2 ^ j) k = nw X k ||| (if 64 * k ≤ j ∧ j < 64 * k + 64 then 2 ^ (j - 64 * k) else 0) := by
  refine Nat.eq_of_testBit_eq fun i => ?_
  rw [nw_bit, Nat.testBit_or, Nat.testBit_or, nw_bit, Nat.testBit_two_pow]
  by_cases hi : i < 64
  · by_cases h : 64 * k ≤ j ∧ j < 64 * k + 64
    · rw [if_pos h, Nat.testBit_two_pow, show decide (j = 64 * k + i) = decide (j - 64 * k = i) from decide_eq_decide.2 (by omega)]
      simp [hi]
    · rw [if_neg h, show decide (j = 64 * k + i) = false by simp; omega]
      simp [hi]
  · have h2 : (if 64 * k ≤ j ∧ j < 64 * k + 64 then 2 ^ (j - 64 * k) else 0).testBit i = false := by
      split
      · rw [Nat.testBit_two_pow]; simp; omega
      · simp
    rw [h2]
    simp [hi]
theorem or_pow (x e : Nat) (hx : x < 2 ^ 64) (he : e < 64) : bits .or .u64 (x : Int) (IntKind.u64.wrap ((2 : Int) ^ e)) = ((x ||| 2 ^ e : Nat) : Int) := by
  have hp : 2 ^ e < 2 ^ 64 := Nat.pow_lt_pow_right (by decide) he
  have h1 : IntKind.u64.wrap ((2 : Int) ^ e) = ((2 ^ e : Nat) : Int) := by
    rw [show (2 : Int) ^ e = ((2 ^ e : Nat) : Int) by simp]
    generalize 2 ^ e = q at *
    simp [IntKind.wrap, IntKind.bits, IntKind.signed]
    omega
  rw [h1]
  show IntKind.u64.wrap ((BitVec.ofInt 64 (x : Int) ||| BitVec.ofInt 64 ((2 ^ e : Nat) : Int)).toNat : Nat) = _
  rw [BitVec.toNat_or, BitVec.toNat_ofInt, BitVec.toNat_ofInt]
  have e1 : ((x : Int) % ((2 ^ 64 : Nat) : Int)).toNat = x := by omega
  have e2 : (((2 ^ e : Nat) : Int) % ((2 ^ 64 : Nat) : Int)).toNat = 2 ^ e := by
    generalize 2 ^ e = q at *
    omega
  rw [e1, e2]
  have := Nat.or_lt_two_pow hx hp
  simp [IntKind.wrap, IntKind.bits, IntKind.signed]
  omega
theorem fourH {w : World} {g a b c d : Nat} (h : At w g 0 (ucells [a, b, c, d])) : w.cell? ⟨g, 0, none⟩ = some (.int .u64 (a : Int)) ∧ w.cell? ⟨g, 1, none⟩ = some (.int .u64 (b : Int)) ∧ w.cell? ⟨g, 2, none⟩ = some (.int .u64 (c : Int)) ∧ w.cell? ⟨g, 3, none⟩ = some (.int .u64 (d : Int)) :=
  ⟨h.cell 0 _ rfl, h.cell 1 _ rfl, h.cell 2 _ rfl, h.cell 3 _ rfl⟩
theorem fourF {w : World} {g a b c d : Nat} (h : At w g 0 (ucells [a, b, c, d])) : w.frozen? ⟨g, 0, none⟩ = false ∧ w.frozen? ⟨g, 1, none⟩ = false ∧ w.frozen? ⟨g, 2, none⟩ = false ∧ w.frozen? ⟨g, 3, none⟩ = false := by
  have h0 := h.froz 0 (by simp [ucells])
  have h1 := h.froz 1 (by simp [ucells])
  have h2 := h.froz 2 (by simp [ucells])
  have h3 := h.froz 3 (by simp [ucells])
  rw [Nat.zero_add] at h0 h1 h2 h3
  exact ⟨h0, h1, h2, h3⟩
theorem fourS {w : World} {g a b c d : Nat} (h : At w g 0 (ucells [a, b, c, d])) (a' b' c' d' : Nat) : At ((((w.setCell ⟨g, 0, none⟩ (.int .u64 (a' : Int))).setCell ⟨g, 1, none⟩ (.int .u64 (b' : Int))).setCell ⟨g, 2, none⟩ (.int .u64 (c' : Int))).setCell ⟨g, 3, none⟩ (.int .u64 (d' : Int))) g 0 (ucells [a', b', c', d']) := by
  have h4 := (((h.uset 0 a').uset 1 b').uset 2 c').uset 3 d'
  rw [Nat.zero_add, Nat.zero_add, Nat.zero_add, Nat.zero_add] at h4
  exact h4
theorem fourO {w : World} {g b o : Nat} {cs : List Value} (h : At w g o cs) (hb : b ≠ g) (u0 u1 u2 u3 : Value) : At ((((w.setCell ⟨b, 0, none⟩ u0).setCell ⟨b, 1, none⟩ u1).setCell ⟨b, 2, none⟩ u2).setCell ⟨b, 3, none⟩ u3) g o cs :=
  (((h.other b 0 u0 (.inl hb)).other b 1 u1 (.inl hb)).other b 2 u2 (.inl hb)).other b 3 u3 (.inl hb)
theorem fourB {w0 w : World} {B g : Nat} (h : Below B w0 w) (hg : B ≤ g) (u0 u1 u2 u3 : Value) : Below B w0 ((((w.setCell ⟨g, 0, none⟩ u0).setCell ⟨g, 1, none⟩ u1).setCell ⟨g, 2, none⟩ u2).setCell ⟨g, 3, none⟩ u3) :=
  (((h.setCell (p := ⟨g, 0, none⟩) hg u0).setCell (p := ⟨g, 1, none⟩) hg u1).setCell (p := ⟨g, 2, none⟩) hg u2).setCell (p := ⟨g, 3, none⟩) hg u3
theorem num_by (w : World) (x : Nat) : ∃ w0, w.alloc (Obj.cells #[.int .u64 ((nw x 0 : Nat) : Int), .int .u64 ((nw x 1 : Nat) : Int), .int .u64 ((nw x 2 : Nat) : Int), .int .u64 ((nw x 3 : Nat) : Int)] 159) = w0 ∧ At w0 w.heap.size 0 (ucells [nw x 0, nw x 1, nw x 2, nw x 3]) ∧ Below w.heap.size w w0 ∧ w0.heap.size = w.heap.size + 1 :=
  ⟨_, rfl, At.ofAlloc w #[.int .u64 ((nw x 0 : Nat) : Int), .int .u64 ((nw x 1 : Nat) : Int), .int .u64 ((nw x 2 : Nat) : Int), .int .u64 ((nw x 3 : Nat) : Int)] 159, (Below.refl _ _).alloc (Nat.le_refl _) _, by simp⟩
theorem cut2 (Y : Nat) (h : Y < 2 ^ 69) : Y * Y % 2 ^ 256 = Y ^ 2 ∧ Y ^ 2 < 2 ^ 138 := by
  have h2 : Y * Y ≤ 2 ^ 69 * (2 ^ 69 - 1) := Nat.mul_le_mul (by omega) (by omega)
  have h3 : Y * Y < 2 ^ 138 := by omega
  rw [show Y ^ 2 = Y * Y from Nat.pow_two Y]
  exact ⟨Nat.mod_eq_of_lt (by omega), h3⟩
theorem cut3 (Y : Nat) (h : Y < 2 ^ 69) : Y ^ 2 * Y % 2 ^ 256 = Y ^ 3 ∧ Y ^ 3 < 2 ^ 256 := by
  obtain ⟨_, h2⟩ := cut2 Y h
  have h3 : Y ^ 2 * Y ≤ 2 ^ 138 * (2 ^ 69 - 1) := Nat.mul_le_mul (by omega) (by omega)
  rw [show Y ^ 3 = Y ^ 2 * Y from Nat.pow_succ Y 2]
  exact ⟨Nat.mod_eq_of_lt (by omega), by omega⟩
theorem want2 (p : Nat) (hp : p < 2 ^ 64) : nw (p * 2 ^ (64 * 2)) 0 = 0 ∧ nw (p * 2 ^ (64 * 2)) 1 = 0 ∧ nw (p * 2 ^ (64 * 2)) 2 = p ∧ nw (p * 2 ^ (64 * 2)) 3 = 0 := by
  simp only [nw, Nat.reduceMul]
  omega
theorem begin2 (w : World) (p : Nat) (hp : p < 2 ^ 64) : ∃ w0, (w.alloc (Obj.cells #[.int .u64 0, .int .u64 0, .int .u64 (p : Int), .int .u64 0] 159)).alloc (Obj.cells z4 159) = w0 ∧ At w0 w.heap.size 0 (ucells [nw (p * 2 ^ (64 * 2)) 0, nw (p * 2 ^ (64 * 2)) 1, nw (p * 2 ^ (64 * 2)) 2, nw (p * 2 ^ (64 * 2)) 3]) ∧ At w0 (w.heap.size + 1) 0 (ucells [nw 0 0, nw 0 1, nw 0 2, nw 0 3]) ∧ Below w.heap.size w w0 ∧ w.heap.size + 2 ≤ w0.heap.size := by
  obtain ⟨h0, h1, h2, h3⟩ := want2 p hp
  refine ⟨_, rfl, ?_, ?_, ((Below.refl _ _).alloc (Nat.le_refl _) _).alloc (by simp) _, by simp⟩
  · rw [h0, h1, h2, h3]
    exact (At.ofAlloc w #[.int .u64 0, .int .u64 0, .int .u64 (p : Int), .int .u64 0] 159).alloc _
  · have h := At.ofAlloc (w.alloc (Obj.cells #[.int .u64 0, .int .u64 0, .int .u64 (p : Int), .int .u64 0] 159)) z4 159
    rw [World.size_alloc] at h
    have e : ∀ k, nw 0 k = 0 := fun k => by simp [nw]
    rw [e, e, e, e]
    exact h
set_option maxRecDepth 100000 in
set_option maxHeartbeats 3200000 in
theorem root2_any (p : Nat) (hp : p < 2 ^ 64) (w : World) : Calls Tryz.prog 82 #[.int .u64 (p : Int), .int .i64 2] w (RetU (Sh.root p 2) w) := by
  go_enter Tryz.func82, Tryz.ntmps82
  go_wp2_with fail
  obtain ⟨w0, hw0, hW, hX, hb0, hs0⟩ := begin2 w p hp
  rw [hw0]
  obtain ⟨Wn, hWn⟩ : ∃ Wn, p * 2 ^ (64 * 2) = Wn := ⟨_, rfl⟩
  rw [hWn] at hW
  have HWL : Hid (Wn < 2 ^ 256) := Lib.hid (by omega)
  have HWN := Lib.hid hWn
  clear hw0 hWn
  go_loopw [7] (fun iv wr => ∃ (k : Nat) (x : Int) (X : Nat), k ≤ 69 ∧ iv = .int .i64 x ∧ x = (k : Int) - 1 ∧ X < 2 ^ 69 ∧ Sh.rootGo p 2 k X = Sh.rootGo p 2 69 0 ∧ At wr w.heap.size 0 (ucells [nw Wn 0, nw Wn 1, nw Wn 2, nw Wn 3]) ∧ At wr (w.heap.size + 1) 0 (ucells [nw X 0, nw X 1, nw X 2, nw X 3]) ∧ Below w.heap.size w wr ∧ w.heap.size + 2 ≤ wr.heap.size) (fun iv _ => (intOf iv + 1).toNat)
  case atStart => exact ⟨69, 68, 0, by omega, rfl, by omega, by decide, rfl, hW, hX, hb0, hs0⟩
  case round =>
    clear hW hX hb0 hs0
    obtain ⟨k, x, X, hk, rfl, hx, hXl, hgo, hW, hX, hb0, hs0⟩ := hrel
    by_cases hk0 : k = 0
    · have q0 : ¬ (0 : Int) ≤ x := by omega
      subst hk0
      obtain ⟨c0, c1, c2, c3⟩ := fourH hX
      have hR : nw X 0 = Sh.root p 2 := by rw [Sh.root, ← hgo, Sh.rootGo, nw, Nat.mul_zero, Nat.pow_zero, Nat.div_one]
      have HR := Lib.hid hR
      clear hW hX hgo hR hx
      go_wp2_with fail
      go_ret
      exact ⟨by rw [← HR.out]; rfl, hb0⟩
    · obtain ⟨j, hj⟩ : ∃ j, k = j + 1 := ⟨k - 1, by omega⟩
      subst hj
      obtain rfl : x = (j : Int) := by omega
      have q0 : (0 : Int) ≤ (j : Int) := by omega
      have hYl : X ||| 2 ^ j < 2 ^ 69 := Nat.or_lt_two_pow hXl (Nat.pow_lt_pow_right (by decide) (by omega))
      rw [Sh.rootGo, HWN.out] at hgo
      by_cases hj64 : j < 64
      · have q1 : (j : Int).tdiv 64 = 0 := by rw [Int.tdiv_eq_ediv_of_nonneg (by omega)]; omega
        obtain ⟨e, he⟩ : ∃ e, j - 64 * 0 = e := ⟨_, rfl⟩
        have q2 : (j : Int).tmod 64 = (e : Int) := by rw [Int.tmod_eq_emod_of_nonneg (by omega)]; omega
        have q3 : IntKind.i64.wrap (e : Int) = (e : Int) := by simp only [IntKind.wrap, IntKind.bits, IntKind.signed]; simp; omega
        have q4 : IntKind.u64.wrap (e : Int) = (e : Int) := by simp [IntKind.wrap, IntKind.bits, IntKind.signed]; omega
        have he64 : e < 64 := by omega
        have q5 := or_pow (nw X 0) e (nw_lt _ _) he64
        have q6 : (e : Int) < 64 := by omega
        have y0 := nw_or X j 0
        have y1 := nw_or X j 1
        have y2 := nw_or X j 2
        have y3 := nw_or X j 3
        rw [if_pos (by omega), he] at y0
        rw [if_neg (by omega), Nat.or_zero] at y1
        rw [if_neg (by omega), Nat.or_zero] at y2
        rw [if_neg (by omega), Nat.or_zero] at y3
        obtain ⟨c0, c1, c2, c3⟩ := fourH hX
        obtain ⟨x0, hx0⟩ : ∃ x, nw X 0 = x := ⟨_, rfl⟩
        obtain ⟨x1, hx1⟩ : ∃ x, nw X 1 = x := ⟨_, rfl⟩
        obtain ⟨x2, hx2⟩ : ∃ x, nw X 2 = x := ⟨_, rfl⟩
        obtain ⟨x3, hx3⟩ : ∃ x, nw X 3 = x := ⟨_, rfl⟩
        rw [hx0] at c0 y0
        rw [hx1] at c1 y1
        rw [hx2] at c2 y2
        rw [hx3] at c3 y3
        rw [hx0] at q5
        have YY := Lib.hid (And.intro y0 (And.intro y1 (And.intro y2 y3)))
        have HX := Lib.hid hX
        have HW := Lib.hid hW
        clear y0 y1 y2 y3 hx0 hx1 hx2 hx3 hX hW he hj64 hx
        go_wp2_with fail
        rw [← YY.out.1, ← YY.out.2.1, ← YY.out.2.2.1, ← YY.out.2.2.2]
        obtain ⟨B, hB⟩ : ∃ B, wr.heap.size = B := ⟨_, rfl⟩
        obtain ⟨Y, hY⟩ : ∃ Y, X ||| 2 ^ j = Y := ⟨_, rfl⟩
        rw [hY]
        obtain ⟨w1, hw1, hA1, hb1, hs1⟩ := num_by wr Y
        rw [hw1, hB]
        rw [hB] at hA1 hs1
        rw [hY] at hYl hgo
        clear hw1 c0 c1 c2 c3
        refine (times3_any Y Y _).mono ?_
        rintro e w2 ⟨rfl, hb2⟩
        rw [(cut2 Y hYl).1]
        have hX1 := HX.out.below hb1 (by omega)
        have hW1 := HW.out.below hb1 (by omega)
        have hX2 := hX1.below hb2 (by omega)
        have hW2 := hW1.below hb2 (by omega)
        have hA2 := hA1.below hb2 (by omega)
        have hb02 := (hb0.trans (hb1.mono (by omega))).trans (hb2.mono (by have := hb0.size; omega))
        have hs2 : B + 1 ≤ w2.heap.size := by have := hb2.size; omega
        clear hb1 hb2 hA1 hX1 hW1 hs1 HX HW
        have d0 := fun ob => (fourH (hA2.alloc ob)).1
        have d1 := fun ob => (fourH (hA2.alloc ob)).2.1
        have d2 := fun ob => (fourH (hA2.alloc ob)).2.2.1
        have d3 := fun ob => (fourH (hA2.alloc ob)).2.2.2
        have v0 := fun ob => (fourH (hW2.alloc ob)).1
        have v1 := fun ob => (fourH (hW2.alloc ob)).2.1
        have v2 := fun ob => (fourH (hW2.alloc ob)).2.2.1
        have v3 := fun ob => (fourH (hW2.alloc ob)).2.2.2
        have HX2 := Lib.hid hX2
        have HW2 := Lib.hid hW2
        have HA2 := Lib.hid hA2
        clear hX2 hW2 hA2
        go_wp2_with fail
        obtain ⟨w3, hw3, hZ3, hb3, hs3⟩ := num_by w2 (Y ^ 2)
        rw [hw3]
        refine (above_any (Y ^ 2) Wn (by have := (cut2 Y hYl).2; omega) HWL.out _).mono ?_
        rintro e w4 ⟨rfl, hb4⟩
        have hb24 := hb3.trans (hb4.mono (by omega))
        clear hw3 hZ3 hb3 hb4
        have hX4 := HX2.out.below hb24 (by omega)
        have hW4 := HW2.out.below hb24 (by omega)
        have hA4 := HA2.out.below hb24 (by omega)
        have hb04 := hb02.trans (hb24.mono (by have := hb02.size; omega))
        have hs4 : B + 1 ≤ w4.heap.size := by have := hb24.size; omega
        clear d0 d1 d2 d3 v0 v1 v2 v3 HX2 HW2 HA2 hb24 hb02 hs2
        by_cases hcmp : Wn < Y ^ 2
        · rw [if_pos hcmp] at hgo
          have hd : decide (Wn < Y ^ 2) = true := decide_eq_true hcmp
          rw [hd]
          have HX4 := Lib.hid hX4
          have HW4 := Lib.hid hW4
          have HGO := Lib.hid hgo
          clear hX4 hW4 hA4 hgo hd hcmp
          go_wp2_with fail
          go_roundw
          case rel => exact ⟨j, _, X, by omega, rfl, by omega, hXl, HGO.out, HW4.out, HX4.out, hb04, by omega⟩
          case measure => first | (simp [intOf]; done) | (simp [intOf]; omega)
        · rw [if_neg hcmp] at hgo
          have hd : decide (Wn < Y ^ 2) = false := decide_eq_false hcmp
          rw [hd]
          obtain ⟨d0, d1, d2, d3⟩ := fourH hA4
          obtain ⟨x0, x1, x2, x3⟩ := fourH hX4
          obtain ⟨f0, f1, f2, f3⟩ := fourF hX4
          have HX4 := Lib.hid (fourS hX4 (nw Y 0) (nw Y 1) (nw Y 2) (nw Y 3))
          have HW4 := Lib.hid (fourO hW4 (b := w.heap.size + 1) (by omega) (.int .u64 ((nw Y 0 : Nat) : Int)) (.int .u64 ((nw Y 1 : Nat) : Int)) (.int .u64 ((nw Y 2 : Nat) : Int)) (.int .u64 ((nw Y 3 : Nat) : Int)))
          have HB4 := Lib.hid (fourB hb04 (g := w.heap.size + 1) (by omega) (.int .u64 ((nw Y 0 : Nat) : Int)) (.int .u64 ((nw Y 1 : Nat) : Int)) (.int .u64 ((nw Y 2 : Nat) : Int)) (.int .u64 ((nw Y 3 : Nat) : Int)))
          have HGO := Lib.hid hgo
          clear hX4 hW4 hA4 hgo hd hcmp hb04
          go_wp2_with fail
          go_roundw
          case rel => exact ⟨j, _, Y, by omega, rfl, by omega, hYl, HGO.out, HW4.out, HX4.out, HB4.out, by simp; omega⟩
          case measure => first | (simp [intOf]; done) | (simp [intOf]; omega)
      · have q1 : (j : Int).tdiv 64 = 1 := by rw [Int.tdiv_eq_ediv_of_nonneg (by omega)]; omega
        obtain ⟨e, he⟩ : ∃ e, j - 64 * 1 = e := ⟨_, rfl⟩
        have q2 : (j : Int).tmod 64 = (e : Int) := by rw [Int.tmod_eq_emod_of_nonneg (by omega)]; omega
        have q3 : IntKind.i64.wrap (e : Int) = (e : Int) := by simp only [IntKind.wrap, IntKind.bits, IntKind.signed]; simp; omega
        have q4 : IntKind.u64.wrap (e : Int) = (e : Int) := by simp [IntKind.wrap, IntKind.bits, IntKind.signed]; omega
        have he64 : e < 64 := by omega
        have q5 := or_pow (nw X 1) e (nw_lt _ _) he64
        have q6 : (e : Int) < 64 := by omega
        have y0 := nw_or X j 0
        have y1 := nw_or X j 1
        have y2 := nw_or X j 2
        have y3 := nw_or X j 3
        rw [if_pos (by omega), he] at y1
        rw [if_neg (by omega), Nat.or_zero] at y0
        rw [if_neg (by omega), Nat.or_zero] at y2
        rw [if_neg (by omega), Nat.or_zero] at y3
        obtain ⟨c0, c1, c2, c3⟩ := fourH hX
        obtain ⟨x0, hx0⟩ : ∃ x, nw X 0 = x := ⟨_, rfl⟩
        obtain ⟨x1, hx1⟩ : ∃ x, nw X 1 = x := ⟨_, rfl⟩
        obtain ⟨x2, hx2⟩ : ∃ x, nw X 2 = x := ⟨_, rfl⟩
        obtain ⟨x3, hx3⟩ : ∃ x, nw X 3 = x := ⟨_, rfl⟩
        rw [hx0] at c0 y0
        rw [hx1] at c1 y1
        rw [hx2] at c2 y2
        rw [hx3] at c3 y3
        rw [hx1] at q5
        have YY := Lib.hid (And.intro y0 (And.intro y1 (And.intro y2 y3)))
        have HX := Lib.hid hX
        have HW := Lib.hid hW
        clear y0 y1 y2 y3 hx0 hx1 hx2 hx3 hX hW he hj64 hx
        go_wp2_with fail
        rw [← YY.out.1, ← YY.out.2.1, ← YY.out.2.2.1, ← YY.out.2.2.2]
        obtain ⟨B, hB⟩ : ∃ B, wr.heap.size = B := ⟨_, rfl⟩
        obtain ⟨Y, hY⟩ : ∃ Y, X ||| 2 ^ j = Y := ⟨_, rfl⟩
        rw [hY]
        obtain ⟨w1, hw1, hA1, hb1, hs1⟩ := num_by wr Y
        rw [hw1, hB]
        rw [hB] at hA1 hs1
        rw [hY] at hYl hgo
        clear hw1 c0 c1 c2 c3
        refine (times3_any Y Y _).mono ?_
        rintro e w2 ⟨rfl, hb2⟩
        rw [(cut2 Y hYl).1]
        have hX1 := HX.out.below hb1 (by omega)
        have hW1 := HW.out.below hb1 (by omega)
        have hX2 := hX1.below hb2 (by omega)
        have hW2 := hW1.below hb2 (by omega)
        have hA2 := hA1.below hb2 (by omega)
        have hb02 := (hb0.trans (hb1.mono (by omega))).trans (hb2.mono (by have := hb0.size; omega))
        have hs2 : B + 1 ≤ w2.heap.size := by have := hb2.size; omega
        clear hb1 hb2 hA1 hX1 hW1 hs1 HX HW
        have d0 := fun ob => (fourH (hA2.alloc ob)).1
        have d1 := fun ob => (fourH (hA2.alloc ob)).2.1
        have d2 := fun ob => (fourH (hA2.alloc ob)).2.2.1
        have d3 := fun ob => (fourH (hA2.alloc ob)).2.2.2
        have v0 := fun ob => (fourH (hW2.alloc ob)).1
        have v1 := fun ob => (fourH (hW2.alloc ob)).2.1
        have v2 := fun ob => (fourH (hW2.alloc ob)).2.2.1
        have v3 := fun ob => (fourH (hW2.alloc ob)).2.2.2
        have HX2 := Lib.hid hX2
        have HW2 := Lib.hid hW2
        have HA2 := Lib.hid hA2
        clear hX2 hW2 hA2
        go_wp2_with fail
        obtain ⟨w3, hw3, hZ3, hb3, hs3⟩ := num_by w2 (Y ^ 2)
        rw [hw3]
        refine (above_any (Y ^ 2) Wn (by have := (cut2 Y hYl).2; omega) HWL.out _).mono ?_
        rintro e w4 ⟨rfl, hb4⟩
        have hb24 := hb3.trans (hb4.mono (by omega))
        clear hw3 hZ3 hb3 hb4
        have hX4 := HX2.out.below hb24 (by omega)
        have hW4 := HW2.out.below hb24 (by omega)
        have hA4 := HA2.out.below hb24 (by omega)
        have hb04 := hb02.trans (hb24.mono (by have := hb02.size; omega))
        have hs4 : B + 1 ≤ w4.heap.size := by have := hb24.size; omega
        clear d0 d1 d2 d3 v0 v1 v2 v3 HX2 HW2 HA2 hb24 hb02 hs2
        by_cases hcmp : Wn < Y ^ 2
        · rw [if_pos hcmp] at hgo
          have hd : decide (Wn < Y ^ 2) = true := decide_eq_true hcmp
          rw [hd]
          have HX4 := Lib.hid hX4
          have HW4 := Lib.hid hW4
          have HGO := Lib.hid hgo
          clear hX4 hW4 hA4 hgo hd hcmp
          go_wp2_with fail
          go_roundw
          case rel => exact ⟨j, _, X, by omega, rfl, by omega, hXl, HGO.out, HW4.out, HX4.out, hb04, by omega⟩
          case measure => first | (simp [intOf]; done) | (simp [intOf]; omega)
        · rw [if_neg hcmp] at hgo
          have hd : decide (Wn < Y ^ 2) = false := decide_eq_false hcmp
          rw [hd]
          obtain ⟨d0, d1, d2, d3⟩ := fourH hA4
          obtain ⟨x0, x1, x2, x3⟩ := fourH hX4
          obtain ⟨f0, f1, f2, f3⟩ := fourF hX4
          have HX4 := Lib.hid (fourS hX4 (nw Y 0) (nw Y 1) (nw Y 2) (nw Y 3))
          have HW4 := Lib.hid (fourO hW4 (b := w.heap.size + 1) (by omega) (.int .u64 ((nw Y 0 : Nat) : Int)) (.int .u64 ((nw Y 1 : Nat) : Int)) (.int .u64 ((nw Y 2 : Nat) : Int)) (.int .u64 ((nw Y 3 : Nat) : Int)))
          have HB4 := Lib.hid (fourB hb04 (g := w.heap.size + 1) (by omega) (.int .u64 ((nw Y 0 : Nat) : Int)) (.int .u64 ((nw Y 1 : Nat) : Int)) (.int .u64 ((nw Y 2 : Nat) : Int)) (.int .u64 ((nw Y 3 : Nat) : Int)))
          have HGO := Lib.hid hgo
          clear hX4 hW4 hA4 hgo hd hcmp hb04
          go_wp2_with fail
          go_roundw
          case rel => exact ⟨j, _, Y, by omega, rfl, by omega, hYl, HGO.out, HW4.out, HX4.out, HB4.out, by simp; omega⟩
          case measure => first | (simp [intOf]; done) | (simp [intOf]; omega)
theorem want3 (p : Nat) (hp : p < 2 ^ 64) : nw (p * 2 ^ (64 * 3)) 0 = 0 ∧ nw (p * 2 ^ (64 * 3)) 1 = 0 ∧ nw (p * 2 ^ (64 * 3)) 2 = 0 ∧ nw (p * 2 ^ (64 * 3)) 3 = p := by
  simp only [nw, Nat.reduceMul]
  omega
theorem begin3 (w : World) (p : Nat) (hp : p < 2 ^ 64) : ∃ w0, (w.alloc (Obj.cells #[.int .u64 0, .int .u64 0, .int .u64 0, .int .u64 (p : Int)] 159)).alloc (Obj.cells z4 159) = w0 ∧ At w0 w.heap.size 0 (ucells [nw (p * 2 ^ (64 * 3)) 0, nw (p * 2 ^ (64 * 3)) 1, nw (p * 2 ^ (64 * 3)) 2, nw (p * 2 ^ (64 * 3)) 3]) ∧ At w0 (w.heap.size + 1) 0 (ucells [nw 0 0, nw 0 1, nw 0 2, nw 0 3]) ∧ Below w.heap.size w w0 ∧ w.heap.size + 2 ≤ w0.heap.size := by
  obtain ⟨h0, h1, h2, h3⟩ := want3 p hp
  refine ⟨_, rfl, ?_, ?_, ((Below.refl _ _).alloc (Nat.le_refl _) _).alloc (by simp) _, by simp⟩
  · rw [h0, h1, h2, h3]
    exact (At.ofAlloc w #[.int .u64 0, .int .u64 0, .int .u64 0, .int .u64 (p : Int)] 159).alloc _
  · have h := At.ofAlloc (w.alloc (Obj.cells #[.int .u64 0, .int .u64 0, .int .u64 0, .int .u64 (p : Int)] 159)) z4 159
    rw [World.size_alloc] at h
    have e : ∀ k, nw 0 k = 0 := fun k => by simp [nw]
    rw [e, e, e, e]
    exact h
set_option maxRecDepth 100000 in
set_option maxHeartbeats 3200000 in
theorem root3_any (p : Nat) (hp : p < 2 ^ 64) (w : World) : Calls Tryz.prog 82 #[.int .u64 (p : Int), .int .i64 3] w (RetU (Sh.root p 3) w) := by
  go_enter Tryz.func82, Tryz.ntmps82
  go_wp2_with fail
  obtain ⟨w0, hw0, hW, hX, hb0, hs0⟩ := begin3 w p hp
  rw [hw0]
  obtain ⟨Wn, hWn⟩ : ∃ Wn, p * 2 ^ (64 * 3) = Wn := ⟨_, rfl⟩
  rw [hWn] at hW
  have HWL : Hid (Wn < 2 ^ 256) := Lib.hid (by omega)
  have HWN := Lib.hid hWn
  clear hw0 hWn
  go_loopw [7] (fun iv wr => ∃ (k : Nat) (x : Int) (X : Nat), k ≤ 69 ∧ iv = .int .i64 x ∧ x = (k : Int) - 1 ∧ X < 2 ^ 69 ∧ Sh.rootGo p 3 k X = Sh.rootGo p 3 69 0 ∧ At wr w.heap.size 0 (ucells [nw Wn 0, nw Wn 1, nw Wn 2, nw Wn 3]) ∧ At wr (w.heap.size + 1) 0 (ucells [nw X 0, nw X 1, nw X 2, nw X 3]) ∧ Below w.heap.size w wr ∧ w.heap.size + 2 ≤ wr.heap.size) (fun iv _ => (intOf iv + 1).toNat)
  case atStart => exact ⟨69, 68, 0, by omega, rfl, by omega, by decide, rfl, hW, hX, hb0, hs0⟩
  case round =>
    clear hW hX hb0 hs0
    obtain ⟨k, x, X, hk, rfl, hx, hXl, hgo, hW, hX, hb0, hs0⟩ := hrel
    by_cases hk0 : k = 0
    · have q0 : ¬ (0 : Int) ≤ x := by omega
      subst hk0
      obtain ⟨c0, c1, c2, c3⟩ := fourH hX
      have hR : nw X 0 = Sh.root p 3 := by rw [Sh.root, ← hgo, Sh.rootGo, nw, Nat.mul_zero, Nat.pow_zero, Nat.div_one]
      have HR := Lib.hid hR
      clear hW hX hgo hR hx
      go_wp2_with fail
      go_ret
      exact ⟨by rw [← HR.out]; rfl, hb0⟩
    · obtain ⟨j, hj⟩ : ∃ j, k = j + 1 := ⟨k - 1, by omega⟩
      subst hj
      obtain rfl : x = (j : Int) := by omega
      have q0 : (0 : Int) ≤ (j : Int) := by omega
      have hYl : X ||| 2 ^ j < 2 ^ 69 := Nat.or_lt_two_pow hXl (Nat.pow_lt_pow_right (by decide) (by omega))
      rw [Sh.rootGo, HWN.out] at hgo
      by_cases hj64 : j < 64
      · have q1 : (j : Int).tdiv 64 = 0 := by rw [Int.tdiv_eq_ediv_of_nonneg (by omega)]; omega
        obtain ⟨e, he⟩ : ∃ e, j - 64 * 0 = e := ⟨_, rfl⟩
        have q2 : (j : Int).tmod 64 = (e : Int) := by rw [Int.tmod_eq_emod_of_nonneg (by omega)]; omega
        have q3 : IntKind.i64.wrap (e : Int) = (e : Int) := by simp only [IntKind.wrap, IntKind.bits, IntKind.signed]; simp; omega
        have q4 : IntKind.u64.wrap (e : Int) = (e : Int) := by simp [IntKind.wrap, IntKind.bits, IntKind.signed]; omega
        have he64 : e < 64 := by omega
        have q5 := or_pow (nw X 0) e (nw_lt _ _) he64
        have q6 : (e : Int) < 64 := by omega
        have y0 := nw_or X j 0
        have y1 := nw_or X j 1
        have y2 := nw_or X j 2
        have y3 := nw_or X j 3
        rw [if_pos (by omega), he] at y0
        rw [if_neg (by omega), Nat.or_zero] at y1
        rw [if_neg (by omega), Nat.or_zero] at y2
        rw [if_neg (by omega), Nat.or_zero] at y3
        obtain ⟨c0, c1, c2, c3⟩ := fourH hX
        obtain ⟨x0, hx0⟩ : ∃ x, nw X 0 = x := ⟨_, rfl⟩
        obtain ⟨x1, hx1⟩ : ∃ x, nw X 1 = x := ⟨_, rfl⟩
        obtain ⟨x2, hx2⟩ : ∃ x, nw X 2 = x := ⟨_, rfl⟩
        obtain ⟨x3, hx3⟩ : ∃ x, nw X 3 = x := ⟨_, rfl⟩
        rw [hx0] at c0 y0
        rw [hx1] at c1 y1
        rw [hx2] at c2 y2
        rw [hx3] at c3 y3
        rw [hx0] at q5
        have YY := Lib.hid (And.intro y0 (And.intro y1 (And.intro y2 y3)))
        have HX := Lib.hid hX
        have HW := Lib.hid hW
        clear y0 y1 y2 y3 hx0 hx1 hx2 hx3 hX hW he hj64 hx
        go_wp2_with fail
        rw [← YY.out.1, ← YY.out.2.1, ← YY.out.2.2.1, ← YY.out.2.2.2]
        obtain ⟨B, hB⟩ : ∃ B, wr.heap.size = B := ⟨_, rfl⟩
        obtain ⟨Y, hY⟩ : ∃ Y, X ||| 2 ^ j = Y := ⟨_, rfl⟩
        rw [hY]
        obtain ⟨w1, hw1, hA1, hb1, hs1⟩ := num_by wr Y
        rw [hw1, hB]
        rw [hB] at hA1 hs1
        rw [hY] at hYl hgo
        clear hw1 c0 c1 c2 c3
        refine (times3_any Y Y _).mono ?_
        rintro e w2 ⟨rfl, hb2⟩
        rw [(cut2 Y hYl).1]
        have hX1 := HX.out.below hb1 (by omega)
        have hW1 := HW.out.below hb1 (by omega)
        have hX2 := hX1.below hb2 (by omega)
        have hW2 := hW1.below hb2 (by omega)
        have hA2 := hA1.below hb2 (by omega)
        have hb02 := (hb0.trans (hb1.mono (by omega))).trans (hb2.mono (by have := hb0.size; omega))
        have hs2 : B + 1 ≤ w2.heap.size := by have := hb2.size; omega
        clear hb1 hb2 hA1 hX1 hW1 hs1 HX HW
        have d0 := fun ob => (fourH (hA2.alloc ob)).1
        have d1 := fun ob => (fourH (hA2.alloc ob)).2.1
        have d2 := fun ob => (fourH (hA2.alloc ob)).2.2.1
        have d3 := fun ob => (fourH (hA2.alloc ob)).2.2.2
        have v0 := fun ob => (fourH (hW2.alloc ob)).1
        have v1 := fun ob => (fourH (hW2.alloc ob)).2.1
        have v2 := fun ob => (fourH (hW2.alloc ob)).2.2.1
        have v3 := fun ob => (fourH (hW2.alloc ob)).2.2.2
        have HX2 := Lib.hid hX2
        have HW2 := Lib.hid hW2
        have HA2 := Lib.hid hA2
        clear hX2 hW2 hA2
        go_wp2_with fail
        obtain ⟨w3, hw3, hZ3, hb3, hs3⟩ := num_by w2 (Y ^ 2)
        obtain ⟨Z, hZ⟩ : ∃ Z, w2.heap.size = Z := ⟨_, rfl⟩
        rw [hw3, hZ]
        rw [hZ] at hZ3 hs3
        refine (times3_any (Y ^ 2) Y _).mono ?_
        rintro e w5 ⟨rfl, hb5⟩
        rw [(cut3 Y hYl).1]
        have hZ5 := hZ3.below hb5 (by omega)
        have hW5 := (HW2.out.below hb3 (by omega)).below hb5 (by omega)
        have hb35 := hb3.trans (hb5.mono (by omega))
        clear hw3 hZ3 d0 d1 d2 d3 v0 v1 v2 v3 hb3
        obtain ⟨v0, v1, v2, v3⟩ := fourH hW5
        obtain ⟨z0, z1, z2, z3⟩ := fourH hZ5
        obtain ⟨f0, f1, f2, f3⟩ := fourF hZ5
        have hlz : Z ≠ w.heap.size := by omega
        have HZ5 := Lib.hid hZ5
        have hb36 := fourB hb35 (g := Z) (by omega) (.int .u64 ((nw (Y ^ 3) 0 : Nat) : Int)) (.int .u64 ((nw (Y ^ 3) 1 : Nat) : Int)) (.int .u64 ((nw (Y ^ 3) 2 : Nat) : Int)) (.int .u64 ((nw (Y ^ 3) 3 : Nat) : Int))
        have HB36 := Lib.hid hb36
        clear hW5 hZ5 hb35 hb5 hb36
        go_wp2_with fail
        refine (above_any (Y ^ 3) Wn (cut3 Y hYl).2 HWL.out _).mono ?_
        rintro e w4 ⟨rfl, hb4⟩
        have hb24 := HB36.out.trans (hb4.mono HB36.out.size)
        clear hb4 z0 z1 z2 z3 f0 f1 f2 f3 HZ5 HB36
        have hX4 := HX2.out.below hb24 (by omega)
        have hW4 := HW2.out.below hb24 (by omega)
        have hA4 := HA2.out.below hb24 (by omega)
        have hb04 := hb02.trans (hb24.mono (by have := hb02.size; omega))
        have hs4 : B + 1 ≤ w4.heap.size := by have := hb24.size; omega
        clear  v0 v1 v2 v3 HX2 HW2 HA2 hb24 hb02 hs2
        by_cases hcmp : Wn < Y ^ 3
        · rw [if_pos hcmp] at hgo
          have hd : decide (Wn < Y ^ 3) = true := decide_eq_true hcmp
          rw [hd]
          have HX4 := Lib.hid hX4
          have HW4 := Lib.hid hW4
          have HGO := Lib.hid hgo
          clear hX4 hW4 hA4 hgo hd hcmp
          go_wp2_with fail
          go_roundw
          case rel => exact ⟨j, _, X, by omega, rfl, by omega, hXl, HGO.out, HW4.out, HX4.out, hb04, by omega⟩
          case measure => first | (simp [intOf]; done) | (simp [intOf]; omega)
        · rw [if_neg hcmp] at hgo
          have hd : decide (Wn < Y ^ 3) = false := decide_eq_false hcmp
          rw [hd]
          obtain ⟨d0, d1, d2, d3⟩ := fourH hA4
          obtain ⟨x0, x1, x2, x3⟩ := fourH hX4
          obtain ⟨f0, f1, f2, f3⟩ := fourF hX4
          have HX4 := Lib.hid (fourS hX4 (nw Y 0) (nw Y 1) (nw Y 2) (nw Y 3))
          have HW4 := Lib.hid (fourO hW4 (b := w.heap.size + 1) (by omega) (.int .u64 ((nw Y 0 : Nat) : Int)) (.int .u64 ((nw Y 1 : Nat) : Int)) (.int .u64 ((nw Y 2 : Nat) : Int)) (.int .u64 ((nw Y 3 : Nat) : Int)))
          have HB4 := Lib.hid (fourB hb04 (g := w.heap.size + 1) (by omega) (.int .u64 ((nw Y 0 : Nat) : Int)) (.int .u64 ((nw Y 1 : Nat) : Int)) (.int .u64 ((nw Y 2 : Nat) : Int)) (.int .u64 ((nw Y 3 : Nat) : Int)))
          have HGO := Lib.hid hgo
          clear hX4 hW4 hA4 hgo hd hcmp hb04
          go_wp2_with fail
          go_roundw
          case rel => exact ⟨j, _, Y, by omega, rfl, by omega, hYl, HGO.out, HW4.out, HX4.out, HB4.out, by simp; omega⟩
          case measure => first | (simp [intOf]; done) | (simp [intOf]; omega)
      · have q1 : (j : Int).tdiv 64 = 1 := by rw [Int.tdiv_eq_ediv_of_nonneg (by omega)]; omega
        obtain ⟨e, he⟩ : ∃ e, j - 64 * 1 = e := ⟨_, rfl⟩
        have q2 : (j : Int).tmod 64 = (e : Int) := by rw [Int.tmod_eq_emod_of_nonneg (by omega)]; omega
        have q3 : IntKind.i64.wrap (e : Int) = (e : Int) := by simp only [IntKind.wrap, IntKind.bits, IntKind.signed]; simp; omega
        have q4 : IntKind.u64.wrap (e : Int) = (e : Int) := by simp [IntKind.wrap, IntKind.bits, IntKind.signed]; omega
        have he64 : e < 64 := by omega
        have q5 := or_pow (nw X 1) e (nw_lt _ _) he64
        have q6 : (e : Int) < 64 := by omega
        have y0 := nw_or X j 0
        have y1 := nw_or X j 1
        have y2 := nw_or X j 2
        have y3 := nw_or X j 3
        rw [if_pos (by omega), he] at y1
        rw [if_neg (by omega), Nat.or_zero] at y0
        rw [if_neg (by omega), Nat.or_zero] at y2
        rw [if_neg (by omega), Nat.or_zero] at y3
        obtain ⟨c0, c1, c2, c3⟩ := fourH hX
        obtain ⟨x0, hx0⟩ : ∃ x, nw X 0 = x := ⟨_, rfl⟩
        obtain ⟨x1, hx1⟩ : ∃ x, nw X 1 = x := ⟨_, rfl⟩
        obtain ⟨x2, hx2⟩ : ∃ x, nw X 2 = x := ⟨_, rfl⟩
        obtain ⟨x3, hx3⟩ : ∃ x, nw X 3 = x := ⟨_, rfl⟩
        rw [hx0] at c0 y0
        rw [hx1] at c1 y1
        rw [hx2] at c2 y2
        rw [hx3] at c3 y3
        rw [hx1] at q5
        have YY := Lib.hid (And.intro y0 (And.intro y1 (And.intro y2 y3)))
        have HX := Lib.hid hX
        have HW := Lib.hid hW
        clear y0 y1 y2 y3 hx0 hx1 hx2 hx3 hX hW he hj64 hx
        go_wp2_with fail
        rw [← YY.out.1, ← YY.out.2.1, ← YY.out.2.2.1, ← YY.out.2.2.2]
        obtain ⟨B, hB⟩ : ∃ B, wr.heap.size = B := ⟨_, rfl⟩
        obtain ⟨Y, hY⟩ : ∃ Y, X ||| 2 ^ j = Y := ⟨_, rfl⟩
        rw [hY]
        obtain ⟨w1, hw1, hA1, hb1, hs1⟩ := num_by wr Y
        rw [hw1, hB]
        rw [hB] at hA1 hs1
        rw [hY] at hYl hgo
        clear hw1 c0 c1 c2 c3
        refine (times3_any Y Y _).mono ?_
        rintro e w2 ⟨rfl, hb2⟩
        rw [(cut2 Y hYl).1]
        have hX1 := HX.out.below hb1 (by omega)
        have hW1 := HW.out.below hb1 (by omega)
        have hX2 := hX1.below hb2 (by omega)
        have hW2 := hW1.below hb2 (by omega)
        have hA2 := hA1.below hb2 (by omega)
        have hb02 := (hb0.trans (hb1.mono (by omega))).trans (hb2.mono (by have := hb0.size; omega))
        have hs2 : B + 1 ≤ w2.heap.size := by have := hb2.size; omega
        clear hb1 hb2 hA1 hX1 hW1 hs1 HX HW
        have d0 := fun ob => (fourH (hA2.alloc ob)).1
        have d1 := fun ob => (fourH (hA2.alloc ob)).2.1
        have d2 := fun ob => (fourH (hA2.alloc ob)).2.2.1
        have d3 := fun ob => (fourH (hA2.alloc ob)).2.2.2
        have v0 := fun ob => (fourH (hW2.alloc ob)).1
        have v1 := fun ob => (fourH (hW2.alloc ob)).2.1
        have v2 := fun ob => (fourH (hW2.alloc ob)).2.2.1
        have v3 := fun ob => (fourH (hW2.alloc ob)).2.2.2
        have HX2 := Lib.hid hX2
        have HW2 := Lib.hid hW2
        have HA2 := Lib.hid hA2
        clear hX2 hW2 hA2
        go_wp2_with fail
        obtain ⟨w3, hw3, hZ3, hb3, hs3⟩ := num_by w2 (Y ^ 2)
        obtain ⟨Z, hZ⟩ : ∃ Z, w2.heap.size = Z := ⟨_, rfl⟩
        rw [hw3, hZ]
        rw [hZ] at hZ3 hs3
        refine (times3_any (Y ^ 2) Y _).mono ?_
        rintro e w5 ⟨rfl, hb5⟩
        rw [(cut3 Y hYl).1]
        have hZ5 := hZ3.below hb5 (by omega)
        have hW5 := (HW2.out.below hb3 (by omega)).below hb5 (by omega)
        have hb35 := hb3.trans (hb5.mono (by omega))
        clear hw3 hZ3 d0 d1 d2 d3 v0 v1 v2 v3 hb3
        obtain ⟨v0, v1, v2, v3⟩ := fourH hW5
        obtain ⟨z0, z1, z2, z3⟩ := fourH hZ5
        obtain ⟨f0, f1, f2, f3⟩ := fourF hZ5
        have hlz : Z ≠ w.heap.size := by omega
        have HZ5 := Lib.hid hZ5
        have hb36 := fourB hb35 (g := Z) (by omega) (.int .u64 ((nw (Y ^ 3) 0 : Nat) : Int)) (.int .u64 ((nw (Y ^ 3) 1 : Nat) : Int)) (.int .u64 ((nw (Y ^ 3) 2 : Nat) : Int)) (.int .u64 ((nw (Y ^ 3) 3 : Nat) : Int))
        have HB36 := Lib.hid hb36
        clear hW5 hZ5 hb35 hb5 hb36
        go_wp2_with fail
        refine (above_any (Y ^ 3) Wn (cut3 Y hYl).2 HWL.out _).mono ?_
        rintro e w4 ⟨rfl, hb4⟩
        have hb24 := HB36.out.trans (hb4.mono HB36.out.size)
        clear hb4 z0 z1 z2 z3 f0 f1 f2 f3 HZ5 HB36
        have hX4 := HX2.out.below hb24 (by omega)
        have hW4 := HW2.out.below hb24 (by omega)
        have hA4 := HA2.out.below hb24 (by omega)
        have hb04 := hb02.trans (hb24.mono (by have := hb02.size; omega))
        have hs4 : B + 1 ≤ w4.heap.size := by have := hb24.size; omega
        clear  v0 v1 v2 v3 HX2 HW2 HA2 hb24 hb02 hs2
        by_cases hcmp : Wn < Y ^ 3
        · rw [if_pos hcmp] at hgo
          have hd : decide (Wn < Y ^ 3) = true := decide_eq_true hcmp
          rw [hd]
          have HX4 := Lib.hid hX4
          have HW4 := Lib.hid hW4
          have HGO := Lib.hid hgo
          clear hX4 hW4 hA4 hgo hd hcmp
          go_wp2_with fail
          go_roundw
          case rel => exact ⟨j, _, X, by omega, rfl, by omega, hXl, HGO.out, HW4.out, HX4.out, hb04, by omega⟩
          case measure => first | (simp [intOf]; done) | (simp [intOf]; omega)
        · rw [if_neg hcmp] at hgo
          have hd : decide (Wn < Y ^ 3) = false := decide_eq_false hcmp
          rw [hd]
          obtain ⟨d0, d1, d2, d3⟩ := fourH hA4
          obtain ⟨x0, x1, x2, x3⟩ := fourH hX4
          obtain ⟨f0, f1, f2, f3⟩ := fourF hX4
          have HX4 := Lib.hid (fourS hX4 (nw Y 0) (nw Y 1) (nw Y 2) (nw Y 3))
          have HW4 := Lib.hid (fourO hW4 (b := w.heap.size + 1) (by omega) (.int .u64 ((nw Y 0 : Nat) : Int)) (.int .u64 ((nw Y 1 : Nat) : Int)) (.int .u64 ((nw Y 2 : Nat) : Int)) (.int .u64 ((nw Y 3 : Nat) : Int)))
          have HB4 := Lib.hid (fourB hb04 (g := w.heap.size + 1) (by omega) (.int .u64 ((nw Y 0 : Nat) : Int)) (.int .u64 ((nw Y 1 : Nat) : Int)) (.int .u64 ((nw Y 2 : Nat) : Int)) (.int .u64 ((nw Y 3 : Nat) : Int)))
          have HGO := Lib.hid hgo
          clear hX4 hW4 hA4 hgo hd hcmp hb04
          go_wp2_with fail
          go_roundw
          case rel => exact ⟨j, _, Y, by omega, rfl, by omega, hYl, HGO.out, HW4.out, HX4.out, HB4.out, by simp; omega⟩
          case measure => first | (simp [intOf]; done) | (simp [intOf]; omega)
end Go.Proofs.YtjlmmlnldjandaaGreatDoor
