/- Joined by merge.py: CcmW CcmY. -/
import Derived.Test.YthaajaajhddhdaaCcmV
import Derived.RegionTactic
import Derived.ChangeAlike
namespace Go.Proofs.Ythaajaajhddhdaa
open Go.RowKit
set_option linter.unusedVariables false
set_option linter.unusedSimpArgs false
def RetZ (n : Nat) (w : World) (e : Ending) (w' : World) : Prop := ∃ t : ByteArray, e = .returned (.string t) ∧ t.size = n ∧ Below w.heap.size w w'
theorem box_ch (w : World) (f a : Int) (b : Int) : ∃ w0, w.alloc (Obj.cells #[.int .i64 f, .int .i64 a, .int .u8 b] 36) = w0 ∧ At w0 w.heap.size 0 [.int .i64 f, .int .i64 a, .int .u8 b] ∧ Below w.heap.size w w0 ∧ w.heap.size < w0.heap.size := by
  have h := At.ofAlloc w #[.int .i64 f, .int .i64 a, .int .u8 b] 36
  exact ⟨_, rfl, h, (Below.refl _ _).alloc (Nat.le_refl _) _, by simp⟩
theorem wpList_bytes_row {P : Program} (w : World) {ops : Array Oper} {rest : List Oper} {o : Oper} {a : Act} {Q : Exit → Act → World → Prop}
    (hg : o.guard = none) (x : Operand) (src dst e : TypeId) (hop : o.op = Op.convert src dst x) (h1 : P.underlying src = some .string) (h2 : P.underlying dst = some (.slice e)) (h3 : P.underlying e = some (.int .u8))
    (s : ByteArray) (hx : a.eval x = .string s) (B : Nat) (hB : B ≤ w.heap.size) (N : Nat) (hN : s.size = N)
    (hK : ∀ g cap w', B ≤ g → Hid (At w' g 0 (bcells s.toList)) → Below B w w' → wpList P ops Q rest (a.put o.dst (.slice (some ⟨g, 0, none⟩) N cap)) w') :
    wpList P ops Q (o :: rest) a w := by
  refine wpList_bytes_bag w hg x src dst e hop h1 h2 h3 s hx B hB ?_
  intro v w' hb hbel
  obtain ⟨g, cap, sp, rfl, hgB, hcap, hs, ha⟩ := hb
  rw [tl_size, hN]
  exact hK g cap w' hgB (ha.sub (a := []) (b := bcells s.toList) (c := sp)) hbel
set_option maxRecDepth 100000 in
set_option maxHeartbeats 1600000 in
theorem turned_any (s : ByteArray) (f a : Int) (b : UInt8) (w : World) (hz : s.size ≤ 140737488355328) : Calls Try.prog 17 #[.string s, .agg #[.int .i64 f, .int .i64 a, .int .u8 (b.toNat : Int)]] w (RetZ s.size w) := by
  by_cases h0 : s.size = 0
  · have e1 : ((s.size : Int) == 0) = true := by rw [beq_iff_eq]; omega
    rw [h0]
    clear h0
    go_enter Try.func17, Try.ntmps17
    go_wp2_with fail
    go_ret
    exact ⟨s, rfl, by have := eq_of_beq e1; omega, (Below.refl _ _).alloc (Nat.le_refl _) _⟩
  · have e1 : ((s.size : Int) == 0) = false := by rw [beq_eq_false_iff_ne]; omega
    by_cases ha : a < 0
    · clear h0
      go_enter Try.func17, Try.ntmps17
      go_wp2_with fail
      go_ret
      exact ⟨s, rfl, rfl, (Below.refl _ _).alloc (Nat.le_refl _) _⟩
    · obtain ⟨n, rfl⟩ := Int.eq_ofNat_of_zero_le (a := a) (by omega)
      obtain ⟨N, hN⟩ : ∃ N, s.size = N := ⟨_, rfl⟩
      obtain ⟨r, hr⟩ : ∃ r, n % N = r := ⟨_, rfl⟩
      have hrN : r < N := by rw [← hr]; exact Nat.mod_lt _ (by omega)
      have r1 : (n : Int).tmod (N : Int) = (r : Int) := tmod_nat n N r hr.symm
      have r2 : IntKind.i64.wrap (r : Int) = (r : Int) := wrap_in _ (by omega) (by omega)
      have r3 : (N : Int) ≠ 0 := by omega
      have r4 : (r : Int) < (N : Int) := by omega
      have r5 : (0 : Int) ≤ (r : Int) := by omega
      have hNb : N ≤ 9223372036854775807 := by omega
      have HN := Lib.hid hN
      rw [hN]
      clear h0 hr hN ha
      go_enter Try.func17, Try.ntmps17
      obtain ⟨w0, hw0, hC, hb0, hl0⟩ := box_ch w f (n : Int) (b.toNat : Int)
      have hc1 : w0.cell? ⟨w.heap.size, 1, none⟩ = some (.int .i64 (n : Int)) := hC.cell 1 _ rfl
      have hc2 : w0.cell? ⟨w.heap.size, 2, none⟩ = some (.int .u8 (b.toNat : Int)) := hC.cell 2 _ rfl
      have HX := Lib.hid (fun u : UInt8 => u8x u b)
      go_wp2_with (refine wpList_bytes_row _ rfl (.tmp 15) 9 33 5 rfl Try.underlying9 Try.underlying33 Try.underlying5 s rfl w0.heap.size (Nat.le_refl _) N HN.out ?_; intro g cap w1 hgB HA hb1)
      have hB : w.heap.size < w0.heap.size := hl0
      have hB0 : w.heap.size < w0.heap.size := hl0
      have hd1 := (hb1.cell (p := ⟨w.heap.size, 1, none⟩) hB).trans hc1
      have hd2 := (hb1.cell (p := ⟨w.heap.size, 2, none⟩) hB).trans hc2
      have hb01 := below2 hb0 hb1
      have hL : s.toList.length = N := by rw [tl_size]; exact HN.out
      obtain ⟨u, hu⟩ : ∃ u, s.toList[r]? = some u := ⟨s.toList[r]'(by omega), List.getElem?_eq_getElem (by omega)⟩
      have hcell : w1.cell? ⟨g, r, none⟩ = some (.int .u8 (u.toNat : Int)) := by
        have h := HA.out.b8 r (by omega)
        rw [Nat.zero_add, List.getD, hu] at h
        exact h
      have hfro : w1.frozen? ⟨g, r, none⟩ = false := by
        have h := HA.out.froz r (by rw [bcells_length]; omega)
        rwa [Nat.zero_add] at h
      have hxx := HX.out u
      have HAd : Hid (At w1.drew g 0 (bcells s.toList)) := HA.out
      have HL := Lib.hid hL
      clear hw0 hc1 hc2 hC hb0 hl0 hB hL hu
      go_wp2_with fail
      go_region
      have hA2 := HA.out.b8set r (u ^^^ b)
      rw [Nat.zero_add, UInt8.toNat_xor] at hA2
      have hbl : Below w.heap.size w ((w1.setCell ⟨g, r, none⟩ (.int .u8 ((u.toNat ^^^ b.toNat : Nat) : Int))).drew) := (hb01.setCell (p := ⟨g, r, none⟩) (Nat.le_trans (Nat.le_of_lt hB0) hgB) _).drew
      have hcv := convert_at (P := Try.prog) (cap := cap) hA2.drew 33 9 5 N (by rw [List.length_set]; exact HL.out) Try.underlying33 Try.underlying5 Try.underlying9
      obtain ⟨c, hc⟩ : ∃ c : ByteArray, (⟨(s.toList.set r (u ^^^ b)).toArray⟩ : ByteArray) = c := ⟨_, rfl⟩
      rw [hc] at hcv
      have hcs : c.size = N := by rw [← hc, size_mk, List.length_set]; exact HL.out
      have HCS := Lib.hid hcs
      clear hA2 hc hcs hcell hfro hd1 hd2 hxx
      go_wp2_with fail
      go_ret
      exact ⟨c, rfl, HCS.out, hbl⟩
end Go.Proofs.Ythaajaajhddhdaa
namespace Go.Proofs.Ythaajaajhddhdaa
open Go.RowKit
set_option linter.unusedVariables false
set_option linter.unusedSimpArgs false
def bxc (key nonce aad : ByteArray) (s : Int) : List Value := [.string key, .string nonce, .string aad, .int .i64 s]
def chc (f a : Int) (b : UInt8) : List Value := [.int .i64 f, .int .i64 a, .int .u8 (b.toNat : Int)]
theorem two_bx (w : World) (key nonce aad : ByteArray) (s f a : Int) (b : UInt8) : ∃ w0, (w.alloc (Obj.cells #[.string key, .string nonce, .string aad, .int .i64 s] 23)).alloc (Obj.cells #[.int .i64 f, .int .i64 a, .int .u8 (b.toNat : Int)] 36) = w0 ∧
    At w0 w.heap.size 0 (bxc key nonce aad s) ∧ At w0 (w.heap.size + 1) 0 (chc f a b) ∧ Below w.heap.size w w0 ∧ w.heap.size + 1 < w0.heap.size := by
  have h1 := (At.ofAlloc w #[.string key, .string nonce, .string aad, .int .i64 s] 23).alloc (Obj.cells #[.int .i64 f, .int .i64 a, .int .u8 (b.toNat : Int)] 36)
  have h2 := At.ofAlloc (w.alloc (Obj.cells #[.string key, .string nonce, .string aad, .int .i64 s] 23)) #[.int .i64 f, .int .i64 a, .int .u8 (b.toNat : Int)] 36
  rw [World.size_alloc] at h2
  exact ⟨_, rfl, h1, h2, ((Below.refl _ _).alloc (Nat.le_refl _) _).alloc (by simp) _, by simp⟩
theorem bxc_cells {w : World} {B : Nat} {key nonce aad : ByteArray} {s : Int} (h : At w B 0 (bxc key nonce aad s)) :
    (w.cell? ⟨B, 0, none⟩ = some (.string key) ∧ w.cell? ⟨B, 1, none⟩ = some (.string nonce) ∧ w.cell? ⟨B, 2, none⟩ = some (.string aad) ∧ w.cell? ⟨B, 3, none⟩ = some (.int .i64 s)) ∧
    (w.frozen? ⟨B, 0, none⟩ = false ∧ w.frozen? ⟨B, 1, none⟩ = false ∧ w.frozen? ⟨B, 2, none⟩ = false) :=
  ⟨⟨h.cell 0 _ rfl, h.cell 1 _ rfl, h.cell 2 _ rfl, h.cell 3 _ rfl⟩, ⟨h.froz 0 (by simp [bxc]), h.froz 1 (by simp [bxc]), h.froz 2 (by simp [bxc])⟩⟩
theorem chc_cells {w : World} {B : Nat} {f a : Int} {b : UInt8} (h : At w B 0 (chc f a b)) :
    w.cell? ⟨B, 0, none⟩ = some (.int .i64 f) ∧ w.cell? ⟨B, 1, none⟩ = some (.int .i64 a) ∧ w.cell? ⟨B, 2, none⟩ = some (.int .u8 (b.toNat : Int)) :=
  ⟨h.cell 0 _ rfl, h.cell 1 _ rfl, h.cell 2 _ rfl⟩
theorem ccChg (K V A X : List UInt8) (m : Nat) (h : ccE K.length V.length A.length (m : Int) ((X.length : Int) - (m : Int)) = 0) :
    (ccOpenE K V A X (m : Int) = 8 ∧ ccOpenL K V A X (m : Int) = []) ∨
    (ccOpenE K V A X (m : Int) = 0 ∧ ccTagL K V A (ccOpenL K V A X (m : Int)) (m : Int) = X.drop (X.length - m) ∧ ccE K.length V.length A.length (m : Int) ((ccOpenL K V A X (m : Int)).length : Int) = 0) := by
  have hz := ccE_zero h
  by_cases ht : ccTag K V A (ccOp K V X (m : Int)) m = X.drop (X.length - m)
  · right
    have hE : ccOpenE K V A X (m : Int) = 0 := by rw [ccOpenE, if_pos h, Int.toNat_natCast, if_pos ht]
    have hL : ccOpenL K V A X (m : Int) = ccOp K V X (m : Int) := by rw [ccOpenL, if_pos hE]
    have hl : ((ccOpenL K V A X (m : Int)).length : Int) = (X.length : Int) - (m : Int) := by
      rw [hL, ccOp, ccJoin, ctrL_length, List.length_take, Int.toNat_natCast]
      omega
    have hE2 : ccE K.length V.length A.length (m : Int) ((ccOpenL K V A X (m : Int)).length : Int) = 0 := by rw [hl]; exact h
    exact ⟨hE, by rw [ccTagL, if_pos hE2, hL, Int.toNat_natCast]; exact ht, hE2⟩
  · left
    have hE : ccOpenE K V A X (m : Int) = 8 := by rw [ccOpenE, if_pos h, Int.toNat_natCast, if_neg ht]
    exact ⟨hE, by rw [ccOpenL, hE, if_neg (by decide)]⟩
set_option maxRecDepth 100000 in
set_option maxHeartbeats 1600000 in
theorem chg_no (key nonce aad : ByteArray) (s : Int) (text : ByteArray) (f a : Int) (b : UInt8) (zt : text.size ≤ 140737488351232) (w : World) (c : Int) (hc : ccE key.size nonce.size aad.size s (text.size : Int) = c) (h0 : c ≠ 0) : Calls Try.prog 8 #[.agg #[.string key, .string nonce, .string aad, .int .i64 s], .string text, .agg #[.int .i64 f, .int .i64 a, .int .u8 (b.toNat : Int)]] w (RetT w) := by
    have HCC := Lib.hid hc
    have HZ : Hid (text.size ≤ 140737488355328) := by show _ ≤ _; omega
    have e1 : (c != 0) = true := by rw [bne_iff_ne]; exact h0
    have HL : Hid (ccSealL key.toList nonce.toList aad.toList text.toList s = []) := by show _ = _; rw [ccSealL, tl_size, tl_size, tl_size, tl_size, hc, if_neg h0]
    clear hc h0
    go_enter Try.func8, Try.ntmps8
    go_wp2_with fail
    obtain ⟨w0, hw0, hA, hC, hb00, hl0⟩ := two_bx w key nonce aad s f a b
    rw [hw0]
    obtain ⟨B, hB⟩ : ∃ B, w.heap.size = B := ⟨_, rfl⟩
    rw [hB] at hA hC hl0 ⊢
    have HB := Lib.hid hB
    have HA0 := Lib.hid hA
    have HC0 := Lib.hid hC
    clear hw0 hB hA hC
    (have hc0 := True.intro; have hc1 := True.intro; have hc2 := True.intro; have hc3 := True.intro; have hf0 := True.intro; have hf1 := True.intro; have hf2 := True.intro; have hd0 := True.intro; have hd1 := True.intro; have hd2 := True.intro
     refine (wakes10_any _).mono ?_
     rintro e w1 ⟨rfl, hb1⟩
     have HA1 := Lib.hid (HA0.out.below hb1 (Nat.lt_of_succ_lt hl0))
     have HC1 := Lib.hid (HC0.out.below hb1 hl0)
     have hl1 : B + 1 < w1.heap.size := Nat.lt_of_lt_of_le hl0 hb1.size
     have hb01 := below2 hb00 hb1
     clear hc0 hc1 hc2 hc3 hf0 hf1 hf2 hd0 hd1 hd2 hb00 hb1 hl0 HA0 HC0
     obtain ⟨⟨hc0, hc1, hc2, hc3⟩, ⟨hf0, hf1, hf2⟩⟩ := bxc_cells HA1.out
     obtain ⟨hd0, hd1, hd2⟩ := chc_cells HC1.out
     go_wp2_with fail
     refine (ccSeal_any key nonce aad text s _ HZ.out).mono ?_
     rintro e w2 ⟨x, rfl, hx, hb2⟩
     rw [HCC.out]
     rw [HL.out] at hx
     obtain rfl := emptyB hx
     have hb02 := below2 hb01 hb2
     clear hx hb2 hb01 hc0 hc1 hc2 hc3 hf0 hf1 hf2 hd0 hd1 hd2
     go_wp2_with fail
     go_ret
     exact ⟨rfl, hb02⟩)
set_option maxRecDepth 100000 in
set_option maxHeartbeats 3200000 in
theorem chg_0 (key nonce aad : ByteArray) (m : Nat) (text : ByteArray) (f a : Int) (b : UInt8) (zt : text.size ≤ 140737488351232) (w : World) (hc : ccE key.size nonce.size aad.size (m : Int) (text.size : Int) = 0) (hf : f = 0) : Calls Try.prog 8 #[.agg #[.string key, .string nonce, .string aad, .int .i64 (m : Int)], .string text, .agg #[.int .i64 f, .int .i64 a, .int .u8 (b.toNat : Int)]] w (RetT w) := by
    have HCC := Lib.hid hc
    have HZ : Hid (text.size ≤ 140737488355328) := by show _ ≤ _; omega
    have hz := ccE_zero hc
    have hbk := ccBack key.toList nonce.toList aad.toList text.toList m (by rw [tl_size, tl_size, tl_size, tl_size]; exact hc)
    have hbd : text.size ≤ 70000 ∧ m ≤ 16 ∧ key.size ≤ 32 ∧ nonce.size ≤ 13 ∧ aad.size ≤ 70000 := by omega
    have HBK := Lib.hid hbk
    have HBD := Lib.hid hbd
    have k0 : (f == 0) = true := by rw [beq_iff_eq]; omega
    clear hc hz hbk hf hbd
    go_enter Try.func8, Try.ntmps8
    go_wp2_with fail
    obtain ⟨w0, hw0, hA, hC, hb00, hl0⟩ := two_bx w key nonce aad (m : Int) f a b
    rw [hw0]
    obtain ⟨B, hB⟩ : ∃ B, w.heap.size = B := ⟨_, rfl⟩
    rw [hB] at hA hC hl0 ⊢
    have HB := Lib.hid hB
    have HA0 := Lib.hid hA
    have HC0 := Lib.hid hC
    clear hw0 hB hA hC
    (have hc0 := True.intro; have hc1 := True.intro; have hc2 := True.intro; have hc3 := True.intro; have hf0 := True.intro; have hf1 := True.intro; have hf2 := True.intro; have hd0 := True.intro; have hd1 := True.intro; have hd2 := True.intro
     refine (wakes10_any _).mono ?_
     rintro e w1 ⟨rfl, hb1⟩
     have HA1 := Lib.hid (HA0.out.below hb1 (Nat.lt_of_succ_lt hl0))
     have HC1 := Lib.hid (HC0.out.below hb1 hl0)
     have hl1 : B + 1 < w1.heap.size := Nat.lt_of_lt_of_le hl0 hb1.size
     have hb01 := below2 hb00 hb1
     clear hc0 hc1 hc2 hc3 hf0 hf1 hf2 hd0 hd1 hd2 hb00 hb1 hl0 HA0 HC0
     obtain ⟨⟨hc0, hc1, hc2, hc3⟩, ⟨hf0, hf1, hf2⟩⟩ := bxc_cells HA1.out
     obtain ⟨hd0, hd1, hd2⟩ := chc_cells HC1.out
     go_wp2_with fail
     refine (ccSeal_any key nonce aad text (m : Int) _ HZ.out).mono ?_
     rintro e w2 ⟨x, rfl, hx, hb2⟩
     rw [HCC.out]
     have hxs : x.size = text.size + m := by rw [← tl_size, hx, HBK.out.1, tl_size]
     have HXS := Lib.hid hxs
     clear hx hxs
     have HA2 := Lib.hid (HA1.out.below hb2 (Nat.lt_of_succ_lt hl1))
     have HC2 := Lib.hid (HC1.out.below hb2 hl1)
     have hl2 : B + 1 < w2.heap.size := Nat.lt_of_lt_of_le hl1 hb2.size
     have hb02 := below2 hb01 hb2
     clear hc0 hc1 hc2 hc3 hf0 hf1 hf2 hd0 hd1 hd2 hb01 hb2 hl1 HA1 HC1
     obtain ⟨⟨hc0, hc1, hc2, hc3⟩, ⟨hf0, hf1, hf2⟩⟩ := bxc_cells HA2.out
     obtain ⟨hd0, hd1, hd2⟩ := chc_cells HC2.out
     go_wp2_with fail
     refine (bxlong_any key nonce aad text (m : Int) _).mono ?_
     rintro e w3 ⟨bl, rfl, hb3⟩
     have HA3 := Lib.hid (HA2.out.below hb3 (Nat.lt_of_succ_lt hl2))
     have HC3 := Lib.hid (HC2.out.below hb3 hl2)
     have hl3 : B + 1 < w3.heap.size := Nat.lt_of_lt_of_le hl2 hb3.size
     have hb03 := below2 hb02 hb3
     clear hc0 hc1 hc2 hc3 hf0 hf1 hf2 hd0 hd1 hd2 hb02 hb3 hl2 HA2 HC2
     obtain ⟨⟨hc0, hc1, hc2, hc3⟩, ⟨hf0, hf1, hf2⟩⟩ := bxc_cells HA3.out
     obtain ⟨hd0, hd1, hd2⟩ := chc_cells HC3.out
     cases bl
     · go_wp2_with fail
       refine (turned_any key f a b _ (by have := HBD.out; have := HXS.out; omega)).mono ?_
       rintro e w4 ⟨y, rfl, hy, hb4⟩
       have HY := Lib.hid hy
       clear hy
       have HA4 := Lib.hid (HA3.out.below hb4 (Nat.lt_of_succ_lt hl3))
       have HC4 := Lib.hid (HC3.out.below hb4 hl3)
       have hl4 : B + 1 < w4.heap.size := Nat.lt_of_lt_of_le hl3 hb4.size
       have hb04 := below2 hb03 hb4
       clear hc0 hc1 hc2 hc3 hf0 hf1 hf2 hd0 hd1 hd2 hb03 hb4 hl3 HA3 HC3
       obtain ⟨⟨hc0, hc1, hc2, hc3⟩, ⟨hf0, hf1, hf2⟩⟩ := bxc_cells HA4.out
       obtain ⟨hd0, hd1, hd2⟩ := chc_cells HC4.out
       have hA4 := HA4.out
       have hC4 := HC4.out
       have hA5 := hA4.set 0 (.string y)
       rw [Nat.zero_add] at hA5
       have hA5' : At (w4.setCell ⟨B, 0, none⟩ (.string y)) B 0 (bxc y nonce aad (m : Int)) := hA5
       have hC5 : At (w4.setCell ⟨B, 0, none⟩ (.string y)) (B + 1) 0 (chc f a b) := hC4.other B 0 (.string y) (.inl (by omega))
       have hb05 : Below w.heap.size w (w4.setCell ⟨B, 0, none⟩ (.string y)) := hb04.setCell (p := ⟨B, 0, none⟩) (by rw [HB.out]; exact Nat.le_refl _) _
       have hl5 : B + 1 < (w4.setCell ⟨B, 0, none⟩ (.string y)).heap.size := by simpa using hl4
       have HA5 := Lib.hid hA5'
       have HC5 := Lib.hid hC5
       have HL5 := Lib.hid hl5
       clear hA4 hC4 hA5 hA5' hC5 hl5
       go_wp2_with fail
       clear hc0 hc1 hc2 hc3 hf0 hf1 hf2 hd0 hd1 hd2 hb04 hl4 HA4 HC4
       generalize w4.setCell ⟨B, 0, none⟩ (.string y) = w5 at *
       have hl5 := HL5.out
       obtain ⟨⟨hc0, hc1, hc2, hc3⟩, ⟨hf0, hf1, hf2⟩⟩ := bxc_cells HA5.out
       obtain ⟨hd0, hd1, hd2⟩ := chc_cells HC5.out
       have hsz : y.size = key.size ∧ nonce.size = nonce.size ∧ aad.size = aad.size ∧ x.size = text.size + m := ⟨by first | rfl | exact HY.out, by first | rfl | exact HY.out, by first | rfl | exact HY.out, by first | exact HXS.out | (rw [HY.out, HXS.out])⟩
       have hE0 : ccE y.toList.length nonce.toList.length aad.toList.length (m : Int) ((x.toList.length : Int) - (m : Int)) = 0 := by
         rw [tl_size, tl_size, tl_size, tl_size, hsz.1, hsz.2.1, hsz.2.2.1, hsz.2.2.2, show ((text.size + m : Nat) : Int) - (m : Int) = (text.size : Int) by omega]
         exact HCC.out
       have hch := ccChg y.toList nonce.toList aad.toList x.toList m hE0
       have hXz : x.size ≤ 140737488355328 := by have := HBD.out; omega
       obtain ⟨d, hd⟩ : ∃ d, ccOpenE y.toList nonce.toList aad.toList x.toList (m : Int) = d := ⟨_, rfl⟩
       rw [hd] at hch
       have HD := Lib.hid hd
       have HCH := Lib.hid hch
       have HSZ := Lib.hid hsz
       have HXZ := Lib.hid hXz
       clear hsz hE0 hch hXz hd
       refine (rccOpen_any y nonce aad x (m : Int) _ HXZ.out).mono ?_
       rintro e w6 ⟨t1, rfl, ht1, hb6⟩
       rw [HD.out]
       have HT1 := Lib.hid ht1
       clear ht1
       have HA6 := Lib.hid (HA5.out.below hb6 (Nat.lt_of_succ_lt hl5))
       have HC6 := Lib.hid (HC5.out.below hb6 hl5)
       have hl6 : B + 1 < w6.heap.size := Nat.lt_of_lt_of_le hl5 hb6.size
       have hb06 := below2 hb05 hb6
       clear hc0 hc1 hc2 hc3 hf0 hf1 hf2 hd0 hd1 hd2 hb05 hb6 hl5 HA5 HC5
       obtain ⟨⟨hc0, hc1, hc2, hc3⟩, ⟨hf0, hf1, hf2⟩⟩ := bxc_cells HA6.out
       obtain ⟨hd0, hd1, hd2⟩ := chc_cells HC6.out
       go_wp2_with fail
       refine (ccOpen_any y nonce aad x (m : Int) _ HXZ.out).mono ?_
       rintro e w7 ⟨t2, rfl, ht2, hb7⟩
       rw [HD.out]
       obtain rfl : t1 = t2 := tl_inj (by rw [HT1.out, ht2])
       clear ht2
       have HA7 := Lib.hid (HA6.out.below hb7 (Nat.lt_of_succ_lt hl6))
       have HC7 := Lib.hid (HC6.out.below hb7 hl6)
       have hl7 : B + 1 < w7.heap.size := Nat.lt_of_lt_of_le hl6 hb7.size
       have hb07 := below2 hb06 hb7
       clear hc0 hc1 hc2 hc3 hf0 hf1 hf2 hd0 hd1 hd2 hb06 hb7 hl6 HA6 HC6
       obtain ⟨⟨hc0, hc1, hc2, hc3⟩, ⟨hf0, hf1, hf2⟩⟩ := bxc_cells HA7.out
       obtain ⟨hd0, hd1, hd2⟩ := chc_cells HC7.out
       have ht1z : t1.size ≤ 140737488355328 := by
         rw [← tl_size, HT1.out, ccOpenL]
         split
         · rw [ccOp, ccJoin, ctrL_length, List.length_take, tl_size]; have := HXZ.out; omega
         · simp
       go_wp2_with fail
       refine (ccTag_any y nonce aad t1 (m : Int) _ ht1z).mono ?_
       rintro e w8 ⟨tg, rfl, htg, hb8⟩
       have HTG := Lib.hid htg
       clear htg ht1z
       have HA8 := Lib.hid (HA7.out.below hb8 (Nat.lt_of_succ_lt hl7))
       have HC8 := Lib.hid (HC7.out.below hb8 hl7)
       have hl8 : B + 1 < w8.heap.size := Nat.lt_of_lt_of_le hl7 hb8.size
       have hb08 := below2 hb07 hb8
       clear hc0 hc1 hc2 hc3 hf0 hf1 hf2 hd0 hd1 hd2 hb07 hb8 hl7 HA7 HC7
       obtain ⟨⟨hc0, hc1, hc2, hc3⟩, ⟨hf0, hf1, hf2⟩⟩ := bxc_cells HA8.out
       obtain ⟨hd0, hd1, hd2⟩ := chc_cells HC8.out
       rcases HCH.out with ⟨rfl, hL⟩ | ⟨rfl, hT, hE2⟩
       · obtain rfl := emptyB (HT1.out.trans hL)
         obtain ⟨h, hh⟩ : ∃ h, ccE y.size nonce.size aad.size (m : Int) ((ByteArray.mk #[]).size : Int) = h := ⟨_, rfl⟩
         rw [hh]
         clear hL hh
         go_wp2_with fail
         go_ret
         exact ⟨rfl, hb08⟩
       · have hE3 : ccE y.size nonce.size aad.size (m : Int) (t1.size : Int) = 0 := by
           have h := hE2
           rw [← HT1.out, tl_size, tl_size, tl_size, tl_size] at h
           exact h
         rw [hE3]
         obtain ⟨o, ho⟩ : ∃ o, o = x.size - m := ⟨_, rfl⟩
         have q1 : (x.size : Int) - (m : Int) = (o : Int) := by have := HSZ.out.2.2.2; omega
         have q2 : IntKind.i64.wrap (o : Int) = (o : Int) := wrap_in _ (by omega) (by have := HXZ.out; omega)
         have q3 : (0 : Int) ≤ (o : Int) := by omega
         have q4 : (o : Int) ≤ (x.size : Int) := by omega
         have q5 : o ≤ x.size := by omega
         obtain ⟨z, hz⟩ : ∃ z, x.extract o x.size = z := ⟨_, rfl⟩
         have hzt : z = tg := tl_inj (by rw [← hz, tl_extE _ _ _ rfl, HTG.out, HT1.out, hT, tl_size, ho])
         subst hzt
         clear hE3 hT hE2 ho
         go_wp2_with fail
         go_ret
         exact ⟨rfl, hb08⟩
     · clear hc0 hc1 hc2 hc3 hf0 hf1 hf2 hd0 hd1 hd2
       go_wp2_with fail
       go_ret
       exact ⟨rfl, hb03⟩)
set_option maxRecDepth 100000 in
set_option maxHeartbeats 3200000 in
theorem chg_1 (key nonce aad : ByteArray) (m : Nat) (text : ByteArray) (f a : Int) (b : UInt8) (zt : text.size ≤ 140737488351232) (w : World) (hc : ccE key.size nonce.size aad.size (m : Int) (text.size : Int) = 0) (hf : f = 1) : Calls Try.prog 8 #[.agg #[.string key, .string nonce, .string aad, .int .i64 (m : Int)], .string text, .agg #[.int .i64 f, .int .i64 a, .int .u8 (b.toNat : Int)]] w (RetT w) := by
    have HCC := Lib.hid hc
    have HZ : Hid (text.size ≤ 140737488355328) := by show _ ≤ _; omega
    have hz := ccE_zero hc
    have hbk := ccBack key.toList nonce.toList aad.toList text.toList m (by rw [tl_size, tl_size, tl_size, tl_size]; exact hc)
    have hbd : text.size ≤ 70000 ∧ m ≤ 16 ∧ key.size ≤ 32 ∧ nonce.size ≤ 13 ∧ aad.size ≤ 70000 := by omega
    have HBK := Lib.hid hbk
    have HBD := Lib.hid hbd
    have k0 : (f == 0) = false := by rw [beq_eq_false_iff_ne]; omega
    have k1 : (f == 1) = true := by rw [beq_iff_eq]; omega
    clear hc hz hbk hf hbd
    go_enter Try.func8, Try.ntmps8
    go_wp2_with fail
    obtain ⟨w0, hw0, hA, hC, hb00, hl0⟩ := two_bx w key nonce aad (m : Int) f a b
    rw [hw0]
    obtain ⟨B, hB⟩ : ∃ B, w.heap.size = B := ⟨_, rfl⟩
    rw [hB] at hA hC hl0 ⊢
    have HB := Lib.hid hB
    have HA0 := Lib.hid hA
    have HC0 := Lib.hid hC
    clear hw0 hB hA hC
    (have hc0 := True.intro; have hc1 := True.intro; have hc2 := True.intro; have hc3 := True.intro; have hf0 := True.intro; have hf1 := True.intro; have hf2 := True.intro; have hd0 := True.intro; have hd1 := True.intro; have hd2 := True.intro
     refine (wakes10_any _).mono ?_
     rintro e w1 ⟨rfl, hb1⟩
     have HA1 := Lib.hid (HA0.out.below hb1 (Nat.lt_of_succ_lt hl0))
     have HC1 := Lib.hid (HC0.out.below hb1 hl0)
     have hl1 : B + 1 < w1.heap.size := Nat.lt_of_lt_of_le hl0 hb1.size
     have hb01 := below2 hb00 hb1
     clear hc0 hc1 hc2 hc3 hf0 hf1 hf2 hd0 hd1 hd2 hb00 hb1 hl0 HA0 HC0
     obtain ⟨⟨hc0, hc1, hc2, hc3⟩, ⟨hf0, hf1, hf2⟩⟩ := bxc_cells HA1.out
     obtain ⟨hd0, hd1, hd2⟩ := chc_cells HC1.out
     go_wp2_with fail
     refine (ccSeal_any key nonce aad text (m : Int) _ HZ.out).mono ?_
     rintro e w2 ⟨x, rfl, hx, hb2⟩
     rw [HCC.out]
     have hxs : x.size = text.size + m := by rw [← tl_size, hx, HBK.out.1, tl_size]
     have HXS := Lib.hid hxs
     clear hx hxs
     have HA2 := Lib.hid (HA1.out.below hb2 (Nat.lt_of_succ_lt hl1))
     have HC2 := Lib.hid (HC1.out.below hb2 hl1)
     have hl2 : B + 1 < w2.heap.size := Nat.lt_of_lt_of_le hl1 hb2.size
     have hb02 := below2 hb01 hb2
     clear hc0 hc1 hc2 hc3 hf0 hf1 hf2 hd0 hd1 hd2 hb01 hb2 hl1 HA1 HC1
     obtain ⟨⟨hc0, hc1, hc2, hc3⟩, ⟨hf0, hf1, hf2⟩⟩ := bxc_cells HA2.out
     obtain ⟨hd0, hd1, hd2⟩ := chc_cells HC2.out
     go_wp2_with fail
     refine (bxlong_any key nonce aad text (m : Int) _).mono ?_
     rintro e w3 ⟨bl, rfl, hb3⟩
     have HA3 := Lib.hid (HA2.out.below hb3 (Nat.lt_of_succ_lt hl2))
     have HC3 := Lib.hid (HC2.out.below hb3 hl2)
     have hl3 : B + 1 < w3.heap.size := Nat.lt_of_lt_of_le hl2 hb3.size
     have hb03 := below2 hb02 hb3
     clear hc0 hc1 hc2 hc3 hf0 hf1 hf2 hd0 hd1 hd2 hb02 hb3 hl2 HA2 HC2
     obtain ⟨⟨hc0, hc1, hc2, hc3⟩, ⟨hf0, hf1, hf2⟩⟩ := bxc_cells HA3.out
     obtain ⟨hd0, hd1, hd2⟩ := chc_cells HC3.out
     cases bl
     · go_wp2_with fail
       refine (turned_any nonce f a b _ (by have := HBD.out; have := HXS.out; omega)).mono ?_
       rintro e w4 ⟨y, rfl, hy, hb4⟩
       have HY := Lib.hid hy
       clear hy
       have HA4 := Lib.hid (HA3.out.below hb4 (Nat.lt_of_succ_lt hl3))
       have HC4 := Lib.hid (HC3.out.below hb4 hl3)
       have hl4 : B + 1 < w4.heap.size := Nat.lt_of_lt_of_le hl3 hb4.size
       have hb04 := below2 hb03 hb4
       clear hc0 hc1 hc2 hc3 hf0 hf1 hf2 hd0 hd1 hd2 hb03 hb4 hl3 HA3 HC3
       obtain ⟨⟨hc0, hc1, hc2, hc3⟩, ⟨hf0, hf1, hf2⟩⟩ := bxc_cells HA4.out
       obtain ⟨hd0, hd1, hd2⟩ := chc_cells HC4.out
       have hA4 := HA4.out
       have hC4 := HC4.out
       have hA5 := hA4.set 1 (.string y)
       rw [Nat.zero_add] at hA5
       have hA5' : At (w4.setCell ⟨B, 1, none⟩ (.string y)) B 0 (bxc key y aad (m : Int)) := hA5
       have hC5 : At (w4.setCell ⟨B, 1, none⟩ (.string y)) (B + 1) 0 (chc f a b) := hC4.other B 1 (.string y) (.inl (by omega))
       have hb05 : Below w.heap.size w (w4.setCell ⟨B, 1, none⟩ (.string y)) := hb04.setCell (p := ⟨B, 1, none⟩) (by rw [HB.out]; exact Nat.le_refl _) _
       have hl5 : B + 1 < (w4.setCell ⟨B, 1, none⟩ (.string y)).heap.size := by simpa using hl4
       have HA5 := Lib.hid hA5'
       have HC5 := Lib.hid hC5
       have HL5 := Lib.hid hl5
       clear hA4 hC4 hA5 hA5' hC5 hl5
       go_wp2_with fail
       clear hc0 hc1 hc2 hc3 hf0 hf1 hf2 hd0 hd1 hd2 hb04 hl4 HA4 HC4
       generalize w4.setCell ⟨B, 1, none⟩ (.string y) = w5 at *
       have hl5 := HL5.out
       obtain ⟨⟨hc0, hc1, hc2, hc3⟩, ⟨hf0, hf1, hf2⟩⟩ := bxc_cells HA5.out
       obtain ⟨hd0, hd1, hd2⟩ := chc_cells HC5.out
       have hsz : key.size = key.size ∧ y.size = nonce.size ∧ aad.size = aad.size ∧ x.size = text.size + m := ⟨by first | rfl | exact HY.out, by first | rfl | exact HY.out, by first | rfl | exact HY.out, by first | exact HXS.out | (rw [HY.out, HXS.out])⟩
       have hE0 : ccE key.toList.length y.toList.length aad.toList.length (m : Int) ((x.toList.length : Int) - (m : Int)) = 0 := by
         rw [tl_size, tl_size, tl_size, tl_size, hsz.1, hsz.2.1, hsz.2.2.1, hsz.2.2.2, show ((text.size + m : Nat) : Int) - (m : Int) = (text.size : Int) by omega]
         exact HCC.out
       have hch := ccChg key.toList y.toList aad.toList x.toList m hE0
       have hXz : x.size ≤ 140737488355328 := by have := HBD.out; omega
       obtain ⟨d, hd⟩ : ∃ d, ccOpenE key.toList y.toList aad.toList x.toList (m : Int) = d := ⟨_, rfl⟩
       rw [hd] at hch
       have HD := Lib.hid hd
       have HCH := Lib.hid hch
       have HSZ := Lib.hid hsz
       have HXZ := Lib.hid hXz
       clear hsz hE0 hch hXz hd
       refine (rccOpen_any key y aad x (m : Int) _ HXZ.out).mono ?_
       rintro e w6 ⟨t1, rfl, ht1, hb6⟩
       rw [HD.out]
       have HT1 := Lib.hid ht1
       clear ht1
       have HA6 := Lib.hid (HA5.out.below hb6 (Nat.lt_of_succ_lt hl5))
       have HC6 := Lib.hid (HC5.out.below hb6 hl5)
       have hl6 : B + 1 < w6.heap.size := Nat.lt_of_lt_of_le hl5 hb6.size
       have hb06 := below2 hb05 hb6
       clear hc0 hc1 hc2 hc3 hf0 hf1 hf2 hd0 hd1 hd2 hb05 hb6 hl5 HA5 HC5
       obtain ⟨⟨hc0, hc1, hc2, hc3⟩, ⟨hf0, hf1, hf2⟩⟩ := bxc_cells HA6.out
       obtain ⟨hd0, hd1, hd2⟩ := chc_cells HC6.out
       go_wp2_with fail
       refine (ccOpen_any key y aad x (m : Int) _ HXZ.out).mono ?_
       rintro e w7 ⟨t2, rfl, ht2, hb7⟩
       rw [HD.out]
       obtain rfl : t1 = t2 := tl_inj (by rw [HT1.out, ht2])
       clear ht2
       have HA7 := Lib.hid (HA6.out.below hb7 (Nat.lt_of_succ_lt hl6))
       have HC7 := Lib.hid (HC6.out.below hb7 hl6)
       have hl7 : B + 1 < w7.heap.size := Nat.lt_of_lt_of_le hl6 hb7.size
       have hb07 := below2 hb06 hb7
       clear hc0 hc1 hc2 hc3 hf0 hf1 hf2 hd0 hd1 hd2 hb06 hb7 hl6 HA6 HC6
       obtain ⟨⟨hc0, hc1, hc2, hc3⟩, ⟨hf0, hf1, hf2⟩⟩ := bxc_cells HA7.out
       obtain ⟨hd0, hd1, hd2⟩ := chc_cells HC7.out
       have ht1z : t1.size ≤ 140737488355328 := by
         rw [← tl_size, HT1.out, ccOpenL]
         split
         · rw [ccOp, ccJoin, ctrL_length, List.length_take, tl_size]; have := HXZ.out; omega
         · simp
       go_wp2_with fail
       refine (ccTag_any key y aad t1 (m : Int) _ ht1z).mono ?_
       rintro e w8 ⟨tg, rfl, htg, hb8⟩
       have HTG := Lib.hid htg
       clear htg ht1z
       have HA8 := Lib.hid (HA7.out.below hb8 (Nat.lt_of_succ_lt hl7))
       have HC8 := Lib.hid (HC7.out.below hb8 hl7)
       have hl8 : B + 1 < w8.heap.size := Nat.lt_of_lt_of_le hl7 hb8.size
       have hb08 := below2 hb07 hb8
       clear hc0 hc1 hc2 hc3 hf0 hf1 hf2 hd0 hd1 hd2 hb07 hb8 hl7 HA7 HC7
       obtain ⟨⟨hc0, hc1, hc2, hc3⟩, ⟨hf0, hf1, hf2⟩⟩ := bxc_cells HA8.out
       obtain ⟨hd0, hd1, hd2⟩ := chc_cells HC8.out
       rcases HCH.out with ⟨rfl, hL⟩ | ⟨rfl, hT, hE2⟩
       · obtain rfl := emptyB (HT1.out.trans hL)
         obtain ⟨h, hh⟩ : ∃ h, ccE key.size y.size aad.size (m : Int) ((ByteArray.mk #[]).size : Int) = h := ⟨_, rfl⟩
         rw [hh]
         clear hL hh
         go_wp2_with fail
         go_ret
         exact ⟨rfl, hb08⟩
       · have hE3 : ccE key.size y.size aad.size (m : Int) (t1.size : Int) = 0 := by
           have h := hE2
           rw [← HT1.out, tl_size, tl_size, tl_size, tl_size] at h
           exact h
         rw [hE3]
         obtain ⟨o, ho⟩ : ∃ o, o = x.size - m := ⟨_, rfl⟩
         have q1 : (x.size : Int) - (m : Int) = (o : Int) := by have := HSZ.out.2.2.2; omega
         have q2 : IntKind.i64.wrap (o : Int) = (o : Int) := wrap_in _ (by omega) (by have := HXZ.out; omega)
         have q3 : (0 : Int) ≤ (o : Int) := by omega
         have q4 : (o : Int) ≤ (x.size : Int) := by omega
         have q5 : o ≤ x.size := by omega
         obtain ⟨z, hz⟩ : ∃ z, x.extract o x.size = z := ⟨_, rfl⟩
         have hzt : z = tg := tl_inj (by rw [← hz, tl_extE _ _ _ rfl, HTG.out, HT1.out, hT, tl_size, ho])
         subst hzt
         clear hE3 hT hE2 ho
         go_wp2_with fail
         go_ret
         exact ⟨rfl, hb08⟩
     · clear hc0 hc1 hc2 hc3 hf0 hf1 hf2 hd0 hd1 hd2
       go_wp2_with fail
       go_ret
       exact ⟨rfl, hb03⟩)
set_option maxRecDepth 100000 in
set_option maxHeartbeats 3200000 in
theorem chg_2 (key nonce aad : ByteArray) (m : Nat) (text : ByteArray) (f a : Int) (b : UInt8) (zt : text.size ≤ 140737488351232) (w : World) (hc : ccE key.size nonce.size aad.size (m : Int) (text.size : Int) = 0) (hf : f = 2) : Calls Try.prog 8 #[.agg #[.string key, .string nonce, .string aad, .int .i64 (m : Int)], .string text, .agg #[.int .i64 f, .int .i64 a, .int .u8 (b.toNat : Int)]] w (RetT w) := by
    have HCC := Lib.hid hc
    have HZ : Hid (text.size ≤ 140737488355328) := by show _ ≤ _; omega
    have hz := ccE_zero hc
    have hbk := ccBack key.toList nonce.toList aad.toList text.toList m (by rw [tl_size, tl_size, tl_size, tl_size]; exact hc)
    have hbd : text.size ≤ 70000 ∧ m ≤ 16 ∧ key.size ≤ 32 ∧ nonce.size ≤ 13 ∧ aad.size ≤ 70000 := by omega
    have HBK := Lib.hid hbk
    have HBD := Lib.hid hbd
    have k0 : (f == 0) = false := by rw [beq_eq_false_iff_ne]; omega
    have k1 : (f == 1) = false := by rw [beq_eq_false_iff_ne]; omega
    have k2 : (f == 2) = true := by rw [beq_iff_eq]; omega
    clear hc hz hbk hf hbd
    go_enter Try.func8, Try.ntmps8
    go_wp2_with fail
    obtain ⟨w0, hw0, hA, hC, hb00, hl0⟩ := two_bx w key nonce aad (m : Int) f a b
    rw [hw0]
    obtain ⟨B, hB⟩ : ∃ B, w.heap.size = B := ⟨_, rfl⟩
    rw [hB] at hA hC hl0 ⊢
    have HB := Lib.hid hB
    have HA0 := Lib.hid hA
    have HC0 := Lib.hid hC
    clear hw0 hB hA hC
    (have hc0 := True.intro; have hc1 := True.intro; have hc2 := True.intro; have hc3 := True.intro; have hf0 := True.intro; have hf1 := True.intro; have hf2 := True.intro; have hd0 := True.intro; have hd1 := True.intro; have hd2 := True.intro
     refine (wakes10_any _).mono ?_
     rintro e w1 ⟨rfl, hb1⟩
     have HA1 := Lib.hid (HA0.out.below hb1 (Nat.lt_of_succ_lt hl0))
     have HC1 := Lib.hid (HC0.out.below hb1 hl0)
     have hl1 : B + 1 < w1.heap.size := Nat.lt_of_lt_of_le hl0 hb1.size
     have hb01 := below2 hb00 hb1
     clear hc0 hc1 hc2 hc3 hf0 hf1 hf2 hd0 hd1 hd2 hb00 hb1 hl0 HA0 HC0
     obtain ⟨⟨hc0, hc1, hc2, hc3⟩, ⟨hf0, hf1, hf2⟩⟩ := bxc_cells HA1.out
     obtain ⟨hd0, hd1, hd2⟩ := chc_cells HC1.out
     go_wp2_with fail
     refine (ccSeal_any key nonce aad text (m : Int) _ HZ.out).mono ?_
     rintro e w2 ⟨x, rfl, hx, hb2⟩
     rw [HCC.out]
     have hxs : x.size = text.size + m := by rw [← tl_size, hx, HBK.out.1, tl_size]
     have HXS := Lib.hid hxs
     clear hx hxs
     have HA2 := Lib.hid (HA1.out.below hb2 (Nat.lt_of_succ_lt hl1))
     have HC2 := Lib.hid (HC1.out.below hb2 hl1)
     have hl2 : B + 1 < w2.heap.size := Nat.lt_of_lt_of_le hl1 hb2.size
     have hb02 := below2 hb01 hb2
     clear hc0 hc1 hc2 hc3 hf0 hf1 hf2 hd0 hd1 hd2 hb01 hb2 hl1 HA1 HC1
     obtain ⟨⟨hc0, hc1, hc2, hc3⟩, ⟨hf0, hf1, hf2⟩⟩ := bxc_cells HA2.out
     obtain ⟨hd0, hd1, hd2⟩ := chc_cells HC2.out
     go_wp2_with fail
     refine (bxlong_any key nonce aad text (m : Int) _).mono ?_
     rintro e w3 ⟨bl, rfl, hb3⟩
     have HA3 := Lib.hid (HA2.out.below hb3 (Nat.lt_of_succ_lt hl2))
     have HC3 := Lib.hid (HC2.out.below hb3 hl2)
     have hl3 : B + 1 < w3.heap.size := Nat.lt_of_lt_of_le hl2 hb3.size
     have hb03 := below2 hb02 hb3
     clear hc0 hc1 hc2 hc3 hf0 hf1 hf2 hd0 hd1 hd2 hb02 hb3 hl2 HA2 HC2
     obtain ⟨⟨hc0, hc1, hc2, hc3⟩, ⟨hf0, hf1, hf2⟩⟩ := bxc_cells HA3.out
     obtain ⟨hd0, hd1, hd2⟩ := chc_cells HC3.out
     cases bl
     · go_wp2_with fail
       refine (turned_any aad f a b _ (by have := HBD.out; have := HXS.out; omega)).mono ?_
       rintro e w4 ⟨y, rfl, hy, hb4⟩
       have HY := Lib.hid hy
       clear hy
       have HA4 := Lib.hid (HA3.out.below hb4 (Nat.lt_of_succ_lt hl3))
       have HC4 := Lib.hid (HC3.out.below hb4 hl3)
       have hl4 : B + 1 < w4.heap.size := Nat.lt_of_lt_of_le hl3 hb4.size
       have hb04 := below2 hb03 hb4
       clear hc0 hc1 hc2 hc3 hf0 hf1 hf2 hd0 hd1 hd2 hb03 hb4 hl3 HA3 HC3
       obtain ⟨⟨hc0, hc1, hc2, hc3⟩, ⟨hf0, hf1, hf2⟩⟩ := bxc_cells HA4.out
       obtain ⟨hd0, hd1, hd2⟩ := chc_cells HC4.out
       have hA4 := HA4.out
       have hC4 := HC4.out
       have hA5 := hA4.set 2 (.string y)
       rw [Nat.zero_add] at hA5
       have hA5' : At (w4.setCell ⟨B, 2, none⟩ (.string y)) B 0 (bxc key nonce y (m : Int)) := hA5
       have hC5 : At (w4.setCell ⟨B, 2, none⟩ (.string y)) (B + 1) 0 (chc f a b) := hC4.other B 2 (.string y) (.inl (by omega))
       have hb05 : Below w.heap.size w (w4.setCell ⟨B, 2, none⟩ (.string y)) := hb04.setCell (p := ⟨B, 2, none⟩) (by rw [HB.out]; exact Nat.le_refl _) _
       have hl5 : B + 1 < (w4.setCell ⟨B, 2, none⟩ (.string y)).heap.size := by simpa using hl4
       have HA5 := Lib.hid hA5'
       have HC5 := Lib.hid hC5
       have HL5 := Lib.hid hl5
       clear hA4 hC4 hA5 hA5' hC5 hl5
       go_wp2_with fail
       clear hc0 hc1 hc2 hc3 hf0 hf1 hf2 hd0 hd1 hd2 hb04 hl4 HA4 HC4
       generalize w4.setCell ⟨B, 2, none⟩ (.string y) = w5 at *
       have hl5 := HL5.out
       obtain ⟨⟨hc0, hc1, hc2, hc3⟩, ⟨hf0, hf1, hf2⟩⟩ := bxc_cells HA5.out
       obtain ⟨hd0, hd1, hd2⟩ := chc_cells HC5.out
       have hsz : key.size = key.size ∧ nonce.size = nonce.size ∧ y.size = aad.size ∧ x.size = text.size + m := ⟨by first | rfl | exact HY.out, by first | rfl | exact HY.out, by first | rfl | exact HY.out, by first | exact HXS.out | (rw [HY.out, HXS.out])⟩
       have hE0 : ccE key.toList.length nonce.toList.length y.toList.length (m : Int) ((x.toList.length : Int) - (m : Int)) = 0 := by
         rw [tl_size, tl_size, tl_size, tl_size, hsz.1, hsz.2.1, hsz.2.2.1, hsz.2.2.2, show ((text.size + m : Nat) : Int) - (m : Int) = (text.size : Int) by omega]
         exact HCC.out
       have hch := ccChg key.toList nonce.toList y.toList x.toList m hE0
       have hXz : x.size ≤ 140737488355328 := by have := HBD.out; omega
       obtain ⟨d, hd⟩ : ∃ d, ccOpenE key.toList nonce.toList y.toList x.toList (m : Int) = d := ⟨_, rfl⟩
       rw [hd] at hch
       have HD := Lib.hid hd
       have HCH := Lib.hid hch
       have HSZ := Lib.hid hsz
       have HXZ := Lib.hid hXz
       clear hsz hE0 hch hXz hd
       refine (rccOpen_any key nonce y x (m : Int) _ HXZ.out).mono ?_
       rintro e w6 ⟨t1, rfl, ht1, hb6⟩
       rw [HD.out]
       have HT1 := Lib.hid ht1
       clear ht1
       have HA6 := Lib.hid (HA5.out.below hb6 (Nat.lt_of_succ_lt hl5))
       have HC6 := Lib.hid (HC5.out.below hb6 hl5)
       have hl6 : B + 1 < w6.heap.size := Nat.lt_of_lt_of_le hl5 hb6.size
       have hb06 := below2 hb05 hb6
       clear hc0 hc1 hc2 hc3 hf0 hf1 hf2 hd0 hd1 hd2 hb05 hb6 hl5 HA5 HC5
       obtain ⟨⟨hc0, hc1, hc2, hc3⟩, ⟨hf0, hf1, hf2⟩⟩ := bxc_cells HA6.out
       obtain ⟨hd0, hd1, hd2⟩ := chc_cells HC6.out
       go_wp2_with fail
       refine (ccOpen_any key nonce y x (m : Int) _ HXZ.out).mono ?_
       rintro e w7 ⟨t2, rfl, ht2, hb7⟩
       rw [HD.out]
       obtain rfl : t1 = t2 := tl_inj (by rw [HT1.out, ht2])
       clear ht2
       have HA7 := Lib.hid (HA6.out.below hb7 (Nat.lt_of_succ_lt hl6))
       have HC7 := Lib.hid (HC6.out.below hb7 hl6)
       have hl7 : B + 1 < w7.heap.size := Nat.lt_of_lt_of_le hl6 hb7.size
       have hb07 := below2 hb06 hb7
       clear hc0 hc1 hc2 hc3 hf0 hf1 hf2 hd0 hd1 hd2 hb06 hb7 hl6 HA6 HC6
       obtain ⟨⟨hc0, hc1, hc2, hc3⟩, ⟨hf0, hf1, hf2⟩⟩ := bxc_cells HA7.out
       obtain ⟨hd0, hd1, hd2⟩ := chc_cells HC7.out
       have ht1z : t1.size ≤ 140737488355328 := by
         rw [← tl_size, HT1.out, ccOpenL]
         split
         · rw [ccOp, ccJoin, ctrL_length, List.length_take, tl_size]; have := HXZ.out; omega
         · simp
       go_wp2_with fail
       refine (ccTag_any key nonce y t1 (m : Int) _ ht1z).mono ?_
       rintro e w8 ⟨tg, rfl, htg, hb8⟩
       have HTG := Lib.hid htg
       clear htg ht1z
       have HA8 := Lib.hid (HA7.out.below hb8 (Nat.lt_of_succ_lt hl7))
       have HC8 := Lib.hid (HC7.out.below hb8 hl7)
       have hl8 : B + 1 < w8.heap.size := Nat.lt_of_lt_of_le hl7 hb8.size
       have hb08 := below2 hb07 hb8
       clear hc0 hc1 hc2 hc3 hf0 hf1 hf2 hd0 hd1 hd2 hb07 hb8 hl7 HA7 HC7
       obtain ⟨⟨hc0, hc1, hc2, hc3⟩, ⟨hf0, hf1, hf2⟩⟩ := bxc_cells HA8.out
       obtain ⟨hd0, hd1, hd2⟩ := chc_cells HC8.out
       rcases HCH.out with ⟨rfl, hL⟩ | ⟨rfl, hT, hE2⟩
       · obtain rfl := emptyB (HT1.out.trans hL)
         obtain ⟨h, hh⟩ : ∃ h, ccE key.size nonce.size y.size (m : Int) ((ByteArray.mk #[]).size : Int) = h := ⟨_, rfl⟩
         rw [hh]
         clear hL hh
         go_wp2_with fail
         go_ret
         exact ⟨rfl, hb08⟩
       · have hE3 : ccE key.size nonce.size y.size (m : Int) (t1.size : Int) = 0 := by
           have h := hE2
           rw [← HT1.out, tl_size, tl_size, tl_size, tl_size] at h
           exact h
         rw [hE3]
         obtain ⟨o, ho⟩ : ∃ o, o = x.size - m := ⟨_, rfl⟩
         have q1 : (x.size : Int) - (m : Int) = (o : Int) := by have := HSZ.out.2.2.2; omega
         have q2 : IntKind.i64.wrap (o : Int) = (o : Int) := wrap_in _ (by omega) (by have := HXZ.out; omega)
         have q3 : (0 : Int) ≤ (o : Int) := by omega
         have q4 : (o : Int) ≤ (x.size : Int) := by omega
         have q5 : o ≤ x.size := by omega
         obtain ⟨z, hz⟩ : ∃ z, x.extract o x.size = z := ⟨_, rfl⟩
         have hzt : z = tg := tl_inj (by rw [← hz, tl_extE _ _ _ rfl, HTG.out, HT1.out, hT, tl_size, ho])
         subst hzt
         clear hE3 hT hE2 ho
         go_wp2_with fail
         go_ret
         exact ⟨rfl, hb08⟩
     · clear hc0 hc1 hc2 hc3 hf0 hf1 hf2 hd0 hd1 hd2
       go_wp2_with fail
       go_ret
       exact ⟨rfl, hb03⟩)
set_option maxRecDepth 100000 in
set_option maxHeartbeats 3200000 in
theorem chg_3 (key nonce aad : ByteArray) (m : Nat) (text : ByteArray) (f a : Int) (b : UInt8) (zt : text.size ≤ 140737488351232) (w : World) (hc : ccE key.size nonce.size aad.size (m : Int) (text.size : Int) = 0) (hf : f ≠ 0 ∧ f ≠ 1 ∧ f ≠ 2) : Calls Try.prog 8 #[.agg #[.string key, .string nonce, .string aad, .int .i64 (m : Int)], .string text, .agg #[.int .i64 f, .int .i64 a, .int .u8 (b.toNat : Int)]] w (RetT w) := by
    have HCC := Lib.hid hc
    have HZ : Hid (text.size ≤ 140737488355328) := by show _ ≤ _; omega
    have hz := ccE_zero hc
    have hbk := ccBack key.toList nonce.toList aad.toList text.toList m (by rw [tl_size, tl_size, tl_size, tl_size]; exact hc)
    have hbd : text.size ≤ 70000 ∧ m ≤ 16 ∧ key.size ≤ 32 ∧ nonce.size ≤ 13 ∧ aad.size ≤ 70000 := by omega
    have HBK := Lib.hid hbk
    have HBD := Lib.hid hbd
    have k0 : (f == 0) = false := by rw [beq_eq_false_iff_ne]; omega
    have k1 : (f == 1) = false := by rw [beq_eq_false_iff_ne]; omega
    have k2 : (f == 2) = false := by rw [beq_eq_false_iff_ne]; omega
    clear hc hz hbk hf hbd
    go_enter Try.func8, Try.ntmps8
    go_wp2_with fail
    obtain ⟨w0, hw0, hA, hC, hb00, hl0⟩ := two_bx w key nonce aad (m : Int) f a b
    rw [hw0]
    obtain ⟨B, hB⟩ : ∃ B, w.heap.size = B := ⟨_, rfl⟩
    rw [hB] at hA hC hl0 ⊢
    have HB := Lib.hid hB
    have HA0 := Lib.hid hA
    have HC0 := Lib.hid hC
    clear hw0 hB hA hC
    (have hc0 := True.intro; have hc1 := True.intro; have hc2 := True.intro; have hc3 := True.intro; have hf0 := True.intro; have hf1 := True.intro; have hf2 := True.intro; have hd0 := True.intro; have hd1 := True.intro; have hd2 := True.intro
     refine (wakes10_any _).mono ?_
     rintro e w1 ⟨rfl, hb1⟩
     have HA1 := Lib.hid (HA0.out.below hb1 (Nat.lt_of_succ_lt hl0))
     have HC1 := Lib.hid (HC0.out.below hb1 hl0)
     have hl1 : B + 1 < w1.heap.size := Nat.lt_of_lt_of_le hl0 hb1.size
     have hb01 := below2 hb00 hb1
     clear hc0 hc1 hc2 hc3 hf0 hf1 hf2 hd0 hd1 hd2 hb00 hb1 hl0 HA0 HC0
     obtain ⟨⟨hc0, hc1, hc2, hc3⟩, ⟨hf0, hf1, hf2⟩⟩ := bxc_cells HA1.out
     obtain ⟨hd0, hd1, hd2⟩ := chc_cells HC1.out
     go_wp2_with fail
     refine (ccSeal_any key nonce aad text (m : Int) _ HZ.out).mono ?_
     rintro e w2 ⟨x, rfl, hx, hb2⟩
     rw [HCC.out]
     have hxs : x.size = text.size + m := by rw [← tl_size, hx, HBK.out.1, tl_size]
     have HXS := Lib.hid hxs
     clear hx hxs
     have HA2 := Lib.hid (HA1.out.below hb2 (Nat.lt_of_succ_lt hl1))
     have HC2 := Lib.hid (HC1.out.below hb2 hl1)
     have hl2 : B + 1 < w2.heap.size := Nat.lt_of_lt_of_le hl1 hb2.size
     have hb02 := below2 hb01 hb2
     clear hc0 hc1 hc2 hc3 hf0 hf1 hf2 hd0 hd1 hd2 hb01 hb2 hl1 HA1 HC1
     obtain ⟨⟨hc0, hc1, hc2, hc3⟩, ⟨hf0, hf1, hf2⟩⟩ := bxc_cells HA2.out
     obtain ⟨hd0, hd1, hd2⟩ := chc_cells HC2.out
     go_wp2_with fail
     refine (bxlong_any key nonce aad text (m : Int) _).mono ?_
     rintro e w3 ⟨bl, rfl, hb3⟩
     have HA3 := Lib.hid (HA2.out.below hb3 (Nat.lt_of_succ_lt hl2))
     have HC3 := Lib.hid (HC2.out.below hb3 hl2)
     have hl3 : B + 1 < w3.heap.size := Nat.lt_of_lt_of_le hl2 hb3.size
     have hb03 := below2 hb02 hb3
     clear hc0 hc1 hc2 hc3 hf0 hf1 hf2 hd0 hd1 hd2 hb02 hb3 hl2 HA2 HC2
     obtain ⟨⟨hc0, hc1, hc2, hc3⟩, ⟨hf0, hf1, hf2⟩⟩ := bxc_cells HA3.out
     obtain ⟨hd0, hd1, hd2⟩ := chc_cells HC3.out
     cases bl
     · go_wp2_with fail
       refine (turned_any x f a b _ (by have := HBD.out; have := HXS.out; omega)).mono ?_
       rintro e w4 ⟨y, rfl, hy, hb4⟩
       have HY := Lib.hid hy
       clear hy
       have HA4 := Lib.hid (HA3.out.below hb4 (Nat.lt_of_succ_lt hl3))
       have HC4 := Lib.hid (HC3.out.below hb4 hl3)
       have hl4 : B + 1 < w4.heap.size := Nat.lt_of_lt_of_le hl3 hb4.size
       have hb04 := below2 hb03 hb4
       clear hc0 hc1 hc2 hc3 hf0 hf1 hf2 hd0 hd1 hd2 hb03 hb4 hl3 HA3 HC3
       obtain ⟨⟨hc0, hc1, hc2, hc3⟩, ⟨hf0, hf1, hf2⟩⟩ := bxc_cells HA4.out
       obtain ⟨hd0, hd1, hd2⟩ := chc_cells HC4.out
       have hA4 := HA4.out
       have hC4 := HC4.out
       obtain ⟨w5, rfl⟩ : ∃ w5, w5 = w4 := ⟨_, rfl⟩
       have HA5 := HA4
       have HC5 := HC4
       have hb05 := hb04
       have hl5 := hl4
       clear hA4 hC4 HA4 HC4 hb04 hl4
       go_wp2_with fail
       have hsz : key.size = key.size ∧ nonce.size = nonce.size ∧ aad.size = aad.size ∧ y.size = text.size + m := ⟨by first | rfl | exact HY.out, by first | rfl | exact HY.out, by first | rfl | exact HY.out, by first | exact HXS.out | (rw [HY.out, HXS.out])⟩
       have hE0 : ccE key.toList.length nonce.toList.length aad.toList.length (m : Int) ((y.toList.length : Int) - (m : Int)) = 0 := by
         rw [tl_size, tl_size, tl_size, tl_size, hsz.1, hsz.2.1, hsz.2.2.1, hsz.2.2.2, show ((text.size + m : Nat) : Int) - (m : Int) = (text.size : Int) by omega]
         exact HCC.out
       have hch := ccChg key.toList nonce.toList aad.toList y.toList m hE0
       have hXz : y.size ≤ 140737488355328 := by have := HBD.out; omega
       obtain ⟨d, hd⟩ : ∃ d, ccOpenE key.toList nonce.toList aad.toList y.toList (m : Int) = d := ⟨_, rfl⟩
       rw [hd] at hch
       have HD := Lib.hid hd
       have HCH := Lib.hid hch
       have HSZ := Lib.hid hsz
       have HXZ := Lib.hid hXz
       clear hsz hE0 hch hXz hd
       refine (rccOpen_any key nonce aad y (m : Int) _ HXZ.out).mono ?_
       rintro e w6 ⟨t1, rfl, ht1, hb6⟩
       rw [HD.out]
       have HT1 := Lib.hid ht1
       clear ht1
       have HA6 := Lib.hid (HA5.out.below hb6 (Nat.lt_of_succ_lt hl5))
       have HC6 := Lib.hid (HC5.out.below hb6 hl5)
       have hl6 : B + 1 < w6.heap.size := Nat.lt_of_lt_of_le hl5 hb6.size
       have hb06 := below2 hb05 hb6
       clear hc0 hc1 hc2 hc3 hf0 hf1 hf2 hd0 hd1 hd2 hb05 hb6 hl5 HA5 HC5
       obtain ⟨⟨hc0, hc1, hc2, hc3⟩, ⟨hf0, hf1, hf2⟩⟩ := bxc_cells HA6.out
       obtain ⟨hd0, hd1, hd2⟩ := chc_cells HC6.out
       go_wp2_with fail
       refine (ccOpen_any key nonce aad y (m : Int) _ HXZ.out).mono ?_
       rintro e w7 ⟨t2, rfl, ht2, hb7⟩
       rw [HD.out]
       obtain rfl : t1 = t2 := tl_inj (by rw [HT1.out, ht2])
       clear ht2
       have HA7 := Lib.hid (HA6.out.below hb7 (Nat.lt_of_succ_lt hl6))
       have HC7 := Lib.hid (HC6.out.below hb7 hl6)
       have hl7 : B + 1 < w7.heap.size := Nat.lt_of_lt_of_le hl6 hb7.size
       have hb07 := below2 hb06 hb7
       clear hc0 hc1 hc2 hc3 hf0 hf1 hf2 hd0 hd1 hd2 hb06 hb7 hl6 HA6 HC6
       obtain ⟨⟨hc0, hc1, hc2, hc3⟩, ⟨hf0, hf1, hf2⟩⟩ := bxc_cells HA7.out
       obtain ⟨hd0, hd1, hd2⟩ := chc_cells HC7.out
       have ht1z : t1.size ≤ 140737488355328 := by
         rw [← tl_size, HT1.out, ccOpenL]
         split
         · rw [ccOp, ccJoin, ctrL_length, List.length_take, tl_size]; have := HXZ.out; omega
         · simp
       go_wp2_with fail
       refine (ccTag_any key nonce aad t1 (m : Int) _ ht1z).mono ?_
       rintro e w8 ⟨tg, rfl, htg, hb8⟩
       have HTG := Lib.hid htg
       clear htg ht1z
       have HA8 := Lib.hid (HA7.out.below hb8 (Nat.lt_of_succ_lt hl7))
       have HC8 := Lib.hid (HC7.out.below hb8 hl7)
       have hl8 : B + 1 < w8.heap.size := Nat.lt_of_lt_of_le hl7 hb8.size
       have hb08 := below2 hb07 hb8
       clear hc0 hc1 hc2 hc3 hf0 hf1 hf2 hd0 hd1 hd2 hb07 hb8 hl7 HA7 HC7
       obtain ⟨⟨hc0, hc1, hc2, hc3⟩, ⟨hf0, hf1, hf2⟩⟩ := bxc_cells HA8.out
       obtain ⟨hd0, hd1, hd2⟩ := chc_cells HC8.out
       rcases HCH.out with ⟨rfl, hL⟩ | ⟨rfl, hT, hE2⟩
       · obtain rfl := emptyB (HT1.out.trans hL)
         obtain ⟨h, hh⟩ : ∃ h, ccE key.size nonce.size aad.size (m : Int) ((ByteArray.mk #[]).size : Int) = h := ⟨_, rfl⟩
         rw [hh]
         clear hL hh
         go_wp2_with fail
         go_ret
         exact ⟨rfl, hb08⟩
       · have hE3 : ccE key.size nonce.size aad.size (m : Int) (t1.size : Int) = 0 := by
           have h := hE2
           rw [← HT1.out, tl_size, tl_size, tl_size, tl_size] at h
           exact h
         rw [hE3]
         obtain ⟨o, ho⟩ : ∃ o, o = y.size - m := ⟨_, rfl⟩
         have q1 : (y.size : Int) - (m : Int) = (o : Int) := by have := HSZ.out.2.2.2; omega
         have q2 : IntKind.i64.wrap (o : Int) = (o : Int) := wrap_in _ (by omega) (by have := HXZ.out; omega)
         have q3 : (0 : Int) ≤ (o : Int) := by omega
         have q4 : (o : Int) ≤ (y.size : Int) := by omega
         have q5 : o ≤ y.size := by omega
         obtain ⟨z, hz⟩ : ∃ z, y.extract o y.size = z := ⟨_, rfl⟩
         have hzt : z = tg := tl_inj (by rw [← hz, tl_extE _ _ _ rfl, HTG.out, HT1.out, hT, tl_size, ho])
         subst hzt
         clear hE3 hT hE2 ho
         go_wp2_with fail
         go_ret
         exact ⟨rfl, hb08⟩
     · clear hc0 hc1 hc2 hc3 hf0 hf1 hf2 hd0 hd1 hd2
       go_wp2_with fail
       go_ret
       exact ⟨rfl, hb03⟩)
theorem ccmChanged_walk (key nonce aad : ByteArray) (s : Int) (text : ByteArray) (f a b : Int) (hb : (Lit.int .u8 b).wf = true) (zt : text.size ≤ 140737488351232) (w : World) : Calls Try.prog 8 #[.agg #[.string key, .string nonce, .string aad, .int .i64 s], .string text, .agg #[.int .i64 f, .int .i64 a, .int .u8 b]] w (RetT w) := by
  obtain ⟨u, rfl⟩ : ∃ u : UInt8, b = (u.toNat : Int) := by
    have h : 0 ≤ b ∧ b ≤ 255 := by
      have h1 : IntKind.u8.min = 0 := rfl
      have h2 : IntKind.u8.max = 255 := rfl
      simp only [Lit.wf, Bool.and_eq_true, decide_eq_true_eq] at hb
      omega
    exact ⟨UInt8.ofNat b.toNat, by simp; omega⟩
  obtain ⟨c, hc⟩ : ∃ c, ccE key.size nonce.size aad.size s (text.size : Int) = c := ⟨_, rfl⟩
  by_cases h0 : c = 0
  · rw [h0] at hc
    have hz := ccE_zero hc
    obtain ⟨m, rfl⟩ := Int.eq_ofNat_of_zero_le (a := s) (by omega)
    by_cases h1 : f = 0
    · exact chg_0 key nonce aad m text f a u zt w hc h1
    · by_cases h2 : f = 1
      · exact chg_1 key nonce aad m text f a u zt w hc h2
      · by_cases h3 : f = 2
        · exact chg_2 key nonce aad m text f a u zt w hc h3
        · exact chg_3 key nonce aad m text f a u zt w hc ⟨h1, h2, h3⟩
  · exact chg_no key nonce aad s text f a u zt w c hc h0
end Go.Proofs.Ythaajaajhddhdaa
