/- The contract of begin: the program's. -/
import Derived.Test.YtflofbimecnakaaGreatGiB
import Derived.Test.YtflofbimecnakaaGreatAesQb
namespace Go.Proofs.YtflofbimecnakaaGreat
open Go.RowKit
set_option linter.unusedVariables false
set_option linter.unusedSimpArgs false
def RetZg (c : Int) (w : World) (e : Ending) (w' : World) : Prop := e = .returned (.tuple #[.agg #[.string (ByteArray.mk #[]), .pointer none, .string (ByteArray.mk #[]), .string (ByteArray.mk #[]), .int .i64 0], .int .i64 c]) ∧ Below w.heap.size w w'
section
variable [Inhabited Gh.Tw]
/-- what the program makes of a key and an IV -/
def RetBgG (K V : ByteArray) (m : Nat) (w : World) (e : Ending) (w' : World) : Prop := ∃ (g : Nat) (H f : ByteArray), w.heap.size ≤ g ∧ e = .returned (.tuple #[.agg #[.string K, .pointer (some ⟨g, 0, none⟩), .string H, .string f, .int .i64 (m : Int)], .int .i64 0]) ∧ H.toList = gcH K.toList ∧ f.toList = gcFirst K.toList V.toList ∧ Ciq w' g K.toList ∧ Below w.heap.size w w'
end
theorem info5c (a b c d e : Value) : (Tryz.prog.info? 80).map (·.size) = some ([a, b, c, d, e] : List Value).length := by kernel_rfl
theorem five {w : World} {g : Nat} {a b c d e : Value} (h : At w g 0 [a, b, c, d, e]) :
    w.cell? ⟨g, 0, none⟩ = some a ∧ w.cell? ⟨g, 1, none⟩ = some b ∧ w.cell? ⟨g, 2, none⟩ = some c ∧ w.cell? ⟨g, 3, none⟩ = some d ∧ w.cell? ⟨g, 4, none⟩ = some e :=
  ⟨h.cell 0 _ rfl, h.cell 1 _ rfl, h.cell 2 _ rfl, h.cell 3 _ rfl, h.cell 4 _ rfl⟩
theorem fiveF {w : World} {g : Nat} {a b c d e : Value} (h : At w g 0 [a, b, c, d, e]) :
    w.frozen? ⟨g, 0, none⟩ = false ∧ w.frozen? ⟨g, 1, none⟩ = false ∧ w.frozen? ⟨g, 2, none⟩ = false ∧ w.frozen? ⟨g, 3, none⟩ = false ∧ w.frozen? ⟨g, 4, none⟩ = false := by
  have h0 := h.froz 0 (by simp)
  have h1 := h.froz 1 (by simp)
  have h2 := h.froz 2 (by simp)
  have h3 := h.froz 3 (by simp)
  have h4 := h.froz 4 (by simp)
  rw [Nat.zero_add] at h0 h1 h2 h3 h4
  exact ⟨h0, h1, h2, h3, h4⟩
theorem fiveS {w : World} {g : Nat} {a b c d e : Value} (h : At w g 0 [a, b, c, d, e]) (a' b' c' d' e' : Value) : At (((((w.setCell ⟨g, 0, none⟩ a').setCell ⟨g, 1, none⟩ b').setCell ⟨g, 2, none⟩ c').setCell ⟨g, 3, none⟩ d').setCell ⟨g, 4, none⟩ e') g 0 [a', b', c', d', e'] := by
  have h5 := ((((h.set 0 a').set 1 b').set 2 c').set 3 d').set 4 e'
  rw [Nat.zero_add, Nat.zero_add, Nat.zero_add, Nat.zero_add, Nat.zero_add] at h5
  exact h5
theorem fiveB {w0 w : World} {B g : Nat} (h : Below B w0 w) (hg : B ≤ g) (a' b' c' d' e' : Value) : Below B w0 (((((w.setCell ⟨g, 0, none⟩ a').setCell ⟨g, 1, none⟩ b').setCell ⟨g, 2, none⟩ c').setCell ⟨g, 3, none⟩ d').setCell ⟨g, 4, none⟩ e') :=
  ((((h.setCell (p := ⟨g, 0, none⟩) hg a').setCell (p := ⟨g, 1, none⟩) hg b').setCell (p := ⟨g, 2, none⟩) hg c').setCell (p := ⟨g, 3, none⟩) hg d').setCell (p := ⟨g, 4, none⟩) hg e'
theorem fiveO {w : World} {g b o : Nat} {cs : List Value} (h : At w g o cs) (hb : b ≠ g) (a' b' c' d' e' : Value) : At (((((w.setCell ⟨b, 0, none⟩ a').setCell ⟨b, 1, none⟩ b').setCell ⟨b, 2, none⟩ c').setCell ⟨b, 3, none⟩ d').setCell ⟨b, 4, none⟩ e') g o cs :=
  ((((h.other b 0 a' (.inl hb)).other b 1 b' (.inl hb)).other b 2 c' (.inl hb)).other b 3 d' (.inl hb)).other b 4 e' (.inl hb)
theorem Ciq.apart {w : World} {g b : Nat} {K : List UInt8} {s : ByteArray} (h : Ciq w g K) (hA : w.cell? ⟨b, 0, none⟩ = some (.string s)) : ∀ gw, At w gw 0 (wcells (expW K)) → b ≠ gw := fun gw hW he => by
  subst he
  have hl : 0 < (expW K).length := by have := expW_length K; rw [this]; omega
  have := hW.cell 0 _ (wcells_get _ 0 hl)
  rw [Nat.zero_add, hA] at this
  cases this
theorem Ciq.five {w : World} {g b : Nat} {K : List UInt8} {s : ByteArray} (h : Ciq w g K) (hb : b ≠ g) (hA : w.cell? ⟨b, 0, none⟩ = some (.string s)) (a' b' c' d' e' : Value) : Ciq (((((w.setCell ⟨b, 0, none⟩ a').setCell ⟨b, 1, none⟩ b').setCell ⟨b, 2, none⟩ c').setCell ⟨b, 3, none⟩ d').setCell ⟨b, 4, none⟩ e') g K := by
  have hn := h.apart hA
  obtain ⟨⟨gw, cap, hlt, h0, h1, h2, h3⟩, hf, hk⟩ := h
  refine ⟨⟨gw, cap, hlt, fiveO h0 hb _ _ _ _ _, fiveO h1 (hn gw h1) _ _ _ _ _, fiveO h2 hb _ _ _ _ _, fiveO h3 hb _ _ _ _ _⟩, ?_, hk⟩
  rcases hf with hf | hf
  · exact .inl ⟨fiveO hf.1 hb _ _ _ _ _, fiveO hf.2.1 hb _ _ _ _ _, fiveO hf.2.2 hb _ _ _ _ _⟩
  · exact .inr ⟨fiveO hf.1 hb _ _ _ _ _, fiveO hf.2.1 hb _ _ _ _ _, fiveO hf.2.2 hb _ _ _ _ _⟩
theorem zs_by (w : World) : ∃ w0, w.alloc (Obj.cells #[.string (ByteArray.mk #[]), .pointer none, .string (ByteArray.mk #[]), .string (ByteArray.mk #[]), .int .i64 0] 80) = w0 ∧ At w0 w.heap.size 0 [.string (ByteArray.mk #[]), .pointer none, .string (ByteArray.mk #[]), .string (ByteArray.mk #[]), .int .i64 0] ∧ Below w.heap.size w w0 ∧ w.heap.size < w0.heap.size :=
  ⟨_, rfl, At.ofAlloc w #[.string (ByteArray.mk #[]), .pointer none, .string (ByteArray.mk #[]), .string (ByteArray.mk #[]), .int .i64 0] 80, (Below.refl _ _).alloc (Nat.le_refl _) _, by simp⟩
set_option maxRecDepth 100000 in
set_option maxHeartbeats 3200000 in
theorem gbegin_key (key iv aad : ByteArray) (s : Int) (w : World) (h1 : key.size ≠ 16) (h2 : key.size ≠ 24) (h3 : key.size ≠ 32) : Calls Tryz.prog 35 #[.string key, .string iv, .string aad, .int .i64 s] w (RetZg 3 w) := by
  go_enter Tryz.func35, Tryz.ntmps35
  go_wp2_with fail
  refine (new_bad key _ h1 h2 h3).mono ?_
  rintro e w1 ⟨rfl, rfl⟩
  clear h1 h2 h3
  go_wp2_with fail
  refine bodyPost_ret (results_at_two rfl _ w.heap.size _ _ rfl (At.ofAlloc w #[.string (ByteArray.mk #[]), .pointer none, .string (ByteArray.mk #[]), .string (ByteArray.mk #[]), .int .i64 0] 80) Tryz.underlying80 rfl (info5c _ _ _ _ _) _ rfl) rfl ?_
  exact ⟨rfl, (Below.refl _ _).alloc (Nat.le_refl _) _⟩
set_option maxRecDepth 100000 in
set_option maxHeartbeats 3200000 in
theorem gbegin_iv0 (key iv aad : ByteArray) (s : Int) (w : World) (hk : key.size = 16 ∨ key.size = 24 ∨ key.size = 32) (h1 : iv.size = 0) : Calls Tryz.prog 35 #[.string key, .string iv, .string aad, .int .i64 s] w (RetZg 4 w) := by
  have e1 : ((iv.size : Int) == 0) = true := by rw [beq_iff_eq]; omega
  clear h1
  go_enter Tryz.func35, Tryz.ntmps35
  go_wp2_with fail
  obtain ⟨w0, hw0, hA0, hb0, hs0⟩ := zs_by w
  rw [hw0]
  refine (new_q key _ hk).mono ?_
  rintro e w1 ⟨g, hg, rfl, hQ, hb1⟩
  have hA1 := hA0.below hb1 hs0
  have hb01 := hb0.trans (hb1.mono hb0.size)
  obtain ⟨c0, c1, c2, c3, c4⟩ := five hA1
  obtain ⟨f0, f1, f2, f3, f4⟩ := fiveF hA1
  have HA1 := Lib.hid hA1
  clear hw0 hA0 hb0 hs0 hA1 hQ hb1 hg hk
  go_wp2_with fail
  refine bodyPost_ret (results_at_two rfl _ w.heap.size _ _ rfl (fiveS HA1.out _ _ _ _ _) Tryz.underlying80 rfl (info5c _ _ _ _ _) _ rfl) rfl ?_
  exact ⟨rfl, fiveB hb01 (Nat.le_refl _) _ _ _ _ _⟩
set_option maxRecDepth 100000 in
set_option maxHeartbeats 3200000 in
theorem gbegin_iv1 (key iv aad : ByteArray) (s : Int) (w : World) (hk : key.size = 16 ∨ key.size = 24 ∨ key.size = 32) (h1 : 1024 < iv.size) : Calls Tryz.prog 35 #[.string key, .string iv, .string aad, .int .i64 s] w (RetZg 4 w) := by
  have e1 : ((iv.size : Int) == 0) = false := by rw [beq_eq_false_iff_ne]; omega
  have e2 : (1024 : Int) < (iv.size : Int) := by omega
  clear h1
  go_enter Tryz.func35, Tryz.ntmps35
  go_wp2_with fail
  obtain ⟨w0, hw0, hA0, hb0, hs0⟩ := zs_by w
  rw [hw0]
  refine (new_q key _ hk).mono ?_
  rintro e w1 ⟨g, hg, rfl, hQ, hb1⟩
  have hA1 := hA0.below hb1 hs0
  have hb01 := hb0.trans (hb1.mono hb0.size)
  obtain ⟨c0, c1, c2, c3, c4⟩ := five hA1
  obtain ⟨f0, f1, f2, f3, f4⟩ := fiveF hA1
  have HA1 := Lib.hid hA1
  clear hw0 hA0 hb0 hs0 hA1 hQ hb1 hg hk
  go_wp2_with fail
  refine bodyPost_ret (results_at_two rfl _ w.heap.size _ _ rfl (fiveS HA1.out _ _ _ _ _) Tryz.underlying80 rfl (info5c _ _ _ _ _) _ rfl) rfl ?_
  exact ⟨rfl, fiveB hb01 (Nat.le_refl _) _ _ _ _ _⟩
set_option maxRecDepth 100000 in
set_option maxHeartbeats 3200000 in
theorem gbegin_s0 (key iv aad : ByteArray) (s : Int) (w : World) (hk : key.size = 16 ∨ key.size = 24 ∨ key.size = 32) (h1 : iv.size ≠ 0) (h2 : iv.size ≤ 1024) (h3 : s < 12) : Calls Tryz.prog 35 #[.string key, .string iv, .string aad, .int .i64 s] w (RetZg 5 w) := by
  have e1 : ((iv.size : Int) == 0) = false := by rw [beq_eq_false_iff_ne]; omega
  have e2 : ¬ (1024 : Int) < (iv.size : Int) := by omega
  clear h1 h2
  go_enter Tryz.func35, Tryz.ntmps35
  go_wp2_with fail
  obtain ⟨w0, hw0, hA0, hb0, hs0⟩ := zs_by w
  rw [hw0]
  refine (new_q key _ hk).mono ?_
  rintro e w1 ⟨g, hg, rfl, hQ, hb1⟩
  have hA1 := hA0.below hb1 hs0
  have hb01 := hb0.trans (hb1.mono hb0.size)
  obtain ⟨c0, c1, c2, c3, c4⟩ := five hA1
  obtain ⟨f0, f1, f2, f3, f4⟩ := fiveF hA1
  have HA1 := Lib.hid hA1
  clear hw0 hA0 hb0 hs0 hA1 hQ hb1 hg hk
  go_wp2_with fail
  refine bodyPost_ret (results_at_two rfl _ w.heap.size _ _ rfl (fiveS HA1.out _ _ _ _ _) Tryz.underlying80 rfl (info5c _ _ _ _ _) _ rfl) rfl ?_
  exact ⟨rfl, fiveB hb01 (Nat.le_refl _) _ _ _ _ _⟩
set_option maxRecDepth 100000 in
set_option maxHeartbeats 3200000 in
theorem gbegin_s1 (key iv aad : ByteArray) (s : Int) (w : World) (hk : key.size = 16 ∨ key.size = 24 ∨ key.size = 32) (h1 : iv.size ≠ 0) (h2 : iv.size ≤ 1024) (h3 : 16 < s) : Calls Tryz.prog 35 #[.string key, .string iv, .string aad, .int .i64 s] w (RetZg 5 w) := by
  have e1 : ((iv.size : Int) == 0) = false := by rw [beq_eq_false_iff_ne]; omega
  have e2 : ¬ (1024 : Int) < (iv.size : Int) := by omega
  have e3 : ¬ s < 12 := by omega
  clear h1 h2
  go_enter Tryz.func35, Tryz.ntmps35
  go_wp2_with fail
  obtain ⟨w0, hw0, hA0, hb0, hs0⟩ := zs_by w
  rw [hw0]
  refine (new_q key _ hk).mono ?_
  rintro e w1 ⟨g, hg, rfl, hQ, hb1⟩
  have hA1 := hA0.below hb1 hs0
  have hb01 := hb0.trans (hb1.mono hb0.size)
  obtain ⟨c0, c1, c2, c3, c4⟩ := five hA1
  obtain ⟨f0, f1, f2, f3, f4⟩ := fiveF hA1
  have HA1 := Lib.hid hA1
  clear hw0 hA0 hb0 hs0 hA1 hQ hb1 hg hk
  go_wp2_with fail
  refine bodyPost_ret (results_at_two rfl _ w.heap.size _ _ rfl (fiveS HA1.out _ _ _ _ _) Tryz.underlying80 rfl (info5c _ _ _ _ _) _ rfl) rfl ?_
  exact ⟨rfl, fiveB hb01 (Nat.le_refl _) _ _ _ _ _⟩
set_option maxRecDepth 100000 in
set_option maxHeartbeats 3200000 in
theorem gbegin_aad (key iv aad : ByteArray) (s : Int) (w : World) (hk : key.size = 16 ∨ key.size = 24 ∨ key.size = 32) (h1 : iv.size ≠ 0) (h2 : iv.size ≤ 1024) (h3 : 12 ≤ s) (h4 : s ≤ 16) (h5 : 70000 < aad.size) : Calls Tryz.prog 35 #[.string key, .string iv, .string aad, .int .i64 s] w (RetZg 6 w) := by
  have e1 : ((iv.size : Int) == 0) = false := by rw [beq_eq_false_iff_ne]; omega
  have e2 : ¬ (1024 : Int) < (iv.size : Int) := by omega
  have e3 : ¬ s < 12 := by omega
  have e4 : ¬ 16 < s := by omega
  have e5 : (70000 : Int) < (aad.size : Int) := by omega
  clear h1 h2 h3 h4 h5
  go_enter Tryz.func35, Tryz.ntmps35
  go_wp2_with fail
  obtain ⟨w0, hw0, hA0, hb0, hs0⟩ := zs_by w
  rw [hw0]
  refine (new_q key _ hk).mono ?_
  rintro e w1 ⟨g, hg, rfl, hQ, hb1⟩
  have hA1 := hA0.below hb1 hs0
  have hb01 := hb0.trans (hb1.mono hb0.size)
  obtain ⟨c0, c1, c2, c3, c4⟩ := five hA1
  obtain ⟨f0, f1, f2, f3, f4⟩ := fiveF hA1
  have HA1 := Lib.hid hA1
  clear hw0 hA0 hb0 hs0 hA1 hQ hb1 hg hk
  go_wp2_with fail
  refine bodyPost_ret (results_at_two rfl _ w.heap.size _ _ rfl (fiveS HA1.out _ _ _ _ _) Tryz.underlying80 rfl (info5c _ _ _ _ _) _ rfl) rfl ?_
  exact ⟨rfl, fiveB hb01 (Nat.le_refl _) _ _ _ _ _⟩
theorem gbegin_no (key iv aad : ByteArray) (s c : Int) (w : World) (hc : gcE key.size iv.size aad.size s = c) (h0 : c ≠ 0) : Calls Tryz.prog 35 #[.string key, .string iv, .string aad, .int .i64 s] w (RetZg c w) := by
  rcases key_cases key with hk | ⟨h1, h2, h3⟩
  · rw [gcE, if_pos (keyOk_yes hk)] at hc
    by_cases hv0 : iv.size = 0
    · rw [if_pos (.inl hv0)] at hc
      subst hc
      exact gbegin_iv0 key iv aad s w hk hv0
    · by_cases hv1 : 1024 < iv.size
      · rw [if_pos (.inr hv1)] at hc
        subst hc
        exact gbegin_iv1 key iv aad s w hk hv1
      · rw [if_neg (by omega)] at hc
        by_cases hs0 : s < 12
        · rw [if_pos (.inl hs0)] at hc
          subst hc
          exact gbegin_s0 key iv aad s w hk hv0 (by omega) hs0
        · by_cases hs1 : 16 < s
          · rw [if_pos (.inr hs1)] at hc
            subst hc
            exact gbegin_s1 key iv aad s w hk hv0 (by omega) hs1
          · rw [if_neg (by omega)] at hc
            by_cases ha : 70000 < aad.size
            · rw [if_pos ha] at hc
              subst hc
              exact gbegin_aad key iv aad s w hk hv0 (by omega) (by omega) (by omega) ha
            · rw [if_neg ha] at hc
              exact absurd hc.symm h0
  · rw [gcE, if_neg (by rw [keyOk_no h1 h2 h3]; decide)] at hc
    subst hc
    exact gbegin_key key iv aad s w h1 h2 h3
theorem sl_by (w : World) (key H : ByteArray) (g m : Nat) : ∃ w0, w.alloc (Obj.cells #[.string key, .pointer (some ⟨g, 0, none⟩), .string H, .string (ByteArray.mk #[]), .int .i64 (m : Int)] 80) = w0 ∧ At w0 w.heap.size 0 [.string key, .pointer (some ⟨g, 0, none⟩), .string H, .string (ByteArray.mk #[]), .int .i64 (m : Int)] ∧ Below w.heap.size w w0 ∧ w0.heap.size = w.heap.size + 1 :=
  ⟨_, rfl, At.ofAlloc w #[.string key, .pointer (some ⟨g, 0, none⟩), .string H, .string (ByteArray.mk #[]), .int .i64 (m : Int)] 80, (Below.refl _ _).alloc (Nat.le_refl _) _, by simp⟩
section
variable [Inhabited Gh.Tw]
set_option maxRecDepth 100000 in
set_option maxHeartbeats 3200000 in
theorem gbegin_ok (key iv aad : ByteArray) (m : Nat) (w : World) (hF : Fal w) (hk : key.size = 16 ∨ key.size = 24 ∨ key.size = 32) (h1 : iv.size ≠ 0) (h2 : iv.size ≤ 1024) (h3 : 12 ≤ m) (h4 : m ≤ 16) (h5 : aad.size ≤ 70000) : Calls Tryz.prog 35 #[.string key, .string iv, .string aad, .int .i64 (m : Int)] w (RetBgG key iv m w) := by
  have e1 : ((iv.size : Int) == 0) = false := by rw [beq_eq_false_iff_ne]; omega
  have e2 : ¬ (1024 : Int) < (iv.size : Int) := by omega
  have e3 : ¬ (m : Int) < 12 := by omega
  have e4 : ¬ (16 : Int) < (m : Int) := by omega
  have e5 : ¬ (70000 : Int) < (aad.size : Int) := by omega
  have HF := Lib.hid hF
  clear hF
  go_enter Tryz.func35, Tryz.ntmps35
  go_wp2_with fail
  obtain ⟨w0, hw0, hA0, hb0, hs0⟩ := zs_by w
  rw [hw0]
  refine (new_q key _ hk).mono ?_
  rintro e w1 ⟨g, hg, rfl, hQ, hb1⟩
  have HA1 := Lib.hid (hA0.below hb1 hs0)
  have hb01 := hb0.trans (hb1.mono hb0.size)
  have hlt1 : w.heap.size < w1.heap.size := Nat.lt_of_lt_of_le hs0 hb1.size
  have hgw : w0.heap.size ≤ g := hg
  have HG : Hid (w.heap.size < g) := Lib.hid (Nat.lt_of_lt_of_le hs0 hgw)
  have HQ1 := Lib.hid hQ
  clear hw0 hA0 hb0 hs0 hQ hb1 hg hgw
  go_wp2_with fail
  refine (rep_any (ByteArray.mk #[0]) 0 16 _ nought_tl (by decide)).mono ?_
  rintro e w2 ⟨z, rfl, hz, hb2⟩
  have hzs : z.size = 16 := by rw [← tl_size, hz]; rfl
  have HQ2 := Lib.hid (HQ1.out.below hb2 HQ1.out.lt)
  have HZ : Hid (z.toList = zer 16) := hz
  have HA2 := Lib.hid (HA1.out.below hb2 hlt1)
  have hb02 := hb01.trans (hb2.mono hb01.size)
  have hlt2 : w.heap.size < w2.heap.size := Nat.lt_of_lt_of_le hlt1 hb2.size
  clear hz hb2 HA1 hb01 hlt1
  go_wp2_with fail
  refine (enc_q z _ g _ HQ2.out hzs).mono ?_
  rintro e w3 ⟨H, rfl, hH, hQ3, hb3⟩
  have HH : Hid (H.toList = gcH key.toList) := by show _ = _; rw [hH, HZ.out]; rfl
  have HA3 := Lib.hid (HA2.out.below hb3 hlt2)
  have hb03 := hb02.trans (hb3.mono hb02.size)
  have hlt3 : w.heap.size < w3.heap.size := Nat.lt_of_lt_of_le hlt2 hb3.size
  have HQ3 := Lib.hid hQ3
  clear hH hb3 HA2 hb02 hlt2 hQ3 hzs HQ1 HQ2
  go_wp2_with fail
  obtain ⟨w4, hw4, hB4, hb4, hs4⟩ := sl_by w3 key H g m
  rw [hw4]
  have HA4 := Lib.hid (HA3.out.below hb4 hlt3)
  have HQ4 := Lib.hid (HQ3.out.below hb4 HQ3.out.lt)
  have HGL : Hid (g < w3.heap.size) := Lib.hid HQ3.out.lt
  have hb04 := hb03.trans (hb4.mono hb03.size)
  have HB4 := Lib.hid hB4
  have HF4 := Lib.hid (HF.out.below hb04 HF.out.2)
  obtain ⟨c0, c1, c2, c3, c4⟩ := five hB4
  clear hw4 hB4 hb4 HA3 HQ3 hb03
  go_wp2_with fail
  refine (gcounter_any key H iv g _ HF4.out HH.out h2).mono ?_
  rintro e w5 ⟨f, rfl, hf, hb5⟩
  clear c0 c1 c2 c3 c4
  have HB5 := Lib.hid (HB4.out.below hb5 (by omega))
  have HA5 := Lib.hid (HA4.out.below hb5 (by omega))
  have HQ5 := Lib.hid (HQ4.out.below hb5 HQ4.out.lt)
  have hb05 := hb04.trans (hb5.mono hb04.size)
  have HFF := Lib.hid hf
  obtain ⟨c0, c1, c2, c3, c4⟩ := five HB5.out
  obtain ⟨f0, f1, f2, f3, f4⟩ := fiveF HB5.out
  obtain ⟨d0, d1, d2, d3, d4⟩ := five HA5.out
  obtain ⟨g0, g1, g2, g3, g4⟩ := fiveF HA5.out
  have HL3 := Lib.hid hlt3
  have hne : w3.heap.size ≠ w.heap.size := by omega
  clear hf hb5 hb04 HB4 HA4 HQ4 hlt3 hs4 HF4
  go_wp2_with fail
  have hA6 := HA5.out.other (w3.heap.size) 3 (.string f) (.inl (by have := HL3.out; omega))
  have hb06 := hb05.setCell (p := ⟨w3.heap.size, 3, none⟩) (by have := HL3.out; show w.heap.size ≤ w3.heap.size; omega) (.string f)
  have hb56 : Below w3.heap.size w5 (w5.setCell ⟨w3.heap.size, 3, none⟩ (.string f)) := (Below.refl _ _).setCell (p := ⟨w3.heap.size, 3, none⟩) (Nat.le_refl _) _
  refine bodyPost_ret (results_at_two rfl _ w.heap.size _ _ rfl (fiveS hA6 _ _ _ _ _) Tryz.underlying80 rfl (info5c _ _ _ _ _) _ rfl) rfl ?_
  refine ⟨g, H, f, Nat.le_of_lt HG.out, rfl, HH.out, HFF.out, ?_, fiveB hb06 (Nat.le_refl _) _ _ _ _ _⟩
  have hQ6 := HQ5.out.below hb56 HGL.out
  exact hQ6.five (by have := HG.out; omega) (hA6.cell 0 _ rfl) _ _ _ _ _
end
end Go.Proofs.YtflofbimecnakaaGreat
