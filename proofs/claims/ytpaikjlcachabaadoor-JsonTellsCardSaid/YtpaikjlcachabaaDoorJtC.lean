/- package token: a string in memory; the small steps. -/
import Derived.Test.YtpaikjlcachabaaDoorJtB
namespace Go.Proofs.YtpaikjlcachabaaDoor
open Go.RowKit
set_option linter.unusedVariables false
set_option linter.unusedSimpArgs false
namespace Js
open Dr (Rs Lm has lack)
def scells (wh : Int) (vT : Value) (left num half low high : Int) : List Value := [.int .i64 wh, vT, .int .i64 left, .int .i32 num, .int .i32 half, .int .u8 low, .int .u8 high]
/-- a string's cells, and its text's row -/
structure Sx (w : World) (h : Nat) (wh : Int) (vT : Value) (left num half low high : Int) (t : List UInt8) : Prop where
  at0 : At w h 0 (scells wh vT left num half low high)
  text : w.ownsRow (h + 1) 5 1 vT t.length (bcells t)
theorem Sx.lt {w : World} {h : Nat} {wh : Int} {vT : Value} {left num half low high : Int} {t : List UInt8} (m : Sx w h wh vT left num half low high t) : h < w.heap.size := m.at0.lt (by simp [scells])
theorem Sx.set {w : World} {h : Nat} {wh : Int} {vT : Value} {left num half low high : Int} {t : List UInt8} (m : Sx w h wh vT left num half low high t) {wh' left' num' half' low' high' : Int} (j : Nat) (u : Value)
    (he : (scells wh vT left num half low high).set j u = scells wh' vT left' num' half' low' high') : Sx (w.setCell ⟨h, j, none⟩ u) h wh' vT left' num' half' low' high' t := by
  have h1 := m.at0.set j u
  rw [Nat.zero_add, he] at h1
  exact ⟨h1, ownsRow_setCell_below m.text (Nat.lt_succ_self h) _⟩
set_option maxRecDepth 100000 in
set_option maxHeartbeats 3200000 in
theorem tell_any (h : Nat) (wh : Int) (vT : Value) (left num half low high : Int) (t : List UInt8) (b : UInt8) (w : World) (ht : t.length ≤ 140737488351232) (m : Sx w h wh vT left num half low high t) :
    Calls Tryd.prog 95 #[.pointer (some ⟨h, 0, none⟩), .int .u8 (b.toNat : Int)] w (fun e w' => e = .returned (.int .i64 0) ∧ (∃ vT', Hid (Sx w' h 0 vT' left num half low high (t ++ [b]))) ∧ Hid (Tk h w w')) := by
  have HM := Lib.hid m
  have HT := Lib.hid ht
  have hb := b.toNat_lt
  obtain ⟨n, hn⟩ : ∃ n, b.toNat = n := ⟨_, rfl⟩
  have HN := Lib.hid hn
  rw [hn]
  obtain ⟨i5, hi5, hq5⟩ := Option.map_eq_some_iff.1 info5
  simp only [Prod.mk.injEq] at hq5
  obtain ⟨hz0, hz1, hz2⟩ := hq5
  obtain ⟨k, hk⟩ : ∃ k, t.length = k := ⟨_, rfl⟩
  have HK := Lib.hid hk
  have hx0 : Hid (w.ownsRow (h + 1) 5 1 vT k (bcells t)) := by rw [← hk]; exact HM.out.text
  obtain ⟨aT, cT, rfl, -⟩ := own_form hx0.out
  have c1 := HM.out.at0.cell 1 _ rfl
  have HSZ : Hid (h < w.heap.size) := HM.out.lt
  clear hk m ht hb hn
  go_enter Tryd.func95, Tryd.ntmps95
  go_wp2_with (at_builtin; refine wpList_append_u8 rfl (.tmp 9) (.tmp 11) 66 rfl (h + 1) 5 i5 Tryd.underlying66 hi5 hz0 hz1 hz2 (.slice aT k cT) k t rfl (hx0.out.alloc _) _ 1 1 [b] rfl rfl (cells_one (by rw [HN.out]; exact cell_new rfl _ _)) (by have := HT.out; have := HK.out; omega) (by have := HSZ.out; simp; omega) ?_; intro v' w4 hown4 hgrow4; obtain ⟨a4, c4', hv4, -⟩ := own_form hown4; subst hv4; have hAt4 := At.grown (HM.out.at0.alloc _) hgrow4 (by have := HSZ.out; simp; omega) (fun e => by have := (hx0.out.lt h e).1; omega); have HR4 := Lib.hid hAt4; have HO4 := Lib.hid hown4; have HB4 := Lib.hid (((Tk.refl h w).alloc (by have := HSZ.out; omega) _).grown hgrow4 (by have := HSZ.out; simp; omega) (u8_at hx0.out (Nat.lt_succ_self h))); clear c1; have f0 := hAt4.froz 0 (by show 0 < 7; decide); have c40 := hAt4.cell 0 _ rfl; have f1 := hAt4.froz 1 (by show 1 < 7; decide); have c41 := hAt4.cell 1 _ rfl; clear hAt4 hgrow4 hown4)
  go_ret
  refine ⟨rfl, ⟨_, ⟨(HR4.out.set 1 _).set 0 _, ?_⟩⟩, (HB4.out.setCell (p := ⟨h, 1, none⟩) (Nat.le_refl h) _).setCell (p := ⟨h, 0, none⟩) (Nat.le_refl h) _⟩
  rw [List.length_append, HK.out]
  exact ownsRow_setCell_below (ownsRow_setCell_below HO4.out (Nat.lt_succ_self h) _) (Nat.lt_succ_self h) _
set_option maxRecDepth 100000 in
theorem begin_any (h : Nat) (wh : Int) (vT : Value) (left num half low high : Int) (t : List UInt8) (w : World) (m : Sx w h wh vT left num half low high t) :
    Calls Tryd.prog 89 #[.pointer (some ⟨h, 0, none⟩)] w (fun e w' => e = .returned (.tuple #[]) ∧ Hid (Sx w' h wh vT 4 0 half low high t) ∧ Hid (Tk h w w')) := by
  have HM := Lib.hid m
  have c2 := m.at0.cell 2 _ rfl
  have c3 := m.at0.cell 3 _ rfl
  have f2 := m.at0.froz 2 (by show 2 < 7; decide)
  have f3 := m.at0.froz 3 (by show 3 < 7; decide)
  clear m
  go_enter Tryd.func89, Tryd.ntmps89
  go_wp2_with fail
  all_goals first | go_end0 | refine bodyPost_ret (results_none rfl _ _ _) rfl ?_
  exact ⟨by trivial, (HM.out.set (left' := 4) 2 _ rfl).set (num' := 0) 3 _ rfl, ((Tk.refl h w).setCell (p := ⟨h, 2, none⟩) (Nat.le_refl h) _).setCell (p := ⟨h, 3, none⟩) (Nat.le_refl h) _⟩
set_option maxRecDepth 100000 in
theorem follow_any (h : Nat) (wh : Int) (vT : Value) (left num half low high : Int) (t : List UInt8) (b c : UInt8) (nx : Int) (w : World) (m : Sx w h wh vT left num half low high t) :
    Calls Tryd.prog 88 #[.pointer (some ⟨h, 0, none⟩), .int .u8 (b.toNat : Int), .int .u8 (c.toNat : Int), .int .i64 nx] w (fun e w' => (b = c ∧ e = .returned (.int .i64 0) ∧ Hid (Sx w' h nx vT left num half low high t) ∧ Hid (Tk h w w')) ∨ (b ≠ c ∧ e = .returned (.int .i64 3) ∧ w = w')) := by
  have HM := Lib.hid m
  have c0 := m.at0.cell 0 _ rfl
  have f0 := m.at0.froz 0 (by show 0 < 7; decide)
  clear m
  by_cases hbc : b = c
  · subst hbc
    obtain ⟨n, hn⟩ : ∃ n, b.toNat = n := ⟨_, rfl⟩
    rw [hn]
    clear hn
    go_enter Tryd.func88, Tryd.ntmps88
    go_wp2_with fail
    go_ret
    exact .inl ⟨by trivial, rfl, HM.out.set (wh' := nx) 0 _ rfl, (Tk.refl h w).setCell (p := ⟨h, 0, none⟩) (Nat.le_refl h) _⟩
  · have hne : b.toNat ≠ c.toNat := fun e => hbc (UInt8.toNat_inj.1 e)
    have HBC := Lib.hid hbc
    obtain ⟨n, hn⟩ : ∃ n, b.toNat = n := ⟨_, rfl⟩
    obtain ⟨k, hk⟩ : ∃ n, c.toNat = n := ⟨_, rfl⟩
    rw [hn, hk] at hne ⊢
    have e1 : ((n : Int) == (k : Int)) = false := by rw [beq_eq_false_iff_ne]; omega
    have e2 : ¬ (n : Int) = (k : Int) := by omega
    clear hn hk hbc hne
    go_enter Tryd.func88, Tryd.ntmps88
    go_wp2_with fail
    go_ret
    exact .inr ⟨HBC.out, rfl, rfl⟩
set_option maxRecDepth 100000 in
theorem stext_any (h : Nat) (wh : Int) (vT : Value) (left num half low high : Int) (t : List UInt8) (w : World) (m : Sx w h wh vT left num half low high t) : Calls Tryd.prog 75 #[.pointer (some ⟨h, 0, none⟩)] w (fun e w' => e = .returned (.string ⟨t.toArray⟩) ∧ w = w') := by
  have c1 := m.at0.cell 1 _ rfl
  have hcv := run_convert_own (P := Tryd.prog) m.text 66 9 Tryd.underlying66 Tryd.underlying5 Tryd.underlying9
  clear m
  go_enter Tryd.func75, Tryd.ntmps75
  go_wp2_with fail
  go_ret
  exact ⟨rfl, rfl⟩
end Js
end Go.Proofs.YtpaikjlcachabaaDoor
