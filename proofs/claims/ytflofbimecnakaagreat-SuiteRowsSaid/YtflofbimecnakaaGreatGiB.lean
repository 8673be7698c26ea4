/- The contract of counter: the program's. -/
import Derived.Test.YtflofbimecnakaaGreatGiA
namespace Go.Proofs.YtflofbimecnakaaGreat
open Go.RowKit
set_option linter.unusedVariables false
set_option linter.unusedSimpArgs false
section
variable [Inhabited Gh.Tw]
/-- what the region of counter holds to -/
theorem gkp {w wa wb : World} {B : Nat} {H : ByteArray} (hb : Below wa.heap.size wa wb) (hS : wa.cell? ⟨B, 2, none⟩ = some (.string H) ∧ B < wa.heap.size ∧ Below w.heap.size w wa ∧ Fal wa) :
    wb.cell? ⟨B, 2, none⟩ = some (.string H) ∧ B < wb.heap.size ∧ Below w.heap.size w wb ∧ Fal wb :=
  ⟨(hb.cell (p := ⟨B, 2, none⟩) hS.2.1).trans hS.1, Nat.lt_of_lt_of_le hS.2.1 hb.size, hS.2.2.1.trans (hb.mono hS.2.2.1.size), hS.2.2.2.below hb hS.2.2.2.2⟩
theorem gkf {w wa : World} {B : Nat} {H : ByteArray} (hS : wa.cell? ⟨B, 2, none⟩ = some (.string H) ∧ B < wa.heap.size ∧ Below w.heap.size w wa ∧ Fal wa) : Fal wa := hS.2.2.2
theorem gkb {w wa : World} {B : Nat} {H : ByteArray} (hS : wa.cell? ⟨B, 2, none⟩ = some (.string H) ∧ B < wa.heap.size ∧ Below w.heap.size w wa ∧ Fal wa) : Below w.heap.size w wa := hS.2.2.1
theorem gsumk (key text : ByteArray) (hk : key.size = 16) (hm : text.toList.length % 16 = 0) (hl : text.toList.length ≤ 210000) (w : World) (hF : Fal w) : Calls Tryz.prog 43 #[.string key, .string text] w (RetSE (gsL key.toList text.toList) 0 w) := by
  have h := gsum_any key text w hF
  obtain ⟨h1, h2⟩ := gs_ok key.toList text.toList (by rw [tl_size]; exact hk) hm hl
  rwa [h1, h2] at h
end
theorem one12 : (ByteArray.mk #[0, 0, 0, 1]).toList = [0, 0, 0, 1] := tl_mk _
section
variable [Inhabited Gh.Tw]
theorem keyed_by (w : World) (key H : ByteArray) (g : Nat) (hF : Fal w) : ∃ w0, w.alloc (Obj.cells #[.string key, .pointer (some ⟨g, 0, none⟩), .string H] 78) = w0 ∧ (w0.cell? ⟨w.heap.size, 2, none⟩ = some (.string H) ∧ w.heap.size < w0.heap.size ∧ Below w.heap.size w w0 ∧ Fal w0) := by
  have h := At.ofAlloc w #[.string key, .pointer (some ⟨g, 0, none⟩), .string H] 78
  have hb : Below w.heap.size w (w.alloc (Obj.cells #[.string key, .pointer (some ⟨g, 0, none⟩), .string H] 78)) := (Below.refl _ _).alloc (Nat.le_refl _) _
  exact ⟨_, rfl, h.cell 2 _ rfl, by simp, hb, hF.below hb hF.2⟩
set_option maxRecDepth 100000 in
set_option maxHeartbeats 6400000 in
theorem gcounter_any (key H iv : ByteArray) (g : Nat) (w : World) (hF : Fal w) (hH : H.toList = gcH key.toList) (hv : iv.size ≤ 1024) : Calls Tryz.prog 42 #[.agg #[.string key, .pointer (some ⟨g, 0, none⟩), .string H], .string iv] w (RetS (gcFirst key.toList iv.toList) w) := by
  by_cases h12 : iv.size = 12
  · have e1 : ((iv.size : Int) == 12) = true := by rw [beq_iff_eq]; omega
    have hov : ¬ 9223372036854775807 < iv.size + 4 := by omega
    have HR : Hid (gcFirst key.toList iv.toList = iv.toList ++ [0, 0, 0, 1]) := by show _ = _; rw [gcFirst, if_pos (by rw [tl_size]; exact h12)]
    clear h12
    go_enter Tryz.func42, Tryz.ntmps42
    go_wp2_with fail
    go_ret
    exact ⟨_, rfl, by rw [tl_append, one12, HR.out], (Below.refl _ _).alloc (Nat.le_refl _) _⟩
  · have e1 : ((iv.size : Int) == 12) = false := by rw [beq_eq_false_iff_ne]; omega
    have HR : Hid (gcFirst key.toList iv.toList = gsL H.toList (filM iv.toList ++ bitsL 0 ++ bitsL iv.size)) := by show _ = _; rw [gcFirst, if_neg (by rw [tl_size]; exact h12), hH, gcFir, bitsL_zero, tl_size]
    have hHs : H.size = 16 := by rw [← tl_size, hH, gcH_length]
    have hfw := filM_w iv.toList
    rw [tl_size] at hfw
    have HW := Lib.hid hfw
    have HHS := Lib.hid hHs
    clear h12 hH hHs hfw
    go_enter Tryz.func42, Tryz.ntmps42
    go_wp2_with fail
    obtain ⟨w0, hw0, hS0⟩ := keyed_by w key H g hF
    rw [hw0]
    have HS0 := Lib.hid hS0
    clear hw0 hS0
    go_wp2_with fail
    go_region_held3 (fun w' => w'.cell? ⟨w.heap.size, 2, none⟩ = some (.string H) ∧ w.heap.size < w'.heap.size ∧ Below w.heap.size w w' ∧ Fal w') (first | exact gkp (by assumption) (by assumption) | exact ⟨HS0.out.1, HS0.out.2.1, HS0.out.2.2.1.drew, HS0.out.2.2.2⟩)
      (first
        | (go_at_call 44; refine (gfilled_any iv _ (by omega)).mono ?_; rintro e wx ⟨x, rfl, hx, hbx⟩; have HX := Lib.hid hx; have HXS : Hid (x.size < iv.size + 16) := (by show _ < _; rw [← tl_size, hx]; exact HW.out.2.2); clear hx)
        | (go_at_call 45; have hyy := HYS.out; refine (gbits_any iv _ (by omega)).mono ?_; rintro e wz ⟨z, rfl, hz, hbz⟩; have HZ := Lib.hid hz; have HZS : Hid (z.size = 8) := (by show _ = _; rw [← tl_size, hz, bitsL_length]); clear hz hyy; have z2 : ¬ 9223372036854775807 < x.size + y.size + z.size := (by have := HXS.out; have := HYS.out; have := HZS.out; omega))
        | (go_at_call 45; refine (gbits_any (ByteArray.mk #[]) _ (by decide)).mono ?_; rintro e wy ⟨y, rfl, hy, hby⟩; have HY := Lib.hid hy; have HYS : Hid (y.size = 8) := (by show _ = _; rw [← tl_size, hy, bitsL_length]); clear hy; have z1 : ¬ 9223372036854775807 < x.size + y.size := (by have := HXS.out; have := HYS.out; omega))
        | (go_at_call 43; refine (gsumk H (x ++ y ++ z) HHS.out (by rw [tl_append, tl_append, HX.out, HY.out, HZ.out, List.length_append, List.length_append, bitsL_length, bitsL_length]; have := HW.out; omega) (by rw [tl_append, tl_append, HX.out, HY.out, HZ.out, List.length_append, List.length_append, bitsL_length, bitsL_length]; have := HW.out; omega) _ (gkf (by assumption))).mono ?_; rintro e wt ⟨t, rfl, ht, hbt⟩; have HT : Hid (t.toList = gcFirst key.toList iv.toList) := (by show _ = _; rw [ht, tl_append, tl_append, HX.out, HY.out, HZ.out, HR.out]; rfl); clear ht))
    all_goals
      have hbF : Below w.heap.size w wt := gkb (by assumption)
      clear z1 z2 hbx hby hbz hbt
      go_wp2_with fail
      go_ret
      exact ⟨_, rfl, HT.out, hbF⟩
end
end Go.Proofs.YtflofbimecnakaaGreat
