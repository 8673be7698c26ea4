/- The contracts of words: put together, taken apart, turned, substituted. -/
import Derived.Test.YtkedoiikkjeadaaDoorAesA
namespace Go.Proofs.YtkedoiikkjeadaaDoor
open Go.RowKit
set_option linter.unusedVariables false
set_option linter.unusedSimpArgs false
def RetW (x : UInt32) (w : World) (e : Ending) (w' : World) : Prop := e = .returned (.int .u32 (x.toNat : Int)) ∧ w = w'
theorem ret_w {x : UInt32} {n : Int} {w : World} (h : n = (x.toNat : Int)) : RetW x w (.returned (.int .u32 n)) w := by
  subst h
  exact ⟨rfl, rfl⟩
theorem still_w {P : Program} {f : FuncId} {args : Array Value} {x : UInt32} {w : World} (h : Calls P f args w (RetW x w)) : Calls P f args w (fun e w'' => e = .returned (.int .u32 (x.toNat : Int)) ∧ w'' = w) := h.mono fun e w' ⟨h1, h2⟩ => ⟨h1, h2.symm⟩
theorem still_y {P : Program} {f : FuncId} {args : Array Value} {x : UInt8} {w : World} (h : Calls P f args w (RetY x w)) : Calls P f args w (fun e w'' => e = .returned (.int .u8 (x.toNat : Int)) ∧ w'' = w) := h.mono fun e w' ⟨h1, h2⟩ => ⟨h1, h2.symm⟩
set_option maxRecDepth 100000 in
theorem row_any (x : UInt32) (n : Int) (w : World) (h0 : 0 ≤ n) (h7 : n ≤ 3) : Calls Tryd.prog 91 #[.int .u32 (x.toNat : Int), .int .i64 n] w (RetY (rw_ x n.toNat) w) := by
  obtain ⟨m, rfl⟩ := Int.eq_ofNat_of_zero_le h0
  have hb := x.toNat_lt
  have hm : m ≤ 3 := by omega
  have hn : ¬ ((24 : Int) - 8 * (m : Int) < 0) := by omega
  go_enter Tryd.func91, Tryd.ntmps91
  go_wp2
  go_ret
  refine ret_y ?_
  exact row_val x m
set_option maxRecDepth 100000 in
theorem rotl32_any (x : UInt32) (k : Int) (w : World) : Calls Tryd.prog 89 #[.int .u32 (x.toNat : Int), .int .i64 k] w (RetW (rotl32 x (k % 32).toNat) w) := by
  have h0 : 0 ≤ k % (32 : Int) := by omega
  have h1 : k % (32 : Int) < 32 := by omega
  have h2 : bits .and .u64 (IntKind.u64.wrap k) (31 : Int) = k % (32 : Int) := by
    have := and31 k
    rw [← this]
    congr 1
  obtain ⟨m, hm⟩ := Int.eq_ofNat_of_zero_le h0
  rw [hm] at h2 ⊢
  have hm2 : m < 32 := by omega
  clear hm h0 h1
  have hb := x.toNat_lt
  go_enter Tryd.func89, Tryd.ntmps89
  go_wp2
  go_ret
  refine ret_w ?_
  exact rot32_val x m (by omega)
set_option maxRecDepth 100000 in
theorem word_any (a b c d : UInt8) (w : World) : Calls Tryd.prog 70 #[.int .u8 (a.toNat : Int), .int .u8 (b.toNat : Int), .int .u8 (c.toNat : Int), .int .u8 (d.toNat : Int)] w (RetW (wd a b c d) w) := by
  have ha := a.toNat_lt
  have hb := b.toNat_lt
  have hc := c.toNat_lt
  have hd := d.toNat_lt
  go_enter Tryd.func70, Tryd.ntmps70
  go_wp2
  go_ret
  refine ret_w ?_
  exact wd_val a b c d
set_option maxRecDepth 100000 in
theorem subWord_any (x : UInt32) (w : World) : Calls Tryd.prog 88 #[.int .u32 (x.toNat : Int)] w (RetW (wd (gsub (rw_ x 0)) (gsub (rw_ x 1)) (gsub (rw_ x 2)) (gsub (rw_ x 3))) w) := by
  go_enter Tryd.func88, Tryd.ntmps88
  go_wp2_with fail
  refine (row_any x 0 _ (by omega) (by omega)).mono ?_
  rintro e w' ⟨rfl, rfl⟩
  go_wp2_with fail
  refine (sub_any _ _).mono ?_
  rintro e w' ⟨rfl, rfl⟩
  go_wp2_with fail
  refine (row_any x 1 _ (by omega) (by omega)).mono ?_
  rintro e w' ⟨rfl, rfl⟩
  go_wp2_with fail
  refine (sub_any _ _).mono ?_
  rintro e w' ⟨rfl, rfl⟩
  go_wp2_with fail
  refine (row_any x 2 _ (by omega) (by omega)).mono ?_
  rintro e w' ⟨rfl, rfl⟩
  go_wp2_with fail
  refine (sub_any _ _).mono ?_
  rintro e w' ⟨rfl, rfl⟩
  go_wp2_with fail
  refine (row_any x 3 _ (by omega) (by omega)).mono ?_
  rintro e w' ⟨rfl, rfl⟩
  go_wp2_with fail
  refine (sub_any _ _).mono ?_
  rintro e w' ⟨rfl, rfl⟩
  go_wp2_with fail
  refine (word_any _ _ _ _ _).mono ?_
  rintro e w' ⟨rfl, rfl⟩
  go_wp2_with fail
  go_ret
  exact ret_w rfl
end Go.Proofs.YtkedoiikkjeadaaDoor
