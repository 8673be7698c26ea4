/- The walks of ShaSums, ShaSizes, ShaNil. -/
import Derived.Test.YtjlmmlnldjandaaGreatDoorShU
namespace Go.Proofs.YtjlmmlnldjandaaGreatDoor
open Go.RowKit
set_option linter.unusedVariables false
set_option linter.unusedSimpArgs false
theorem tl_ext0S (s : ByteArray) (b : Nat) : (s.extract 0 b).toList = s.toList.take b := by
  rw [Lib.toList_data, Lib.extract_data, ← Lib.toList_data, List.drop_zero, Nat.sub_zero]
theorem sh_len (kind : Int) (hk : Sh.known kind = true) (D : List UInt8) : (Sh.shL kind D).length = Sh.outN kind := by
  have h8 : (Sh.hs (Sh.bits kind) (Sh.kL (Sh.bits kind)) (Sh.hL kind) (Sh.padL (Sh.bits kind) D) ((Sh.padL (Sh.bits kind) D).length / (2 * Sh.bits kind))).length = 8 := (hs_ok _ _ _ _ (hL_ok kind).1 (hL_ok kind).2 _).1
  rw [Sh.shL, List.length_take, flat_len, h8]
  rcases known_ways kind with rfl | rfl | rfl | ⟨hk2, _⟩
  · rfl
  · rfl
  · rfl
  · rw [hk] at hk2
    cases hk2
set_option maxRecDepth 100000 in
theorem hSum_nil (w : World) : Calls Tryz.prog 106 #[.pointer none] w (fun e w' => e = .returned (.tuple #[.string ByteArray.empty, .int .i64 1]) ∧ w = w') := by
  have NN := Lib.hid (none_nil w)
  go_enter Tryz.func106, Tryz.ntmps106
  go_wp2_with fail
  refine NN.out.mono ?_
  rintro e w1 ⟨rfl, rfl⟩
  go_wp2_with fail
  go_ret2
  exact ⟨rfl, rfl⟩
set_option maxRecDepth 100000 in
theorem hWrite_nil (s : ByteArray) (w : World) : Calls Tryz.prog 105 #[.pointer none, .string s] w (fun e w' => e = .returned (.int .i64 1) ∧ w = w') := by
  have NN := Lib.hid (none_nil w)
  go_enter Tryz.func105, Tryz.ntmps105
  go_wp2_with fail
  refine NN.out.mono ?_
  rintro e w1 ⟨rfl, rfl⟩
  go_wp2_with fail
  go_ret
  exact ⟨rfl, rfl⟩
set_option maxRecDepth 100000 in
theorem hCopy_nil (w : World) : Calls Tryz.prog 87 #[.pointer none] w (fun e w' => e = .returned (.pointer none) ∧ w = w') := by
  have NN := Lib.hid (none_nil w)
  go_enter Tryz.func87, Tryz.ntmps87
  go_wp2_with fail
  refine NN.out.mono ?_
  rintro e w1 ⟨rfl, rfl⟩
  go_wp2_with fail
  go_ret
  exact ⟨rfl, rfl⟩
set_option maxRecDepth 100000 in
theorem hSum_zero (g : Nat) (w : World) (h : w.cell? ⟨g, 0, none⟩ = some (.int .i64 0)) : Calls Tryz.prog 106 #[.pointer (some ⟨g, 0, none⟩)] w (fun e w' => e = .returned (.tuple #[.string ByteArray.empty, .int .i64 1]) ∧ w = w') := by
  have NN := Lib.hid (none_zero g w h)
  clear h
  go_enter Tryz.func106, Tryz.ntmps106
  go_wp2_with fail
  refine NN.out.mono ?_
  rintro e w1 ⟨rfl, rfl⟩
  go_wp2_with fail
  go_ret2
  exact ⟨rfl, rfl⟩
set_option maxRecDepth 100000 in
theorem hWrite_zero (g : Nat) (s : ByteArray) (w : World) (h : w.cell? ⟨g, 0, none⟩ = some (.int .i64 0)) : Calls Tryz.prog 105 #[.pointer (some ⟨g, 0, none⟩), .string s] w (fun e w' => e = .returned (.int .i64 1) ∧ w = w') := by
  have NN := Lib.hid (none_zero g w h)
  clear h
  go_enter Tryz.func105, Tryz.ntmps105
  go_wp2_with fail
  refine NN.out.mono ?_
  rintro e w1 ⟨rfl, rfl⟩
  go_wp2_with fail
  go_ret
  exact ⟨rfl, rfl⟩
set_option maxRecDepth 100000 in
theorem hCopy_zero (g : Nat) (w : World) (h : w.cell? ⟨g, 0, none⟩ = some (.int .i64 0)) : Calls Tryz.prog 87 #[.pointer (some ⟨g, 0, none⟩)] w (fun e w' => e = .returned (.pointer none) ∧ w = w') := by
  have NN := Lib.hid (none_zero g w h)
  clear h
  go_enter Tryz.func87, Tryz.ntmps87
  go_wp2_with fail
  refine NN.out.mono ?_
  rintro e w1 ⟨rfl, rfl⟩
  go_wp2_with fail
  go_ret
  exact ⟨rfl, rfl⟩
end Go.Proofs.YtjlmmlnldjandaaGreatDoor
