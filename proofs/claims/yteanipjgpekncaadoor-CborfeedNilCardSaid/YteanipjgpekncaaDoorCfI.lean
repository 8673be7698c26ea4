/- A feed that is not there. -/
import Derived.Test.YteanipjgpekncaaDoorCfH
import Derived.Test.YteanipjgpekncaaDoorCpU
namespace Go.Proofs.YteanipjgpekncaaDoor
open Go.RowKit
set_option linter.unusedVariables false
set_option linter.unusedSimpArgs false
namespace Cf
open Co
open Dr (Rs Lm has lack at0S)
set_option maxRecDepth 100000 in
set_option maxHeartbeats 1600000 in
theorem nil_walk (s : ByteArray) (hz : s.size ≤ 140737488351232) (w : World) (hU : UT w.heap.size w) :
    Calls Tryd.prog 13 #[.string s] w (RetT w) := by
  have HU := Lib.hid hU
  have WK := Lib.hid (fun w hU => wakes20_any w hU)
  clear hU hz
  go_enter Tryd.func13, Tryd.ntmps13
  go_wp2_with fail
  have HB0 : Hid (Below w.heap.size w (w.alloc (Obj.cells #[.int .i64 0, .int .i64 0, .int .i64 0, .int .i64 0, .slice none 0 0, .slice none 0 0, .slice none 0 0, .int .i64 0, .int .i64 0, .int .i64 0, .int .i64 0, .int .i64 0, .int .u64 0, .int .u64 0] 60))) := (Below.refl _ _).alloc (Nat.le_refl _) _
  have HZ : Hid (At (w.alloc (Obj.cells #[.int .i64 0, .int .i64 0, .int .i64 0, .int .i64 0, .slice none 0 0, .slice none 0 0, .slice none 0 0, .int .i64 0, .int .i64 0, .int .i64 0, .int .i64 0, .int .i64 0, .int .u64 0, .int .u64 0] 60)) w.heap.size 0 (#[.int .i64 0, .int .i64 0, .int .i64 0, .int .i64 0, .slice none 0 0, .slice none 0 0, .slice none 0 0, .int .i64 0, .int .i64 0, .int .i64 0, .int .i64 0, .int .i64 0, .int .u64 0, .int .u64 0] : Array Value).toList) := At.ofAlloc w #[.int .i64 0, .int .i64 0, .int .i64 0, .int .i64 0, .slice none 0 0, .slice none 0 0, .slice none 0 0, .int .i64 0, .int .i64 0, .int .i64 0, .int .i64 0, .int .i64 0, .int .u64 0, .int .u64 0] 60
  have HLT : Hid (w.heap.size < (w.alloc (Obj.cells #[.int .i64 0, .int .i64 0, .int .i64 0, .int .i64 0, .slice none 0 0, .slice none 0 0, .slice none 0 0, .int .i64 0, .int .i64 0, .int .i64 0, .int .i64 0, .int .i64 0, .int .u64 0, .int .u64 0] 60)).heap.size) := by show w.heap.size < _; simp
  generalize w.alloc (Obj.cells #[.int .i64 0, .int .i64 0, .int .i64 0, .int .i64 0, .slice none 0 0, .slice none 0 0, .slice none 0 0, .int .i64 0, .int .i64 0, .int .i64 0, .int .i64 0, .int .i64 0, .int .u64 0, .int .u64 0] 60) = w1 at HB0 HZ HLT ⊢
  obtain ⟨J, hJ⟩ : ∃ J, w.heap.size = J := ⟨_, rfl⟩
  rw [hJ] at HZ HLT ⊢
  have HJ := Lib.hid hJ
  clear hJ
  have Z1 := Lib.hid (none_zero w1 J (HZ.out.cell 0 _ rfl))
  have E0 := Lib.hid (end_none w1 _ (none_nil w1))
  have E1 := Lib.hid (end_none w1 _ Z1.out)
  have S0 := Lib.hid (state_none w1 _ (none_nil w1))
  have S1 := Lib.hid (state_none w1 _ Z1.out)
  refine E0.out.mono ?_
  rintro e w2 ⟨rfl, rfl⟩
  go_wp2_with fail
  refine E1.out.mono ?_
  rintro e w2 ⟨rfl, rfl⟩
  go_wp2_with fail
  refine S0.out.mono ?_
  rintro e w2 ⟨rfl, rfl⟩
  go_wp2_with fail
  refine S1.out.mono ?_
  rintro e w2 ⟨rfl, rfl⟩
  go_wp2_with fail
  refine (WK.out _ (HU.out.at HB0.out)).mono ?_
  rintro e w3 ⟨rfl, hb3⟩
  have HZ3 := Lib.hid (HZ.out.below hb3 HLT.out)
  have HB3 : Hid (Below w.heap.size w w3) := HB0.out.trans (hb3.mono HB0.out.size)
  have W0 := Lib.hid (write_none w3 _ (none_nil w3) s)
  have W1 := Lib.hid (write_none w3 _ (none_zero w3 J (HZ3.out.cell 0 _ rfl)) s)
  clear hb3
  go_wp2_with fail
  refine W0.out.mono ?_
  rintro e w4 ⟨rfl, rfl⟩
  go_wp2_with fail
  refine W1.out.mono ?_
  rintro e w4 ⟨rfl, rfl⟩
  go_wp2_with fail
  go_ret
  exact ⟨rfl, HB3.out⟩
theorem cborfeedNil_walk (s : ByteArray) (hz : s.size ≤ 140737488351232) (w : World) (hU : UT w.heap.size w) :
    Calls Tryd.prog 13 #[.string s] w (RetT w) := nil_walk s hz w hU
end Cf
end Go.Proofs.YteanipjgpekncaaDoor
