/- Keys by their names: a ring that is not there, or was made of nothing. -/
import Derived.Test.YtcegihdgnbjclaaRnK
namespace Go.Proofs.Ytcegihdgnbjclaa
open Go.RowKit Go.Maps Go.Sort
open Go.Proofs (encStr)
set_option linter.unusedVariables false
set_option linter.unusedSimpArgs false
namespace Rn
set_option maxRecDepth 100000 in
theorem only_nil (w : World) : Calls Try.prog 18 #[.pointer none] w fun e w' => e = .returned (.tuple #[.string ByteArray.empty, .string ByteArray.empty, .int .i64 1]) ∧ w' = w := by
  go_enter Try.func18, Try.ntmps18
  go_wp2_with (go_at_call 23; refine (none_nil _).mono ?_; rintro e w' ⟨rfl, rfl⟩)
  go_ret3
  exact ⟨rfl, rfl⟩
set_option maxRecDepth 100000 in
theorem only_empty (w : World) (r : Nat) (h : w.cell? ⟨r, 0, none⟩ = some (.map none)) : Calls Try.prog 18 #[.pointer (some ⟨r, 0, none⟩)] w fun e w' => e = .returned (.tuple #[.string ByteArray.empty, .string ByteArray.empty, .int .i64 1]) ∧ w' = w := by
  have NN := Lib.hid (none_map w r none h)
  clear h
  go_enter Try.func18, Try.ntmps18
  go_wp2_with (go_at_call 23; refine (NN.out).mono ?_; rintro e w' ⟨rfl, rfl⟩)
  go_ret3
  exact ⟨rfl, rfl⟩
set_option maxRecDepth 100000 in
set_option maxHeartbeats 1600000 in
theorem ringNil_walk (s : ByteArray) (hs : s.size ≤ 140737488351232) (w : World) : Calls Try.prog 6 #[.string s] w (fun e w' => e = .returned (.bool true) ∧ Below w.heap.size w w') := by
  have hZ := At.ofAlloc w #[Value.map none, Value.int .u32 0, Value.int .i32 0, Value.int .u32 0, Value.slice none 0 0] 66
  have z0 := hZ.cell 0 _ rfl
  rw [Nat.zero_add] at z0
  have hnot : ∀ (x : Bool) (w : World), (Op.unary .not (.bool x)).run Try.prog w = .ok (.bool (!x)) w := fun _ _ => rfl
  have HB0 := Lib.hid ((Below.refl w.heap.size w).alloc (Nat.le_refl _) (Obj.cells #[Value.map none, Value.int .u32 0, Value.int .i32 0, Value.int .u32 0, Value.slice none 0 0] 66))
  have HZ := Lib.hid hZ
  have HL : Hid (w.heap.size < (w.alloc (Obj.cells #[Value.map none, Value.int .u32 0, Value.int .i32 0, Value.int .u32 0, Value.slice none 0 0] 66)).heap.size) := by show _ < (w.alloc _).heap.size; simp
  clear hZ
  go_enter Try.func6, Try.ntmps6
  have T1 : Hid (1 = 1) := rfl
  go_wp2_with (first
    | (go_at_call 14; have tok := T1; clear T1 tok; refine (find_nil _ s).mono ?_; rintro e w5 ⟨rfl, h5⟩; subst h5; have T2 : Hid (1 = 1) := rfl)
    | (go_at_call 14; have tok := T2; clear T2 tok; refine (find_empty _ w.heap.size s z0).mono ?_; rintro e w5 ⟨rfl, h5⟩; subst h5; have T3 : Hid (1 = 1) := rfl)
    | (go_at_call 18; have tok := T3; clear T3 tok; refine (only_nil _).mono ?_; rintro e w5 ⟨rfl, h5⟩; subst h5; have T4 : Hid (1 = 1) := rfl)
    | (go_at_call 18; have tok := T4; clear T4 tok; refine (only_empty _ w.heap.size z0).mono ?_; rintro e w5 ⟨rfl, h5⟩; subst h5; have T5 : Hid (1 = 1) := rfl)
    | (go_at_call 10; have tok := T5; clear T5 tok; refine (wakes_any _).mono ?_; rintro e w6 ⟨rfl, h6⟩; have y0 := (HZ.out.below h6 HL.out).cell 0 _ rfl; rw [Nat.zero_add] at y0; have HB6 := Lib.hid (HB0.out.trans (h6.mono HB0.out.size)); clear h6; have T6 : Hid (1 = 1) := rfl)
    | (go_at_call 16; have tok := T6; clear T6 tok; refine (has_empty _ _ s (.inl rfl)).mono ?_; rintro e w5 ⟨rfl, h5⟩; subst h5; have T7 : Hid (1 = 1) := rfl)
    | (go_at_call 16; have tok := T7; clear T7 tok; refine (has_empty _ _ s (.inr ⟨w.heap.size, rfl, y0⟩)).mono ?_; rintro e w5 ⟨rfl, h5⟩; subst h5; have T8 : Hid (1 = 1) := rfl)
    | (go_at_call 12; have tok := T8; clear T8 tok; refine (names_empty _ _ (.inl rfl)).mono ?_; rintro e w5 ⟨rfl, h5⟩; subst h5; have T9 : Hid (1 = 1) := rfl)
    | (go_at_call 12; have tok := T9; clear T9 tok; refine (names_empty _ _ (.inr ⟨w.heap.size, rfl, y0⟩)).mono ?_; rintro e w5 ⟨rfl, h5⟩; subst h5; have T10 : Hid (1 = 1) := rfl)
    | (go_at_call 20; have tok := T10; clear T10 tok; refine (uses_empty _ _ s (.inl rfl)).mono ?_; rintro e w5 ⟨rfl, h5⟩; subst h5; have T11 : Hid (1 = 1) := rfl)
    | (go_at_call 20; have tok := T11; clear T11 tok; refine (uses_empty _ _ s (.inr ⟨w.heap.size, rfl, y0⟩)).mono ?_; rintro e w5 ⟨rfl, h5⟩; subst h5; have T12 : Hid (1 = 1) := rfl))
  go_ret
  exact ⟨rfl, HB6.out⟩
end Rn
end Go.Proofs.Ytcegihdgnbjclaa
