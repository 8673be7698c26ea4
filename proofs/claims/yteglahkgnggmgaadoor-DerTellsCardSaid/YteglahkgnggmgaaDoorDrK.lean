/- Bodies of elements without elements: element.Right. -/
import Derived.Test.YteglahkgnggmgaaDoorDrJ
import Derived.Test.YteglahkgnggmgaaDoorShg
namespace Go.Proofs.YteglahkgnggmgaaDoor
open Go.RowKit
set_option linter.unusedVariables false
set_option linter.unusedSimpArgs false
open Dr
/-- is a body right? -/
def bodyN (t : Nat) (b : List UInt8) : Bool :=
  if t = 1 then decide (b = [0] ∨ b = [255]) else if t = 2 then numOk b else if t = 3 then bitsOk b else if t = 5 then decide (b = []) else if t = 6 then typeOk b else if t = 12 then Lib.validD b else true
def bodyOk (t : UInt8) (b : List UInt8) : Bool := bodyN t.toNat b
/-- the tables of the library's that tell UTF-8 -/
def U8 (w : World) : Prop := Lib.Utf8Tabs (SlaysValid_ren.g 3) (SlaysValid_ren.g 4) w
theorem valid_any (s : ByteArray) (w : World) (hs : s.size ≤ 140737488351232) (hU : U8 w) : Calls Tryd.prog 75 #[.string s] w (fun e w' => e = .returned (.bool (Lib.validD s.toList)) ∧ Below w.heap.size w w') := by
  rw [Lib.toList_data]
  exact Any.utf8_ValidString SlaysValid s w (by omega) hU
def RetBb2 (b : Bool) (w : World) (e : Ending) (w' : World) : Prop := e = .returned (.bool b) ∧ Below w.heap.size w w'
set_option maxRecDepth 100000 in
set_option maxHeartbeats 3200000 in
theorem right_any (t : Nat) (s : ByteArray) (hz : s.size ≤ 140737488351232) (w : World) (hU : U8 w) : Calls Tryd.prog 56 #[.int .u8 (t : Int), .string s] w (RetBb2 (bodyN t s.toList) w) := by
  have NU := Lib.hid (fun w => rightNumber_any s w)
  have BI := Lib.hid (fun w => rightBits_any s hz w)
  have TY := Lib.hid (fun w => rightType_any s hz w)
  have VA := Lib.hid (fun w h => valid_any s w hz h)
  have HU := Lib.hid hU
  obtain ⟨R, hR⟩ : ∃ R, bodyN t s.toList = R := ⟨_, rfl⟩
  rw [hR]
  unfold bodyN at hR
  clear hz hU
  by_cases h1 : t = 1
  · subst h1
    rw [if_pos rfl] at hR
    by_cases q1 : s.toList = [0]
    · have e1 : (s.toList == [0]) = true := by rw [beq_iff_eq]; exact q1
      obtain rfl : R = true := by rw [← hR]; exact decide_eq_true (Or.inl q1)
      clear hR q1
      go_enter Tryd.func56, Tryd.ntmps56
      go_wp2_with fail
      go_ret
      exact ⟨rfl, Below.refl _ _⟩
    · have e1 : (s.toList == [0]) = false := by rw [beq_eq_false_iff_ne]; exact q1
      obtain ⟨c, hc⟩ : ∃ c, (s.toList == [255]) = c := ⟨_, rfl⟩
      obtain rfl : R = c := by
        rw [← hR, ← hc]
        cases hq : (s.toList == [255])
        · exact decide_eq_false (fun h => by rcases h with h | h; exact q1 h; rw [beq_eq_false_iff_ne] at hq; exact hq h)
        · exact decide_eq_true (Or.inr (beq_iff_eq.1 hq))
      clear hR q1
      go_enter Tryd.func56, Tryd.ntmps56
      go_wp2_with fail
      go_ret
      exact ⟨rfl, Below.refl _ _⟩
  rw [if_neg h1] at hR
  have f1 : ((t : Int) == 1) = false := by rw [beq_eq_false_iff_ne]; omega
  by_cases h2 : t = 2
  · subst h2
    rw [if_pos rfl] at hR
    subst hR
    clear h1 f1
    go_enter Tryd.func56, Tryd.ntmps56
    go_wp2_with (go_at_call 72; refine (NU.out _).mono ?_; rintro e w1 ⟨rfl, rfl⟩)
    go_ret
    exact ⟨rfl, Below.refl _ _⟩
  rw [if_neg h2] at hR
  have f2 : ((t : Int) == 2) = false := by rw [beq_eq_false_iff_ne]; omega
  by_cases h3 : t = 3
  · subst h3
    rw [if_pos rfl] at hR
    subst hR
    clear h1 f1 h2 f2
    go_enter Tryd.func56, Tryd.ntmps56
    go_wp2_with (go_at_call 73; refine (BI.out _).mono ?_; rintro e w1 ⟨rfl, hb⟩)
    go_ret
    exact ⟨rfl, hb⟩
  rw [if_neg h3] at hR
  have f3 : ((t : Int) == 3) = false := by rw [beq_eq_false_iff_ne]; omega
  by_cases h5 : t = 5
  · subst h5
    rw [if_pos rfl] at hR
    obtain ⟨c, hc⟩ : ∃ c, (s.toList == []) = c := ⟨_, rfl⟩
    obtain rfl : R = c := by
      rw [← hR, ← hc]
      cases hq : (s.toList == [])
      · exact decide_eq_false (fun h => by rw [beq_eq_false_iff_ne] at hq; exact hq h)
      · exact decide_eq_true (beq_iff_eq.1 hq)
    clear hR h1 f1 h2 f2 h3 f3
    go_enter Tryd.func56, Tryd.ntmps56
    go_wp2_with fail
    go_ret
    exact ⟨rfl, Below.refl _ _⟩
  rw [if_neg h5] at hR
  have f5 : ((t : Int) == 5) = false := by rw [beq_eq_false_iff_ne]; omega
  by_cases h6 : t = 6
  · subst h6
    rw [if_pos rfl] at hR
    subst hR
    clear h1 f1 h2 f2 h3 f3 h5 f5
    go_enter Tryd.func56, Tryd.ntmps56
    go_wp2_with (go_at_call 74; refine (TY.out _).mono ?_; rintro e w1 ⟨rfl, rfl⟩)
    go_ret
    exact ⟨rfl, Below.refl _ _⟩
  rw [if_neg h6] at hR
  have f6 : ((t : Int) == 6) = false := by rw [beq_eq_false_iff_ne]; omega
  by_cases h12 : t = 12
  · subst h12
    rw [if_pos rfl] at hR
    subst hR
    clear h1 f1 h2 f2 h3 f3 h5 f5 h6 f6
    go_enter Tryd.func56, Tryd.ntmps56
    go_wp2_with (go_at_call 75; refine (VA.out _ HU.out).mono ?_; rintro e w1 ⟨rfl, hb⟩)
    go_ret
    exact ⟨rfl, hb⟩
  rw [if_neg h12] at hR
  have f12 : ((t : Int) == 12) = false := by rw [beq_eq_false_iff_ne]; omega
  subst hR
  clear h1 h2 h3 h5 h6 h12
  go_enter Tryd.func56, Tryd.ntmps56
  go_wp2_with fail
  go_ret
  exact ⟨rfl, Below.refl _ _⟩
end Go.Proofs.YteglahkgnggmgaaDoor
