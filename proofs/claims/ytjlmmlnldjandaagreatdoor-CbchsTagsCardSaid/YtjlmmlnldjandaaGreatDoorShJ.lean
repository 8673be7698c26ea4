/- The document's digests: Known, Sum. -/
import Derived.Test.YtjlmmlnldjandaaGreatDoorShI3
import Derived.Test.YtjlmmlnldjandaaGreatDoorShI6
namespace Go.Proofs.YtjlmmlnldjandaaGreatDoor
open Go.RowKit
set_option linter.unusedVariables false
set_option linter.unusedSimpArgs false
def RetKn (b : Bool) (w : World) (e : Ending) (w' : World) : Prop := e = .returned (.bool b) ∧ w = w'
theorem known_cases (kind : Int) : kind = 256 ∨ kind = 384 ∨ kind = 512 ∨ Sh.known kind = false ∧ kind ≠ 256 ∧ kind ≠ 384 ∧ kind ≠ 512 := by
  by_cases h1 : kind = 256
  · exact .inl h1
  · by_cases h2 : kind = 384
    · exact .inr (.inl h2)
    · by_cases h3 : kind = 512
      · exact .inr (.inr (.inl h3))
      · refine .inr (.inr (.inr ⟨?_, h1, h2, h3⟩))
        rw [Sh.known, beq_eq_false_iff_ne.2 h1, beq_eq_false_iff_ne.2 h2, beq_eq_false_iff_ne.2 h3]
        rfl
set_option maxRecDepth 100000 in
theorem known_any (kind : Int) (w : World) : Calls Tryz.prog 55 #[.int .i64 kind] w (RetKn (Sh.known kind) w) := by
  rcases known_cases kind with rfl | rfl | rfl | ⟨hk, h1, h2, h3⟩
  · go_enter Tryz.func55, Tryz.ntmps55
    go_wp2_with fail
    go_ret
    exact ⟨rfl, rfl⟩
  · go_enter Tryz.func55, Tryz.ntmps55
    go_wp2_with fail
    go_ret
    exact ⟨rfl, rfl⟩
  · go_enter Tryz.func55, Tryz.ntmps55
    go_wp2_with fail
    go_ret
    exact ⟨rfl, rfl⟩
  · have e1 : (kind == 256) = false := beq_eq_false_iff_ne.2 h1
    have e2 : (kind == 384) = false := beq_eq_false_iff_ne.2 h2
    have e3 : (kind == 512) = false := beq_eq_false_iff_ne.2 h3
    have HK := Lib.hid hk
    rw [hk]
    clear hk h1 h2 h3
    go_enter Tryz.func55, Tryz.ntmps55
    go_wp2_with fail
    go_ret
    exact ⟨rfl, rfl⟩
/-- by a rule that was made -/
theorem rsum_ru (w : World) (r : Nat) (kind : Int) (hk : Sh.known kind = true) (hr : Ru w r kind (Sh.bits kind)) (s : ByteArray) (hs : s.size ≤ 35184372088832) :
    Calls Tryz.prog 80 #[.pointer (some ⟨r, 0, none⟩), .string s] w (RetSS (Sh.shL kind s.toList) w) := by
  rcases known_cases kind with rfl | rfl | rfl | ⟨hk2, _⟩
  · exact rsum32_any w r 256 hr 32 rfl (by decide) s hs
  · exact rsum64_any w r 384 hr 48 rfl (by decide) s hs
  · exact rsum64_any w r 512 hr 64 rfl (by decide) s hs
  · rw [hk] at hk2
    cases hk2
def shR (kind : Int) (s : List UInt8) : List UInt8 := if Sh.known kind then Sh.shL kind s else []
end Go.Proofs.YtjlmmlnldjandaaGreatDoor
