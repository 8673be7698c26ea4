/- What the document's reader tells of a text, as a feed that was written it. -/
import Derived.Test.YtilfidcomeandaaJfN
import Derived.Test.YtilfidcomeandaaJrY
namespace Go.Proofs.Ytilfidcomeandaa
open Go.RowKit
set_option linter.unusedVariables false
set_option linter.unusedSimpArgs false
namespace Jn
open Js Jf
open Dr (Rs Lm has lack)
def RetRd (F : Fs) (w : World) (e : Ending) (w' : World) : Prop := ∃ v, e = .returned (.tuple #[v, .int .i64 (F.ansP : Int), .int .i64 F.ansE, .int .i64 (F.taken : Int), .int .i64 (F.frames : Int), .int .i64 F.e]) ∧ Hid (Sv w' v F.ansL) ∧ Hid (Below w.heap.size w w')
set_option maxRecDepth 100000 in
set_option maxHeartbeats 1600000 in
theorem read_any (s : ByteArray) (d i b ro : Int) (hm : mayOk d i b ro = true) (hz : s.size ≤ 140737488351232) (w : World) :
    Calls Try.prog 12 #[.string s, .agg #[.int .i64 d, .int .i64 i, .int .i64 b, .int .i64 ro]] w (RetRd (f0.write (limL d i b) s.toList) w) := by
  obtain ⟨R, hrun, hrL, hrP, hrE, hrN⟩ := feed_runs s.toList (limL d i b)
  generalize f0.write (limL d i b) s.toList = F at hrun hrL hrP hrE hrN ⊢
  have HRUN := Lib.hid hrun
  have HRX := Lib.hid (And.intro hrL (And.intro hrP (And.intro hrE hrN)))
  have hy := mayOk_yes hm
  have RD := Lib.hid (fun w' => Jr.rread_any s (limL d i b) d i b ro (by show ((d.toNat : Nat) : Int) = d; omega) (by show ((i.toNat : Nat) : Int) = i; omega) (by show ((b.toNat : Nat) : Int) = b; omega) (by show i.toNat ≤ 4096; omega) (by show d.toNat ≤ 32; omega) (by show b.toNat ≤ 262144; omega) hz w')
  have HB0 : Hid (Below w.heap.size w (w.alloc (Obj.cells #[.int .i64 d, .int .i64 i, .int .i64 b, .int .i64 ro] 24))) := (Below.refl _ _).alloc (Nat.le_refl _) _
  clear hrun hrL hrP hrE hrN hy hm hz
  go_enter Try.func12, Try.ntmps12
  go_wp2_with fail
  refine (RD.out _).mono ?_
  rintro e w2 (⟨l, v, tk, fr, hr, rfl, ho, hb2⟩ | ⟨c, q, bb, tk, fr, hr, rfl, hb2⟩)
  · have HB2 : Hid (Below w.heap.size w w2) := HB0.out.trans (hb2.out.mono HB0.out.size)
    obtain ⟨rfl, rfl, rfl⟩ := RunsT.same _ _ hr HRUN.out
    unfold Jr.rg11
    have HO := ho
    clear hb2 hr ho
    go_wp2_with fail
    go_quiet (fail)
    go_wp2_with fail
    have hL : F.ansL = l := HRX.out.1.symm
    refine bodyPost_ret (v := .tuple #[v, .int .i64 0, .int .i64 0, .int .i64 (F.taken : Int), .int .i64 (F.frames : Int), .int .i64 0]) (by simp [results, Try.results12, go_sem]) rfl ⟨v, ?_, ?_, (HB2.out.alloc HB2.out.size _).trans (Js.below_drewN _ _ _)⟩
    · rw [← HRX.out.2.1, ← HRX.out.2.2.1, ← HRX.out.2.2.2]; rfl
    · rw [hL]; exact Sv.ofOwn (own_drewN (HO.out.alloc _) _)
  · have HB2 : Hid (Below w.heap.size w w2) := HB0.out.trans (hb2.out.mono HB0.out.size)
    obtain ⟨rfl, rfl, rfl⟩ := RunsT.same _ _ hr HRUN.out
    unfold Jr.rg11
    clear hb2 hr
    cases bb with
    | true =>
      go_wp2_with fail
      go_quiet (fail)
      go_wp2_with fail
      refine bodyPost_ret (v := .tuple #[.slice none 0 0, .int .i64 (q : Int), .int .i64 c, .int .i64 (F.taken : Int), .int .i64 (F.frames : Int), .int .i64 0]) (by simp [results, Try.results12, go_sem]) rfl ⟨.slice none 0 0, ?_, ?_, (HB2.out.alloc HB2.out.size _).trans (Js.below_drewN _ _ _)⟩
      · rw [← HRX.out.2.1, ← HRX.out.2.2.1, ← HRX.out.2.2.2]; rfl
      · rw [← HRX.out.1]; exact ⟨none, 0, rfl, fun h => absurd rfl h⟩
    | false =>
      go_wp2_with fail
      go_quiet (fail)
      go_wp2_with fail
      refine bodyPost_ret (v := .tuple #[.slice none 0 0, .int .i64 (q : Int), .int .i64 c, .int .i64 (F.taken : Int), .int .i64 (F.frames : Int), .int .i64 c]) (by simp [results, Try.results12, go_sem]) rfl ⟨.slice none 0 0, ?_, ?_, (HB2.out.alloc HB2.out.size _).trans (Js.below_drewN _ _ _)⟩
      · rw [← HRX.out.2.1, ← HRX.out.2.2.1, ← HRX.out.2.2.2]; rfl
      · rw [← HRX.out.1]; exact ⟨none, 0, rfl, fun h => absurd rfl h⟩
end Jn
end Go.Proofs.Ytilfidcomeandaa
