/- What the laws of layer 5 lean on: an example, a boxed question, light; and their walks. -/
import Derived.Test.YtjlmmlnldjandaaDoorPbA
import Derived.Test.YtjlmmlnldjandaaDoorPbB
namespace Go.Proofs.YtjlmmlnldjandaaDoor
open Go.RowKit
set_option linter.unusedVariables false
set_option linter.unusedSimpArgs false
def pwdL : List UInt8 := [112, 97, 115, 115, 119, 111, 114, 100]
def saL : List UInt8 := [115, 97, 108, 116]
theorem Pb.exOne : (Pb.out 256 pwdL saL 2 1).take 4 = [174, 77, 12, 149] := by decide +kernel
theorem Pb.ex : Pb.key 256 pwdL saL 2 4 = [174, 77, 12, 149] := by
  rw [← Pb.key_of 256 pwdL saL 2 4 1 (by omega) (by rw [Pb.out_len 256 rfl _ _ _ (by omega)]; decide), Pb.exOne]
set_option maxRecDepth 100000 in
set_option maxHeartbeats 3200000 in
theorem wakes5_any (w : World) (hT : Tb w) : Calls Tryd.prog 7 #[] w (RetT w) := by
  have HS := pkey_any 256 ⟨#[112, 97, 115, 115, 119, 111, 114, 100]⟩ ⟨#[115, 97, 108, 116]⟩ (by decide) 2 4 w hT
  rw [show (⟨#[112, 97, 115, 115, 119, 111, 114, 100]⟩ : ByteArray).toList = pwdL from tl_mk pwdL, show (⟨#[115, 97, 108, 116]⟩ : ByteArray).toList = saL from tl_mk saL, show Pb.err 256 (⟨#[115, 97, 108, 116]⟩ : ByteArray).size 2 4 = 0 from rfl, show Pb.keyT 256 pwdL saL 2 4 = Pb.key 256 pwdL saL 2 4 from rfl, Pb.ex] at HS
  have HS2 := Lib.hid HS
  clear hT HS
  go_enter Tryd.func7, Tryd.ntmps7
  go_wp2_with fail
  refine HS2.out.mono ?_
  rintro e w1 ⟨s, rfl, hs, hb1⟩
  obtain rfl : s = ByteArray.mk #[174, 77, 12, 149] := tl_inj (by rw [hs]; exact (tl_mk _).symm)
  clear hs HS2
  go_wp2_with fail
  go_ret
  exact ⟨rfl, hb1⟩
/-- a question in memory -/
def Ak (w : World) (B : Nat) (k : Int) (P S : ByteArray) (r n : Int) : Prop :=
  w.cell? ⟨B, 0, none⟩ = some (.int .i64 k) ∧ w.cell? ⟨B, 1, none⟩ = some (.string P) ∧ w.cell? ⟨B, 2, none⟩ = some (.string S) ∧ w.cell? ⟨B, 3, none⟩ = some (.int .i64 r) ∧ w.cell? ⟨B, 4, none⟩ = some (.int .i64 n)
theorem Ak.below {w w' : World} {B B' : Nat} {k : Int} {P S : ByteArray} {r n : Int} (h : Ak w B k P S r n) (hb : Below B' w w') (hB : B < B') : Ak w' B k P S r n :=
  ⟨(hb.cell (p := ⟨B, 0, none⟩) hB).trans h.1, (hb.cell (p := ⟨B, 1, none⟩) hB).trans h.2.1, (hb.cell (p := ⟨B, 2, none⟩) hB).trans h.2.2.1, (hb.cell (p := ⟨B, 3, none⟩) hB).trans h.2.2.2.1, (hb.cell (p := ⟨B, 4, none⟩) hB).trans h.2.2.2.2⟩
theorem ak_of (w : World) (k : Int) (P S : ByteArray) (r n : Int) : ∃ w0, w.alloc (Obj.cells #[.int .i64 k, .string P, .string S, .int .i64 r, .int .i64 n] 23) = w0 ∧ Ak w0 w.heap.size k P S r n ∧ Below w.heap.size w w0 ∧ w.heap.size < w0.heap.size := by
  have h := At.ofAlloc w #[.int .i64 k, .string P, .string S, .int .i64 r, .int .i64 n] 23
  exact ⟨_, rfl, ⟨h.cell 0 _ rfl, h.cell 1 _ rfl, h.cell 2 _ rfl, h.cell 3 _ rfl, h.cell 4 _ rfl⟩, (Below.refl _ _).alloc (Nat.le_refl _) _, by simp⟩
def lightB (P S : ByteArray) (r : Int) : Bool := decide (r ≤ 40 ∧ P.size ≤ 2000 ∧ S.size ≤ 1024)
def RetBv (b : Bool) (w : World) (e : Ending) (w' : World) : Prop := e = .returned (.bool b) ∧ Below w.heap.size w w'
set_option maxRecDepth 100000 in
set_option maxHeartbeats 1600000 in
theorem light_any (k : Int) (P S : ByteArray) (r n : Int) (w : World) : Calls Tryd.prog 8 #[.agg #[.int .i64 k, .string P, .string S, .int .i64 r, .int .i64 n]] w (RetBv (lightB P S r) w) := by
  by_cases h1 : r ≤ 40
  · by_cases h2 : (P.size : Int) ≤ 2000
    · by_cases h3 : (S.size : Int) ≤ 1024
      · rw [show lightB P S r = true by rw [lightB, decide_eq_true_iff]; omega]
        go_enter Tryd.func8, Tryd.ntmps8
        go_wp2_with fail
        go_ret
        exact ⟨rfl, (Below.refl _ _).alloc (Nat.le_refl _) _⟩
      · rw [show lightB P S r = false by rw [lightB, decide_eq_false_iff_not]; omega]
        go_enter Tryd.func8, Tryd.ntmps8
        go_wp2_with fail
        go_ret
        exact ⟨rfl, (Below.refl _ _).alloc (Nat.le_refl _) _⟩
    · rw [show lightB P S r = false by rw [lightB, decide_eq_false_iff_not]; omega]
      go_enter Tryd.func8, Tryd.ntmps8
      go_wp2_with fail
      go_ret
      exact ⟨rfl, (Below.refl _ _).alloc (Nat.le_refl _) _⟩
  · rw [show lightB P S r = false by rw [lightB, decide_eq_false_iff_not]; omega]
    go_enter Tryd.func8, Tryd.ntmps8
    go_wp2_with fail
    go_ret
    exact ⟨rfl, (Below.refl _ _).alloc (Nat.le_refl _) _⟩
end Go.Proofs.YtjlmmlnldjandaaDoor
