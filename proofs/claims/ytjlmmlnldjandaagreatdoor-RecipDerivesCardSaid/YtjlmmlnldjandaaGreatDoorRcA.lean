/- Names and fillings: both sides; what a key and an iv are asked. -/
import Derived.Test.YtjlmmlnldjandaaGreatDoorRcP
namespace Go.Proofs.YtjlmmlnldjandaaGreatDoor
open Go.RowKit
set_option linter.unusedVariables false
set_option linter.unusedSimpArgs false
def nmB (kind : Int) : ByteArray := if kind = 256 then ⟨#[80, 66, 69, 83, 50, 45, 72, 83, 50, 53, 54, 43, 65, 49, 50, 56, 75, 87]⟩ else if kind = 384 then ⟨#[80, 66, 69, 83, 50, 45, 72, 83, 51, 56, 52, 43, 65, 49, 57, 50, 75, 87]⟩ else if kind = 512 then ⟨#[80, 66, 69, 83, 50, 45, 72, 83, 53, 49, 50, 43, 65, 50, 53, 54, 75, 87]⟩ else ByteArray.empty
def nmE (kind : Int) : Int := if kind = 256 then 0 else if kind = 384 then 0 else if kind = 512 then 0 else 11
def RetNm (kind : Int) (w : World) (e : Ending) (w' : World) : Prop := e = .returned (.tuple #[.string (nmB kind), .int .i64 (nmE kind)]) ∧ w = w'
set_option maxRecDepth 100000 in
set_option maxHeartbeats 1600000 in
theorem rcName_any (kind : Int) (w : World) : Calls Tryz.prog 68 #[.int .i64 kind] w (RetNm kind w) := by
  by_cases h1 : kind = 256
  · subst h1
    go_enter Tryz.func68, Tryz.ntmps68
    go_wp2_with fail
    go_ret2
    exact ⟨rfl, rfl⟩
  by_cases h2 : kind = 384
  · subst h2
    go_enter Tryz.func68, Tryz.ntmps68
    go_wp2_with fail
    go_ret2
    exact ⟨rfl, rfl⟩
  by_cases h3 : kind = 512
  · subst h3
    go_enter Tryz.func68, Tryz.ntmps68
    go_wp2_with fail
    go_ret2
    exact ⟨rfl, rfl⟩
  have e1 : (kind == 256) = false := by rw [beq_eq_false_iff_ne]; exact h1
  have e2 : (kind == 384) = false := by rw [beq_eq_false_iff_ne]; exact h2
  have e3 : (kind == 512) = false := by rw [beq_eq_false_iff_ne]; exact h3
  have hb : nmB kind = ByteArray.empty := by rw [nmB, if_neg h1, if_neg h2, if_neg h3]
  have he : nmE kind = 11 := by rw [nmE, if_neg h1, if_neg h2, if_neg h3]
  unfold RetNm
  rw [hb, he]
  clear hb he
  go_enter Tryz.func68, Tryz.ntmps68
  go_wp2_with fail
  go_ret2
  exact ⟨rfl, rfl⟩
def RetIs (v : Value) (w : World) (e : Ending) (w' : World) : Prop := e = .returned v ∧ w = w'
set_option maxRecDepth 100000 in
set_option maxHeartbeats 1600000 in
theorem laidOut_any (n : Nat) (hn : n ≤ 255) (w : World) : Calls Tryz.prog 62 #[.int .i64 (n : Int)] w (RetIs (.int .i64 (laidN n : Int)) w) := by
  obtain ⟨x1, hx1⟩ : ∃ x, x = 4 + n := ⟨_, rfl⟩
  obtain ⟨x2, hx2⟩ : ∃ x, x = x1 + 16 := ⟨_, rfl⟩
  obtain ⟨x3, hx3⟩ : ∃ x, x = x2 - 1 := ⟨_, rfl⟩
  obtain ⟨x4, hx4⟩ : ∃ x, x = x3 / 16 := ⟨_, rfl⟩
  obtain ⟨x5, hx5⟩ : ∃ x, x = x4 * 16 := ⟨_, rfl⟩
  have a1 : 4 + (n : Int) = (x1 : Int) := by omega
  have a2 : (x1 : Int) + 16 = (x2 : Int) := by omega
  have a3 : (x2 : Int) - 1 = (x3 : Int) := by omega
  have a4 : (x3 : Int).tdiv 16 = (x4 : Int) := by rw [hx4]; rfl
  have a5 : (x4 : Int) * 16 = (x5 : Int) := by omega
  have w1 : IntKind.i64.wrap (x1 : Int) = (x1 : Int) := wrap_in _ (by omega) (by omega)
  have w2 : IntKind.i64.wrap (x2 : Int) = (x2 : Int) := wrap_in _ (by omega) (by omega)
  have w3 : IntKind.i64.wrap (x3 : Int) = (x3 : Int) := wrap_in _ (by omega) (by omega)
  have w4 : IntKind.i64.wrap (x4 : Int) = (x4 : Int) := wrap_in _ (by omega) (by omega)
  have w5 : IntKind.i64.wrap (x5 : Int) = (x5 : Int) := wrap_in _ (by omega) (by omega)
  have hE : laidN n = max 32 x5 := by rw [laidN, hx5, hx4, hx3, hx2, hx1]; congr 3; omega
  have hE2 : ((laidN n : Nat) : Int) = max 32 (x5 : Int) := by rw [hE]; omega
  rw [hE2]
  clear hE hE2 hx1 hx2 hx3 hx4 hx5 hn
  go_enter Tryz.func62, Tryz.ntmps62
  go_wp2_with fail
  go_ret
  exact ⟨rfl, rfl⟩
def RetFl (n : Int) (w : World) (e : Ending) (w' : World) : Prop := e = .returned (.tuple #[.int .i64 (fillV n), .int .i64 (fillE n)]) ∧ w = w'
set_option maxRecDepth 100000 in
set_option maxHeartbeats 1600000 in
theorem rcFill_any (n : Int) (w : World) : Calls Tryz.prog 39 #[.int .i64 n] w (RetFl n w) := by
  unfold RetFl
  by_cases h1 : n < 3
  · rw [show fillV n = 0 by rw [fillV, if_neg (by omega)], show fillE n = 6 by rw [fillE, if_neg (by omega)]]
    go_enter Tryz.func39, Tryz.ntmps39
    go_wp2_with fail
    go_ret2
    exact ⟨rfl, rfl⟩
  by_cases h2 : 255 < n
  · rw [show fillV n = 0 by rw [fillV, if_neg (by omega)], show fillE n = 6 by rw [fillE, if_neg (by omega)]]
    go_enter Tryz.func39, Tryz.ntmps39
    go_wp2_with fail
    go_ret2
    exact ⟨rfl, rfl⟩
  obtain ⟨m, rfl⟩ := Int.eq_ofNat_of_zero_le (a := n) (by omega)
  rw [show fillV (m : Int) = (fillN m : Int) by rw [fillV, if_pos (by omega)]; rfl, show fillE (m : Int) = 0 by rw [fillE, if_pos (by omega)]]
  have LO := Lib.hid (fun w => laidOut_any m (by omega) w)
  have hg := laidN_ge m
  obtain ⟨l, hl⟩ : ∃ l, laidN m = l := ⟨_, rfl⟩
  obtain ⟨f, hf⟩ : ∃ f, fillN m = f := ⟨_, rfl⟩
  obtain ⟨y, hy⟩ : ∃ y, y = l - 4 := ⟨_, rfl⟩
  have hfe : f = y - m := by rw [← hf, fillN, hl, hy]
  rw [hl] at LO hg
  rw [hf]
  have a1 : (l : Int) - 4 = (y : Int) := by omega
  have a2 : (y : Int) - (m : Int) = (f : Int) := by omega
  have w1 : IntKind.i64.wrap (y : Int) = (y : Int) := wrap_in _ (by omega) (by omega)
  have w2 : IntKind.i64.wrap (f : Int) = (f : Int) := wrap_in _ (by omega) (by omega)
  clear hg hl hf hy hfe
  go_enter Tryz.func39, Tryz.ntmps39
  go_wp2_with fail
  refine (LO.out _).mono ?_
  rintro e w1 ⟨rfl, rfl⟩
  go_wp2_with fail
  go_ret2
  exact ⟨rfl, rfl⟩
theorem cfit0 : cfit 0 = true := by decide
set_option maxRecDepth 100000 in
set_option maxHeartbeats 1600000 in
theorem rcmay_any (key iv : ByteArray) (w : World) : Calls Tryz.prog 63 #[.string key, .string iv] w (fun e w' => e = .returned (.int .i64 (wroE key.size iv.size)) ∧ Below w.heap.size w w') := by
  have CH := Lib.hid (fun w => cChain_any key iv (ByteArray.mk #[]) w)
  rw [show cbgE key.size iv.size (cfit (ByteArray.mk #[]).size) = wroE key.size iv.size by rw [cbg_wro, show cfit (ByteArray.mk #[]).size = true from cfit0]; by_cases h : wroE key.size iv.size = 0 <;> simp [h]] at CH
  go_enter Tryz.func63, Tryz.ntmps63
  go_wp2_with fail
  refine (CH.out _).mono ?_
  rintro e w1 ⟨s, rfl, _, hb⟩
  go_wp2_with fail
  go_ret
  exact ⟨rfl, hb⟩
set_option maxRecDepth 100000 in
set_option maxHeartbeats 1600000 in
theorem rccheck_any (s : ByteArray) (h : 3 ≤ s.size) (w : World) : Calls Tryz.prog 64 #[.string s] w (RetS (xorL (s.toList.take 3) fffL) w) := by
  obtain ⟨x, hx⟩ : ∃ x, s.extract 0 3 = x := ⟨_, rfl⟩
  have hxl : x.toList = s.toList.take 3 := by rw [← hx, tl_ext0]
  have hxs : x.size ≤ 3 := by rw [← tl_size, hxl, List.length_take]; omega
  have h3 : (3 : Int) ≤ (s.size : Int) := by omega
  have HXL := Lib.hid hxl
  have XO := Lib.hid (fun w => xor_any x (ByteArray.mk #[255, 255, 255]) w (by omega) (by decide))
  rw [hxl, show (ByteArray.mk #[255, 255, 255]).toList = fffL from tl_mk fffL] at XO
  clear hxl hxs
  go_enter Tryz.func64, Tryz.ntmps64
  go_wp2_with fail
  refine (XO.out _).mono ?_
  rintro e w1 ⟨y, rfl, hy, hb⟩
  go_wp2_with fail
  go_ret
  exact ⟨y, rfl, hy, hb⟩
end Go.Proofs.YtjlmmlnldjandaaGreatDoor
