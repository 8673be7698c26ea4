/- The document's telling: a length. -/
import Derived.Test.YteglahkgnggmgaaDoorDrV
namespace Go.Proofs.YteglahkgnggmgaaDoor
open Go.RowKit
set_option linter.unusedVariables false
set_option linter.unusedSimpArgs false
open Dr
set_option maxRecDepth 100000 in
set_option maxHeartbeats 1600000 in
theorem rlen_any (n : Nat) (hn : n < 281474976710656) (w : World) : Calls Tryd.prog 61 #[.int .i64 (n : Int)] w (RetS (hd n) w) := by
  by_cases h : n < 128
  · have e1 : (n : Int) < 128 := by omega
    have e2 : IntKind.u8.wrap (n : Int) = (n : Int) := du8_in n (by omega)
    have hcv := dcv_byte n (by omega) _ rfl
    rw [hd, if_pos h]
    clear h hn
    go_enter Tryd.func61, Tryd.ntmps61
    go_wp2_with fail
    go_ret
    exact ⟨_, rfl, tl_mk _, (Below.refl _ _).alloc (Nat.le_refl _) _⟩
  · have e1 : ¬ (n : Int) < 128 := by omega
    rw [hd, if_neg h]
    have HN := Lib.hid hn
    clear h hn
    go_enter Tryd.func61, Tryd.ntmps61
    go_wp2_with fail
    go_loopw [0, 3] (fun vm vD wr => ∃ (m : Nat) (D : ByteArray), vm = .int .i64 (m : Int) ∧ vD = .string D ∧ m ≤ n ∧ digs m ++ D.toList = digs n ∧ Below w.heap.size w wr) (fun vm _ _ => (intOf vm).toNat)
    case atStart => exact ⟨n, ByteArray.mk #[], rfl, rfl, Nat.le_refl _, by rw [show (ByteArray.mk #[]).toList = [] from tl_mk []]; simp, Below.refl _ _⟩
    case round =>
      obtain ⟨m, D, rfl, rfl, hm, hD, hb⟩ := hrel
      have HB := Lib.hid hb
      have HD := Lib.hid hD
      clear hb hD
      by_cases h0 : m = 0
      · subst h0
        obtain ⟨k, hk⟩ : ∃ k, D.size = k := ⟨_, rfl⟩
        have hDL : D.toList = digs n := by have h1 := HD.out; rw [digs_zero, List.nil_append] at h1; exact h1
        have hk6 : k ≤ 6 := by rw [← hk, ← tl_size, hDL]; exact digs_len 6 n HN.out
        obtain ⟨x, hx⟩ : ∃ x, 128 + k = x := ⟨_, rfl⟩
        have e6 : (128 : Int) + (k : Int) = (x : Int) := by omega
        have e5 : IntKind.i64.wrap (x : Int) = (x : Int) := wrap_fit x (by unfold maxLen; omega)
        have e7 : IntKind.u8.wrap (x : Int) = (x : Int) := du8_in x (by omega)
        obtain ⟨c, hc⟩ : ∃ c : ByteArray, c = ⟨[UInt8.ofNat x].toArray⟩ := ⟨_, rfl⟩
        have hcv := dcv_byte x (by omega) c hc
        have hcs : c.size = 1 := by rw [hc, size_mk]; rfl
        have hsz2 : ¬ 9223372036854775807 < c.size + D.size := by rw [hcs, hk]; omega
        have hsz : ¬ 9223372036854775807 < c.size + k := by rw [hcs]; omega
        have HF : Hid ((c ++ D).toList = UInt8.ofNat (128 + (digs n).length) :: digs n) := by
          show (c ++ D).toList = _
          rw [tl_app, hDL, hc, tl_mk, ← hDL, tl_size, hk, hx]
          rfl
        rw [show (((0 : Nat) : Int)) = (0 : Int) from rfl]
        clear hc hcs hk6 hx hDL hm
        go_wp2_with fail
        go_ret
        exact ⟨_, rfl, HF.out, HB.out.alloc HB.out.size _⟩
      · have e2 : (0 : Int) < (m : Int) := by omega
        obtain ⟨q, hq⟩ : ∃ q, m / 256 = q := ⟨_, rfl⟩
        obtain ⟨f, hf⟩ : ∃ f, m % 256 = f := ⟨_, rfl⟩
        have e3 : (m : Int) / 256 = (q : Int) := by omega
        have e4 : (m : Int) % 256 = (f : Int) := by omega
        have e5 : IntKind.u8.wrap (f : Int) = (f : Int) := du8_in f (by omega)
        have e6 : IntKind.i64.wrap (f : Int) = (f : Int) := wrap_fit f (by unfold maxLen; omega)
        have e7 : IntKind.i64.wrap (q : Int) = (q : Int) := wrap_fit q (by have := HN.out; unfold maxLen; omega)
        obtain ⟨c, hc⟩ : ∃ c : ByteArray, c = ⟨[UInt8.ofNat f].toArray⟩ := ⟨_, rfl⟩
        have hcv := dcv_byte f (by omega) c hc
        have HQ : Hid (q ≤ n ∧ q < m) := ⟨by omega, by omega⟩
        have HF : Hid (digs q ++ (c ++ D).toList = digs n) := by
          show digs q ++ (c ++ D).toList = _
          rw [← HD.out, digs_pos h0, hq, hf, tl_app, hc, tl_mk, List.append_assoc]
        have hsz : ¬ 9223372036854775807 < c.size + D.size := by
          have h1 : D.toList.length ≤ 8 := by
            have h2 := congrArg List.length HD.out
            rw [List.length_append] at h2
            have h3 := digs_len 6 n HN.out
            omega
          rw [tl_size] at h1
          rw [hc, size_mk]
          simp only [List.length_cons, List.length_nil]
          omega
        clear hc hf hq hm h0
        go_wp2_with fail
        go_roundw
        case rel => exact ⟨q, c ++ D, rfl, rfl, HQ.out.1, HF.out, HB.out.alloc HB.out.size _⟩
        case measure => have h1 := HQ.out.2; simp [intOf]; omega
end Go.Proofs.YteglahkgnggmgaaDoor
