/- Telling: what is still to come (trimmed, shape): plain words and walks. -/
import Derived.Test.YteglahkgnggmgaaDoorDrU
namespace Go.Proofs.YteglahkgnggmgaaDoor
open Go.RowKit
set_option linter.unusedVariables false
set_option linter.unusedSimpArgs false
open Dr
/-- what has ended is left out (the topmost stands first) -/
def tw (W : List Int) : List Int := W.dropWhile (· == 0)
theorem own_take {w : World} {B e size n m cap : Nat} {a : Option Addr} {xs : List Value} (h : w.ownsRow B e size (.slice a n cap) n xs) (hm : m ≤ n) (h0 : 0 < n) : w.ownsRow B e size (.slice a m cap) m (xs.take (m * size)) := by
  obtain ⟨hl, h⟩ := h
  have hms : m * size ≤ n * size := Nat.mul_le_mul_right _ hm
  refine ⟨by rw [List.length_take]; omega, ?_⟩
  rcases h with ⟨h1, h2⟩ | ⟨g, cap', cur, h1, h2, h3, h4, h5, h6, h7⟩
  · omega
  · cases h1
    refine .inr ⟨g, cap, cur, rfl, h2, h3, by omega, h5, h6, ?_⟩
    rw [← h7, List.take_take, Nat.min_eq_left hms]
theorem icells_take (l : List Int) (m : Nat) : (icells l).take m = icells (l.take m) := by simp [icells, List.map_take]
set_option maxRecDepth 100000 in
set_option maxHeartbeats 1600000 in
theorem trimmed_any (w : World) (k cap : Nat) (W : List Int) (hA : At w k 0 (icells W.reverse)) (hn : W.length ≤ 1000000) (hcap : W.length ≤ cap) :
    Calls Tryd.prog 53 #[.slice (some ⟨k, 0, none⟩) W.length cap] w (fun e w' => e = .returned (.slice (some ⟨k, 0, none⟩) (tw W).length cap) ∧ w = w') := by
  obtain ⟨n0, hn0⟩ : ∃ n, W.length = n := ⟨_, rfl⟩
  rw [hn0]
  have HN0 := Lib.hid hn0
  have HA := Lib.hid hA
  have HN := Lib.hid hn
  have HCP := Lib.hid hcap
  obtain ⟨R, hR⟩ : ∃ R, (tw W).length = R := ⟨_, rfl⟩
  rw [hR]
  have HR := Lib.hid hR
  clear hA hn hn0 hR hcap
  have hcl : n0 ≤ n0 := Nat.le_refl _
  go_enter Tryd.func53, Tryd.ntmps53
  go_wp2_with fail
  go_loop [0] (fun v => ∃ (D V : List Int), v = .slice (some ⟨k, 0, none⟩) V.length cap ∧ W = D ++ V ∧ tw V = tw W) (fun v => sliceLen v)
  case atStart => exact ⟨[], W, by rw [HN0.out], rfl, rfl⟩
  case round =>
    obtain ⟨D, V, rfl, hW, hT⟩ := hrel
    have HW := Lib.hid hW
    have HT := Lib.hid hT
    clear hW hT
    cases V with
    | nil =>
      have HF : Hid (R = 0) := by show R = 0; rw [← HR.out, ← HT.out]; rfl
      clear hcl
      go_wp2_with fail
      go_ret
      exact ⟨by rw [HF.out]; rfl, rfl⟩
    | cons z V =>
      obtain ⟨m, hm⟩ : ∃ m, V.length = m := ⟨_, rfl⟩
      have hcell : w.cell? ⟨k, m, none⟩ = some (.int .i64 z) := by
        have h1 := HA.out.cell m (.int .i64 z) (by
          rw [HW.out, icells, List.reverse_append, List.reverse_cons, List.map_append, List.map_append, List.append_assoc, List.getElem?_append_right (by simp [hm])]
          simp [hm])
        rw [Nat.zero_add] at h1
        exact h1
      have e4 : IntKind.i64.wrap (m : Int) = (m : Int) := wrap_fit m (by have h1 := HN.out; rw [HW.out, List.length_append, List.length_cons, hm] at h1; unfold maxLen; omega)
      have e5 : (m : Int) < (m : Int) + 1 := by omega
      have hmc : (m : Int) ≤ (cap : Int) := by have h1 := HCP.out; rw [HW.out, List.length_append, List.length_cons, hm] at h1; omega
      by_cases hz : z = 0
      · subst hz
        have HM := Lib.hid hm
        clear hcl
        go_wp2_with fail
        go_round
        case rel => exact ⟨D ++ [0], V, by rw [HM.out], by rw [HW.out]; simp, by rw [← HT.out]; rfl⟩
        case measure => have h1 := HM.out; simp [sliceLen]; omega
      · have e1 : (z == 0) = false := by rw [beq_eq_false_iff_ne]; exact hz
        have HF : Hid (R = m + 1) := by show R = m + 1; rw [← HR.out, ← HT.out, tw, List.dropWhile_cons]; simp [e1, hm]
        clear hcl
        go_wp2_with fail
        go_ret
        exact ⟨by rw [HF.out]; rfl, rfl⟩
theorem dcv_at {P : Program} {w : World} {g cap : Nat} {l : List UInt8} (h : At w g 0 (bcells l)) (src dst e : TypeId) (n : Nat) (hn : l.length = n)
    (hs : P.underlying src = some (.slice e)) (he : P.underlying e = some (.int .u8)) (hd : P.underlying dst = some .string) : (convert src dst (.slice (some ⟨g, 0, none⟩) n cap)).run P w = .ok (.string ⟨l.toArray⟩) w := by
  subst hn
  refine run_convert_bytes_back w src dst e ⟨g, 0, none⟩ cap l hs he hd fun j hj => ?_
  have hc := h.cell j _ (bcells_get l j hj)
  have : (⟨g, 0, none⟩ : Addr).add j = ⟨g, j, none⟩ := by unfold Addr.add; split <;> simp_all
  rw [this]
  rw [Nat.zero_add] at hc
  exact hc
set_option maxRecDepth 100000 in
set_option maxHeartbeats 3200000 in
theorem dcv_byte (f : Nat) (hf : f < 256) (c : ByteArray) (hc : c = ⟨[UInt8.ofNat f].toArray⟩) : ∀ w' : World, (convert 42 9 (.slice (some ⟨w'.heap.size, 0, none⟩) 1 1)).run Tryd.prog (w'.alloc (Obj.cells #[.int .u8 (f : Int)] 5)) = .ok (.string c) (w'.alloc (Obj.cells #[.int .u8 (f : Int)] 5)) := fun w' => by
  have e9 : (f : Int) = ((UInt8.ofNat f).toNat : Int) := by simp; omega
  have hcv := dcv_at (P := Tryd.prog) (cap := 1) (l := [UInt8.ofNat f]) (At.ofAlloc w' #[.int .u8 ((UInt8.ofNat f).toNat : Int)] 5) 42 9 5 1 rfl Tryd.underlying42 Tryd.underlying5 Tryd.underlying9
  rw [← hc, ← e9] at hcv
  exact hcv
theorem tl_app (a b : ByteArray) : (a ++ b).toList = a.toList ++ b.toList := by rw [Lib.toList_data, Lib.toList_data, Lib.toList_data]; simp [ByteArray.data_append]
theorem du8_in (t : Nat) (h : t < 256) : IntKind.u8.wrap (t : Int) = (t : Int) := by simp [IntKind.wrap, IntKind.bits, IntKind.signed]; omega
/-- a length's bytes, the greatest first -/
def digs (n : Nat) : List UInt8 := if h : n = 0 then [] else digs (n / 256) ++ [UInt8.ofNat (n % 256)]
termination_by n
decreasing_by omega
theorem digs_zero : digs 0 = [] := by rw [digs]; simp
theorem digs_pos {n : Nat} (h : n ≠ 0) : digs n = digs (n / 256) ++ [UInt8.ofNat (n % 256)] := by rw [digs]; simp [h]
theorem digs_len : ∀ (k n : Nat), n < 256 ^ k → (digs n).length ≤ k
  | 0, n, h => by
    have : n = 0 := by simpa using h
    rw [this, digs_zero]
    exact Nat.le_refl _
  | k + 1, n, h => by
    by_cases h0 : n = 0
    · rw [h0, digs_zero]; exact Nat.zero_le _
    · rw [digs_pos h0, List.length_append]
      have := digs_len k (n / 256) (by rw [Nat.pow_succ] at h; omega)
      simp only [List.length_cons, List.length_nil]
      omega
def hd (n : Nat) : List UInt8 := if n < 128 then [UInt8.ofNat n] else UInt8.ofNat (128 + (digs n).length) :: digs n
set_option maxRecDepth 100000 in
set_option maxHeartbeats 1600000 in
theorem head_any (n : Nat) (hn : n < 281474976710656) (w : World) : Calls Tryd.prog 59 #[.int .i64 (n : Int)] w (RetS (hd n) w) := by
  by_cases h : n < 128
  · have e1 : (n : Int) < 128 := by omega
    have hcv := dcv_byte n (by omega) _ rfl
    rw [hd, if_pos h]
    clear h hn
    go_enter Tryd.func59, Tryd.ntmps59
    go_wp2_with fail
    go_ret
    exact ⟨_, rfl, tl_mk _, (Below.refl _ _).alloc (Nat.le_refl _) _⟩
  · have e1 : ¬ (n : Int) < 128 := by omega
    rw [hd, if_neg h]
    have HN := Lib.hid hn
    clear h hn
    go_enter Tryd.func59, Tryd.ntmps59
    go_wp2_with fail
    go_loopw [0, 3] (fun vm vD wr => ∃ (m : Nat) (D : ByteArray), vm = .int .i64 (m : Int) ∧ vD = .string D ∧ m ≤ n ∧ digs m ++ D.toList = digs n ∧ Below w.heap.size w wr) (fun vm _ _ => (intOf vm).toNat)
    case atStart => exact ⟨n, ByteArray.mk #[], rfl, rfl, Nat.le_refl _, by rw [show (ByteArray.mk #[]).toList = [] from tl_mk []]; simp, Below.refl _ _⟩
    case round =>
      obtain ⟨m, D, rfl, rfl, hm, hD, hb⟩ := hrel
      have HB := Lib.hid hb
      have HD := Lib.hid hD
      clear hb hD
      by_cases h0 : m = 0
      · subst h0
        obtain ⟨k, hk⟩ : ∃ k, D.size = k := ⟨_, rfl⟩
        have hDL : D.toList = digs n := by have h1 := HD.out; rw [digs_zero, List.nil_append] at h1; exact h1
        have hk6 : k ≤ 6 := by rw [← hk, ← tl_size, hDL]; exact digs_len 6 n HN.out
        have e5 : IntKind.u8.wrap (k : Int) = (k : Int) := du8_in k (by omega)
        obtain ⟨x, hx⟩ : ∃ x, 128 + k = x := ⟨_, rfl⟩
        have e6 : (128 : Int) + (k : Int) = (x : Int) := by omega
        have e7 : IntKind.u8.wrap (x : Int) = (x : Int) := du8_in x (by omega)
        obtain ⟨c, hc⟩ : ∃ c : ByteArray, c = ⟨[UInt8.ofNat x].toArray⟩ := ⟨_, rfl⟩
        have hcv := dcv_byte x (by omega) c hc
        have hcs : c.size = 1 := by rw [hc, size_mk]; rfl
        have hsz : ¬ 9223372036854775807 < c.size + k := by rw [hcs]; omega
        have hsz2 : ¬ 9223372036854775807 < c.size + D.size := by rw [hcs, hk]; omega
        have HF : Hid ((c ++ D).toList = UInt8.ofNat (128 + (digs n).length) :: digs n) := by
          show (c ++ D).toList = _
          rw [tl_app, hDL, hc, tl_mk, ← hDL, tl_size, hk, hx]
          rfl
        rw [show (((0 : Nat) : Int)) = (0 : Int) from rfl]
        clear hc hcs hk6 hx hDL hm
        go_wp2_with fail
        go_ret
        exact ⟨_, rfl, HF.out, HB.out.alloc HB.out.size _⟩
      · have e2 : (0 : Int) < (m : Int) := by omega
        obtain ⟨q, hq⟩ : ∃ q, m / 256 = q := ⟨_, rfl⟩
        obtain ⟨f, hf⟩ : ∃ f, m % 256 = f := ⟨_, rfl⟩
        have e3 : (m : Int) / 256 = (q : Int) := by omega
        have e4 : (m : Int) % 256 = (f : Int) := by omega
        obtain ⟨c, hc⟩ : ∃ c : ByteArray, c = ⟨[UInt8.ofNat f].toArray⟩ := ⟨_, rfl⟩
        have hcv := dcv_byte f (by omega) c hc
        have HQ : Hid (q ≤ n ∧ q < m) := ⟨by omega, by omega⟩
        have HF : Hid (digs q ++ (c ++ D).toList = digs n) := by
          show digs q ++ (c ++ D).toList = _
          rw [← HD.out, digs_pos h0, hq, hf, tl_app, hc, tl_mk, List.append_assoc]
        have hsz : ¬ 9223372036854775807 < c.size + D.size := by
          have h1 : D.toList.length ≤ 8 := by
            have h2 := congrArg List.length HD.out
            rw [List.length_append] at h2
            have h3 := digs_len 6 n HN.out
            omega
          rw [tl_size] at h1
          rw [hc, size_mk]
          simp only [List.length_cons, List.length_nil]
          omega
        clear hc hf hq hm h0
        go_wp2_with fail
        go_roundw
        case rel => exact ⟨q, c ++ D, rfl, rfl, HQ.out.1, HF.out, HB.out.alloc HB.out.size _⟩
        case measure => have h1 := HQ.out.2; simp [intOf]; omega
end Go.Proofs.YteglahkgnggmgaaDoor
