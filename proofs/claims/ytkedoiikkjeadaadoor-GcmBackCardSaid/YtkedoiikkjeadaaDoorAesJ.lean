/- The contract of text. -/
import Derived.Test.YtkedoiikkjeadaaDoorAesH
namespace Go.Proofs.YtkedoiikkjeadaaDoor
open Go.RowKit
set_option linter.unusedVariables false
set_option linter.unusedSimpArgs false
def txtF (S : List UInt32) (i : Nat) : UInt8 := rw_ (S.getD (i / 4) 0) (i % 4)
def txtL (S : List UInt32) : List UInt8 := (List.range 16).map (txtF S)
theorem txtL_length (S : List UInt32) : (txtL S).length = 16 := by simp [txtL]
/-- a block of bytes that begins with zeros -/
abbrev zb : Obj := Obj.cells #[Value.int .u8 0, Value.int .u8 0, Value.int .u8 0, Value.int .u8 0, Value.int .u8 0, Value.int .u8 0, Value.int .u8 0, Value.int .u8 0, Value.int .u8 0, Value.int .u8 0, Value.int .u8 0, Value.int .u8 0, Value.int .u8 0, Value.int .u8 0, Value.int .u8 0, Value.int .u8 0] 78
theorem col_byte (w : World) (S : List UInt32) : ∃ w0, (w.alloc (Obj.cells (wcells S).toArray 119)).alloc zb = w0 ∧ At w0 w.heap.size 0 (wcells S) ∧ At w0 (w.heap.size + 1) 0 (bcells (List.replicate 16 0)) ∧ Below w.heap.size w w0 ∧ w0.heap.size = w.heap.size + 2 := by
  refine ⟨_, rfl, ?_, ?_, ?_, by simp⟩
  · have h := At.ofAlloc w (wcells S).toArray 119
    simp only at h
    exact h.alloc _
  · have h := At.ofAlloc (w.alloc (Obj.cells (wcells S).toArray 119)) #[Value.int .u8 0, Value.int .u8 0, Value.int .u8 0, Value.int .u8 0, Value.int .u8 0, Value.int .u8 0, Value.int .u8 0, Value.int .u8 0, Value.int .u8 0, Value.int .u8 0, Value.int .u8 0, Value.int .u8 0, Value.int .u8 0, Value.int .u8 0, Value.int .u8 0, Value.int .u8 0] 78
    rw [World.size_alloc] at h
    exact h
  · exact ((Below.refl _ _).alloc (Nat.le_refl _) _).alloc (by simp) _
theorem convert_at {P : Program} {w : World} {g cap : Nat} {l : List UInt8} (h : At w g 0 (bcells l)) (src dst e : TypeId) (n : Nat) (hn : l.length = n)
    (hs : P.underlying src = some (.slice e)) (he : P.underlying e = some (.int .u8)) (hd : P.underlying dst = some .string) : (convert src dst (.slice (some ⟨g, 0, none⟩) n cap)).run P w = .ok (.string ⟨l.toArray⟩) w := by
  subst hn
  refine run_convert_bytes_back w src dst e ⟨g, 0, none⟩ cap l hs he hd fun j hj => ?_
  have hc := h.cell j _ (bcells_get l j hj)
  have : (⟨g, 0, none⟩ : Addr).add j = ⟨g, j, none⟩ := by unfold Addr.add; split <;> simp_all
  rw [this]
  rw [Nat.zero_add] at hc
  exact hc
set_option maxRecDepth 100000 in
set_option maxHeartbeats 3200000 in
theorem text_any (S : List UInt32) (w : World) (hS : S.length = 4) : Calls Tryd.prog 76 #[.agg (wcells S).toArray] w (RetS (txtL S) w) := by
  go_enter Tryd.func76, Tryd.ntmps76
  go_wp2_with fail
  obtain ⟨w0, hw0, hA0, hA1, hb0, hs0⟩ := col_byte w S
  rw [hw0]
  clear hw0
  have hA1' : At w0 (w.heap.size + 1) 0 (bcells (mixP 16 (txtF S) (fun _ => 0) 0)) := hA1
  clear hA1
  go_loopw [5] (fun i wr => ∃ k : Nat, k ≤ 16 ∧ i = .int .i64 k ∧ At wr w.heap.size 0 (wcells S) ∧ At wr (w.heap.size + 1) 0 (bcells (mixP 16 (txtF S) (fun _ => 0) k)) ∧ Below w.heap.size w wr) (fun i _ => 16 - (intOf i).toNat)
  case atStart => exact ⟨0, Nat.zero_le _, rfl, hA0, hA1', hb0⟩
  case round =>
    clear hA0 hA1' hb0 hs0
    obtain ⟨k, hk, rfl, hA0, hA1, hb0⟩ := hrel
    have H0 := Lib.hid hA0
    have H1 := Lib.hid hA1
    clear hA0 hA1
    by_cases hlt : k < 16
    · obtain ⟨q, hq⟩ : ∃ q : Nat, q = k / 4 := ⟨_, rfl⟩
      obtain ⟨r, hr⟩ : ∃ r : Nat, r = k % 4 := ⟨_, rfl⟩
      have hwq : (k : Int) / 4 = (q : Int) := by omega
      have hwr : (k : Int) % 4 = (r : Int) := by omega
      have hq4 : q < 4 := by omega
      have hr3 : r ≤ 3 := by omega
      have hqI : (q : Int) < 4 := by omega
      have hkI : (k : Int) < 16 := by omega
      have hc0 := H0.out.w32 q (by omega)
      obtain ⟨x, hx⟩ : ∃ x, S.getD q 0 = x := ⟨_, rfl⟩
      rw [hx, Nat.zero_add] at hc0
      have hc1 := H1.out.b8 k (by rw [mixP_length]; exact hlt)
      have hfr := H1.out.froz k (by rw [bcells_length, mixP_length]; exact hlt)
      rw [Nat.zero_add] at hc1 hfr
      have HZ : Hid (txtF S k = rw_ x r) := by
        show _ = _
        rw [txtF, ← hq, ← hr, hx]
      clear hx hq hr
      go_wp2_with fail
      refine (row_nat x r _ hr3).mono ?_
      rintro e w' ⟨rfl, rfl⟩
      go_wp2_with fail
      go_roundw
      case rel =>
        refine ⟨k + 1, by omega, by go_num, H0.out.other _ _ _ (.inl (by omega)), ?_, (hb0.setCell (p := ⟨w.heap.size + 1, k, none⟩) (by simp only; omega) _)⟩
        have h := H1.out.b8set k (rw_ x r)
        rw [← HZ.out, mixP_set, HZ.out, Nat.zero_add] at h
        exact h
      case measure => simp [intOf]; omega
    · have hkn : k = 16 := by omega
      subst hkn
      have h1 := H1.out
      rw [mixP_full] at h1
      have hcv := convert_at (P := Tryd.prog) (cap := 16) h1 56 9 5 16 (by simp) Tryd.underlying56 Tryd.underlying5 Tryd.underlying9
      go_wp2_with fail
      go_ret
      exact ⟨_, rfl, tl_mk _, hb0⟩
end Go.Proofs.YtkedoiikkjeadaaDoor
