/- The field of 128 bits: the document's Text. -/
import Derived.Test.YtkedoiikkjeadaaDoorGhC
namespace Go.Proofs.YtkedoiikkjeadaaDoor
open Go.RowKit
set_option linter.unusedVariables false
set_option linter.unusedSimpArgs false
theorem convert_row {P : Program} {w : World} {g cap : Nat} {l : List UInt8} (h : At w g 0 (bcells l)) (src dst e : TypeId) (n : Nat) (hn : l.length = n)
    (hs : P.underlying src = some (.slice e)) (he : P.underlying e = some (.int .u8)) (hd : P.underlying dst = some .string) : (convert src dst (.slice (some ⟨g, 0, none⟩) n cap)).run P w = .ok (.string ⟨l.toArray⟩) w := by
  subst hn
  refine run_convert_bytes_back w src dst e ⟨g, 0, none⟩ cap l hs he hd fun j hj => ?_
  have hc := h.cell j _ (bcells_get l j hj)
  have : (⟨g, 0, none⟩ : Addr).add j = ⟨g, j, none⟩ := by unfold Addr.add; split <;> simp_all
  rw [this]
  rw [Nat.zero_add] at hc
  exact hc
theorem u8or (x y : UInt8) : bits .or .u8 (x.toNat : Int) (y.toNat : Int) = ((x ||| y).toNat : Int) := by
  have hx := x.toNat_lt
  have hy := y.toNat_lt
  have hT : ∀ n : Nat, n < 256 → (BitVec.ofInt 8 (n : Int)).toNat = n := fun n hn => by rw [BitVec.toNat_ofInt]; omega
  show IntKind.u8.wrap ((BitVec.ofInt 8 (x.toNat : Int) ||| BitVec.ofInt 8 (y.toNat : Int)).toNat : Nat) = _
  rw [BitVec.toNat_or, hT _ hx, hT _ hy, UInt8.toNat_or]
  have : x.toNat ||| y.toNat < 2 ^ 8 := Nat.or_lt_two_pow hx hy
  simp [IntKind.wrap, IntKind.bits, IntKind.signed]
  omega
abbrev gzb : Obj := Obj.cells #[Value.int .u8 0, Value.int .u8 0, Value.int .u8 0, Value.int .u8 0, Value.int .u8 0, Value.int .u8 0, Value.int .u8 0, Value.int .u8 0, Value.int .u8 0, Value.int .u8 0, Value.int .u8 0, Value.int .u8 0, Value.int .u8 0, Value.int .u8 0, Value.int .u8 0, Value.int .u8 0] 78
theorem el_by (w : World) (e : List Bool) : ∃ w0, (w.alloc (Obj.cells (lcells e).toArray 51)).alloc gzb = w0 ∧ At w0 w.heap.size 0 (lcells e) ∧ At w0 (w.heap.size + 1) 0 (bcells (tx e 0)) ∧ Below w.heap.size w w0 := by
  refine ⟨_, rfl, ?_, ?_, ?_⟩
  · have h := At.ofAlloc w (lcells e).toArray 51
    simp only at h
    exact h.alloc _
  · have h := At.ofAlloc (w.alloc (Obj.cells (lcells e).toArray 51)) #[Value.int .u8 0, Value.int .u8 0, Value.int .u8 0, Value.int .u8 0, Value.int .u8 0, Value.int .u8 0, Value.int .u8 0, Value.int .u8 0, Value.int .u8 0, Value.int .u8 0, Value.int .u8 0, Value.int .u8 0, Value.int .u8 0, Value.int .u8 0, Value.int .u8 0, Value.int .u8 0] 78
    rw [World.size_alloc] at h
    exact h
  · exact ((Below.refl _ _).alloc (Nat.le_refl _) _).alloc (by simp) _
theorem pow_shift (d : Nat) (h : d < 8) : (2 : Int) ^ d % 256 = ((UInt8.ofNat (2 ^ d)).toNat : Int) := by
  match d, h with
  | 0, _ | 1, _ | 2, _ | 3, _ | 4, _ | 5, _ | 6, _ | 7, _ => decide
set_option maxRecDepth 100000 in
theorem rtext_any (e : List Bool) (he : e.length = 128) (w : World) : Calls Tryd.prog 34 #[.agg (lcells e).toArray] w (fun r w' => ∃ s : ByteArray, r = .returned (.string s) ∧ s.toList = be 16 (Gh.V e 128) ∧ Below w.heap.size w w') := by
  have HE := Lib.hid he
  obtain ⟨z, hz⟩ : ∃ z : ByteArray, (⟨(tx e 128).toArray⟩ : ByteArray) = z := ⟨_, rfl⟩
  have HZ := Lib.hid hz
  clear he hz
  go_enter Tryd.func34, Tryd.ntmps34
  go_wp2_with fail
  obtain ⟨w0, hw0, hA0, hA1, hb0⟩ := el_by w e
  rw [hw0]
  clear hw0
  go_loopw [4] (fun i wr => ∃ k : Nat, k ≤ 128 ∧ i = .int .i64 (k : Int) ∧ At wr w.heap.size 0 (lcells e) ∧ At wr (w.heap.size + 1) 0 (bcells (tx e k)) ∧ Below w.heap.size w wr) (fun i _ => 128 - (intOf i).toNat)
  case atStart => exact ⟨0, Nat.zero_le _, rfl, hA0, hA1, hb0⟩
  case round =>
    clear hA0 hA1 hb0
    obtain ⟨k, hk, rfl, hA0, hA1, hb0⟩ := hrel
    have H0 := Lib.hid hA0
    have H1 := Lib.hid hA1
    clear hA0 hA1
    by_cases hlt : k < 128
    · have hc0 := H0.out.bl k (by rw [HE.out]; exact hlt)
      rw [Nat.zero_add] at hc0
      obtain ⟨b, hbe⟩ : ∃ b, e.getD k false = b := ⟨_, rfl⟩
      rw [hbe] at hc0
      have HBE := Lib.hid hbe
      clear hbe
      cases b
      · go_wp2_with fail
        go_roundw
        case rel => exact ⟨k + 1, by omega, by go_num, H0.out, by rw [tx, txStep, HBE.out, if_neg (by decide)]; exact H1.out, hb0⟩
        case measure => simp [intOf]; omega
      · have hq0 : k / 8 < 16 := by omega
        have hc1 := H1.out.b8 (k / 8) (by rw [tx_length]; exact hq0)
        have hfr := H1.out.froz (k / 8) (by rw [bcells_length, tx_length]; exact hq0)
        rw [Nat.zero_add] at hc1 hfr
        obtain ⟨x, hx⟩ : ∃ x, (tx e k).getD (k / 8) 0 = x := ⟨_, rfl⟩
        rw [hx] at hc1
        have HX := Lib.hid hx
        clear hx
        have ho : bits .or .u8 (x.toNat : Int) ((2 : Int) ^ (7 - k % 8) % 256) = ((x ||| UInt8.ofNat (2 ^ (7 - k % 8))).toNat : Int) := by rw [pow_shift _ (by omega), u8or]
        have HO := Lib.hid ho
        clear ho
        go_wp2_with fail
        go_roundw
        case rel =>
          refine ⟨k + 1, by omega, by go_num, H0.out.other _ _ _ (.inl (by omega)), ?_, hb0.setCell (p := ⟨w.heap.size + 1, k / 8, none⟩) (Nat.le_add_right _ _) _⟩
          rw [HO.out, tx, txStep, HBE.out, if_pos rfl]
          have h := H1.out.b8set (k / 8) (x ||| UInt8.ofNat (2 ^ (7 - k % 8)))
          rw [Nat.zero_add] at h
          rw [HX.out]
          exact h
        case measure => simp [intOf]; omega
    · have hkn : k = 128 := by omega
      subst hkn
      have hcv := convert_row (P := Tryd.prog) (cap := 16) H1.out 56 9 5 16 (tx_length _ _) Tryd.underlying56 Tryd.underlying5 Tryd.underlying9
      rw [HZ.out] at hcv
      go_wp2_with fail
      go_ret
      exact ⟨z, rfl, by rw [← HZ.out, tl_mk, tx_all], hb0⟩
end Go.Proofs.YtkedoiikkjeadaaDoor
