/- The document's telling: an element without elements. -/
import Derived.Test.YteglahkgnggmgaaDoorDwM
namespace Go.Proofs.YteglahkgnggmgaaDoor
open Go.RowKit
set_option linter.unusedVariables false
set_option linter.unusedSimpArgs false
open Dr
set_option maxRecDepth 100000 in
set_option maxHeartbeats 12800000 in
theorem told_leaf (w : World) (g : Nat) (a : Option Addr) (cap : Nat) (l A R : List Nd) (n : Nd) (ou : Bool) (hX : Xe w g a cap l false ou) (hl : l = A ++ n :: R) (hln : l.length ≤ 4096) (hk : n.kids < 0) (hb : n.body.length ≤ 262144) :
    Calls Tryd.prog 39 #[.pointer (some ⟨g, 0, none⟩), .int .i64 (A.length : Int)] w (DTold g a cap l [n] (encN n.tag n.body) true A.length ou w) := by
  obtain ⟨gl, o, rfl, hA, hgl⟩ := hX.ls
  have HX := Lib.hid hX
  obtain ⟨i, hi⟩ : ∃ i, A.length = i := ⟨_, rfl⟩
  have hil : i < l.length := by rw [hl, List.length_append, List.length_cons]; omega
  have hnd : l.getD i ⟨0, 0, []⟩ = n := by rw [hl, ← hi]; simp [List.getD]
  have hNc := ncell_atO hA i hil
  rw [hnd] at hNc
  have n0 := hNc.cell 0 _ rfl
  have n1 := hNc.cell 1 _ rfl
  have n2 := hNc.cell 2 _ rfl
  rw [Nat.add_zero] at n0
  obtain ⟨t, ht⟩ : ∃ t, n.tag.toNat = t := ⟨_, rfl⟩
  have ht2 : t < 256 := by rw [← ht]; exact n.tag.toNat_lt
  obtain ⟨bd, hbd⟩ : ∃ b : ByteArray, (⟨n.body.toArray⟩ : ByteArray) = b := ⟨_, rfl⟩
  have hbl : bd.toList = n.body := by rw [← hbd, tl_mk]
  obtain ⟨y, hy⟩ : ∃ y, bd.size = y := ⟨_, rfl⟩
  have hyb : n.body.length = y := by rw [← hbl, tl_size, hy]
  obtain ⟨kk, hkk⟩ : ∃ k, n.kids = k := ⟨_, rfl⟩
  rw [ht] at n0
  rw [hkk] at n1 hk
  rw [hbd] at n2
  have x0 := hX.at0.cell 0 _ rfl
  rw [Nat.zero_add] at x0
  obtain ⟨ln, hlnn⟩ : ∃ n, l.length = n := ⟨_, rfl⟩
  rw [hlnn] at x0
  have e1 : (i : Int) < (ln : Int) := by omega
  have e1n : i < ln := by omega
  have e3 : IntKind.i64.wrap ((i + 1 : Nat) : Int) = ((i + 1 : Nat) : Int) := wrap_fit (i + 1) (by unfold maxLen; omega)
  obtain ⟨i1, hi1⟩ : ∃ j, i + 1 = j := ⟨_, rfl⟩
  have e4 : (i : Int) + 1 = (i1 : Int) := by omega
  have e5 : IntKind.i64.wrap (i1 : Int) = (i1 : Int) := wrap_fit i1 (by unfold maxLen; omega)
  have RL := Lib.hid (fun w' => rlen_any y (by omega) w')
  obtain ⟨c, hc⟩ : ∃ c : ByteArray, c = ⟨[UInt8.ofNat t].toArray⟩ := ⟨_, rfl⟩
  have hcl : c.toList = [n.tag] := by rw [hc, tl_mk, ← ht]; simp
  have hcs : c.size = 1 := by rw [← tl_size, hcl]; rfl
  have hcv := dcv_byte t ht2 c hc
  have hcw := dcv_byteN t ht2 c hc
  have hcw1 : ∀ w' : World, (convert 42 9 (.slice (some ⟨w'.heap.size, 0, none⟩) 1 1)).run Tryd.prog ((w'.alloc (Obj.cells #[.int .u8 (t : Int)] 5)).drew) = .ok (.string c) ((w'.alloc (Obj.cells #[.int .u8 (t : Int)] 5)).drew) := fun w' => hcw w' 1
  have HU : Hid (∀ h : ByteArray, h.toList = hd y → (c ++ h ++ bd).toList = encN n.tag n.body) := fun h hh => by rw [tl_app, tl_app, hcl, hh, encN, hbl, hyb]; simp
  have HSZ : Hid (∀ h : ByteArray, h.toList = hd y → ¬ 9223372036854775807 < c.size + h.size ∧ ¬ 9223372036854775807 < c.size + h.size + y) := fun h hh => by
    have h1 := congrArg List.length hh
    rw [tl_size] at h1
    have h2 := hd_len y (by omega)
    omega
  have HBL : Hid ((encN n.tag n.body).length ≤ 300000) := by
    show _ ≤ _
    have h2 := hd_len n.body.length (by omega)
    rw [encN]
    simp only [List.length_cons, List.length_append]
    omega
  have HC := Lib.hid (And.intro hc (And.intro ht2 (And.intro hcl (And.intro hcs (And.intro hbl (And.intro hy (And.intro hyb hi1)))))))
  have HY := Lib.hid (show y ≤ 262144 by omega)
  have HB0 : Hid (Below w.heap.size w (w.alloc (Obj.cells #[.int .u8 (t : Int), .int .i64 kk, .string bd] 63))) := (Below.refl _ w).alloc (Nat.le_refl _) _
  have HT := Lib.hid (At.ofAlloc w #[.int .u8 (t : Int), .int .i64 kk, .string bd] 63)
  have HX0 := Lib.hid (hX.alloc (Obj.cells #[.int .u8 (t : Int), .int .i64 kk, .string bd] 63))
  rw [hi]
  clear hX hl hln hb hA hNc hil hnd hlnn hcl hcs hc hbl hyb ht hbd hi1
  go_enter Tryd.func39, Tryd.ntmps39
  go_wp2_with fail
  obtain ⟨J, hJ⟩ : ∃ J, w.heap.size = J := ⟨_, rfl⟩
  have HJJ := Lib.hid hJ
  rw [hJ] at HT
  rw [hJ]
  clear hJ
  obtain ⟨w0, hw0⟩ : ∃ x, w.alloc (Obj.cells #[.int .u8 (t : Int), .int .i64 kk, .string bd] 63) = x := ⟨_, rfl⟩
  rw [hw0] at HT HX0 HB0
  rw [hw0]
  clear hw0 n0 n1 n2 x0
  have hlt0 : Hid (J < w0.heap.size) := HT.out.lt (by simp)
  have t0 := HT.out.cell 0 _ rfl
  have t2 := HT.out.cell 2 _ rfl
  rw [Nat.zero_add] at t0 t2
  have t0A : ∀ ob : Obj, (w0.alloc ob).cell? ⟨J, 0, none⟩ = some (.int .u8 (t : Int)) := fun ob => by have h := (HT.out.alloc ob).cell 0 _ rfl; rw [Nat.zero_add] at h; exact h
  have t2A : ∀ ob : Obj, (w0.alloc ob).cell? ⟨J, 2, none⟩ = some (.string bd) := fun ob => (HT.out.alloc ob).cell 2 _ rfl
  have hbs : ¬ 9223372036854775807 < c.size + bd.size := by have h1 := HC.out.2.2.2.1; have h2 := HC.out.2.2.2.2.2.1; have h3 := HY.out; omega
  go_region_law (go_simp; go_at_call 61; refine (RL.out _).mono ?_; rintro e w3 ⟨h, rfl, hh, hb3⟩; have hs3 := HSZ.out h hh; obtain ⟨hs4, hs5⟩ := hs3; have HH := Lib.hid (HU.out h hh); have HX3 : Hid (Xe w3 g (some ⟨gl, o, none⟩) cap l false ou) := Xe.below (by repeat (first | exact (HX0).out | refine Xe.alloc ?_ _ | refine Xe.drewN ?_ 1 | refine Xe.drewN ?_ _)) hb3; have HB3 : Hid (Below w.heap.size w w3) := Below.trans (by repeat (first | exact (HB0).out | refine below_alloc1 ?_ (Nat.le_refl _) _ | refine Below.drew ?_)) (hb3.mono (by have := HB0.out.size; simp; omega)); (first | (have hcv3 := conv3 (g := w0.heap.size) t HC.out.2.1 c HC.out.1 (by first | exact (At.ofAlloc w0 #[Value.int .u8 (t : Int)] 5).drewN 1 | exact (At.ofAlloc w0 #[Value.int .u8 (t : Int)] 5)) hb3 (by simp); have hcv4 := conv3 (g := w0.heap.size) t HC.out.2.1 c HC.out.1 (by first | exact (At.ofAlloc w0 #[Value.int .u8 (t : Int)] 5).drewN 1 | exact (At.ofAlloc w0 #[Value.int .u8 (t : Int)] 5)) hb3.drew (by simp)) | skip); have HA3 : Hid (At w3 J 0 [Value.int .u8 (t : Int), Value.int .i64 kk, Value.string bd]) := At.below (by repeat (first | exact (HT).out | refine At.alloc ?_ _ | refine At.drewN ?_ 1 | refine At.drewN ?_ _)) hb3 (by have := hlt0.out; simp; omega); have ht3 := HA3.out.cell 0 _ rfl; rw [Nat.zero_add] at ht3; have ht5 := HA3.out.cell 2 _ rfl; have ht4 := (HA3.out.drewN 1).cell 0 _ rfl; rw [Nat.zero_add] at ht4; have ht6 : ∀ ob : Obj, (w3.alloc ob).cell? ⟨J, 2, none⟩ = some (.string bd) := (fun ob => (HA3.out.alloc ob).cell 2 _ rfl); have ht7 : ∀ ob : Obj, (w3.alloc ob).cell? ⟨J, 0, none⟩ = some (.int .u8 (t : Int)) := (fun ob => (HA3.out.alloc ob).cell 0 _ rfl); clear hh hb3)
  all_goals
    go_wp2_with fail
    go_ret2
    exact DTold.leaf HH.out HBL.out (by repeat (first | exact (HX3).out | refine Xe.alloc ?_ _ | refine Xe.drewN ?_ 1 | refine Xe.drewN ?_ _)) (by repeat (first | exact (HB3).out | refine below_alloc1 ?_ (Nat.le_refl _) _ | refine Below.drew ?_)) HC.out.2.2.2.2.2.2.2
end Go.Proofs.YteglahkgnggmgaaDoor
