/- The contract of the document's Words. -/
import Derived.Test.YtlfhlnfhmnddkaaAesBp
import Derived.Test.YtlfhlnfhmnddkaaAesC
namespace Go.Proofs.Ytlfhlnfhmnddkaa
open Go.RowKit
set_option linter.unusedVariables false
set_option linter.unusedSimpArgs false
theorem u32wrap_in (n : Int) (h0 : 0 ≤ n) (h1 : n < 4294967296) : IntKind.u32.wrap n = n := by
  simp only [IntKind.wrap, IntKind.bits, IntKind.signed]
  simp
  omega
/-- a row of words that may have been there for long -/
def RetWv (l : List UInt32) (w : World) (e : Ending) (w' : World) : Prop := ∃ g cap, e = .returned (.slice (some ⟨g, 0, none⟩) l.length cap) ∧ w.heap.size ≤ g ∧ At w' g 0 (wcells l) ∧ Below w.heap.size w w'
theorem wcells_cell (x : UInt32) (w : World) (g : Nat) (h : w.cell? ⟨g, 0, none⟩ = some (.int .u32 (x.toNat : Int))) : ∀ j v, (wcells [x])[j]? = some v → w.cell? ((⟨g, 0, none⟩ : Addr).add j) = some v := by
  intro j v hv
  match j, hv with
  | 0, hv => simp [wcells] at hv; subst hv; exact h
theorem wcells_take (l : List UInt32) (k : Nat) (hk : k < l.length) : wcells (l.take (k + 1)) = wcells (l.take k) ++ wcells [l.getD k 0] := by
  rw [List.take_add_one, List.getElem?_eq_getElem hk, wcells_append]
  simp [List.getD, hk]
set_option maxRecDepth 100000 in
set_option maxHeartbeats 3200000 in
theorem rwords_any (w : World) (g : Nat) (K : List UInt8) (hB : Box w g K) (hK : (expW K).length ≤ 60) :
    Calls Try.prog 19 #[.pointer (some ⟨g, 0, none⟩)] w (RetWv (expW K) w) := by
  obtain ⟨i0, hi, hz0, hz1, hz2⟩ := info_parts info38
  have HB := Lib.hid hB
  have hn0 : 0 < (expW K).length := by rw [expW_length]; omega
  clear hB
  go_enter Try.func19, Try.ntmps19
  go_wp2_with fail
  go_loopw [3, 4] (fun v i wr => ∃ k : Nat, k ≤ (expW K).length ∧ i = .int .i64 k ∧ wr.ownsRow w.heap.size 38 1 v k (wcells ((expW K).take k)) ∧ Below w.heap.size w wr) (fun _ i _ => (expW K).length - (intOf i).toNat)
  case atStart => exact ⟨0, Nat.zero_le _, rfl, ⟨rfl, .inl ⟨rfl, rfl⟩⟩, Below.refl _ _⟩
  case round =>
    obtain ⟨k, hk, rfl, hown, hbel⟩ := hrel
    have HO := Lib.hid hown
    clear hown
    have hsz := hbel.size
    obtain ⟨gw, cap, hcw, hW⟩ := (HB.out.below hbel (Nat.le_refl _)).word
    have HW := Lib.hid hW
    clear hW
    by_cases hlt : k < (expW K).length
    · have hkI : (k : Int) < ((expW K).length : Int) := by omega
      have hw0 := wbs_get (expW K) 0 (by omega) k hlt
      have hw1 := wbs_get (expW K) 1 (by omega) k hlt
      have hw2 := wbs_get (expW K) 2 (by omega) k hlt
      have hw3 := wbs_get (expW K) 3 (by omega) k hlt
      have hc0 := HW.out.b8 (4 * k + 0) (by rw [wbs_length]; omega)
      have hc1 := HW.out.b8 (4 * k + 1) (by rw [wbs_length]; omega)
      have hc2 := HW.out.b8 (4 * k + 2) (by rw [wbs_length]; omega)
      have hc3 := HW.out.b8 (4 * k + 3) (by rw [wbs_length]; omega)
      obtain ⟨x, hx⟩ : ∃ x, (expW K).getD k 0 = x := ⟨_, rfl⟩
      rw [hw0, hx, Nat.zero_add, Nat.mul_comm, Nat.add_zero] at hc0
      rw [hw1, hx, Nat.zero_add, Nat.mul_comm] at hc1
      rw [hw2, hx, Nat.zero_add, Nat.mul_comm] at hc2
      rw [hw3, hx, Nat.zero_add, Nat.mul_comm] at hc3
      have hv := wd_val (rw_ x 0) (rw_ x 1) (rw_ x 2) (rw_ x 3)
      rw [wd_rw] at hv
      have HX := Lib.hid hx
      have hb0 := (rw_ x 0).toNat_lt
      have hb1 := (rw_ x 1).toNat_lt
      have hb2 := (rw_ x 2).toNat_lt
      have hb3 := (rw_ x 3).toNat_lt
      have e0 : IntKind.u32.wrap ((rw_ x 0).toNat : Int) = ((rw_ x 0).toNat : Int) := u32wrap_in _ (by omega) (by omega)
      have e1 : IntKind.u32.wrap ((rw_ x 1).toNat : Int) = ((rw_ x 1).toNat : Int) := u32wrap_in _ (by omega) (by omega)
      have e2 : IntKind.u32.wrap ((rw_ x 2).toNat : Int) = ((rw_ x 2).toNat : Int) := u32wrap_in _ (by omega) (by omega)
      have e3 : IntKind.u32.wrap ((rw_ x 3).toNat : Int) = ((rw_ x 3).toNat : Int) := u32wrap_in _ (by omega) (by omega)
      have f0 : IntKind.u32.wrap (((rw_ x 0).toNat : Int) * 16777216) = ((rw_ x 0).toNat : Int) * 16777216 := u32wrap_in _ (by omega) (by omega)
      have f1 : IntKind.u32.wrap (((rw_ x 1).toNat : Int) * 65536) = ((rw_ x 1).toNat : Int) * 65536 := u32wrap_in _ (by omega) (by omega)
      have f2 : IntKind.u32.wrap (((rw_ x 2).toNat : Int) * 256) = ((rw_ x 2).toNat : Int) * 256 := u32wrap_in _ (by omega) (by omega)
      have hgw : gw < w.heap.size := by
        obtain ⟨gw', cap', hcw', hW'⟩ := HB.out.word
        rw [hbel.cell (p := ⟨g, 512, none⟩) HB.out.lt, hcw'] at hcw
        cases hcw
        exact hW'.lt (wbs_ne K)
      clear hw0 hw1 hw2 hw3 hx hb0 hb1 hb2 hb3
      go_wp2_with fail
      have HS : Hid (∀ w', Below w.heap.size w w' → w'.cell? ⟨g, 512, none⟩ = some (.slice (some ⟨gw, 0, none⟩) (expW K).length cap) ∧ w'.cell? ⟨gw, k * 4, none⟩ = some (.int .u8 ((rw_ x 0).toNat : Int)) ∧ w'.cell? ⟨gw, k * 4 + 1, none⟩ = some (.int .u8 ((rw_ x 1).toNat : Int)) ∧ w'.cell? ⟨gw, k * 4 + 2, none⟩ = some (.int .u8 ((rw_ x 2).toNat : Int)) ∧ w'.cell? ⟨gw, k * 4 + 3, none⟩ = some (.int .u8 ((rw_ x 3).toNat : Int))) := by
        intro w' hb
        have hg := HB.out.lt
        rw [hbel.cell (p := ⟨g, 512, none⟩) hg] at hcw
        rw [hbel.cell (p := ⟨gw, k * 4, none⟩) hgw] at hc0
        rw [hbel.cell (p := ⟨gw, k * 4 + 1, none⟩) hgw] at hc1
        rw [hbel.cell (p := ⟨gw, k * 4 + 2, none⟩) hgw] at hc2
        rw [hbel.cell (p := ⟨gw, k * 4 + 3, none⟩) hgw] at hc3
        exact ⟨by rw [hb.cell (p := ⟨g, 512, none⟩) hg]; exact hcw, by rw [hb.cell (p := ⟨gw, k * 4, none⟩) hgw]; exact hc0, by rw [hb.cell (p := ⟨gw, k * 4 + 1, none⟩) hgw]; exact hc1, by rw [hb.cell (p := ⟨gw, k * 4 + 2, none⟩) hgw]; exact hc2, by rw [hb.cell (p := ⟨gw, k * 4 + 3, none⟩) hgw]; exact hc3⟩
      have HO1 := Lib.hid ((HO.out.alloc (Obj.cells #[Value.int .u32 (x.toNat : Int)] 38)).drew)
      go_region_held3 (fun w' => w'.cell? ⟨g, 512, none⟩ = some (.slice (some ⟨gw, 0, none⟩) (expW K).length cap) ∧ w'.cell? ⟨gw, k * 4, none⟩ = some (.int .u8 ((rw_ x 0).toNat : Int)) ∧ w'.cell? ⟨gw, k * 4 + 1, none⟩ = some (.int .u8 ((rw_ x 1).toNat : Int)) ∧ w'.cell? ⟨gw, k * 4 + 2, none⟩ = some (.int .u8 ((rw_ x 2).toNat : Int)) ∧ w'.cell? ⟨gw, k * 4 + 3, none⟩ = some (.int .u8 ((rw_ x 3).toNat : Int)))
        (first | exact HS.out _ hb1 | exact HS.out _ (hbel.alloc hsz _).drew | exact HS.out _ hbel.drew | exact HS.out _ hbel)
        ((refine step_append_gen rfl (.tmp 14) (.tmp 57) 27 rfl w.heap.size 38 i0 (.int .u32 0) 1 4 Try.underlying27 hi hz0 hz1 hz2 rfl (by decide) u3 k _ rfl HO1.out wr.heap.size 1 1 (wcells [x]) rfl rfl (wcells_cell x _ _ (by simp)) (wcells_one _) (by unfold maxLen; omega) (by omega) (by simp; omega) ?_; intro v' w1 hown1 hgrow; have hb1 := ((hbel.alloc hsz (Obj.cells #[Value.int .u32 (x.toNat : Int)] 38)).drew).grown hgrow (by simp; omega) (fun b hb => (HO1.out.lt b hb).1)))
      clear hcw hc0 hc1 hc2 hc3 hv hkI e0 e1 e2 e3 f0 f1 f2
      rw [← HX.out, ← wcells_take _ _ hlt] at hown1
      have HO2 := Lib.hid hown1
      clear hown1 hgrow
      go_wp2_with fail
      go_roundw
      case rel => exact ⟨k + 1, by omega, by go_num, HO2.out, hb1⟩
      case measure => simp [intOf]; omega
    · have hkn : k = (expW K).length := by omega
      have HO2 := HO.out
      rw [hkn, List.take_of_length_le (Nat.le_refl _)] at HO2
      rw [hkn]
      rcases HO2.2 with ⟨_, h0⟩ | ⟨g', cap', cur, hv, hbg, hg, hn, hc, hcs, htake⟩
      · omega
      · have hA : At wr g' 0 (wcells (expW K)) := by
          rw [hv] at HO2
          exact At.ofOwn HO2
        have HA := Lib.hid hA
        have hkI : ¬ (((expW K).length : Int) < ((expW K).length : Int)) := by omega
        subst hv
        clear HO HO2 htake hcs hg hA hlt hkn
        go_wp2_with fail
        go_ret
        exact ⟨g', cap', rfl, hbg, HA.out, hbel⟩
end Go.Proofs.Ytlfhlnfhmnddkaa
