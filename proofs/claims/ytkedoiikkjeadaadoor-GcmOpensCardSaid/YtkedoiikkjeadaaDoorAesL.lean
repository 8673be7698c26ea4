/- The contract of Encrypt. -/
import Derived.Test.YtkedoiikkjeadaaDoorAesI
import Derived.Test.YtkedoiikkjeadaaDoorAesJ
namespace Go.Proofs.YtkedoiikkjeadaaDoor
open Go.RowKit
set_option linter.unusedVariables false
set_option linter.unusedSimpArgs false
def encN (W : List UInt32) : Nat → Nat → List UInt32 → List UInt32
  | 0, _, s => s
  | n + 1, j, s => encN W n (j + 1) (addL (rouL s) W (4 * j))
def encW (W : List UInt32) (B : List UInt8) : List UInt8 := txtL (addL (lasL gsub 1 2 3 (encN W (W.length / 4 - 2) 1 (addL (keyL B 4) W 0))) W (W.length - 4))
def encL (K B : List UInt8) : List UInt8 := encW (expW K) B
theorem encL_length (K B : List UInt8) : (encL K B).length = 16 := by rw [encL, encW, txtL_length]
theorem Ciph.below {B : Nat} {w w' : World} {g : Nat} {K : List UInt8} (h : Ciph w g K) (hb : Below B w w') (hg : g < B) : Ciph w' g K := by
  obtain ⟨gw, cap, h1, h2, h3, h4, h5⟩ := h
  exact ⟨gw, cap, h1, h2.below hb hg, h3.below hb (by omega), h4.below hb hg, h5.below hb hg⟩
theorem Ciph.lt {w : World} {g : Nat} {K : List UInt8} (h : Ciph w g K) : g < w.heap.size := by
  obtain ⟨gw, cap, h1, h2, h3, h4, h5⟩ := h
  exact h2.lt (by simp)
theorem Ciph.sub {w : World} {g : Nat} {K : List UInt8} (h : Ciph w g K) : At w g 1 (bcells sboxL) := by
  obtain ⟨gw, cap, h1, h2, h3, h4, h5⟩ := h
  exact h4
theorem Ciph.word {w : World} {g : Nat} {K : List UInt8} (h : Ciph w g K) : ∃ gw cap, w.cell? ⟨g, 0, none⟩ = some (.slice (some ⟨gw, 0, none⟩) (expW K).length cap) := by
  obtain ⟨gw, cap, h1, h2, h3, h4, h5⟩ := h
  exact ⟨gw, cap, h2.cell 0 _ rfl⟩
theorem Ciph.sets {w : World} {g : Nat} {K : List UInt8} (h : Ciph w g K) (gs : Nat) (hs : g < gs) (vs : List Value) : Ciph (w.setCells gs 0 vs) g K := by
  obtain ⟨gw, cap, h1, h2, h3, h4, h5⟩ := h
  exact ⟨gw, cap, h1, h2.apartSets (.inl (by omega)), h3.apartSets (.inl (by omega)), h4.apartSets (.inl (by omega)), h5.apartSets (.inl (by omega))⟩
theorem wlen {K : List UInt8} (h : K.length = 16 ∨ K.length = 24 ∨ K.length = 32) : ∃ M, (expW K).length = 4 * M + 4 ∧ 10 ≤ M ∧ M ≤ 14 := by
  rw [expW_length]
  rcases h with h | h | h <;> rw [h]
  · exact ⟨10, rfl, by omega, by omega⟩
  · exact ⟨12, rfl, by omega, by omega⟩
  · exact ⟨14, rfl, by omega, by omega⟩
set_option maxRecDepth 100000 in
set_option maxHeartbeats 6400000 in
theorem encrypt_any (b : ByteArray) (w : World) (g : Nat) (K : List UInt8) (hC : Ciph w g K) (hK : K.length = 16 ∨ K.length = 24 ∨ K.length = 32) (hb : b.size = 16) : Calls Tryd.prog 53 #[.pointer (some ⟨g, 0, none⟩), .string b] w (RetSE (encL K b.toList) 0 w) := by
  obtain ⟨M, hM, hM1, hM2⟩ := wlen hK
  have hg := hC.lt
  have HC := Lib.hid hC
  have HM := Lib.hid hM
  clear hC hM
  go_enter Tryd.func53, Tryd.ntmps53
  go_wp2_with fail
  refine (start_any b _ g K HC.out hb).mono ?_
  rintro e w1 ⟨rfl, hb1⟩
  have hs1 := hb1.size
  have hA1 := At.ofAlloc w1 #[Value.int .u32 0, Value.int .u32 0, Value.int .u32 0, Value.int .u32 0] 119
  have hst1 := run_store_at (P := Tryd.prog) hA1 (cs := wcells (keyL b.toList 4)) (by rw [wcells_length, keyL_length]; rfl) (wcells_one _)
  have hC1 : Ciph ((w1.alloc zc).setCells w1.heap.size 0 (wcells (keyL b.toList 4))) g K := ((HC.out.below hb1 hg).below ((Below.refl _ _).alloc (Nat.le_refl _) zc) (by omega)).sets _ (by omega) _
  have hA1' : At ((w1.alloc zc).setCells w1.heap.size 0 (wcells (keyL b.toList 4))) w1.heap.size 0 (wcells (keyL b.toList 4)) := hA1.ofSets (by rw [wcells_length, keyL_length]; rfl)
  have hb1' : Below w.heap.size w ((w1.alloc zc).setCells w1.heap.size 0 (wcells (keyL b.toList 4))) := below_sets _ _ hs1 _ _ _ _ (hb1.alloc hs1 zc)
  have hsz1 : ((w1.alloc zc).setCells w1.heap.size 0 (wcells (keyL b.toList 4))).heap.size = w1.heap.size + 1 := by rw [size_sets]; simp
  generalize hw2 : (w1.alloc zc).setCells w1.heap.size 0 (wcells (keyL b.toList 4)) = w2 at hst1 hC1 hA1' hb1' hsz1
  obtain ⟨gw, cap, hcw⟩ := hC1.word
  obtain ⟨L, hL⟩ : ∃ L : Nat, L = 4 * M := ⟨_, rfl⟩
  have hLi : (((expW K).length : Nat) : Int) - 4 = (L : Int) := by rw [HM.out]; omega
  have HL := Lib.hid hL
  have hLb : L ≤ 56 := by omega
  have hg1 : g < w1.heap.size := by omega
  clear hA1 hw2 hL
  go_wp2_with (refine wpList_load_at 119 (.tmp 6) w1.heap.size 0 (wcells (keyL b.toList 4)) _ hA1' Tryd.underlying119 rfl (wlen4 _ (keyL_length _ _)) ⟨rfl, rfl, rfl⟩ ?_)
  obtain ⟨gs, hgs⟩ : ∃ gs, w1.heap.size = gs := ⟨_, rfl⟩
  rw [hgs] at hg1 hs1 hA1' hsz1 ⊢
  clear hgs hst1 hcw hb1
  refine (add_any (keyL b.toList 4) 0 w2 g K hC1 (keyL_length _ _) (by rw [HM.out]; omega) (by rw [HM.out]; omega)).mono ?_
  rintro e w3 ⟨rfl, hb3⟩
  have hA3 := hA1'.below hb3 (by omega)
  have hst3 := run_store_at (P := Tryd.prog) hA3 (cs := wcells (addL (keyL b.toList 4) (expW K) 0)) (by rw [wcells_length, wcells_length, addL_length, keyL_length]) (wcells_one _)
  have hC3 : Ciph (w3.setCells gs 0 (wcells (addL (keyL b.toList 4) (expW K) 0))) g K := (hC1.below hb3 (by omega)).sets _ hg1 _
  have hA3' : At (w3.setCells gs 0 (wcells (addL (keyL b.toList 4) (expW K) 0))) gs 0 (wcells (addL (keyL b.toList 4) (expW K) 0)) := hA3.ofSets (by rw [wcells_length, wcells_length, addL_length, keyL_length])
  have hb3' : Below w.heap.size w (w3.setCells gs 0 (wcells (addL (keyL b.toList 4) (expW K) 0))) := below_sets _ _ hs1 _ _ _ _ (hb1'.trans (hb3.mono (by omega)))
  have hsz3 : gs < (w3.setCells gs 0 (wcells (addL (keyL b.toList 4) (expW K) 0))).heap.size := by rw [size_sets]; have := hb3.size; omega
  generalize hw4 : w3.setCells gs 0 (wcells (addL (keyL b.toList 4) (expW K) 0)) = w4 at hst3 hC3 hA3' hb3' hsz3
  have hl3 : (addL (keyL b.toList 4) (expW K) 0).length = 4 := addL_length _ _ _
  have hend : encN (expW K) (M - 1) 1 (addL (keyL b.toList 4) (expW K) 0) = encN (expW K) ((expW K).length / 4 - 2) 1 (addL (keyL b.toList 4) (expW K) 0) := by rw [HM.out]; congr 1; omega
  clear hw4 hA3 hb3 hb1' hsz1 hA1' hC1
  have HC3 := Lib.hid hC3
  have HA3 := Lib.hid hA3'
  clear hC3 hA3'
  go_wp2_with fail
  go_loopw [9] (fun i wr => ∃ j o : Nat, ∃ s : List UInt32, 1 ≤ j ∧ j ≤ M ∧ o = 4 * j ∧ i = .int .i64 o ∧ s.length = 4 ∧ encN (expW K) (M - j) j s = encN (expW K) ((expW K).length / 4 - 2) 1 (addL (keyL b.toList 4) (expW K) 0) ∧ At wr gs 0 (wcells s) ∧ Ciph wr g K ∧ Below w.heap.size w wr ∧ gs < wr.heap.size) (fun i _ => L - (intOf i).toNat)
  case atStart => exact ⟨1, 4, _, Nat.le_refl _, by omega, rfl, rfl, hl3, hend, HA3.out, HC3.out, hb3', hsz3⟩
  case round =>
    clear HA3 HC3 hb3' hsz3 hend hl3
    obtain ⟨j, o, s, hj1, hjM, ho, rfl, hs, hrun, hA, hC, hb3, hsz⟩ := hrel
    have HA := Lib.hid hA
    have HCi := Lib.hid hC
    have HR := Lib.hid hrun
    have HS := Lib.hid hs
    have HO := Lib.hid ho
    have hob : o ≤ 56 := by omega
    clear hA hC hrun hs ho
    by_cases hlt : j < M
    · have hoL : (o : Int) < (L : Int) := by have := HO.out; have := HL.out; omega
      have hA := HA.out
      go_wp2_with (refine wpList_load_at 119 (.tmp 6) gs 0 (wcells s) _ hA Tryd.underlying119 rfl (wlen4 _ HS.out) ⟨rfl, rfl, rfl⟩ ?_)
      refine (round_any s _ g K HCi.out HS.out).mono ?_
      rintro e w5 ⟨rfl, hb5⟩
      go_wp2_with fail
      refine (add_any (rouL s) o _ g K (HCi.out.below hb5 (by omega)) (rouL_length _) (by rw [HM.out, HO.out]; omega) (by rw [HM.out]; omega)).mono ?_
      rintro e w6 ⟨rfl, hb6⟩
      have hb56 := hb5.trans (hb6.mono hb5.size)
      have hA6 := hA.below hb56 hsz
      have hst6 := run_store_at (P := Tryd.prog) hA6 (cs := wcells (addL (rouL s) (expW K) o)) (by rw [wcells_length, wcells_length, addL_length, HS.out]) (wcells_one _)
      have hwl : (wcells (addL (rouL s) (expW K) o)).length = 4 := by rw [wcells_length, addL_length]
      have hoo : IntKind.i64.wrap ((o : Int) + 4) = ((o + 4 : Nat) : Int) := by rw [wrap_in _ (by omega) (by have := HO.out; omega)]; omega
      go_wp2_with fail
      go_roundw
      case rel =>
        refine ⟨j + 1, o + 4, addL (rouL s) (expW K) o, by omega, by omega, by have := HO.out; omega, by go_num, addL_length _ _ _, ?_, hA6.ofSets (by rw [wcells_length, wcells_length, addL_length, HS.out]), (HCi.out.below hb56 (by omega)).sets _ hg1 _, below_sets _ _ (by omega) _ _ _ _ (hb3.trans (hb56.mono (by omega))), by rw [size_sets]; have := hb56.size; omega⟩
        have h := HR.out
        rw [show M - j = (M - (j + 1)) + 1 by omega, encN, ← HO.out] at h
        exact h
      case measure =>
        have := HO.out
        have := HL.out
        simp [intOf]
        omega
    · have hjm : M = j := by omega
      subst hjm
      have hoL : ¬ (o : Int) < (L : Int) := by have := HO.out; have := HL.out; omega
      have hA := HA.out
      go_wp2_with (refine wpList_load_at 119 (.tmp 6) gs 0 (wcells s) _ hA Tryd.underlying119 rfl (wlen4 _ HS.out) ⟨rfl, rfl, rfl⟩ ?_)
      refine (last_any s _ g sboxL gsub HCi.out.sub sboxL_length sboxL_get HCi.out.lt HS.out).mono ?_
      rintro e w5 ⟨rfl, hb5⟩
      go_wp2_with fail
      refine (add_any (lasL gsub 1 2 3 s) L _ g K (HCi.out.below hb5 (by omega)) (lasL_length _ _ _ _ _) (by rw [HM.out, HL.out]; omega) (by rw [HM.out]; omega)).mono ?_
      rintro e w6 ⟨rfl, hb6⟩
      go_wp2_with fail
      refine (text_any _ _ (addL_length _ _ _)).mono ?_
      rintro e w7 ⟨t, rfl, ht, hb7⟩
      go_wp2_with fail
      go_ret2
      have hb56 := hb5.trans (hb6.mono hb5.size)
      have hb57 := hb56.trans (hb7.mono hb56.size)
      refine ret_se ht ?_ rfl (hb3.trans (hb57.mono (by omega)))
      have h := HR.out
      rw [Nat.sub_self, encN] at h
      rw [encL, encW, ← h, HM.out, HL.out, Nat.add_sub_cancel]
end Go.Proofs.YtkedoiikkjeadaaDoor
