/- The contract of Decrypt. -/
import Derived.Test.YtigegblpledogaaAesUm
namespace Go.Proofs.Ytigegblpledogaa
open Go.RowKit
set_option linter.unusedVariables false
set_option linter.unusedSimpArgs false
def decN (W : List UInt32) : Nat → List UInt32 → List UInt32
  | 0, s => s
  | j + 1, s => decN W j (lasL gback 3 2 1 (umxL (addL s W (4 * (j + 1)))))
def decW (W : List UInt32) (B : List UInt8) : List UInt8 := txtL (addL (decN W (W.length / 4 - 2) (lasL gback 3 2 1 (addL (keyL B 4) W (W.length - 4)))) W 0)
def decL (K B : List UInt8) : List UInt8 := decW (expW K) B
theorem decL_length (K B : List UInt8) : (decL K B).length = 16 := by rw [decL, decW, txtL_length]
theorem Turn.step {g lo B : Nat} {w a b : World} (h : Turn g lo w a) (hb : Below B a b) (hg : g < B) (hB : w.heap.size ≤ B) : Turn g lo w b :=
  ⟨hb.os.trans h.os, hb.tape.trans h.tape, hb.output.trans h.output, Nat.le_trans h.size hb.size, fun k hk hne => (hb.block k (by omega)).trans (h.block k hk hne), fun o ho => ⟨(hb.cell hg).trans (h.low o ho).1, (hb.frozen hg).trans (h.low o ho).2⟩⟩
theorem Ciph.turn {w w' : World} {g : Nat} {K : List UInt8} (h : Ciph w g K) (ht : Turn g 513 w w') : Ciph w' g K := by
  obtain ⟨gw, cap, h1, h2, h3, h4, h5⟩ := h
  exact ⟨gw, cap, h1, h2.turn ht (.inr (by simp)), h3.turn ht (.inl (by omega)), h4.turn ht (.inr (by rw [bcells_length, sboxL_length]; omega)), h5.turn ht (.inr (by rw [wcells_length, mixL_length]; decide))⟩
theorem Done.below {B : Nat} {w w' : World} {g : Nat} (h : Done w g) (hb : Below B w w') (hg : g < B) : Done w' g := ⟨h.1.below hb hg, h.2.1.below hb hg, h.2.2.below hb hg⟩
theorem Fresh.below {B : Nat} {w w' : World} {g : Nat} (h : Fresh w g) (hb : Below B w w') (hg : g < B) : Fresh w' g := ⟨h.1.below hb hg, h.2.1.below hb hg, h.2.2.below hb hg⟩
theorem do_any (w : World) (g : Nat) (K : List UInt8) (hC : Ciph w g K) (hF : Fresh w g ∨ Done w g) : Calls Try.prog 92 #[.pointer (some ⟨g, 513, none⟩), .func (.func 93) #[.pointer (some ⟨g, 0, none⟩)] #[]] w
    (fun e w' => e = .returned (.tuple #[]) ∧ Done w' g ∧ Turn g 513 w w') := by
  rcases hF with hF | hF
  · exact do_first w g K hC hF
  · exact do_done w g _ hF
def RetD (K B : List UInt8) (g : Nat) (w : World) (e : Ending) (w' : World) : Prop := ∃ s : ByteArray, e = .returned (.tuple #[.string s, .int .i64 0]) ∧ s.toList = decL K B ∧ Done w' g ∧ Turn g 513 w w'
set_option maxRecDepth 100000 in
set_option maxHeartbeats 6400000 in
theorem decrypt_any (b : ByteArray) (w : World) (g : Nat) (K : List UInt8) (hC : Ciph w g K) (hF : Fresh w g ∨ Done w g) (hK : K.length = 16 ∨ K.length = 24 ∨ K.length = 32) (hb : b.size = 16) : Calls Try.prog 68 #[.pointer (some ⟨g, 0, none⟩), .string b] w (RetD K b.toList g w) := by
  obtain ⟨M, hM, hM1, hM2⟩ := wlen hK
  have hg := hC.lt
  have HC := Lib.hid hC
  have HM := Lib.hid hM
  have HF := Lib.hid hF
  have hmf : ∀ (fn : Fn) (first cap : Array Value) (w : World), (Instr.makeFunc fn first cap).run Try.prog w = .ok (.func fn first cap) w := fun _ _ _ _ => rfl
  clear hC hM hF
  go_enter Try.func68, Try.ntmps68
  go_wp2_with fail
  refine (start_any b _ g K HC.out hb).mono ?_
  rintro e w1 ⟨rfl, hb1⟩
  have hs1 := hb1.size
  have hA1 := At.ofAlloc w1 #[Value.int .u32 0, Value.int .u32 0, Value.int .u32 0, Value.int .u32 0] 117
  have hst1 := run_store_at (P := Try.prog) hA1 (cs := wcells (keyL b.toList 4)) (by rw [wcells_length, keyL_length]; rfl) (wcells_one _)
  have hbx : Below w1.heap.size w1 ((w1.alloc zc).setCells w1.heap.size 0 (wcells (keyL b.toList 4))) := below_sets _ _ (Nat.le_refl _) _ _ _ _ ((Below.refl _ _).alloc (Nat.le_refl _) zc)
  have hA1' : At ((w1.alloc zc).setCells w1.heap.size 0 (wcells (keyL b.toList 4))) w1.heap.size 0 (wcells (keyL b.toList 4)) := hA1.ofSets (by rw [wcells_length, keyL_length]; rfl)
  have hsz1 : ((w1.alloc zc).setCells w1.heap.size 0 (wcells (keyL b.toList 4))).heap.size = w1.heap.size + 1 := by rw [size_sets]; simp
  have hwl : (wcells (keyL b.toList 4)).length = 4 := by rw [wcells_length, keyL_length]
  generalize hw2 : (w1.alloc zc).setCells w1.heap.size 0 (wcells (keyL b.toList 4)) = w2 at hst1 hbx hA1' hsz1
  clear hA1 hw2
  have hC2 : Ciph w2 g K := (HC.out.below hb1 hg).below hbx (by omega)
  have hF2 : Fresh w2 g ∨ Done w2 g := by
    rcases HF.out with h | h
    · exact .inl ((h.below hb1 hg).below hbx (by omega))
    · exact .inr ((h.below hb1 hg).below hbx (by omega))
  have hb12 : Below w.heap.size w w2 := hb1.trans (hbx.mono hs1)
  have hT2 : Turn g 513 w w2 := Turn.ofBelow hb12 hg
  clear hbx hb12 hb1
  have HC2 := Lib.hid hC2
  have HF2 := Lib.hid hF2
  clear hC2 hF2
  go_wp2_with fail
  obtain ⟨gs, hgs⟩ : ∃ gs, w1.heap.size = gs := ⟨_, rfl⟩
  have hg1 : g < w1.heap.size := by omega
  rw [hgs] at hg1 hs1 hA1' hsz1 ⊢
  clear hgs hst1 hwl
  refine (do_any w2 g K HC2.out HF2.out).mono ?_
  rintro e w3 ⟨rfl, hD3, hT3⟩
  have hA3 := hA1'.turn hT3 (.inl (by omega))
  have hC3 := HC2.out.turn hT3
  have hT3' := hT2.trans hT3
  have hsz3 : gs < w3.heap.size := by have := hT3.size; omega
  obtain ⟨gw, cap, hcw⟩ := hC3.word
  obtain ⟨L, hL⟩ : ∃ L : Nat, L = 4 * M := ⟨_, rfl⟩
  have hLi : (((expW K).length : Nat) : Int) - 4 = (L : Int) := by rw [HM.out]; omega
  have HL := Lib.hid hL
  obtain ⟨L4, hL4e⟩ : ∃ L4 : Nat, L4 = 4 * (M - 1) := ⟨_, rfl⟩
  have hL4i : (L : Int) - 4 = (L4 : Int) := by omega
  have HL4 := Lib.hid hL4e
  have hLb : L ≤ 56 := by omega
  have hL4 : 40 ≤ L := by omega
  clear hL hL4e HC2 HF2 hT2 hT3 hA1' hsz1 HF HC
  go_wp2_with (refine wpList_load_at 117 (.tmp 6) gs 0 (wcells (keyL b.toList 4)) _ hA3 Try.underlying117 rfl (wlen4 _ (keyL_length _ _)) ⟨rfl, rfl, rfl⟩ ?_)
  refine (add_any (keyL b.toList 4) L w3 g K hC3 (keyL_length _ _) (by rw [HM.out, HL.out]; omega) (by rw [HM.out]; omega)).mono ?_
  rintro e w4 ⟨rfl, hb4⟩
  have hD4 := hD3.below hb4 (by omega)
  have hC4 := hC3.below hb4 (by omega)
  have hA4 := hA3.below hb4 hsz3
  have hT4 := hT3'.step hb4 (by omega) hT3'.size
  clear hcw
  go_wp2_with fail
  refine (unro_any (addL (keyL b.toList 4) (expW K) L) w4 g backC gback hD4.2.1 backC_length backC_get hC4.lt (addL_length _ _ _)).mono ?_
  rintro e w5 ⟨rfl, hb5⟩
  have hD5 := hD4.below hb5 hC4.lt
  have hC5 := hC4.below hb5 hC4.lt
  have hsz4 : gs < w4.heap.size := by have := hb4.size; omega
  have hA5 := hA4.below hb5 hsz4
  have hT5 := hT4.step hb5 (by omega) hT4.size
  obtain ⟨s0, hs0⟩ : ∃ s, lasL gback 3 2 1 (addL (keyL b.toList 4) (expW K) L) = s := ⟨_, rfl⟩
  have hl0 : s0.length = 4 := by rw [← hs0, lasL_length]
  rw [hs0]
  have HS0 := Lib.hid hs0
  clear hs0
  have hst5 := run_store_at (P := Try.prog) hA5 (cs := wcells s0) (by rw [wcells_length, wcells_length, hl0, keyL_length]) (wcells_one _)
  have hwl : (wcells s0).length = 4 := by rw [wcells_length, hl0]
  have hA6 : At (w5.setCells gs 0 (wcells s0)) gs 0 (wcells s0) := hA5.ofSets (by rw [wcells_length, wcells_length, hl0, keyL_length])
  have hbs : Below gs w5 (w5.setCells gs 0 (wcells s0)) := below_sets _ _ (Nat.le_refl _) _ _ _ _ (Below.refl _ _)
  have hsz6 : gs < (w5.setCells gs 0 (wcells s0)).heap.size := by rw [size_sets]; have := hb5.size; omega
  generalize hw6 : w5.setCells gs 0 (wcells s0) = w6 at hst5 hA6 hbs hsz6
  have hD6 := hD5.below hbs hg1
  have hC6 := hC5.below hbs hg1
  have hT6 := hT5.step hbs hg1 hs1
  clear hw6 hA3 hA4 hA5 hC3 hC4 hC5 hD3 hD4 hD5 hT3' hT4 hT5 hb4 hb5 hsz3 hsz4 hbs
  have HC6 := Lib.hid hC6
  have HA6 := Lib.hid hA6
  have HD6 := Lib.hid hD6
  clear hC6 hA6 hD6
  go_wp2_with fail
  clear hst5 hwl hLi hL4i
  go_loopw [9] (fun i wr => ∃ j o : Nat, ∃ s : List UInt32, j + 1 ≤ M ∧ o = 4 * j ∧ i = .int .i64 o ∧ s.length = 4 ∧ decN (expW K) j s = decN (expW K) (M - 1) s0 ∧ At wr gs 0 (wcells s) ∧ Ciph wr g K ∧ Done wr g ∧ Turn g 513 w wr ∧ gs < wr.heap.size) (fun i _ => (intOf i).toNat)
  case atStart => exact ⟨M - 1, L4, s0, by omega, HL4.out, rfl, hl0, rfl, HA6.out, HC6.out, HD6.out, hT6, hsz6⟩
  case round =>
    clear HA6 HC6 HD6 hT6 hsz6 hl0
    obtain ⟨j, o, s, hjM, ho, rfl, hs, hrun, hA, hC, hD, hT, hsz⟩ := hrel
    have HA := Lib.hid hA
    have HCi := Lib.hid hC
    have HDi := Lib.hid hD
    have HR := Lib.hid hrun
    have HS := Lib.hid hs
    have HO := Lib.hid ho
    have hob : o ≤ 56 := by omega
    clear hC hrun hs ho hD
    by_cases hlt : 0 < j
    · have ho0 : (0 : Int) < (o : Int) := by have := HO.out; omega
      obtain ⟨j', rfl⟩ : ∃ j', j = j' + 1 := ⟨j - 1, by omega⟩
      obtain ⟨o', ho'⟩ : ∃ o' : Nat, o' = 4 * j' := ⟨_, rfl⟩
      have hoi : (o : Int) - 4 = (o' : Int) := by have := HO.out; omega
      have HO' := Lib.hid ho'
      clear ho'
      go_wp2_with (refine wpList_load_at 117 (.tmp 6) gs 0 (wcells s) _ hA Try.underlying117 rfl (wlen4 _ HS.out) ⟨rfl, rfl, rfl⟩ ?_)
      refine (add_any s o _ g K HCi.out HS.out (by rw [HM.out, HO.out]; omega) (by rw [HM.out]; omega)).mono ?_
      rintro e w7 ⟨rfl, hb7⟩
      have hg0 := HCi.out.lt
      have hC7 := HCi.out.below hb7 hg0
      have hD7 := HDi.out.below hb7 hg0
      go_wp2_with fail
      refine (unmixed_any (addL s (expW K) o) _ g hD7.2.2 hC7.lt (addL_length _ _ _)).mono ?_
      rintro e w8 ⟨rfl, hb8⟩
      have hC8 := hC7.below hb8 hC7.lt
      have hD8 := hD7.below hb8 hC7.lt
      go_wp2_with fail
      refine (unro_any (umxL (addL s (expW K) o)) _ g backC gback hD8.2.1 backC_length backC_get hC8.lt (umxL_length _)).mono ?_
      rintro e w9 ⟨rfl, hb9⟩
      have hC9 := hC8.below hb9 hC8.lt
      have hD9 := hD8.below hb9 hC8.lt
      have hb79 := (hb7.trans (hb8.mono hb7.size)).trans (hb9.mono (Nat.le_trans hb7.size hb8.size))
      have hA9 := hA.below hb79 hsz
      have hT9 := hT.step hb79 (by omega) hT.size
      obtain ⟨s1, hs1'⟩ : ∃ s1, lasL gback 3 2 1 (umxL (addL s (expW K) o)) = s1 := ⟨_, rfl⟩
      have hl1 : s1.length = 4 := by rw [← hs1', lasL_length]
      rw [hs1']
      have HS1 := Lib.hid hs1'
      clear hs1'
      have hst9 := run_store_at (P := Try.prog) hA9 (cs := wcells s1) (by rw [wcells_length, wcells_length, hl1, HS.out]) (wcells_one _)
      have hwl : (wcells s1).length = 4 := by rw [wcells_length, hl1]
      have hAx : At (w9.setCells gs 0 (wcells s1)) gs 0 (wcells s1) := hA9.ofSets (by rw [wcells_length, wcells_length, hl1, HS.out])
      have hbs : Below gs w9 (w9.setCells gs 0 (wcells s1)) := below_sets _ _ (Nat.le_refl _) _ _ _ _ (Below.refl _ _)
      have hszx : gs < (w9.setCells gs 0 (wcells s1)).heap.size := by rw [size_sets]; have := hb79.size; omega
      generalize hwx : w9.setCells gs 0 (wcells s1) = wx at hst9 hAx hbs hszx
      have hDx := hD9.below hbs hg1
      have hCx := hC9.below hbs hg1
      have hTx := hT9.step hbs hg1 hs1
      clear hwx hC7 hD7 hC8 hD8 hC9 hD9 hb79 hA9 hT9 hbs hb7 hb8 hb9
      have HAx := Lib.hid hAx
      have HDx := Lib.hid hDx
      have HCx := Lib.hid hCx
      clear hAx hDx hCx
      go_wp2_with fail
      go_roundw
      case rel =>
        refine ⟨j', o', s1, by omega, HO'.out, rfl, hl1, ?_, HAx.out, HCx.out, HDx.out, hTx, hszx⟩
        have h := HR.out
        rw [decN, ← HO.out, HS1.out] at h
        exact h
      case measure =>
        have := HO.out
        have := HO'.out
        simp [intOf]
        omega
    · have hj0 : j = 0 := by omega
      subst hj0
      have ho0 : o = 0 := HO.out
      subst ho0
      rw [show ((0 : Nat) : Int) = (0 : Int) from rfl]
      go_wp2_with (refine wpList_load_at 117 (.tmp 6) gs 0 (wcells s) _ hA Try.underlying117 rfl (wlen4 _ HS.out) ⟨rfl, rfl, rfl⟩ ?_)
      refine (add_any s 0 _ g K HCi.out HS.out (by rw [HM.out]; omega) (by rw [HM.out]; omega)).mono ?_
      rintro e w7 ⟨rfl, hb7⟩
      go_wp2_with fail
      refine (text_any _ _ (addL_length _ _ _)).mono ?_
      rintro e w8 ⟨t, rfl, ht, hb8⟩
      go_wp2_with fail
      go_ret2
      have hb78 := hb7.trans (hb8.mono hb7.size)
      refine ⟨t, rfl, ?_, HDi.out.below hb78 HCi.out.lt, hT.step hb78 HCi.out.lt hT.size⟩
      have h := HR.out
      rw [decN] at h
      rw [ht, decL, decW, HM.out, Nat.add_sub_cancel, ← HL.out, HS0.out, h]
      congr 3
      have := HL.out
      omega
end Go.Proofs.Ytigegblpledogaa
