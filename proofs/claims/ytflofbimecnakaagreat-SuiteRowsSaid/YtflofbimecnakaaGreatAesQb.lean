/- Joined by merge.py: AesJ AesL AesV AesY AesTb AesOn AesK AesUm AesDe AesM AesT AesLb AesW Gen8 AesX AesZ. -/
import Derived.Test.YtflofbimecnakaaGreatAesQa
import Derived.Defers
import Derived.Laws.Pointers
import Derived.Laws.LoneSync
import Derived.RegionTactic
import Derived.RegionCalls
import Derived.Test.YtflofbimecnakaaGreatRowX
namespace Go.Proofs.YtflofbimecnakaaGreat
open Go.RowKit
set_option linter.unusedVariables false
set_option linter.unusedSimpArgs false
def txtF (S : List UInt32) (i : Nat) : UInt8 := rw_ (S.getD (i / 4) 0) (i % 4)
def txtL (S : List UInt32) : List UInt8 := (List.range 16).map (txtF S)
theorem txtL_length (S : List UInt32) : (txtL S).length = 16 := by simp [txtL]
/-- a block of bytes that begins with zeros -/
abbrev zb : Obj := Obj.cells #[Value.int .u8 0, Value.int .u8 0, Value.int .u8 0, Value.int .u8 0, Value.int .u8 0, Value.int .u8 0, Value.int .u8 0, Value.int .u8 0, Value.int .u8 0, Value.int .u8 0, Value.int .u8 0, Value.int .u8 0, Value.int .u8 0, Value.int .u8 0, Value.int .u8 0, Value.int .u8 0] 148
theorem col_byte (w : World) (S : List UInt32) : ∃ w0, (w.alloc (Obj.cells (wcells S).toArray 114)).alloc zb = w0 ∧ At w0 w.heap.size 0 (wcells S) ∧ At w0 (w.heap.size + 1) 0 (bcells (List.replicate 16 0)) ∧ Below w.heap.size w w0 ∧ w0.heap.size = w.heap.size + 2 := by
  refine ⟨_, rfl, ?_, ?_, ?_, by simp⟩
  · have h := At.ofAlloc w (wcells S).toArray 114
    simp only at h
    exact h.alloc _
  · have h := At.ofAlloc (w.alloc (Obj.cells (wcells S).toArray 114)) #[Value.int .u8 0, Value.int .u8 0, Value.int .u8 0, Value.int .u8 0, Value.int .u8 0, Value.int .u8 0, Value.int .u8 0, Value.int .u8 0, Value.int .u8 0, Value.int .u8 0, Value.int .u8 0, Value.int .u8 0, Value.int .u8 0, Value.int .u8 0, Value.int .u8 0, Value.int .u8 0] 148
    rw [World.size_alloc] at h
    exact h
  · exact ((Below.refl _ _).alloc (Nat.le_refl _) _).alloc (by simp) _
theorem convert_at {P : Program} {w : World} {g cap : Nat} {l : List UInt8} (h : At w g 0 (bcells l)) (src dst e : TypeId) (n : Nat) (hn : l.length = n)
    (hs : P.underlying src = some (.slice e)) (he : P.underlying e = some (.int .u8)) (hd : P.underlying dst = some .string) : (convert src dst (.slice (some ⟨g, 0, none⟩) n cap)).run P w = .ok (.string ⟨l.toArray⟩) w := by
  subst hn
  refine run_convert_bytes_back w src dst e ⟨g, 0, none⟩ cap l hs he hd fun j hj => ?_
  have hc := h.cell j _ (bcells_get l j hj)
  have : (⟨g, 0, none⟩ : Addr).add j = ⟨g, j, none⟩ := by unfold Addr.add; split <;> simp_all
  rw [this]
  rw [Nat.zero_add] at hc
  exact hc
set_option maxRecDepth 100000 in
set_option maxHeartbeats 3200000 in
theorem text_any (S : List UInt32) (w : World) (hS : S.length = 4) : Calls Tryz.prog 57 #[.agg (wcells S).toArray] w (RetS (txtL S) w) := by
  go_enter Tryz.func57, Tryz.ntmps57
  go_wp2_with fail
  obtain ⟨w0, hw0, hA0, hA1, hb0, hs0⟩ := col_byte w S
  rw [hw0]
  clear hw0
  have hA1' : At w0 (w.heap.size + 1) 0 (bcells (mixP 16 (txtF S) (fun _ => 0) 0)) := hA1
  clear hA1
  go_loopw [5] (fun i wr => ∃ k : Nat, k ≤ 16 ∧ i = .int .i64 k ∧ At wr w.heap.size 0 (wcells S) ∧ At wr (w.heap.size + 1) 0 (bcells (mixP 16 (txtF S) (fun _ => 0) k)) ∧ Below w.heap.size w wr) (fun i _ => 16 - (intOf i).toNat)
  case atStart => exact ⟨0, Nat.zero_le _, rfl, hA0, hA1', hb0⟩
  case round =>
    clear hA0 hA1' hb0 hs0
    obtain ⟨k, hk, rfl, hA0, hA1, hb0⟩ := hrel
    have H0 := Lib.hid hA0
    have H1 := Lib.hid hA1
    clear hA0 hA1
    by_cases hlt : k < 16
    · obtain ⟨q, hq⟩ : ∃ q : Nat, q = k / 4 := ⟨_, rfl⟩
      obtain ⟨r, hr⟩ : ∃ r : Nat, r = k % 4 := ⟨_, rfl⟩
      have hwq : (k : Int) / 4 = (q : Int) := by omega
      have hwr : (k : Int) % 4 = (r : Int) := by omega
      have hq4 : q < 4 := by omega
      have hr3 : r ≤ 3 := by omega
      have hqI : (q : Int) < 4 := by omega
      have hkI : (k : Int) < 16 := by omega
      have hc0 := H0.out.w32 q (by omega)
      obtain ⟨x, hx⟩ : ∃ x, S.getD q 0 = x := ⟨_, rfl⟩
      rw [hx, Nat.zero_add] at hc0
      have hc1 := H1.out.b8 k (by rw [mixP_length]; exact hlt)
      have hfr := H1.out.froz k (by rw [bcells_length, mixP_length]; exact hlt)
      rw [Nat.zero_add] at hc1 hfr
      have HZ : Hid (txtF S k = rw_ x r) := by
        show _ = _
        rw [txtF, ← hq, ← hr, hx]
      clear hx hq hr
      go_wp2_with fail
      refine (row_nat x r _ hr3).mono ?_
      rintro e w' ⟨rfl, rfl⟩
      go_wp2_with fail
      go_roundw
      case rel =>
        refine ⟨k + 1, by omega, by go_num, H0.out.other _ _ _ (.inl (by omega)), ?_, (hb0.setCell (p := ⟨w.heap.size + 1, k, none⟩) (by simp only; omega) _)⟩
        have h := H1.out.b8set k (rw_ x r)
        rw [← HZ.out, mixP_set, HZ.out, Nat.zero_add] at h
        exact h
      case measure => simp [intOf]; omega
    · have hkn : k = 16 := by omega
      subst hkn
      have h1 := H1.out
      rw [mixP_full] at h1
      have hcv := convert_at (P := Tryz.prog) (cap := 16) h1 123 9 5 16 (by simp) Tryz.underlying123 Tryz.underlying5 Tryz.underlying9
      go_wp2_with fail
      go_ret
      exact ⟨_, rfl, tl_mk _, hb0⟩
end Go.Proofs.YtflofbimecnakaaGreat
namespace Go.Proofs.YtflofbimecnakaaGreat
open Go.RowKit
set_option linter.unusedVariables false
set_option linter.unusedSimpArgs false
def encN (W : List UInt32) : Nat → Nat → List UInt32 → List UInt32
  | 0, _, s => s
  | n + 1, j, s => encN W n (j + 1) (addL (rouL s) W (4 * j))
def encW (W : List UInt32) (B : List UInt8) : List UInt8 := txtL (addL (lasL gsub 1 2 3 (encN W (W.length / 4 - 2) 1 (addL (keyL B 4) W 0))) W (W.length - 4))
def encL (K B : List UInt8) : List UInt8 := encW (expW K) B
theorem encL_length (K B : List UInt8) : (encL K B).length = 16 := by rw [encL, encW, txtL_length]
theorem Ciph.below {B : Nat} {w w' : World} {g : Nat} {K : List UInt8} (h : Ciph w g K) (hb : Below B w w') (hg : g < B) : Ciph w' g K := by
  obtain ⟨gw, cap, h1, h2, h3, h4, h5⟩ := h
  exact ⟨gw, cap, h1, h2.below hb hg, h3.below hb (by omega), h4.below hb hg, h5.below hb hg⟩
theorem Ciph.lt {w : World} {g : Nat} {K : List UInt8} (h : Ciph w g K) : g < w.heap.size := by
  obtain ⟨gw, cap, h1, h2, h3, h4, h5⟩ := h
  exact h2.lt (by simp)
theorem Ciph.sub {w : World} {g : Nat} {K : List UInt8} (h : Ciph w g K) : At w g 1 (bcells sboxL) := by
  obtain ⟨gw, cap, h1, h2, h3, h4, h5⟩ := h
  exact h4
theorem Ciph.word {w : World} {g : Nat} {K : List UInt8} (h : Ciph w g K) : ∃ gw cap, w.cell? ⟨g, 0, none⟩ = some (.slice (some ⟨gw, 0, none⟩) (expW K).length cap) := by
  obtain ⟨gw, cap, h1, h2, h3, h4, h5⟩ := h
  exact ⟨gw, cap, h2.cell 0 _ rfl⟩
theorem Ciph.sets {w : World} {g : Nat} {K : List UInt8} (h : Ciph w g K) (gs : Nat) (hs : g < gs) (vs : List Value) : Ciph (w.setCells gs 0 vs) g K := by
  obtain ⟨gw, cap, h1, h2, h3, h4, h5⟩ := h
  exact ⟨gw, cap, h1, h2.apartSets (.inl (by omega)), h3.apartSets (.inl (by omega)), h4.apartSets (.inl (by omega)), h5.apartSets (.inl (by omega))⟩
theorem wlen {K : List UInt8} (h : K.length = 16 ∨ K.length = 24 ∨ K.length = 32) : ∃ M, (expW K).length = 4 * M + 4 ∧ 10 ≤ M ∧ M ≤ 14 := by
  rw [expW_length]
  rcases h with h | h | h <;> rw [h]
  · exact ⟨10, rfl, by omega, by omega⟩
  · exact ⟨12, rfl, by omega, by omega⟩
  · exact ⟨14, rfl, by omega, by omega⟩
set_option maxRecDepth 100000 in
set_option maxHeartbeats 6400000 in
theorem encrypt_any (b : ByteArray) (w : World) (g : Nat) (K : List UInt8) (hC : Ciph w g K) (hK : K.length = 16 ∨ K.length = 24 ∨ K.length = 32) (hb : b.size = 16) : Calls Tryz.prog 40 #[.pointer (some ⟨g, 0, none⟩), .string b] w (RetSE (encL K b.toList) 0 w) := by
  obtain ⟨M, hM, hM1, hM2⟩ := wlen hK
  have hg := hC.lt
  have HC := Lib.hid hC
  have HM := Lib.hid hM
  clear hC hM
  go_enter Tryz.func40, Tryz.ntmps40
  go_wp2_with fail
  refine (start_any b _ g K HC.out hb).mono ?_
  rintro e w1 ⟨rfl, hb1⟩
  have hs1 := hb1.size
  have hA1 := At.ofAlloc w1 #[Value.int .u32 0, Value.int .u32 0, Value.int .u32 0, Value.int .u32 0] 114
  have hst1 := run_store_at (P := Tryz.prog) hA1 (cs := wcells (keyL b.toList 4)) (by rw [wcells_length, keyL_length]; rfl) (wcells_one _)
  have hC1 : Ciph ((w1.alloc zc).setCells w1.heap.size 0 (wcells (keyL b.toList 4))) g K := ((HC.out.below hb1 hg).below ((Below.refl _ _).alloc (Nat.le_refl _) zc) (by omega)).sets _ (by omega) _
  have hA1' : At ((w1.alloc zc).setCells w1.heap.size 0 (wcells (keyL b.toList 4))) w1.heap.size 0 (wcells (keyL b.toList 4)) := hA1.ofSets (by rw [wcells_length, keyL_length]; rfl)
  have hb1' : Below w.heap.size w ((w1.alloc zc).setCells w1.heap.size 0 (wcells (keyL b.toList 4))) := below_sets _ _ hs1 _ _ _ _ (hb1.alloc hs1 zc)
  have hsz1 : ((w1.alloc zc).setCells w1.heap.size 0 (wcells (keyL b.toList 4))).heap.size = w1.heap.size + 1 := by rw [size_sets]; simp
  generalize hw2 : (w1.alloc zc).setCells w1.heap.size 0 (wcells (keyL b.toList 4)) = w2 at hst1 hC1 hA1' hb1' hsz1
  obtain ⟨gw, cap, hcw⟩ := hC1.word
  obtain ⟨L, hL⟩ : ∃ L : Nat, L = 4 * M := ⟨_, rfl⟩
  have hLi : (((expW K).length : Nat) : Int) - 4 = (L : Int) := by rw [HM.out]; omega
  have HL := Lib.hid hL
  have hLb : L ≤ 56 := by omega
  have hg1 : g < w1.heap.size := by omega
  clear hA1 hw2 hL
  go_wp2_with (refine wpList_load_at 114 (.tmp 6) w1.heap.size 0 (wcells (keyL b.toList 4)) _ hA1' Tryz.underlying114 rfl (wlen4 _ (keyL_length _ _)) ⟨rfl, rfl, rfl⟩ ?_)
  obtain ⟨gs, hgs⟩ : ∃ gs, w1.heap.size = gs := ⟨_, rfl⟩
  rw [hgs] at hg1 hs1 hA1' hsz1 ⊢
  clear hgs hst1 hcw hb1
  refine (add_any (keyL b.toList 4) 0 w2 g K hC1 (keyL_length _ _) (by rw [HM.out]; omega) (by rw [HM.out]; omega)).mono ?_
  rintro e w3 ⟨rfl, hb3⟩
  have hA3 := hA1'.below hb3 (by omega)
  have hst3 := run_store_at (P := Tryz.prog) hA3 (cs := wcells (addL (keyL b.toList 4) (expW K) 0)) (by rw [wcells_length, wcells_length, addL_length, keyL_length]) (wcells_one _)
  have hC3 : Ciph (w3.setCells gs 0 (wcells (addL (keyL b.toList 4) (expW K) 0))) g K := (hC1.below hb3 (by omega)).sets _ hg1 _
  have hA3' : At (w3.setCells gs 0 (wcells (addL (keyL b.toList 4) (expW K) 0))) gs 0 (wcells (addL (keyL b.toList 4) (expW K) 0)) := hA3.ofSets (by rw [wcells_length, wcells_length, addL_length, keyL_length])
  have hb3' : Below w.heap.size w (w3.setCells gs 0 (wcells (addL (keyL b.toList 4) (expW K) 0))) := below_sets _ _ hs1 _ _ _ _ (hb1'.trans (hb3.mono (by omega)))
  have hsz3 : gs < (w3.setCells gs 0 (wcells (addL (keyL b.toList 4) (expW K) 0))).heap.size := by rw [size_sets]; have := hb3.size; omega
  generalize hw4 : w3.setCells gs 0 (wcells (addL (keyL b.toList 4) (expW K) 0)) = w4 at hst3 hC3 hA3' hb3' hsz3
  have hl3 : (addL (keyL b.toList 4) (expW K) 0).length = 4 := addL_length _ _ _
  have hend : encN (expW K) (M - 1) 1 (addL (keyL b.toList 4) (expW K) 0) = encN (expW K) ((expW K).length / 4 - 2) 1 (addL (keyL b.toList 4) (expW K) 0) := by rw [HM.out]; congr 1; omega
  clear hw4 hA3 hb3 hb1' hsz1 hA1' hC1
  have HC3 := Lib.hid hC3
  have HA3 := Lib.hid hA3'
  clear hC3 hA3'
  go_wp2_with fail
  go_loopw [9] (fun i wr => ∃ j o : Nat, ∃ s : List UInt32, 1 ≤ j ∧ j ≤ M ∧ o = 4 * j ∧ i = .int .i64 o ∧ s.length = 4 ∧ encN (expW K) (M - j) j s = encN (expW K) ((expW K).length / 4 - 2) 1 (addL (keyL b.toList 4) (expW K) 0) ∧ At wr gs 0 (wcells s) ∧ Ciph wr g K ∧ Below w.heap.size w wr ∧ gs < wr.heap.size) (fun i _ => L - (intOf i).toNat)
  case atStart => exact ⟨1, 4, _, Nat.le_refl _, by omega, rfl, rfl, hl3, hend, HA3.out, HC3.out, hb3', hsz3⟩
  case round =>
    clear HA3 HC3 hb3' hsz3 hend hl3
    obtain ⟨j, o, s, hj1, hjM, ho, rfl, hs, hrun, hA, hC, hb3, hsz⟩ := hrel
    have HA := Lib.hid hA
    have HCi := Lib.hid hC
    have HR := Lib.hid hrun
    have HS := Lib.hid hs
    have HO := Lib.hid ho
    have hob : o ≤ 56 := by omega
    clear hA hC hrun hs ho
    by_cases hlt : j < M
    · have hoL : (o : Int) < (L : Int) := by have := HO.out; have := HL.out; omega
      have hA := HA.out
      go_wp2_with (refine wpList_load_at 114 (.tmp 6) gs 0 (wcells s) _ hA Tryz.underlying114 rfl (wlen4 _ HS.out) ⟨rfl, rfl, rfl⟩ ?_)
      refine (round_any s _ g K HCi.out HS.out).mono ?_
      rintro e w5 ⟨rfl, hb5⟩
      go_wp2_with fail
      refine (add_any (rouL s) o _ g K (HCi.out.below hb5 (by omega)) (rouL_length _) (by rw [HM.out, HO.out]; omega) (by rw [HM.out]; omega)).mono ?_
      rintro e w6 ⟨rfl, hb6⟩
      have hb56 := hb5.trans (hb6.mono hb5.size)
      have hA6 := hA.below hb56 hsz
      have hst6 := run_store_at (P := Tryz.prog) hA6 (cs := wcells (addL (rouL s) (expW K) o)) (by rw [wcells_length, wcells_length, addL_length, HS.out]) (wcells_one _)
      have hwl : (wcells (addL (rouL s) (expW K) o)).length = 4 := by rw [wcells_length, addL_length]
      have hoo : IntKind.i64.wrap ((o : Int) + 4) = ((o + 4 : Nat) : Int) := by rw [wrap_in _ (by omega) (by have := HO.out; omega)]; omega
      go_wp2_with fail
      go_roundw
      case rel =>
        refine ⟨j + 1, o + 4, addL (rouL s) (expW K) o, by omega, by omega, by have := HO.out; omega, by go_num, addL_length _ _ _, ?_, hA6.ofSets (by rw [wcells_length, wcells_length, addL_length, HS.out]), (HCi.out.below hb56 (by omega)).sets _ hg1 _, below_sets _ _ (by omega) _ _ _ _ (hb3.trans (hb56.mono (by omega))), by rw [size_sets]; have := hb56.size; omega⟩
        have h := HR.out
        rw [show M - j = (M - (j + 1)) + 1 by omega, encN, ← HO.out] at h
        exact h
      case measure =>
        have := HO.out
        have := HL.out
        simp [intOf]
        omega
    · have hjm : M = j := by omega
      subst hjm
      have hoL : ¬ (o : Int) < (L : Int) := by have := HO.out; have := HL.out; omega
      have hA := HA.out
      go_wp2_with (refine wpList_load_at 114 (.tmp 6) gs 0 (wcells s) _ hA Tryz.underlying114 rfl (wlen4 _ HS.out) ⟨rfl, rfl, rfl⟩ ?_)
      refine (last_any s _ g sboxL gsub HCi.out.sub sboxL_length sboxL_get HCi.out.lt HS.out).mono ?_
      rintro e w5 ⟨rfl, hb5⟩
      go_wp2_with fail
      refine (add_any (lasL gsub 1 2 3 s) L _ g K (HCi.out.below hb5 (by omega)) (lasL_length _ _ _ _ _) (by rw [HM.out, HL.out]; omega) (by rw [HM.out]; omega)).mono ?_
      rintro e w6 ⟨rfl, hb6⟩
      go_wp2_with fail
      refine (text_any _ _ (addL_length _ _ _)).mono ?_
      rintro e w7 ⟨t, rfl, ht, hb7⟩
      go_wp2_with fail
      go_ret2
      have hb56 := hb5.trans (hb6.mono hb5.size)
      have hb57 := hb56.trans (hb7.mono hb56.size)
      refine ret_se ht ?_ rfl (hb3.trans (hb57.mono (by omega)))
      have h := HR.out
      rw [Nat.sub_self, encN] at h
      rw [encL, encW, ← h, HM.out, HL.out, Nat.add_sub_cancel]
end Go.Proofs.YtflofbimecnakaaGreat
namespace Go.Proofs.YtflofbimecnakaaGreat
set_option linter.unusedVariables false
set_option linter.unusedSimpArgs false
def Addi (f : UInt8 → UInt8) : Prop := ∀ x y, f (x ^^^ y) = f x ^^^ f y
theorem Addi.zero {f : UInt8 → UInt8} (h : Addi f) : f 0 = 0 := by
  have := h 0 0
  rw [UInt8.xor_self, UInt8.xor_self] at this
  exact this
def part (i : Nat) (a : UInt8) : UInt8 := if a.toNat.testBit i then UInt8.ofNat (2 ^ i) else 0
theorem parts (a : UInt8) : part 0 a ^^^ part 1 a ^^^ part 2 a ^^^ part 3 a ^^^ part 4 a ^^^ part 5 a ^^^ part 6 a ^^^ part 7 a = a := by
  revert a
  exact u8_all (by decide +kernel)
theorem Addi.ext {f g : UInt8 → UInt8} (hf : Addi f) (hg : Addi g) (h : ∀ i, i < 8 → f (UInt8.ofNat (2 ^ i)) = g (UInt8.ofNat (2 ^ i))) (a : UInt8) : f a = g a := by
  have hp : ∀ i, i < 8 → f (part i a) = g (part i a) := by
    intro i hi
    unfold part
    split
    · exact h i hi
    · rw [hf.zero, hg.zero]
  rw [← parts a]
  simp only [hf _ _, hg _ _]
  rw [hp 0 (by decide), hp 1 (by decide), hp 2 (by decide), hp 3 (by decide), hp 4 (by decide), hp 5 (by decide), hp 6 (by decide), hp 7 (by decide)]
theorem dbl_form (a : UInt8) : dbl a = (a <<< 1) ^^^ (if a.toNat.testBit 7 then 27 else 0) := by
  revert a
  exact u8_all (by decide +kernel)
theorem shl_xor (a b : UInt8) : (a ^^^ b) <<< 1 = (a <<< 1) ^^^ (b <<< 1) := by
  apply UInt8.toBitVec_inj.1
  simp [BitVec.shiftLeft_xor_distrib]
theorem tb_xor (a b : UInt8) (i : Nat) : (a ^^^ b).toNat.testBit i = (a.toNat.testBit i ^^ b.toNat.testBit i) := by
  rw [UInt8.toNat_xor, Nat.testBit_xor]
theorem xlc (a b c : UInt8) : a ^^^ (b ^^^ c) = b ^^^ (a ^^^ c) := by rw [← UInt8.xor_assoc, UInt8.xor_comm a b, UInt8.xor_assoc]
theorem xcan (a b : UInt8) : a ^^^ (a ^^^ b) = b := by rw [← UInt8.xor_assoc, UInt8.xor_self, UInt8.zero_xor]
theorem dbl_add : Addi dbl := by
  intro a b
  rw [dbl_form, dbl_form, dbl_form, shl_xor, tb_xor]
  cases a.toNat.testBit 7 <;> cases b.toNat.testBit 7 <;> simp [UInt8.xor_assoc, UInt8.xor_comm, xlc, xcan]
def gm : Nat → UInt8 → UInt8 → UInt8
  | 0, _, _ => 0
  | n + 1, a, b => (if b.toNat % 2 = 1 then a else 0) ^^^ gm n (dbl a) (b >>> 1)
theorem mulL_gm : ∀ (n : Nat) (a b p : UInt8), mulL n a b p = p ^^^ gm n a b
  | 0, a, b, p => by simp [mulL, gm]
  | n + 1, a, b, p => by
    rw [mulL, gm, mulL_gm n]
    split <;> simp [UInt8.xor_assoc]
theorem gmul_gm (a b : UInt8) : gmul a b = gm 8 a b := by rw [gmul, mulL_gm, UInt8.zero_xor]
theorem ite_xor (c : Prop) [Decidable c] (x y : UInt8) : (if c then x ^^^ y else 0) = (if c then x else 0) ^^^ (if c then y else 0) := by
  split <;> simp
theorem gm_left : ∀ (n : Nat) (x y b : UInt8), gm n (x ^^^ y) b = gm n x b ^^^ gm n y b
  | 0, x, y, b => by simp [gm]
  | n + 1, x, y, b => by
    rw [gm, gm, gm, dbl_add, gm_left n, ite_xor]
    simp only [UInt8.xor_assoc, xlc]
theorem shr_xor (a b : UInt8) : (a ^^^ b) >>> 1 = (a >>> 1) ^^^ (b >>> 1) := by
  apply UInt8.toBitVec_inj.1
  simp [BitVec.ushiftRight_xor_distrib]
theorem odd_xor (a b : UInt8) : ((a ^^^ b).toNat % 2 = 1) ↔ ((a.toNat % 2 = 1) ≠ (b.toNat % 2 = 1)) := by
  have h := tb_xor a b 0
  simp only [Nat.testBit_zero] at h
  by_cases h1 : a.toNat % 2 = 1 <;> by_cases h2 : b.toNat % 2 = 1 <;> simp [h1, h2] at h ⊢ <;> omega
theorem gm_right : ∀ (n : Nat) (a x y : UInt8), gm n a (x ^^^ y) = gm n a x ^^^ gm n a y
  | 0, a, x, y => by simp [gm]
  | n + 1, a, x, y => by
    rw [gm, gm, gm, shr_xor, gm_right n]
    by_cases h1 : x.toNat % 2 = 1 <;> by_cases h2 : y.toNat % 2 = 1
    · rw [if_neg (by rw [odd_xor]; simp [h1, h2]), if_pos h1, if_pos h2]
      simp [UInt8.xor_assoc, xlc, xcan]
    · rw [if_pos (by rw [odd_xor]; simp [h1, h2]), if_pos h1, if_neg h2]
      simp [UInt8.xor_assoc]
    · rw [if_pos (by rw [odd_xor]; simp [h1, h2]), if_neg h1, if_pos h2]
      simp [xlc]
    · rw [if_neg (by rw [odd_xor]; simp [h1, h2]), if_neg h1, if_neg h2]
      simp
theorem gmul_left (b : UInt8) : Addi (fun a => gmul a b) := fun x y => by simp only [gmul_gm, gm_left]
theorem gmul_right (a : UInt8) : Addi (fun b => gmul a b) := fun x y => by simp only [gmul_gm, gm_right]
theorem Addi.comp {f g : UInt8 → UInt8} (hf : Addi f) (hg : Addi g) : Addi (fun a => f (g a)) := fun x y => by
  show f (g (x ^^^ y)) = f (g x) ^^^ f (g y)
  rw [hg, hf]
theorem gmul_comm (a b : UInt8) : gmul a b = gmul b a := by
  refine (gmul_left b).ext (gmul_right b) (fun i hi => ?_) a
  refine (gmul_right (UInt8.ofNat (2 ^ i))).ext (gmul_left (UInt8.ofNat (2 ^ i))) (fun j hj => ?_) b
  have h : ∀ i : Fin 8, ∀ j : Fin 8, gmul (UInt8.ofNat (2 ^ i.val)) (UInt8.ofNat (2 ^ j.val)) = gmul (UInt8.ofNat (2 ^ j.val)) (UInt8.ofNat (2 ^ i.val)) := by decide +kernel
  exact h ⟨i, hi⟩ ⟨j, hj⟩
theorem gmul_assoc (a b c : UInt8) : gmul (gmul a b) c = gmul a (gmul b c) := by
  refine Addi.ext (f := fun a => gmul (gmul a b) c) (g := fun a => gmul a (gmul b c)) ((gmul_left c).comp (gmul_left b)) (gmul_left _) (fun i hi => ?_) a
  refine Addi.ext (f := fun b => gmul (gmul (UInt8.ofNat (2 ^ i)) b) c) (g := fun b => gmul (UInt8.ofNat (2 ^ i)) (gmul b c)) ((gmul_left c).comp (gmul_right _)) ((gmul_right _).comp (gmul_left c)) (fun j hj => ?_) b
  refine Addi.ext (f := fun c => gmul (gmul (UInt8.ofNat (2 ^ i)) (UInt8.ofNat (2 ^ j))) c) (g := fun c => gmul (UInt8.ofNat (2 ^ i)) (gmul (UInt8.ofNat (2 ^ j)) c)) (gmul_right _) ((gmul_right _).comp (gmul_right _)) (fun k hk => ?_) c
  have h : ∀ i : Fin 8, ∀ j : Fin 8, ∀ k : Fin 8, gmul (gmul (UInt8.ofNat (2 ^ i.val)) (UInt8.ofNat (2 ^ j.val))) (UInt8.ofNat (2 ^ k.val)) = gmul (UInt8.ofNat (2 ^ i.val)) (gmul (UInt8.ofNat (2 ^ j.val)) (UInt8.ofNat (2 ^ k.val))) := by decide +kernel
  exact h ⟨i, hi⟩ ⟨j, hj⟩ ⟨k, hk⟩
theorem gmul_one (a : UInt8) : gmul a 1 = a := by
  revert a
  exact u8_all (by decide +kernel)
theorem gmul_inv (b : UInt8) : b = 0 ∨ gmul b (ginv b) = 1 := by
  revert b
  exact u8_all (by decide +kernel)
theorem gmul_zero (a : UInt8) : gmul 0 a = 0 := (gmul_left a).zero
theorem gmul_nought (a b : UInt8) (h : gmul a b = 0) : a = 0 ∨ b = 0 := by
  rcases gmul_inv b with hb | hb
  · exact .inr hb
  · left
    rw [← gmul_one a, ← hb, ← gmul_assoc, h, gmul_zero]
/-! ### the document's product -/
def m1 (a b : Nat) : Nat → Nat
  | 0 => 0
  | k + 1 => if b.testBit k then m1 a b k ^^^ a * 2 ^ k else m1 a b k
def m2 (p : Nat) : Nat → Nat
  | 0 => p
  | j + 1 => if (m2 p j).testBit (14 - j) then m2 p j ^^^ 283 * 2 ^ (6 - j) else m2 p j
def rmul (a b : UInt8) : UInt8 := UInt8.ofNat (m2 (m1 a.toNat b.toNat 8) 7)
theorem nxlc (a b c : Nat) : a ^^^ (b ^^^ c) = b ^^^ (a ^^^ c) := by rw [← Nat.xor_assoc, Nat.xor_comm a b, Nat.xor_assoc]
theorem nxcan (a b : Nat) : a ^^^ (a ^^^ b) = b := by rw [← Nat.xor_assoc, Nat.xor_self, Nat.zero_xor]
theorem m1_xor (x y b : Nat) : ∀ k, m1 (x ^^^ y) b k = m1 x b k ^^^ m1 y b k
  | 0 => by simp [m1]
  | k + 1 => by
    rw [m1, m1, m1, m1_xor x y b k]
    have hs : (x ^^^ y) * 2 ^ k = x * 2 ^ k ^^^ y * 2 ^ k := by
      rw [← Nat.shiftLeft_eq, ← Nat.shiftLeft_eq, ← Nat.shiftLeft_eq, Nat.shiftLeft_xor_distrib]
    split
    · rw [hs]
      simp only [Nat.xor_assoc, Nat.xor_comm, nxlc, nxcan]
    · rfl
theorem m2_xor (p q : Nat) : ∀ j, m2 (p ^^^ q) j = m2 p j ^^^ m2 q j
  | 0 => rfl
  | j + 1 => by
    rw [m2, m2, m2, m2_xor p q j, Nat.testBit_xor]
    cases (m2 p j).testBit (14 - j) <;> cases (m2 q j).testBit (14 - j) <;> simp [Nat.xor_assoc, Nat.xor_comm, nxlc, nxcan]
theorem rmul_left (b : UInt8) : Addi (fun a => rmul a b) := fun x y => by
  simp only [rmul]
  rw [UInt8.toNat_xor, m1_xor, m2_xor]
  apply UInt8.toNat_inj.1
  rw [UInt8.toNat_xor, UInt8.toNat_ofNat', UInt8.toNat_ofNat', UInt8.toNat_ofNat']
  exact Nat.xor_mod_two_pow
theorem rmul_gmul (a b : UInt8) : rmul a b = gmul a b := by
  refine (rmul_left b).ext (gmul_left b) (fun i hi => ?_) a
  revert b
  apply u8_all
  have h : ∀ n : Fin 256, ∀ i : Fin 8, rmul (UInt8.ofNat (2 ^ i.val)) (UInt8.ofNat n.val) = gmul (UInt8.ofNat (2 ^ i.val)) (UInt8.ofNat n.val) := by decide +kernel
  intro n
  exact h n ⟨i, hi⟩
end Go.Proofs.YtflofbimecnakaaGreat
namespace Go.Proofs.YtflofbimecnakaaGreat
set_option linter.unusedVariables false
set_option linter.unusedSimpArgs false
def sboxC : List UInt8 := [99, 124, 119, 123, 242, 107, 111, 197, 48, 1, 103, 43, 254, 215, 171, 118, 202, 130, 201, 125, 250, 89, 71, 240, 173, 212, 162, 175, 156, 164, 114, 192, 183, 253, 147, 38, 54, 63, 247, 204, 52, 165, 229, 241, 113, 216, 49, 21, 4, 199, 35, 195, 24, 150, 5, 154, 7, 18, 128, 226, 235, 39, 178, 117, 9, 131, 44, 26, 27, 110, 90, 160, 82, 59, 214, 179, 41, 227, 47, 132, 83, 209, 0, 237, 32, 252, 177, 91, 106, 203, 190, 57, 74, 76, 88, 207, 208, 239, 170, 251, 67, 77, 51, 133, 69, 249, 2, 127, 80, 60, 159, 168, 81, 163, 64, 143, 146, 157, 56, 245, 188, 182, 218, 33, 16, 255, 243, 210, 205, 12, 19, 236, 95, 151, 68, 23, 196, 167, 126, 61, 100, 93, 25, 115, 96, 129, 79, 220, 34, 42, 144, 136, 70, 238, 184, 20, 222, 94, 11, 219, 224, 50, 58, 10, 73, 6, 36, 92, 194, 211, 172, 98, 145, 149, 228, 121, 231, 200, 55, 109, 141, 213, 78, 169, 108, 86, 244, 234, 101, 122, 174, 8, 186, 120, 37, 46, 28, 166, 180, 198, 232, 221, 116, 31, 75, 189, 139, 138, 112, 62, 181, 102, 72, 3, 246, 14, 97, 53, 87, 185, 134, 193, 29, 158, 225, 248, 152, 17, 105, 217, 142, 148, 155, 30, 135, 233, 206, 85, 40, 223, 140, 161, 137, 13, 191, 230, 66, 104, 65, 153, 45, 15, 176, 84, 187, 22]
def backC : List UInt8 := [82, 9, 106, 213, 48, 54, 165, 56, 191, 64, 163, 158, 129, 243, 215, 251, 124, 227, 57, 130, 155, 47, 255, 135, 52, 142, 67, 68, 196, 222, 233, 203, 84, 123, 148, 50, 166, 194, 35, 61, 238, 76, 149, 11, 66, 250, 195, 78, 8, 46, 161, 102, 40, 217, 36, 178, 118, 91, 162, 73, 109, 139, 209, 37, 114, 248, 246, 100, 134, 104, 152, 22, 212, 164, 92, 204, 93, 101, 182, 146, 108, 112, 72, 80, 253, 237, 185, 218, 94, 21, 70, 87, 167, 141, 157, 132, 144, 216, 171, 0, 140, 188, 211, 10, 247, 228, 88, 5, 184, 179, 69, 6, 208, 44, 30, 143, 202, 63, 15, 2, 193, 175, 189, 3, 1, 19, 138, 107, 58, 145, 17, 65, 79, 103, 220, 234, 151, 242, 207, 206, 240, 180, 230, 115, 150, 172, 116, 34, 231, 173, 53, 133, 226, 249, 55, 232, 28, 117, 223, 110, 71, 241, 26, 113, 29, 41, 197, 137, 111, 183, 98, 14, 170, 24, 190, 27, 252, 86, 62, 75, 198, 210, 121, 32, 154, 219, 192, 254, 120, 205, 90, 244, 31, 221, 168, 51, 136, 7, 199, 49, 177, 18, 16, 89, 39, 128, 236, 95, 96, 81, 127, 169, 25, 181, 74, 13, 45, 229, 122, 159, 147, 201, 156, 239, 160, 224, 59, 77, 174, 42, 245, 176, 200, 235, 187, 60, 131, 83, 153, 97, 23, 43, 4, 126, 186, 119, 214, 38, 225, 105, 20, 99, 85, 33, 12, 125]
theorem sbox_c : sboxL = sboxC := by decide +kernel
def gback (b : UInt8) : UInt8 := backC.getD b.toNat 0
theorem back_c : ∀ n : Fin 256, backC.getD (sboxC.getD n.val 0).toNat 0 = UInt8.ofNat n.val := by decide +kernel
theorem sub_c : ∀ n : Fin 256, sboxC.getD (backC.getD n.val 0).toNat 0 = UInt8.ofNat n.val := by decide +kernel
theorem gsub_c (a : UInt8) : gsub a = sboxC.getD a.toNat 0 := by rw [← sboxL_get, sbox_c]
theorem gback_gsub (a : UInt8) : gback (gsub a) = a := by
  rw [gback, gsub_c]
  have := back_c ⟨a.toNat, a.toNat_lt⟩
  rw [this, UInt8.ofNat_toNat]
theorem gsub_gback (a : UInt8) : gsub (gback a) = a := by
  rw [gsub_c, gback]
  have := sub_c ⟨a.toNat, a.toNat_lt⟩
  rw [this, UInt8.ofNat_toNat]
theorem gsub_inj {a b : UInt8} (h : gsub a = gsub b) : a = b := by rw [← gback_gsub a, h, gback_gsub]
def gpow (b : UInt8) : Nat → UInt8
  | 0 => 1
  | n + 1 => gmul (gpow b n) b
theorem gone (a : UInt8) : gmul 1 a = a := by rw [gmul_comm, gmul_one]
theorem gpow_add (b : UInt8) (m : Nat) : ∀ n, gmul (gpow b m) (gpow b n) = gpow b (m + n)
  | 0 => by rw [gpow, gmul_one]; rfl
  | n + 1 => by rw [gpow, ← gmul_assoc, gpow_add b m n]; rfl
theorem invL_pow (b : UInt8) : ∀ (n k j : Nat), invL n (gpow b k) (gpow b j) = gpow b (j + k * (2 ^ (n + 1) - 2))
  | 0, k, j => by rw [invL, show k * (2 ^ (0 + 1) - 2) = 0 by simp]; rfl
  | n + 1, k, j => by
    rw [invL, gpow_add, gpow_add, invL_pow b n]
    congr 1
    have h : (2 : Nat) ^ (n + 1 + 1) = 2 * 2 ^ (n + 1) := by rw [Nat.pow_succ, Nat.mul_comm]
    have h2 : 2 ≤ (2 : Nat) ^ (n + 1) := by
      have := Nat.pow_le_pow_right (n := 2) (by decide) (show 1 ≤ n + 1 by omega)
      simpa using this
    obtain ⟨x, hx⟩ : ∃ x, (2 : Nat) ^ (n + 1) = x + 2 := ⟨2 ^ (n + 1) - 2, by omega⟩
    rw [h, hx, Nat.add_sub_cancel, show 2 * (x + 2) - 2 = 2 * x + 2 by omega, Nat.mul_add, Nat.mul_comm 2 x, ← Nat.mul_assoc, Nat.add_mul]
    omega
theorem gpow_one (b : UInt8) : gpow b 1 = b := by rw [gpow, gpow, gone]
theorem ginv_pow (b : UInt8) : ginv b = gpow b 254 := by
  have h := invL_pow b 7 1 0
  rw [gpow_one] at h
  exact h
/-! ### the document's substitution -/
def rspL : Nat → UInt8 → UInt8 → UInt8
  | 0, _, o => o
  | n + 1, x, o => rspL n (rotl8 x 1) (o ^^^ rotl8 x 1)
def rsp (x : UInt8) : UInt8 := rspL 4 x x ^^^ 99
theorem rsp_spr (x : UInt8) : rsp x = spr x := by
  revert x
  exact u8_all (by decide +kernel)
end Go.Proofs.YtflofbimecnakaaGreat
namespace Go.Proofs.YtflofbimecnakaaGreat
open Go.RowKit
set_option linter.unusedVariables false
set_option linter.unusedSimpArgs false
/-- of block g the cells from lo on may be others, and there may be new blocks; all else is as it was -/
structure Turn (g lo : Nat) (w w' : World) : Prop where
  os : w'.os = w.os
  tape : w'.tape = w.tape
  output : w'.output = w.output
  size : w.heap.size ≤ w'.heap.size
  block : ∀ k, k < w.heap.size → k ≠ g → w'.heap[k]? = w.heap[k]?
  low : ∀ o, o < lo → w'.cell? ⟨g, o, none⟩ = w.cell? ⟨g, o, none⟩ ∧ w'.frozen? ⟨g, o, none⟩ = w.frozen? ⟨g, o, none⟩
theorem Turn.refl (g lo : Nat) (w : World) : Turn g lo w w := ⟨rfl, rfl, rfl, Nat.le_refl _, fun _ _ _ => rfl, fun _ _ => ⟨rfl, rfl⟩⟩
theorem Turn.trans {g lo : Nat} {a b c : World} (h : Turn g lo a b) (k : Turn g lo b c) : Turn g lo a c :=
  ⟨k.os.trans h.os, k.tape.trans h.tape, k.output.trans h.output, Nat.le_trans h.size k.size, fun i hi hg => (k.block i (Nat.lt_of_lt_of_le hi h.size) hg).trans (h.block i hi hg), fun o ho => ⟨(k.low o ho).1.trans (h.low o ho).1, (k.low o ho).2.trans (h.low o ho).2⟩⟩
theorem Turn.less {g lo lo' : Nat} {a b : World} (h : Turn g lo a b) (hl : lo' ≤ lo) : Turn g lo' a b := ⟨h.os, h.tape, h.output, h.size, h.block, fun o ho => h.low o (by omega)⟩
theorem Turn.drew {g lo : Nat} {a b : World} (h : Turn g lo a b) : Turn g lo a b.drew := ⟨h.os, h.tape, h.output, h.size, h.block, h.low⟩
theorem Turn.ofBelow {g lo : Nat} {a b : World} (h : Below a.heap.size a b) (hg : g < a.heap.size) : Turn g lo a b :=
  ⟨h.os, h.tape, h.output, h.size, fun k hk _ => h.block k hk, fun o ho => ⟨h.cell hg, h.frozen hg⟩⟩
theorem Turn.setCell {g lo : Nat} {a b : World} (h : Turn g lo a b) (o : Nat) (ho : lo ≤ o) (v : Value) : Turn g lo a (b.setCell ⟨g, o, none⟩ v) :=
  h.trans ⟨rfl, rfl, rfl, by simp [World.setCell], fun k _ hk => Below.heap_setCell _ _ _ _ hk, fun o' ho' => ⟨by
    rw [World.cell?_setCell_other]
    intro e
    injection e with _ e2
    omega, by rw [World.frozen?_setCell]⟩⟩
theorem At.turn {w w' : World} {g lo h o : Nat} {cs : List Value} (ha : At w h o cs) (ht : Turn g lo w w') (hne : h ≠ g ∨ o + cs.length ≤ lo) : At w' h o cs := fun j v hv => by
  have hj : j < cs.length := (List.getElem?_eq_some_iff.1 hv).1
  have hl := ha.lt (by rintro rfl; simp at hv)
  obtain ⟨h1, h2⟩ := ha j v hv
  by_cases e : h = g
  · subst e
    have hlo : o + j < lo := by
      rcases hne with hne | hne
      · exact absurd rfl hne
      · omega
    obtain ⟨h3, h4⟩ := ht.low (o + j) hlo
    exact ⟨h3.trans h1, h4.trans h2⟩
  · have hb := ht.block h hl e
    exact ⟨(World.cell?_of_block (w := w) hb).trans h1, (World.frozen?_of_block (w := w) hb).trans h2⟩
theorem Turn.below {g lo : Nat} {a b : World} (h : Turn g lo a b) : Below g a b ∨ True := .inr trivial
def unmW (a : UInt8) : UInt32 := wd (gmul a 14) (gmul a 9) (gmul a 13) (gmul a 11)
def unmL (n : Nat) : List UInt32 := (List.range n).map fun i => unmW (UInt8.ofNat i)
theorem unmL_succ (n : Nat) : unmL (n + 1) = unmL n ++ [unmW (UInt8.ofNat n)] := by simp [unmL, List.range_succ]
theorem unmL_length (n : Nat) : (unmL n).length = n := by simp [unmL]
theorem unmL_get (b : UInt8) : (unmL 256).getD b.toNat 0 = unmW b := by
  have := b.toNat_lt
  simp [unmL, List.getD, this]
def bkL : Nat → List UInt8
  | 0 => List.replicate 256 0
  | k + 1 => (bkL k).set (gsub (UInt8.ofNat k)).toNat (UInt8.ofNat k)
theorem bkL_length : ∀ k, (bkL k).length = 256
  | 0 => by rw [bkL, List.length_replicate]
  | k + 1 => by rw [bkL, List.length_set, bkL_length k]
theorem bkL_all : bkL 256 = backC := by decide +kernel
theorem backC_length : backC.length = 256 := by decide +kernel
theorem backC_get (b : UInt8) : backC.getD b.toNat 0 = gback b := rfl
/-- somebody has decrypted -/
def Done (w : World) (g : Nat) : Prop := At w g 513 [.int .u32 1, .int .i32 0, .int .u32 0] ∧ At w g 516 (bcells backC) ∧ At w g 772 (wcells (unmL 256))
set_option maxRecDepth 100000 in
set_option maxHeartbeats 3200000 in
theorem turnBack_any (w : World) (g : Nat) (hS : At w g 1 (bcells sboxL)) (hB : At w g 516 (bcells (List.replicate 256 0))) (hU : At w g 772 (wcells (List.replicate 256 0))) : Calls Tryz.prog 121 #[.pointer (some ⟨g, 0, none⟩)] w
    (fun e w' => e = .returned (.tuple #[]) ∧ At w' g 516 (bcells backC) ∧ At w' g 772 (wcells (unmL 256)) ∧ Turn g 516 w w' ∧ w'.heap.size = w.heap.size) := by
  go_enter Tryz.func121, Tryz.ntmps121
  go_wp2_with fail
  have hU' : At w g 772 (wcells (unmL 0 ++ List.replicate (256 - (unmL 0).length) 0)) := hU
  have hB' : At w g 516 (bcells (bkL 0)) := hB
  clear hU hB
  go_loopw [4] (fun i wr => ∃ k : Nat, k ≤ 256 ∧ i = .int .i64 k ∧ At wr g 1 (bcells sboxL) ∧ At wr g 516 (bcells (bkL k)) ∧ At wr g 772 (wcells (unmL k ++ List.replicate (256 - (unmL k).length) 0)) ∧ Turn g 516 w wr ∧ wr.heap.size = w.heap.size) (fun i _ => 256 - (intOf i).toNat)
  case atStart => exact ⟨0, Nat.zero_le _, rfl, hS, hB', hU', Turn.refl _ _ _, rfl⟩
  case round =>
    clear hS hB' hU'
    obtain ⟨k, hk, rfl, h1, h5, h7, ht, hs⟩ := hrel
    have H1 := Lib.hid h1
    have H5 := Lib.hid h5
    have H7 := Lib.hid h7
    clear h1 h5 h7
    by_cases hlt : k < 256
    · obtain ⟨b, rfl⟩ : ∃ b : UInt8, k = b.toNat := ⟨UInt8.ofNat k, by simp; omega⟩
      obtain ⟨s, hs'⟩ : ∃ s : UInt8, gsub b = s := ⟨_, rfl⟩
      have hc1 := H1.out.b8 b.toNat (by rw [sboxL_length]; exact hlt)
      rw [sboxL_get, hs'] at hc1
      have HS := Lib.hid hs'
      clear hs'
      have hsl := s.toNat_lt
      have hsI : (s.toNat : Int) < 256 := by omega
      have hbI : (b.toNat : Int) < 256 := by omega
      have hwb : IntKind.u8.wrap (b.toNat : Int) = (b.toNat : Int) := by
        rw [IntKind.wrap_u8]
        omega
      have hc5 := H5.out.b8 s.toNat (by rw [bkL_length]; omega)
      have hf5 := H5.out.froz s.toNat (by rw [bcells_length, bkL_length]; omega)
      go_wp2_with fail
      go_still_tail 12, (by kernel_rfl)
      change wpList _ _ _ _ _ wr.drew
      have hb5 : At (wr.setCell ⟨g, 516 + s.toNat, none⟩ (.int .u8 (b.toNat : Int))).drew g 516 (bcells ((bkL b.toNat).set s.toNat b)) := (H5.out.b8set s.toNat b).drew
      have hb1 : At ((wr.setCell ⟨g, 516 + s.toNat, none⟩ (.int .u8 (b.toNat : Int))).drew) g 1 (bcells sboxL) := (H1.out.other _ _ _ (.inr (.inr (by rw [bcells_length, sboxL_length]; omega)))).drew
      have hb7 : At ((wr.setCell ⟨g, 516 + s.toNat, none⟩ (.int .u8 (b.toNat : Int))).drew) g 772 (wcells (unmL b.toNat ++ List.replicate (256 - (unmL b.toNat).length) 0)) := (H7.out.other _ _ _ (.inr (.inl (by omega)))).drew
      have ht2 := (ht.setCell (516 + s.toNat) (by omega) (.int .u8 (b.toNat : Int))).drew
      have hs2 : ((wr.setCell ⟨g, 516 + s.toNat, none⟩ (.int .u8 (b.toNat : Int))).drew).heap.size = w.heap.size := by
        rw [← hs]
        simp [World.setCell]
      go_wp2_with fail
      generalize (wr.setCell ⟨g, 516 + s.toNat, none⟩ (.int .u8 (b.toNat : Int))).drew = w2 at hb5 hb1 hb7 ht2 hs2 ⊢
      have hbk : (bkL b.toNat).set s.toNat b = bkL (b.toNat + 1) := by rw [bkL, UInt8.ofNat_toNat, HS.out]
      rw [hbk] at hb5
      clear hc1 hc5 hf5 H1 H5 H7 hbk ht hs HS
      have H1 := Lib.hid hb1
      have H5 := Lib.hid hb5
      have H7 := Lib.hid hb7
      clear hb1 hb5 hb7
      have hc7 := H7.out.cell b.toNat _ (wcells_get _ b.toNat (by simp; rw [unmL_length]; omega))
      have hf7 := H7.out.froz b.toNat (by rw [wcells_length]; simp; rw [unmL_length]; omega)
      go_still_tail 14, (by kernel_rfl)
      still_call (still_y (mul_any b 14 _))
      repeat still_step
      still_call (still_y (mul_any b 9 _))
      repeat still_step
      still_call (still_y (mul_any b 13 _))
      repeat still_step
      still_call (still_y (mul_any b 11 _))
      repeat still_step
      still_call (still_w (word_any _ _ _ _ _))
      repeat still_step
      refine wpStill_nil ?_
      change wpList _ _ _ _ _ w2.drew
      go_wp2_with fail
      go_roundw
      case rel =>
        refine ⟨b.toNat + 1, by omega, by go_num, H1.out.drew.other _ _ _ (.inr (.inr (by rw [bcells_length, sboxL_length]; omega))), H5.out.drew.other _ _ _ (.inr (.inr (by rw [bcells_length, bkL_length]; omega))), ?_, ht2.drew.setCell (772 + b.toNat) (by omega) _, by rw [← hs2]; simp [World.setCell]⟩
        have h := H7.out.drew.w32set b.toNat (unmW b)
        have h2 := grow_set (unmL b.toNat) 0 (unmW b) 256 (by rw [unmL_length]; exact hlt)
        rw [unmL_length] at h2
        have h4 : unmL b.toNat ++ [unmW b] = unmL (b.toNat + 1) := by rw [unmL_succ, UInt8.ofNat_toNat]
        rw [unmL_length, h2, h4] at h
        exact h
      case measure => simp [intOf]; omega
    · have hkn : k = 256 := by omega
      subst hkn
      have h7 := H7.out
      rw [unmL_length, Nat.sub_self, List.replicate_zero, List.append_nil] at h7
      have h5 := H5.out
      rw [bkL_all] at h5
      go_wp2_with fail
      go_end0
      exact ⟨rfl, h5, h7, ht, hs⟩
end Go.Proofs.YtflofbimecnakaaGreat
namespace Go.Proofs.YtflofbimecnakaaGreat
open Go.RowKit
set_option linter.unusedVariables false
set_option linter.unusedSimpArgs false
theorem race_disable (w : World) : (callFunc 142 #[]).run Tryz.prog w = .ok (.value (.tuple #[])) w := run_call_mark0 Tryz.func142 (by kernel_rfl) (by kernel_rfl) (by kernel_rfl) .disable (by kernel_rfl) w
theorem race_enable (w : World) : (callFunc 144 #[]).run Tryz.prog w = .ok (.value (.tuple #[])) w := run_call_mark0 Tryz.func144 (by kernel_rfl) (by kernel_rfl) (by kernel_rfl) .enable (by kernel_rfl) w
theorem race_acquire (a : Addr) (w : World) : (callFunc 145 #[.pointer (some a)]).run Tryz.prog w = .ok (.value (.tuple #[])) w := run_call_marked Tryz.func145 (by kernel_rfl) (by kernel_rfl) (by kernel_rfl) .acquire (by kernel_rfl) a w
theorem race_merge (a : Addr) (w : World) : (callFunc 147 #[.pointer (some a)]).run Tryz.prog w = .ok (.value (.tuple #[])) w := run_call_marked Tryz.func147 (by kernel_rfl) (by kernel_rfl) (by kernel_rfl) .releaseMerge (by kernel_rfl) a w
set_option maxRecDepth 100000 in
theorem store_deferred (a : Addr) (x : Value) (u : FrameMode) (w : World) (hc : w.cell? a = some x) (hz : w.frozen? a = false) :
    CallsD Tryz.prog 134 #[.pointer (some a), .bool true] u w fun e u' w' => u' = u ∧ (e = .returned (.tuple #[]) ∧ w' = w.drew.setCell a (.int .u32 1)) := by
  have hc' : w.drew.cell? a = some x := by go_simp
  have hz' : w.drew.frozen? a = false := by go_simp
  have hst := run_call_store (P := Tryz.prog) Tryz.func139 (by kernel_rfl) (by kernel_rfl) (by kernel_rfl) (by kernel_rfl) (k := .u32) (y := 1) hc' hz'
  go_enter_d Tryz.func134, Tryz.ntmps134
  go_wp2
  go_region_calls
  all_goals (go_end0; exact ⟨rfl, rfl⟩)
set_option maxRecDepth 100000 in
theorem unlock_in (a : Addr) (w : World) (hc : w.cell? a = some (.int .i32 1)) (hz : w.frozen? a = false) :
    Calls Tryz.prog 138 #[.pointer (some a)] w fun e w' => e = .returned (.tuple #[]) ∧ w' = w.setCell a (.int .i32 0) := by
  have hd := race_disable
  have he := race_enable
  have hr := race_merge
  have hadd := run_call_add (P := Tryz.prog) Tryz.func148 (by kernel_rfl) (by kernel_rfl) (by kernel_rfl) .i32 (by kernel_rfl) (y := -1) (s := 0) hc hz (by simp [go_sem]; rfl)
  have hcv : ∀ s, Tryz.prog.underlying s = some (.pointer 104) → (convert s 159 (.pointer (some a))).run Tryz.prog w = .ok (.pointer (some a)) w := fun s hs => run_convert_to_unsafe (P := Tryz.prog) hs Tryz.underlying159 (by kernel_rfl) hc
  go_enter Tryz.func138, Tryz.ntmps138
  go_wp2
  go_end0
  exact ⟨rfl, rfl⟩
theorem unlock_deferred (a : Addr) (u : FrameMode) (w : World) (hc : w.cell? a = some (.int .i32 1)) (hz : w.frozen? a = false) :
    CallsD Tryz.prog 133 #[.pointer (some a)] u w fun e u' w' => u' = u ∧ (e = .returned (.tuple #[]) ∧ w' = w.setCell a (.int .i32 0)) := by
  go_enter_d Tryz.func133, Tryz.ntmps133
  go_wp2_with fail
  refine (unlock_in _ _ hc hz).mono ?_
  rintro e w' ⟨rfl, rfl⟩
  go_wp2_with fail
  go_end0
  exact ⟨rfl, rfl⟩
set_option maxRecDepth 100000 in
theorem lock_in (a : Addr) (w : World) (hc : w.cell? a = some (.int .i32 0)) (hz : w.frozen? a = false) :
    Calls Tryz.prog 137 #[.pointer (some a)] w fun e w' => e = .returned (.tuple #[]) ∧ w' = w.setCell a (.int .i32 1) := by
  have hd := race_disable
  have he := race_enable
  have ha := race_acquire
  have hcas := run_call_cas_hit (P := Tryz.prog) Tryz.func143 (by kernel_rfl) (by kernel_rfl) (by kernel_rfl) .i32 (by kernel_rfl) (y := 1) hc hz
  have hc' : (w.setCell a (.int .i32 1)).cell? a = some (.int .i32 1) := World.cell?_setCell_same w a _ hc
  have hcv : ∀ s, Tryz.prog.underlying s = some (.pointer 104) → (convert s 159 (.pointer (some a))).run Tryz.prog (w.setCell a (.int .i32 1)) = .ok (.pointer (some a)) (w.setCell a (.int .i32 1)) := fun s hs => run_convert_to_unsafe (P := Tryz.prog) hs Tryz.underlying159 (by kernel_rfl) hc'
  go_enter Tryz.func137, Tryz.ntmps137
  go_wp2
  first | go_end0 | (simp only [Exit.inBlock, Exit.then]; refine bodyPost_ret (results_none rfl _ _ _) rfl ?_) | refine bodyPost_ret (results_none rfl _ _ _) rfl ?_
  exact ⟨rfl, rfl⟩
set_option maxRecDepth 100000 in
theorem lock_free (a : Addr) (w : World) (hc : w.cell? a = some (.int .i32 0)) (hz : w.frozen? a = false) :
    Calls Tryz.prog 132 #[.pointer (some a)] w fun e w' => e = .returned (.tuple #[]) ∧ w' = w.setCell a (.int .i32 1) := by
  go_enter Tryz.func132, Tryz.ntmps132
  go_wp2_with fail
  refine (lock_in _ _ hc hz).mono ?_
  rintro e w' ⟨rfl, rfl⟩
  go_wp2_with fail
  go_end0
  exact ⟨rfl, rfl⟩
set_option maxRecDepth 100000 in
theorem load_done (a : Addr) (x : Nat) (w : World) (hc : w.cell? a = some (.int .u32 (x : Int))) : Calls Tryz.prog 128 #[.pointer (some a)] w fun e w' => e = .returned (.bool (((x : Nat) : Int) != 0)) ∧ w' = w := by
  have hl := run_call_load (P := Tryz.prog) Tryz.func131 (by kernel_rfl) (by kernel_rfl) (by kernel_rfl) .u32 (by kernel_rfl) hc
  go_enter Tryz.func128, Tryz.ntmps128
  go_wp2
  go_ret
  exact ⟨rfl, rfl⟩
set_option maxRecDepth 100000 in
/-- the way back's tables are there, once for all -/
theorem slow_any (w : World) (g : Nat) (K : List UInt8) (hC : Ciph w g K) (hF : Fresh w g) : Calls Tryz.prog 129 #[.pointer (some ⟨g, 513, none⟩), .func (.func 121) #[.pointer (some ⟨g, 0, none⟩)] #[]] w
    (fun e w' => e = .returned (.tuple #[]) ∧ Done w' g ∧ Turn g 513 w w') := by
  obtain ⟨hO, hB, hU⟩ := hF
  have hg := hO.lt (by simp)
  have h0 := hO.cell 0 _ rfl
  have h1 := hO.cell 1 _ rfl
  have f0 := hO.froz 0 (by simp)
  have f1 := hO.froz 1 (by simp)
  have hS := hC.sub
  have hO1 : At (w.setCell ⟨g, 514, none⟩ (.int .i32 1)) g 513 [.int .u32 0, .int .i32 1, .int .u32 0] := hO.set 1 (.int .i32 1)
  have hS1 : At (w.setCell ⟨g, 514, none⟩ (.int .i32 1)) g 1 (bcells sboxL) := hS.other _ _ _ (.inr (.inr (by rw [bcells_length, sboxL_length]; omega)))
  have hB1 : At (w.setCell ⟨g, 514, none⟩ (.int .i32 1)) g 516 (bcells (List.replicate 256 0)) := hB.other _ _ _ (.inr (.inl (by omega)))
  have hU1 : At (w.setCell ⟨g, 514, none⟩ (.int .i32 1)) g 772 (wcells (List.replicate 256 0)) := hU.other _ _ _ (.inr (.inl (by omega)))
  have hT1 : Turn g 513 w (w.setCell ⟨g, 514, none⟩ (.int .i32 1)) := (Turn.refl g 513 w).setCell 514 (by omega) _
  have hnot : ∀ (x : Bool) (w : World), (Op.unary .not (.bool x)).run Tryz.prog w = .ok (.bool (!x)) w := fun _ _ => rfl
  have HO1 := Lib.hid hO1
  have HS1 := Lib.hid hS1
  have HB1 := Lib.hid hB1
  have HU1 := Lib.hid hU1
  clear hO hB hU hS hO1 hS1 hB1 hU1 hC
  go_enter_defers Tryz.func129, Tryz.ntmps129
  go_wp2_with fail
  refine (lock_free _ _ h1 f1).mono ?_
  rintro e w' ⟨rfl, rfl⟩
  generalize hw1 : w.setCell ⟨g, 514, none⟩ (.int .i32 1) = w1 at HO1 HS1 HB1 HU1 hT1
  clear hw1
  have h0' := HO1.out.cell 0 _ rfl
  go_wp2_with fail
  refine (load_done _ 0 _ h0').mono ?_
  rintro e w' ⟨rfl, rfl⟩
  go_wp2_with fail
  refine (turnBack_any _ g HS1.out HB1.out HU1.out).mono ?_
  rintro e w2 ⟨rfl, hB2, hU2, hT2, hs2⟩
  have hO2 := HO1.out.turn hT2 (.inr (by simp))
  go_wp2_with fail
  refine leaves_cons (f := 134) (args := #[.pointer (some ⟨g, 513, none⟩), .bool true]) (by simp) (by simp [go_sem]) ?_
  refine (store_deferred ⟨g, 513, none⟩ (.int .u32 0) .returning _ (hO2.cell 0 _ rfl) (hO2.froz 0 (by simp))).mono ?_
  rintro e u' w3 ⟨rfl, rfl, rfl⟩
  have hO3 := hO2.drew.set 0 (.int .u32 1)
  have hB3 := hB2.drew.other g 513 (.int .u32 1) (.inr (.inl (by omega)))
  have hU3 := hU2.drew.other g 513 (.int .u32 1) (.inr (.inl (by omega)))
  have hT3 := (hT1.trans (hT2.less (by omega))).drew.setCell 513 (Nat.le_refl _) (.int .u32 1)
  rw [Nat.add_zero] at hO3
  refine leaves_cons (f := 133) (args := #[.pointer (some ⟨g, 514, none⟩)]) (by simp [settle]) (by simp [go_sem]) ?_
  refine (unlock_deferred ⟨g, 514, none⟩ _ _ (hO3.cell 1 _ rfl) (hO3.froz 1 (by simp))).mono ?_
  rintro e u' w4 ⟨rfl, rfl, rfl⟩
  have hO4 := hO3.set 1 (.int .i32 0)
  have hB4 := hB3.other g 514 (.int .i32 0) (.inr (.inl (by omega)))
  have hU4 := hU3.other g 514 (.int .i32 0) (.inr (.inl (by omega)))
  have hT4 := hT3.setCell 514 (by omega) (.int .i32 0)
  simp [Leaves, settle, results, Tryz.results129]
  exact ⟨⟨hO4, hB4, hU4⟩, hT4⟩
set_option maxRecDepth 100000 in
theorem do_first (w : World) (g : Nat) (K : List UInt8) (hC : Ciph w g K) (hF : Fresh w g) : Calls Tryz.prog 120 #[.pointer (some ⟨g, 513, none⟩), .func (.func 121) #[.pointer (some ⟨g, 0, none⟩)] #[]] w
    (fun e w' => e = .returned (.tuple #[]) ∧ Done w' g ∧ Turn g 513 w w') := by
  have h0 := hF.1.cell 0 _ rfl
  have hnot : ∀ (x : Bool) (w : World), (Op.unary .not (.bool x)).run Tryz.prog w = .ok (.bool (!x)) w := fun _ _ => rfl
  go_enter Tryz.func120, Tryz.ntmps120
  go_wp2_with fail
  refine (load_done _ 0 _ h0).mono ?_
  rintro e w' ⟨rfl, rfl⟩
  go_wp2_with fail
  refine (slow_any _ g K hC hF).mono ?_
  rintro e w' ⟨rfl, hD, hT⟩
  go_wp2_with fail
  go_end0
  exact ⟨rfl, hD, hT⟩
set_option maxRecDepth 100000 in
theorem do_done (w : World) (g : Nat) (fv : Value) (hD : Done w g) : Calls Tryz.prog 120 #[.pointer (some ⟨g, 513, none⟩), fv] w
    (fun e w' => e = .returned (.tuple #[]) ∧ Done w' g ∧ Turn g 513 w w') := by
  have h0 := hD.1.cell 0 _ rfl
  have hnot : ∀ (x : Bool) (w : World), (Op.unary .not (.bool x)).run Tryz.prog w = .ok (.bool (!x)) w := fun _ _ => rfl
  go_enter Tryz.func120, Tryz.ntmps120
  go_wp2_with fail
  refine (load_done _ 1 _ h0).mono ?_
  rintro e w' ⟨rfl, rfl⟩
  go_wp2_with fail
  go_end0
  exact ⟨rfl, hD, Turn.refl _ _ _⟩
end Go.Proofs.YtflofbimecnakaaGreat
namespace Go.Proofs.YtflofbimecnakaaGreat
open Go.RowKit
set_option linter.unusedVariables false
set_option linter.unusedSimpArgs false
set_option maxRecDepth 100000 in
set_option maxHeartbeats 6400000 in
theorem unro_any (S : List UInt32) (w : World) (g : Nat) (T : List UInt8) (f : UInt8 → UInt8) (hm : At w g 516 (bcells T)) (hT : T.length = 256) (hTf : ∀ b : UInt8, T.getD b.toNat 0 = f b) (hg : g < w.heap.size) (hS : S.length = 4) : Calls Tryz.prog 122 #[.pointer (some ⟨g, 0, none⟩), .agg (wcells S).toArray] w (RetK (lasL f 3 2 1 S) w) := by
  go_enter Tryz.func122, Tryz.ntmps122
  go_wp2_with fail
  obtain ⟨w0, hw0, hA0, hA1, hA2, hb0, hs0⟩ := three_cols w S
  rw [hw0]
  have hM0 : At w0 g 516 (bcells T) := hm.below hb0 hg
  clear hw0 hm
  have hA2' : At w0 (w.heap.size + 2) 0 (wcells (mixP 4 (lasF f 3 2 1 S) (fun _ => 0) 0)) := hA2
  clear hA2
  go_loopw [7] (fun i wr => ∃ k : Nat, k ≤ 4 ∧ i = .int .i64 k ∧ At wr w.heap.size 0 (wcells S) ∧ At wr (w.heap.size + 1) 0 (wcells [0, 0, 0, 0]) ∧ At wr (w.heap.size + 2) 0 (wcells (mixP 4 (lasF f 3 2 1 S) (fun _ => 0) k)) ∧ At wr g 516 (bcells T) ∧ Below w.heap.size w wr) (fun i _ => 4 - (intOf i).toNat)
  case atStart => exact ⟨0, Nat.zero_le _, rfl, hA0, hA1, hA2', hM0, hb0⟩
  case round =>
    clear hA0 hA1 hA2' hb0 hs0 hM0
    obtain ⟨k, hk, rfl, hA0, hA1, hA2, hM, hb0⟩ := hrel
    have H0 := Lib.hid hA0
    have H1 := Lib.hid hA1
    have H2 := Lib.hid hA2
    have HM := Lib.hid hM
    clear hA0 hA1 hA2 hM
    by_cases hlt : k < 4
    · have HTf := Lib.hid hTf
      obtain ⟨q1, hq1⟩ : ∃ q : Nat, q = k + 3 := ⟨_, rfl⟩
      obtain ⟨r1, hr1⟩ : ∃ r : Nat, r = (k + 3) % 4 := ⟨_, rfl⟩
      have hwq1 : IntKind.i64.wrap ((k : Int) + 3) = (q1 : Int) := by rw [wrap_in _ (by omega) (by omega)]; omega
      have hwr1 : (q1 : Int).tmod 4 = (r1 : Int) := by rw [Int.tmod_eq_emod_of_nonneg (by omega)]; omega
      have hrI1 : (r1 : Int) < 4 := by omega
      obtain ⟨q2, hq2⟩ : ∃ q : Nat, q = k + 2 := ⟨_, rfl⟩
      obtain ⟨r2, hr2⟩ : ∃ r : Nat, r = (k + 2) % 4 := ⟨_, rfl⟩
      have hwq2 : IntKind.i64.wrap ((k : Int) + 2) = (q2 : Int) := by rw [wrap_in _ (by omega) (by omega)]; omega
      have hwr2 : (q2 : Int).tmod 4 = (r2 : Int) := by rw [Int.tmod_eq_emod_of_nonneg (by omega)]; omega
      have hrI2 : (r2 : Int) < 4 := by omega
      obtain ⟨q3, hq3⟩ : ∃ q : Nat, q = k + 1 := ⟨_, rfl⟩
      obtain ⟨r3, hr3⟩ : ∃ r : Nat, r = (k + 1) % 4 := ⟨_, rfl⟩
      have hwq3 : IntKind.i64.wrap ((k : Int) + 1) = (q3 : Int) := by rw [wrap_in _ (by omega) (by omega)]; omega
      have hwr3 : (q3 : Int).tmod 4 = (r3 : Int) := by rw [Int.tmod_eq_emod_of_nonneg (by omega)]; omega
      have hrI3 : (r3 : Int) < 4 := by omega
      have hkI : (k : Int) < 4 := by omega
      have hc0 := H0.out.w32 k (by omega)
      obtain ⟨x0, hx0⟩ : ∃ x, S.getD k 0 = x := ⟨_, rfl⟩
      rw [hx0, Nat.zero_add] at hc0
      have hxb0 := (rw_ x0 0).toNat_lt
      have hxI0 : ((rw_ x0 0).toNat : Int) < 256 := by omega
      have hcm0 := HM.out.b8 (rw_ x0 0).toNat (by omega)
      rw [hTf] at hcm0
      obtain ⟨y0, hy0⟩ : ∃ y, f (rw_ x0 0) = y := ⟨_, rfl⟩
      rw [hy0] at hcm0
      have hc1 := H0.out.w32 r1 (by omega)
      obtain ⟨x1, hx1⟩ : ∃ x, S.getD r1 0 = x := ⟨_, rfl⟩
      rw [hx1, Nat.zero_add] at hc1
      have hxb1 := (rw_ x1 1).toNat_lt
      have hxI1 : ((rw_ x1 1).toNat : Int) < 256 := by omega
      have hcm1 := HM.out.b8 (rw_ x1 1).toNat (by omega)
      rw [hTf] at hcm1
      obtain ⟨y1, hy1⟩ : ∃ y, f (rw_ x1 1) = y := ⟨_, rfl⟩
      rw [hy1] at hcm1
      have hc2 := H0.out.w32 r2 (by omega)
      obtain ⟨x2, hx2⟩ : ∃ x, S.getD r2 0 = x := ⟨_, rfl⟩
      rw [hx2, Nat.zero_add] at hc2
      have hxb2 := (rw_ x2 2).toNat_lt
      have hxI2 : ((rw_ x2 2).toNat : Int) < 256 := by omega
      have hcm2 := HM.out.b8 (rw_ x2 2).toNat (by omega)
      rw [hTf] at hcm2
      obtain ⟨y2, hy2⟩ : ∃ y, f (rw_ x2 2) = y := ⟨_, rfl⟩
      rw [hy2] at hcm2
      have hc3 := H0.out.w32 r3 (by omega)
      obtain ⟨x3, hx3⟩ : ∃ x, S.getD r3 0 = x := ⟨_, rfl⟩
      rw [hx3, Nat.zero_add] at hc3
      have hxb3 := (rw_ x3 3).toNat_lt
      have hxI3 : ((rw_ x3 3).toNat : Int) < 256 := by omega
      have hcm3 := HM.out.b8 (rw_ x3 3).toNat (by omega)
      rw [hTf] at hcm3
      obtain ⟨y3, hy3⟩ : ∃ y, f (rw_ x3 3) = y := ⟨_, rfl⟩
      rw [hy3] at hcm3
      have hc4 := H2.out.w32 k (by rw [mixP_length]; exact hlt)
      have hfr := H2.out.froz k (by rw [wcells_length, mixP_length]; exact hlt)
      rw [Nat.zero_add] at hc4 hfr
      have HZ : Hid (lasF f 3 2 1 S k = wd y0 y1 y2 y3) := by
        show _ = _
        rw [lasF, ← hr1, ← hr2, ← hr3, hx0, hx1, hx2, hx3, hy0, hy1, hy2, hy3]
      have HQ1 := Lib.hid hq1
      have HQ2 := Lib.hid hq2
      have HQ3 := Lib.hid hq3
      clear hq1 hq2 hq3 hr1 hr2 hr3 hx0 hx1 hx2 hx3 hy0 hy1 hy2 hy3
      clear hTf
      go_wp2_with fail
      go_still_tail 45, (by kernel_rfl)
      still_call (still_y (row_nat x0 0 _ (by omega)))
      repeat still_step
      still_call (still_y (row_nat x1 1 _ (by omega)))
      repeat still_step
      still_call (still_y (row_nat x2 2 _ (by omega)))
      repeat still_step
      still_call (still_y (row_nat x3 3 _ (by omega)))
      repeat still_step
      still_call (still_w (word_any y0 y1 y2 y3 _))
      repeat still_step
      refine wpStill_nil ?_
      change wpList _ _ _ _ _ wr.drew
      go_wp2_with fail
      go_roundw
      case rel =>
        refine ⟨k + 1, by omega, (by rw [HQ3.out]; try go_num), H0.out.drew.other _ _ _ (.inl (by omega)), H1.out.drew.other _ _ _ (.inl (by omega)), ?_, HM.out.drew.other _ _ _ (.inl (by omega)), (hb0.drew.setCell (p := ⟨w.heap.size + 2, k, none⟩) (by simp only; omega) _)⟩
        have h := H2.out.drew.w32set k (wd y0 y1 y2 y3)
        rw [← HZ.out, mixP_set, HZ.out, Nat.zero_add] at h
        exact h
      case measure =>
        have h1 := HQ3.out
        simp [intOf]
        omega
    · have hkn : k = 4 := by omega
      subst hkn
      have h1 := H2.out
      rw [mixP_full] at h1
      have hst := run_store_at (P := Tryz.prog) H1.out (cs := wcells (lasL f 3 2 1 S)) (by rw [wcells_length, wcells_length, lasL_length]; rfl) (wcells_one _)
      go_wp2_with (refine wpList_load_at 114 (.tmp 5) (w.heap.size + 2) 0 (wcells (lasL f 3 2 1 S)) _ h1 Tryz.underlying114 rfl (wlen4 _ (lasL_length _ _ _ _ _)) ⟨rfl, rfl, rfl⟩ ?_)
      have hfin : At (wr.setCells (w.heap.size + 1) 0 (wcells (lasL f 3 2 1 S))) (w.heap.size + 1) 0 (wcells (lasL f 3 2 1 S)) := H1.out.ofSets (by rw [wcells_length, wcells_length, lasL_length]; rfl)
      have hbf := below_sets w.heap.size (w.heap.size + 1) (by omega) (wcells (lasL f 3 2 1 S)) 0 w wr hb0
      (try simp only [Exit.inBlock, Exit.then])
      refine bodyPost_ret (results_at rfl _ (w.heap.size + 1) _ _ rfl hfin Tryz.underlying114 rfl (wlen4 _ (lasL_length _ _ _ _ _))) rfl ?_
      exact ⟨rfl, hbf⟩
end Go.Proofs.YtflofbimecnakaaGreat
namespace Go.Proofs.YtflofbimecnakaaGreat
open Go.RowKit
set_option linter.unusedVariables false
set_option linter.unusedSimpArgs false
def umxF (S : List UInt32) (i : Nat) : UInt32 := rcol unmW (fun _ => S.getD i 0) 4
def umxL (S : List UInt32) : List UInt32 := (List.range 4).map (umxF S)
theorem umxL_length (S : List UInt32) : (umxL S).length = 4 := by simp [umxL]
set_option maxRecDepth 100000 in
set_option maxHeartbeats 3200000 in
theorem unmixed_any (S : List UInt32) (w : World) (g : Nat) (hm : At w g 772 (wcells (unmL 256))) (hg : g < w.heap.size) (hS : S.length = 4) : Calls Tryz.prog 123 #[.pointer (some ⟨g, 0, none⟩), .agg (wcells S).toArray] w (RetK (umxL S) w) := by
  go_enter Tryz.func123, Tryz.ntmps123
  go_wp2_with fail
  obtain ⟨w0, hw0, hA0, hA1, hA2, hb0, hs0⟩ := three_cols w S
  rw [hw0]
  have hM0 : At w0 g 772 (wcells (unmL 256)) := hm.below hb0 hg
  clear hw0 hm
  have hA2' : At w0 (w.heap.size + 2) 0 (wcells (mixP 4 (umxF S) (fun _ => 0) 0)) := hA2
  clear hA2
  go_loopw [8] (fun i wr => ∃ k : Nat, k ≤ 4 ∧ i = .int .i64 k ∧ At wr w.heap.size 0 (wcells S) ∧ At wr (w.heap.size + 1) 0 (wcells [0, 0, 0, 0]) ∧ At wr (w.heap.size + 2) 0 (wcells (mixP 4 (umxF S) (fun _ => 0) k)) ∧ At wr g 772 (wcells (unmL 256)) ∧ Below w.heap.size w wr) (fun i _ => 4 - (intOf i).toNat)
  case atStart => exact ⟨0, Nat.zero_le _, rfl, hA0, hA1, hA2', hM0, hb0⟩
  case round =>
    clear hA0 hA1 hA2' hb0 hs0 hM0
    obtain ⟨k, hk, rfl, hA0, hA1, hA2, hM, hb0⟩ := hrel
    have H0 := Lib.hid hA0
    have H1 := Lib.hid hA1
    have H2 := Lib.hid hA2
    have HM := Lib.hid hM
    clear hA0 hA1 hA2 hM
    by_cases hlt : k < 4
    · have hkI : (k : Int) < 4 := by omega
      go_wp2_with fail
      have hset : (mixP 4 (umxF S) (fun _ => 0) k).set k (rcol unmW (fun _ => S.getD k 0) 0) = mixP 4 (umxF S) (fun _ => 0) k := by
        have hl : k < (mixP 4 (umxF S) (fun _ => 0) k).length := by rw [mixP_length]; exact hlt
        apply List.ext_getElem
        · simp
        · intro i h1 h2
          rw [List.getElem_set]
          by_cases e : k = i
          · subst e
            rw [if_pos rfl]
            simp [mixP, rcol]
          · rw [if_neg e]
      have H2' : Hid (At wr (w.heap.size + 2) 0 (wcells ((mixP 4 (umxF S) (fun _ => 0) k).set k (rcol unmW (fun _ => S.getD k 0) 0)))) := by
        rw [hset]
        exact H2
      have H0' := H0
      have H1' := H1
      have HM' := HM
      have hb0' := hb0
      clear H0 H1 H2 HM hb0 hset
      go_loopw [11] (fun i wr => ∃ n : Nat, n ≤ 4 ∧ i = .int .i64 n ∧ At wr w.heap.size 0 (wcells S) ∧ At wr (w.heap.size + 1) 0 (wcells [0, 0, 0, 0]) ∧ At wr (w.heap.size + 2) 0 (wcells ((mixP 4 (umxF S) (fun _ => 0) k).set k (rcol unmW (fun _ => S.getD k 0) n))) ∧ At wr g 772 (wcells (unmL 256)) ∧ Below w.heap.size w wr) (fun i _ => 4 - (intOf i).toNat)
      case atStart => exact ⟨0, Nat.zero_le _, rfl, H0'.out, H1'.out, H2'.out, HM'.out, hb0'⟩
      case round =>
        clear H0' H1' H2' HM' hb0'
        obtain ⟨n, hn, rfl, hA0, hA1, hA2, hM, hb0⟩ := hrel
        have H0 := Lib.hid hA0
        have H1 := Lib.hid hA1
        have H2 := Lib.hid hA2
        have HM := Lib.hid hM
        clear hA0 hA1 hA2 hM
        by_cases hlt2 : n < 4
        · obtain ⟨m, hm⟩ : ∃ m : Int, m = -8 * (n : Int) := ⟨_, rfl⟩
          have hwm : IntKind.i64.wrap (-8 * (n : Int)) = m := by
            subst hm
            have : ∀ j : Fin 4, IntKind.i64.wrap (-8 * (j.val : Int)) = -8 * (j.val : Int) := by decide
            exact this ⟨n, hlt2⟩
          have hc0 := H0.out.w32 k (by omega)
          obtain ⟨x, hx⟩ : ∃ x, S.getD k 0 = x := ⟨_, rfl⟩
          rw [hx, Nat.zero_add] at hc0
          have hxb := (rw_ x n).toNat_lt
          have hxI : ((rw_ x n).toNat : Int) < 256 := by omega
          have hcm := HM.out.w32 (rw_ x n).toNat (by rw [unmL_length]; omega)
          rw [unmL_get] at hcm
          have hc2 := H2.out.w32 k (by rw [List.length_set, mixP_length]; exact hlt)
          have hfr := H2.out.froz k (by rw [wcells_length, List.length_set, mixP_length]; exact hlt)
          have hget : ((mixP 4 (umxF S) (fun _ => 0) k).set k (rcol unmW (fun _ => S.getD k 0) n)).getD k 0 = rcol unmW (fun _ => S.getD k 0) n := by
            have hl : k < (mixP 4 (umxF S) (fun _ => 0) k).length := by rw [mixP_length]; exact hlt
            simp [List.getD, hl]
          rw [hget] at hc2
          rw [Nat.zero_add] at hc2 hfr
          obtain ⟨y, hy⟩ : ∃ y, rcol unmW (fun _ => S.getD k 0) n = y := ⟨_, rfl⟩
          obtain ⟨u, hu⟩ : ∃ u, unmW (rw_ x n) = u := ⟨_, rfl⟩
          rw [hy] at hc2
          rw [hu] at hcm
          obtain ⟨z, hz, hz2⟩ : ∃ z : UInt32, bits .xor .u32 (y.toNat : Int) ((rotl32 u (m % 32).toNat).toNat : Int) = (z.toNat : Int) ∧ rcol unmW (fun _ => S.getD k 0) (n + 1) = z := ⟨_, u32x _ _, by
            rw [rcol, hy, hx, hu, tn, ← hm]⟩
          have HZ := Lib.hid hz2
          have HY := Lib.hid hy
          have hn3 : n ≤ 3 := by omega
          clear hz2 hy hu hm hget hx
          go_wp2_with fail
          go_still_tail 18, (by kernel_rfl)
          still_call (still_y (row_nat x n _ hn3))
          repeat still_step
          still_call (still_w (rotl32_any u m _))
          repeat still_step
          refine wpStill_nil ?_
          change wpList _ _ _ _ _ wr.drew
          go_wp2_with fail
          go_roundw
          case rel =>
            refine ⟨n + 1, by omega, by go_num, H0.out.drew.other _ _ _ (.inl (by omega)), H1.out.drew.other _ _ _ (.inl (by omega)), ?_, HM.out.drew.other _ _ _ (.inl (by omega)), (hb0.drew.setCell (p := ⟨w.heap.size + 2, k, none⟩) (by simp only; omega) _)⟩
            have h := H2.out.drew.w32set k z
            rw [List.set_set, ← HZ.out, HZ.out, Nat.zero_add] at h
            rw [HZ.out]
            exact h
          case measure => simp [intOf]; omega
        · have hkn : n = 4 := by omega
          subst hkn
          go_wp2_with fail
          go_roundw
          case rel =>
            refine ⟨k + 1, by omega, by go_num, H0.out, H1.out, ?_, HM.out, hb0⟩
            have h := H2.out
            rw [show rcol unmW (fun _ => S.getD k 0) 4 = umxF S k from rfl, mixP_set] at h
            exact h
          case measure => simp [intOf]; omega
    · have hkn : k = 4 := by omega
      subst hkn
      have h1 := H2.out
      rw [mixP_full] at h1
      have hst := run_store_at (P := Tryz.prog) H1.out (cs := wcells (umxL S)) (by rw [wcells_length, wcells_length, umxL_length]; rfl) (wcells_one _)
      go_wp2_with (refine wpList_load_at 114 (.tmp 5) (w.heap.size + 2) 0 (wcells (umxL S)) _ h1 Tryz.underlying114 rfl (wlen4 _ (umxL_length _)) ⟨rfl, rfl, rfl⟩ ?_)
      have hfin : At (wr.setCells (w.heap.size + 1) 0 (wcells (umxL S))) (w.heap.size + 1) 0 (wcells (umxL S)) := H1.out.ofSets (by rw [wcells_length, wcells_length, umxL_length]; rfl)
      have hbf := below_sets w.heap.size (w.heap.size + 1) (by omega) (wcells (umxL S)) 0 w wr hb0
      (try simp only [Exit.inBlock, Exit.then])
      refine bodyPost_ret (results_at rfl _ (w.heap.size + 1) _ _ rfl hfin Tryz.underlying114 rfl (wlen4 _ (umxL_length _))) rfl ?_
      exact ⟨rfl, hbf⟩
end Go.Proofs.YtflofbimecnakaaGreat
namespace Go.Proofs.YtflofbimecnakaaGreat
open Go.RowKit
set_option linter.unusedVariables false
set_option linter.unusedSimpArgs false
def decN (W : List UInt32) : Nat → List UInt32 → List UInt32
  | 0, s => s
  | j + 1, s => decN W j (lasL gback 3 2 1 (umxL (addL s W (4 * (j + 1)))))
def decW (W : List UInt32) (B : List UInt8) : List UInt8 := txtL (addL (decN W (W.length / 4 - 2) (lasL gback 3 2 1 (addL (keyL B 4) W (W.length - 4)))) W 0)
def decL (K B : List UInt8) : List UInt8 := decW (expW K) B
theorem decL_length (K B : List UInt8) : (decL K B).length = 16 := by rw [decL, decW, txtL_length]
theorem Turn.step {g lo B : Nat} {w a b : World} (h : Turn g lo w a) (hb : Below B a b) (hg : g < B) (hB : w.heap.size ≤ B) : Turn g lo w b :=
  ⟨hb.os.trans h.os, hb.tape.trans h.tape, hb.output.trans h.output, Nat.le_trans h.size hb.size, fun k hk hne => (hb.block k (by omega)).trans (h.block k hk hne), fun o ho => ⟨(hb.cell hg).trans (h.low o ho).1, (hb.frozen hg).trans (h.low o ho).2⟩⟩
theorem Ciph.turn {w w' : World} {g : Nat} {K : List UInt8} (h : Ciph w g K) (ht : Turn g 513 w w') : Ciph w' g K := by
  obtain ⟨gw, cap, h1, h2, h3, h4, h5⟩ := h
  exact ⟨gw, cap, h1, h2.turn ht (.inr (by simp)), h3.turn ht (.inl (by omega)), h4.turn ht (.inr (by rw [bcells_length, sboxL_length]; omega)), h5.turn ht (.inr (by rw [wcells_length, mixL_length]; decide))⟩
theorem Done.below {B : Nat} {w w' : World} {g : Nat} (h : Done w g) (hb : Below B w w') (hg : g < B) : Done w' g := ⟨h.1.below hb hg, h.2.1.below hb hg, h.2.2.below hb hg⟩
theorem Fresh.below {B : Nat} {w w' : World} {g : Nat} (h : Fresh w g) (hb : Below B w w') (hg : g < B) : Fresh w' g := ⟨h.1.below hb hg, h.2.1.below hb hg, h.2.2.below hb hg⟩
theorem do_any (w : World) (g : Nat) (K : List UInt8) (hC : Ciph w g K) (hF : Fresh w g ∨ Done w g) : Calls Tryz.prog 120 #[.pointer (some ⟨g, 513, none⟩), .func (.func 121) #[.pointer (some ⟨g, 0, none⟩)] #[]] w
    (fun e w' => e = .returned (.tuple #[]) ∧ Done w' g ∧ Turn g 513 w w') := by
  rcases hF with hF | hF
  · exact do_first w g K hC hF
  · exact do_done w g _ hF
def RetD (K B : List UInt8) (g : Nat) (w : World) (e : Ending) (w' : World) : Prop := ∃ s : ByteArray, e = .returned (.tuple #[.string s, .int .i64 0]) ∧ s.toList = decL K B ∧ Done w' g ∧ Turn g 513 w w'
set_option maxRecDepth 100000 in
set_option maxHeartbeats 6400000 in
theorem decrypt_any (b : ByteArray) (w : World) (g : Nat) (K : List UInt8) (hC : Ciph w g K) (hF : Fresh w g ∨ Done w g) (hK : K.length = 16 ∨ K.length = 24 ∨ K.length = 32) (hb : b.size = 16) : Calls Tryz.prog 111 #[.pointer (some ⟨g, 0, none⟩), .string b] w (RetD K b.toList g w) := by
  obtain ⟨M, hM, hM1, hM2⟩ := wlen hK
  have hg := hC.lt
  have HC := Lib.hid hC
  have HM := Lib.hid hM
  have HF := Lib.hid hF
  have hmf : ∀ (fn : Fn) (first cap : Array Value) (w : World), (Instr.makeFunc fn first cap).run Tryz.prog w = .ok (.func fn first cap) w := fun _ _ _ _ => rfl
  clear hC hM hF
  go_enter Tryz.func111, Tryz.ntmps111
  go_wp2_with fail
  refine (start_any b _ g K HC.out hb).mono ?_
  rintro e w1 ⟨rfl, hb1⟩
  have hs1 := hb1.size
  have hA1 := At.ofAlloc w1 #[Value.int .u32 0, Value.int .u32 0, Value.int .u32 0, Value.int .u32 0] 114
  have hst1 := run_store_at (P := Tryz.prog) hA1 (cs := wcells (keyL b.toList 4)) (by rw [wcells_length, keyL_length]; rfl) (wcells_one _)
  have hbx : Below w1.heap.size w1 ((w1.alloc zc).setCells w1.heap.size 0 (wcells (keyL b.toList 4))) := below_sets _ _ (Nat.le_refl _) _ _ _ _ ((Below.refl _ _).alloc (Nat.le_refl _) zc)
  have hA1' : At ((w1.alloc zc).setCells w1.heap.size 0 (wcells (keyL b.toList 4))) w1.heap.size 0 (wcells (keyL b.toList 4)) := hA1.ofSets (by rw [wcells_length, keyL_length]; rfl)
  have hsz1 : ((w1.alloc zc).setCells w1.heap.size 0 (wcells (keyL b.toList 4))).heap.size = w1.heap.size + 1 := by rw [size_sets]; simp
  have hwl : (wcells (keyL b.toList 4)).length = 4 := by rw [wcells_length, keyL_length]
  generalize hw2 : (w1.alloc zc).setCells w1.heap.size 0 (wcells (keyL b.toList 4)) = w2 at hst1 hbx hA1' hsz1
  clear hA1 hw2
  have hC2 : Ciph w2 g K := (HC.out.below hb1 hg).below hbx (by omega)
  have hF2 : Fresh w2 g ∨ Done w2 g := by
    rcases HF.out with h | h
    · exact .inl ((h.below hb1 hg).below hbx (by omega))
    · exact .inr ((h.below hb1 hg).below hbx (by omega))
  have hb12 : Below w.heap.size w w2 := hb1.trans (hbx.mono hs1)
  have hT2 : Turn g 513 w w2 := Turn.ofBelow hb12 hg
  clear hbx hb12 hb1
  have HC2 := Lib.hid hC2
  have HF2 := Lib.hid hF2
  clear hC2 hF2
  go_wp2_with fail
  obtain ⟨gs, hgs⟩ : ∃ gs, w1.heap.size = gs := ⟨_, rfl⟩
  have hg1 : g < w1.heap.size := by omega
  rw [hgs] at hg1 hs1 hA1' hsz1 ⊢
  clear hgs hst1 hwl
  refine (do_any w2 g K HC2.out HF2.out).mono ?_
  rintro e w3 ⟨rfl, hD3, hT3⟩
  have hA3 := hA1'.turn hT3 (.inl (by omega))
  have hC3 := HC2.out.turn hT3
  have hT3' := hT2.trans hT3
  have hsz3 : gs < w3.heap.size := by have := hT3.size; omega
  obtain ⟨gw, cap, hcw⟩ := hC3.word
  obtain ⟨L, hL⟩ : ∃ L : Nat, L = 4 * M := ⟨_, rfl⟩
  have hLi : (((expW K).length : Nat) : Int) - 4 = (L : Int) := by rw [HM.out]; omega
  have HL := Lib.hid hL
  obtain ⟨L4, hL4e⟩ : ∃ L4 : Nat, L4 = 4 * (M - 1) := ⟨_, rfl⟩
  have hL4i : (L : Int) - 4 = (L4 : Int) := by omega
  have HL4 := Lib.hid hL4e
  have hLb : L ≤ 56 := by omega
  have hL4 : 40 ≤ L := by omega
  clear hL hL4e HC2 HF2 hT2 hT3 hA1' hsz1 HF HC
  go_wp2_with (refine wpList_load_at 114 (.tmp 6) gs 0 (wcells (keyL b.toList 4)) _ hA3 Tryz.underlying114 rfl (wlen4 _ (keyL_length _ _)) ⟨rfl, rfl, rfl⟩ ?_)
  refine (add_any (keyL b.toList 4) L w3 g K hC3 (keyL_length _ _) (by rw [HM.out, HL.out]; omega) (by rw [HM.out]; omega)).mono ?_
  rintro e w4 ⟨rfl, hb4⟩
  have hD4 := hD3.below hb4 (by omega)
  have hC4 := hC3.below hb4 (by omega)
  have hA4 := hA3.below hb4 hsz3
  have hT4 := hT3'.step hb4 (by omega) hT3'.size
  clear hcw
  go_wp2_with fail
  refine (unro_any (addL (keyL b.toList 4) (expW K) L) w4 g backC gback hD4.2.1 backC_length backC_get hC4.lt (addL_length _ _ _)).mono ?_
  rintro e w5 ⟨rfl, hb5⟩
  have hD5 := hD4.below hb5 hC4.lt
  have hC5 := hC4.below hb5 hC4.lt
  have hsz4 : gs < w4.heap.size := by have := hb4.size; omega
  have hA5 := hA4.below hb5 hsz4
  have hT5 := hT4.step hb5 (by omega) hT4.size
  obtain ⟨s0, hs0⟩ : ∃ s, lasL gback 3 2 1 (addL (keyL b.toList 4) (expW K) L) = s := ⟨_, rfl⟩
  have hl0 : s0.length = 4 := by rw [← hs0, lasL_length]
  rw [hs0]
  have HS0 := Lib.hid hs0
  clear hs0
  have hst5 := run_store_at (P := Tryz.prog) hA5 (cs := wcells s0) (by rw [wcells_length, wcells_length, hl0, keyL_length]) (wcells_one _)
  have hwl : (wcells s0).length = 4 := by rw [wcells_length, hl0]
  have hA6 : At (w5.setCells gs 0 (wcells s0)) gs 0 (wcells s0) := hA5.ofSets (by rw [wcells_length, wcells_length, hl0, keyL_length])
  have hbs : Below gs w5 (w5.setCells gs 0 (wcells s0)) := below_sets _ _ (Nat.le_refl _) _ _ _ _ (Below.refl _ _)
  have hsz6 : gs < (w5.setCells gs 0 (wcells s0)).heap.size := by rw [size_sets]; have := hb5.size; omega
  generalize hw6 : w5.setCells gs 0 (wcells s0) = w6 at hst5 hA6 hbs hsz6
  have hD6 := hD5.below hbs hg1
  have hC6 := hC5.below hbs hg1
  have hT6 := hT5.step hbs hg1 hs1
  clear hw6 hA3 hA4 hA5 hC3 hC4 hC5 hD3 hD4 hD5 hT3' hT4 hT5 hb4 hb5 hsz3 hsz4 hbs
  have HC6 := Lib.hid hC6
  have HA6 := Lib.hid hA6
  have HD6 := Lib.hid hD6
  clear hC6 hA6 hD6
  go_wp2_with fail
  clear hst5 hwl hLi hL4i
  go_loopw [9] (fun i wr => ∃ j o : Nat, ∃ s : List UInt32, j + 1 ≤ M ∧ o = 4 * j ∧ i = .int .i64 o ∧ s.length = 4 ∧ decN (expW K) j s = decN (expW K) (M - 1) s0 ∧ At wr gs 0 (wcells s) ∧ Ciph wr g K ∧ Done wr g ∧ Turn g 513 w wr ∧ gs < wr.heap.size) (fun i _ => (intOf i).toNat)
  case atStart => exact ⟨M - 1, L4, s0, by omega, HL4.out, rfl, hl0, rfl, HA6.out, HC6.out, HD6.out, hT6, hsz6⟩
  case round =>
    clear HA6 HC6 HD6 hT6 hsz6 hl0
    obtain ⟨j, o, s, hjM, ho, rfl, hs, hrun, hA, hC, hD, hT, hsz⟩ := hrel
    have HA := Lib.hid hA
    have HCi := Lib.hid hC
    have HDi := Lib.hid hD
    have HR := Lib.hid hrun
    have HS := Lib.hid hs
    have HO := Lib.hid ho
    have hob : o ≤ 56 := by omega
    clear hC hrun hs ho hD
    by_cases hlt : 0 < j
    · have ho0 : (0 : Int) < (o : Int) := by have := HO.out; omega
      obtain ⟨j', rfl⟩ : ∃ j', j = j' + 1 := ⟨j - 1, by omega⟩
      obtain ⟨o', ho'⟩ : ∃ o' : Nat, o' = 4 * j' := ⟨_, rfl⟩
      have hoi : (o : Int) - 4 = (o' : Int) := by have := HO.out; omega
      have HO' := Lib.hid ho'
      clear ho'
      go_wp2_with (refine wpList_load_at 114 (.tmp 6) gs 0 (wcells s) _ hA Tryz.underlying114 rfl (wlen4 _ HS.out) ⟨rfl, rfl, rfl⟩ ?_)
      refine (add_any s o _ g K HCi.out HS.out (by rw [HM.out, HO.out]; omega) (by rw [HM.out]; omega)).mono ?_
      rintro e w7 ⟨rfl, hb7⟩
      have hg0 := HCi.out.lt
      have hC7 := HCi.out.below hb7 hg0
      have hD7 := HDi.out.below hb7 hg0
      go_wp2_with fail
      refine (unmixed_any (addL s (expW K) o) _ g hD7.2.2 hC7.lt (addL_length _ _ _)).mono ?_
      rintro e w8 ⟨rfl, hb8⟩
      have hC8 := hC7.below hb8 hC7.lt
      have hD8 := hD7.below hb8 hC7.lt
      go_wp2_with fail
      refine (unro_any (umxL (addL s (expW K) o)) _ g backC gback hD8.2.1 backC_length backC_get hC8.lt (umxL_length _)).mono ?_
      rintro e w9 ⟨rfl, hb9⟩
      have hC9 := hC8.below hb9 hC8.lt
      have hD9 := hD8.below hb9 hC8.lt
      have hb79 := (hb7.trans (hb8.mono hb7.size)).trans (hb9.mono (Nat.le_trans hb7.size hb8.size))
      have hA9 := hA.below hb79 hsz
      have hT9 := hT.step hb79 (by omega) hT.size
      obtain ⟨s1, hs1'⟩ : ∃ s1, lasL gback 3 2 1 (umxL (addL s (expW K) o)) = s1 := ⟨_, rfl⟩
      have hl1 : s1.length = 4 := by rw [← hs1', lasL_length]
      rw [hs1']
      have HS1 := Lib.hid hs1'
      clear hs1'
      have hst9 := run_store_at (P := Tryz.prog) hA9 (cs := wcells s1) (by rw [wcells_length, wcells_length, hl1, HS.out]) (wcells_one _)
      have hwl : (wcells s1).length = 4 := by rw [wcells_length, hl1]
      have hAx : At (w9.setCells gs 0 (wcells s1)) gs 0 (wcells s1) := hA9.ofSets (by rw [wcells_length, wcells_length, hl1, HS.out])
      have hbs : Below gs w9 (w9.setCells gs 0 (wcells s1)) := below_sets _ _ (Nat.le_refl _) _ _ _ _ (Below.refl _ _)
      have hszx : gs < (w9.setCells gs 0 (wcells s1)).heap.size := by rw [size_sets]; have := hb79.size; omega
      generalize hwx : w9.setCells gs 0 (wcells s1) = wx at hst9 hAx hbs hszx
      have hDx := hD9.below hbs hg1
      have hCx := hC9.below hbs hg1
      have hTx := hT9.step hbs hg1 hs1
      clear hwx hC7 hD7 hC8 hD8 hC9 hD9 hb79 hA9 hT9 hbs hb7 hb8 hb9
      have HAx := Lib.hid hAx
      have HDx := Lib.hid hDx
      have HCx := Lib.hid hCx
      clear hAx hDx hCx
      go_wp2_with fail
      go_roundw
      case rel =>
        refine ⟨j', o', s1, by omega, HO'.out, rfl, hl1, ?_, HAx.out, HCx.out, HDx.out, hTx, hszx⟩
        have h := HR.out
        rw [decN, ← HO.out, HS1.out] at h
        exact h
      case measure =>
        have := HO.out
        have := HO'.out
        simp [intOf]
        omega
    · have hj0 : j = 0 := by omega
      subst hj0
      have ho0 : o = 0 := HO.out
      subst ho0
      rw [show ((0 : Nat) : Int) = (0 : Int) from rfl]
      go_wp2_with (refine wpList_load_at 114 (.tmp 6) gs 0 (wcells s) _ hA Tryz.underlying114 rfl (wlen4 _ HS.out) ⟨rfl, rfl, rfl⟩ ?_)
      refine (add_any s 0 _ g K HCi.out HS.out (by rw [HM.out]; omega) (by rw [HM.out]; omega)).mono ?_
      rintro e w7 ⟨rfl, hb7⟩
      go_wp2_with fail
      refine (text_any _ _ (addL_length _ _ _)).mono ?_
      rintro e w8 ⟨t, rfl, ht, hb8⟩
      go_wp2_with fail
      go_ret2
      have hb78 := hb7.trans (hb8.mono hb7.size)
      refine ⟨t, rfl, ?_, HDi.out.below hb78 HCi.out.lt, hT.step hb78 HCi.out.lt hT.size⟩
      have h := HR.out
      rw [decN] at h
      rw [ht, decL, decW, HM.out, Nat.add_sub_cancel, ← HL.out, HS0.out, h]
      congr 3
      have := HL.out
      omega
end Go.Proofs.YtflofbimecnakaaGreat
namespace Go.Proofs.YtflofbimecnakaaGreat
open Go.RowKit
set_option linter.unusedVariables false
set_option linter.unusedSimpArgs false
/-! ### words and their bytes -/
theorem rw_wd0 (a b c d : UInt8) : rw_ (wd a b c d) 0 = a := by
  have ha := a.toNat_lt
  have hb := b.toNat_lt
  have hc := c.toNat_lt
  have hd := d.toNat_lt
  apply UInt8.toNat_inj.1
  rw [rw_, wd_nat, UInt8.toNat_ofNat', show 2 ^ (24 - 8 * 0) = 16777216 from rfl]
  omega
theorem rw_wd1 (a b c d : UInt8) : rw_ (wd a b c d) 1 = b := by
  have ha := a.toNat_lt
  have hb := b.toNat_lt
  have hc := c.toNat_lt
  have hd := d.toNat_lt
  apply UInt8.toNat_inj.1
  rw [rw_, wd_nat, UInt8.toNat_ofNat', show 2 ^ (24 - 8 * 1) = 65536 from rfl]
  omega
theorem rw_wd2 (a b c d : UInt8) : rw_ (wd a b c d) 2 = c := by
  have ha := a.toNat_lt
  have hb := b.toNat_lt
  have hc := c.toNat_lt
  have hd := d.toNat_lt
  apply UInt8.toNat_inj.1
  rw [rw_, wd_nat, UInt8.toNat_ofNat', show 2 ^ (24 - 8 * 2) = 256 from rfl]
  omega
theorem rw_wd3 (a b c d : UInt8) : rw_ (wd a b c d) 3 = d := by
  have ha := a.toNat_lt
  have hb := b.toNat_lt
  have hc := c.toNat_lt
  have hd := d.toNat_lt
  apply UInt8.toNat_inj.1
  rw [rw_, wd_nat, UInt8.toNat_ofNat', show 2 ^ (24 - 8 * 3) = 1 from rfl]
  omega
theorem wd_rw (x : UInt32) : wd (rw_ x 0) (rw_ x 1) (rw_ x 2) (rw_ x 3) = x := by
  have hx := x.toNat_lt
  apply UInt32.toNat_inj.1
  rw [wd_nat, rw_, rw_, rw_, rw_, UInt8.toNat_ofNat', UInt8.toNat_ofNat', UInt8.toNat_ofNat', UInt8.toNat_ofNat', show 2 ^ (24 - 8 * 0) = 16777216 from rfl, show 2 ^ (24 - 8 * 1) = 65536 from rfl, show 2 ^ (24 - 8 * 2) = 256 from rfl, show 2 ^ (24 - 8 * 3) = 1 from rfl]
  omega
theorem rw_xor (x y : UInt32) (n : Nat) : rw_ (x ^^^ y) n = rw_ x n ^^^ rw_ y n := by
  apply UInt8.toNat_inj.1
  rw [UInt8.toNat_xor, rw_, rw_, rw_, UInt8.toNat_ofNat', UInt8.toNat_ofNat', UInt8.toNat_ofNat', UInt32.toNat_xor, ← Nat.shiftRight_eq_div_pow, ← Nat.shiftRight_eq_div_pow, ← Nat.shiftRight_eq_div_pow, Nat.shiftRight_xor_distrib, Nat.xor_mod_two_pow]
theorem wd_xor (a b c d a' b' c' d' : UInt8) : wd a b c d ^^^ wd a' b' c' d' = wd (a ^^^ a') (b ^^^ b') (c ^^^ c') (d ^^^ d') := by
  rw [← wd_rw (wd a b c d ^^^ wd a' b' c' d')]
  simp only [rw_xor, rw_wd0, rw_wd1, rw_wd2, rw_wd3]
theorem rotl_wd0 (a b c d : UInt8) : rotl32 (wd a b c d) 0 = wd a b c d := by
  have hw := (wd a b c d).toNat_lt
  apply UInt32.toNat_inj.1
  rw [rot32_nat _ _ (by omega), show 2 ^ (32 - 0) = 4294967296 from rfl]
  omega
theorem rotl_wd8 (a b c d : UInt8) : rotl32 (wd a b c d) 8 = wd b c d a := by
  have ha := a.toNat_lt
  have hb := b.toNat_lt
  have hc := c.toNat_lt
  have hd := d.toNat_lt
  apply UInt32.toNat_inj.1
  rw [rot32_nat _ _ (by omega), wd_nat, wd_nat, show 2 ^ (32 - 8) = 16777216 from rfl]
  omega
theorem rotl_wd16 (a b c d : UInt8) : rotl32 (wd a b c d) 16 = wd c d a b := by
  have ha := a.toNat_lt
  have hb := b.toNat_lt
  have hc := c.toNat_lt
  have hd := d.toNat_lt
  apply UInt32.toNat_inj.1
  rw [rot32_nat _ _ (by omega), wd_nat, wd_nat, show 2 ^ (32 - 16) = 65536 from rfl]
  omega
theorem rotl_wd24 (a b c d : UInt8) : rotl32 (wd a b c d) 24 = wd d a b c := by
  have ha := a.toNat_lt
  have hb := b.toNat_lt
  have hc := c.toNat_lt
  have hd := d.toNat_lt
  apply UInt32.toNat_inj.1
  rw [rot32_nat _ _ (by omega), wd_nat, wd_nat, show 2 ^ (32 - 24) = 256 from rfl]
  omega
theorem rcol_wd (p q r t : UInt8 → UInt8) (pick : Nat → UInt32) : rcol (fun b => wd (p b) (q b) (r b) (t b)) pick 4 =
    wd (p (rw_ (pick 0) 0) ^^^ t (rw_ (pick 1) 1) ^^^ r (rw_ (pick 2) 2) ^^^ q (rw_ (pick 3) 3))
      (q (rw_ (pick 0) 0) ^^^ p (rw_ (pick 1) 1) ^^^ t (rw_ (pick 2) 2) ^^^ r (rw_ (pick 3) 3))
      (r (rw_ (pick 0) 0) ^^^ q (rw_ (pick 1) 1) ^^^ p (rw_ (pick 2) 2) ^^^ t (rw_ (pick 3) 3))
      (t (rw_ (pick 0) 0) ^^^ r (rw_ (pick 1) 1) ^^^ q (rw_ (pick 2) 2) ^^^ p (rw_ (pick 3) 3)) := by
  simp only [rcol, show tn 0 = 0 from rfl, show tn 1 = 24 from rfl, show tn 2 = 16 from rfl, show tn 3 = 8 from rfl, rotl_wd0, rotl_wd8, rotl_wd16, rotl_wd24, UInt32.zero_xor, wd_xor]
/-! ### a column that is mixed, and mixed back -/
/-- by four factors, as the document has it -/
def colG (f0 f1 f2 f3 : UInt8) (x : UInt32) : UInt32 :=
  wd (gmul f0 (rw_ x 0) ^^^ gmul f1 (rw_ x 1) ^^^ gmul f2 (rw_ x 2) ^^^ gmul f3 (rw_ x 3)) (gmul f3 (rw_ x 0) ^^^ gmul f0 (rw_ x 1) ^^^ gmul f1 (rw_ x 2) ^^^ gmul f2 (rw_ x 3))
    (gmul f2 (rw_ x 0) ^^^ gmul f3 (rw_ x 1) ^^^ gmul f0 (rw_ x 2) ^^^ gmul f1 (rw_ x 3)) (gmul f1 (rw_ x 0) ^^^ gmul f2 (rw_ x 1) ^^^ gmul f3 (rw_ x 2) ^^^ gmul f0 (rw_ x 3))
theorem gm2 (b : UInt8) : gmul 2 b = dbl b := by
  revert b
  exact u8_all (by decide +kernel)
theorem gm3 (b : UInt8) : gmul 3 b = dbl b ^^^ b := by
  revert b
  exact u8_all (by decide +kernel)
theorem mixB_col (pick : Nat → UInt32) (x : UInt32) (h0 : rw_ x 0 = gsub (rw_ (pick 0) 0)) (h1 : rw_ x 1 = gsub (rw_ (pick 1) 1)) (h2 : rw_ x 2 = gsub (rw_ (pick 2) 2)) (h3 : rw_ x 3 = gsub (rw_ (pick 3) 3)) :
    rcol mixB pick 4 = colG 2 3 1 1 x := by
  have h := rcol_wd (fun b => dbl (gsub b)) gsub gsub (fun b => dbl (gsub b) ^^^ gsub b) pick
  rw [show mixB = fun b => wd (dbl (gsub b)) (gsub b) (gsub b) (dbl (gsub b) ^^^ gsub b) from rfl, h]
  simp only [colG, gm2, gm3, gone, h0, h1, h2, h3]
theorem unm_col (x : UInt32) : rcol unmW (fun _ => x) 4 = colG 14 11 13 9 x := by
  have h := rcol_wd (fun b => gmul b 14) (fun b => gmul b 9) (fun b => gmul b 13) (fun b => gmul b 11) (fun _ => x)
  rw [show unmW = fun b => wd (gmul b 14) (gmul b 9) (gmul b 13) (gmul b 11) from rfl, h]
  simp only [colG, gmul_comm 14, gmul_comm 11, gmul_comm 13, gmul_comm 9]
theorem gr_x (a x y : UInt8) : gmul a (x ^^^ y) = gmul a x ^^^ gmul a y := gmul_right a x y
theorem gl_x (x y b : UInt8) : gmul (x ^^^ y) b = gmul x b ^^^ gmul y b := gmul_left b x y
theorem grp (a0 a1 a2 a3 b0 b1 b2 b3 c0 c1 c2 c3 d0 d1 d2 d3 : UInt8) : (a0 ^^^ b0 ^^^ c0 ^^^ d0) ^^^ (a1 ^^^ b1 ^^^ c1 ^^^ d1) ^^^ (a2 ^^^ b2 ^^^ c2 ^^^ d2) ^^^ (a3 ^^^ b3 ^^^ c3 ^^^ d3) =
    (a0 ^^^ a1 ^^^ a2 ^^^ a3) ^^^ (b0 ^^^ b1 ^^^ b2 ^^^ b3) ^^^ (c0 ^^^ c1 ^^^ c2 ^^^ c3) ^^^ (d0 ^^^ d1 ^^^ d2 ^^^ d3) := by ac_rfl
theorem dots (m0 m1 m2 m3 p0 p1 p2 p3 q0 q1 q2 q3 r0 r1 r2 r3 s0 s1 s2 s3 a b c d : UInt8) :
    gmul m0 (gmul p0 a ^^^ gmul p1 b ^^^ gmul p2 c ^^^ gmul p3 d) ^^^ gmul m1 (gmul q0 a ^^^ gmul q1 b ^^^ gmul q2 c ^^^ gmul q3 d) ^^^ gmul m2 (gmul r0 a ^^^ gmul r1 b ^^^ gmul r2 c ^^^ gmul r3 d) ^^^ gmul m3 (gmul s0 a ^^^ gmul s1 b ^^^ gmul s2 c ^^^ gmul s3 d) =
    gmul (gmul m0 p0 ^^^ gmul m1 q0 ^^^ gmul m2 r0 ^^^ gmul m3 s0) a ^^^ gmul (gmul m0 p1 ^^^ gmul m1 q1 ^^^ gmul m2 r1 ^^^ gmul m3 s1) b ^^^ gmul (gmul m0 p2 ^^^ gmul m1 q2 ^^^ gmul m2 r2 ^^^ gmul m3 s2) c ^^^ gmul (gmul m0 p3 ^^^ gmul m1 q3 ^^^ gmul m2 r3 ^^^ gmul m3 s3) d := by
  simp only [gr_x, gl_x, gmul_assoc]
  exact grp _ _ _ _ _ _ _ _ _ _ _ _ _ _ _ _
theorem col_back (x : UInt32) : colG 14 11 13 9 (colG 2 3 1 1 x) = x := by
  have h00 : (gmul 14 2 ^^^ gmul 11 1 ^^^ gmul 13 1 ^^^ gmul 9 3 : UInt8) = 1 := by decide +kernel
  have h01 : (gmul 14 3 ^^^ gmul 11 2 ^^^ gmul 13 1 ^^^ gmul 9 1 : UInt8) = 0 := by decide +kernel
  have h02 : (gmul 14 1 ^^^ gmul 11 3 ^^^ gmul 13 2 ^^^ gmul 9 1 : UInt8) = 0 := by decide +kernel
  have h03 : (gmul 14 1 ^^^ gmul 11 1 ^^^ gmul 13 3 ^^^ gmul 9 2 : UInt8) = 0 := by decide +kernel
  have h10 : (gmul 9 2 ^^^ gmul 14 1 ^^^ gmul 11 1 ^^^ gmul 13 3 : UInt8) = 0 := by decide +kernel
  have h11 : (gmul 9 3 ^^^ gmul 14 2 ^^^ gmul 11 1 ^^^ gmul 13 1 : UInt8) = 1 := by decide +kernel
  have h12 : (gmul 9 1 ^^^ gmul 14 3 ^^^ gmul 11 2 ^^^ gmul 13 1 : UInt8) = 0 := by decide +kernel
  have h13 : (gmul 9 1 ^^^ gmul 14 1 ^^^ gmul 11 3 ^^^ gmul 13 2 : UInt8) = 0 := by decide +kernel
  have h20 : (gmul 13 2 ^^^ gmul 9 1 ^^^ gmul 14 1 ^^^ gmul 11 3 : UInt8) = 0 := by decide +kernel
  have h21 : (gmul 13 3 ^^^ gmul 9 2 ^^^ gmul 14 1 ^^^ gmul 11 1 : UInt8) = 0 := by decide +kernel
  have h22 : (gmul 13 1 ^^^ gmul 9 3 ^^^ gmul 14 2 ^^^ gmul 11 1 : UInt8) = 1 := by decide +kernel
  have h23 : (gmul 13 1 ^^^ gmul 9 1 ^^^ gmul 14 3 ^^^ gmul 11 2 : UInt8) = 0 := by decide +kernel
  have h30 : (gmul 11 2 ^^^ gmul 13 1 ^^^ gmul 9 1 ^^^ gmul 14 3 : UInt8) = 0 := by decide +kernel
  have h31 : (gmul 11 3 ^^^ gmul 13 2 ^^^ gmul 9 1 ^^^ gmul 14 1 : UInt8) = 0 := by decide +kernel
  have h32 : (gmul 11 1 ^^^ gmul 13 3 ^^^ gmul 9 2 ^^^ gmul 14 1 : UInt8) = 0 := by decide +kernel
  have h33 : (gmul 11 1 ^^^ gmul 13 1 ^^^ gmul 9 3 ^^^ gmul 14 2 : UInt8) = 1 := by decide +kernel
  rw [← wd_rw x]
  generalize rw_ x 0 = a
  generalize rw_ x 1 = b
  generalize rw_ x 2 = c
  generalize rw_ x 3 = d
  simp only [colG, rw_wd0, rw_wd1, rw_wd2, rw_wd3, dots]
  rw [h00, h01, h02, h03, h10, h11, h12, h13, h20, h21, h22, h23, h30, h31, h32, h33]
  simp only [gone, gmul_zero, UInt8.xor_zero, UInt8.zero_xor]
theorem col_forth (x : UInt32) : colG 2 3 1 1 (colG 14 11 13 9 x) = x := by
  have h00 : (gmul 2 14 ^^^ gmul 3 9 ^^^ gmul 1 13 ^^^ gmul 1 11 : UInt8) = 1 := by decide +kernel
  have h01 : (gmul 2 11 ^^^ gmul 3 14 ^^^ gmul 1 9 ^^^ gmul 1 13 : UInt8) = 0 := by decide +kernel
  have h02 : (gmul 2 13 ^^^ gmul 3 11 ^^^ gmul 1 14 ^^^ gmul 1 9 : UInt8) = 0 := by decide +kernel
  have h03 : (gmul 2 9 ^^^ gmul 3 13 ^^^ gmul 1 11 ^^^ gmul 1 14 : UInt8) = 0 := by decide +kernel
  have h10 : (gmul 1 14 ^^^ gmul 2 9 ^^^ gmul 3 13 ^^^ gmul 1 11 : UInt8) = 0 := by decide +kernel
  have h11 : (gmul 1 11 ^^^ gmul 2 14 ^^^ gmul 3 9 ^^^ gmul 1 13 : UInt8) = 1 := by decide +kernel
  have h12 : (gmul 1 13 ^^^ gmul 2 11 ^^^ gmul 3 14 ^^^ gmul 1 9 : UInt8) = 0 := by decide +kernel
  have h13 : (gmul 1 9 ^^^ gmul 2 13 ^^^ gmul 3 11 ^^^ gmul 1 14 : UInt8) = 0 := by decide +kernel
  have h20 : (gmul 1 14 ^^^ gmul 1 9 ^^^ gmul 2 13 ^^^ gmul 3 11 : UInt8) = 0 := by decide +kernel
  have h21 : (gmul 1 11 ^^^ gmul 1 14 ^^^ gmul 2 9 ^^^ gmul 3 13 : UInt8) = 0 := by decide +kernel
  have h22 : (gmul 1 13 ^^^ gmul 1 11 ^^^ gmul 2 14 ^^^ gmul 3 9 : UInt8) = 1 := by decide +kernel
  have h23 : (gmul 1 9 ^^^ gmul 1 13 ^^^ gmul 2 11 ^^^ gmul 3 14 : UInt8) = 0 := by decide +kernel
  have h30 : (gmul 3 14 ^^^ gmul 1 9 ^^^ gmul 1 13 ^^^ gmul 2 11 : UInt8) = 0 := by decide +kernel
  have h31 : (gmul 3 11 ^^^ gmul 1 14 ^^^ gmul 1 9 ^^^ gmul 2 13 : UInt8) = 0 := by decide +kernel
  have h32 : (gmul 3 13 ^^^ gmul 1 11 ^^^ gmul 1 14 ^^^ gmul 2 9 : UInt8) = 0 := by decide +kernel
  have h33 : (gmul 3 9 ^^^ gmul 1 13 ^^^ gmul 1 11 ^^^ gmul 2 14 : UInt8) = 1 := by decide +kernel
  rw [← wd_rw x]
  generalize rw_ x 0 = a
  generalize rw_ x 1 = b
  generalize rw_ x 2 = c
  generalize rw_ x 3 = d
  simp only [colG, rw_wd0, rw_wd1, rw_wd2, rw_wd3, dots]
  rw [h00, h01, h02, h03, h10, h11, h12, h13, h20, h21, h22, h23, h30, h31, h32, h33]
  simp only [gone, gmul_zero, UInt8.xor_zero, UInt8.zero_xor]
/-! ### four words -/
theorem four {α : Type} (S : List α) (h : S.length = 4) : ∃ a b c d, S = [a, b, c, d] := by
  match S, h with
  | [a, b, c, d], _ => exact ⟨a, b, c, d, rfl⟩
def colL (f0 f1 f2 f3 : UInt8) (S : List UInt32) : List UInt32 := S.map (colG f0 f1 f2 f3)
theorem colL_length (f0 f1 f2 f3 : UInt8) (S : List UInt32) : (colL f0 f1 f2 f3 S).length = S.length := by simp [colL]
theorem rouL_col (S : List UInt32) : rouL S = colL 2 3 1 1 (lasL gsub 1 2 3 S) := by
  rw [rouL, colL, lasL, List.map_map]
  apply List.map_congr_left
  intro i hi
  have hi4 : i < 4 := by simpa using hi
  refine mixB_col _ _ ?_ ?_ ?_ ?_
  · rw [lasF, rw_wd0, Nat.add_zero, Nat.mod_eq_of_lt hi4]
  · rw [lasF, rw_wd1]
  · rw [lasF, rw_wd2]
  · rw [lasF, rw_wd3]
theorem umxL_col (S : List UInt32) (h : S.length = 4) : umxL S = colL 14 11 13 9 S := by
  obtain ⟨a, b, c, d, rfl⟩ := four S h
  rw [show umxL [a, b, c, d] = [umxF [a, b, c, d] 0, umxF [a, b, c, d] 1, umxF [a, b, c, d] 2, umxF [a, b, c, d] 3] from rfl]
  simp only [umxF, unm_col]
  rfl
theorem las_back (S : List UInt32) (h : S.length = 4) : lasL gback 3 2 1 (lasL gsub 1 2 3 S) = S := by
  obtain ⟨a, b, c, d, rfl⟩ := four S h
  have e : lasL gsub 1 2 3 [a, b, c, d] = [wd (gsub (rw_ a 0)) (gsub (rw_ b 1)) (gsub (rw_ c 2)) (gsub (rw_ d 3)), wd (gsub (rw_ b 0)) (gsub (rw_ c 1)) (gsub (rw_ d 2)) (gsub (rw_ a 3)), wd (gsub (rw_ c 0)) (gsub (rw_ d 1)) (gsub (rw_ a 2)) (gsub (rw_ b 3)), wd (gsub (rw_ d 0)) (gsub (rw_ a 1)) (gsub (rw_ b 2)) (gsub (rw_ c 3))] := rfl
  rw [e]
  have e2 : ∀ x y z u : UInt32, lasL gback 3 2 1 [x, y, z, u] = [wd (gback (rw_ x 0)) (gback (rw_ u 1)) (gback (rw_ z 2)) (gback (rw_ y 3)), wd (gback (rw_ y 0)) (gback (rw_ x 1)) (gback (rw_ u 2)) (gback (rw_ z 3)), wd (gback (rw_ z 0)) (gback (rw_ y 1)) (gback (rw_ x 2)) (gback (rw_ u 3)), wd (gback (rw_ u 0)) (gback (rw_ z 1)) (gback (rw_ y 2)) (gback (rw_ x 3))] := fun _ _ _ _ => rfl
  rw [e2]
  simp only [rw_wd0, rw_wd1, rw_wd2, rw_wd3, gback_gsub, wd_rw]
theorem las_forth (S : List UInt32) (h : S.length = 4) : lasL gsub 1 2 3 (lasL gback 3 2 1 S) = S := by
  obtain ⟨a, b, c, d, rfl⟩ := four S h
  have e : ∀ a b c d : UInt32, lasL gsub 1 2 3 [a, b, c, d] = [wd (gsub (rw_ a 0)) (gsub (rw_ b 1)) (gsub (rw_ c 2)) (gsub (rw_ d 3)), wd (gsub (rw_ b 0)) (gsub (rw_ c 1)) (gsub (rw_ d 2)) (gsub (rw_ a 3)), wd (gsub (rw_ c 0)) (gsub (rw_ d 1)) (gsub (rw_ a 2)) (gsub (rw_ b 3)), wd (gsub (rw_ d 0)) (gsub (rw_ a 1)) (gsub (rw_ b 2)) (gsub (rw_ c 3))] := fun _ _ _ _ => rfl
  have e2 : ∀ x y z u : UInt32, lasL gback 3 2 1 [x, y, z, u] = [wd (gback (rw_ x 0)) (gback (rw_ u 1)) (gback (rw_ z 2)) (gback (rw_ y 3)), wd (gback (rw_ y 0)) (gback (rw_ x 1)) (gback (rw_ u 2)) (gback (rw_ z 3)), wd (gback (rw_ z 0)) (gback (rw_ y 1)) (gback (rw_ x 2)) (gback (rw_ u 3)), wd (gback (rw_ u 0)) (gback (rw_ z 1)) (gback (rw_ y 2)) (gback (rw_ x 3))] := fun _ _ _ _ => rfl
  rw [e2, e]
  simp only [rw_wd0, rw_wd1, rw_wd2, rw_wd3, gsub_gback, wd_rw]
theorem add_back (S W : List UInt32) (o : Nat) (h : S.length = 4) : addL (addL S W o) W o = S := by
  obtain ⟨a, b, c, d, rfl⟩ := four S h
  have e : ∀ x y z u : UInt32, addL [x, y, z, u] W o = [x ^^^ W.getD (o + 0) 0, y ^^^ W.getD (o + 1) 0, z ^^^ W.getD (o + 2) 0, u ^^^ W.getD (o + 3) 0] := fun _ _ _ _ => rfl
  rw [e, e]
  simp only [UInt32.xor_assoc, UInt32.xor_self, UInt32.xor_zero]
theorem col_back_L (S : List UInt32) : colL 14 11 13 9 (colL 2 3 1 1 S) = S := by
  rw [colL, colL, List.map_map]
  conv => rhs; rw [← List.map_id S]
  exact List.map_congr_left fun x _ => col_back x
theorem col_forth_L (S : List UInt32) : colL 2 3 1 1 (colL 14 11 13 9 S) = S := by
  rw [colL, colL, List.map_map]
  conv => rhs; rw [← List.map_id S]
  exact List.map_congr_left fun x _ => col_forth x
theorem key_txt (S : List UInt32) (h : S.length = 4) : keyL (txtL S) 4 = S := by
  obtain ⟨a, b, c, d, rfl⟩ := four S h
  rw [show keyL (txtL [a, b, c, d]) 4 = [wd (rw_ a 0) (rw_ a 1) (rw_ a 2) (rw_ a 3), wd (rw_ b 0) (rw_ b 1) (rw_ b 2) (rw_ b 3), wd (rw_ c 0) (rw_ c 1) (rw_ c 2) (rw_ c 3), wd (rw_ d 0) (rw_ d 1) (rw_ d 2) (rw_ d 3)] from rfl]
  simp only [wd_rw]
theorem txt_key (B : List UInt8) (h : B.length = 16) : txtL (keyL B 4) = B := by
  match B, h with
  | [b0, b1, b2, b3, b4, b5, b6, b7, b8, b9, b10, b11, b12, b13, b14, b15], _ =>
    rw [show keyL [b0, b1, b2, b3, b4, b5, b6, b7, b8, b9, b10, b11, b12, b13, b14, b15] 4 = [wd b0 b1 b2 b3, wd b4 b5 b6 b7, wd b8 b9 b10 b11, wd b12 b13 b14 b15] from rfl]
    rw [show ∀ a b c d : UInt32, txtL [a, b, c, d] = [rw_ a 0, rw_ a 1, rw_ a 2, rw_ a 3, rw_ b 0, rw_ b 1, rw_ b 2, rw_ b 3, rw_ c 0, rw_ c 1, rw_ c 2, rw_ c 3, rw_ d 0, rw_ d 1, rw_ d 2, rw_ d 3] from fun _ _ _ _ => rfl]
    simp only [rw_wd0, rw_wd1, rw_wd2, rw_wd3]
/-! ### the rounds, forth and back -/
theorem encN_length (W : List UInt32) : ∀ (n j : Nat) (s : List UInt32), s.length = 4 → (encN W n j s).length = 4
  | 0, _, s, h => h
  | n + 1, j, s, h => by rw [encN]; exact encN_length W n (j + 1) _ (addL_length _ _ _)
theorem encN_last (W : List UInt32) : ∀ (n j : Nat) (s : List UInt32), encN W (n + 1) j s = addL (rouL (encN W n j s)) W (4 * (j + n))
  | 0, j, s => rfl
  | n + 1, j, s => by
    rw [encN, encN_last W n (j + 1), encN]
    congr 1
    omega
theorem dec_enc_N (W : List UInt32) (s : List UInt32) (h : s.length = 4) : ∀ n, decN W n (encN W n 1 s) = s
  | 0 => rfl
  | n + 1 => by
    have hl := encN_length W n 1 s h
    rw [encN_last, decN, show 1 + n = n + 1 by omega, add_back _ _ _ (rouL_length _), umxL_col _ (rouL_length _), rouL_col, col_back_L, las_back _ hl]
    exact dec_enc_N W s h n
theorem decN_length (W : List UInt32) : ∀ (n : Nat) (s : List UInt32), s.length = 4 → (decN W n s).length = 4
  | 0, s, h => h
  | n + 1, s, h => by rw [decN]; exact decN_length W n _ (lasL_length _ _ _ _ _)
theorem enc_dec_N (W : List UInt32) : ∀ (n : Nat) (t : List UInt32), t.length = 4 → encN W n 1 (decN W n t) = t
  | 0, _, _ => rfl
  | n + 1, t, h => by
    have hu : (umxL (addL t W (4 * (n + 1)))).length = 4 := umxL_length _
    rw [encN_last, decN, enc_dec_N W n _ (lasL_length _ _ _ _ _), rouL_col, las_forth _ hu, umxL_col _ (addL_length _ _ _), col_forth_L, show 1 + n = n + 1 by omega, add_back _ _ _ h]
theorem dec_enc (K B : List UInt8) (h : B.length = 16) : decL K (encL K B) = B := by
  have hk := keyL_length B 4
  rw [decL, encL, decW, encW, key_txt _ (addL_length _ _ _), add_back _ _ _ (lasL_length _ _ _ _ _), las_back _ (encN_length _ _ _ _ (addL_length _ _ _)), dec_enc_N _ _ (addL_length _ _ _), add_back _ _ _ hk, txt_key _ h]
theorem enc_dec (K B : List UInt8) (h : B.length = 16) : encL K (decL K B) = B := by
  have hk := keyL_length B 4
  rw [decL, encL, decW, encW, key_txt _ (addL_length _ _ _), add_back _ _ _ (decN_length _ _ _ (lasL_length _ _ _ _ _)), enc_dec_N _ _ _ (lasL_length _ _ _ _ _), las_forth _ (addL_length _ _ _), add_back _ _ _ hk, txt_key _ h]
theorem enc_inj (K A B : List UInt8) (ha : A.length = 16) (hb : B.length = 16) (h : encL K A = encL K B) : A = B := by
  rw [← dec_enc K A ha, h, dec_enc K B hb]
end Go.Proofs.YtflofbimecnakaaGreat
namespace Go.Proofs.YtflofbimecnakaaGreat
open Go.RowKit
set_option linter.unusedVariables false
set_option linter.unusedSimpArgs false
def exK : List UInt8 := [0, 1, 2, 3, 4, 5, 6, 7, 8, 9, 10, 11, 12, 13, 14, 15]
def exB : List UInt8 := [0x00, 0x11, 0x22, 0x33, 0x44, 0x55, 0x66, 0x77, 0x88, 0x99, 0xaa, 0xbb, 0xcc, 0xdd, 0xee, 0xff]
def exC : List UInt8 := [0x69, 0xc4, 0xe0, 0xd8, 0x6a, 0x7b, 0x04, 0x30, 0xd8, 0xcd, 0xb7, 0x80, 0x70, 0xb4, 0xc5, 0x5a]
theorem ex_enc : encL exK exB = exC := by decide +kernel
/-- start refuses -/
def RetErr (c : Int) (w : World) (e : Ending) (w' : World) : Prop := e = .returned (.tuple #[.agg (wcells [0, 0, 0, 0]).toArray, .int .i64 c]) ∧ Below w.heap.size w w'
theorem start_ret (w : World) : ∃ w0, ((w.alloc zc).alloc zc) = w0 ∧ At w0 w.heap.size 0 (wcells [0, 0, 0, 0]) ∧ At w0 (w.heap.size + 1) 0 (wcells [0, 0, 0, 0]) ∧ Below w.heap.size w w0 := by
  obtain ⟨w0, h1, h2, h3, h4, _⟩ := two_cols w
  exact ⟨w0, h1, h2, h3, h4⟩
set_option maxRecDepth 100000 in
theorem start_nil (b : ByteArray) (w : World) : Calls Tryz.prog 53 #[.pointer none, .string b] w (RetErr 1 w) := by
  obtain ⟨w0, hw0, hA0, hA1, hb0⟩ := start_ret w
  have hst := run_store_at (P := Tryz.prog) hA0 (cs := wcells [0, 0, 0, 0]) rfl (wcells_one _)
  have hwl : (wcells [0, 0, 0, 0]).length = 4 := rfl
  go_enter Tryz.func53, Tryz.ntmps53
  go_wp2_with (refine wpList_load_at 114 (.tmp 6) (w.heap.size + 1) 0 (wcells [0, 0, 0, 0]) _ hA1 Tryz.underlying114 rfl (wlen4 _ rfl) ⟨rfl, rfl, rfl⟩ ?_)
  have hfin : At (w0.setCells w.heap.size 0 (wcells [0, 0, 0, 0])) w.heap.size 0 (wcells [0, 0, 0, 0]) := hA0.ofSets rfl
  have hbf := below_sets w.heap.size w.heap.size (Nat.le_refl _) (wcells [0, 0, 0, 0]) 0 w w0 hb0
  (try simp only [Exit.inBlock, Exit.then])
  refine bodyPost_ret (results_at_two rfl _ w.heap.size _ _ rfl hfin Tryz.underlying114 rfl (wlen4 _ rfl) _ rfl) rfl ?_
  exact ⟨rfl, hbf⟩
set_option maxRecDepth 100000 in
theorem start_empty (b : ByteArray) (w : World) (g : Nat) (h0 : At w g 0 [.slice none 0 0]) : Calls Tryz.prog 53 #[.pointer (some ⟨g, 0, none⟩), .string b] w (RetErr 1 w) := by
  obtain ⟨w0, hw0, hA0, hA1, hb0⟩ := start_ret w
  have hst := run_store_at (P := Tryz.prog) hA0 (cs := wcells [0, 0, 0, 0]) rfl (wcells_one _)
  have hwl : (wcells [0, 0, 0, 0]).length = 4 := rfl
  have hg := h0.lt (by simp)
  have hc0 := (h0.below hb0 hg).cell 0 _ rfl
  have hc1 := h0.cell 0 _ rfl
  rw [Nat.add_zero] at hc0 hc1
  go_enter Tryz.func53, Tryz.ntmps53
  go_wp2_with (refine wpList_load_at 114 (.tmp 6) (w.heap.size + 1) 0 (wcells [0, 0, 0, 0]) _ hA1 Tryz.underlying114 rfl (wlen4 _ rfl) ⟨rfl, rfl, rfl⟩ ?_)
  have hfin : At (w0.setCells w.heap.size 0 (wcells [0, 0, 0, 0])) w.heap.size 0 (wcells [0, 0, 0, 0]) := hA0.ofSets rfl
  have hbf := below_sets w.heap.size w.heap.size (Nat.le_refl _) (wcells [0, 0, 0, 0]) 0 w w0 hb0
  (try simp only [Exit.inBlock, Exit.then])
  refine bodyPost_ret (results_at_two rfl _ w.heap.size _ _ rfl hfin Tryz.underlying114 rfl (wlen4 _ rfl) _ rfl) rfl ?_
  exact ⟨rfl, hbf⟩
set_option maxRecDepth 100000 in
theorem start_size (b : ByteArray) (w : World) (g : Nat) (K : List UInt8) (hC : Ciph w g K) (hb : b.size ≠ 16) : Calls Tryz.prog 53 #[.pointer (some ⟨g, 0, none⟩), .string b] w (RetErr 6 w) := by
  obtain ⟨w0, hw0, hA0, hA1, hb0⟩ := start_ret w
  have hst := run_store_at (P := Tryz.prog) hA0 (cs := wcells [0, 0, 0, 0]) rfl (wcells_one _)
  have hwl : (wcells [0, 0, 0, 0]).length = 4 := rfl
  have hg := hC.lt
  obtain ⟨gw, cap, hc1⟩ := hC.word
  have hc0 : w0.cell? ⟨g, 0, none⟩ = some (.slice (some ⟨gw, 0, none⟩) (expW K).length cap) := by rw [hb0.cell hg]; exact hc1
  have hlen : ((((expW K).length : Nat) : Int) == 0) = false := by
    rw [beq_eq_false_iff_ne, expW_length]
    omega
  have hb2 : ((b.size : Int) != 16) = true := by rw [bne_iff_ne]; omega
  go_enter Tryz.func53, Tryz.ntmps53
  go_wp2_with (refine wpList_load_at 114 (.tmp 6) (w.heap.size + 1) 0 (wcells [0, 0, 0, 0]) _ hA1 Tryz.underlying114 rfl (wlen4 _ rfl) ⟨rfl, rfl, rfl⟩ ?_)
  have hfin : At (w0.setCells w.heap.size 0 (wcells [0, 0, 0, 0])) w.heap.size 0 (wcells [0, 0, 0, 0]) := hA0.ofSets rfl
  have hbf := below_sets w.heap.size w.heap.size (Nat.le_refl _) (wcells [0, 0, 0, 0]) 0 w w0 hb0
  (try simp only [Exit.inBlock, Exit.then])
  refine bodyPost_ret (results_at_two rfl _ w.heap.size _ _ rfl hfin Tryz.underlying114 rfl (wlen4 _ rfl) _ rfl) rfl ?_
  exact ⟨rfl, hbf⟩
set_option maxRecDepth 100000 in
theorem enc_err (p : Value) (b : ByteArray) (w : World) (c : Int) (hc : c ≠ 0) (hs : Calls Tryz.prog 53 #[p, .string b] w (RetErr c w)) : Calls Tryz.prog 40 #[p, .string b] w (RetSE [] c w) := by
  have hc2 : (c != 0) = true := by rw [bne_iff_ne]; exact hc
  go_enter Tryz.func40, Tryz.ntmps40
  go_wp2_with fail
  refine hs.mono ?_
  rintro e w1 ⟨rfl, hb1⟩
  have hA1 := At.ofAlloc w1 #[Value.int .u32 0, Value.int .u32 0, Value.int .u32 0, Value.int .u32 0] 114
  have hst1 := run_store_at (P := Tryz.prog) hA1 (cs := wcells [0, 0, 0, 0]) rfl (wcells_one _)
  have hwl : (wcells [0, 0, 0, 0]).length = 4 := rfl
  have hb2 := below_sets w.heap.size w1.heap.size hb1.size (wcells [0, 0, 0, 0]) 0 w (w1.alloc zc) (hb1.alloc hb1.size zc)
  go_wp2_with fail
  go_ret2
  exact ret_se (tl_mk []) rfl rfl hb2
set_option maxRecDepth 100000 in
theorem dec_err (p : Value) (b : ByteArray) (w : World) (c : Int) (hc : c ≠ 0) (hs : Calls Tryz.prog 53 #[p, .string b] w (RetErr c w)) : Calls Tryz.prog 111 #[p, .string b] w (RetSE [] c w) := by
  have hc2 : (c != 0) = true := by rw [bne_iff_ne]; exact hc
  go_enter Tryz.func111, Tryz.ntmps111
  go_wp2_with fail
  refine hs.mono ?_
  rintro e w1 ⟨rfl, hb1⟩
  have hA1 := At.ofAlloc w1 #[Value.int .u32 0, Value.int .u32 0, Value.int .u32 0, Value.int .u32 0] 114
  have hst1 := run_store_at (P := Tryz.prog) hA1 (cs := wcells [0, 0, 0, 0]) rfl (wcells_one _)
  have hwl : (wcells [0, 0, 0, 0]).length = 4 := rfl
  have hb2 := below_sets w.heap.size w1.heap.size hb1.size (wcells [0, 0, 0, 0]) 0 w (w1.alloc zc) (hb1.alloc hb1.size zc)
  go_wp2_with fail
  go_ret2
  exact ret_se (tl_mk []) rfl rfl hb2
end Go.Proofs.YtflofbimecnakaaGreat
namespace Go.Proofs.YtflofbimecnakaaGreat
open Go.RowKit
set_option linter.unusedVariables false
set_option linter.unusedSimpArgs false
/-- a cipher that may have decrypted -/
def Ciq (w : World) (g : Nat) (K : List UInt8) : Prop := Ciph w g K ∧ (Fresh w g ∨ Done w g) ∧ (K.length = 16 ∨ K.length = 24 ∨ K.length = 32)
theorem Ciq.below {B : Nat} {w w' : World} {g : Nat} {K : List UInt8} (h : Ciq w g K) (hb : Below B w w') (hg : g < B) : Ciq w' g K :=
  ⟨h.1.below hb hg, h.2.1.imp (fun x => x.below hb hg) (fun x => x.below hb hg), h.2.2⟩
theorem Ciq.lt {w : World} {g : Nat} {K : List UInt8} (h : Ciq w g K) : g < w.heap.size := h.1.lt
theorem Turn.toBelow {g lo B : Nat} {a b : World} (h : Turn g lo a b) (hg : g < a.heap.size) (hB : B ≤ g) : Below B a b := ⟨h.os, h.tape, h.output, h.size, fun k hk => h.block k (by omega) (by omega)⟩
def RetQ (K L : List UInt8) (g : Nat) (w : World) (e : Ending) (w' : World) : Prop := ∃ s : ByteArray, e = .returned (.tuple #[.string s, .int .i64 0]) ∧ s.toList = L ∧ Ciq w' g K ∧ Below w.heap.size w w'
def RetQd (K L : List UInt8) (g : Nat) (w : World) (e : Ending) (w' : World) : Prop := ∃ s : ByteArray, e = .returned (.tuple #[.string s, .int .i64 0]) ∧ s.toList = L ∧ Ciq w' g K ∧ Turn g 513 w w'
theorem enc_q (b : ByteArray) (w : World) (g : Nat) (K : List UInt8) (h : Ciq w g K) (hb : b.size = 16) : Calls Tryz.prog 40 #[.pointer (some ⟨g, 0, none⟩), .string b] w (RetQ K (encL K b.toList) g w) :=
  (encrypt_any b w g K h.1 h.2.2 hb).mono fun e w' ⟨s, he, hs, hbl⟩ => ⟨s, he, hs, h.below hbl h.lt, hbl⟩
theorem dec_q (b : ByteArray) (w : World) (g : Nat) (K : List UInt8) (h : Ciq w g K) (hb : b.size = 16) : Calls Tryz.prog 111 #[.pointer (some ⟨g, 0, none⟩), .string b] w (RetQd K (decL K b.toList) g w) :=
  (decrypt_any b w g K h.1 h.2.1 h.2.2 hb).mono fun e w' ⟨s, he, hs, hd, ht⟩ => ⟨s, he, hs, ⟨h.1.turn ht, .inr hd, h.2.2⟩, ht⟩
theorem enc_sz (b : ByteArray) (w : World) (g : Nat) (K : List UInt8) (h : Ciq w g K) (hb : b.size ≠ 16) : Calls Tryz.prog 40 #[.pointer (some ⟨g, 0, none⟩), .string b] w (RetSE [] 6 w) := enc_err _ b w 6 (by decide) (start_size b w g K h.1 hb)
theorem dec_sz (b : ByteArray) (w : World) (g : Nat) (K : List UInt8) (h : Ciq w g K) (hb : b.size ≠ 16) : Calls Tryz.prog 111 #[.pointer (some ⟨g, 0, none⟩), .string b] w (RetSE [] 6 w) := dec_err _ b w 6 (by decide) (start_size b w g K h.1 hb)
def RetN (K : List UInt8) (w : World) (e : Ending) (w' : World) : Prop := ∃ g, w.heap.size ≤ g ∧ e = .returned (.tuple #[.pointer (some ⟨g, 0, none⟩), .int .i64 0]) ∧ Ciq w' g K ∧ Below w.heap.size w w'
theorem new_q (key : ByteArray) (w : World) (h : key.size = 16 ∨ key.size = 24 ∨ key.size = 32) : Calls Tryz.prog 39 #[.string key] w (RetN key.toList w) :=
  (new_any key w h).mono fun e w' ⟨g, hg, he, hc, hf, hb⟩ => ⟨g, hg, he, ⟨hc, .inl hf, by rw [tl_size]; exact h⟩, hb⟩
theorem key_cases (k : ByteArray) : (k.size = 16 ∨ k.size = 24 ∨ k.size = 32) ∨ (k.size ≠ 16 ∧ k.size ≠ 24 ∧ k.size ≠ 32) := by omega
theorem size_of_toList {s : ByteArray} {l : List UInt8} (h : s.toList = l) : s.size = l.length := by rw [← h, tl_size]
end Go.Proofs.YtflofbimecnakaaGreat
namespace Go.Proofs.YtflofbimecnakaaGreat
open Go.RowKit
set_option linter.unusedVariables false
set_option linter.unusedSimpArgs false
theorem m1_lt (a b : Nat) (ha : a < 256) : ∀ k, k ≤ 8 → m1 a b k < 2 ^ 15
  | 0, _ => by simp [m1]
  | k + 1, hk => by
    have ih := m1_lt a b ha k (by omega)
    have h2 : a * 2 ^ k < 2 ^ 15 := by
      have h3 : (2 : Nat) ^ k ≤ 2 ^ 7 := Nat.pow_le_pow_right (by decide) (by omega)
      have h4 : a * 2 ^ k ≤ 255 * 2 ^ 7 := Nat.mul_le_mul (by omega) h3
      omega
    rw [m1]
    split
    · exact Nat.xor_lt_two_pow ih h2
    · exact ih
theorem m2_lt (p : Nat) (hp : p < 2 ^ 15) : ∀ j, m2 p j < 2 ^ 15
  | 0 => hp
  | j + 1 => by
    have ih := m2_lt p hp j
    have h2 : 283 * 2 ^ (6 - j) < 2 ^ 15 := by
      have h3 : (2 : Nat) ^ (6 - j) ≤ 2 ^ 6 := Nat.pow_le_pow_right (by decide) (by omega)
      have h4 : 283 * 2 ^ (6 - j) ≤ 283 * 2 ^ 6 := Nat.mul_le_mul (by omega) h3
      omega
    rw [m2]
    split
    · exact Nat.xor_lt_two_pow ih h2
    · exact ih
end Go.Proofs.YtflofbimecnakaaGreat
namespace Go.Proofs.YtflofbimecnakaaGreat
open Go.RowKit
theorem u8_of_wf {a : Int} (h : (Lit.int .u8 a).wf = true) : ∃ n : UInt8, a = (n.toNat : Int) := by
  have h2 : IntKind.u8.min ≤ a ∧ a ≤ IntKind.u8.max := by simpa [Lit.wf] using h
  have e1 : IntKind.u8.min = 0 := by decide
  have e2 : IntKind.u8.max = 255 := by decide
  obtain ⟨n, rfl⟩ := Int.eq_ofNat_of_zero_le (a := a) (by omega)
  exact ⟨UInt8.ofNat n, by rw [UInt8.toNat_ofNat']; omega⟩
end Go.Proofs.YtflofbimecnakaaGreat
namespace Go.Proofs.YtflofbimecnakaaGreat
open Go.RowKit
set_option linter.unusedVariables false
set_option linter.unusedSimpArgs false
theorem nat8_eq {x y : UInt8} (h : x = y) : ((x.toNat : Int) == (y.toNat : Int)) = true := by rw [h, beq_self_eq_true]
theorem nat8_ne {x : UInt8} (h : x ≠ 0) : ((x.toNat : Int) == 0) = false := by
  rw [beq_eq_false_iff_ne]
  intro e
  apply h
  apply UInt8.toNat_inj.1
  have : x.toNat = 0 := by omega
  rw [this]
  rfl
end Go.Proofs.YtflofbimecnakaaGreat
namespace Go.Proofs.YtflofbimecnakaaGreat
open Go.RowKit
set_option linter.unusedVariables false
set_option linter.unusedSimpArgs false
theorem rot1_val (b : UInt8) : bits .or .u8 ((b.toNat : Int) * (2 : Int) % (256 : Int)) ((b.toNat : Int) / (128 : Int)) = ((rotl8 b 1).toNat : Int) := rot8_val b 1 (by omega)
end Go.Proofs.YtflofbimecnakaaGreat
