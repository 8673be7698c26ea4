/- The field of 128 bits: the program's multiples of an element. -/
import Derived.Test.YtkedoiikkjeadaaDoorGhF
namespace Go.Proofs.YtkedoiikkjeadaaDoor
open Go.RowKit
set_option linter.unusedVariables false
set_option linter.unusedSimpArgs false
def elcs (L : List Nat) : List Value := L.flatMap elc
theorem elcs_length (L : List Nat) : (elcs L).length = 2 * L.length := by
  induction L with
  | nil => rfl
  | cons a L ih => rw [elcs, List.flatMap_cons, List.length_append, show (List.flatMap elc L).length = 2 * L.length from ih, List.length_cons, elc]; simp; omega
theorem elcs_get (L : List Nat) (i : Nat) (h : i < L.length) : (elcs L)[2 * i]? = some (.int .u64 ((Gh.hi (L.getD i 0) : Nat) : Int)) ∧ (elcs L)[2 * i + 1]? = some (.int .u64 ((Gh.lo (L.getD i 0) : Nat) : Int)) := by
  induction L generalizing i with
  | nil => simp at h
  | cons a L ih =>
    cases i with
    | zero => exact ⟨rfl, rfl⟩
    | succ i =>
      have := ih i (by simpa using h)
      rw [show 2 * (i + 1) = 2 * i + 1 + 1 by omega]
      exact this
theorem elcs_set (L : List Nat) (i v : Nat) : ((elcs L).set (2 * i) (.int .u64 ((Gh.hi v : Nat) : Int))).set (2 * i + 1) (.int .u64 ((Gh.lo v : Nat) : Int)) = elcs (L.set i v) := by
  induction L generalizing i with
  | nil => rfl
  | cons a L ih =>
    cases i with
    | zero => rfl
    | succ i =>
      rw [show 2 * (i + 1) = 2 * i + 1 + 1 by omega]
      have := ih i
      simp only [elcs, List.flatMap_cons, elc, List.set_cons_succ, List.cons_append, List.nil_append] at this ⊢
      rw [this]
theorem elcs_one (L : List Nat) : ∀ u ∈ elcs L, u.oneCell' = true := by
  intro u hu
  simp only [elcs, List.mem_flatMap, elc] at hu
  obtain ⟨b, _, hb⟩ := hu
  simp at hb
  rcases hb with rfl | rfl <;> rfl
theorem infoM (L : List Nat) (h : L.length = 16) : (Tryd.prog.info? 46).map (·.size) = some (elcs L).length := by rw [elcs_length, h]; kernel_rfl
theorem At.el {w : World} {g : Nat} {L : List Nat} (h : At w g 0 (elcs L)) (i : Nat) (hi : i < L.length) : w.cell? ⟨g, 2 * i, none⟩ = some (.int .u64 ((Gh.hi (L.getD i 0) : Nat) : Int)) ∧ w.cell? ⟨g, 2 * i + 1, none⟩ = some (.int .u64 ((Gh.lo (L.getD i 0) : Nat) : Int)) ∧ w.frozen? ⟨g, 2 * i, none⟩ = false ∧ w.frozen? ⟨g, 2 * i + 1, none⟩ = false := by
  have h1 := h.cell (2 * i) _ (elcs_get L i hi).1
  have h2 := h.cell (2 * i + 1) _ (elcs_get L i hi).2
  have h3 := h.froz (2 * i) (by rw [elcs_length]; omega)
  have h4 := h.froz (2 * i + 1) (by rw [elcs_length]; omega)
  rw [Nat.zero_add] at h1 h2 h3 h4
  exact ⟨h1, h2, h3, h4⟩
theorem At.elset {w : World} {g : Nat} {L : List Nat} (h : At w g 0 (elcs L)) (i v : Nat) : At ((w.setCell ⟨g, 2 * i, none⟩ (.int .u64 ((Gh.hi v : Nat) : Int))).setCell ⟨g, 2 * i + 1, none⟩ (.int .u64 ((Gh.lo v : Nat) : Int))) g 0 (elcs (L.set i v)) := by
  have := (h.set (2 * i) (.int .u64 ((Gh.hi v : Nat) : Int))).set (2 * i + 1) (.int .u64 ((Gh.lo v : Nat) : Int))
  rw [elcs_set, Nat.zero_add, Nat.zero_add] at this
  exact this
def mt1 (b p : Nat) : List Nat := (List.range 16).map fun i => if p < i ∧ (i = 8 ∨ i = 4 ∨ i = 2 ∨ i = 1) then Gh.tab b i else 0
theorem mt1_length (b p : Nat) : (mt1 b p).length = 16 := by simp [mt1]
theorem mt1_set (b p : Nat) (hp : p = 8 ∨ p = 4 ∨ p = 2 ∨ p = 1) : (mt1 b p).set p (Gh.tab b p) = mt1 b (p / 2) := by
  rcases hp with rfl | rfl | rfl | rfl <;> rfl
theorem elz : elcs (List.replicate 16 0) = [Value.int .u64 0, Value.int .u64 0, Value.int .u64 0, Value.int .u64 0, Value.int .u64 0, Value.int .u64 0, Value.int .u64 0, Value.int .u64 0, Value.int .u64 0, Value.int .u64 0, Value.int .u64 0, Value.int .u64 0, Value.int .u64 0, Value.int .u64 0, Value.int .u64 0, Value.int .u64 0, Value.int .u64 0, Value.int .u64 0, Value.int .u64 0, Value.int .u64 0, Value.int .u64 0, Value.int .u64 0, Value.int .u64 0, Value.int .u64 0, Value.int .u64 0, Value.int .u64 0, Value.int .u64 0, Value.int .u64 0, Value.int .u64 0, Value.int .u64 0, Value.int .u64 0, Value.int .u64 0] := rfl
theorem mt1_zero (b : Nat) : mt1 b 8 = List.replicate 16 0 := rfl
abbrev zm : Obj := Obj.cells #[Value.int .u64 0, Value.int .u64 0, Value.int .u64 0, Value.int .u64 0, Value.int .u64 0, Value.int .u64 0, Value.int .u64 0, Value.int .u64 0, Value.int .u64 0, Value.int .u64 0, Value.int .u64 0, Value.int .u64 0, Value.int .u64 0, Value.int .u64 0, Value.int .u64 0, Value.int .u64 0, Value.int .u64 0, Value.int .u64 0, Value.int .u64 0, Value.int .u64 0, Value.int .u64 0, Value.int .u64 0, Value.int .u64 0, Value.int .u64 0, Value.int .u64 0, Value.int .u64 0, Value.int .u64 0, Value.int .u64 0, Value.int .u64 0, Value.int .u64 0, Value.int .u64 0, Value.int .u64 0] 46
/-- the lowest bit -/
def lowN (n : Nat) : Nat := [0, 1, 2, 1, 4, 1, 2, 1, 8, 1, 2, 1, 4, 1, 2, 1].getD n 0
theorem low_and (n : Nat) (h : n < 16) : bits .and .i64 (n : Int) (-(n : Int)) = ((lowN n : Nat) : Int) ∧ bits .andNot .i64 (n : Int) ((lowN n : Nat) : Int) = ((n - lowN n : Nat) : Int) ∧ lowN n < 16 ∧ lowN n ≤ n ∧ (0 < n → (lowN n = 8 ∨ lowN n = 4 ∨ lowN n = 2 ∨ lowN n = 1)) ∧ (n - lowN n) ^^^ lowN n = n := by
  have hh : n = 0 ∨ n = 1 ∨ n = 2 ∨ n = 3 ∨ n = 4 ∨ n = 5 ∨ n = 6 ∨ n = 7 ∨ n = 8 ∨ n = 9 ∨ n = 10 ∨ n = 11 ∨ n = 12 ∨ n = 13 ∨ n = 14 ∨ n = 15 := by omega
  clear h
  rcases hh with rfl | rfl | rfl | rfl | rfl | rfl | rfl | rfl | rfl | rfl | rfl | rfl | rfl | rfl | rfl | rfl <;> decide
def mt2 (b n : Nat) : List Nat := (List.range 16).map fun i => if i < n ∨ (i = 8 ∨ i = 4 ∨ i = 2 ∨ i = 1) then Gh.tab b i else 0
theorem mt2_length (b n : Nat) : (mt2 b n).length = 16 := by simp [mt2]
theorem mt2_zero (b : Nat) : mt1 b 0 = mt2 b 0 := rfl
def tabL (b : Nat) : List Nat := (List.range 16).map (Gh.tab b)
theorem tabL_length (b : Nat) : (tabL b).length = 16 := by simp [tabL]
theorem tabL_at (b i : Nat) (h : i < 16) : (tabL b).getD i 0 = Gh.tab b i := by simp [tabL, List.getD, h]
theorem mt2_full (b : Nat) : mt2 b 16 = tabL b := rfl
theorem mt2_at (b n i : Nat) (h : i < 16) : (mt2 b n).getD i 0 = if i < n ∨ (i = 8 ∨ i = 4 ∨ i = 2 ∨ i = 1) then Gh.tab b i else 0 := by simp [mt2, List.getD, h]
theorem tab_zero (b : Nat) : Gh.tab b 0 = 0 := by rw [Gh.tab, Nat.zero_shiftLeft, Gh.zero_mul]
theorem mt2_sum (b n : Nat) (h : n < 16) : (mt2 b n).getD (n - lowN n) 0 ^^^ (mt2 b n).getD (lowN n) 0 = Gh.tab b n := by
  obtain ⟨_, _, h1, h2, h3, h4⟩ := low_and n h
  rw [mt2_at _ _ _ (by omega), mt2_at _ _ _ h1]
  by_cases h0 : n = 0
  · subst h0
    rw [tab_zero, if_neg (by decide), if_neg (by decide), Nat.xor_self]
  · have h5 := h3 (by omega)
    rw [if_pos (.inl (by omega)), if_pos (.inr h5), ← Gh.tab_xor, h4]
theorem mt2_step (b n : Nat) (h : n < 16) : (mt2 b n).set n (Gh.tab b n) = mt2 b (n + 1) := by
  refine List.ext_getElem (by simp [mt2]) fun i h1 h2 => ?_
  rw [List.getElem_set]
  simp only [mt2, List.getElem_map, List.getElem_range]
  by_cases e : n = i
  · subst e
    rw [if_pos rfl, if_pos (.inl (by omega))]
  · rw [if_neg e]
    have : (i < n ∨ (i = 8 ∨ i = 4 ∨ i = 2 ∨ i = 1)) ↔ (i < n + 1 ∨ (i = 8 ∨ i = 4 ∨ i = 2 ∨ i = 1)) := by omega
    simp only [this]
theorem mul_by (w : World) (b : Nat) : ∃ w0, ((w.alloc (Obj.cells #[.int .u64 ((Gh.hi b : Nat) : Int), .int .u64 ((Gh.lo b : Nat) : Int)] 44)).alloc zm).alloc zm = w0 ∧ At w0 w.heap.size 0 (elc b) ∧ At w0 (w.heap.size + 1) 0 (elcs (List.replicate 16 0)) ∧ At w0 (w.heap.size + 1 + 1) 0 (elcs (mt1 b 8)) ∧ Below w.heap.size w w0 ∧ w0.heap.size = w.heap.size + 3 := by
  refine ⟨_, rfl, ?_, ?_, ?_, ?_, by simp⟩
  · exact ((At.ofAlloc w #[.int .u64 ((Gh.hi b : Nat) : Int), .int .u64 ((Gh.lo b : Nat) : Int)] 44).alloc _).alloc _
  · have h := At.ofAlloc (w.alloc (Obj.cells #[.int .u64 ((Gh.hi b : Nat) : Int), .int .u64 ((Gh.lo b : Nat) : Int)] 44)) (elcs (List.replicate 16 0)).toArray 46
    rw [World.size_alloc] at h
    simp only at h
    have h2 := h.alloc zm
    rw [elz] at h2 ⊢
    exact h2
  · have h := At.ofAlloc ((w.alloc (Obj.cells #[.int .u64 ((Gh.hi b : Nat) : Int), .int .u64 ((Gh.lo b : Nat) : Int)] 44)).alloc zm) (elcs (List.replicate 16 0)).toArray 46
    rw [World.size_alloc, World.size_alloc] at h
    simp only at h
    rw [mt1_zero]
    rw [elz] at h ⊢
    exact h
  · exact (((Below.refl _ _).alloc (Nat.le_refl _) _).alloc (by simp) _).alloc (by simp; omega) _
set_option maxRecDepth 100000 in
set_option maxHeartbeats 1600000 in
theorem multiples_any (b : Nat) (hb : b < 2 ^ 128) (w : World) : Calls Tryd.prog 29 #[.agg #[.int .u64 ((Gh.hi b : Nat) : Int), .int .u64 ((Gh.lo b : Nat) : Int)]] w (fun e w' => e = .returned (.agg (elcs (tabL b)).toArray) ∧ Below w.heap.size w w') := by
  have HB := Lib.hid hb
  clear hb
  go_enter Tryd.func29, Tryd.ntmps29
  go_wp2_with fail
  obtain ⟨w0, hw0, hA0, hA1, hA2, hb0, hs0⟩ := mul_by w b
  rw [hw0]
  clear hw0
  go_loopw [4] (fun iv w2 => ∃ (p v : Nat), (p = 8 ∨ p = 4 ∨ p = 2 ∨ p = 1 ∨ p = 0) ∧ iv = .int .i64 (p : Int) ∧ v < 2 ^ 128 ∧ (0 < p → v = Gh.tab b p) ∧ At w2 w.heap.size 0 (elc v) ∧ At w2 (w.heap.size + 1) 0 (elcs (List.replicate 16 0)) ∧ At w2 (w.heap.size + 1 + 1) 0 (elcs (mt1 b p)) ∧ Below w.heap.size w w2 ∧ w.heap.size + 3 ≤ w2.heap.size) (fun i _ => (intOf i).toNat)
  case atStart => exact ⟨8, b, .inl rfl, rfl, HB.out, fun _ => (Gh.tab8 b).symm, hA0, hA1, hA2, hb0, by omega⟩
  case round =>
    clear hA0 hA1 hA2 hb0 hs0
    obtain ⟨p, v, hp, rfl, hv, hpv, hA0, hA1, hA2, hb0, hs0⟩ := hrel
    have H0 := Lib.hid hA0
    have H1 := Lib.hid hA1
    have H2 := Lib.hid hA2
    have HV := Lib.hid hv
    have HP := Lib.hid hp
    have HPV := Lib.hid hpv
    clear hA0 hA1 hA2 hv hpv
    by_cases h0 : p = 0
    · subst h0
      go_wp2_with fail
      have h2 := H2.out
      rw [mt2_zero] at h2
      have h1 := H1.out
      clear H0 H1 H2 HV HP HPV
      go_loopw [16] (fun iv w2 => ∃ n : Nat, n ≤ 16 ∧ iv = .int .i64 (n : Int) ∧ At w2 (w.heap.size + 1) 0 (elcs (List.replicate 16 0)) ∧ At w2 (w.heap.size + 1 + 1) 0 (elcs (mt2 b n)) ∧ Below w.heap.size w w2 ∧ w.heap.size + 3 ≤ w2.heap.size) (fun i _ => 16 - (intOf i).toNat)
      case atStart => exact ⟨0, Nat.zero_le _, rfl, h1, h2, hb0, hs0⟩
      case round =>
        clear h1 h2 hb0 hs0
        obtain ⟨n, hn, rfl, h1, h2, hb0, hs0⟩ := hrel
        have H1 := Lib.hid h1
        have H2 := Lib.hid h2
        clear h1 h2
        by_cases hlt : n < 16
        · obtain ⟨l1, l2, l3, l4, l5, l6⟩ := low_and n hlt
          have hsum := mt2_sum b n hlt
          have hste := mt2_step b n hlt
          have wn : IntKind.i64.wrap (-(n : Int)) = -(n : Int) := by simp [IntKind.wrap, IntKind.bits, IntKind.signed]; omega
          obtain ⟨m, hm⟩ : ∃ m, lowN n = m := ⟨_, rfl⟩
          obtain ⟨a, ha⟩ : ∃ a, n - m = a := ⟨_, rfl⟩
          rw [hm] at l1 l2 l3 l4 hsum
          rw [ha] at l2 hsum
          have a16 : a < 16 := by omega
          obtain ⟨fa0, fa1, _, _⟩ := H2.out.el a (by rw [mt2_length]; exact a16)
          obtain ⟨fm0, fm1, _, _⟩ := H2.out.el m (by rw [mt2_length]; exact l3)
          obtain ⟨fn0, fn1, fn2, fn3⟩ := H2.out.el n (by rw [mt2_length]; exact hlt)
          obtain ⟨x, hx⟩ : ∃ x, (mt2 b n).getD a 0 = x := ⟨_, rfl⟩
          obtain ⟨y, hy⟩ : ∃ y, (mt2 b n).getD m 0 = y := ⟨_, rfl⟩
          have hxl : x < 2 ^ 128 := by rw [← hx, mt2_at _ _ _ a16]; split; exact Gh.tab_lt _ _ HB.out; exact Nat.two_pow_pos 128
          have hyl : y < 2 ^ 128 := by rw [← hy, mt2_at _ _ _ l3]; split; exact Gh.tab_lt _ _ HB.out; exact Nat.two_pow_pos 128
          rw [hx] at fa0 fa1 hsum
          rw [hy] at fm0 fm1 hsum
          rw [Nat.mul_comm 2 a] at fa0 fa1
          rw [Nat.mul_comm 2 m] at fm0 fm1
          rw [Nat.mul_comm 2 n] at fn0 fn1 fn2 fn3
          have aI : (a : Int) < 16 := by omega
          have mI : (m : Int) < 16 := by omega
          rw [← hsum] at hste
          have HST := Lib.hid hste
          have HXL := Lib.hid hxl
          have HYL := Lib.hid hyl
          clear hste hsum hx hy hxl hyl ha hm l4 l5 l6
          go_wp2_with fail
          go_region_with ((go_at_call 36; refine (plus_any x y HXL.out HYL.out _).mono ?_; rintro e w3 ⟨rfl, hb3⟩; have g0 := (hb3.cell (p := ⟨w.heap.size + 1 + 1, n * 2, none⟩) hs0).trans fn0; have g1 := (hb3.cell (p := ⟨w.heap.size + 1 + 1, n * 2 + 1, none⟩) hs0).trans fn1; have g2 := (hb3.frozen (p := ⟨w.heap.size + 1 + 1, n * 2, none⟩) hs0).trans fn2; have g3 := (hb3.frozen (p := ⟨w.heap.size + 1 + 1, n * 2 + 1, none⟩) hs0).trans fn3))
          all_goals
            have k2 : At w3 (w.heap.size + 1 + 1) 0 (elcs (mt2 b n)) := by first | exact H2.out.below hb3 hs0 | exact H2.out.drew.below hb3 hs0
            have k1 : At w3 (w.heap.size + 1) 0 (elcs (List.replicate 16 0)) := by first | exact H1.out.below hb3 (Nat.le_of_succ_le hs0) | exact H1.out.drew.below hb3 (Nat.le_of_succ_le hs0)
            have kb : Below w.heap.size w w3 := by first | exact hb0.drew.trans (hb3.mono hb0.size) | exact hb0.trans (hb3.mono hb0.size)
            have ks : w.heap.size + 3 ≤ w3.heap.size := by first | exact Nat.le_trans hs0 hb3.size
            have K2 := Lib.hid k2
            have K1 := Lib.hid k1
            clear k1 k2 hb3 g0 g1 g2 g3 fn0 fn1 fn2 fn3 fa0 fa1 fm0 fm1
            go_wp2_with fail
            go_roundw
            case rel =>
              have h := K2.out.elset n (x ^^^ y)
              rw [HST.out, Nat.mul_comm 2 n] at h
              exact ⟨n + 1, by omega, by go_num, (K1.out.other _ _ _ (.inl (by omega))).other _ _ _ (.inl (by omega)), h, (kb.setCell (p := ⟨w.heap.size + 1 + 1, n * 2, none⟩) (by show w.heap.size ≤ w.heap.size + 1 + 1; omega) _).setCell (p := ⟨w.heap.size + 1 + 1, n * 2 + 1, none⟩) (by show w.heap.size ≤ w.heap.size + 1 + 1; omega) _, by simpa using ks⟩
            case measure => simp [intOf]; omega
        · have hn16 : n = 16 := by omega
          subst hn16
          have h1 := H2.out
          rw [mt2_full] at h1
          have hl : (tabL b).length = 16 := tabL_length b
          have hst := run_store_at (P := Tryd.prog) H1.out (cs := elcs (tabL b)) (by rw [elcs_length, elcs_length, hl, List.length_replicate]) (elcs_one _)
          have hfin : At (wr.setCells (w.heap.size + 1) 0 (elcs (tabL b))) (w.heap.size + 1) 0 (elcs (tabL b)) := H1.out.ofSets (by rw [elcs_length, elcs_length, hl, List.length_replicate])
          have hbf := below_sets w.heap.size (w.heap.size + 1) (by omega) (elcs (tabL b)) 0 w wr hb0
          have HLB := Lib.hid hl
          clear hl
          go_wp2_with (refine wpList_load_at 46 (.tmp 3) (w.heap.size + 1 + 1) 0 (elcs (tabL b)) _ h1 Tryd.underlying46 rfl (infoM _ HLB.out) ⟨rfl, rfl, rfl⟩ ?_)
          (try simp only [Exit.inBlock, Exit.then])
          refine bodyPost_ret (results_at rfl _ (w.heap.size + 1) _ _ rfl hfin Tryd.underlying46 rfl (infoM _ HLB.out)) rfl ?_
          exact ⟨rfl, hbf⟩
    · have p16 : p < 16 := by omega
      clear hp
      have hk0 := H0.out.cell 0 _ rfl
      have hk1 := H0.out.cell 1 _ rfl
      obtain ⟨f0, f1, f2, f3⟩ := H2.out.el p (by rw [mt1_length]; exact p16)
      rw [Nat.mul_comm 2 p] at f0 f1 f2 f3
      rw [Nat.zero_add] at hk0 hk1
      have hpI : (0 : Int) < (p : Int) := by omega
      have hp16 : (p : Int) < 16 := by omega
      obtain ⟨p2, hp2⟩ : ∃ p2, p / 2 = p2 := ⟨_, rfl⟩
      have q1 : (p : Int) / 2 = (p2 : Int) := by omega
      have hvp := HPV.out (by omega)
      have hE := H2.out.elset p v
      rw [hvp, mt1_set b p (by have := HP.out; omega), hp2, ← hvp, Nat.mul_comm 2 p] at hE
      have hE0 := (H0.out.other (w.heap.size + 1 + 1) (p * 2) (.int .u64 ((Gh.hi v : Nat) : Int)) (.inl (by omega))).other (w.heap.size + 1 + 1) (p * 2 + 1) (.int .u64 ((Gh.lo v : Nat) : Int)) (.inl (by omega))
      have hE1 := (H1.out.other (w.heap.size + 1 + 1) (p * 2) (.int .u64 ((Gh.hi v : Nat) : Int)) (.inl (by omega))).other (w.heap.size + 1 + 1) (p * 2 + 1) (.int .u64 ((Gh.lo v : Nat) : Int)) (.inl (by omega))
      have hbE := (hb0.setCell (p := ⟨w.heap.size + 1 + 1, p * 2, none⟩) (by show w.heap.size ≤ w.heap.size + 1 + 1; omega) (.int .u64 ((Gh.hi v : Nat) : Int))).setCell (p := ⟨w.heap.size + 1 + 1, p * 2 + 1, none⟩) (by show w.heap.size ≤ w.heap.size + 1 + 1; omega) (.int .u64 ((Gh.lo v : Nat) : Int))
      have hsE : w.heap.size + 3 ≤ ((wr.setCell ⟨w.heap.size + 1 + 1, p * 2, none⟩ (.int .u64 ((Gh.hi v : Nat) : Int))).setCell ⟨w.heap.size + 1 + 1, p * 2 + 1, none⟩ (.int .u64 ((Gh.lo v : Nat) : Int))).heap.size := by simpa using hs0
      have HE := Lib.hid (And.intro hE (And.intro hE0 (And.intro hE1 (And.intro hbE hsE))))
      have HVP := Lib.hid hvp
      have HP2 := Lib.hid hp2
      have hdn : decide (0 < (p : Int)) = true := decide_eq_true (by omega)
      clear hE hE0 hE1 hbE hsE hvp hp2
      go_wp2_with fail
      obtain ⟨wq, hwq⟩ : ∃ wq, (wr.setCell ⟨w.heap.size + 1 + 1, p * 2, none⟩ (.int .u64 ((Gh.hi v : Nat) : Int))).setCell ⟨w.heap.size + 1 + 1, p * 2 + 1, none⟩ (.int .u64 ((Gh.lo v : Nat) : Int)) = wq := ⟨_, rfl⟩
      rw [hwq] at HE ⊢
      refine (timesX_any v HV.out _).mono ?_
      rintro e w3 ⟨rfl, hb3⟩
      obtain ⟨hE, hE0, hE1, hbE, hsE⟩ := HE.out
      have hF := hE.below hb3 (by omega)
      have hF0 := hE0.below hb3 (by omega)
      have hF1 := hE1.below hb3 (by omega)
      have hbF := hbE.trans (hb3.mono hbE.size)
      have hsF : w.heap.size + 3 ≤ w3.heap.size := by have := hb3.size; omega
      have y0 := hF0.cell 0 _ rfl
      have y1 := hF0.cell 1 _ rfl
      have z0 := hF0.froz 0 (by simp [elc])
      have z1 := hF0.froz 1 (by simp [elc])
      rw [Nat.zero_add] at y0 y1 z0 z1
      have HF := Lib.hid (And.intro hF (And.intro hF0 (And.intro hF1 (And.intro hbF hsF))))
      clear hE hE0 hE1 hbE hsE hF hF0 hF1 hbF hsF hb3 hwq HE f0 f1 f2 f3 hk0 hk1 hb0 hs0 H0 H1 H2
      go_wp2_with fail
      go_roundw
      case rel =>
        obtain ⟨hF, hF0, hF1, hbF, hsF⟩ := HF.out
        have h0' := (hF0.set 0 (.int .u64 ((Gh.hi (Gh.mx v) : Nat) : Int))).set 1 (.int .u64 ((Gh.lo (Gh.mx v) : Nat) : Int))
        rw [Nat.zero_add, Nat.zero_add] at h0'
        refine ⟨p2, Gh.mx v, by have := HP.out; have := HP2.out; omega, by go_num, Gh.mx_lt v HV.out, ?_, h0', (hF1.other _ _ _ (.inl (by omega))).other _ _ _ (.inl (by omega)), (hF.other _ _ _ (.inl (by omega))).other _ _ _ (.inl (by omega)), (hbF.setCell (p := ⟨w.heap.size, 0, none⟩) (Nat.le_refl _) _).setCell (p := ⟨w.heap.size, 1, none⟩) (Nat.le_refl _) _, by simpa using hsF⟩
        intro hp0
        rw [HVP.out, ← HP2.out, ← Gh.tab_mx b p HB.out (by have := HP.out; have := HP2.out; omega)]
      case measure => have := HP2.out; simp [intOf]; omega
end Go.Proofs.YtkedoiikkjeadaaDoor
