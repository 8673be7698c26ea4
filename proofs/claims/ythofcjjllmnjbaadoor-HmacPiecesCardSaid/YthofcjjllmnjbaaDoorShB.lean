/- The document's times. -/
import Derived.Test.YthofcjjllmnjbaaDoorShA
namespace Go.Proofs.YthofcjjllmnjbaaDoor
open Go.RowKit
set_option linter.unusedVariables false
set_option linter.unusedSimpArgs false
def n4 (a : Nat) : List Value := [.int .u64 ((nw a 0 : Nat) : Int), .int .u64 ((nw a 1 : Nat) : Int), .int .u64 ((nw a 2 : Nat) : Int), .int .u64 ((nw a 3 : Nat) : Int)]
theorem n4_cells {w : World} {g a : Nat} (h : At w g 0 (n4 a)) : w.cell? ⟨g, 0, none⟩ = some (.int .u64 ((nw a 0 : Nat) : Int)) ∧ w.cell? ⟨g, 1, none⟩ = some (.int .u64 ((nw a 1 : Nat) : Int)) ∧ w.cell? ⟨g, 2, none⟩ = some (.int .u64 ((nw a 2 : Nat) : Int)) ∧ w.cell? ⟨g, 3, none⟩ = some (.int .u64 ((nw a 3 : Nat) : Int)) :=
  ⟨h.cell 0 _ rfl, h.cell 1 _ rfl, h.cell 2 _ rfl, h.cell 3 _ rfl⟩
abbrev z8 : Array Value := #[.int .u64 0, .int .u64 0, .int .u64 0, .int .u64 0, .int .u64 0, .int .u64 0, .int .u64 0, .int .u64 0]
abbrev z4 : Array Value := #[.int .u64 0, .int .u64 0, .int .u64 0, .int .u64 0]
theorem mod_mul3 (a b n : Nat) : a % n * b % n = a * b % n := by rw [Nat.mul_mod, Nat.mod_mod, ← Nat.mul_mod]
/-- what the walk knows of memory: both numbers, what comes out, the product's half words -/
structure Ti (w wn : World) (a b : Nat) (o : List Nat) : Prop where
  fa : At wn w.heap.size 0 (n4 a)
  fb : At wn (w.heap.size + 1) 0 (n4 b)
  fr : At wn (w.heap.size + 1 + 1) 0 (n4 0)
  fo : At wn (w.heap.size + 1 + 1 + 1) 0 (ucells o)
  fl : o.length = 8
  fe : ∀ x ∈ o, x < 2 ^ 32
  fw : Below w.heap.size w wn
  fs : w.heap.size + 4 ≤ wn.heap.size
theorem n4_zero : n4 0 = z4.toList := by simp [n4, nw]
theorem ti_by (w : World) (a b : Nat) : ∃ w0, (((w.alloc (Obj.cells #[.int .u64 ((nw a 0 : Nat) : Int), .int .u64 ((nw a 1 : Nat) : Int), .int .u64 ((nw a 2 : Nat) : Int), .int .u64 ((nw a 3 : Nat) : Int)] 89)).alloc (Obj.cells #[.int .u64 ((nw b 0 : Nat) : Int), .int .u64 ((nw b 1 : Nat) : Int), .int .u64 ((nw b 2 : Nat) : Int), .int .u64 ((nw b 3 : Nat) : Int)] 89)).alloc (Obj.cells z4 89)).alloc (Obj.cells z8 40) = w0 ∧ Ti w w0 a b (List.replicate 8 0) := by
  refine ⟨_, rfl, ?_, ?_, ?_, ?_, rfl, ?_, ?_, by simp⟩
  · have h := At.ofAlloc w #[.int .u64 ((nw a 0 : Nat) : Int), .int .u64 ((nw a 1 : Nat) : Int), .int .u64 ((nw a 2 : Nat) : Int), .int .u64 ((nw a 3 : Nat) : Int)] 89
    exact ((h.alloc _).alloc _).alloc _
  · have h := At.ofAlloc (w.alloc (Obj.cells #[.int .u64 ((nw a 0 : Nat) : Int), .int .u64 ((nw a 1 : Nat) : Int), .int .u64 ((nw a 2 : Nat) : Int), .int .u64 ((nw a 3 : Nat) : Int)] 89)) #[.int .u64 ((nw b 0 : Nat) : Int), .int .u64 ((nw b 1 : Nat) : Int), .int .u64 ((nw b 2 : Nat) : Int), .int .u64 ((nw b 3 : Nat) : Int)] 89
    rw [World.size_alloc] at h
    exact (h.alloc _).alloc _
  · have h := At.ofAlloc ((w.alloc (Obj.cells #[.int .u64 ((nw a 0 : Nat) : Int), .int .u64 ((nw a 1 : Nat) : Int), .int .u64 ((nw a 2 : Nat) : Int), .int .u64 ((nw a 3 : Nat) : Int)] 89)).alloc (Obj.cells #[.int .u64 ((nw b 0 : Nat) : Int), .int .u64 ((nw b 1 : Nat) : Int), .int .u64 ((nw b 2 : Nat) : Int), .int .u64 ((nw b 3 : Nat) : Int)] 89)) z4 89
    rw [World.size_alloc, World.size_alloc] at h
    rw [n4_zero]
    exact h.alloc _
  · have h := At.ofAlloc (((w.alloc (Obj.cells #[.int .u64 ((nw a 0 : Nat) : Int), .int .u64 ((nw a 1 : Nat) : Int), .int .u64 ((nw a 2 : Nat) : Int), .int .u64 ((nw a 3 : Nat) : Int)] 89)).alloc (Obj.cells #[.int .u64 ((nw b 0 : Nat) : Int), .int .u64 ((nw b 1 : Nat) : Int), .int .u64 ((nw b 2 : Nat) : Int), .int .u64 ((nw b 3 : Nat) : Int)] 89)).alloc (Obj.cells z4 89)) z8 40
    rw [World.size_alloc, World.size_alloc, World.size_alloc] at h
    exact h
  · intro x hx
    rw [List.eq_of_mem_replicate hx]
    decide
  · exact ((((Below.refl _ _).alloc (Nat.le_refl _) _).alloc (by simp) _).alloc (by simp; omega) _).alloc (by simp; omega) _
theorem Ti.below {w wn w3 : World} {a b : Nat} {o : List Nat} (h : Ti w wn a b o) (hb : Below wn.heap.size wn w3) : Ti w w3 a b o := by
  have hs := h.fs
  exact ⟨h.fa.below hb (by omega), h.fb.below hb (by omega), h.fr.below hb (by omega), h.fo.below hb (by omega), h.fl, h.fe, h.fw.trans (hb.mono h.fw.size), Nat.le_trans hs hb.size⟩
theorem Ti.drew {w wn : World} {a b : Nat} {o : List Nat} (h : Ti w wn a b o) : Ti w wn.drew a b o := ⟨h.fa.drew, h.fb.drew, h.fr.drew, h.fo.drew, h.fl, h.fe, h.fw.drew, h.fs⟩
theorem Ti.put {w wn : World} {a b : Nat} {o : List Nat} (h : Ti w wn a b o) (j u : Nat) (hu : u < 2 ^ 32) : Ti w (wn.setCell ⟨w.heap.size + 1 + 1 + 1, j, none⟩ (.int .u64 (u : Int))) a b (o.set j u) := by
  have ho := h.fo.uset j u
  rw [Nat.zero_add] at ho
  refine ⟨h.fa.other _ _ _ (.inl (by omega)), h.fb.other _ _ _ (.inl (by omega)), h.fr.other _ _ _ (.inl (by omega)), ho, by rw [List.length_set]; exact h.fl, ?_, h.fw.setCell (p := ⟨w.heap.size + 1 + 1 + 1, j, none⟩) (by show w.heap.size ≤ w.heap.size + 1 + 1 + 1; omega) _, by simpa using h.fs⟩
  intro x hx
  rcases List.mem_or_eq_of_mem_set hx with h1 | h1
  · exact h.fe x h1
  · rw [h1]; exact hu
theorem tiS {w wa wb : World} {B1 B2 B3 i : Nat} {v0 v1 v2 v3 u0 u1 u2 u3 o : Value} (hb : Below wa.heap.size wa wb)
    (hS : wa.cell? ⟨B1, 0, none⟩ = some v0 ∧ wa.cell? ⟨B1, 1, none⟩ = some v1 ∧ wa.cell? ⟨B1, 2, none⟩ = some v2 ∧ wa.cell? ⟨B1, 3, none⟩ = some v3 ∧ wa.cell? ⟨B2, 0, none⟩ = some u0 ∧ wa.cell? ⟨B2, 1, none⟩ = some u1 ∧ wa.cell? ⟨B2, 2, none⟩ = some u2 ∧ wa.cell? ⟨B2, 3, none⟩ = some u3 ∧ wa.cell? ⟨B3, i, none⟩ = some o ∧ (B1 < wa.heap.size ∧ B2 < wa.heap.size ∧ B3 < wa.heap.size) ∧ Below w.heap.size w wa) :
    wb.cell? ⟨B1, 0, none⟩ = some v0 ∧ wb.cell? ⟨B1, 1, none⟩ = some v1 ∧ wb.cell? ⟨B1, 2, none⟩ = some v2 ∧ wb.cell? ⟨B1, 3, none⟩ = some v3 ∧ wb.cell? ⟨B2, 0, none⟩ = some u0 ∧ wb.cell? ⟨B2, 1, none⟩ = some u1 ∧ wb.cell? ⟨B2, 2, none⟩ = some u2 ∧ wb.cell? ⟨B2, 3, none⟩ = some u3 ∧ wb.cell? ⟨B3, i, none⟩ = some o ∧ (B1 < wb.heap.size ∧ B2 < wb.heap.size ∧ B3 < wb.heap.size) ∧ Below w.heap.size w wb := by
  obtain ⟨a0, a1, a2, a3, b0, b1, b2, b3, o0, ⟨l1, l2, l3⟩, hw⟩ := hS
  exact ⟨(hb.cell (p := ⟨B1, 0, none⟩) l1).trans a0, (hb.cell (p := ⟨B1, 1, none⟩) l1).trans a1, (hb.cell (p := ⟨B1, 2, none⟩) l1).trans a2, (hb.cell (p := ⟨B1, 3, none⟩) l1).trans a3, (hb.cell (p := ⟨B2, 0, none⟩) l2).trans b0, (hb.cell (p := ⟨B2, 1, none⟩) l2).trans b1, (hb.cell (p := ⟨B2, 2, none⟩) l2).trans b2, (hb.cell (p := ⟨B2, 3, none⟩) l2).trans b3, (hb.cell (p := ⟨B3, i, none⟩) l3).trans o0, ⟨Nat.lt_of_lt_of_le l1 hb.size, Nat.lt_of_lt_of_le l2 hb.size, Nat.lt_of_lt_of_le l3 hb.size⟩, hw.trans (hb.mono hw.size)⟩
theorem tiSb {w wa : World} {B1 B2 B3 i : Nat} {v0 v1 v2 v3 u0 u1 u2 u3 o : Value} 
    (hS : wa.cell? ⟨B1, 0, none⟩ = some v0 ∧ wa.cell? ⟨B1, 1, none⟩ = some v1 ∧ wa.cell? ⟨B1, 2, none⟩ = some v2 ∧ wa.cell? ⟨B1, 3, none⟩ = some v3 ∧ wa.cell? ⟨B2, 0, none⟩ = some u0 ∧ wa.cell? ⟨B2, 1, none⟩ = some u1 ∧ wa.cell? ⟨B2, 2, none⟩ = some u2 ∧ wa.cell? ⟨B2, 3, none⟩ = some u3 ∧ wa.cell? ⟨B3, i, none⟩ = some o ∧ (B1 < wa.heap.size ∧ B2 < wa.heap.size ∧ B3 < wa.heap.size) ∧ Below w.heap.size w wa) : Below w.heap.size w wa := hS.2.2.2.2.2.2.2.2.2.2
def RetN4 (a : Nat) (w : World) (e : Ending) (w' : World) : Prop := e = .returned (.agg #[.int .u64 ((nw a 0 : Nat) : Int), .int .u64 ((nw a 1 : Nat) : Int), .int .u64 ((nw a 2 : Nat) : Int), .int .u64 ((nw a 3 : Nat) : Int)]) ∧ Below w.heap.size w w'
theorem nwV (o : List Nat) (hl : o.length = 8) (he : ∀ x ∈ o, x < 2 ^ 32) (k : Nat) (hk : k < 4) : nw (Sh.V o) k = o.getD (2 * k) 0 + o.getD (2 * k + 1) 0 * 4294967296 := by
  match o, hl with
  | [o0, o1, o2, o3, o4, o5, o6, o7], _ =>
    have h0 := he o0 (by simp)
    have h1 := he o1 (by simp)
    have h2 := he o2 (by simp)
    have h3 := he o3 (by simp)
    have h4 := he o4 (by simp)
    have h5 := he o5 (by simp)
    have h6 := he o6 (by simp)
    have h7 := he o7 (by simp)
    have hk4 : k = 0 ∨ k = 1 ∨ k = 2 ∨ k = 3 := by omega
    have hV : Sh.V [o0, o1, o2, o3, o4, o5, o6, o7] = o0 + o1 * 2 ^ 32 + (o2 + o3 * 2 ^ 32) * 2 ^ 64 + (o4 + o5 * 2 ^ 32) * 2 ^ 128 + (o6 + o7 * 2 ^ 32) * 2 ^ 192 := by simp only [Sh.V]; omega
    rw [nw, hV]
    rcases hk4 with rfl | rfl | rfl | rfl <;> simp only [List.getD, Nat.reduceMul, Nat.reduceAdd, List.getElem?_cons_zero, List.getElem?_cons_succ, Option.getD_some] <;> omega
def n4p (c k : Nat) : List Nat := (List.range 4).map fun j => if j < k then nw c j else 0
theorem n4p_length (c k : Nat) : (n4p c k).length = 4 := by simp [n4p]
theorem n4p_set (c k : Nat) : (n4p c k).set k (nw c k) = n4p c (k + 1) := by
  apply List.ext_getElem
  · simp [n4p]
  · intro i h1 h2
    simp only [n4p, List.getElem_set, List.getElem_map, List.getElem_range]
    by_cases h : k = i
    · subst h; simp
    · rw [if_neg h]
      by_cases h3 : i < k
      · rw [if_pos h3, if_pos (by omega)]
      · rw [if_neg h3, if_neg (by omega)]
theorem n4p_zero (c : Nat) : ucells (n4p c 0) = z4.toList := rfl
theorem n4p_four (c : Nat) : ucells (n4p c 4) = n4 c := rfl
set_option maxRecDepth 100000 in
set_option maxHeartbeats 1600000 in
theorem times3_any (a b : Nat) (w : World) : Calls Tryd.prog 54 #[.agg #[.int .u64 ((nw a 0 : Nat) : Int), .int .u64 ((nw a 1 : Nat) : Int), .int .u64 ((nw a 2 : Nat) : Int), .int .u64 ((nw a 3 : Nat) : Int)], .agg #[.int .u64 ((nw b 0 : Nat) : Int), .int .u64 ((nw b 1 : Nat) : Int), .int .u64 ((nw b 2 : Nat) : Int), .int .u64 ((nw b 3 : Nat) : Int)]] w (RetN4 (a * b % 2 ^ 256) w) := by
  go_enter Tryd.func54, Tryd.ntmps54
  go_wp2_with fail
  obtain ⟨w0, hw0, hT⟩ := ti_by w a b
  rw [hw0]
  clear hw0
  go_loopw [6] (fun iv wr => ∃ (i : Nat) (o : List Nat), i ≤ 8 ∧ iv = .int .i64 (i : Int) ∧ Sh.V o = (a % 2 ^ (32 * i)) * b % 2 ^ 256 ∧ Ti w wr a b o) (fun iv _ => 8 - (intOf iv).toNat)
  case atStart => exact ⟨0, _, Nat.zero_le _, rfl, by rw [Sh.V_rep, Nat.mul_zero, Nat.pow_zero, Nat.mod_one, Nat.zero_mul], hT⟩
  case round =>
    clear hT
    obtain ⟨i, o, hi, rfl, hV, hT⟩ := hrel
    by_cases hlt : i < 8
    · go_wp2_with fail
      have HI := Lib.hid hV
      have HT0 := Lib.hid hT
      have hfe := hT.fe
      rw [show decide ((i : Int) < 8) = true from decide_eq_true (by omega)]
      go_loopw [7, 8] (fun cv kv wr2 => ∃ (k c : Nat) (o2 : List Nat), k ≤ 8 - i ∧ cv = .int .u64 (c : Int) ∧ kv = .int .i64 (k : Int) ∧ c < 2 ^ 32 ∧ Sh.V o2 + c * 2 ^ (32 * (i + k)) = Sh.V o + Sh.hw a i * 2 ^ (32 * i) * (b % 2 ^ (32 * k)) ∧ Ti w wr2 a b o2) (fun _ kv _ => 8 - (intOf kv).toNat)
      case atStart => exact ⟨0, 0, o, Nat.zero_le _, rfl, rfl, by decide, by rw [Nat.mul_zero 32, Nat.pow_zero, Nat.mod_one, Nat.mul_zero, Nat.zero_mul], hT⟩
      case round =>
        clear hT HT0 hfe
        obtain ⟨k, c, o2, hk, rfl, rfl, hc, hinv, hT⟩ := hrel
        obtain ⟨j, hj⟩ : ∃ j, i + k = j := ⟨_, rfl⟩
        have q1 : (i : Int) + (k : Int) = (j : Int) := by omega
        have q2 : IntKind.i64.wrap (j : Int) = (j : Int) := by simp only [IntKind.wrap, IntKind.bits, IntKind.signed]; simp; omega
        by_cases hlk : j < 8
        · have q3 : (j : Int) < 8 := by omega
          have q4 : (0 : Int) ≤ (j : Int) := by omega
          have hk8 : k < 8 := by omega
          obtain ⟨c0, f0⟩ := hT.fo.u j (by rw [hT.fl]; exact hlk)
          rw [Nat.zero_add] at c0 f0
          obtain ⟨oj, hoj⟩ : ∃ oj, o2.getD j 0 = oj := ⟨_, rfl⟩
          have hol : oj < 2 ^ 32 := by
            rw [← hoj, List.getD, List.getElem?_eq_getElem (show j < o2.length by rw [hT.fl]; exact hlk)]
            exact hT.fe _ (List.getElem_mem _)
          rw [hoj] at c0
          obtain ⟨ha, hha⟩ : ∃ ha, Sh.hw a i = ha := ⟨_, rfl⟩
          obtain ⟨hb, hhb⟩ : ∃ hb, Sh.hw b k = hb := ⟨_, rfl⟩
          have hal : ha < 2 ^ 32 := by rw [← hha]; exact Sh.hw_lt _ _
          have hbl : hb < 2 ^ 32 := by rw [← hhb]; exact Sh.hw_lt _ _
          have hml : ha * hb ≤ (2 ^ 32 - 1) * (2 ^ 32 - 1) := Nat.mul_le_mul (by omega) (by omega)
          obtain ⟨m, hm⟩ : ∃ m, ha * hb = m := ⟨_, rfl⟩
          obtain ⟨x, hx⟩ : ∃ x, m + oj + c = x := ⟨_, rfl⟩
          rw [hm] at hml
          have r1 : (ha : Int) * (hb : Int) = (m : Int) := by rw [← hm]; simp
          have r2 : IntKind.u64.wrap (m : Int) = (m : Int) := by simp [IntKind.wrap, IntKind.bits, IntKind.signed]; omega
          obtain ⟨m1, hm1⟩ : ∃ m1, m + oj = m1 := ⟨_, rfl⟩
          have r3 : (m : Int) + (oj : Int) = (m1 : Int) := by omega
          have r4 : IntKind.u64.wrap (m1 : Int) = (m1 : Int) := by simp [IntKind.wrap, IntKind.bits, IntKind.signed]; omega
          have r5 : (m1 : Int) + (c : Int) = (x : Int) := by omega
          have r6 : IntKind.u64.wrap (x : Int) = (x : Int) := by simp [IntKind.wrap, IntKind.bits, IntKind.signed]; omega
          obtain ⟨lo, hlo⟩ : ∃ lo, x % 4294967296 = lo := ⟨_, rfl⟩
          obtain ⟨hi2, hhi⟩ : ∃ hi2, x / 4294967296 = hi2 := ⟨_, rfl⟩
          have r7 : (x : Int).tmod 4294967296 = (lo : Int) := u64_tmod x 4294967296 _ hlo
          have r8 : IntKind.u64.wrap (lo : Int) = (lo : Int) := by simp [IntKind.wrap, IntKind.bits, IntKind.signed]; omega
          have r9 : (x : Int) / 4294967296 = (hi2 : Int) := by omega
          have r10 : (x : Int) % 4294967296 = (lo : Int) := by omega
          have hset := Sh.V_set o2 j lo (by rw [hT.fl]; exact hlk)
          rw [hoj, ← hj] at hset
          have hnew := Sh.in_step (Sh.V o) (Sh.V o2) (Sh.V (o2.set (i + k) lo)) oj c x ha b i k (by rw [← hha]; exact hinv) (by rw [hhb, hm]; exact hx.symm) (by rw [show (2 : Nat) ^ 32 = 4294967296 by decide, hlo]; exact hset)
          rw [show (2 : Nat) ^ 32 = 4294967296 by decide, hhi, hj] at hnew
          have HNEW := Lib.hid hnew
          have HT := Lib.hid hT
          have HLO : Hid (lo < 2 ^ 32) := Lib.hid (by omega)
          have HHI : Hid (hi2 < 2 ^ 32) := Lib.hid (by omega)
          have HA : ∀ w2, Calls Tryd.prog 68 #[.agg #[.int .u64 ((nw a 0 : Nat) : Int), .int .u64 ((nw a 1 : Nat) : Int), .int .u64 ((nw a 2 : Nat) : Int), .int .u64 ((nw a 3 : Nat) : Int)], .int .i64 (i : Int)] w2 (RetU ha w2) := fun w2 => by rw [← hha]; exact half_any a i hlt w2
          have HB : ∀ w2, Calls Tryd.prog 68 #[.agg #[.int .u64 ((nw b 0 : Nat) : Int), .int .u64 ((nw b 1 : Nat) : Int), .int .u64 ((nw b 2 : Nat) : Int), .int .u64 ((nw b 3 : Nat) : Int)], .int .i64 (k : Int)] w2 (RetU hb w2) := fun w2 => by rw [← hhb]; exact half_any b k hk8 w2
          have HHA := Lib.hid HA
          have HHAE := Lib.hid hha
          have HHB := Lib.hid HB
          have hs := hT.fs
          have HS0 := Lib.hid (And.intro (n4_cells hT.fa) (And.intro (n4_cells hT.fb) (And.intro c0 (show w.heap.size < wr.heap.size ∧ w.heap.size + 1 < wr.heap.size ∧ w.heap.size + 1 + 1 + 1 < wr.heap.size by omega))))
          clear hset hnew hT hinv hlo hhi hx hm hm1 hha hhb hal hbl hml hol hoj HA HB c0 f0 hs hc
          go_wp2_with fail
          go_region_held3 (fun w' => w'.cell? ⟨w.heap.size, 0, none⟩ = some (.int .u64 ((nw a 0 : Nat) : Int)) ∧ w'.cell? ⟨w.heap.size, 1, none⟩ = some (.int .u64 ((nw a 1 : Nat) : Int)) ∧ w'.cell? ⟨w.heap.size, 2, none⟩ = some (.int .u64 ((nw a 2 : Nat) : Int)) ∧ w'.cell? ⟨w.heap.size, 3, none⟩ = some (.int .u64 ((nw a 3 : Nat) : Int)) ∧ w'.cell? ⟨w.heap.size + 1, 0, none⟩ = some (.int .u64 ((nw b 0 : Nat) : Int)) ∧ w'.cell? ⟨w.heap.size + 1, 1, none⟩ = some (.int .u64 ((nw b 1 : Nat) : Int)) ∧ w'.cell? ⟨w.heap.size + 1, 2, none⟩ = some (.int .u64 ((nw b 2 : Nat) : Int)) ∧ w'.cell? ⟨w.heap.size + 1, 3, none⟩ = some (.int .u64 ((nw b 3 : Nat) : Int)) ∧ w'.cell? ⟨w.heap.size + 1 + 1 + 1, j, none⟩ = some (.int .u64 (oj : Int)) ∧ (w.heap.size < w'.heap.size ∧ w.heap.size + 1 < w'.heap.size ∧ w.heap.size + 1 + 1 + 1 < w'.heap.size) ∧ Below wr.heap.size wr w')
            (first | exact tiS (by assumption) (by assumption) | exact ⟨HS0.out.1.1, HS0.out.1.2.1, HS0.out.1.2.2.1, HS0.out.1.2.2.2, HS0.out.2.1.1, HS0.out.2.1.2.1, HS0.out.2.1.2.2.1, HS0.out.2.1.2.2.2, HS0.out.2.2.1, HS0.out.2.2.2, (Below.refl _ _).drew⟩)
            (first
              | (go_at_call 68; have hyy := HFIRST.out; refine (HHB.out _).mono ?_; rintro e w4 ⟨rfl, hb4⟩)
              | (go_at_call 68; refine (HHA.out _).mono ?_; rintro e w3 ⟨rfl, hb3⟩; have HFIRST := Lib.hid True.intro))
          have hbF : Below wr.heap.size wr w4 := tiSb (by assumption)
          have hT4 := HT.out.below hbF
          obtain ⟨c0, f0⟩ := hT4.fo.u j (by rw [hT4.fl]; exact hlk)
          rw [Nat.zero_add] at c0 f0
          have HT4 := Lib.hid hT4
          clear hb3 hb4 hyy HFIRST hbF hT4 HS0
          go_wp2_with fail
          go_roundw
          case rel => exact ⟨k + 1, hi2, o2.set j lo, by omega, rfl, by go_num, HHI.out, by rw [HHAE.out]; exact HNEW.out, HT4.out.put j lo HLO.out⟩
          case measure => simp [intOf]; omega
        · have hk8 : k = 8 - i := by omega
          have q3 : ¬ (j : Int) < 8 := by omega
          have hVl := Sh.V_lt o2 hT.fe
          rw [hT.fl] at hVl
          have hend := Sh.row_end (Sh.V o) (Sh.V o2) c (Sh.hw a i) a b i hi hVl (by rw [← hk8]; exact hinv) HI.out rfl
          have HEND := Lib.hid hend
          have HT := Lib.hid hT
          clear hend hVl hinv hT hc
          go_wp2_with fail
          go_roundw
          case rel => exact ⟨i + 1, o2, hlt, by go_num, HEND.out, HT.out⟩
          case measure => simp [intOf]; omega
    · have hi8 : i = 8 := by omega
      subst hi8
      have hVl := Sh.V_lt o hT.fe
      rw [hT.fl] at hVl
      have hVe : Sh.V o = a * b % 2 ^ 256 := by
        rw [hV, show 32 * 8 = 256 from rfl, mod_mul3]
      have HVE := Lib.hid hVe
      have HT := Lib.hid hT
      clear hV hVe hT
      go_wp2_with fail
      obtain ⟨B, hB⟩ : ∃ B, wr.heap.size = B := ⟨_, rfl⟩
      obtain ⟨w1, hw1, hA1, hb1, hs1⟩ : ∃ w1, wr.alloc (Obj.cells z4 89) = w1 ∧ At w1 B 0 (ucells (n4p (Sh.V o) 0)) ∧ Below wr.heap.size wr w1 ∧ B < w1.heap.size := by
        refine ⟨_, rfl, ?_, (Below.refl _ _).alloc (Nat.le_refl _) _, by rw [← hB]; simp⟩
        rw [n4p_zero, ← hB]
        exact At.ofAlloc wr z4 89
      rw [hw1, hB]
      have hT1 := HT.out.below hb1
      have hTB : w.heap.size + 4 ≤ B := by rw [← hB]; exact HT.out.fs
      clear hw1 hb1 HT hB
      go_loopw [11] (fun iv wr => ∃ k : Nat, k ≤ 4 ∧ iv = .int .i64 (k : Int) ∧ At wr B 0 (ucells (n4p (Sh.V o) k)) ∧ Ti w wr a b o ∧ B < wr.heap.size) (fun iv _ => 4 - (intOf iv).toNat)
      case atStart => exact ⟨0, by omega, rfl, hA1, hT1, hs1⟩
      case round =>
        clear hA1 hT1 hs1
        obtain ⟨k, hk, rfl, hA, hT, hsB⟩ := hrel
        by_cases hk4 : k < 4
        · obtain ⟨m2, hm2⟩ : ∃ m, m = 2 * k := ⟨_, rfl⟩
          obtain ⟨m3, hm3⟩ : ∃ m, m = m2 + 1 := ⟨_, rfl⟩
          have q0 : (k : Int) < 4 := by omega
          have q1 : 2 * (k : Int) = (m2 : Int) := by omega
          have q2 : IntKind.i64.wrap (m2 : Int) = (m2 : Int) := by simp only [IntKind.wrap, IntKind.bits, IntKind.signed]; simp; omega
          have q3 : (m2 : Int) + 1 = (m3 : Int) := by omega
          have q4 : IntKind.i64.wrap (m3 : Int) = (m3 : Int) := by simp only [IntKind.wrap, IntKind.bits, IntKind.signed]; simp; omega
          have q5 : (m2 : Int) < 8 := by omega
          have q6 : (m3 : Int) < 8 := by omega
          have q7 : (0 : Int) ≤ (m2 : Int) := by omega
          have q8 : (0 : Int) ≤ (m3 : Int) := by omega
          have q9 : (0 : Int) ≤ (k : Int) := by omega
          have hn := nwV o hT.fl hT.fe k hk4
          rw [← hm2, ← hm3] at hn
          obtain ⟨c2, f2⟩ := hT.fo.u m2 (by rw [hT.fl]; omega)
          obtain ⟨c3, f3⟩ := hT.fo.u m3 (by rw [hT.fl]; omega)
          obtain ⟨ck, fk⟩ := hA.u k (by rw [n4p_length]; exact hk4)
          rw [Nat.zero_add] at c2 f2 c3 f3 ck fk
          obtain ⟨x2, hx2⟩ : ∃ x, o.getD m2 0 = x := ⟨_, rfl⟩
          obtain ⟨x3, hx3⟩ : ∃ x, o.getD m3 0 = x := ⟨_, rfl⟩
          obtain ⟨xk, hxk⟩ : ∃ x, (n4p (Sh.V o) k).getD k 0 = x := ⟨_, rfl⟩
          rw [hx2] at c2 hn
          rw [hx3] at c3 hn
          rw [hxk] at ck
          obtain ⟨y, hy⟩ : ∃ y, nw (Sh.V o) k = y := ⟨_, rfl⟩
          have hyl : y < 2 ^ 64 := by rw [← hy]; exact nw_lt _ _
          rw [hy] at hn
          obtain ⟨s3, hs3⟩ : ∃ s, x3 * 4294967296 = s := ⟨_, rfl⟩
          rw [hs3] at hn
          have r1 : (x3 : Int) * 4294967296 = (s3 : Int) := by omega
          have r2 : IntKind.u64.wrap (s3 : Int) = (s3 : Int) := by simp [IntKind.wrap, IntKind.bits, IntKind.signed]; omega
          have r3 : (x2 : Int) + (s3 : Int) = (y : Int) := by omega
          have r4 : IntKind.u64.wrap (y : Int) = (y : Int) := by simp [IntKind.wrap, IntKind.bits, IntKind.signed]; omega
          have hA2 := hA.uset k y
          rw [Nat.zero_add, ← hy, n4p_set, hy] at hA2
          have hT2 : Ti w (wr.setCell ⟨B, k, none⟩ (.int .u64 (y : Int))) a b o := ⟨hT.fa.other _ _ _ (.inl (by omega)), hT.fb.other _ _ _ (.inl (by omega)), hT.fr.other _ _ _ (.inl (by omega)), hT.fo.other _ _ _ (.inl (by omega)), hT.fl, hT.fe, hT.fw.setCell (p := ⟨B, k, none⟩) (by show w.heap.size ≤ B; omega) _, by simpa using hT.fs⟩
          have HA2 := Lib.hid hA2
          have HT2 := Lib.hid hT2
          clear hn hA hT hx2 hx3 hxk hy hyl hs3 hA2 hT2 hm2 hm3 f2 f3
          go_wp2_with fail
          go_region
          go_wp2_with fail
          go_roundw
          case rel => exact ⟨k + 1, hk4, by go_num, HA2.out.drew, HT2.out.drew, by simpa using hsB⟩
          case measure => simp [intOf]; omega
        · have hk4 : k = 4 := by omega
          subst hk4
          rw [n4p_four] at hA
          obtain ⟨c0, c1, c2, c3⟩ := n4_cells hA
          obtain ⟨d0, d1, d2, d3⟩ := n4_cells hT.fr
          have g0 := hT.fr.froz 0 (by simp [n4])
          have g1 := hT.fr.froz 1 (by simp [n4])
          have g2 := hT.fr.froz 2 (by simp [n4])
          have g3 := hT.fr.froz 3 (by simp [n4])
          rw [Nat.zero_add] at g0 g1 g2 g3
          have hR := (((hT.fr.set 0 (.int .u64 ((nw (Sh.V o) 0 : Nat) : Int))).set 1 (.int .u64 ((nw (Sh.V o) 1 : Nat) : Int))).set 2 (.int .u64 ((nw (Sh.V o) 2 : Nat) : Int))).set 3 (.int .u64 ((nw (Sh.V o) 3 : Nat) : Int))
          rw [Nat.zero_add, Nat.zero_add, Nat.zero_add, Nat.zero_add] at hR
          have hW := (((hT.fw.setCell (p := ⟨w.heap.size + 1 + 1, 0, none⟩) (by show w.heap.size ≤ w.heap.size + 1 + 1; omega) (.int .u64 ((nw (Sh.V o) 0 : Nat) : Int))).setCell (p := ⟨w.heap.size + 1 + 1, 1, none⟩) (by show w.heap.size ≤ w.heap.size + 1 + 1; omega) (.int .u64 ((nw (Sh.V o) 1 : Nat) : Int))).setCell (p := ⟨w.heap.size + 1 + 1, 2, none⟩) (by show w.heap.size ≤ w.heap.size + 1 + 1; omega) (.int .u64 ((nw (Sh.V o) 2 : Nat) : Int))).setCell (p := ⟨w.heap.size + 1 + 1, 3, none⟩) (by show w.heap.size ≤ w.heap.size + 1 + 1; omega) (.int .u64 ((nw (Sh.V o) 3 : Nat) : Int))
          have HR := Lib.hid hR
          have HW := Lib.hid hW
          clear hR hW hA hT
          go_wp2_with fail
          refine bodyPost_ret (results_at rfl _ (w.heap.size + 1 + 1) _ _ rfl HR.out Tryd.underlying89 rfl rfl) rfl ?_
          exact ⟨by rw [← HVE.out]; rfl, HW.out⟩
end Go.Proofs.YthofcjjllmnjbaaDoor
