/- The document's rule in memory; what changes one block alone; plain words on padding and blocks. -/
import Derived.Test.YtjlmmlnldjandaaGreatDoorShF2
import Derived.Test.YtjlmmlnldjandaaGreatDoorShF3
import Derived.Test.YtjlmmlnldjandaaGreatDoorShF5
namespace Go.Proofs.YtjlmmlnldjandaaGreatDoor
open Go.RowKit
set_option linter.unusedVariables false
set_option linter.unusedSimpArgs false
/-- only block g may have changed, and there may be new blocks -/
structure Chg (g : Nat) (w w' : World) : Prop where
  os : w'.os = w.os
  tape : w'.tape = w.tape
  output : w'.output = w.output
  size : w.heap.size ≤ w'.heap.size
  block : ∀ k, k < w.heap.size → k ≠ g → w'.heap[k]? = w.heap[k]?
theorem Chg.refl (g : Nat) (w : World) : Chg g w w := ⟨rfl, rfl, rfl, Nat.le_refl _, fun _ _ _ => rfl⟩
theorem Chg.trans {g : Nat} {a b c : World} (h : Chg g a b) (k : Chg g b c) : Chg g a c :=
  ⟨k.os.trans h.os, k.tape.trans h.tape, k.output.trans h.output, Nat.le_trans h.size k.size, fun i hi hg => (k.block i (Nat.lt_of_lt_of_le hi h.size) hg).trans (h.block i hi hg)⟩
theorem Chg.drew {g : Nat} {a b : World} (h : Chg g a b) : Chg g a b.drew := ⟨h.os, h.tape, h.output, h.size, h.block⟩
theorem Chg.drewN {g : Nat} {a b : World} (h : Chg g a b) (n : Nat) : Chg g a (b.drewN n) := ⟨h.os, h.tape, h.output, h.size, h.block⟩
theorem Chg.ofBelow {g : Nat} {a b : World} (h : Below a.heap.size a b) : Chg g a b := ⟨h.os, h.tape, h.output, h.size, fun k hk _ => h.block k hk⟩
theorem Chg.below {g : Nat} {a b c : World} (h : Chg g a b) (k : Below b.heap.size b c) : Chg g a c := h.trans (Chg.ofBelow k)
theorem Chg.setCell {g : Nat} {a b : World} (h : Chg g a b) (o : Nat) (v : Value) : Chg g a (b.setCell ⟨g, o, none⟩ v) :=
  h.trans ⟨rfl, rfl, rfl, by simp [World.setCell], fun k _ hk => Below.heap_setCell _ _ _ _ hk⟩
/-- a block that was not there yet -/
theorem Chg.setNew {g B : Nat} {a b : World} (h : Chg g a b) (o : Nat) (v : Value) (hB : a.heap.size ≤ B) : Chg g a (b.setCell ⟨B, o, none⟩ v) :=
  ⟨h.os, h.tape, h.output, by simpa using h.size, fun k hk hg => (Below.heap_setCell _ _ _ _ (by show k ≠ B; omega)).trans (h.block k hk hg)⟩
theorem Chg.ofSets (g : Nat) : ∀ (vs : List Value) (o : Nat) (w : World), Chg g w (w.setCells g o vs)
  | [], _, w => Chg.refl g w
  | v :: vs, o, w => by
    rw [World.setCells]
    exact ((Chg.refl g w).setCell o v).trans (Chg.ofSets g vs (o + 1) _)
theorem Chg.toBelow {g B : Nat} {a b : World} (h : Chg g a b) (hB : B ≤ g) (hs : B ≤ a.heap.size) : Below B a b := ⟨h.os, h.tape, h.output, h.size, fun k hk => h.block k (by omega) (by omega)⟩
theorem At.chg {w w' : World} {g h o : Nat} {cs : List Value} (ha : At w h o cs) (ht : Chg g w w') (hne : h ≠ g) : At w' h o cs := fun j v hv => by
  have hl := ha.lt (by rintro rfl; simp at hv)
  obtain ⟨h1, h2⟩ := ha j v hv
  have hb := ht.block h hl hne
  exact ⟨(World.cell?_of_block (w := w) hb).trans h1, (World.frozen?_of_block (w := w) hb).trans h2⟩
/-- a rule that was made -/
structure Ru (w : World) (r : Nat) (kind : Int) (b : Nat) : Prop where
  kb : kb kind b
  hd : At w r 0 [.int .i64 kind, .int .i64 (kind / 8), .int .i64 ((2 * b : Nat) : Int), .int .i64 ((Sh.rounds b : Nat) : Int)]
  kv : ∃ gk cap, At w r 4 [.slice (some ⟨gk, 0, none⟩) (Sh.rounds b) cap] ∧ At w gk 0 (ucells (Sh.kL b))
  bg : At w r 5 (ucells (Sh.hL kind))
  tu : At w r 13 (ucells (Sh.T b))
theorem Ru.lt {w : World} {r b : Nat} {kind : Int} (h : Ru w r kind b) : r < w.heap.size := h.hd.lt (by simp)
theorem kL_length (b : Nat) (hb : b = 32 ∨ b = 64) : (Sh.kL b).length = Sh.rounds b := by
  rcases hb with rfl | rfl <;> decide
theorem kb_or {kind : Int} {b : Nat} (h : kb kind b) : b = 32 ∨ b = 64 := by
  rcases h with ⟨_, h⟩ | ⟨_, h⟩
  · exact .inl h
  · exact .inr h
theorem Ru.below {w w' : World} {r b B : Nat} {kind : Int} (h : Ru w r kind b) (hb : Below B w w') (hB : w.heap.size ≤ B) : Ru w' r kind b := by
  obtain ⟨gk, cap, k1, k2⟩ := h.kv
  have hr := h.lt
  have hg : gk < w.heap.size := k2.lt (by
    intro e
    have := congrArg List.length e
    rw [ucells_length, kL_length b (kb_or h.kb)] at this
    rcases kb_or h.kb with rfl | rfl <;> simp [Sh.rounds] at this)
  exact ⟨h.kb, h.hd.below hb (by omega), ⟨gk, cap, k1.below hb (by omega), k2.below hb (by omega)⟩, h.bg.below hb (by omega), h.tu.below hb (by omega)⟩
theorem Ru.drew {w : World} {r b : Nat} {kind : Int} (h : Ru w r kind b) : Ru w.drew r kind b := ⟨h.kb, h.hd.drew, h.kv, h.bg.drew, h.tu.drew⟩
theorem Ru.drewN {w : World} {r b : Nat} {kind : Int} (h : Ru w r kind b) (n : Nat) : Ru (w.drewN n) r kind b := ⟨h.kb, h.hd.drewN n, h.kv, h.bg.drewN n, h.tu.drewN n⟩
theorem kp64 : kpL 64 Sh.primes = Sh.kL 64 := by
  rw [kpL, Sh.kL, ← Sh.roots3, ← List.map_take, List.map_map]
  rfl
theorem kp32 : kpL 32 Sh.primes = Sh.kL 32 := by
  rw [kpL, Sh.kL, ← Sh.roots3, ← List.map_take, List.map_map]
  rfl
theorem bg512 : bgL 64 0 Sh.primes = Sh.hL 512 := by decide +kernel
theorem bg384 : bgL 64 8 Sh.primes = Sh.hL 384 := by decide +kernel
theorem bg256 : bgL 32 0 Sh.primes = Sh.hL 256 := by decide +kernel
theorem Mk.ru {w w' : World} {kind : Int} {b s : Nat} {v : Value} (hk : kb kind b) (h : Mk w w' kind b v (kpL b Sh.primes) (bgL b s Sh.primes)) (h1 : kpL b Sh.primes = Sh.kL b) (h2 : bgL b s Sh.primes = Sh.hL kind) : Ru w' w.heap.size kind b := by
  have hl := kL_length b (kb_or hk)
  have hp : 0 < Sh.rounds b := by rcases kb_or hk with rfl | rfl <;> decide
  rw [h1, h2] at h
  have ho := h.own
  rw [hl] at ho
  obtain ⟨g, cap, rfl⟩ := own_isU ho hp
  exact ⟨hk, h.hd, ⟨g, cap, h.kv, At.ofOwnN ho⟩, h.bg, h.tu⟩
def RetRu (kind : Int) (b : Nat) (w : World) (e : Ending) (w' : World) : Prop := e = .returned (.pointer (some ⟨w.heap.size, 0, none⟩)) ∧ Ru w' w.heap.size kind b ∧ Below w.heap.size w w'
theorem make_any (kind : Int) (w : World) (hk : Sh.known kind = true) : Calls Tryz.prog 57 #[.int .i64 kind] w (RetRu kind (Sh.bits kind) w) := by
  have h : kind = 256 ∨ kind = 384 ∨ kind = 512 := by
    simp only [Sh.known, Bool.or_eq_true, beq_iff_eq] at hk
    omega
  rcases h with rfl | rfl | rfl
  · exact (make256 w).mono fun e w' ⟨v, he, hm⟩ => ⟨he, hm.ru (.inl ⟨rfl, rfl⟩) kp32 bg256, hm.bel⟩
  · exact (make384 w).mono fun e w' ⟨v, he, hm⟩ => ⟨he, hm.ru (.inr ⟨by decide, rfl⟩) kp64 bg384, hm.bel⟩
  · exact (make512 w).mono fun e w' ⟨v, he, hm⟩ => ⟨he, hm.ru (.inr ⟨by decide, rfl⟩) kp64 bg512, hm.bel⟩
/-! ### plain -/
theorem hs_app (b : Nat) (K H : List Nat) (D E : List UInt8) : ∀ n, 2 * b * n ≤ D.length → Sh.hs b K H (D ++ E) n = Sh.hs b K H D n
  | 0, _ => rfl
  | n + 1, h => by
    have e : 2 * b * (n + 1) = 2 * b * n + 2 * b := by rw [Nat.mul_add, Nat.mul_one]
    rw [Sh.hs, Sh.hs, hs_app b K H D E n (by omega), List.drop_append_of_le_length (by omega), List.take_append_of_le_length (by rw [List.length_drop]; omega)]
theorem kb_lt {kind : Int} {b : Nat} (h : kb kind b) : b ≤ 64 ∧ 32 ≤ b := by
  rcases h with ⟨_, rfl⟩ | ⟨_, rfl⟩ <;> omega
theorem pow_le64 {b : Nat} (h : b ≤ 64) : 2 ^ b ≤ 2 ^ 64 := Nat.pow_le_pow_right (by decide) h
theorem sched_length (b : Nat) (M : List Nat) : ∀ n, (Sh.sched b M n).length = M.length + n
  | 0 => rfl
  | n + 1 => by rw [Sh.sched, List.length_append, sched_length b M n]; rfl
theorem sched_lt (b : Nat) (M : List Nat) (h : ∀ x ∈ M, x < 2 ^ b) : ∀ n, ∀ x ∈ Sh.sched b M n, x < 2 ^ b
  | 0 => h
  | n + 1 => by
    intro x hx
    rw [Sh.sched, List.mem_append] at hx
    rcases hx with hx | hx
    · exact sched_lt b M h n x hx
    · rw [List.mem_singleton] at hx
      rw [hx]
      exact Nat.mod_lt _ (Nat.two_pow_pos b)
theorem g_lt {L : List Nat} {B : Nat} (h : ∀ x ∈ L, x < B) (hB : 0 < B) (i : Nat) : Sh.g L i < B := by
  rw [Sh.g, List.getD]
  cases e : L[i]? with
  | none => exact hB
  | some x => exact h x (List.mem_of_getElem? e)
theorem rnd_lt (b k x : Nat) (v : List Nat) (h : ∀ x ∈ v, x < 2 ^ b) : ∀ y ∈ Sh.rnd b k x v, y < 2 ^ b := by
  have hB := Nat.two_pow_pos b
  intro y hy
  simp only [Sh.rnd, List.mem_cons, List.not_mem_nil, or_false] at hy
  rcases hy with rfl | rfl | rfl | rfl | rfl | rfl | rfl | rfl <;> first | exact Nat.mod_lt _ hB | exact g_lt h hB _
theorem rnds_ok (b : Nat) (K W v : List Nat) (hl : v.length = 8) (h : ∀ x ∈ v, x < 2 ^ b) : ∀ n, (Sh.rnds b K W v n).length = 8 ∧ ∀ x ∈ Sh.rnds b K W v n, x < 2 ^ b
  | 0 => ⟨hl, h⟩
  | n + 1 => ⟨rfl, rnd_lt b _ _ _ (rnds_ok b K W v hl h n).2⟩
theorem comp_ok (b : Nat) (K H M : List Nat) (hl : H.length = 8) (h : ∀ x ∈ H, x < 2 ^ b) : (Sh.comp b K H M).length = 8 ∧ ∀ x ∈ Sh.comp b K H M, x < 2 ^ b := by
  constructor
  · rw [Sh.comp, Sh.addw, List.length_zipWith, hl, (rnds_ok b K _ H hl h _).1]
    rfl
  · intro x hx
    rw [Sh.comp, Sh.addw] at hx
    obtain ⟨i, hi, rfl⟩ := List.getElem_of_mem hx
    rw [List.getElem_zipWith]
    exact Nat.mod_lt _ (Nat.two_pow_pos b)
theorem hs_ok (b : Nat) (K H : List Nat) (D : List UInt8) (hl : H.length = 8) (h : ∀ x ∈ H, x < 2 ^ b) : ∀ n, (Sh.hs b K H D n).length = 8 ∧ ∀ x ∈ Sh.hs b K H D n, x < 2 ^ b
  | 0 => ⟨hl, h⟩
  | n + 1 => comp_ok b K _ _ (hs_ok b K H D hl h n).1 (hs_ok b K H D hl h n).2
theorem wordsOf_length (b : Nat) (B : List UInt8) : (Sh.wordsOf b B).length = 16 := by simp [Sh.wordsOf]
theorem wordsOf_lt (b : Nat) (hb : b = 32 ∨ b = 64) (B : List UInt8) : ∀ x ∈ Sh.wordsOf b B, x < 2 ^ b := by
  intro x hx
  rw [Sh.wordsOf, List.mem_map] at hx
  obtain ⟨i, _, rfl⟩ := hx
  have h1 := ofBe_lt ((B.drop (b / 8 * i)).take (b / 8))
  have h2 : ((B.drop (b / 8 * i)).take (b / 8)).length ≤ b / 8 := List.length_take_le _ _
  have h3 : 256 ^ ((B.drop (b / 8 * i)).take (b / 8)).length ≤ 256 ^ (b / 8) := Nat.pow_le_pow_right (by decide) h2
  have h4 : 256 ^ (b / 8) = 2 ^ b := by rcases hb with rfl | rfl <;> decide
  omega
theorem hL_ok (kind : Int) : (Sh.hL kind).length = 8 ∧ ∀ x ∈ Sh.hL kind, x < 2 ^ Sh.bits kind := by
  have h384 : (Sh.startL.drop 8).length = 8 ∧ ∀ x ∈ Sh.startL.drop 8, x < 2 ^ 64 := by decide
  have h256 : ((Sh.startL.take 8).map (Sh.cut 32)).length = 8 ∧ ∀ x ∈ (Sh.startL.take 8).map (Sh.cut 32), x < 2 ^ 32 := by decide
  have h512 : ((Sh.startL.take 8).map (Sh.cut 64)).length = 8 ∧ ∀ x ∈ (Sh.startL.take 8).map (Sh.cut 64), x < 2 ^ 64 := by decide
  unfold Sh.hL Sh.bits
  by_cases h : kind = 384
  · subst h
    exact h384
  · rw [if_neg h]
    by_cases h2 : kind = 256
    · subst h2
      exact h256
    · rw [if_neg h2]
      exact h512
theorem u64_add (a b c : Nat) (h : (a + b) % 2 ^ 64 = c) : IntKind.u64.wrap ((a : Int) + (b : Int)) = (c : Int) := by
  rw [← h]
  simp [IntKind.wrap, IntKind.bits, IntKind.signed]
theorem sh_and (x y : Nat) (hx : x < 18446744073709551616) (hy : y < 18446744073709551616) : bits .and .u64 (x : Int) (y : Int) = ((x &&& y : Nat) : Int) := by
  show IntKind.u64.wrap ((BitVec.ofInt 64 (x : Int) &&& BitVec.ofInt 64 (y : Int)).toNat : Nat) = _
  rw [BitVec.toNat_and, sh_toNat x hx, sh_toNat y hy]
  have : x &&& y < 2 ^ 64 := Nat.and_lt_two_pow x hy
  simp [IntKind.wrap, IntKind.bits, IntKind.signed]
  omega
/-- what is no bit of e, within a word -/
theorem not_and (b e h : Nat) (hb : b ≤ 64) (he : e < 2 ^ b) (hh : h < 2 ^ b) : (2 ^ 64 - 1 - e) &&& h = (2 ^ b - 1 - e) &&& h := by
  have h64 := pow_le64 hb
  refine Nat.eq_of_testBit_eq fun i => ?_
  rw [Nat.testBit_and, Nat.testBit_and, show 2 ^ 64 - 1 - e = 2 ^ 64 - (e + 1) by omega, show 2 ^ b - 1 - e = 2 ^ b - (e + 1) by omega, Nat.testBit_two_pow_sub_succ (by omega), Nat.testBit_two_pow_sub_succ he]
  by_cases hi : i < b
  · simp [hi, show i < 64 by omega]
  · rw [Nat.testBit_lt_two_pow (Nat.lt_of_lt_of_le hh (Nat.pow_le_pow_right (by decide) (by omega)))]
    simp
end Go.Proofs.YtjlmmlnldjandaaGreatDoor
