/- Words of the seat's own: bytes as cells, what a call hands back, plain lemmas on bytes. -/
import Derived.Test.YthofcjjllmnjbaaDoorRows
import Derived.WalkKit
import Derived.WalkSpells
import Derived.WalkLawsBesides
import Derived.Deep.QuietTactic
import Derived.BigQuiet
import Derived.Outline
import Derived.Lib.Hide
import Derived.Lib.Strings
import Derived.Deep.AppendLies
import Derived.Deep.RegionLaw
import Derived.Deep.RegionHeld3
import Derived.Laws.IdiomStrings
import Derived.Laws.BitsAllLaws
namespace Go.Proofs.YthofcjjllmnjbaaDoor
open Go.RowKit
set_option linter.unusedVariables false
set_option linter.unusedSimpArgs false

/-! ### bytes as cells -/
def bcells (l : List UInt8) : List Value := l.map fun b => Value.int .u8 (b.toNat : Int)
theorem bcells_length (l : List UInt8) : (bcells l).length = l.length := by simp [bcells]
theorem bcells_append (l m : List UInt8) : bcells (l ++ m) = bcells l ++ bcells m := by simp [bcells]
theorem bcells_get (l : List UInt8) (j : Nat) (hj : j < l.length) : (bcells l)[j]? = some (.int .u8 (l[j].toNat : Int)) := by simp [bcells, hj]
theorem bcells_set (l : List UInt8) (j : Nat) (u : UInt8) : (bcells l).set j (.int .u8 (u.toNat : Int)) = bcells (l.set j u) := by
  simp [bcells, List.map_set]
theorem bcells_one (l : List UInt8) : ∀ u ∈ bcells l, u.oneCell' = true := by
  intro u hu
  simp only [bcells, List.mem_map] at hu
  obtain ⟨b, _, rfl⟩ := hu
  rfl
theorem bcells_made (n : Nat) : (madeCells (Value.int .u8 0).cells (n * 1)).toList = bcells (List.replicate n 0) := by
  rw [show (Value.int .u8 0).cells = #[Value.int .u8 0] from rfl, toList_madeCells_one]
  simp [bcells]

/-! ### bits of bytes -/
theorem u8x (x y : UInt8) : bits .xor .u8 (x.toNat : Int) (y.toNat : Int) = ((x ^^^ y).toNat : Int) := by
  rw [u8_xor_nat _ _ x.toNat_lt y.toNat_lt, UInt8.toNat_xor]
theorem u8o (x y : UInt8) : bits .or .u8 (x.toNat : Int) (y.toNat : Int) = ((x ||| y).toNat : Int) := by
  rw [u8_or_nat _ _ x.toNat_lt y.toNat_lt, UInt8.toNat_or]
theorem u8a (x y : UInt8) : bits .and .u8 (x.toNat : Int) (y.toNat : Int) = ((x &&& y).toNat : Int) := by
  rw [u8_and_nat _ _ x.toNat_lt y.toNat_lt, UInt8.toNat_and]

/-! ### strings -/
theorem tl_size (s : ByteArray) : s.toList.length = s.size := by rw [Lib.toList_data, ← Lib.size_eq]
theorem tl_get (s : ByteArray) (k : Nat) (h : k < s.size) : s.toList[k]? = some s[k] := by
  rw [Lib.toList_data]
  obtain ⟨⟨l⟩⟩ := s
  simp only [ByteArray.size, List.size_toArray] at h
  simp [h]
  rfl
theorem tl_mk (l : List UInt8) : (⟨l.toArray⟩ : ByteArray).toList = l := by rw [Lib.toList_data]
theorem tl_inj {a b : ByteArray} (h : a.toList = b.toList) : a = b := by
  rw [Lib.toList_data, Lib.toList_data] at h
  rw [← Lib.mk_data a, ← Lib.mk_data b, h]
theorem size_mk (l : List UInt8) : (⟨l.toArray⟩ : ByteArray).size = l.length := by rw [← tl_size, tl_mk]

/-! ### what a call hands back -/
/-- A text of the bytes l; what was there is as it was. -/
def RetS (l : List UInt8) (w : World) (e : Ending) (w' : World) : Prop := ∃ s : ByteArray, e = .returned (.string s) ∧ s.toList = l ∧ Below w.heap.size w w'

/-- 'string(out)' of a row of the call's own. -/
theorem run_convert_own {P : Program} {w : World} {base e n : Nat} {v : Value} {l : List UInt8} (hown : w.ownsRow base e 1 v n (bcells l)) (src dst : TypeId)
    (hs : P.underlying src = some (.slice e)) (he : P.underlying e = some (.int .u8)) (hd : P.underlying dst = some .string) : (convert src dst v).run P w = .ok (.string ⟨l.toArray⟩) w := by
  have hl : l.length = n := by have := hown.1; rw [bcells_length] at this; simpa using this
  rcases hown.2 with ⟨rfl, rfl⟩ | ⟨g, cap, cur, rfl, hb, hg, hn, hc, hcs, htake⟩
  · have : l = [] := List.eq_nil_of_length_eq_zero hl
    subst this
    exact run_convert_bytes_nil w src e hs he 0 0 dst hd
  · subst hl
    refine run_convert_bytes_back w src dst e ⟨g, 0, none⟩ cap l hs he hd fun j hj => ?_
    have := hown.cells (g := g) rfl j _ (bcells_get l j hj)
    exact this

/-! ### rows that are filled place by place -/
def fillp (f : Nat → UInt8) (n : Nat) (p : Nat → Bool) : List UInt8 := (List.range n).map fun i => if p i then f i else 0
theorem fillp_length (f : Nat → UInt8) (n : Nat) (p : Nat → Bool) : (fillp f n p).length = n := by simp [fillp]
theorem fillp_none (f : Nat → UInt8) (n : Nat) (p : Nat → Bool) (h : ∀ i, i < n → p i = false) : fillp f n p = List.replicate n 0 := by
  apply List.ext_getElem
  · simp [fillp]
  · intro i h1 h2
    have : i < n := by simpa [fillp] using h1
    simp [fillp, h i this]
theorem fillp_set (f : Nat → UInt8) (n : Nat) (p q : Nat → Bool) (j : Nat) (h : ∀ i, i < n → q i = (p i || i == j)) : (fillp f n p).set j (f j) = fillp f n q := by
  apply List.ext_getElem
  · simp [fillp]
  · intro i h1 h2
    have hi : i < n := by simpa [fillp] using h2
    have hq := h i hi
    rw [List.getElem_set]
    by_cases e : j = i
    · subst e
      simp [fillp, hq]
    · have e' : ¬ i = j := fun x => e x.symm
      rw [if_neg e]
      simp [fillp, hq, e']
theorem fillp_all (f : Nat → UInt8) (n : Nat) (p : Nat → Bool) (h : ∀ i, i < n → p i = true) : fillp f n p = (List.range n).map f := by
  apply List.ext_getElem
  · simp [fillp]
  · intro i h1 h2
    have : i < n := by simpa [fillp] using h1
    simp [fillp, h i this]

/-! ### append of one byte -/
theorem own_drewN {w : World} {base e size n : Nat} {v : Value} {xs : List Value} (h : w.ownsRow base e size v n xs) (k : Nat) : (w.drewN k).ownsRow base e size v n xs := h
section
variable {P : Program} {w : World}
theorem step_append_u8 {ops : Array Oper} {o : Oper} {a : Act} {K : Act → World → Prop} {Q : Exit → Act → World → Prop} {E : Prop} (hgd : o.guard = none) (s x : Operand) (t : TypeId)
    (ho : o.op = .call { callee := .builtin .append, args := #[s, x], argTypes := #[t, t] })
    (base : Nat) (e : TypeId) (i : TypeInfo) (ht : P.underlying t = some (.slice e)) (hi : P.info? e = some i) (hz : i.zero = some (.int .u8 0)) (hsize : i.size = 1) (hby : i.bytes = 1)
    (v : Value) (n : Nat) (l : List UInt8) (hs : a.eval s = v) (hown : w.ownsRow base e 1 v n (bcells l))
    (g m c : Nat) (us : List UInt8) (hx : a.eval x = .slice (some ⟨g, 0, none⟩) m c) (hl : us.length = m) (hcell : ∀ j u, (bcells us)[j]? = some u → w.cell? ((⟨g, 0, none⟩ : Addr).add j) = some u)
    (hn : n + m ≤ 140737488355328) (hbase : base ≤ w.heap.size)
    (h : ∀ v' w', w'.ownsRow base e 1 v' (n + m) (bcells (l ++ us)) → w.grownBy w' v.ownBlock → K (a.put o.dst v') w') :
    if Region.wanted o (yielded ops a.tmps) = true then Oper.wp P o a w K Q else E := by
  have hw : Region.wanted o (yielded ops a.tmps) = true := by simp [Region.wanted, hgd]
  rw [if_pos hw]
  refine wp_append_own w s x t ho base e i (.int .u8 0) 1 1 ht hi hz hsize hby rfl (by decide) v n (bcells l) hs hown ⟨g, 0, none⟩ m c (bcells us) hx (by rw [bcells_length, hl]; simp) hcell (bcells_one us) (by unfold maxLen; omega) (by omega) hbase ?_
  intro v' w' h1 h2 _
  rw [← bcells_append] at h1
  exact h v' w' h1 h2
theorem wpList_append_u8 {ops : Array Oper} {rest : List Oper} {o : Oper} {a : Act} {Q : Exit → Act → World → Prop} (hgd : o.guard = none) (s x : Operand) (t : TypeId)
    (ho : o.op = .call { callee := .builtin .append, args := #[s, x], argTypes := #[t, t] })
    (base : Nat) (e : TypeId) (i : TypeInfo) (ht : P.underlying t = some (.slice e)) (hi : P.info? e = some i) (hz : i.zero = some (.int .u8 0)) (hsize : i.size = 1) (hby : i.bytes = 1)
    (v : Value) (n : Nat) (l : List UInt8) (hs : a.eval s = v) (hown : w.ownsRow base e 1 v n (bcells l))
    (g m c : Nat) (us : List UInt8) (hx : a.eval x = .slice (some ⟨g, 0, none⟩) m c) (hl : us.length = m) (hcell : ∀ j u, (bcells us)[j]? = some u → w.cell? ((⟨g, 0, none⟩ : Addr).add j) = some u)
    (hn : n + m ≤ 140737488355328) (hbase : base ≤ w.heap.size)
    (h : ∀ v' w', w'.ownsRow base e 1 v' (n + m) (bcells (l ++ us)) → w.grownBy w' v.ownBlock → wpList P ops Q rest (a.put o.dst v') w') : wpList P ops Q (o :: rest) a w := by
  refine wpList_append_own w hgd s x t ho base e i (.int .u8 0) 1 1 ht hi hz hsize hby rfl (by decide) v n (bcells l) hs hown ⟨g, 0, none⟩ m c (bcells us) hx (by rw [bcells_length, hl]; simp) hcell (bcells_one us) (by unfold maxLen; omega) (by omega) hbase ?_
  intro v' w' h1 h2 _
  rw [← bcells_append] at h1
  exact h v' w' h1 h2
end
/-- Behind such an append: 'Below' goes on. -/
theorem below_own {B : Nat} {a w w' : World} {e n : Nat} {v : Value} {xs : List Value} (hb : Below B a w) (hg : w.grownBy w' v.ownBlock) (hB : B ≤ w.heap.size) (hown : w.ownsRow B e 1 v n xs) : Below B a w' :=
  hb.grown hg hB fun k hk => (hown.lt k hk).1
theorem cells_one {w : World} {g : Nat} {u : UInt8} (h : w.cell? ⟨g, 0, none⟩ = some (.int .u8 (u.toNat : Int))) : ∀ j x, (bcells [u])[j]? = some x → w.cell? ((⟨g, 0, none⟩ : Addr).add j) = some x := by
  intro j x hx
  match j, hx with
  | 0, hx => simp [bcells] at hx; subst hx; exact h
theorem cells_two {w : World} {g : Nat} {u v : UInt8} (h : w.cell? ⟨g, 0, none⟩ = some (.int .u8 (u.toNat : Int))) (h2 : w.cell? ⟨g, 1, none⟩ = some (.int .u8 (v.toNat : Int))) : ∀ j x, (bcells [u, v])[j]? = some x → w.cell? ((⟨g, 0, none⟩ : Addr).add j) = some x := by
  intro j x hx
  match j, hx with
  | 0, hx => simp [bcells] at hx; subst hx; exact h
  | 1, hx => simp [bcells] at hx; subst hx; exact h2

/-! ### Same -/
theorem same_step (A B : List UInt8) (k : Nat) (x p q : UInt8) (hp : A[k]? = some p) (hq : B[k]? = some q) (h : x = 0 ↔ A.take k = B.take k) : (x ||| (p ^^^ q)) = 0 ↔ A.take (k + 1) = B.take (k + 1) := by
  rw [List.take_add_one, List.take_add_one, hp, hq, UInt8.or_eq_zero_iff, h, UInt8.xor_eq_zero_iff]
  constructor
  · rintro ⟨h1, rfl⟩
    rw [h1]
  · intro h1
    have hl : (A.take k).length = (B.take k).length := by
      have := congrArg List.length h1
      simpa using this
    have := List.append_inj h1 hl
    exact ⟨this.1, by simpa using this.2⟩
theorem u8z (x : UInt8) : ((x.toNat : Int) == 0) = (x == 0) := by
  rw [Bool.eq_iff_iff, beq_iff_eq, beq_iff_eq]
  constructor
  · intro h
    exact UInt8.toNat_inj.1 (by simpa using h)
  · rintro rfl
    rfl
theorem same_end (A B : List UInt8) (k : Nat) (x : UInt8) (hA : A.length ≤ k) (hB : B.length ≤ k) (h : x = 0 ↔ A.take k = B.take k) : ((x.toNat : Int) == 0) = (A == B) := by
  rw [List.take_of_length_le hA, List.take_of_length_le hB] at h
  rw [u8z, Bool.eq_iff_iff, beq_iff_eq, beq_iff_eq, h]

/-! ### Xor -/
def at0 (A : List UInt8) (i : Nat) : UInt8 := A.getD i 0
theorem at0_of {A : List UInt8} {k : Nat} {p : UInt8} (hp : A[k]? = some p) : at0 A k = p := by simp [at0, List.getD, hp]
theorem at0_tl (s : ByteArray) (k : Nat) (h : k < s.size) : at0 s.toList k = s[k] := at0_of (tl_get s k h)
theorem fill_store {w : World} {B e n cap g : Nat} {f : Nat → UInt8} {p : Nat → Bool} (h : w.ownsRow B e 1 (.slice (some ⟨g, 0, none⟩) n cap) n (bcells (fillp f n p))) (j : Nat) (u : UInt8) (hu : u = f j)
    (q : Nat → Bool) (hq : ∀ i, i < n → q i = (p i || i == j)) : (w.setCell ⟨g, j, none⟩ (.int .u8 (u.toNat : Int))).ownsRow B e 1 (.slice (some ⟨g, 0, none⟩) n cap) n (bcells (fillp f n q)) := by
  have h1 := (h.stored j (.int .u8 (u.toNat : Int))).1
  rw [bcells_set, hu, fillp_set _ _ _ q j hq] at h1
  rw [hu]
  exact h1
theorem fill_cell {w : World} {B e n cap g : Nat} {l : List UInt8} (h : w.ownsRow B e 1 (.slice (some ⟨g, 0, none⟩) n cap) n (bcells l)) (k : Nat) (hk : k < n) :
    ∃ u : UInt8, l[k]? = some u ∧ w.cell? ⟨g, k, none⟩ = some (.int .u8 (u.toNat : Int)) ∧ w.frozen? ⟨g, k, none⟩ = false := by
  have hl : k < l.length := by have := h.1; rw [bcells_length] at this; omega
  exact ⟨l[k], List.getElem?_eq_getElem hl, by rw [h.cellAt k (by omega), bcells_get _ _ hl], h.frozenAt k⟩
def xorF (A B : List UInt8) (i : Nat) : UInt8 := at0 A i ^^^ at0 B i
def xorL (A B : List UInt8) : List UInt8 := List.zipWith (· ^^^ ·) A B
theorem xorL_range (A B : List UInt8) (n : Nat) (h : n = min A.length B.length) : (List.range n).map (xorF A B) = xorL A B := by
  apply List.ext_getElem
  · simp [xorL, h]
  · intro i h1 h2
    have hi : i < A.length ∧ i < B.length := by simp at h1; omega
    simp [xorL, xorF, at0, hi.1, hi.2]
theorem xorL_take (A B : List UInt8) (k : Nat) (p q : UInt8) (hp : A[k]? = some p) (hq : B[k]? = some q) : xorL (A.take (k + 1)) (B.take (k + 1)) = xorL (A.take k) (B.take k) ++ [p ^^^ q] := by
  have hA : k < A.length := by rw [List.getElem?_eq_some_iff] at hp; exact hp.1
  have hB : k < B.length := by rw [List.getElem?_eq_some_iff] at hq; exact hq.1
  rw [List.take_add_one, List.take_add_one, hp, hq]
  unfold xorL
  rw [List.zipWith_append (by simp; omega)]
  rfl
theorem xorL_len (A B : List UInt8) : (xorL A B).length = min A.length B.length := by simp [xorL]
theorem xorL_full (A B : List UInt8) (k : Nat) (h : A.length ≤ k ∨ B.length ≤ k) : xorL (A.take k) (B.take k) = xorL A B := by
  unfold xorL
  rw [← List.take_zipWith, List.take_of_length_le (by simp; omega)]
theorem getD_of (A : List UInt8) (k : Nat) (p : UInt8) (hp : A[k]? = some p) : A.getD k 0 = p := by simp [List.getD, hp]
end Go.Proofs.YthofcjjllmnjbaaDoor
