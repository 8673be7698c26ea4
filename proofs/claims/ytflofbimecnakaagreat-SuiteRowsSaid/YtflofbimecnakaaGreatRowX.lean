/- Joined by merge.py: Base RowM Gen RowA RowB RowC BitI RowU RowD RowE. -/
import Derived.Test.YtflofbimecnakaaGreatRows
import Derived.WalkKit
import Derived.WalkSpells
import Derived.WalkLawsBesides
import Derived.Deep.QuietTactic
import Derived.BigQuiet
import Derived.Outline
import Derived.Lib.Hide
import Derived.Lib.Strings
import Derived.Deep.AppendLies
import Derived.Deep.RegionLaw
import Derived.Deep.RegionHeld3
import Derived.Laws.IdiomStrings
import Derived.Laws.BitsAllLaws
import Derived.Deep.MidRow
import Derived.StillTailTactics
import Derived.ArgAppend
namespace Go.Proofs.YtflofbimecnakaaGreat
open Go.RowKit
set_option linter.unusedVariables false
set_option linter.unusedSimpArgs false

/-! ### bytes as cells -/
def bcells (l : List UInt8) : List Value := l.map fun b => Value.int .u8 (b.toNat : Int)
theorem bcells_length (l : List UInt8) : (bcells l).length = l.length := by simp [bcells]
theorem bcells_append (l m : List UInt8) : bcells (l ++ m) = bcells l ++ bcells m := by simp [bcells]
theorem bcells_get (l : List UInt8) (j : Nat) (hj : j < l.length) : (bcells l)[j]? = some (.int .u8 (l[j].toNat : Int)) := by simp [bcells, hj]
theorem bcells_set (l : List UInt8) (j : Nat) (u : UInt8) : (bcells l).set j (.int .u8 (u.toNat : Int)) = bcells (l.set j u) := by
  simp [bcells, List.map_set]
theorem bcells_one (l : List UInt8) : ∀ u ∈ bcells l, u.oneCell' = true := by
  intro u hu
  simp only [bcells, List.mem_map] at hu
  obtain ⟨b, _, rfl⟩ := hu
  rfl
theorem bcells_made (n : Nat) : (madeCells (Value.int .u8 0).cells (n * 1)).toList = bcells (List.replicate n 0) := by
  rw [show (Value.int .u8 0).cells = #[Value.int .u8 0] from rfl, toList_madeCells_one]
  simp [bcells]

/-! ### bits of bytes -/
theorem u8x (x y : UInt8) : bits .xor .u8 (x.toNat : Int) (y.toNat : Int) = ((x ^^^ y).toNat : Int) := by
  rw [u8_xor_nat _ _ x.toNat_lt y.toNat_lt, UInt8.toNat_xor]
theorem u8o (x y : UInt8) : bits .or .u8 (x.toNat : Int) (y.toNat : Int) = ((x ||| y).toNat : Int) := by
  rw [u8_or_nat _ _ x.toNat_lt y.toNat_lt, UInt8.toNat_or]
theorem u8a (x y : UInt8) : bits .and .u8 (x.toNat : Int) (y.toNat : Int) = ((x &&& y).toNat : Int) := by
  rw [u8_and_nat _ _ x.toNat_lt y.toNat_lt, UInt8.toNat_and]

/-! ### strings -/
theorem tl_size (s : ByteArray) : s.toList.length = s.size := by rw [Lib.toList_data, ← Lib.size_eq]
theorem tl_get (s : ByteArray) (k : Nat) (h : k < s.size) : s.toList[k]? = some s[k] := by
  rw [Lib.toList_data]
  obtain ⟨⟨l⟩⟩ := s
  simp only [ByteArray.size, List.size_toArray] at h
  simp [h]
  rfl
theorem tl_mk (l : List UInt8) : (⟨l.toArray⟩ : ByteArray).toList = l := by rw [Lib.toList_data]
theorem tl_inj {a b : ByteArray} (h : a.toList = b.toList) : a = b := by
  rw [Lib.toList_data, Lib.toList_data] at h
  rw [← Lib.mk_data a, ← Lib.mk_data b, h]
theorem size_mk (l : List UInt8) : (⟨l.toArray⟩ : ByteArray).size = l.length := by rw [← tl_size, tl_mk]

/-! ### what a call hands back -/
/-- A text of the bytes l; what was there is as it was. -/
def RetS (l : List UInt8) (w : World) (e : Ending) (w' : World) : Prop := ∃ s : ByteArray, e = .returned (.string s) ∧ s.toList = l ∧ Below w.heap.size w w'

/-- 'string(out)' of a row of the call's own. -/
theorem run_convert_own {P : Program} {w : World} {base e n : Nat} {v : Value} {l : List UInt8} (hown : w.ownsRow base e 1 v n (bcells l)) (src dst : TypeId)
    (hs : P.underlying src = some (.slice e)) (he : P.underlying e = some (.int .u8)) (hd : P.underlying dst = some .string) : (convert src dst v).run P w = .ok (.string ⟨l.toArray⟩) w := by
  have hl : l.length = n := by have := hown.1; rw [bcells_length] at this; simpa using this
  rcases hown.2 with ⟨rfl, rfl⟩ | ⟨g, cap, cur, rfl, hb, hg, hn, hc, hcs, htake⟩
  · have : l = [] := List.eq_nil_of_length_eq_zero hl
    subst this
    exact run_convert_bytes_nil w src e hs he 0 0 dst hd
  · subst hl
    refine run_convert_bytes_back w src dst e ⟨g, 0, none⟩ cap l hs he hd fun j hj => ?_
    have := hown.cells (g := g) rfl j _ (bcells_get l j hj)
    exact this

/-! ### rows that are filled place by place -/
def fillp (f : Nat → UInt8) (n : Nat) (p : Nat → Bool) : List UInt8 := (List.range n).map fun i => if p i then f i else 0
theorem fillp_length (f : Nat → UInt8) (n : Nat) (p : Nat → Bool) : (fillp f n p).length = n := by simp [fillp]
theorem fillp_none (f : Nat → UInt8) (n : Nat) (p : Nat → Bool) (h : ∀ i, i < n → p i = false) : fillp f n p = List.replicate n 0 := by
  apply List.ext_getElem
  · simp [fillp]
  · intro i h1 h2
    have : i < n := by simpa [fillp] using h1
    simp [fillp, h i this]
theorem fillp_set (f : Nat → UInt8) (n : Nat) (p q : Nat → Bool) (j : Nat) (h : ∀ i, i < n → q i = (p i || i == j)) : (fillp f n p).set j (f j) = fillp f n q := by
  apply List.ext_getElem
  · simp [fillp]
  · intro i h1 h2
    have hi : i < n := by simpa [fillp] using h2
    have hq := h i hi
    rw [List.getElem_set]
    by_cases e : j = i
    · subst e
      simp [fillp, hq]
    · have e' : ¬ i = j := fun x => e x.symm
      rw [if_neg e]
      simp [fillp, hq, e']
theorem fillp_all (f : Nat → UInt8) (n : Nat) (p : Nat → Bool) (h : ∀ i, i < n → p i = true) : fillp f n p = (List.range n).map f := by
  apply List.ext_getElem
  · simp [fillp]
  · intro i h1 h2
    have : i < n := by simpa [fillp] using h1
    simp [fillp, h i this]

/-! ### append of one byte -/
theorem own_drewN {w : World} {base e size n : Nat} {v : Value} {xs : List Value} (h : w.ownsRow base e size v n xs) (k : Nat) : (w.drewN k).ownsRow base e size v n xs := h
section
variable {P : Program} {w : World}
theorem step_append_u8 {ops : Array Oper} {o : Oper} {a : Act} {K : Act → World → Prop} {Q : Exit → Act → World → Prop} {E : Prop} (hgd : o.guard = none) (s x : Operand) (t : TypeId)
    (ho : o.op = .call { callee := .builtin .append, args := #[s, x], argTypes := #[t, t] })
    (base : Nat) (e : TypeId) (i : TypeInfo) (ht : P.underlying t = some (.slice e)) (hi : P.info? e = some i) (hz : i.zero = some (.int .u8 0)) (hsize : i.size = 1) (hby : i.bytes = 1)
    (v : Value) (n : Nat) (l : List UInt8) (hs : a.eval s = v) (hown : w.ownsRow base e 1 v n (bcells l))
    (g m c : Nat) (us : List UInt8) (hx : a.eval x = .slice (some ⟨g, 0, none⟩) m c) (hl : us.length = m) (hcell : ∀ j u, (bcells us)[j]? = some u → w.cell? ((⟨g, 0, none⟩ : Addr).add j) = some u)
    (hn : n + m ≤ 140737488355328) (hbase : base ≤ w.heap.size)
    (h : ∀ v' w', w'.ownsRow base e 1 v' (n + m) (bcells (l ++ us)) → w.grownBy w' v.ownBlock → K (a.put o.dst v') w') :
    if Region.wanted o (yielded ops a.tmps) = true then Oper.wp P o a w K Q else E := by
  have hw : Region.wanted o (yielded ops a.tmps) = true := by simp [Region.wanted, hgd]
  rw [if_pos hw]
  refine wp_append_own w s x t ho base e i (.int .u8 0) 1 1 ht hi hz hsize hby rfl (by decide) v n (bcells l) hs hown ⟨g, 0, none⟩ m c (bcells us) hx (by rw [bcells_length, hl]; simp) hcell (bcells_one us) (by unfold maxLen; omega) (by omega) hbase ?_
  intro v' w' h1 h2 _
  rw [← bcells_append] at h1
  exact h v' w' h1 h2
theorem wpList_append_u8 {ops : Array Oper} {rest : List Oper} {o : Oper} {a : Act} {Q : Exit → Act → World → Prop} (hgd : o.guard = none) (s x : Operand) (t : TypeId)
    (ho : o.op = .call { callee := .builtin .append, args := #[s, x], argTypes := #[t, t] })
    (base : Nat) (e : TypeId) (i : TypeInfo) (ht : P.underlying t = some (.slice e)) (hi : P.info? e = some i) (hz : i.zero = some (.int .u8 0)) (hsize : i.size = 1) (hby : i.bytes = 1)
    (v : Value) (n : Nat) (l : List UInt8) (hs : a.eval s = v) (hown : w.ownsRow base e 1 v n (bcells l))
    (g m c : Nat) (us : List UInt8) (hx : a.eval x = .slice (some ⟨g, 0, none⟩) m c) (hl : us.length = m) (hcell : ∀ j u, (bcells us)[j]? = some u → w.cell? ((⟨g, 0, none⟩ : Addr).add j) = some u)
    (hn : n + m ≤ 140737488355328) (hbase : base ≤ w.heap.size)
    (h : ∀ v' w', w'.ownsRow base e 1 v' (n + m) (bcells (l ++ us)) → w.grownBy w' v.ownBlock → wpList P ops Q rest (a.put o.dst v') w') : wpList P ops Q (o :: rest) a w := by
  refine wpList_append_own w hgd s x t ho base e i (.int .u8 0) 1 1 ht hi hz hsize hby rfl (by decide) v n (bcells l) hs hown ⟨g, 0, none⟩ m c (bcells us) hx (by rw [bcells_length, hl]; simp) hcell (bcells_one us) (by unfold maxLen; omega) (by omega) hbase ?_
  intro v' w' h1 h2 _
  rw [← bcells_append] at h1
  exact h v' w' h1 h2
end
/-- Behind such an append: 'Below' goes on. -/
theorem below_own {B : Nat} {a w w' : World} {e n : Nat} {v : Value} {xs : List Value} (hb : Below B a w) (hg : w.grownBy w' v.ownBlock) (hB : B ≤ w.heap.size) (hown : w.ownsRow B e 1 v n xs) : Below B a w' :=
  hb.grown hg hB fun k hk => (hown.lt k hk).1
theorem cells_one {w : World} {g : Nat} {u : UInt8} (h : w.cell? ⟨g, 0, none⟩ = some (.int .u8 (u.toNat : Int))) : ∀ j x, (bcells [u])[j]? = some x → w.cell? ((⟨g, 0, none⟩ : Addr).add j) = some x := by
  intro j x hx
  match j, hx with
  | 0, hx => simp [bcells] at hx; subst hx; exact h
theorem cells_two {w : World} {g : Nat} {u v : UInt8} (h : w.cell? ⟨g, 0, none⟩ = some (.int .u8 (u.toNat : Int))) (h2 : w.cell? ⟨g, 1, none⟩ = some (.int .u8 (v.toNat : Int))) : ∀ j x, (bcells [u, v])[j]? = some x → w.cell? ((⟨g, 0, none⟩ : Addr).add j) = some x := by
  intro j x hx
  match j, hx with
  | 0, hx => simp [bcells] at hx; subst hx; exact h
  | 1, hx => simp [bcells] at hx; subst hx; exact h2

/-! ### Same -/
theorem same_step (A B : List UInt8) (k : Nat) (x p q : UInt8) (hp : A[k]? = some p) (hq : B[k]? = some q) (h : x = 0 ↔ A.take k = B.take k) : (x ||| (p ^^^ q)) = 0 ↔ A.take (k + 1) = B.take (k + 1) := by
  rw [List.take_add_one, List.take_add_one, hp, hq, UInt8.or_eq_zero_iff, h, UInt8.xor_eq_zero_iff]
  constructor
  · rintro ⟨h1, rfl⟩
    rw [h1]
  · intro h1
    have hl : (A.take k).length = (B.take k).length := by
      have := congrArg List.length h1
      simpa using this
    have := List.append_inj h1 hl
    exact ⟨this.1, by simpa using this.2⟩
theorem u8z (x : UInt8) : ((x.toNat : Int) == 0) = (x == 0) := by
  rw [Bool.eq_iff_iff, beq_iff_eq, beq_iff_eq]
  constructor
  · intro h
    exact UInt8.toNat_inj.1 (by simpa using h)
  · rintro rfl
    rfl
theorem same_end (A B : List UInt8) (k : Nat) (x : UInt8) (hA : A.length ≤ k) (hB : B.length ≤ k) (h : x = 0 ↔ A.take k = B.take k) : ((x.toNat : Int) == 0) = (A == B) := by
  rw [List.take_of_length_le hA, List.take_of_length_le hB] at h
  rw [u8z, Bool.eq_iff_iff, beq_iff_eq, beq_iff_eq, h]

/-! ### Xor -/
def at0 (A : List UInt8) (i : Nat) : UInt8 := A.getD i 0
theorem at0_of {A : List UInt8} {k : Nat} {p : UInt8} (hp : A[k]? = some p) : at0 A k = p := by simp [at0, List.getD, hp]
theorem at0_tl (s : ByteArray) (k : Nat) (h : k < s.size) : at0 s.toList k = s[k] := at0_of (tl_get s k h)
theorem fill_store {w : World} {B e n cap g : Nat} {f : Nat → UInt8} {p : Nat → Bool} (h : w.ownsRow B e 1 (.slice (some ⟨g, 0, none⟩) n cap) n (bcells (fillp f n p))) (j : Nat) (u : UInt8) (hu : u = f j)
    (q : Nat → Bool) (hq : ∀ i, i < n → q i = (p i || i == j)) : (w.setCell ⟨g, j, none⟩ (.int .u8 (u.toNat : Int))).ownsRow B e 1 (.slice (some ⟨g, 0, none⟩) n cap) n (bcells (fillp f n q)) := by
  have h1 := (h.stored j (.int .u8 (u.toNat : Int))).1
  rw [bcells_set, hu, fillp_set _ _ _ q j hq] at h1
  rw [hu]
  exact h1
theorem fill_cell {w : World} {B e n cap g : Nat} {l : List UInt8} (h : w.ownsRow B e 1 (.slice (some ⟨g, 0, none⟩) n cap) n (bcells l)) (k : Nat) (hk : k < n) :
    ∃ u : UInt8, l[k]? = some u ∧ w.cell? ⟨g, k, none⟩ = some (.int .u8 (u.toNat : Int)) ∧ w.frozen? ⟨g, k, none⟩ = false := by
  have hl : k < l.length := by have := h.1; rw [bcells_length] at this; omega
  exact ⟨l[k], List.getElem?_eq_getElem hl, by rw [h.cellAt k (by omega), bcells_get _ _ hl], h.frozenAt k⟩
def xorF (A B : List UInt8) (i : Nat) : UInt8 := at0 A i ^^^ at0 B i
def xorL (A B : List UInt8) : List UInt8 := List.zipWith (· ^^^ ·) A B
theorem xorL_range (A B : List UInt8) (n : Nat) (h : n = min A.length B.length) : (List.range n).map (xorF A B) = xorL A B := by
  apply List.ext_getElem
  · simp [xorL, h]
  · intro i h1 h2
    have hi : i < A.length ∧ i < B.length := by simp at h1; omega
    simp [xorL, xorF, at0, hi.1, hi.2]
theorem xorL_take (A B : List UInt8) (k : Nat) (p q : UInt8) (hp : A[k]? = some p) (hq : B[k]? = some q) : xorL (A.take (k + 1)) (B.take (k + 1)) = xorL (A.take k) (B.take k) ++ [p ^^^ q] := by
  have hA : k < A.length := by rw [List.getElem?_eq_some_iff] at hp; exact hp.1
  have hB : k < B.length := by rw [List.getElem?_eq_some_iff] at hq; exact hq.1
  rw [List.take_add_one, List.take_add_one, hp, hq]
  unfold xorL
  rw [List.zipWith_append (by simp; omega)]
  rfl
theorem xorL_len (A B : List UInt8) : (xorL A B).length = min A.length B.length := by simp [xorL]
theorem xorL_full (A B : List UInt8) (k : Nat) (h : A.length ≤ k ∨ B.length ≤ k) : xorL (A.take k) (B.take k) = xorL A B := by
  unfold xorL
  rw [← List.take_zipWith, List.take_of_length_le (by simp; omega)]
theorem getD_of (A : List UInt8) (k : Nat) (p : UInt8) (hp : A[k]? = some p) : A.getD k 0 = p := by simp [List.getD, hp]
end Go.Proofs.YtflofbimecnakaaGreat
namespace Go.Proofs.YtflofbimecnakaaGreat
open Go.RowKit
set_option linter.unusedVariables false
set_option linter.unusedSimpArgs false
/-- block g begins with the bytes l; the mark, if any, lies behind them -/
def MRow (w : World) (g e : Nat) (l : List UInt8) : Prop := ∃ cs lo hi, w.heap[g]? = some (.cells cs e (lo, hi)) ∧ cs.toList.take l.length = bcells l ∧ (l.length ≤ lo ∨ hi = 0)
theorem MRow.cell {w : World} {g e : Nat} {l : List UInt8} (h : MRow w g e l) (k : Nat) (hk : k < l.length) :
    ∃ u : UInt8, l[k]? = some u ∧ w.cell? ⟨g, k, none⟩ = some (.int .u8 (u.toNat : Int)) ∧ w.frozen? ⟨g, k, none⟩ = false := by
  obtain ⟨cs, lo, hi, hg, ht, hlo⟩ := h
  refine ⟨l[k], List.getElem?_eq_getElem hk, ?_, ?_⟩
  · rw [cell_of_row w g k cs e (lo, hi) hg, ← bcells_get l k hk, ← ht, List.getElem?_take, if_pos hk]
    simp
  · simp [World.frozen?, hg]
    omega
theorem MRow.store {w : World} {g e : Nat} {l : List UInt8} (h : MRow w g e l) (k : Nat) (u : UInt8) : MRow (w.setCell ⟨g, k, none⟩ (.int .u8 (u.toNat : Int))) g e (l.set k u) := by
  obtain ⟨cs, lo, hi, hg, ht, hlo⟩ := h
  refine ⟨cs.setIfInBounds k (.int .u8 (u.toNat : Int)), lo, hi, ?_, ?_, by simpa using hlo⟩
  · simp [World.setCell, Array.getElem?_modify, hg]
  · rw [Array.toList_setIfInBounds, List.length_set, List.take_set, ht, bcells_set]
theorem MRow.drew {w : World} {g e : Nat} {l : List UInt8} (h : MRow w g e l) : MRow w.drew g e l := h
theorem MRow.convert {P : Program} {w : World} {g e : Nat} {l : List UInt8} (h : MRow w g e l) (src dst : TypeId) (n cap : Nat) (hn : l.length = n)
    (hs : P.underlying src = some (.slice e)) (he : P.underlying e = some (.int .u8)) (hd : P.underlying dst = some .string) : (convert src dst (.slice (some ⟨g, 0, none⟩) n cap)).run P w = .ok (.string ⟨l.toArray⟩) w := by
  subst hn
  refine run_convert_bytes_back w src dst e ⟨g, 0, none⟩ cap l hs he hd fun j hj => ?_
  obtain ⟨u, hu, hc, _⟩ := h.cell j hj
  rw [List.getElem?_eq_getElem hj] at hu
  cases hu
  have : (⟨g, 0, none⟩ : Addr).add j = ⟨g, j, none⟩ := by unfold Addr.add; split <;> simp_all
  rw [this]
  exact hc
/-- a row that is written over place by place -/
def ovr (f g : Nat → UInt8) (n : Nat) (p : Nat → Bool) : List UInt8 := (List.range n).map fun i => if p i then f i else g i
theorem ovr_length (f g : Nat → UInt8) (n : Nat) (p : Nat → Bool) : (ovr f g n p).length = n := by simp [ovr]
theorem ovr_none (f g : Nat → UInt8) (n : Nat) (p : Nat → Bool) (l : List UInt8) (hl : l.length = n) (h : ∀ i, i < n → p i = false) (hg : ∀ i, i < n → l[i]? = some (g i)) : ovr f g n p = l := by
  apply List.ext_getElem?
  intro i
  by_cases hi : i < n
  · simp [ovr, hi, h i hi, hg i hi]
  · rw [List.getElem?_eq_none (by rw [ovr_length]; omega), List.getElem?_eq_none (by omega)]
theorem ovr_all (f g : Nat → UInt8) (n : Nat) (p : Nat → Bool) (h : ∀ i, i < n → p i = true) : ovr f g n p = (List.range n).map f := by
  apply List.ext_getElem
  · simp [ovr]
  · intro i h1 h2
    have : i < n := by simpa [ovr] using h1
    simp [ovr, h i this]
theorem ovr_set (f g : Nat → UInt8) (n : Nat) (p q : Nat → Bool) (j : Nat) (h : ∀ i, i < n → q i = (p i || i == j)) : (ovr f g n p).set j (f j) = ovr f g n q := by
  apply List.ext_getElem
  · simp [ovr]
  · intro i h1 h2
    have hi : i < n := by simpa [ovr] using h2
    have hq := h i hi
    rw [List.getElem_set]
    by_cases e : j = i
    · subst e
      simp [ovr, hq]
    · have e' : ¬ i = j := fun x => e x.symm
      rw [if_neg e]
      simp [ovr, hq, e']
theorem ovr_get (f g : Nat → UInt8) (n : Nat) (p : Nat → Bool) (i : Nat) (hi : i < n) : (ovr f g n p)[i]? = some (if p i then f i else g i) := by simp [ovr, hi]
theorem ovr_store {w : World} {b e n : Nat} {f g : Nat → UInt8} {p : Nat → Bool} (h : MRow w b e (ovr f g n p)) (j : Nat) (u : UInt8) (hu : u = f j) (q : Nat → Bool) (hq : ∀ i, i < n → q i = (p i || i == j)) :
    MRow (w.setCell ⟨b, j, none⟩ (.int .u8 (u.toNat : Int))) b e (ovr f g n q) := by
  have h1 := h.store j u
  rw [hu, ovr_set f g n p q j hq] at h1
  rw [hu]
  exact h1
theorem wpList_bytes_u8 {P : Program} (w : World) {ops : Array Oper} {rest : List Oper} {o : Oper} {a : Act} {Q : Exit → Act → World → Prop}
    (hg : o.guard = none) (x : Operand) (src dst e : TypeId) (hop : o.op = Op.convert src dst x) (h1 : P.underlying src = some .string) (h2 : P.underlying dst = some (.slice e)) (h3 : P.underlying e = some (.int .u8))
    (s : ByteArray) (hx : a.eval x = .string s)
    (hK : ∀ cap w', MRow w' w.heap.size e s.toList → s.size ≤ cap → Below w.heap.size w w' → w'.heap.size = w.heap.size + 1 → wpList P ops Q rest (a.put o.dst (.slice (some ⟨w.heap.size, 0, none⟩) s.size cap)) w') :
    wpList P ops Q (o :: rest) a w := by
  refine wpList_plain hg fun K hK' => ?_
  have hrun := run_bytes_of_string (P := P) w src dst e s h1 h2 h3
  unfold Oper.wp
  simp [execOp, hop, hx, hrun, Result.andThen]
  refine hK' _ _ (hK _ _ ⟨bytesRow s (grownCap w s.size 0 e), _, _, heap_alloc_new w _, ?_, ?_⟩ (grownCap_ge _ _ _ _) ((Below.refl _ _).drew.alloc (Nat.le_refl _) _) (by simp))
  · have hl : s.toList.length = (s.data.map (fun b => Value.int .u8 (b.toNat : Int))).toList.length := by rw [Lib.toList_data]; simp
    unfold bytesRow
    rw [Array.toList_append, hl, List.take_left]
    rw [Lib.toList_data]
    simp [bcells]
  · left
    rw [tl_size]
    have : s.data.size = s.size := rfl
    simp [bytesRow, this]
/-- a call of a function with a body, as one step of a region that draws its order: by the callee's contract -/
theorem step_call {P : Program} {w : World} {ops : Array Oper} {o : Oper} {a : Act} {K : Act → World → Prop} {Q : Exit → Act → World → Prop} {E : Prop} (hgd : Region.wanted o (yielded ops a.tmps) = true)
    (f : FuncId) (xs : Array Operand) (ats : Array TypeId) (ho : o.op = .call { callee := .value (.func f), args := xs, argTypes := ats }) (he : ∀ vs w, (callFunc f vs).run P w = .ok (.enter f vs) w)
    (vs : Array Value) (hv : #[] ++ xs.map a.eval ++ #[] = vs) (R : Ending → World → Prop) (hC : Calls P f vs w R) (h : ∀ e w', R e w' → ∃ v, e = .returned v ∧ K (a.put o.dst v) w') :
    if Region.wanted o (yielded ops a.tmps) = true then Oper.wp P o a w K Q else E := by
  rw [if_pos hgd]
  subst hv
  unfold Oper.wp
  have e1 : execOp a.eval o = callFunc f (#[] ++ xs.map a.eval ++ #[]) := by
    obtain ⟨dst, op, type, pos, after, guard⟩ := o
    simp only at ho
    subst ho
    rfl
  rw [e1, he, Oper.upon_enter]
  refine hC.mono fun e w' hR => ?_
  obtain ⟨v, rfl, hk⟩ := h e w' hR
  exact hk
section
variable {P : Program} {w : World} {ops : Array Oper} {o : Oper} {a : Act} {K : Act → World → Prop} {Q : Exit → Act → World → Prop} {E : Prop}
theorem step_call1 (f : FuncId) (x : Operand) (ats : Array TypeId) (ho : o.op = .call { callee := .value (.func f), args := #[x], argTypes := ats }) (hgd : Region.wanted o (yielded ops a.tmps) = true)
    (he : ∀ vs w, (callFunc f vs).run P w = .ok (.enter f vs) w) (v : Value) (hv : a.eval x = v) (R : Ending → World → Prop) (hC : Calls P f #[v] w R) (h : ∀ e w', R e w' → ∃ v, e = .returned v ∧ K (a.put o.dst v) w') :
    if Region.wanted o (yielded ops a.tmps) = true then Oper.wp P o a w K Q else E := by
  subst hv
  exact step_call hgd f #[x] ats ho he #[a.eval x] (by simp) R hC h
theorem step_call2 (f : FuncId) (x y : Operand) (ats : Array TypeId) (ho : o.op = .call { callee := .value (.func f), args := #[x, y], argTypes := ats }) (hgd : Region.wanted o (yielded ops a.tmps) = true)
    (he : ∀ vs w, (callFunc f vs).run P w = .ok (.enter f vs) w) (v : Value) (hv : a.eval x = v) (u : Value) (hu : a.eval y = u) (R : Ending → World → Prop) (hC : Calls P f #[v, u] w R) (h : ∀ e w', R e w' → ∃ v, e = .returned v ∧ K (a.put o.dst v) w') :
    if Region.wanted o (yielded ops a.tmps) = true then Oper.wp P o a w K Q else E := by
  subst hv hu
  exact step_call hgd f #[x, y] ats ho he #[a.eval x, a.eval y] (by simp) R hC h
theorem step_call0 (f : FuncId) (ats : Array TypeId) (ho : o.op = .call { callee := .value (.func f), args := #[], argTypes := ats }) (hgd : Region.wanted o (yielded ops a.tmps) = true)
    (he : ∀ vs w, (callFunc f vs).run P w = .ok (.enter f vs) w) (R : Ending → World → Prop) (hC : Calls P f #[] w R) (h : ∀ e w', R e w' → ∃ v, e = .returned v ∧ K (a.put o.dst v) w') :
    if Region.wanted o (yielded ops a.tmps) = true then Oper.wp P o a w K Q else E :=
  step_call hgd f #[] ats ho he #[] (by simp) R hC h
/-- append to a row of the call's own, as one step of a region that draws its order: elements of any kind -/
theorem step_append_gen (hgd : o.guard = none) (s x : Operand) (t : TypeId)
    (ho : o.op = .call { callee := .builtin .append, args := #[s, x], argTypes := #[t, t] })
    (base : Nat) (e : TypeId) (i : TypeInfo) (z : Value) (size bytes : Nat) (ht : P.underlying t = some (.slice e)) (hi : P.info? e = some i) (hz : i.zero = some z) (hsize : i.size = size) (hby : i.bytes = bytes) (hzs : z.cells.size = size) (hsz : 0 < size)
    (v : Value) (n : Nat) (xs : List Value) (hs : a.eval s = v) (hown : w.ownsRow base e size v n xs)
    (g m c : Nat) (news : List Value) (hx : a.eval x = .slice (some ⟨g, 0, none⟩) m c) (hl : news.length = m * size) (hcell : ∀ j u, news[j]? = some u → w.cell? ((⟨g, 0, none⟩ : Addr).add j) = some u) (h1 : ∀ u ∈ news, u.oneCell' = true)
    (h63 : n + m ≤ maxLen) (hbytes : (n + m) * bytes ≤ 140737488355328) (hbase : base ≤ w.heap.size)
    (h : ∀ v' w', w'.ownsRow base e size v' (n + m) (xs ++ news) → w.grownBy w' v.ownBlock → K (a.put o.dst v') w') :
    if Region.wanted o (yielded ops a.tmps) = true then Oper.wp P o a w K Q else E := by
  have hw : Region.wanted o (yielded ops a.tmps) = true := by simp [Region.wanted, hgd]
  rw [if_pos hw]
  exact wp_append_own w s x t ho base e i z size bytes ht hi hz hsize hby hzs hsz v n xs hs hown ⟨g, 0, none⟩ m c news hx hl hcell h1 h63 hbytes hbase fun v' w' h2 h3 _ => h v' w' h2 h3
end
end Go.Proofs.YtflofbimecnakaaGreat
namespace Go.Proofs.YtflofbimecnakaaGreat
open Go.RowKit
set_option linter.unusedVariables false
set_option linter.unusedSimpArgs false
theorem info5 : (Tryz.prog.info? 5).map (fun i => (i.zero, i.size, i.bytes)) = some (some (.int .u8 0), 1, 1) := by kernel_rfl
def RetB (b : Bool) (w : World) (e : Ending) (w' : World) : Prop := e = .returned (.bool b) ∧ ∃ n, w' = w.drewN n
def RetNE (n : Nat) (c : Int) (w : World) (e : Ending) (w' : World) : Prop := e = .returned (.tuple #[.int .u64 (n : Int), .int .i64 c]) ∧ w = w'
theorem ret_ne {n m : Nat} {c d : Int} {w : World} {v : Value} (hv : v = .int .u64 (n : Int)) (hn : n = m) (hc : c = d) : RetNE m d w (.returned (.tuple #[v, .int .i64 c])) w := by
  subst hv hn hc
  exact ⟨rfl, rfl⟩
def RetSE (l : List UInt8) (c : Int) (w : World) (e : Ending) (w' : World) : Prop := ∃ s : ByteArray, e = .returned (.tuple #[.string s, .int .i64 c]) ∧ s.toList = l ∧ Below w.heap.size w w'
theorem ret_se {l m : List UInt8} {c d : Int} {w w' : World} {s : ByteArray} (hl : s.toList = m) (hm : m = l) (hc : c = d) (hb : Below w.heap.size w w') : RetSE l d w (.returned (.tuple #[.string s, .int .i64 c])) w' := by
  subst hm hc
  exact ⟨s, rfl, hl, hb⟩
def RetU8 (n : Nat) (w : World) (e : Ending) (w' : World) : Prop := e = .returned (.int .u8 (n : Int)) ∧ w = w'
def RetU8B (n : Nat) (b : Bool) (w : World) (e : Ending) (w' : World) : Prop := e = .returned (.tuple #[.int .u8 (n : Int), .bool b]) ∧ w = w'
def RetSPE (l : List UInt8) (p : Nat) (c : Int) (w : World) (e : Ending) (w' : World) : Prop := ∃ s : ByteArray, e = .returned (.tuple #[.string s, .int .i64 (p : Int), .int .i64 c]) ∧ s.toList = l ∧ Below w.heap.size w w'
theorem ret_spe {l m : List UInt8} {p : Nat} {q : Int} {c d : Int} {w w' : World} {s : ByteArray} (hl : s.toList = m) (hm : m = l) (hp : q = (p : Int)) (hc : c = d) (hb : Below w.heap.size w w') : RetSPE l p d w (.returned (.tuple #[.string s, .int .i64 q, .int .i64 c])) w' := by
  subst hm hc hp
  exact ⟨s, rfl, hl, hb⟩
def RetT (w : World) (e : Ending) (w' : World) : Prop := e = .returned (.bool true) ∧ Below w.heap.size w w'
theorem eq_true_of {s : ByteArray} {l m : List UInt8} (h : s.toList = l) (hm : l = m) : (s.toList == m) = true := by
  rw [h, hm, beq_self_eq_true]
theorem eq_true_two {s t : ByteArray} {l : List UInt8} (h : s.toList = l) (hm : t.toList = l) : (s.toList == t.toList) = true := by
  rw [h, hm, beq_self_eq_true]
theorem below2 {w w1 w2 : World} (h1 : Below w.heap.size w w1) (h2 : Below w1.heap.size w1 w2) : Below w.heap.size w w2 := h1.trans (h2.mono h1.size)
theorem u64_of_wf {a : Int} (h : (Lit.int .u64 a).wf = true) : ∃ n : Nat, a = (n : Int) ∧ n < 2 ^ 64 := by
  have h2 : IntKind.u64.min ≤ a ∧ a ≤ IntKind.u64.max := by simpa [Lit.wf] using h
  have e1 : IntKind.u64.min = 0 := by decide
  have e2 : IntKind.u64.max = 18446744073709551615 := by decide
  obtain ⟨n, rfl⟩ := Int.eq_ofNat_of_zero_le (a := a) (by omega)
  exact ⟨n, rfl, by omega⟩
end Go.Proofs.YtflofbimecnakaaGreat
namespace Go.Proofs.YtflofbimecnakaaGreat
open Go.RowKit
set_option linter.unusedVariables false
set_option linter.unusedSimpArgs false
/-- the cells cs lie in block g from place o on, and may be written -/
def At (w : World) (g o : Nat) (cs : List Value) : Prop := ∀ j v, cs[j]? = some v → w.cell? ⟨g, o + j, none⟩ = some v ∧ w.frozen? ⟨g, o + j, none⟩ = false
theorem At.below {B : Nat} {w w' : World} {g o : Nat} {cs : List Value} (h : At w g o cs) (hb : Below B w w') (hg : g < B) : At w' g o cs := fun j v hv => by
  obtain ⟨h1, h2⟩ := h j v hv
  exact ⟨by rw [hb.cell hg]; exact h1, by rw [hb.frozen hg]; exact h2⟩
theorem At.drew {w : World} {g o : Nat} {cs : List Value} (h : At w g o cs) : At w.drew g o cs := h
theorem At.drewN {w : World} {g o : Nat} {cs : List Value} (h : At w g o cs) (k : Nat) : At (w.drewN k) g o cs := h
theorem At.lt {w : World} {g o : Nat} {cs : List Value} (h : At w g o cs) (hc : cs ≠ []) : g < w.heap.size := by
  match cs, hc with
  | v :: cs, _ =>
    have := (h 0 v rfl).1
    simp only [World.cell?] at this
    rcases Nat.lt_or_ge g w.heap.size with h1 | h1
    · exact h1
    · rw [Array.getElem?_eq_none h1] at this
      cases this
theorem At.alloc {w : World} {g o : Nat} {cs : List Value} (h : At w g o cs) (ob : Obj) : At (w.alloc ob) g o cs := fun j v hv => by
  have hl := h.lt (by rintro rfl; simp at hv)
  obtain ⟨h1, h2⟩ := h j v hv
  exact ⟨by rw [((Below.refl w.heap.size w).alloc (Nat.le_refl _) ob).cell hl]; exact h1, by rw [((Below.refl w.heap.size w).alloc (Nat.le_refl _) ob).frozen hl]; exact h2⟩
theorem At.ofAlloc (w : World) (cs : Array Value) (e : Nat) : At (w.alloc (.cells cs e (0, 0))) w.heap.size 0 cs.toList := fun j v hv => by
  have hg := heap_alloc_new w (.cells cs e (0, 0))
  refine ⟨?_, ?_⟩
  · rw [Nat.zero_add, cell_of_row _ _ _ cs e (0, 0) hg]
    simpa using hv
  · simp only [World.frozen?, hg]
    simp
theorem At.cell {w : World} {g o : Nat} {cs : List Value} (h : At w g o cs) (j : Nat) (v : Value) (hv : cs[j]? = some v) : w.cell? ⟨g, o + j, none⟩ = some v := (h j v hv).1
theorem At.froz {w : World} {g o : Nat} {cs : List Value} (h : At w g o cs) (j : Nat) (hj : j < cs.length) : w.frozen? ⟨g, o + j, none⟩ = false := (h j cs[j] (List.getElem?_eq_getElem hj)).2
theorem At.other {w : World} {g o : Nat} {cs : List Value} (h : At w g o cs) (g' o' : Nat) (u : Value) (hne : g' ≠ g ∨ o' < o ∨ o + cs.length ≤ o') : At (w.setCell ⟨g', o', none⟩ u) g o cs := fun j v hv => by
  obtain ⟨h1, h2⟩ := h j v hv
  have hj : j < cs.length := (List.getElem?_eq_some_iff.1 hv).1
  refine ⟨?_, by rw [World.frozen?_setCell]; exact h2⟩
  rw [World.cell?_setCell_other]
  · exact h1
  · intro e
    injection e with e1 e2
    omega
theorem At.set {w : World} {g o : Nat} {cs : List Value} (h : At w g o cs) (k : Nat) (u : Value) : At (w.setCell ⟨g, o + k, none⟩ u) g o (cs.set k u) := fun j v hv => by
  have hj : j < cs.length := by have := (List.getElem?_eq_some_iff.1 hv).1; simpa using this
  obtain ⟨h1, h2⟩ := h j cs[j] (List.getElem?_eq_getElem hj)
  refine ⟨?_, by rw [World.frozen?_setCell]; exact h2⟩
  by_cases e : k = j
  · subst e
    rw [World.cell?_setCell_same (h := h1)]
    simpa [hj] using hv
  · rw [World.cell?_setCell_other, h1]
    · rw [List.getElem?_set_ne e, List.getElem?_eq_getElem hj] at hv
      exact hv
    · intro e'
      injection e' with e1 e2
      omega
theorem At.ofOwn {w : World} {B e n cap g : Nat} {cs : List Value} (h : w.ownsRow B e 1 (.slice (some ⟨g, 0, none⟩) n cap) n cs) : At w g 0 cs := fun j v hv => by
  have hj : j < cs.length := (List.getElem?_eq_some_iff.1 hv).1
  rw [Nat.zero_add]
  exact ⟨by rw [h.cellAt j (by have := h.1; omega)]; exact hv, h.frozenAt j⟩
theorem At.range {w : World} {g o : Nat} {cs : List Value} (h : At w g o cs) : w.rangeAt g o cs := fun j v hv => (h j v hv).1
theorem At.there {w : World} {g o : Nat} {cs : List Value} (h : At w g o cs) : w.there g o cs.length := fun j hj => by
  obtain ⟨h1, h2⟩ := h j cs[j] (List.getElem?_eq_getElem hj)
  exact ⟨by rw [h1]; rfl, h2⟩
theorem At.ofSets {w : World} {g o : Nat} {old vs : List Value} (h : At w g o old) (hl : old.length = vs.length) : At (w.setCells g o vs) g o vs := fun j v hv => by
  have ht := h.there
  rw [hl] at ht
  have hj : j < vs.length := (List.getElem?_eq_some_iff.1 hv).1
  refine ⟨World.rangeAt_setCells_same w g o vs ht j v hv, ?_⟩
  rw [World.frozen?_setCells]
  exact (ht j hj).2
theorem At.apartSets {w : World} {g o g' o' : Nat} {cs vs : List Value} (h : At w g o cs) (hne : g' ≠ g ∨ o' + vs.length ≤ o ∨ o + cs.length ≤ o') : At (w.setCells g' o' vs) g o cs := fun j v hv => by
  obtain ⟨h1, h2⟩ := h j v hv
  have hj : j < cs.length := (List.getElem?_eq_some_iff.1 hv).1
  refine ⟨?_, by rw [World.frozen?_setCells]; exact h2⟩
  rw [World.cell?_setCells_out _ _ _ _ _ (by intro e1 _; simp only at e1 ⊢; omega)]
  exact h1
theorem below_sets (B g : Nat) (hB : B ≤ g) : ∀ (vs : List Value) (o : Nat) (a w : World), Below B a w → Below B a (w.setCells g o vs)
  | [], _, _, _, h => h
  | v :: r, o, a, w, h => by
    rw [World.setCells]
    exact below_sets B g hB r (o + 1) a _ (h.setCell (p := ⟨g, o, none⟩) hB v)
theorem size_sets (g : Nat) : ∀ (vs : List Value) (o : Nat) (w : World), (w.setCells g o vs).heap.size = w.heap.size
  | [], _, _ => rfl
  | v :: r, o, w => by
    rw [World.setCells, size_sets g r (o + 1)]
    simp [World.setCell]
theorem lay_list : ∀ (vs : List Value) (off : Nat) (cs : Array Value) (k : Nat), off + k + vs.length ≤ cs.size →
    ((vs.zipIdx k).foldl (fun cs (x : Value × Nat) => cs.setIfInBounds (off + x.2) x.1) cs).toList = cs.toList.take (off + k) ++ vs ++ cs.toList.drop (off + k + vs.length)
  | [], off, cs, k, h => by simp
  | v :: r, off, cs, k, h => by
    rw [List.zipIdx_cons, List.foldl_cons, lay_list r off _ (k + 1) (by simp at h ⊢; omega)]
    simp only [Array.toList_setIfInBounds, List.length_cons] at h ⊢
    rw [show off + (k + 1) = off + k + 1 by omega, List.take_add_one, List.take_set, List.drop_set_of_lt (by omega)]
    rw [List.getElem?_set_self (by simp; omega)]
    rw [List.set_eq_of_length_le (by simp; omega)]
    simp [Nat.add_assoc, Nat.add_comm 1]
theorem fill_two (place : Nat → Option (Nat × Nat)) (cs : Array Value) (v u : Value) (n : Nat) (h0 : place 0 = some (0, 1)) (h1 : place 1 = some (1, n)) (hv : v.cells = #[v]) (hu : u.cells.size = n) (hc : 1 + n ≤ cs.size) :
    ∃ A, Instr.fill place cs [(0, v), (1, u)] = some A ∧ A.toList = v :: u.cells.toList ++ cs.toList.drop (1 + n) := by
  have e1 : (v.cells.zipIdx.foldl (fun cs (x : Value × Nat) => cs.setIfInBounds (0 + x.2) x.1) cs).toList = v :: cs.toList.drop 1 := by
    rw [hv]
    have := lay_list [v] 0 cs 0 (by simp; omega)
    simpa using this
  generalize hX : (v.cells.zipIdx.foldl (fun cs (x : Value × Nat) => cs.setIfInBounds (0 + x.2) x.1) cs) = X at e1
  have hXs : X.size = cs.size := by
    rw [← Array.length_toList, e1]
    simp
    omega
  refine ⟨u.cells.zipIdx.foldl (fun cs (x : Value × Nat) => cs.setIfInBounds (1 + x.2) x.1) X, ?_, ?_⟩
  · simp only [Instr.fill, h0, h1]
    have hvs : v.cells.size = 1 := by rw [hv]; rfl
    rw [if_neg (by simp only [Bool.or_eq_true, decide_eq_true_eq]; omega)]
    rw [if_neg]
    · exact congrArg some (by rw [← hX])
    · have : (v.cells.zipIdx.foldl (fun cs (x : Value × Nat) => cs.setIfInBounds (0 + x.2) x.1) cs).size = cs.size := by rw [hX, hXs]
      simp only [Bool.or_eq_true, decide_eq_true_eq]
      omega
  · have h2 := lay_list u.cells.toList 1 X 0 (by simp; omega)
    have h3 : u.cells.toList.zipIdx = u.cells.zipIdx.toList := by simp
    rw [h3, Array.foldl_toList] at h2
    rw [h2, e1]
    simp [hu, Nat.add_comm]
theorem built_two {P : Program} (t : TypeId) (fs : Array Field) (places : List (Nat × Nat)) (Z : List Value) (N n : Nat) (hi : (P.info? t).map (fun i => (i.zero.map (fun z => z.cells.toList), i.size)) = some (some Z, N)) (hu : P.underlying t = some (.struct fs))
    (hp : fs.toList.mapM (fun f => (P.info? f.type).map fun i => (f.offset, i.size)) = some places) (h0 : places[0]? = some (0, 1)) (h1 : places[1]? = some (1, n)) (hN : 1 + n ≤ Z.length)
    (v u : Value) (hv : v.cells = #[v]) (hun : u.cells.size = n) : ∃ A, P.built t [(0, v), (1, u)] = some A ∧ A.toList = v :: u.cells.toList ++ Z.drop (1 + n) := by
  unfold Program.built
  cases hq : P.info? t with
  | none => rw [hq] at hi; cases hi
  | some i =>
    rw [hq] at hi
    rw [hu]
    cases hz : i.zero with
    | none => simp only [Option.map_some, hz, Option.map_none] at hi; cases hi
    | some z =>
      simp only [Option.map_some, hz, Option.some.injEq, Prod.mk.injEq] at hi
      simp only [hp, hz]
      obtain ⟨A, hA, hA2⟩ := fill_two (fun x => places.toArray[x]?) z.cells v u n (by simpa using h0) (by simpa using h1) hv hun (by rw [← Array.length_toList, hi.1]; exact hN)
      exact ⟨A, hA, by rw [hA2, hi.1]⟩
section
variable {P : Program} {ops : Array Oper} {rest : List Oper} {o : Oper} {a : Act} {w : World} {Q : Exit → Act → World → Prop}
/-- a variable of its own -/
theorem wpList_alloc_at (t : TypeId) (z : Value) (n : Nat) (hi : (P.info? t).map (fun i => (i.zero, i.size)) = some (some z, n)) (ho : o.op = .alloc t ∧ o.guard = none)
    (h : ∀ w', At w' w.heap.size 0 z.cells.toList → Below w.heap.size w w' → w'.heap.size = w.heap.size + 1 → wpList P ops Q rest (a.put o.dst (.pointer (some ⟨w.heap.size, 0, none⟩))) w') : wpList P ops Q (o :: rest) a w := by
  refine wpList_plain ho.2 fun K hK => ?_
  unfold Oper.wp execOp
  cases hq : P.info? t with
  | none => simp [hq] at hi
  | some i =>
    simp [hq] at hi
    simp only [ho.1, Instr.alloc, zeroValue, typeInfo, newVar, newRow, Sem.run_bind]
    simp [hq, hi.1, Sem.run_bind, Result.andThen]
    exact hK _ _ (h _ (At.ofAlloc w z.cells t) ((Below.refl _ _).alloc (Nat.le_refl _) _) (by simp))
/-- a variable that begins with a value -/
theorem wpList_box_at (t : TypeId) (x : Operand) (v : Value) (ho : o.op = .box t x ∧ o.guard = none ∧ a.eval x = v)
    (h : ∀ w', At w' w.heap.size 0 v.cells.toList → Below w.heap.size w w' → w'.heap.size = w.heap.size + 1 → wpList P ops Q rest (a.put o.dst (.pointer (some ⟨w.heap.size, 0, none⟩))) w') : wpList P ops Q (o :: rest) a w := by
  refine wpList_plain ho.2.1 fun K hK => ?_
  unfold Oper.wp execOp
  simp only [ho.1, ho.2.2, Instr.box, newVar, newRow, Sem.run_bind]
  simp [Sem.run_bind, Result.andThen]
  exact hK _ _ (h _ (At.ofAlloc w v.cells t) ((Below.refl _ _).alloc (Nat.le_refl _) _) (by simp))
theorem wpList_load_at (ty : TypeId) (x : Operand) (b oo : Nat) (cs : List Value) (d : TypeDesc) (hc : At w b oo cs) (hu : P.underlying ty = some d) (hd : d.isRow = true) (hi : (P.info? ty).map (·.size) = some cs.length)
    (ho : o.op = .load ty x ∧ o.guard = none ∧ a.eval x = .pointer (some ⟨b, oo, none⟩)) (h : wpList P ops Q rest (a.put o.dst (.agg cs.toArray)) w) : wpList P ops Q (o :: rest) a w :=
  wpList_load_mid ho.2.1 ty x ho.1 b oo ho.2.2 cs d hc.range hu hd hi h
theorem wpList_store_at (ty : TypeId) (x y : Operand) (b oo : Nat) (old cs : List Value) (hc : At w b oo old) (hl : old.length = cs.length) (hi : (P.info? ty).map (·.size) = some cs.length) (h1 : ∀ v ∈ cs, v.oneCell' = true)
    (ho : o.op = .store ty x y ∧ o.guard = none ∧ a.eval x = .pointer (some ⟨b, oo, none⟩) ∧ a.eval y = .agg cs.toArray)
    (h : wpList P ops Q rest (a.put o.dst undef) (w.setCells b oo cs)) : wpList P ops Q (o :: rest) a w :=
  wpList_store_mid ho.2.1 ty x y ho.1 b oo cs.toArray ho.2.2.1 ho.2.2.2 (by have := hc.there; rw [hl] at this; simpa using this) (by simpa using hi) (all_oneCell_toArray h1) (by simpa using h)
theorem run_store_at {b oo : Nat} {old cs : List Value} (hc : At w b oo old) (hl : old.length = cs.length) (h1 : ∀ v ∈ cs, v.oneCell' = true) : (storeCells ⟨b, oo, none⟩ cs).run P w = .ok () (w.setCells b oo cs) := by
  have ht := hc.there
  rw [hl] at ht
  have := run_storeCells_cells (P := P) b oo cs 0 w (fun j hj => by simpa using (ht j (by simpa using hj)).1) (fun j hj => by simpa using (ht j (by simpa using hj)).2) h1
  simpa using this
theorem wpList_build_at (t : TypeId) (parts : Array (Nat × Operand)) (vs : List (Nat × Value)) (A : Array Value) (hA : P.built t vs = some A) (ho : o.op = .build t parts ∧ o.guard = none ∧ (parts.map fun (i, x) => (i, a.eval x)).toList = vs)
    (h : wpList P ops Q rest (a.put o.dst (.agg A)) w) : wpList P ops Q (o :: rest) a w := by
  obtain ⟨h1, h2, h3⟩ := ho
  refine wpList_build h2 t parts h1 (by rw [h3, hA]; rfl) ?_
  rw [h3, hA]
  exact h
theorem results_at {fn : Func} {p : Tmp} {ty : TypeId} (h : fn.results = #[.cell p ty]) (tmps : Array Value) (g : Nat) (cs : List Value) (d : TypeDesc)
    (hp : tmps.getD p undef = .pointer (some ⟨g, 0, none⟩)) (hg : At w g 0 cs) (hu : P.underlying ty = some d) (hd : d.isRow = true) (hi : (P.info? ty).map (·.size) = some cs.length) :
    (results fn tmps).run P w = .ok (.agg cs.toArray) w := by
  have hp' : tmps[p]?.getD undef = .pointer (some ⟨g, 0, none⟩) := by simpa using hp
  simp [results, h, hp', asAddr, run_loadVar_mid w g 0 ty cs d hg.range hu hd hi]
end
/-! ### words -/
def wcells (l : List UInt32) : List Value := l.map fun x => Value.int .u32 (x.toNat : Int)
theorem wcells_length (l : List UInt32) : (wcells l).length = l.length := by simp [wcells]
theorem wcells_append (l m : List UInt32) : wcells (l ++ m) = wcells l ++ wcells m := by simp [wcells]
theorem wcells_get (l : List UInt32) (j : Nat) (hj : j < l.length) : (wcells l)[j]? = some (.int .u32 (l[j].toNat : Int)) := by simp [wcells, hj]
theorem wcells_set (l : List UInt32) (j : Nat) (u : UInt32) : (wcells l).set j (.int .u32 (u.toNat : Int)) = wcells (l.set j u) := by
  simp [wcells, List.map_set]
theorem wcells_one (l : List UInt32) : ∀ u ∈ wcells l, u.oneCell' = true := by
  intro u hu
  simp only [wcells, List.mem_map] at hu
  obtain ⟨b, _, rfl⟩ := hu
  rfl
theorem wcells_made (n : Nat) : (madeCells (Value.int .u32 0).cells (n * 1)).toList = wcells (List.replicate n 0) := by
  rw [show (Value.int .u32 0).cells = #[Value.int .u32 0] from rfl, toList_madeCells_one]
  simp [wcells]
theorem At.w32 {w : World} {g o : Nat} {l : List UInt32} (h : At w g o (wcells l)) (j : Nat) (hj : j < l.length) : w.cell? ⟨g, o + j, none⟩ = some (.int .u32 ((l.getD j 0).toNat : Int)) := by
  rw [h.cell j _ (wcells_get l j hj)]
  simp [List.getD, hj]
theorem At.w32set {w : World} {g o : Nat} {l : List UInt32} (h : At w g o (wcells l)) (j : Nat) (u : UInt32) : At (w.setCell ⟨g, o + j, none⟩ (.int .u32 (u.toNat : Int))) g o (wcells (l.set j u)) := by
  have := h.set j (.int .u32 (u.toNat : Int))
  rw [wcells_set] at this
  exact this
theorem At.b8 {w : World} {g o : Nat} {l : List UInt8} (h : At w g o (bcells l)) (j : Nat) (hj : j < l.length) : w.cell? ⟨g, o + j, none⟩ = some (.int .u8 ((l.getD j 0).toNat : Int)) := by
  rw [h.cell j _ (bcells_get l j hj)]
  simp [List.getD, hj]
theorem At.b8set {w : World} {g o : Nat} {l : List UInt8} (h : At w g o (bcells l)) (j : Nat) (u : UInt8) : At (w.setCell ⟨g, o + j, none⟩ (.int .u8 (u.toNat : Int))) g o (bcells (l.set j u)) := by
  have := h.set j (.int .u8 (u.toNat : Int))
  rw [bcells_set] at this
  exact this
/-- a row that grows into zeros -/
theorem grow_set {α : Type} (l : List α) (z u : α) (N : Nat) (h : l.length < N) : (l ++ List.replicate (N - l.length) z).set l.length u = (l ++ [u]) ++ List.replicate (N - (l ++ [u]).length) z := by
  rw [List.set_append_right _ _ (Nat.le_refl _), Nat.sub_self]
  rw [show N - l.length = (N - (l ++ [u]).length) + 1 by simp; omega, List.replicate_succ]
  simp
end Go.Proofs.YtflofbimecnakaaGreat
namespace Go.Proofs.YtflofbimecnakaaGreat
open Go.RowKit
set_option linter.unusedVariables false
set_option linter.unusedSimpArgs false
/-- a row that is written over from its head on -/
def mixP {α : Type} (N : Nat) (f g : Nat → α) (k : Nat) : List α := (List.range N).map fun i => if i < k then f i else g i
theorem mixP_length {α : Type} (N : Nat) (f g : Nat → α) (k : Nat) : (mixP N f g k).length = N := by simp [mixP]
theorem mixP_zero {α : Type} (N : Nat) (f g : Nat → α) : mixP N f g 0 = (List.range N).map g := by simp [mixP]
theorem mixP_full {α : Type} (N : Nat) (f g : Nat → α) : mixP N f g N = (List.range N).map f := by
  apply List.ext_getElem
  · simp [mixP]
  · intro i h1 h2
    have : i < N := by simpa [mixP] using h1
    simp [mixP, this]
theorem mixP_set {α : Type} (N : Nat) (f g : Nat → α) (k : Nat) : (mixP N f g k).set k (f k) = mixP N f g (k + 1) := by
  apply List.ext_getElem
  · simp [mixP]
  · intro i h1 h2
    have hi : i < N := by simpa [mixP] using h2
    rw [List.getElem_set]
    by_cases e : k = i
    · subst e
      simp [mixP]
    · rw [if_neg e]
      simp only [mixP, List.getElem_map, List.getElem_range]
      by_cases h : i < k
      · rw [if_pos h, if_pos (by omega)]
      · rw [if_neg h, if_neg (by omega)]
theorem mixP_at {α : Type} (N : Nat) (f g : Nat → α) (k j : Nat) (d : α) (hj : j < N) : (mixP N f g k).getD j d = if j < k then f j else g j := by simp [mixP, List.getD, hj]
theorem map_getD {α : Type} (l : List α) (d : α) (N : Nat) (h : l.length = N) : (List.range N).map (fun i => l.getD i d) = l := by
  subst h
  apply List.ext_getElem
  · simp
  · intro i h1 h2
    simp [List.getD, h2]
theorem col_zero : (#[Value.int .u32 0, Value.int .u32 0, Value.int .u32 0, Value.int .u32 0] : Array Value).toList = wcells [0, 0, 0, 0] := rfl
section
variable {P : Program} {w : World}
theorem results_at_two {fn : Func} {p u : Tmp} {ty : TypeId} (h : fn.results = #[.cell p ty, .tmp u]) (tmps : Array Value) (g : Nat) (cs : List Value) (d : TypeDesc)
    (hp : tmps.getD p undef = .pointer (some ⟨g, 0, none⟩)) (hg : At w g 0 cs) (hu : P.underlying ty = some d) (hd : d.isRow = true) (hi : (P.info? ty).map (·.size) = some cs.length) (v : Value) (hv : tmps.getD u undef = v) :
    (results fn tmps).run P w = .ok (.tuple #[.agg cs.toArray, v]) w := by
  subst hv
  have hp' : tmps[p]?.getD undef = .pointer (some ⟨g, 0, none⟩) := by simpa using hp
  simp [results, h, hp', asAddr, run_loadVar_mid w g 0 ty cs d hg.range hu hd hi, Result.andThen]
end
end Go.Proofs.YtflofbimecnakaaGreat
namespace Go.Proofs.YtflofbimecnakaaGreat
open Go.RowKit
set_option linter.unusedVariables false
set_option linter.unusedSimpArgs false
section
variable {w w' : World} {base : Nat} {e : TypeId} {size : Nat} {v : Value} {n : Nat} {xs : List Value}
theorem own_same (h : w.ownsRow base e size v n xs) (hs : ∀ k, v.ownBlock = some k → w'.heap[k]? = w.heap[k]?) : w'.ownsRow base e size v n xs := by
  obtain ⟨hl, h⟩ := h
  refine ⟨hl, ?_⟩
  rcases h with h | ⟨g, cap, cur, hv, hb, hg, rest⟩
  · exact .inl h
  · refine .inr ⟨g, cap, cur, hv, hb, ?_, rest⟩
    rw [hs g (by rw [hv]; rfl)]
    exact hg
theorem heap_set_ne (w : World) (a : Addr) (u : Value) (k : Nat) (h : a.block ≠ k) : (w.setCell a u).heap[k]? = w.heap[k]? := by
  simp only [World.setCell, Array.getElem?_modify]
  rw [if_neg h]
theorem heap_sets_ne (g k : Nat) (h : g ≠ k) : ∀ (vs : List Value) (o : Nat) (w : World), (w.setCells g o vs).heap[k]? = w.heap[k]?
  | [], _, _ => rfl
  | v :: vs, o, w => by
    rw [World.setCells, heap_sets_ne g k h vs]
    exact heap_set_ne w _ v k h
theorem own_set (h : w.ownsRow base e size v n xs) (a : Addr) (u : Value) (hne : ∀ k, v.ownBlock = some k → a.block ≠ k) : (w.setCell a u).ownsRow base e size v n xs :=
  own_same h fun k hk => heap_set_ne w a u k (hne k hk)
theorem own_sets (h : w.ownsRow base e size v n xs) (g o : Nat) (vs : List Value) (hne : ∀ k, v.ownBlock = some k → g ≠ k) : (w.setCells g o vs).ownsRow base e size v n xs :=
  own_same h fun k hk => heap_sets_ne g k (hne k hk) vs o w
theorem own_below {B : Nat} (h : w.ownsRow base e size v n xs) (hb : Below B w w') (hB : w.heap.size ≤ B) : w'.ownsRow base e size v n xs :=
  own_same h fun k hk => hb.block k (by have := (h.lt k hk).2; omega)
theorem At.ofOwnN {cap g : Nat} (h : w.ownsRow base e size (.slice (some ⟨g, 0, none⟩) n cap) n xs) : At w g 0 xs := fun j u hv => by
  have hj : j < xs.length := (List.getElem?_eq_some_iff.1 hv).1
  rw [Nat.zero_add]
  exact ⟨by rw [h.cellAt j (by have := h.1; omega)]; exact hv, h.frozenAt j⟩
theorem At.grown {g o : Nat} {cs : List Value} {row : Option Nat} (h : At w g o cs) (hg : w.grownBy w' row) (hlt : g < w.heap.size) (hne : row ≠ some g) : At w' g o cs := fun j u hv => by
  obtain ⟨h1, h2⟩ := h j u hv
  have hb := hg.block g hlt (fun e => hne e.symm)
  constructor
  · rw [← h1]
    simp only [World.cell?, hb]
  · rw [← h2]
    simp only [World.frozen?, hb]
theorem At.sub {g o : Nat} {a b c : List Value} (h : At w g o (a ++ b ++ c)) : At w g (o + a.length) b := fun j u hv => by
  have hj : j < b.length := (List.getElem?_eq_some_iff.1 hv).1
  have := h (a.length + j) u (by
    rw [List.getElem?_append_left (by rw [List.length_append]; omega), List.getElem?_append_right (by omega), Nat.add_sub_cancel_left]
    exact hv)
  rw [Nat.add_assoc]
  exact this
end
end Go.Proofs.YtflofbimecnakaaGreat
namespace Go.Proofs.YtflofbimecnakaaGreat
open Go.RowKit
set_option linter.unusedVariables false
set_option linter.unusedSimpArgs false
theorem i64n_toNat (x : Nat) (h : x < 18446744073709551616) : (BitVec.ofInt 64 (x : Int)).toNat = x := by
  rw [BitVec.toNat_ofInt]
  omega
theorem i64n_xor (x y : Nat) (hx : x < 4611686018427387904) (hy : y < 4611686018427387904) : bits .xor .i64 (x : Int) (y : Int) = ((x ^^^ y : Nat) : Int) := by
  show IntKind.i64.wrap ((BitVec.ofInt 64 (x : Int) ^^^ BitVec.ofInt 64 (y : Int)).toNat : Nat) = _
  rw [BitVec.toNat_xor, i64n_toNat x (by omega), i64n_toNat y (by omega), IntKind.wrap_i64]
  have : x ^^^ y < 2 ^ 62 := Nat.xor_lt_two_pow (by omega) (by omega)
  omega
theorem i64n_or (x y : Nat) (hx : x < 4611686018427387904) (hy : y < 4611686018427387904) : bits .or .i64 (x : Int) (y : Int) = ((x ||| y : Nat) : Int) := by
  show IntKind.i64.wrap ((BitVec.ofInt 64 (x : Int) ||| BitVec.ofInt 64 (y : Int)).toNat : Nat) = _
  rw [BitVec.toNat_or, i64n_toNat x (by omega), i64n_toNat y (by omega), IntKind.wrap_i64]
  have : x ||| y < 2 ^ 62 := Nat.or_lt_two_pow (by omega) (by omega)
  omega
theorem i64n_and1 (n : Int) : bits .and .i64 n 1 = n % 2 := by
  have h1 : (BitVec.ofInt 64 1).toNat = 2 ^ 1 - 1 := by decide
  have key : (BitVec.ofInt 64 n &&& BitVec.ofInt 64 1).toNat = (n % ((2 ^ 64 : Nat) : Int)).toNat % 2 ^ 1 := by
    rw [BitVec.toNat_and, BitVec.toNat_ofInt, h1, Nat.and_two_pow_sub_one_eq_mod]
  show IntKind.i64.wrap ((BitVec.ofInt 64 n &&& BitVec.ofInt 64 1).toNat : Nat) = n % 2
  rw [key, IntKind.wrap_i64]
  omega
theorem i64n_bit (x d : Nat) : bits .and .i64 ((x : Int) / (2 : Int) ^ d) 1 = (((x.testBit d).toNat : Nat) : Int) := by
  rw [i64n_and1, Nat.testBit_eq_decide_div_mod_eq]
  have : (x : Int) / (2 : Int) ^ d = ((x / 2 ^ d : Nat) : Int) := by
    rw [Int.natCast_ediv, Int.natCast_pow]
    rfl
  rw [this]
  rcases Nat.mod_two_eq_zero_or_one (x / 2 ^ d) with h | h <;> rw [h] <;> simp <;> omega
theorem u8n_bit (x d : Nat) (hx : x < 256) : bits .and .u8 ((x : Int) / (2 : Int) ^ d) 1 = (((x.testBit d).toNat : Nat) : Int) := by
  have e : (x : Int) / (2 : Int) ^ d = ((x / 2 ^ d : Nat) : Int) := by
    rw [Int.natCast_ediv, Int.natCast_pow]
    rfl
  have hlt : x / 2 ^ d < 256 := Nat.lt_of_le_of_lt (Nat.div_le_self _ _) hx
  have h := u8_and_nat (x / 2 ^ d) 1 hlt (by decide)
  rw [nat_mask1] at h
  rw [e, Nat.testBit_eq_decide_div_mod_eq]
  refine h.trans ?_
  rcases Nat.mod_two_eq_zero_or_one (x / 2 ^ d) with h | h <;> rw [h] <;> simp
theorem w64n (n : Nat) (h : n < 9223372036854775808) : wrap64 (n : Int) = (n : Int) := by
  rw [← IntWalk.i64_left, IntKind.wrap_i64]
  omega
theorem w64_pow (x k : Nat) (h : x * 2 ^ k < 9223372036854775808) : wrap64 ((x : Int) * (2 : Int) ^ k) = ((x * 2 ^ k : Nat) : Int) := by
  have e : (x : Int) * (2 : Int) ^ k = ((x * 2 ^ k : Nat) : Int) := by
    rw [Int.natCast_mul, Int.natCast_pow]
    rfl
  rw [e, w64n _ h]
end Go.Proofs.YtflofbimecnakaaGreat
namespace Go.Proofs.YtflofbimecnakaaGreat
open Go.RowKit
set_option linter.unusedVariables false
set_option linter.unusedSimpArgs false
theorem infoU : (Tryz.prog.info? 91).map (fun i => (i.zero, i.size, i.bytes)) = some (some (.int .u64 0), 1, 8) := by kernel_rfl
def ucells (l : List Nat) : List Value := l.map fun (x : Nat) => Value.int .u64 (x : Int)
theorem ucells_length (l : List Nat) : (ucells l).length = l.length := by simp [ucells]
theorem ucells_append (l m : List Nat) : ucells (l ++ m) = ucells l ++ ucells m := by simp [ucells]
theorem ucells_get (l : List Nat) (j : Nat) (hj : j < l.length) : (ucells l)[j]? = some (.int .u64 ((l.getD j 0 : Nat) : Int)) := by simp [ucells, List.getD, hj]
theorem ucells_set (l : List Nat) (j u : Nat) : (ucells l).set j (.int .u64 (u : Int)) = ucells (l.set j u) := by simp [ucells, List.map_set]
theorem ucells_one (l : List Nat) : ∀ u ∈ ucells l, u.oneCell' = true := by
  intro u hu
  simp only [ucells, List.mem_map] at hu
  obtain ⟨b, _, rfl⟩ := hu
  rfl
theorem ucells_one1 {w : World} {g : Nat} {u : Nat} (h : w.cell? ⟨g, 0, none⟩ = some (.int .u64 (u : Int))) : ∀ j x, (ucells [u])[j]? = some x → w.cell? ((⟨g, 0, none⟩ : Addr).add j) = some x := by
  intro j x hx
  match j, hx with
  | 0, hx => simp [ucells] at hx; subst hx; exact h
theorem At.u {w : World} {g o : Nat} {l : List Nat} (h : At w g o (ucells l)) (j : Nat) (hj : j < l.length) : w.cell? ⟨g, o + j, none⟩ = some (.int .u64 ((l.getD j 0 : Nat) : Int)) ∧ w.frozen? ⟨g, o + j, none⟩ = false :=
  ⟨h.cell j _ (ucells_get l j hj), h.froz j (by rw [ucells_length]; exact hj)⟩
theorem At.uset {w : World} {g o : Nat} {l : List Nat} (h : At w g o (ucells l)) (j u : Nat) : At (w.setCell ⟨g, o + j, none⟩ (.int .u64 (u : Int))) g o (ucells (l.set j u)) := by
  rw [← ucells_set]
  exact h.set j _
section
variable {P : Program} {w : World}
theorem wpList_append_u64 {ops : Array Oper} {rest : List Oper} {o : Oper} {a : Act} {Q : Exit → Act → World → Prop} (hgd : o.guard = none) (s x : Operand) (t : TypeId)
    (ho : o.op = .call { callee := .builtin .append, args := #[s, x], argTypes := #[t, t] })
    (base : Nat) (e : TypeId) (i : TypeInfo) (ht : P.underlying t = some (.slice e)) (hi : P.info? e = some i) (hz : i.zero = some (.int .u64 0)) (hsize : i.size = 1) (hby : i.bytes = 8)
    (v : Value) (n : Nat) (l : List Nat) (hs : a.eval s = v) (hown : w.ownsRow base e 1 v n (ucells l))
    (g c : Nat) (u : Nat) (hx : a.eval x = .slice (some ⟨g, 0, none⟩) 1 c) (hcell : w.cell? ⟨g, 0, none⟩ = some (.int .u64 (u : Int)))
    (hn : n ≤ 17592186044415) (hbase : base ≤ w.heap.size)
    (h : ∀ v' w', w'.ownsRow base e 1 v' (n + 1) (ucells (l ++ [u])) → w.grownBy w' v.ownBlock → wpList P ops Q rest (a.put o.dst v') w') : wpList P ops Q (o :: rest) a w := by
  refine wpList_append_own w hgd s x t ho base e i (.int .u64 0) 1 8 ht hi hz hsize hby rfl (by decide) v n (ucells l) hs hown ⟨g, 0, none⟩ 1 c (ucells [u]) hx (by rw [ucells_length]; rfl) (ucells_one1 hcell) (ucells_one _) (by unfold maxLen; omega) (by omega) hbase ?_
  intro v' w' h1 h2 _
  rw [← ucells_append] at h1
  exact h v' w' h1 h2
end
/-- what the call returns: a number of 64 bits -/
def RetU (n : Nat) (w : World) (e : Ending) (w' : World) : Prop := e = .returned (.int .u64 (n : Int)) ∧ Below w.heap.size w w'
end Go.Proofs.YtflofbimecnakaaGreat
namespace Go.Proofs.YtflofbimecnakaaGreat
open Go.RowKit
set_option linter.unusedVariables false
set_option linter.unusedSimpArgs false
section
variable {P : Program} {w : World}
theorem run_copy_text (dT sT ty elem : TypeId) (g o dLen dCap : Nat) (s : ByteArray) (old : List Value) (hu : P.underlying dT = some (.slice elem)) (hi : (P.info? elem).map (·.size) = some 1)
    (hc : At w g o old) (m : Nat) (hm : Nat.min s.size dLen = m) (ho : old.length = m) :
    (Builtin.copy_ #[dT, sT] ty #[.slice (some ⟨g, o, none⟩) dLen dCap, .string s]).run P w = .ok (goInt m) (w.setCells g o (bcells (s.toList.take m))) := by
  have hl : (bcells (s.toList.take m)).length = m := by
    rw [bcells_length, List.length_take, tl_size]
    have : Nat.min s.size dLen ≤ s.size := Nat.min_le_left _ _
    omega
  have hst := run_store_at (P := P) hc (cs := bcells (s.toList.take m)) (by rw [hl, ho]) (bcells_one _)
  have e1 : List.take m (s.data.toList.map fun x => Value.int .u8 (x.toNat : Int)) = bcells (s.toList.take m) := by
    rw [Lib.toList_data, bcells, List.map_take]
  cases hq : P.info? elem with
  | none => simp [hq] at hi
  | some i =>
    have hi1 : i.size = 1 := by simpa [hq] using hi
    simp [Builtin.copy_, run_underlying hu, Builtin.lenOf, Builtin.firstCells, sizeOf, typeInfo, hq, hi1, hm]
    rw [e1, hst]
    rfl
theorem wpList_copy_text {ops : Array Oper} {rest : List Oper} {o : Oper} {a : Act} {Q : Exit → Act → World → Prop} (hgd : o.guard = none) (d x : Operand) (dT sT : TypeId)
    (ho : o.op = .call { callee := .builtin .copy, args := #[d, x], argTypes := #[dT, sT] }) (elem : TypeId) (hu : P.underlying dT = some (.slice elem)) (hi : (P.info? elem).map (·.size) = some 1)
    (g off dLen dCap : Nat) (hd : a.eval d = .slice (some ⟨g, off, none⟩) dLen dCap) (s : ByteArray) (hx : a.eval x = .string s) (old : List Value) (hc : At w g off old) (m : Nat) (hm : Nat.min s.size dLen = m) (hol : old.length = m)
    (h : ∀ w', Hid (w' = w.setCells g off (bcells (s.toList.take m))) → wpList P ops Q rest (a.put o.dst (goInt m)) w') : wpList P ops Q (o :: rest) a w := by
  refine wpList_plain hgd fun K hK => ?_
  have hrun := run_copy_text (P := P) dT sT o.type elem g off dLen dCap s old hu hi hc m hm hol
  unfold Oper.wp
  simp [execOp, ho, resolve, invoke, builtin, hd, hx, hrun, Result.andThen]
  exact hK _ _ (h _ rfl)
theorem step_copy_text {ops : Array Oper} {o : Oper} {a : Act} {K : Act → World → Prop} {Q : Exit → Act → World → Prop} {E : Prop} (hgd : o.guard = none) (d x : Operand) (dT sT : TypeId)
    (ho : o.op = .call { callee := .builtin .copy, args := #[d, x], argTypes := #[dT, sT] }) (elem : TypeId) (hu : P.underlying dT = some (.slice elem)) (hi : (P.info? elem).map (·.size) = some 1)
    (g off dLen dCap : Nat) (hd : a.eval d = .slice (some ⟨g, off, none⟩) dLen dCap) (s : ByteArray) (hx : a.eval x = .string s) (old : List Value) (hc : At w g off old) (m : Nat) (hm : Nat.min s.size dLen = m) (hol : old.length = m)
    (h : ∀ w', Hid (w' = w.setCells g off (bcells (s.toList.take m))) → K (a.put o.dst (goInt m)) w') :
    if Region.wanted o (yielded ops a.tmps) = true then Oper.wp P o a w K Q else E := by
  have hw : Region.wanted o (yielded ops a.tmps) = true := by simp [Region.wanted, hgd]
  rw [if_pos hw]
  have hrun := run_copy_text (P := P) dT sT o.type elem g off dLen dCap s old hu hi hc m hm hol
  unfold Oper.wp
  simp [execOp, ho, resolve, invoke, builtin, hd, hx, hrun, Result.andThen]
  exact h _ rfl
end
/-- what stays as it was -/
theorem At.ofCopy {w w' : World} {g o : Nat} {old new : List Value} (h : At w g o old) (hl : old.length = new.length) (hw : w' = w.setCells g o new) : At w' g o new := by
  subst hw
  exact h.ofSets hl
theorem At.byCopy {w w' : World} {g o g' o' : Nat} {cs new : List Value} (h : At w g o cs) (hw : w' = w.setCells g' o' new) (hne : g' ≠ g ∨ o' + new.length ≤ o ∨ o + cs.length ≤ o') : At w' g o cs := by
  subst hw
  exact h.apartSets hne
theorem below_copy {B g o : Nat} {a w w' : World} {new : List Value} (h : Below B a w) (hg : B ≤ g) (hw : w' = w.setCells g o new) : Below B a w' := by
  subst hw
  exact below_sets _ _ hg _ _ _ _ h
theorem At.join {w : World} {g o : Nat} {a b : List Value} (h1 : At w g o a) (h2 : At w g (o + a.length) b) : At w g o (a ++ b) := fun j v hv => by
  rcases Nat.lt_or_ge j a.length with hj | hj
  · exact h1 j v (by rw [List.getElem?_append_left hj] at hv; exact hv)
  · have := h2 (j - a.length) v (by rw [List.getElem?_append_right hj] at hv; exact hv)
    rw [Nat.add_assoc, show a.length + (j - a.length) = j by omega] at this
    exact this
theorem At.midOf {w : World} {g o : Nat} {A Z R : List UInt8} (h : At w g 0 (bcells (A ++ (Z ++ R)))) (hA : A.length = o) : At w g o (bcells Z) := by
  rw [← List.append_assoc, bcells_append, bcells_append] at h
  have h2 := h.sub
  rwa [bcells_length, hA, Nat.zero_add] at h2
theorem At.midSet {w w' : World} {g o : Nat} {A Z R X : List UInt8} (h : At w g 0 (bcells (A ++ (Z ++ R)))) (hA : A.length = o) (hZ : Z.length = X.length) (hw : w' = w.setCells g o (bcells X)) : At w' g 0 (bcells (A ++ (X ++ R))) := by
  have hz := h.midOf hA
  rw [bcells_append, bcells_append] at h
  have h1 : At w g 0 (bcells A) := At.sub (a := []) h
  have h3 : At w g (o + Z.length) (bcells R) := by
    have h0 : At w g 0 ((bcells A ++ bcells Z) ++ bcells R ++ []) := by rw [List.append_nil, List.append_assoc]; exact h
    have h2 := h0.sub
    rwa [List.length_append, bcells_length, bcells_length, hA, Nat.zero_add] at h2
  have k1 : At w' g 0 (bcells A) := h1.byCopy hw (.inr (.inr (by rw [bcells_length]; omega)))
  have k2 : At w' g o (bcells X) := hz.ofCopy (by rw [bcells_length, bcells_length, hZ]) hw
  have k3 : At w' g (o + X.length) (bcells R) := by
    rw [← hZ]
    exact h3.byCopy hw (.inr (.inl (by rw [bcells_length]; omega)))
  rw [bcells_append, bcells_append]
  refine k1.join ?_
  rw [bcells_length, hA, Nat.zero_add]
  refine k2.join ?_
  rw [bcells_length]
  exact k3
end Go.Proofs.YtflofbimecnakaaGreat
namespace Go.Proofs.YtflofbimecnakaaGreat
open Go.RowKit
set_option linter.unusedVariables false
set_option linter.unusedSimpArgs false
theorem At.ofHeap {w : World} {g : Nat} {cur : Array Value} {e : TypeId} {fz : Nat × Nat} (h : w.heap[g]? = some (.cells cur e fz)) (hf : fz.2 = 0 ∨ cur.size ≤ fz.1) : At w g 0 cur.toList := fun j v hv => by
  rw [Nat.zero_add]
  have hj : j < cur.size := by have := (List.getElem?_eq_some_iff.1 hv).1; simpa using this
  constructor
  · rw [cell_of_row w g j cur e fz h]; simpa using hv
  · obtain ⟨lo, hi⟩ := fz
    simp only [World.frozen?, h, Bool.and_eq_false_iff, decide_eq_false_iff_not]
    simp only at hf
    omega
/-- bytes in a row of the call's own, and room behind them -/
def Bag (w : World) (B : Nat) (v : Value) (l : List UInt8) : Prop := ∃ g cap spare, v = .slice (some ⟨g, 0, none⟩) l.length cap ∧ B ≤ g ∧ l.length ≤ cap ∧ spare.length = cap - l.length ∧ At w g 0 (bcells l ++ spare)
theorem Bag.alloc {w : World} {B : Nat} {v : Value} {l : List UInt8} (h : Bag w B v l) (o : Obj) : Bag (w.alloc o) B v l := by
  obtain ⟨g, cap, sp, hv, hb, hc, hs, ha⟩ := h
  exact ⟨g, cap, sp, hv, hb, hc, hs, ha.alloc o⟩
theorem Bag.drew {w : World} {B : Nat} {v : Value} {l : List UInt8} (h : Bag w B v l) : Bag w.drew B v l := h
theorem Bag.is {w : World} {B : Nat} {v : Value} {l : List UInt8} (h : Bag w B v l) : ∃ g cap, v = .slice (some ⟨g, 0, none⟩) l.length cap ∧ At w g 0 (bcells l) := by
  obtain ⟨g, cap, sp, hv, hb, hc, hs, ha⟩ := h
  exact ⟨g, cap, hv, ha.sub (a := []) (b := bcells l) (c := sp)⟩
theorem Bag.ofOwn {w : World} {B e n : Nat} {v : Value} {l : List UInt8} (h : w.ownsRow B e 1 v n (bcells l)) (hn : 0 < n) : Bag w B v l := by
  have hl : l.length = n := by have := h.1; rw [bcells_length] at this; simpa using this
  rcases h.2 with ⟨_, h0⟩ | ⟨g, cap, cur, hv, hb, hg, hnc, hcm, hcs, htake⟩
  · omega
  · refine ⟨g, cap, cur.toList.drop n, by rw [hv, hl], hb, by omega, by rw [List.length_drop, Array.length_toList, hcs]; omega, ?_⟩
    have h2 := At.ofHeap hg (.inl rfl)
    rw [← htake, Nat.mul_one, List.take_append_drop]
    exact h2
theorem wpList_bytes_bag {P : Program} (w : World) {ops : Array Oper} {rest : List Oper} {o : Oper} {a : Act} {Q : Exit → Act → World → Prop}
    (hg : o.guard = none) (x : Operand) (src dst e : TypeId) (hop : o.op = Op.convert src dst x) (h1 : P.underlying src = some .string) (h2 : P.underlying dst = some (.slice e)) (h3 : P.underlying e = some (.int .u8))
    (s : ByteArray) (hx : a.eval x = .string s) (B : Nat) (hB : B ≤ w.heap.size)
    (hK : ∀ v w', Bag w' B v s.toList → Below B w w' → wpList P ops Q rest (a.put o.dst v) w') :
    wpList P ops Q (o :: rest) a w := by
  refine wpList_plain hg fun K hK' => ?_
  have hrun := run_bytes_of_string (P := P) w src dst e s h1 h2 h3
  unfold Oper.wp
  simp [execOp, hop, hx, hrun, Result.andThen]
  have hcap := grownCap_ge w s.size 0 e
  refine hK' _ _ (hK _ _ ⟨w.heap.size, _, Array.toList (Array.replicate (grownCap w s.size 0 e - s.size) (.int .u8 0)), by rw [tl_size], hB, by rw [tl_size]; exact hcap, by rw [tl_size]; simp, ?_⟩ ((Below.refl _ _).drew.alloc hB _))
  have hA := At.ofHeap (heap_alloc_new w.drew (Obj.cells (bytesRow s (grownCap w s.size 0 e)) e ((bytesRow s (grownCap w s.size 0 e)).size, (bytesRow s (grownCap w s.size 0 e)).size + 1))) (.inr (Nat.le_refl _))
  have e1 : (bytesRow s (grownCap w s.size 0 e)).toList = bcells s.toList ++ (Array.replicate (grownCap w s.size 0 e - s.size) (Value.int .u8 0)).toList := by
    unfold bytesRow
    rw [Array.toList_append, Lib.toList_data]
    simp [bcells]
  rw [e1] at hA
  exact hA
theorem wpList_append_bag {P : Program} (w : World) {ops : Array Oper} {rest : List Oper} {o : Oper} {a : Act} {Q : Exit → Act → World → Prop} (hgd : o.guard = none) (s x : Operand) (t : TypeId)
    (ho : o.op = .call { callee := .builtin .append, args := #[s, x], argTypes := #[t, t] })
    (e : TypeId) (i : TypeInfo) (ht : P.underlying t = some (.slice e)) (hi : P.info? e = some i) (hz : i.zero = some (.int .u8 0)) (hsize : i.size = 1) (hby : i.bytes = 1)
    (v : Value) (B : Nat) (l : List UInt8) (hs : a.eval s = v) (hb : Bag w B v l) (gx : Nat) (hx : a.eval x = .slice (some ⟨gx, 0, none⟩) 1 1) (u : UInt8) (hu : w.cell? ⟨gx, 0, none⟩ = some (.int .u8 (u.toNat : Int)))
    (hB : B ≤ w.heap.size) (hn : l.length + 1 ≤ 140737488355328)
    (h : ∀ v' w', Bag w' B v' (l ++ [u]) → Below B w w' → wpList P ops Q rest (a.put o.dst v') w') : wpList P ops Q (o :: rest) a w := by
  obtain ⟨g, cap, sp, rfl, hbg, hlc, hsp, ha⟩ := hb
  refine wpList_plain hgd fun K hK => ?_
  have hnews : ∀ j w0, [Value.int .u8 (u.toNat : Int)][j]? = some w0 → w.cell? ((⟨gx, 0, none⟩ : Addr).add j) = some w0 := by
    intro j w0 hj
    match j with
    | 0 => simp at hj; rw [← hj]; exact hu
    | j + 1 => simp at hj
  have hone : ∀ w0 ∈ [Value.int .u8 (u.toNat : Int)], w0.oneCell' = true := by intro w0 hw0; simp at hw0; rw [hw0]; rfl
  by_cases hroom : l.length + 1 ≤ cap
  · obtain ⟨z, r, rfl⟩ : ∃ z r, sp = z :: r := by
      cases sp with
      | nil => simp at hsp; omega
      | cons z r => exact ⟨z, r, rfl⟩
    have ha3 : At w g 0 (bcells l ++ [z] ++ r) := by rw [List.append_assoc]; exact ha
    have hm := ha3.sub
    rw [bcells_length, Nat.zero_add] at hm
    have hr := run_append_room_cells (P := P) (w := w) t o.type e i ht hi g 0 l.length cap ⟨gx, 0, none⟩ 1 1 [Value.int .u8 (u.toNat : Int)] (by rw [hsize]; rfl) hnews hone hroom
      (by intro j hj; have hj0 : j = 0 := by simpa using hj
          subst hj0; rw [hsize, Nat.zero_add, Nat.mul_one, (hm 0 z rfl).1]; rfl)
      (by intro j hj; have hj0 : j = 0 := by simpa using hj
          subst hj0; rw [hsize, Nat.zero_add, Nat.mul_one]; exact (hm 0 z rfl).2)
    rw [hsize, Nat.zero_add, Nat.mul_one] at hr
    unfold Oper.wp
    simp only [execOp, ho, resolve, invoke, builtin, Sem.run_bind, Sem.run_pure, Result.andThen_ok, List.map_toArray, List.map_cons, List.map_nil, hs, hx, hr]
    refine hK _ _ (h _ _ ⟨g, cap, r, by rw [List.length_append]; rfl, hbg, by rw [List.length_append]; exact hroom, by rw [List.length_append]; simp at hsp ⊢; omega, ?_⟩ (below_sets _ _ hbg _ _ _ _ (Below.refl _ _)))
    have hw : w.setCells g l.length [Value.int .u8 (u.toNat : Int)] = w.setCells g l.length [Value.int .u8 (u.toNat : Int)] := rfl
    have k1 : At (w.setCells g l.length [Value.int .u8 (u.toNat : Int)]) g 0 (bcells l) := (At.sub (a := []) (b := bcells l) (c := [z] ++ r) ha).byCopy hw (.inr (.inr (by rw [bcells_length]; simp)))
    have k2 : At (w.setCells g l.length [Value.int .u8 (u.toNat : Int)]) g l.length [Value.int .u8 (u.toNat : Int)] := hm.ofCopy rfl hw
    have h3 : At w g (l.length + 1) r := by
      have h0 : At w g 0 ((bcells l ++ [z]) ++ r ++ []) := by rw [List.append_nil]; exact ha3
      have h2 := h0.sub
      rwa [List.length_append, bcells_length, Nat.zero_add] at h2
    have k3 : At (w.setCells g l.length [Value.int .u8 (u.toNat : Int)]) g (l.length + 1) r := h3.byCopy hw (.inr (.inl (by simp)))
    rw [bcells_append, List.append_assoc]
    refine k1.join ?_
    rw [bcells_length, Nat.zero_add]
    exact k2.join k3
  · obtain ⟨v', w', hr, h2, h3⟩ := run_append_arg_grows (P := P) (w := w) t o.type e i (.int .u8 0) 1 1 ht hi hz hsize hby rfl (by decide) ⟨g, 0, none⟩ l.length cap (bcells l) (by rw [bcells_length, Nat.mul_one])
      (by intro j w0 hj
          have h4 := (At.sub (a := []) (b := bcells l) (c := sp) ha) j w0 hj
          have hadd : (⟨g, 0, none⟩ : Addr).add j = ⟨g, j, none⟩ := by unfold Addr.add; split <;> simp_all
          rw [hadd]
          simpa using h4.1)
      ⟨gx, 0, none⟩ 1 1 [Value.int .u8 (u.toNat : Int)] rfl hnews (by omega) (by unfold maxLen; omega) (by omega)
    unfold Oper.wp
    simp only [execOp, ho, resolve, invoke, builtin, Sem.run_bind, Sem.run_pure, Result.andThen_ok, List.map_toArray, List.map_cons, List.map_nil, hs, hx, hr]
    have e1 : bcells l ++ [Value.int .u8 (u.toNat : Int)] = bcells (l ++ [u]) := by rw [bcells_append]; rfl
    rw [e1] at h2
    obtain ⟨g', cap', sp', hv', hb', hc', hs', ha'⟩ := Bag.ofOwn h2 (by omega)
    exact hK _ _ (h _ _ ⟨g', cap', sp', hv', Nat.le_trans hB hb', hc', hs', ha'⟩ ((Below.refl _ _).grown h3 hB (fun k hk => by cases hk)))
end Go.Proofs.YtflofbimecnakaaGreat
