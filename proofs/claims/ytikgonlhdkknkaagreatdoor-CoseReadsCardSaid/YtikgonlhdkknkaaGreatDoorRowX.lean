import Derived.Test.YtikgonlhdkknkaaGreatDoorRows
import Derived.WalkKit
import Derived.WalkSpells
import Derived.WalkLawsBesides
import Derived.Deep.QuietTactic
import Derived.BigQuiet
import Derived.Outline
import Derived.Lib.Hide
import Derived.Lib.Strings
import Derived.Deep.AppendLies
import Derived.Deep.RegionLaw
import Derived.Deep.RegionHeld3
import Derived.Laws.IdiomStrings
import Derived.Laws.BitsAllLaws
import Derived.Deep.MidRow
import Derived.StillTailTactics
import Derived.ArgAppend
set_option linter.unusedVariables false
set_option linter.unusedSimpArgs false
namespace Go.Proofs.YtikgonlhdkknkaaGreatDoor
theorem nle (n : Nat) : n ≤ n := Nat.le_refl n
theorem aIn {a b : Prop} (left : a) (right : b) : a ∧ b := ⟨left, right⟩
theorem dfa {p : Prop} [inst : Decidable p] (h : ¬p) : decide p = false := decide_eq_false h
theorem dtr {p : Prop} [inst : Decidable p] (h : p) : decide p = true := decide_eq_true h
theorem lap {α : Type _} {a b : List α} : (a ++ b).length = a.length + b.length := List.length_append
theorem lco {α : Type _} {a : α} {l : List α} : (a :: l).length = l.length + 1 := List.length_cons
theorem nlt {n m k : Nat} (h : n < m) (h2 : m ≤ k) : n < k := Nat.lt_of_lt_of_le h h2
open Go.RowKit
/-! ### bytes as cells -/
def bcells (l : List UInt8) : List Value := l.map fun b => Value.int .u8 (b.toNat : Int)
theorem bcells_length (l : List UInt8) : (bcells l).length = l.length := by simp [bcells]
theorem bcells_append (l m : List UInt8) : bcells (l ++ m) = bcells l ++ bcells m := by simp [bcells]
theorem bcells_get (l : List UInt8) (j : Nat) (hj : j < l.length) : (bcells l)[j]? = some (.int .u8 (l[j].toNat : Int)) := by simp [bcells, hj]
theorem bcells_one (l : List UInt8) : ∀ u ∈ bcells l, u.oneCell' = true := by
 intro u hu
 simp only [bcells, List.mem_map] at hu
 obtain ⟨b, _, rfl⟩ := hu
 rfl
/-! ### bits of bytes -/
/-! ### strings -/
theorem tl_size (s : ByteArray) : s.toList.length = s.size := by rw [Lib.toList_data, ← Lib.size_eq]
theorem tl_get (s : ByteArray) (k : Nat) (h : k < s.size) : s.toList[k]? = some s[k] := by
 rw [Lib.toList_data]
 obtain ⟨⟨l⟩⟩ := s
 simp only [ByteArray.size, List.size_toArray] at h
 simp [h]
 rfl
theorem tl_mk (l : List UInt8) : (⟨l.toArray⟩ : ByteArray).toList = l := by rw [Lib.toList_data]
theorem tl_inj {a b : ByteArray} (h : a.toList = b.toList) : a = b := by
 rw [Lib.toList_data, Lib.toList_data] at h
 rw [← Lib.mk_data a, ← Lib.mk_data b, h]
/-! ### what a call hands back -/
def RetS (l : List UInt8) (w : World) (e : Ending) (w' : World) : Prop := ∃ s : ByteArray, e = .returned (.string s) ∧ s.toList = l ∧ Below w.heap.size w w'
theorem run_convert_own {P : Program} {w : World} {base e n : Nat} {v : Value} {l : List UInt8} (hown : w.ownsRow base e 1 v n (bcells l)) (src dst : TypeId)
  (hs : P.underlying src = some (.slice e)) (he : P.underlying e = some (.int .u8)) (hd : P.underlying dst = some .string) : (convert src dst v).run P w = .ok (.string ⟨l.toArray⟩) w := by
 have hl : l.length = n := by have := hown.1; rw [bcells_length] at this; simpa using this
 rcases hown.2 with ⟨rfl, rfl⟩ | ⟨g, cap, cur, rfl, hb, hg, hn, hc, hcs, htake⟩
 ·have : l = [] := List.eq_nil_of_length_eq_zero hl
  subst this
  exact run_convert_bytes_nil w src e hs he 0 0 dst hd
 ·subst hl
  refine run_convert_bytes_back w src dst e ⟨g, 0, none⟩ cap l hs he hd fun j hj => ?_
  have := hown.cells (g := g) rfl j _ (bcells_get l j hj)
  exact this
/-! ### rows that are filled place by place -/
/-! ### append of one byte -/
theorem own_drewN {w : World} {base e size n : Nat} {v : Value} {xs : List Value} (h : w.ownsRow base e size v n xs) (k : Nat) : (w.drewN k).ownsRow base e size v n xs := h
section
variable {P : Program} {w : World}
theorem wpList_append_u8 {ops : Array Oper} {rest : List Oper} {o : Oper} {a : Act} {Q : Exit → Act → World → Prop} (hgd : o.guard = none) (s x : Operand) (t : TypeId)
  (ho : o.op = .call { callee := .builtin .append, args := #[s, x], argTypes := #[t, t] })
  (base : Nat) (e : TypeId) (i : TypeInfo) (ht : P.underlying t = some (.slice e)) (hi : P.info? e = some i) (hz : i.zero = some (.int .u8 0)) (hsize : i.size = 1) (hby : i.bytes = 1)
  (v : Value) (n : Nat) (l : List UInt8) (hs : a.eval s = v) (hown : w.ownsRow base e 1 v n (bcells l))
  (g m c : Nat) (us : List UInt8) (hx : a.eval x = .slice (some ⟨g, 0, none⟩) m c) (hl : us.length = m) (hcell : ∀ j u, (bcells us)[j]? = some u → w.cell? ((⟨g, 0, none⟩ : Addr).add j) = some u)
  (hn : n + m ≤ 140737488355328) (hbase : base ≤ w.heap.size)
  (h : ∀ v' w', w'.ownsRow base e 1 v' (n + m) (bcells (l ++ us)) → w.grownBy w' v.ownBlock → wpList P ops Q rest (a.put o.dst v') w') : wpList P ops Q (o :: rest) a w := by
 refine wpList_append_own w hgd s x t ho base e i (.int .u8 0) 1 1 ht hi hz hsize hby rfl (by decide) v n (bcells l) hs hown ⟨g, 0, none⟩ m c (bcells us) hx (by rw [bcells_length, hl]; simp) hcell (bcells_one us) (by unfold maxLen; omega) (by omega) hbase ?_
 intro v' w' h1 h2 _
 rw [← bcells_append] at h1
 exact h v' w' h1 h2
end
theorem below_own {B : Nat} {a w w' : World} {e n : Nat} {v : Value} {xs : List Value} (hb : Below B a w) (hg : w.grownBy w' v.ownBlock) (hB : B ≤ w.heap.size) (hown : w.ownsRow B e 1 v n xs) : Below B a w' :=
 hb.grown hg hB fun k hk => (hown.lt k hk).1
theorem cells_one {w : World} {g : Nat} {u : UInt8} (h : w.cell? ⟨g, 0, none⟩ = some (.int .u8 (u.toNat : Int))) : ∀ j x, (bcells [u])[j]? = some x → w.cell? ((⟨g, 0, none⟩ : Addr).add j) = some x := by
 intro j x hx
 match j, hx with
 | 0, hx => simp [bcells] at hx; subst hx; exact h
/-! ### Same -/
/-! ### Xor -/
def at0 (A : List UInt8) (i : Nat) : UInt8 := A.getD i 0
end Go.Proofs.YtikgonlhdkknkaaGreatDoor
namespace Go.Proofs.YtikgonlhdkknkaaGreatDoor
open Go.RowKit
def MRow (w : World) (g e : Nat) (l : List UInt8) : Prop := ∃ cs lo hi, w.heap[g]? = some (.cells cs e (lo, hi)) ∧ cs.toList.take l.length = bcells l ∧ (l.length ≤ lo ∨ hi = 0)
section
variable {P : Program} {w : World} {ops : Array Oper} {o : Oper} {a : Act} {K : Act → World → Prop} {Q : Exit → Act → World → Prop} {E : Prop}
theorem step_append_gen (hgd : o.guard = none) (s x : Operand) (t : TypeId)
  (ho : o.op = .call { callee := .builtin .append, args := #[s, x], argTypes := #[t, t] })
  (base : Nat) (e : TypeId) (i : TypeInfo) (z : Value) (size bytes : Nat) (ht : P.underlying t = some (.slice e)) (hi : P.info? e = some i) (hz : i.zero = some z) (hsize : i.size = size) (hby : i.bytes = bytes) (hzs : z.cells.size = size) (hsz : 0 < size)
  (v : Value) (n : Nat) (xs : List Value) (hs : a.eval s = v) (hown : w.ownsRow base e size v n xs)
  (g m c : Nat) (news : List Value) (hx : a.eval x = .slice (some ⟨g, 0, none⟩) m c) (hl : news.length = m * size) (hcell : ∀ j u, news[j]? = some u → w.cell? ((⟨g, 0, none⟩ : Addr).add j) = some u) (h1 : ∀ u ∈ news, u.oneCell' = true)
  (h63 : n + m ≤ maxLen) (hbytes : (n + m) * bytes ≤ 140737488355328) (hbase : base ≤ w.heap.size)
  (h : ∀ v' w', w'.ownsRow base e size v' (n + m) (xs ++ news) → w.grownBy w' v.ownBlock → K (a.put o.dst v') w') :
  if Region.wanted o (yielded ops a.tmps) = true then Oper.wp P o a w K Q else E := by
 have hw : Region.wanted o (yielded ops a.tmps) = true := by simp [Region.wanted, hgd]
 rw [if_pos hw]
 exact wp_append_own w s x t ho base e i z size bytes ht hi hz hsize hby hzs hsz v n xs hs hown ⟨g, 0, none⟩ m c news hx hl hcell h1 h63 hbytes hbase fun v' w' h2 h3 _ => h v' w' h2 h3
end
end Go.Proofs.YtikgonlhdkknkaaGreatDoor
namespace Go.Proofs.YtikgonlhdkknkaaGreatDoor
open Go.RowKit
theorem info5 : (Tryz.prog.info? 5).map (fun i => (i.zero, i.size, i.bytes)) = some (some (.int .u8 0), 1, 1) := by kernel_rfl
def RetT (w : World) (e : Ending) (w' : World) : Prop := e = .returned (.bool true) ∧ Below w.heap.size w w'
end Go.Proofs.YtikgonlhdkknkaaGreatDoor
namespace Go.Proofs.YtikgonlhdkknkaaGreatDoor
open Go.RowKit
def At (w : World) (g o : Nat) (cs : List Value) : Prop := ∀ j v, cs[j]? = some v → w.cell? ⟨g, o + j, none⟩ = some v ∧ w.frozen? ⟨g, o + j, none⟩ = false
theorem At.below {B : Nat} {w w' : World} {g o : Nat} {cs : List Value} (h : At w g o cs) (hb : Below B w w') (hg : g < B) : At w' g o cs := fun j v hv => by
 obtain ⟨h1, h2⟩ := h j v hv
 exact ⟨by rw [hb.cell hg]; exact h1, by rw [hb.frozen hg]; exact h2⟩
theorem At.drew {w : World} {g o : Nat} {cs : List Value} (h : At w g o cs) : At w.drew g o cs := h
theorem At.drewN {w : World} {g o : Nat} {cs : List Value} (h : At w g o cs) (k : Nat) : At (w.drewN k) g o cs := h
theorem At.lt {w : World} {g o : Nat} {cs : List Value} (h : At w g o cs) (hc : cs ≠ []) : g < w.heap.size := by
 match cs, hc with
 | v :: cs, _ =>
  have := (h 0 v rfl).1
  simp only [World.cell?] at this
  rcases Nat.lt_or_ge g w.heap.size with h1 | h1
  ·exact h1
  ·rw [Array.getElem?_eq_none h1] at this
   cases this
theorem At.alloc {w : World} {g o : Nat} {cs : List Value} (h : At w g o cs) (ob : Obj) : At (w.alloc ob) g o cs := fun j v hv => by
 have hl := h.lt (by rintro rfl; simp at hv)
 obtain ⟨h1, h2⟩ := h j v hv
 exact ⟨by rw [((Below.refl w.heap.size w).alloc (nle _) ob).cell hl]; exact h1, by rw [((Below.refl w.heap.size w).alloc (nle _) ob).frozen hl]; exact h2⟩
theorem At.ofAlloc (w : World) (cs : Array Value) (e : Nat) : At (w.alloc (.cells cs e (0, 0))) w.heap.size 0 cs.toList := fun j v hv => by
 have hg := heap_alloc_new w (.cells cs e (0, 0))
 refine ⟨?_, ?_⟩
 ·rw [Nat.zero_add, cell_of_row _ _ _ cs e (0, 0) hg]
  simpa using hv
 ·simp only [World.frozen?, hg]
  simp
theorem At.cell {w : World} {g o : Nat} {cs : List Value} (h : At w g o cs) (j : Nat) (v : Value) (hv : cs[j]? = some v) : w.cell? ⟨g, o + j, none⟩ = some v := (h j v hv).1
theorem At.froz {w : World} {g o : Nat} {cs : List Value} (h : At w g o cs) (j : Nat) (hj : j < cs.length) : w.frozen? ⟨g, o + j, none⟩ = false := (h j cs[j] (List.getElem?_eq_getElem hj)).2
theorem At.z {w : World} {g : Nat} {cs : List Value} (h : At w g 0 cs) (j : Nat) (v : Value) (hv : cs[j]? = some v) : w.cell? ⟨g, j, none⟩ = some v := by have h2 := h.cell j v hv; rwa [Nat.zero_add] at h2
theorem At.zf {w : World} {g : Nat} {cs : List Value} (h : At w g 0 cs) (j : Nat) (hj : j < cs.length) : w.frozen? ⟨g, j, none⟩ = false := by have h2 := h.froz j hj; rwa [Nat.zero_add] at h2
theorem At.zy {w : World} {g : Nat} {cs : List Value} (h : At w g 0 cs) (j : Nat) (v : Value) (hv : cs[j]? = some v) : w.frozen? ⟨g, j, none⟩ = false := by have h2 := (h j v hv).2; rwa [Nat.zero_add] at h2
theorem At.c4 {w : World} {g : Nat} {z0 z1 z2 z3 : Value} (h : At w g 0 [z0, z1, z2, z3]) : w.cell? ⟨g, 0, none⟩ = some z0 ∧ w.cell? ⟨g, 1, none⟩ = some z1 ∧ w.cell? ⟨g, 2, none⟩ = some z2 ∧ w.cell? ⟨g, 3, none⟩ = some z3 := by
 have hq : ∀ j v, [z0, z1, z2, z3][j]? = some v → w.cell? ⟨g, j, none⟩ = some v := fun j v hv => by have := h.cell j v hv; rwa [Nat.zero_add] at this
 exact ⟨hq 0 _ rfl, hq 1 _ rfl, hq 2 _ rfl, hq 3 _ rfl⟩
theorem At.f4 {w : World} {g : Nat} {z0 z1 z2 z3 : Value} (h : At w g 0 [z0, z1, z2, z3]) : w.frozen? ⟨g, 0, none⟩ = false ∧ w.frozen? ⟨g, 1, none⟩ = false ∧ w.frozen? ⟨g, 2, none⟩ = false ∧ w.frozen? ⟨g, 3, none⟩ = false := by
 have hq : ∀ j v, [z0, z1, z2, z3][j]? = some v → w.frozen? ⟨g, j, none⟩ = false := fun j v hv => by have := (h j v hv).2; rwa [Nat.zero_add] at this
 exact ⟨hq 0 _ rfl, hq 1 _ rfl, hq 2 _ rfl, hq 3 _ rfl⟩
theorem At.c9 {w : World} {g : Nat} {z0 z1 z2 z3 z4 z5 z6 z7 z8 : Value} (h : At w g 0 [z0, z1, z2, z3, z4, z5, z6, z7, z8]) : w.cell? ⟨g, 0, none⟩ = some z0 ∧ w.cell? ⟨g, 1, none⟩ = some z1 ∧ w.cell? ⟨g, 2, none⟩ = some z2 ∧ w.cell? ⟨g, 3, none⟩ = some z3 ∧ w.cell? ⟨g, 4, none⟩ = some z4 ∧ w.cell? ⟨g, 5, none⟩ = some z5 ∧ w.cell? ⟨g, 6, none⟩ = some z6 ∧ w.cell? ⟨g, 7, none⟩ = some z7 ∧ w.cell? ⟨g, 8, none⟩ = some z8 := by
 have hq : ∀ j v, [z0, z1, z2, z3, z4, z5, z6, z7, z8][j]? = some v → w.cell? ⟨g, j, none⟩ = some v := fun j v hv => by have := h.cell j v hv; rwa [Nat.zero_add] at this
 exact ⟨hq 0 _ rfl, hq 1 _ rfl, hq 2 _ rfl, hq 3 _ rfl, hq 4 _ rfl, hq 5 _ rfl, hq 6 _ rfl, hq 7 _ rfl, hq 8 _ rfl⟩
theorem At.f9 {w : World} {g : Nat} {z0 z1 z2 z3 z4 z5 z6 z7 z8 : Value} (h : At w g 0 [z0, z1, z2, z3, z4, z5, z6, z7, z8]) : w.frozen? ⟨g, 0, none⟩ = false ∧ w.frozen? ⟨g, 1, none⟩ = false ∧ w.frozen? ⟨g, 2, none⟩ = false ∧ w.frozen? ⟨g, 3, none⟩ = false ∧ w.frozen? ⟨g, 4, none⟩ = false ∧ w.frozen? ⟨g, 5, none⟩ = false ∧ w.frozen? ⟨g, 6, none⟩ = false ∧ w.frozen? ⟨g, 7, none⟩ = false ∧ w.frozen? ⟨g, 8, none⟩ = false := by
 have hq : ∀ j v, [z0, z1, z2, z3, z4, z5, z6, z7, z8][j]? = some v → w.frozen? ⟨g, j, none⟩ = false := fun j v hv => by have := (h j v hv).2; rwa [Nat.zero_add] at this
 exact ⟨hq 0 _ rfl, hq 1 _ rfl, hq 2 _ rfl, hq 3 _ rfl, hq 4 _ rfl, hq 5 _ rfl, hq 6 _ rfl, hq 7 _ rfl, hq 8 _ rfl⟩
theorem At.other {w : World} {g o : Nat} {cs : List Value} (h : At w g o cs) (g' o' : Nat) (u : Value) (hne : g' ≠ g ∨ o' < o ∨ o + cs.length ≤ o') : At (w.setCell ⟨g', o', none⟩ u) g o cs := fun j v hv => by
 obtain ⟨h1, h2⟩ := h j v hv
 have hj : j < cs.length := (List.getElem?_eq_some_iff.1 hv).1
 refine ⟨?_, by rw [World.frozen?_setCell]; exact h2⟩
 rw [World.cell?_setCell_other]
 ·exact h1
 ·intro e
  injection e with e1 e2
  omega
theorem At.set {w : World} {g o : Nat} {cs : List Value} (h : At w g o cs) (k : Nat) (u : Value) : At (w.setCell ⟨g, o + k, none⟩ u) g o (cs.set k u) := fun j v hv => by
 have hj : j < cs.length := by have := (List.getElem?_eq_some_iff.1 hv).1; simpa using this
 obtain ⟨h1, h2⟩ := h j cs[j] (List.getElem?_eq_getElem hj)
 refine ⟨?_, by rw [World.frozen?_setCell]; exact h2⟩
 by_cases e : k = j
 ·subst e
  rw [World.cell?_setCell_same (h := h1)]
  simpa [hj] using hv
 ·rw [World.cell?_setCell_other, h1]
  ·rw [List.getElem?_set_ne e, List.getElem?_eq_getElem hj] at hv
   exact hv
  ·intro e'
   injection e' with e1 e2
   omega
theorem At.ofOwn {w : World} {B e n cap g : Nat} {cs : List Value} (h : w.ownsRow B e 1 (.slice (some ⟨g, 0, none⟩) n cap) n cs) : At w g 0 cs := fun j v hv => by
 have hj : j < cs.length := (List.getElem?_eq_some_iff.1 hv).1
 rw [Nat.zero_add]
 exact ⟨by rw [h.cellAt j (by have := h.1; omega)]; exact hv, h.frozenAt j⟩
theorem At.range {w : World} {g o : Nat} {cs : List Value} (h : At w g o cs) : w.rangeAt g o cs := fun j v hv => (h j v hv).1
theorem At.there {w : World} {g o : Nat} {cs : List Value} (h : At w g o cs) : w.there g o cs.length := fun j hj => by
 obtain ⟨h1, h2⟩ := h j cs[j] (List.getElem?_eq_getElem hj)
 exact ⟨by rw [h1]; rfl, h2⟩
theorem At.ofSets {w : World} {g o : Nat} {old vs : List Value} (h : At w g o old) (hl : old.length = vs.length) : At (w.setCells g o vs) g o vs := fun j v hv => by
 have ht := h.there
 rw [hl] at ht
 have hj : j < vs.length := (List.getElem?_eq_some_iff.1 hv).1
 refine ⟨World.rangeAt_setCells_same w g o vs ht j v hv, ?_⟩
 rw [World.frozen?_setCells]
 exact (ht j hj).2
theorem below_sets (B g : Nat) (hB : B ≤ g) : ∀ (vs : List Value) (o : Nat) (a w : World), Below B a w → Below B a (w.setCells g o vs)
 | [], _, _, _, h => h
 | v :: r, o, a, w, h => by
  rw [World.setCells]
  exact below_sets B g hB r (o + 1) a _ (h.setCell (p := ⟨g, o, none⟩) hB v)
section
variable {P : Program} {ops : Array Oper} {rest : List Oper} {o : Oper} {a : Act} {w : World} {Q : Exit → Act → World → Prop}
theorem results_at {fn : Func} {p : Tmp} {ty : TypeId} (h : fn.results = #[.cell p ty]) (tmps : Array Value) (g : Nat) (cs : List Value) (d : TypeDesc)
  (hp : tmps.getD p undef = .pointer (some ⟨g, 0, none⟩)) (hg : At w g 0 cs) (hu : P.underlying ty = some d) (hd : d.isRow = true) (hi : (P.info? ty).map (·.size) = some cs.length) :
  (results fn tmps).run P w = .ok (.agg cs.toArray) w := by
 have hp' : tmps[p]?.getD undef = .pointer (some ⟨g, 0, none⟩) := by simpa using hp
 simp [results, h, hp', asAddr, run_loadVar_mid w g 0 ty cs d hg.range hu hd hi]
end
/-! ### words -/
end Go.Proofs.YtikgonlhdkknkaaGreatDoor
namespace Go.Proofs.YtikgonlhdkknkaaGreatDoor
open Go.RowKit
section
variable {P : Program} {w : World}
theorem results_at_two {fn : Func} {p u : Tmp} {ty : TypeId} (h : fn.results = #[.cell p ty, .tmp u]) (tmps : Array Value) (g : Nat) (cs : List Value) (d : TypeDesc)
  (hp : tmps.getD p undef = .pointer (some ⟨g, 0, none⟩)) (hg : At w g 0 cs) (hu : P.underlying ty = some d) (hd : d.isRow = true) (hi : (P.info? ty).map (·.size) = some cs.length) (v : Value) (hv : tmps.getD u undef = v) :
  (results fn tmps).run P w = .ok (.tuple #[.agg cs.toArray, v]) w := by
 subst hv
 have hp' : tmps[p]?.getD undef = .pointer (some ⟨g, 0, none⟩) := by simpa using hp
 simp [results, h, hp', asAddr, run_loadVar_mid w g 0 ty cs d hg.range hu hd hi, Result.andThen]
end
end Go.Proofs.YtikgonlhdkknkaaGreatDoor
namespace Go.Proofs.YtikgonlhdkknkaaGreatDoor
open Go.RowKit
section
variable {w w' : World} {base : Nat} {e : TypeId} {size : Nat} {v : Value} {n : Nat} {xs : List Value}
theorem own_same (h : w.ownsRow base e size v n xs) (hs : ∀ k, v.ownBlock = some k → w'.heap[k]? = w.heap[k]?) : w'.ownsRow base e size v n xs := by
 obtain ⟨hl, h⟩ := h
 refine ⟨hl, ?_⟩
 rcases h with h | ⟨g, cap, cur, hv, hb, hg, rest⟩
 ·exact .inl h
 ·refine .inr ⟨g, cap, cur, hv, hb, ?_, rest⟩
  rw [hs g (by rw [hv]; rfl)]
  exact hg
theorem own_below {B : Nat} (h : w.ownsRow base e size v n xs) (hb : Below B w w') (hB : w.heap.size ≤ B) : w'.ownsRow base e size v n xs :=
 own_same h fun k hk => hb.block k (by have := (h.lt k hk).2; omega)
theorem At.ofOwnN {cap g : Nat} (h : w.ownsRow base e size (.slice (some ⟨g, 0, none⟩) n cap) n xs) : At w g 0 xs := fun j u hv => by
 have hj : j < xs.length := (List.getElem?_eq_some_iff.1 hv).1
 rw [Nat.zero_add]
 exact ⟨by rw [h.cellAt j (by have := h.1; omega)]; exact hv, h.frozenAt j⟩
theorem At.grown {g o : Nat} {cs : List Value} {row : Option Nat} (h : At w g o cs) (hg : w.grownBy w' row) (hlt : g < w.heap.size) (hne : row ≠ some g) : At w' g o cs := fun j u hv => by
 obtain ⟨h1, h2⟩ := h j u hv
 have hb := hg.block g hlt (fun e => hne e.symm)
 constructor
 ·rw [← h1]
  simp only [World.cell?, hb]
 ·rw [← h2]
  simp only [World.frozen?, hb]
theorem At.sub {g o : Nat} {a b c : List Value} (h : At w g o (a ++ b ++ c)) : At w g (o + a.length) b := fun j u hv => by
 have hj : j < b.length := (List.getElem?_eq_some_iff.1 hv).1
 have := h (a.length + j) u (by
  rw [List.getElem?_append_left (by rw [lap]; omega), List.getElem?_append_right (by omega), Nat.add_sub_cancel_left]
  exact hv)
 rw [Nat.add_assoc]
 exact this
end
end Go.Proofs.YtikgonlhdkknkaaGreatDoor
namespace Go.Proofs.YtikgonlhdkknkaaGreatDoor
open Go.RowKit
theorem w64n (n : Nat) (h : n < 9223372036854775808) : wrap64 (n : Int) = (n : Int) := by
 rw [← IntWalk.i64_left, IntKind.wrap_i64]
 omega
end Go.Proofs.YtikgonlhdkknkaaGreatDoor
namespace Go.Proofs.YtikgonlhdkknkaaGreatDoor
open Go.RowKit
def ucells (l : List Nat) : List Value := l.map fun (x : Nat) => Value.int .u64 (x : Int)
section
variable {P : Program} {w : World}
end
end Go.Proofs.YtikgonlhdkknkaaGreatDoor
namespace Go.Proofs.YtikgonlhdkknkaaGreatDoor
open Go.RowKit
section
variable {P : Program} {w : World}
end
end Go.Proofs.YtikgonlhdkknkaaGreatDoor
namespace Go.Proofs.YtikgonlhdkknkaaGreatDoor
open Go.RowKit
def Bag (w : World) (B : Nat) (v : Value) (l : List UInt8) : Prop := ∃ g cap spare, v = .slice (some ⟨g, 0, none⟩) l.length cap ∧ B ≤ g ∧ l.length ≤ cap ∧ spare.length = cap - l.length ∧ At w g 0 (bcells l ++ spare)
end Go.Proofs.YtikgonlhdkknkaaGreatDoor
