/- Maps of names in memory, one for each object that is begun. -/
import Derived.Test.YtpaikjlcachabaaDoorJsV
import Derived.Maps.OwnSet
import Derived.Maps.OwnOps
namespace Go.Proofs.YtpaikjlcachabaaDoor
open Go.RowKit
set_option linter.unusedVariables false
set_option linter.unusedSimpArgs false
namespace Js
theorem strK : Go.Maps.Keyed Tryd.prog 9 := Go.Maps.string_keyed Tryd.underlying9
theorem zeroI (w : World) : (zeroValue 3).run Tryd.prog w = .ok (.int .i64 0) w := by kernel_rfl
/-- a map that holds just these names -/
def NamesM (w : World) (b : Nat) (xs : List (List UInt8)) : Prop :=
  ∃ D : DataW Unit, w.ownsMap Tryd.prog 9 (plainElem Tryd.prog 3) b xs.length D ∧ ∀ x, Go.Maps.has D (.string x) = decide (x ∈ xs)
theorem NamesM.made (w : World) : NamesM (w.alloc (.map #[] 0)) w.heap.size [] := ⟨_, World.ownsMap_made _ _ _ _, fun x => rfl⟩
theorem NamesM.lt {w : World} {b : Nat} {xs : List (List UInt8)} (h : NamesM w b xs) : b < w.heap.size := by
  obtain ⟨D, h, -⟩ := h
  exact h.lt
theorem NamesM.kept {w w' : World} {b : Nat} {xs : List (List UInt8)} {row : Option Nat} (h : NamesM w b xs) (hg : w.grownBy w' row) (hne : some b ≠ row) : NamesM w' b xs := by
  obtain ⟨D, h, h2⟩ := h
  exact ⟨D, h.kept hg hne, h2⟩
theorem NamesM.obj {w : World} {b : Nat} {xs : List (List UInt8)} (h : NamesM w b xs) : ∃ es clock, w.heap[b]? = some (.map es clock) := by
  obtain ⟨D, ⟨es, clock, h, _⟩, -⟩ := h
  exact ⟨es, clock, h⟩
theorem NamesM.same {w w' : World} {b : Nat} {xs : List (List UInt8)} (h : NamesM w b xs) (hs : w'.heap[b]? = w.heap[b]?) : NamesM w' b xs := by
  obtain ⟨D, ⟨es, clock, h1, h3⟩, h2⟩ := h
  exact ⟨D, ⟨es, clock, hs.trans h1, h3⟩, h2⟩
/-- a map is no row, and no block of cells -/
theorem NamesM.ne_row {w : World} {b B e z n : Nat} {xs : List (List UInt8)} {v : Value} {ys : List Value} (h : NamesM w b xs) (o : w.ownsRow B e z v n ys) : some b ≠ v.ownBlock := by
  obtain ⟨es, clock, hb⟩ := h.obj
  rcases o.2 with ⟨rfl, _⟩ | ⟨g, cap, cur, rfl, _, hg, _⟩
  · exact fun e => by cases e
  · intro e
    have h1 : b = g := by simpa [Value.ownBlock] using e
    subst h1
    rw [hb] at hg; cases hg
theorem NamesM.ne_at {w : World} {b g o : Nat} {xs : List (List UInt8)} {c : Value} {cs : List Value} (h : NamesM w b xs) (hA : At w g o (c :: cs)) : b ≠ g := by
  intro e
  subst e
  obtain ⟨es, clock, hb⟩ := h.obj
  have h1 := (hA 0 c rfl).1
  unfold World.cell? at h1
  rw [hb] at h1
  cases h1
/-- one name more -/
theorem has_put (D : DataW Unit) (hD : Go.Maps.IsMap D) (xs : List (List UInt8)) (x : List UInt8) (d : DataW Unit) (h : ∀ y, Go.Maps.has D (.string y) = decide (y ∈ xs)) (y : List UInt8) : Go.Maps.has (D.put (.string x) d) (.string y) = decide (y ∈ xs ++ [x]) := by
  by_cases hy : y = x
  · subst hy
    rw [Go.Maps.has_put_same hD (k := .string y) trivial]
    simp
  · rw [Go.Maps.has_put_other (by intro e; injection e with e; exact hy e), h y]
    simp [hy]
section
variable {w : World} {ops : Array Oper} {o : Oper} {a : Act} {rest : List Oper} {Q : Exit → Act → World → Prop}
theorem wpList_name_there (hg : o.guard = none) (m x : Operand) (hop : o.op = Op.lookup 62 m x true) (b : Nat) (xs : List (List UInt8)) (hm : a.eval m = .map (some b)) (hown : NamesM w b xs) (s : ByteArray) (hx : a.eval x = .string s) (hs : s.size ≤ 140737488351232)
    (hK : ∀ c : Int, wpList Tryd.prog ops Q rest (a.put o.dst (.tuple #[.int .i64 c, .bool (decide (s.data.toList ∈ xs))])) w) : wpList Tryd.prog ops Q (o :: rest) a w := by
  obtain ⟨D, h, h2⟩ := hown
  refine wpList_lookup_own_ok_int w hg m x 62 hop 9 3 .i64 strK Tryd.underlying62 Tryd.underlying3 (zeroI _) b _ D hm h _ _ hx (Go.WideMaps.keyOf_string_mk Tryd.underlying9 (by unfold maxLen; omega)) ?_
  intro c _ _
  rw [h2]
  exact hK c
theorem wpList_name_put (hg : o.guard = none) (m x v : Operand) (hop : o.op = Op.mapUpdate 62 m x v) (b : Nat) (xs : List (List UInt8)) (hm : a.eval m = .map (some b)) (hown : NamesM w b xs) (hn : xs.length ≤ 1000000) (s : ByteArray) (hx : a.eval x = .string s) (hs : s.size ≤ 140737488351232) (z : Nat) (hv : a.eval v = .int .i64 (z : Int)) (hz : z ≤ 1000000)
    (hK : ∀ w', NamesM w' b (xs ++ [s.data.toList]) → w.grownBy w' (some b) → wpList Tryd.prog ops Q rest (a.put o.dst undef) w') : wpList Tryd.prog ops Q (o :: rest) a w := by
  obtain ⟨D, h, h2⟩ := hown
  refine wpList_mapUpdate_own w hg m x v 62 hop 9 3 strK Tryd.underlying62 (plainElem Tryd.prog 3) b _ D hm h (by unfold maxLen; omega) _ _ _ hx hv (Go.WideMaps.keyOf_string_mk Tryd.underlying9 (by unfold maxLen; omega)) _ [] (plainElem_int Tryd.underlying3 (WalkArith.wf_i64 (by omega))) ?_
  intro w' h3 h4
  refine hK w' ⟨_, ?_, has_put D h.isMap xs _ (.lit (.int .i64 (z : Int))) h2⟩ h4
  rw [List.length_append]
  exact h3
theorem step_name_put {K : Act → World → Prop} {E : Prop} (hg : o.guard = none) (m x v : Operand) (hop : o.op = Op.mapUpdate 62 m x v) (b : Nat) (xs : List (List UInt8)) (hm : a.eval m = .map (some b)) (hown : NamesM w b xs) (hn : xs.length ≤ 1000000) (s : ByteArray) (hx : a.eval x = .string s) (hs : s.size ≤ 140737488351232) (z : Nat) (hv : a.eval v = .int .i64 (z : Int)) (hz : z ≤ 1000000)
    (hK : ∀ w', NamesM w' b (xs ++ [s.data.toList]) → w.grownBy w' (some b) → K (a.put o.dst undef) w') : if Region.wanted o (yielded ops a.tmps) = true then Oper.wp Tryd.prog o a w K Q else E := by
  have hw : Region.wanted o (yielded ops a.tmps) = true := by simp [Region.wanted, hg]
  rw [if_pos hw]
  obtain ⟨D, h, h2⟩ := hown
  obtain ⟨w', hrun, h3, h4⟩ := h.update strK Tryd.underlying62 (by unfold maxLen; omega) (key := .string s) (val := .int .i64 (z : Int)) (Go.WideMaps.keyOf_string_mk Tryd.underlying9 (by unfold maxLen; omega)) (plainElem_int (H := Unit) Tryd.underlying3 (WalkArith.wf_i64 (by omega)))
  have hk : K (a.put o.dst undef) w' := by
    refine hK w' ⟨_, ?_, has_put D h.isMap xs _ (.lit (.int .i64 (z : Int))) h2⟩ h4
    rw [List.length_append]
    exact h3
  unfold Oper.wp
  simp [execOp, hop, hm, hx, hv, hrun, Result.andThen]
  exact hk
end
/-- the maps of what is begun: the topmost first -/
inductive Ms (w : World) (β : Nat) : List Fr → List (Option Nat) → Prop
  | nil : Ms w β [] []
  | arr {f : Fr} {G : List Fr} {B : List (Option Nat)} : Ms w β G B → f.o = none → Ms w β (f :: G) (none :: B)
  | obj {f : Fr} {G : List Fr} {B : List (Option Nat)} {b : Nat} {xs : List (List UInt8)} : Ms w β G B → f.o = some xs → NamesM w b xs → β ≤ b → some b ∉ B → Ms w β (f :: G) (some b :: B)
theorem Ms.length {w : World} {β : Nat} {G : List Fr} {B : List (Option Nat)} (h : Ms w β G B) : B.length = G.length := by
  induction h with
  | nil => rfl
  | arr _ _ ih => simp [ih]
  | obj _ _ _ _ _ ih => simp [ih]
theorem Ms.same {w w' : World} {β : Nat} {G : List Fr} {B : List (Option Nat)} (h : Ms w β G B) (hs : ∀ b xs, some b ∈ B → NamesM w b xs → w'.heap[b]? = w.heap[b]?) : Ms w' β G B := by
  induction h with
  | nil => exact .nil
  | arr _ ho ih => exact .arr (ih (fun b xs hb hm => hs b xs (by simp [hb]) hm)) ho
  | obj _ ho hm hb hne ih => exact .obj (ih (fun b xs hb hm => hs b xs (by simp [hb]) hm)) ho (hm.same (hs _ _ (by simp) hm)) hb hne
theorem Ms.kept {w w' : World} {β : Nat} {G : List Fr} {B : List (Option Nat)} {row : Option Nat} (h : Ms w β G B) (hg : w.grownBy w' row) (hne : ∀ b xs, some b ∈ B → NamesM w b xs → some b ≠ row) : Ms w' β G B :=
  h.same (fun b xs hb hm => hg.block b hm.lt (hne b xs hb hm))
theorem Ms.bump {w : World} {β : Nat} {G : List Fr} {B : List (Option Nat)} (h : Ms w β G B) : Ms w β (bump G) B := by
  cases h with
  | nil => exact .nil
  | arr h ho => exact .arr h ho
  | obj h ho hm hb hne => exact .obj h ho hm hb hne
theorem Ms.ge {w : World} {β : Nat} {G : List Fr} {B : List (Option Nat)} (h : Ms w β G B) : ∀ b, some b ∈ B → β ≤ b ∧ b < w.heap.size := by
  induction h with
  | nil => intro b hb; cases hb
  | arr _ _ ih => intro b hb; exact ih b (by simpa using hb)
  | obj _ _ hm hb hne ih =>
    intro b hb
    rcases List.mem_cons.1 hb with he | hb
    · cases he; exact ⟨‹_›, hm.lt⟩
    · exact ih b hb
/-- the cells of what is begun: two each, the topmost last -/
def gcells : List Fr → List (Option Nat) → List Value
  | f :: G, b :: B => gcells G B ++ [.int .i64 ((flat G f.b).length : Int), .map b]
  | _, _ => []
theorem gcells_cons (f : Fr) (G : List Fr) (b : Option Nat) (B : List (Option Nat)) : gcells (f :: G) (b :: B) = gcells G B ++ [.int .i64 ((flat G f.b).length : Int), .map b] := rfl
theorem gcells_length {G : List Fr} {B : List (Option Nat)} (h : B.length = G.length) : (gcells G B).length = 2 * G.length := by
  induction G generalizing B with
  | nil => cases B <;> rfl
  | cons f G ih =>
    cases B with
    | nil => cases h
    | cons b B => rw [gcells_cons, List.length_append, ih (by simpa using h)]; show _ + 2 = 2 * (G.length + 1); omega
theorem gcells_bump {G : List Fr} {B : List (Option Nat)} : gcells (bump G) B = gcells G B := by
  cases G with
  | nil => rfl
  | cons f G => cases B <;> rfl
theorem gcells_name {G : List Fr} {B : List (Option Nat)} (x : List UInt8) : gcells (addName x G) B = gcells G B := by
  cases G with
  | nil => rfl
  | cons f G => cases B <;> rfl
theorem gcells_one (G : List Fr) (B : List (Option Nat)) : ∀ u ∈ gcells G B, u.oneCell' = true := by
  induction G generalizing B with
  | nil => intro u hu; cases B <;> cases hu
  | cons f G ih =>
    cases B with
    | nil => intro u hu; cases hu
    | cons b B =>
      intro u hu
      rw [gcells_cons] at hu
      rcases List.mem_append.1 hu with hu | hu
      · exact ih B u hu
      · simp only [List.mem_cons, List.not_mem_nil, or_false] at hu
        rcases hu with rfl | rfl <;> rfl
/-- a name is put to the topmost object -/
theorem Ms.named {w w' : World} {β : Nat} {f : Fr} {G : List Fr} {b : Nat} {B : List (Option Nat)} {xs : List (List UInt8)} {x : List UInt8} (h : Ms w β (f :: G) (some b :: B)) (hg : w.grownBy w' (some b)) (hm : NamesM w' b (xs ++ [x])) (ho : f.o = some xs) : Ms w' β (addName x (f :: G)) (some b :: B) := by
  cases h with
  | obj h ho' hm' hb hne =>
    refine .obj (h.kept hg (fun c ys hc _ e => hne (by rw [← e]; exact hc))) (by show f.o.map _ = _; rw [ho]; rfl) hm hb hne
end Js
end Go.Proofs.YtpaikjlcachabaaDoor
