/- The document's Make. -/
import Derived.Test.YtjlmmlnldjandaaGreatDoorShE
namespace Go.Proofs.YtjlmmlnldjandaaGreatDoor
open Go.RowKit
set_option linter.unusedVariables false
set_option linter.unusedSimpArgs false
theorem enterRoot (vs : Array Value) (w : World) : (callFunc 82 vs).run Tryz.prog w = .ok (.enter 82 vs) w := by kernel_rfl
theorem enterCut (vs : Array Value) (w : World) : (callFunc 81 vs).run Tryz.prog w = .ok (.enter 81 vs) w := by kernel_rfl
/-- as step_call2, of an operation without a guard -/
theorem step_call2g {P : Program} {w : World} {ops : Array Oper} {o : Oper} {a : Act} {K : Act → World → Prop} {Q : Exit → Act → World → Prop} {E : Prop} (f : FuncId) (x y : Operand) (ats : Array TypeId) (ho : o.op = .call { callee := .value (.func f), args := #[x, y], argTypes := ats }) (hgd : o.guard = none)
    (he : ∀ vs w, (callFunc f vs).run P w = .ok (.enter f vs) w) (v : Value) (hv : a.eval x = v) (u : Value) (hu : a.eval y = u) (R : Ending → World → Prop) (hC : Calls P f #[v, u] w R) (h : ∀ e w', R e w' → ∃ v, e = .returned v ∧ K (a.put o.dst v) w') :
    if Region.wanted o (yielded ops a.tmps) = true then Oper.wp P o a w K Q else E :=
  step_call2 f x y ats ho (by simp [Region.wanted, hgd]) he v hv u hu R hC h
theorem own_isU {w : World} {base e size n : Nat} {v : Value} {xs : List Value} (h : w.ownsRow base e size v n xs) (hn : 0 < n) : ∃ g cap, v = .slice (some ⟨g, 0, none⟩) n cap := by
  rcases h.2 with ⟨_, h0⟩ | ⟨g, cap, cur, hv, _⟩
  · omega
  · exact ⟨g, cap, hv⟩
/-- what was made so far, of the primes P -/
def kpL (b : Nat) (P : List Nat) : List Nat := (P.take (Sh.rounds b)).map fun p => Sh.cut b (Sh.root p 3)
def bgL (b s : Nat) (P : List Nat) : List Nat := (List.range 8).map fun j => if s + j < P.length then Sh.cut b (Sh.root (P.getD (s + j) 0) 2) else 0
theorem bgL_length (b s : Nat) (P : List Nat) : (bgL b s P).length = 8 := by simp [bgL]
theorem kpL_more (b : Nat) (P : List Nat) (p : Nat) (h : P.length < Sh.rounds b) : kpL b (P ++ [p]) = kpL b P ++ [Sh.cut b (Sh.root p 3)] := by
  rw [kpL, kpL, List.take_of_length_le (by rw [List.length_append]; show P.length + 1 ≤ _; omega), List.take_of_length_le (by omega), List.map_append]
  rfl
theorem kpL_same (b : Nat) (P : List Nat) (p : Nat) (h : Sh.rounds b ≤ P.length) : kpL b (P ++ [p]) = kpL b P := by
  rw [kpL, kpL, List.take_append_of_le_length h]
theorem kpL_length (b : Nat) (P : List Nat) (h : P.length ≤ Sh.rounds b) : (kpL b P).length = P.length := by
  rw [kpL, List.length_map, List.length_take]
  omega
theorem bgL_more (b s : Nat) (P : List Nat) (p : Nat) (h : s ≤ P.length) (h8 : P.length < s + 8) : bgL b s (P ++ [p]) = (bgL b s P).set (P.length - s) (Sh.cut b (Sh.root p 2)) := by
  apply List.ext_getElem
  · simp [bgL]
  · intro i h1 h2
    have hi : i < 8 := by simpa [bgL] using h1
    simp only [bgL, List.getElem_set, List.getElem_map, List.getElem_range, List.length_append, List.length_cons, List.length_nil]
    by_cases he : P.length - s = i
    · rw [if_pos (show s + i < P.length + (0 + 1) by omega), if_pos he, show s + i = P.length by omega]
      simp [List.getD]
    · rw [if_neg he]
      by_cases hl : s + i < P.length
      · rw [if_pos (show s + i < P.length + (0 + 1) by omega), if_pos hl, List.getD, List.getD, List.getElem?_append_left hl]
      · rw [if_neg (show ¬ s + i < P.length + (0 + 1) by omega), if_neg hl]
theorem bgL_same (b s : Nat) (P : List Nat) (p : Nat) (h : ¬ (s ≤ P.length ∧ P.length < s + 8)) : bgL b s (P ++ [p]) = bgL b s P := by
  unfold bgL
  apply List.map_congr_left
  intro i hi
  have hi8 : i < 8 := by simpa using hi
  rw [List.length_append, List.length_cons, List.length_nil]
  by_cases hl : s + i < P.length
  · rw [if_pos (show s + i < P.length + (0 + 1) by omega), if_pos hl, List.getD, List.getD, List.getElem?_append_left hl]
  · rw [if_neg (show ¬ s + i < P.length + (0 + 1) by omega), if_neg hl]
/-- what the walk knows of memory -/
structure Mk (w wr : World) (kind : Int) (b : Nat) (v : Value) (L Bg : List Nat) : Prop where
  hd : At wr w.heap.size 0 [.int .i64 kind, .int .i64 (kind / 8), .int .i64 ((2 * b : Nat) : Int), .int .i64 ((Sh.rounds b : Nat) : Int)]
  kv : At wr w.heap.size 4 [v]
  own : wr.ownsRow (w.heap.size + 1) 47 1 v L.length (ucells L)
  bg : At wr w.heap.size 5 (ucells Bg)
  bl : Bg.length = 8
  tu : At wr w.heap.size 13 (ucells (Sh.T b))
  bel : Below w.heap.size w wr
  sz : w.heap.size + 1 ≤ wr.heap.size
theorem Mk.below {w wr w3 : World} {kind : Int} {b : Nat} {v : Value} {L Bg : List Nat} (h : Mk w wr kind b v L Bg) (hb : Below wr.heap.size wr w3) : Mk w w3 kind b v L Bg := by
  have hs := h.sz
  exact ⟨h.hd.below hb (by omega), h.kv.below hb (by omega), own_below h.own hb (Nat.le_refl _), h.bg.below hb (by omega), h.bl, h.tu.below hb (by omega), h.bel.trans (hb.mono h.bel.size), Nat.le_trans hs hb.size⟩
theorem Mk.drew {w wr : World} {kind : Int} {b : Nat} {v : Value} {L Bg : List Nat} (h : Mk w wr kind b v L Bg) : Mk w wr.drew kind b v L Bg := ⟨h.hd.drew, h.kv.drew, h.own, h.bg.drew, h.bl, h.tu.drew, h.bel.drew, h.sz⟩
theorem Mk.put {w wr : World} {kind : Int} {b : Nat} {v : Value} {L Bg : List Nat} (h : Mk w wr kind b v L Bg) (j u : Nat) (hj : j < 8) : Mk w (wr.setCell ⟨w.heap.size, 5 + j, none⟩ (.int .u64 (u : Int))) kind b v L (Bg.set j u) := by
  refine ⟨h.hd.other _ _ _ (.inr (.inr (by first | (simp; done) | (simp; omega)))), h.kv.other _ _ _ (.inr (.inr (by first | (simp; done) | (simp; omega)))), ownsRow_setCell_below h.own (by simp) _, h.bg.uset j u, by rw [List.length_set]; exact h.bl, h.tu.other _ _ _ (.inr (.inl (by omega))), h.bel.setCell (p := ⟨w.heap.size, 5 + j, none⟩) (Nat.le_refl _) _, by simpa using h.sz⟩
theorem Mk.push {w wr w1 : World} {kind : Int} {b : Nat} {v v' : Value} {L Bg : List Nat} {x : Nat} {ob : Obj} (h : Mk w wr kind b v L Bg)
    (hown1 : w1.ownsRow (w.heap.size + 1) 47 1 v' (L.length + 1) (ucells L ++ ucells [x])) (hgrow : (wr.alloc ob).grownBy w1 v.ownBlock) : Mk w (w1.setCell ⟨w.heap.size, 4, none⟩ v') kind b v' (L ++ [x]) Bg := by
  have hs := h.sz
  have hlt : ∀ k, v.ownBlock = some k → w.heap.size + 1 ≤ k := fun k hk => (h.own.lt k hk).1
  have hne : v.ownBlock ≠ some w.heap.size := fun e => by have := hlt _ e; omega
  have hl : w.heap.size < (wr.alloc ob).heap.size := by simp; omega
  refine ⟨?_, ?_, ?_, ?_, h.bl, ?_, ?_, ?_⟩
  · exact ((h.hd.alloc ob).grown hgrow hl hne).other _ _ _ (.inr (.inr (by simp)))
  · exact ((h.kv.alloc ob).grown hgrow hl hne).set 0 v'
  · rw [List.length_append, ucells_append]
    exact ownsRow_setCell_below hown1 (by simp) _
  · exact ((h.bg.alloc ob).grown hgrow hl hne).other _ _ _ (.inr (.inl (by omega)))
  · exact ((h.tu.alloc ob).grown hgrow hl hne).other _ _ _ (.inr (.inl (by omega)))
  · exact ((h.bel.alloc (by omega) ob).grown hgrow (by simp; omega) (fun k hk => by have := hlt k hk; omega)).setCell (p := ⟨w.heap.size, 4, none⟩) (Nat.le_refl _) _
  · rw [World.size_setCell]
    have := hgrow.size
    simp at this
    omega
theorem mk512_by (w : World) : ∃ w0, w.alloc (Obj.cells #[.int .i64 512, .int .i64 64, .int .i64 128, .int .i64 80, .slice none 0 0, .int .u64 0, .int .u64 0, .int .u64 0, .int .u64 0, .int .u64 0, .int .u64 0, .int .u64 0, .int .u64 0, .int .u64 1, .int .u64 8, .int .u64 7, .int .u64 19, .int .u64 61, .int .u64 6, .int .u64 28, .int .u64 34, .int .u64 39, .int .u64 14, .int .u64 18, .int .u64 41] 105) = w0 ∧ Mk w w0 512 64 (.slice none 0 0) (kpL 64 (Sh.ps 2)) (bgL 64 0 (Sh.ps 2)) := by
  have h := At.ofAlloc w #[.int .i64 512, .int .i64 64, .int .i64 128, .int .i64 80, .slice none 0 0, .int .u64 0, .int .u64 0, .int .u64 0, .int .u64 0, .int .u64 0, .int .u64 0, .int .u64 0, .int .u64 0, .int .u64 1, .int .u64 8, .int .u64 7, .int .u64 19, .int .u64 61, .int .u64 6, .int .u64 28, .int .u64 34, .int .u64 39, .int .u64 14, .int .u64 18, .int .u64 41] 105
  have hp : Sh.ps 2 = [] := by decide +kernel
  rw [hp]
  refine ⟨_, rfl, At.sub (a := []) h, ?_, World.ownsRow_nil _ _ _ _, ?_, bgL_length _ _ _, ?_, (Below.refl _ _).alloc (Nat.le_refl _) _, by simp⟩
  · exact At.sub (o := 0) (a := [.int .i64 512, .int .i64 64, .int .i64 128, .int .i64 80]) (b := [.slice none 0 0]) h
  · exact At.sub (o := 0) (a := [.int .i64 512, .int .i64 64, .int .i64 128, .int .i64 80, .slice none 0 0]) (b := ucells (bgL 64 0 [])) h
  · exact At.sub (o := 0) (a := [.int .i64 512, .int .i64 64, .int .i64 128, .int .i64 80, .slice none 0 0, .int .u64 0, .int .u64 0, .int .u64 0, .int .u64 0, .int .u64 0, .int .u64 0, .int .u64 0, .int .u64 0]) (b := ucells (Sh.T 64)) (c := []) h
theorem mk384_by (w : World) : ∃ w0, w.alloc (Obj.cells #[.int .i64 384, .int .i64 48, .int .i64 128, .int .i64 80, .slice none 0 0, .int .u64 0, .int .u64 0, .int .u64 0, .int .u64 0, .int .u64 0, .int .u64 0, .int .u64 0, .int .u64 0, .int .u64 1, .int .u64 8, .int .u64 7, .int .u64 19, .int .u64 61, .int .u64 6, .int .u64 28, .int .u64 34, .int .u64 39, .int .u64 14, .int .u64 18, .int .u64 41] 105) = w0 ∧ Mk w w0 384 64 (.slice none 0 0) (kpL 64 (Sh.ps 2)) (bgL 64 8 (Sh.ps 2)) := by
  have h := At.ofAlloc w #[.int .i64 384, .int .i64 48, .int .i64 128, .int .i64 80, .slice none 0 0, .int .u64 0, .int .u64 0, .int .u64 0, .int .u64 0, .int .u64 0, .int .u64 0, .int .u64 0, .int .u64 0, .int .u64 1, .int .u64 8, .int .u64 7, .int .u64 19, .int .u64 61, .int .u64 6, .int .u64 28, .int .u64 34, .int .u64 39, .int .u64 14, .int .u64 18, .int .u64 41] 105
  have hp : Sh.ps 2 = [] := by decide +kernel
  rw [hp]
  refine ⟨_, rfl, At.sub (a := []) h, ?_, World.ownsRow_nil _ _ _ _, ?_, bgL_length _ _ _, ?_, (Below.refl _ _).alloc (Nat.le_refl _) _, by simp⟩
  · exact At.sub (o := 0) (a := [.int .i64 384, .int .i64 48, .int .i64 128, .int .i64 80]) (b := [.slice none 0 0]) h
  · exact At.sub (o := 0) (a := [.int .i64 384, .int .i64 48, .int .i64 128, .int .i64 80, .slice none 0 0]) (b := ucells (bgL 64 8 [])) h
  · exact At.sub (o := 0) (a := [.int .i64 384, .int .i64 48, .int .i64 128, .int .i64 80, .slice none 0 0, .int .u64 0, .int .u64 0, .int .u64 0, .int .u64 0, .int .u64 0, .int .u64 0, .int .u64 0, .int .u64 0]) (b := ucells (Sh.T 64)) (c := []) h
theorem mk256_by (w : World) : ∃ w0, w.alloc (Obj.cells #[.int .i64 256, .int .i64 32, .int .i64 64, .int .i64 64, .slice none 0 0, .int .u64 0, .int .u64 0, .int .u64 0, .int .u64 0, .int .u64 0, .int .u64 0, .int .u64 0, .int .u64 0, .int .u64 7, .int .u64 18, .int .u64 3, .int .u64 17, .int .u64 19, .int .u64 10, .int .u64 2, .int .u64 13, .int .u64 22, .int .u64 6, .int .u64 11, .int .u64 25] 105) = w0 ∧ Mk w w0 256 32 (.slice none 0 0) (kpL 32 (Sh.ps 2)) (bgL 32 0 (Sh.ps 2)) := by
  have h := At.ofAlloc w #[.int .i64 256, .int .i64 32, .int .i64 64, .int .i64 64, .slice none 0 0, .int .u64 0, .int .u64 0, .int .u64 0, .int .u64 0, .int .u64 0, .int .u64 0, .int .u64 0, .int .u64 0, .int .u64 7, .int .u64 18, .int .u64 3, .int .u64 17, .int .u64 19, .int .u64 10, .int .u64 2, .int .u64 13, .int .u64 22, .int .u64 6, .int .u64 11, .int .u64 25] 105
  have hp : Sh.ps 2 = [] := by decide +kernel
  rw [hp]
  refine ⟨_, rfl, At.sub (a := []) h, ?_, World.ownsRow_nil _ _ _ _, ?_, bgL_length _ _ _, ?_, (Below.refl _ _).alloc (Nat.le_refl _) _, by simp⟩
  · exact At.sub (o := 0) (a := [.int .i64 256, .int .i64 32, .int .i64 64, .int .i64 64]) (b := [.slice none 0 0]) h
  · exact At.sub (o := 0) (a := [.int .i64 256, .int .i64 32, .int .i64 64, .int .i64 64, .slice none 0 0]) (b := ucells (bgL 32 0 [])) h
  · exact At.sub (o := 0) (a := [.int .i64 256, .int .i64 32, .int .i64 64, .int .i64 64, .slice none 0 0, .int .u64 0, .int .u64 0, .int .u64 0, .int .u64 0, .int .u64 0, .int .u64 0, .int .u64 0, .int .u64 0]) (b := ucells (Sh.T 32)) (c := []) h
end Go.Proofs.YtjlmmlnldjandaaGreatDoor
