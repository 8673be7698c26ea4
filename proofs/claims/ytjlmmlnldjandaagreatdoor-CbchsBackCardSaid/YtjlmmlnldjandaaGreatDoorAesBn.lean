/- The contract of the document's New: what its box holds. -/
import Derived.Test.YtjlmmlnldjandaaGreatDoorAesBp
import Derived.Test.YtjlmmlnldjandaaGreatDoorAesQb
import Derived.Test.YtjlmmlnldjandaaGreatDoorRowX
import Derived.Deep.AppendLies
namespace Go.Proofs.YtjlmmlnldjandaaGreatDoor
open Go.RowKit
set_option linter.unusedVariables false
set_option linter.unusedSimpArgs false
/-! ### round words, one behind the other -/
def rst (K : List UInt8) (n i : Nat) : List UInt32 × UInt8 := if i ≤ n then (keyL K i, 1) else erun n (i - n) (keyL K n, 1)
theorem erun_succ (n : Nat) : ∀ (k : Nat) (s : List UInt32 × UInt8), erun n (k + 1) s = estep n (erun n k s)
  | 0, s => rfl
  | k + 1, s => by rw [erun, erun_succ n k, ← erun]
theorem rst_length (K : List UInt8) (n i : Nat) : (rst K n i).1.length = i := by
  unfold rst
  split
  · exact keyL_length K i
  · rw [erun_length, keyL_length]; omega
theorem rst_low (K : List UInt8) (n i : Nat) (h : i < n) : (rst K n (i + 1)).1 = (rst K n i).1 ++ [keyW K i] ∧ (rst K n (i + 1)).2 = (rst K n i).2 := by
  unfold rst
  rw [if_pos (by omega), if_pos (by omega)]
  exact ⟨keyL_succ K i, rfl⟩
theorem rst_high (K : List UInt8) (n i : Nat) (h : n ≤ i) : rst K n (i + 1) = estep n (rst K n i) := by
  unfold rst
  rw [if_neg (by omega), show i + 1 - n = (i - n) + 1 by omega, erun_succ]
  congr 1
  by_cases e : i ≤ n
  · have : i = n := by omega
    subst this
    rw [if_pos e, Nat.sub_self, erun]
  · rw [if_neg e]
theorem rst_zero (K : List UInt8) (n : Nat) : rst K n 0 = ([], 1) := by
  unfold rst
  rw [if_pos (Nat.zero_le _)]
  rfl
theorem rst_all (K : List UInt8) (n : Nat) (h : n = K.length / 4) : (rst K n (4 * n + 28)).1 = expW K := by
  unfold rst
  rw [if_neg (by omega), show 4 * n + 28 - n = 3 * n + 28 by omega, expW, ← h]
theorem wb_wd (a b c d : UInt8) : wb (wd a b c d) = [a, b, c, d] := by rw [wb, rw_wd0, rw_wd1, rw_wd2, rw_wd3]
theorem turn_a (x : UInt32) (p : UInt8) : wb (subW (rotl32 x 8) ^^^ wd p 0 0 0) = [gsub (rw_ x 1) ^^^ p, gsub (rw_ x 2), gsub (rw_ x 3), gsub (rw_ x 0)] := by
  have h : rotl32 x 8 = wd (rw_ x 1) (rw_ x 2) (rw_ x 3) (rw_ x 0) := by
    conv => lhs; rw [← wd_rw x]
    exact rotl_wd8 _ _ _ _
  rw [h, subW, rw_wd0, rw_wd1, rw_wd2, rw_wd3, wd_xor, wb_wd, UInt8.xor_zero, UInt8.xor_zero, UInt8.xor_zero]
theorem turn_b (x : UInt32) : wb (subW x) = [gsub (rw_ x 0), gsub (rw_ x 1), gsub (rw_ x 2), gsub (rw_ x 3)] := by rw [subW, wb_wd]
theorem wb_key (K : List UInt8) (i : Nat) : (List.range 4).map (fun j => at0 K (4 * i + j)) = wb (keyW K i) := by rw [keyW, wb_wd]; rfl
theorem wb_xor (x y : UInt32) : (List.range 4).map (fun j => rw_ x j ^^^ rw_ y j) = wb (x ^^^ y) := by
  rw [wb, rw_xor, rw_xor, rw_xor, rw_xor]
  rfl
theorem wb_length (x : UInt32) : (wb x).length = 4 := rfl
theorem wbs_at {w : World} {g : Nat} {L : List UInt32} (h : At w g 0 (bcells (wbs L))) (i : Nat) (hi : i < L.length) : At w g (i * 4) (bcells (wb (L.getD i 0))) := by
  have e0 : L = L.take i ++ (L.getD i 0 :: L.drop (i + 1)) := by rw [show L.getD i 0 = L[i] by simp [List.getD, hi], ← List.drop_eq_getElem_cons hi, List.take_append_drop]
  have e : wbs L = wbs (L.take i) ++ wb (L.getD i 0) ++ wbs (L.drop (i + 1)) :=
    (congrArg wbs e0).trans (by
      generalize L.getD i 0 = x
      simp [wbs])
  rw [e, bcells_append, bcells_append] at h
  have := h.sub
  rw [bcells_length, wbs_length, List.length_take, Nat.min_eq_left (Nat.le_of_lt hi), Nat.zero_add, Nat.mul_comm] at this
  exact this
theorem gpw (n : Nat) : gmul (pw n) 3 = pw (n + 1) := by
  rw [gmul_comm, gm3, pw, UInt8.xor_comm]
theorem spr0 : spr 0 = 99 := by decide +kernel
/-! ### the box that is made of nothing -/
def boxZ : List Value := bcells (List.replicate 256 0) ++ (bcells (List.replicate 256 0) ++ [.slice none 0 0])
theorem cells67 : Tryz.zeroCells80.toList = boxZ := by kernel_rfl
theorem new_box (w : World) : ∃ w0, (w.alloc (Obj.cells Tryz.zeroCells80 80)).alloc (Obj.cells (Tryz.zeroCells81.setIfInBounds 0 (Value.int .u8 1)) 81) = w0 ∧ At w0 w.heap.size 0 (bcells (List.replicate 256 0)) ∧ At w0 w.heap.size 256 (bcells (List.replicate 256 0)) ∧ At w0 w.heap.size 512 [.slice none 0 0] ∧
    At w0 (w.heap.size + 1) 0 (bcells (mixP 255 pw (fun _ => 0) 1)) ∧ Below w.heap.size w w0 ∧ w0.heap.size = w.heap.size + 2 := by
  refine ⟨_, rfl, ?_⟩
  have h := At.ofAlloc w Tryz.zeroCells80 80
  rw [cells67, boxZ] at h
  have h1 := h.split.1
  have h2 := h.split.2.split.1
  have h3 := h.split.2.split.2
  rw [bcells_length, List.length_replicate] at h2 h3
  refine ⟨h1.alloc _, h2.alloc _, h3.alloc _, ?_, ((Below.refl _ _).alloc (Nat.le_refl _) _).alloc (by simp) _, by simp⟩
  have h4 := At.ofAlloc (w.alloc (Obj.cells Tryz.zeroCells80 80)) (Tryz.zeroCells81.setIfInBounds 0 (Value.int .u8 1)) 81
  rw [Array.toList_setIfInBounds, zero68, World.size_alloc, show (Value.int IntKind.u8 1) = Value.int IntKind.u8 ((1 : UInt8).toNat : Int) from rfl, bcells_set] at h4
  have e : (List.replicate 255 (0 : UInt8)).set 0 1 = mixP 255 pw (fun _ => 0) 1 := by
    rw [← mixP_set 255 pw (fun _ => 0) 0, mixP_zero, List.map_const', List.length_range]
    rfl
  rw [e] at h4
  exact h4
theorem quad_by (w : World) : ∃ w0, w.alloc zq = w0 ∧ At w0 w.heap.size 0 (bcells [0, 0, 0, 0]) ∧ Below w.heap.size w w0 ∧ w0.heap.size = w.heap.size + 1 := by
  refine ⟨_, rfl, ?_, (Below.refl _ _).alloc (Nat.le_refl _) _, by simp⟩
  exact At.ofAlloc w #[Value.int .u8 0, Value.int .u8 0, Value.int .u8 0, Value.int .u8 0] 83
theorem info69 : (Tryz.prog.info? 83).map (fun i => (i.zero, i.size, i.bytes)) = some (some (.agg #[.int .u8 0, .int .u8 0, .int .u8 0, .int .u8 0]), 4, 4) := by kernel_rfl
def RetBx (K : List UInt8) (w : World) (e : Ending) (w' : World) : Prop := ∃ g, w.heap.size ≤ g ∧ e = .returned (.pointer (some ⟨g, 0, none⟩)) ∧ Box w' g K ∧ Below w.heap.size w w'
/-- what the loop over round words keeps -/
structure Grow (K : List UInt8) (n g : Nat) (w : World) (k : Nat) (v : Value) (wr : World) : Prop where
  head : At wr g 512 [v]
  own : wr.ownsRow (g + 2) 83 4 v k (bcells (wbs (rst K n k).1))
  sub : At wr g 0 (bcells sboxL)
  back : At wr g 256 (bcells backC)
  bel : Below g w wr
  size : g + 2 ≤ wr.heap.size
theorem Grow.below {K : List UInt8} {n g k : Nat} {w wr wr' : World} {v : Value} (h : Grow K n g w k v wr) (hb : Below wr.heap.size wr wr') : Grow K n g w k v wr' := by
  have hs := h.size
  exact ⟨h.head.below hb (by omega), own_below h.own hb (Nat.le_refl _), h.sub.below hb (by omega), h.back.below hb (by omega), h.bel.trans (hb.mono (by omega)), Nat.le_trans hs hb.size⟩
theorem Grow.turn {K : List UInt8} {n g k gx : Nat} {w wr wr' : World} {v : Value} (h : Grow K n g w k v wr) (ht : Turn gx 0 wr wr') (hx : g + 1 < gx) (hl : gx < wr.heap.size) (hne : ∀ b, v.ownBlock = some b → b ≠ gx) : Grow K n g w k v wr' := by
  have hs := h.size
  exact ⟨h.head.turn ht (.inl (by omega)), own_same h.own fun b hb => ht.block b (h.own.lt b hb).2 (hne b hb), h.sub.turn ht (.inl (by omega)), h.back.turn ht (.inl (by omega)), h.bel.trans (ht.toBelow hl (by omega)), Nat.le_trans hs ht.size⟩
theorem Turn.ofSets (g : Nat) : ∀ (vs : List Value) (o : Nat) (w : World), Turn g 0 w (w.setCells g o vs)
  | [], _, w => Turn.refl _ _ _
  | v :: vs, o, w => by
    rw [World.setCells]
    exact ((Turn.refl g 0 w).setCell o (Nat.zero_le _) v).trans (Turn.ofSets g vs _ _)
theorem own_is {w : World} {base e size n : Nat} {v : Value} {xs : List Value} (h : w.ownsRow base e size v n xs) (hn : 0 < n) : ∃ g cap, v = .slice (some ⟨g, 0, none⟩) n cap := by
  rcases h.2 with ⟨_, h0⟩ | ⟨g, cap, cur, hv, _⟩
  · omega
  · exact ⟨g, cap, hv⟩
theorem Grow.push {K : List UInt8} {n g k : Nat} {w wr w1 : World} {v v' : Value} {x : UInt32} {ob : Obj} (h : Grow K n g w k v wr) (hx : (rst K n (k + 1)).1 = (rst K n k).1 ++ [x])
    (hown1 : w1.ownsRow (g + 2) 83 4 v' (k + 1) (bcells (wbs (rst K n k).1) ++ bcells (wb x))) (hgrow : ((wr.alloc ob).drew).grownBy w1 v.ownBlock) : Grow K n g w (k + 1) v' (w1.setCell ⟨g, 512, none⟩ v') := by
  have hs := h.size
  have hlt : ∀ b, v.ownBlock = some b → g + 2 ≤ b := fun b hb => (h.own.lt b hb).1
  have hne : v.ownBlock ≠ some g := fun e => by have := hlt g e; omega
  have hl : g < ((wr.alloc ob).drew).heap.size := by simp; omega
  refine ⟨?_, ?_, ?_, ?_, ?_, ?_⟩
  · have := ((h.head.alloc ob).drew.grown hgrow hl hne).set 0 v'
    exact this
  · rw [hx, wbs_snoc, bcells_append]
    exact ownsRow_setCell_below hown1 (by simp only; omega) _
  · exact ((h.sub.alloc ob).drew.grown hgrow hl hne).other _ _ _ (.inr (.inr (by rw [bcells_length, sboxL_length]; omega)))
  · exact ((h.back.alloc ob).drew.grown hgrow hl hne).other _ _ _ (.inr (.inr (by rw [bcells_length, backC_length]; omega)))
  · exact (((h.bel.alloc (by omega) ob).drew).grown hgrow (by simp; omega) (fun b hb => by have := hlt b hb; omega)).setCell (by simp) _
  · rw [World.size_setCell]
    have := hgrow.size
    simp at this
    omega
theorem rst_step (K : List UInt8) (n k : Nat) (xd xe tt : UInt32) (p p5 : UInt8) (hn : n ≤ k) (hp : (rst K n k).2 = p) (hd : (rst K n k).1.getD (k - 1) 0 = xd) (he : (rst K n k).1.getD (k - n) 0 = xe) (ht : turned n k xd p = tt)
    (hp5 : (if k % n = 0 then dbl p else p) = p5) : (rst K n (k + 1)).1 = (rst K n k).1 ++ [xe ^^^ tt] ∧ (rst K n (k + 1)).2 = p5 := by
  rw [rst_high _ _ _ hn, estep, rst_length, hd, he, hp, ht, hp5]
  exact ⟨rfl, rfl⟩
theorem Grow.box {n g N : Nat} {w wr : World} {gw cap : Nat} {K : List UInt8} (h : Grow K n g w N (.slice (some ⟨gw, 0, none⟩) N cap) wr) (hn : n = K.length / 4) (hN : N = 4 * n + 28) : Box wr g K := by
  have hr := rst_all K n hn
  have hl := rst_length K n N
  rw [hN] at hl
  rw [hr] at hl
  have ho := h.own
  rw [show rst K n N = rst K n (4 * n + 28) by rw [hN], hr] at ho
  refine ⟨gw, cap, h.sub, h.back, ?_, At.ofOwnN ho⟩
  rw [hl, ← hN]
  exact h.head
theorem two_q (w : World) : ∃ w0, (w.alloc zq).alloc zq = w0 ∧ At w0 w.heap.size 0 (bcells [0, 0, 0, 0]) ∧ At w0 (w.heap.size + 1) 0 (bcells [0, 0, 0, 0]) ∧ Below w.heap.size w w0 ∧ w0.heap.size = w.heap.size + 2 := by
  obtain ⟨w1, h1, hA, hb, hs⟩ := quad_by w
  rw [h1]
  obtain ⟨w2, h2, hA2, hb2, hs2⟩ := quad_by w1
  rw [h2]
  rw [hs] at hA2
  exact ⟨w2, rfl, hA.below hb2 (by omega), hA2, hb.trans (hb2.mono hb.size), by omega⟩
end Go.Proofs.YtjlmmlnldjandaaGreatDoor
