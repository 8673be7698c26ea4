/- A hash in memory; the tables; rows that are filled from their head on. -/
import Derived.Test.YtjlmmlnldjandaaGreatDoorShK
import Derived.Test.YtjlmmlnldjandaaGreatDoorShI
namespace Go.Proofs.YtjlmmlnldjandaaGreatDoor
open Go.RowKit
set_option linter.unusedVariables false
set_option linter.unusedSimpArgs false
/-- the package's tables lie where they are laid -/
def Tb (w : World) : Prop := (∀ i, i < 80 → w.cell? ⟨2, i, none⟩ = some (.int .u64 ((Sh.roundL.getD i 0 : Nat) : Int))) ∧ (∀ i, i < 16 → w.cell? ⟨0, i, none⟩ = some (.int .u64 ((Sh.startL.getD i 0 : Nat) : Int))) ∧ 2 < w.heap.size
theorem Tb.below {w w' : World} {B : Nat} (h : Tb w) (hb : Below B w w') (hB : 2 < B) : Tb w' :=
  ⟨fun i hi => (hb.cell (p := ⟨2, i, none⟩) (by show 2 < B; omega)).trans (h.1 i hi), fun i hi => (hb.cell (p := ⟨0, i, none⟩) (by show 0 < B; omega)).trans (h.2.1 i hi), Nat.lt_of_lt_of_le h.2.2 hb.size⟩
theorem Tb.chg {w w' : World} {g : Nat} (h : Tb w) (hc : Chg g w w') (hg : 2 < g) : Tb w' := by
  have h1 := h.2.2
  exact ⟨fun i hi => (World.cell?_of_block (w := w) (hc.block _ (by show 2 < _; omega) (by show 2 ≠ g; omega))).trans (h.1 i hi), fun i hi => (World.cell?_of_block (w := w) (hc.block _ (by show 0 < _; omega) (by show 0 ≠ g; omega))).trans (h.2.1 i hi), Nat.lt_of_lt_of_le h1 hc.size⟩
theorem Tb.drewN {w : World} (h : Tb w) (n : Nat) : Tb (w.drewN n) := h
/-- a hash: what the whole blocks came to, what lies behind them, the text's length -/
structure HM (w : World) (g : Nat) (kind : Int) (H : List Nat) (R : List UInt8) (n : Nat) : Prop where
  kd : At w g 0 [.int .i64 kind]
  bl : At w g 1 (ucells H)
  rs : At w g 9 (bcells R)
  ln : At w g 137 [.int .u64 (n : Int)]
  hl : H.length = 8
  rl : R.length = 128
theorem HM.lt {w : World} {g n : Nat} {kind : Int} {H : List Nat} {R : List UInt8} (h : HM w g kind H R n) : g < w.heap.size := h.kd.lt (by simp)
theorem HM.below {w w' : World} {g n B : Nat} {kind : Int} {H : List Nat} {R : List UInt8} (h : HM w g kind H R n) (hb : Below B w w') (hB : g < B) : HM w' g kind H R n :=
  ⟨h.kd.below hb hB, h.bl.below hb hB, h.rs.below hb hB, h.ln.below hb hB, h.hl, h.rl⟩
theorem HM.chg {w w' : World} {g g' n : Nat} {kind : Int} {H : List Nat} {R : List UInt8} (h : HM w g kind H R n) (hc : Chg g' w w') (hne : g ≠ g') : HM w' g kind H R n :=
  ⟨h.kd.chg hc hne, h.bl.chg hc hne, h.rs.chg hc hne, h.ln.chg hc hne, h.hl, h.rl⟩
theorem HM.drewN {w : World} {g n : Nat} {kind : Int} {H : List Nat} {R : List UInt8} (h : HM w g kind H R n) (k : Nat) : HM (w.drewN k) g kind H R n := ⟨h.kd.drewN k, h.bl.drewN k, h.rs.drewN k, h.ln.drewN k, h.hl, h.rl⟩
theorem HM.other {w : World} {g n : Nat} {kind : Int} {H : List Nat} {R : List UInt8} (h : HM w g kind H R n) (g' o : Nat) (u : Value) (hne : g' ≠ g) : HM (w.setCell ⟨g', o, none⟩ u) g kind H R n :=
  ⟨h.kd.other _ _ _ (.inl hne), h.bl.other _ _ _ (.inl hne), h.rs.other _ _ _ (.inl hne), h.ln.other _ _ _ (.inl hne), h.hl, h.rl⟩
theorem HM.others {w : World} {g n : Nat} {kind : Int} {H : List Nat} {R : List UInt8} (h : HM w g kind H R n) (g' o : Nat) (vs : List Value) (hne : g' ≠ g) : HM (w.setCells g' o vs) g kind H R n :=
  ⟨h.kd.apartSets (.inl hne), h.bl.apartSets (.inl hne), h.rs.apartSets (.inl hne), h.ln.apartSets (.inl hne), h.hl, h.rl⟩
theorem HM.word {w : World} {g n : Nat} {kind : Int} {H : List Nat} {R : List UInt8} (h : HM w g kind H R n) (j u : Nat) (hj : j < 8) : HM (w.setCell ⟨g, 1 + j, none⟩ (.int .u64 (u : Int))) g kind (H.set j u) R n :=
  ⟨h.kd.other _ _ _ (.inr (.inr (by first | (simp; done) | (simp; omega)))), h.bl.uset j u, h.rs.other _ _ _ (.inr (.inl (by omega))), h.ln.other _ _ _ (.inr (.inl (by omega))), by rw [List.length_set]; exact h.hl, h.rl⟩
/-- a row of N noughts, filled from its head on -/
def Zr (N : Nat) (l : List Nat) : List Nat := l ++ List.replicate (N - l.length) 0
theorem Zr_length (N : Nat) (l : List Nat) (h : l.length ≤ N) : (Zr N l).length = N := by rw [Zr, List.length_append, List.length_replicate]; omega
theorem Zr_put (N : Nat) (l : List Nat) (u : Nat) (h : l.length < N) : (Zr N l).set l.length u = Zr N (l ++ [u]) := grow_set l 0 u N h
theorem Zr_zero (N : Nat) (l : List Nat) (h : l.length < N) : (Zr N l).set l.length 0 = Zr N l := by
  rw [Zr, List.set_append_right _ _ (Nat.le_refl _), Nat.sub_self, show N - l.length = (N - l.length - 1) + 1 by omega, List.replicate_succ]
  rfl
theorem Zr_get (N : Nat) (l : List Nat) (j : Nat) (h : j < l.length) : (Zr N l).getD j 0 = Sh.g l j := by
  rw [Zr, Sh.g, List.getD, List.getD, List.getElem?_append_left h]
theorem Zr_nil (N : Nat) : Zr N [] = List.replicate N 0 := rfl
/-- words of 32 bits -/
def vcells (l : List Nat) : List Value := l.map fun (x : Nat) => Value.int .u32 (x : Int)
theorem vcells_length (l : List Nat) : (vcells l).length = l.length := by simp [vcells]
theorem vcells_get (l : List Nat) (j : Nat) (hj : j < l.length) : (vcells l)[j]? = some (.int .u32 ((l.getD j 0 : Nat) : Int)) := by simp [vcells, List.getD, hj]
theorem vcells_set (l : List Nat) (j u : Nat) : (vcells l).set j (.int .u32 (u : Int)) = vcells (l.set j u) := by simp [vcells, List.map_set]
theorem At.v {w : World} {g o : Nat} {l : List Nat} (h : At w g o (vcells l)) (j : Nat) (hj : j < l.length) : w.cell? ⟨g, o + j, none⟩ = some (.int .u32 ((l.getD j 0 : Nat) : Int)) ∧ w.frozen? ⟨g, o + j, none⟩ = false :=
  ⟨h.cell j _ (vcells_get l j hj), h.froz j (by rw [vcells_length]; exact hj)⟩
theorem At.vset {w : World} {g o : Nat} {l : List Nat} (h : At w g o (vcells l)) (j u : Nat) : At (w.setCell ⟨g, o + j, none⟩ (.int .u32 (u : Int))) g o (vcells (l.set j u)) := by
  rw [← vcells_set]
  exact h.set j _
theorem eightO {w : World} {g o v0 v1 v2 v3 v4 v5 v6 v7 : Nat} (h : At w g o (ucells [v0, v1, v2, v3, v4, v5, v6, v7])) : w.cell? ⟨g, o, none⟩ = some (.int .u64 (v0 : Int)) ∧ w.cell? ⟨g, o + 1, none⟩ = some (.int .u64 (v1 : Int)) ∧ w.cell? ⟨g, o + 2, none⟩ = some (.int .u64 (v2 : Int)) ∧ w.cell? ⟨g, o + 3, none⟩ = some (.int .u64 (v3 : Int)) ∧ w.cell? ⟨g, o + 4, none⟩ = some (.int .u64 (v4 : Int)) ∧ w.cell? ⟨g, o + 5, none⟩ = some (.int .u64 (v5 : Int)) ∧ w.cell? ⟨g, o + 6, none⟩ = some (.int .u64 (v6 : Int)) ∧ w.cell? ⟨g, o + 7, none⟩ = some (.int .u64 (v7 : Int)) :=
  ⟨h.cell 0 _ rfl, h.cell 1 _ rfl, h.cell 2 _ rfl, h.cell 3 _ rfl, h.cell 4 _ rfl, h.cell 5 _ rfl, h.cell 6 _ rfl, h.cell 7 _ rfl⟩
theorem Chg.setsNew {g B : Nat} {a : World} (hB : a.heap.size ≤ B) : ∀ (vs : List Value) (o : Nat) (b : World), Chg g a b → Chg g a (b.setCells B o vs)
  | [], _, _, h => h
  | v :: vs, o, b, h => by
    rw [World.setCells]
    exact Chg.setsNew hB vs (o + 1) _ (h.setNew o v hB)
theorem kL64 : Sh.kL 64 = Sh.roundL := by decide
theorem kL32 : ∀ i, i < 64 → Sh.g (Sh.kL 32) i = Sh.roundL.getD i 0 >>> 32 := by decide
theorem roundL_lt : ∀ x ∈ Sh.roundL, x < 2 ^ 64 := by decide
theorem g_hL (L : List Nat) (v0 v1 v2 v3 v4 v5 v6 v7 : Nat) (h : L = [v0, v1, v2, v3, v4, v5, v6, v7]) : Sh.g L 0 = v0 ∧ Sh.g L 1 = v1 ∧ Sh.g L 2 = v2 ∧ Sh.g L 3 = v3 ∧ Sh.g L 4 = v4 ∧ Sh.g L 5 = v5 ∧ Sh.g L 6 = v6 ∧ Sh.g L 7 = v7 := by
  subst h
  exact ⟨rfl, rfl, rfl, rfl, rfl, rfl, rfl, rfl⟩
theorem not_xor32 (e h : Nat) (he : e < 2 ^ 32) (hh : h < 2 ^ 32) : ((2 ^ 32 - 1) ^^^ e) &&& h = (2 ^ 32 - 1 - e) &&& h := by
  refine Nat.eq_of_testBit_eq fun i => ?_
  rw [Nat.testBit_and, Nat.testBit_and, Nat.testBit_xor, Nat.testBit_two_pow_sub_one, show 2 ^ 32 - 1 - e = 2 ^ 32 - (e + 1) by omega, Nat.testBit_two_pow_sub_succ he]
  by_cases hi : i < 32
  · simp [hi]
  · rw [Nat.testBit_lt_two_pow (Nat.lt_of_lt_of_le hh (Nat.pow_le_pow_right (by decide) (by omega)))]
    simp
/-- what a walk of a block's words knows of memory -/
structure Pk (w wr : World) (g gw : Nat) (kind : Int) (H : List Nat) (R : List UInt8) (n : Nat) (cs : List Value) : Prop where
  hm : HM wr g kind H R n
  row : At wr gw 0 cs
  tb : Tb wr
  chg : Chg g w wr
  ne : gw ≠ g ∧ 2 < g ∧ w.heap.size ≤ gw
theorem Pk.drewN {w wr : World} {g gw n : Nat} {kind : Int} {H : List Nat} {R : List UInt8} {cs : List Value} (h : Pk w wr g gw kind H R n cs) (k : Nat) : Pk w (wr.drewN k) g gw kind H R n cs := ⟨h.hm.drewN k, h.row.drewN k, h.tb.drewN k, h.chg.drewN k, h.ne⟩
theorem Pk.drew {w wr : World} {g gw n : Nat} {kind : Int} {H : List Nat} {R : List UInt8} {cs : List Value} (h : Pk w wr g gw kind H R n cs) : Pk w wr.drew g gw kind H R n cs := h.drewN 1
theorem Pk.below {w wr w2 : World} {g gw n : Nat} {kind : Int} {H : List Nat} {R : List UInt8} {cs : List Value} (h : Pk w wr g gw kind H R n cs) (hc : cs ≠ []) (hb : Below wr.heap.size wr w2) : Pk w w2 g gw kind H R n cs :=
  ⟨h.hm.below hb h.hm.lt, h.row.below hb (h.row.lt hc), h.tb.below hb h.tb.2.2, h.chg.below hb, h.ne⟩
theorem Pk.uput {w wr : World} {g gw n : Nat} {kind : Int} {H : List Nat} {R : List UInt8} {l : List Nat} (hgw : 2 < gw) (h : Pk w wr g gw kind H R n (ucells l)) (j u : Nat) : Pk w (wr.setCell ⟨gw, j, none⟩ (.int .u64 (u : Int))) g gw kind H R n (ucells (l.set j u)) := by
  obtain ⟨h1, h2, h3⟩ := h.ne
  have hr := h.row.uset j u
  rw [Nat.zero_add] at hr
  exact ⟨h.hm.other _ _ _ h1, hr, h.tb.chg ((Chg.refl gw wr).setCell j _) hgw, h.chg.setNew _ _ h3, h.ne⟩
theorem Pk.vput {w wr : World} {g gw n : Nat} {kind : Int} {H : List Nat} {R : List UInt8} {l : List Nat} (hgw : 2 < gw) (h : Pk w wr g gw kind H R n (vcells l)) (j u : Nat) : Pk w (wr.setCell ⟨gw, j, none⟩ (.int .u32 (u : Int))) g gw kind H R n (vcells (l.set j u)) := by
  obtain ⟨h1, h2, h3⟩ := h.ne
  have hr := h.row.vset j u
  rw [Nat.zero_add] at hr
  exact ⟨h.hm.other _ _ _ h1, hr, h.tb.chg ((Chg.refl gw wr).setCell j _) hgw, h.chg.setNew _ _ h3, h.ne⟩
theorem word_stepL (S : List UInt8) (o m k : Nat) (hk : k < m) (h : o + k < S.length) : ofBe (((S.drop o).take m).take (k + 1)) = ofBe (((S.drop o).take m).take k) * 256 + (S.getD (o + k) 0).toNat := by
  refine ofBe_take _ k _ ?_
  rw [List.getElem?_take, if_pos hk, List.getElem?_drop, List.getElem?_eq_getElem h, List.getD, List.getElem?_eq_getElem h]
  rfl
theorem set_at (L : List Nat) (i x : Nat) (h : i < L.length) : (L.set i x).getD i 0 = x := by simp [List.getD, h]
def RetHB (g : Nat) (kind : Int) (H : List Nat) (R : List UInt8) (n : Nat) (w : World) (e : Ending) (w' : World) : Prop := e = .returned (.tuple #[]) ∧ HM w' g kind H R n ∧ Chg g w w'
end Go.Proofs.YtjlmmlnldjandaaGreatDoor
