/- Joined by merge.py: CtrP CtrB CtrC CtrD. -/
import Derived.Test.YtjlmmlnldjandaaGreatDoorAesQb
import Derived.Test.YtjlmmlnldjandaaGreatDoorOctX
import Derived.Test.YtjlmmlnldjandaaGreatDoorRowX
import Derived.Room.AppendFits
import Derived.Test.YtjlmmlnldjandaaGreatDoorAesBe
import Derived.Test.YtjlmmlnldjandaaGreatDoorAesBo
namespace Go.Proofs.YtjlmmlnldjandaaGreatDoor
open Go.RowKit
set_option linter.unusedVariables false
set_option linter.unusedSimpArgs false
theorem tl_append (a b : ByteArray) : (a ++ b).toList = a.toList ++ b.toList := by
  rw [Lib.toList_data, Lib.toList_data, Lib.toList_data, ByteArray.data_append]
  simp
theorem tl_ext (s : ByteArray) (a b : Nat) : (s.extract a b).toList = (s.toList.drop a).take (b - a) := by rw [Lib.extract_toList, ← Lib.toList_data]
theorem tl_ext0 (s : ByteArray) (b : Nat) : (s.extract 0 b).toList = s.toList.take b := by rw [tl_ext]; simp
theorem tl_extE (s : ByteArray) (a n : Nat) (h : n = s.size) : (s.extract a n).toList = s.toList.drop a := by
  rw [tl_ext, h, ← tl_size, List.take_of_length_le (by simp)]
def nxt (S : List UInt8) (w n : Nat) : List UInt8 := S.take (16 - w) ++ oaddL (S.drop (16 - w)) n
theorem nxt_length (S : List UInt8) (w n : Nat) (h : S.length = 16) : (nxt S w n).length = 16 := by
  rw [nxt, List.length_append, oaddL_length, List.length_take, List.length_drop]
  omega
theorem nxt_zero (S : List UInt8) (w : Nat) : nxt S w 0 = S := by
  rw [nxt, oaddL, Nat.add_zero, be_ofBe, List.take_append_drop]
theorem nxt_add (S : List UInt8) (w n m : Nat) (h : S.length = 16) : nxt (nxt S w n) w m = nxt S w (n + m) := by
  have hl : (S.take (16 - w)).length = 16 - w := by rw [List.length_take]; omega
  rw [nxt, nxt, nxt, List.take_left' hl, List.drop_left' hl, oaddL_addL]
/-- what a text is joined with: the first m blocks -/
def ctrS (K S : List UInt8) (w : Nat) : Nat → List UInt8
  | 0 => []
  | m + 1 => ctrS K S w m ++ encL K (nxt S w m)
theorem ctrS_length (K S : List UInt8) (w : Nat) : ∀ m, (ctrS K S w m).length = 16 * m
  | 0 => rfl
  | m + 1 => by rw [ctrS, List.length_append, ctrS_length K S w m, encL_length]; omega
theorem ctrS_take (K S : List UInt8) (w : Nat) : ∀ (k m : Nat), (ctrS K S w (m + k)).take (16 * m) = ctrS K S w m
  | 0, m => by rw [Nat.add_zero, List.take_of_length_le (by rw [ctrS_length]; exact Nat.le_refl _)]
  | k + 1, m => by
    rw [← Nat.add_assoc, ctrS, List.take_append_of_le_length (by rw [ctrS_length]; omega), ctrS_take K S w k m]
/-- how many blocks n bytes want -/
def blk (n : Nat) : Nat := (n + 15) / 16
def ctrL (K S : List UInt8) (w : Nat) (T : List UInt8) : List UInt8 := xorL T (ctrS K S w (blk T.length))
theorem xorL_length (A B : List UInt8) : (xorL A B).length = min A.length B.length := by simp [xorL]
theorem ctrL_length (K S : List UInt8) (w : Nat) (T : List UInt8) : (ctrL K S w T).length = T.length := by
  rw [ctrL, xorL_length, ctrS_length, blk]
  omega
theorem xorL_cut (A B : List UInt8) (n : Nat) (h : A.length ≤ n) : xorL A (B.take n) = xorL A B := by
  unfold xorL
  conv => lhs; rw [← List.take_of_length_le h, ← List.take_zipWith]
  rw [List.take_of_length_le (by simp; omega)]
theorem xorL_cutL (A B : List UInt8) (n : Nat) (h : B.length ≤ n) : xorL (A.take n) B = xorL A B := by
  unfold xorL
  conv => lhs; rw [← List.take_of_length_le h, ← List.take_zipWith]
  rw [List.take_of_length_le (by simp; omega)]
/-- any number of blocks that is great enough will do -/
theorem ctrL_any (K S : List UInt8) (w : Nat) (T : List UInt8) (m : Nat) (h : T.length ≤ 16 * m) : xorL T (ctrS K S w m) = ctrL K S w T := by
  have hb : blk T.length ≤ m := by unfold blk; omega
  obtain ⟨k, rfl⟩ : ∃ k, m = blk T.length + k := ⟨m - blk T.length, by omega⟩
  rw [ctrL, ← ctrS_take K S w k (blk T.length), xorL_cut _ _ _ (by unfold blk; omega)]
theorem xorL_app (A B C D : List UInt8) (h : A.length = C.length) : xorL (A ++ B) (C ++ D) = xorL A C ++ xorL B D := by
  unfold xorL
  exact List.zipWith_append h
theorem xorL_twice (A B : List UInt8) (h : A.length ≤ B.length) : xorL (xorL A B) B = A := by
  apply List.ext_getElem
  · simp [xorL]; omega
  · intro i h1 h2
    have hb : i < B.length := by omega
    simp [xorL, UInt8.xor_assoc]
theorem ctrL_twice (K S : List UInt8) (w : Nat) (T : List UInt8) : ctrL K S w (ctrL K S w T) = T := by
  rw [ctrL, ctrL_length, ctrL]
  exact xorL_twice _ _ (by rw [ctrS_length]; unfold blk; omega)
/-- what shorter texts are joined with is the beginning -/
theorem ctrL_take (K S : List UInt8) (w : Nat) (T : List UInt8) (n : Nat) (h : n ≤ T.length) : ctrL K S w (T.take n) = (ctrL K S w T).take n := by
  rw [← ctrL_any K S w (T.take n) (blk T.length) (by rw [List.length_take]; unfold blk; omega), ctrL]
  unfold xorL
  rw [List.take_zipWith]
  apply List.ext_getElem
  · simp [ctrS_length, blk]; omega
  · intro i h1 h2
    simp
theorem nxt_mod (K S : List UInt8) (w n i : Nat) (h : S.length = 16) : encL K (nxt (nxt S w n) w i) = encL K (nxt S w (n + i)) := by rw [nxt_add S w n i h]
theorem ctrS_app (K S : List UInt8) (w n : Nat) (h : S.length = 16) : ∀ m, ctrS K S w (n + m) = ctrS K S w n ++ ctrS K (nxt S w n) w m
  | 0 => by rw [ctrS, Nat.add_zero, List.append_nil]
  | m + 1 => by rw [← Nat.add_assoc, ctrS, ctrS, ctrS_app K S w n h m, nxt_add S w n m h, List.append_assoc]
/-- a text behind whole blocks -/
theorem ctrL_app (K S : List UInt8) (w n : Nat) (A B : List UInt8) (h : S.length = 16) (hA : A.length = 16 * n) : ctrL K S w (A ++ B) = ctrL K S w A ++ ctrL K (nxt S w n) w B := by
  rw [← ctrL_any K S w (A ++ B) (n + blk B.length) (by rw [List.length_append, hA]; unfold blk; omega), ctrS_app K S w n h, xorL_app _ _ _ _ (by rw [hA, ctrS_length]), ctrL_any K S w A n (by omega)]
  rfl
/-- one block more -/
theorem ctr_step (K S : List UInt8) (w i : Nat) (T : List UInt8) (h : 16 * i ≤ T.length) : xorL (T.take (16 * i)) (ctrS K S w i) ++ xorL (T.drop (16 * i)) (encL K (nxt S w i)) = xorL (T.take (16 * (i + 1))) (ctrS K S w (i + 1)) := by
  rw [ctrS]
  have hl : (T.take (16 * i)).length = (ctrS K S w i).length := by rw [List.length_take, ctrS_length]; omega
  rw [show T.take (16 * (i + 1)) = T.take (16 * i) ++ (T.drop (16 * i)).take 16 by rw [show 16 * (i + 1) = 16 * i + 16 by omega, List.take_add], xorL_app _ _ _ _ hl]
  congr 1
  exact (xorL_cutL _ _ 16 (by rw [encL_length]; exact Nat.le_refl _)).symm
/-! ### what is refused -/
def keyOk (n : Nat) : Bool := decide (n = 16 ∨ n = 24 ∨ n = 32)
def mayE (n : Nat) (w : Int) : Int := if n = 16 then (if w < 1 ∨ 16 < w then 2 else 0) else 4
def ctrE (k n : Nat) (w : Int) (t : Nat) : Int := if keyOk k then (if mayE n w = 0 then (if 70000 < t then 6 else 0) else mayE n w) else 3
end Go.Proofs.YtjlmmlnldjandaaGreatDoor
namespace Go.Proofs.YtjlmmlnldjandaaGreatDoor
open Go.RowKit
set_option linter.unusedVariables false
set_option linter.unusedSimpArgs false
theorem below_of_drew {w w' : World} (h : Below w.drew.heap.size w.drew w') : Below w.heap.size w w' := ⟨h.os, h.tape, h.output, h.size, h.block⟩
def RetI64 (c : Int) (w : World) (e : Ending) (w' : World) : Prop := e = .returned (.int .i64 c) ∧ w = w'
/-- what Next answers -/
def nextL (S : List UInt8) (wd : Int) (n : Nat) : List UInt8 := if mayE S.length wd = 0 then nxt S wd.toNat n else []
theorem may_zero {n : Nat} {wd : Int} (h : mayE n wd = 0) : n = 16 ∧ 1 ≤ wd ∧ wd ≤ 16 := by
  unfold mayE at h
  split at h
  · rename_i h16
    split at h
    · cases h
    · rename_i h2; exact ⟨h16, by omega⟩
  · cases h
end Go.Proofs.YtjlmmlnldjandaaGreatDoor
namespace Go.Proofs.YtjlmmlnldjandaaGreatDoor
open Go.RowKit
set_option linter.unusedVariables false
set_option linter.unusedSimpArgs false
/-- append of a text where there is room, as one step of a region that draws its order -/
theorem step_append_text {P : Program} {w : World} {ops : Array Oper} {o : Oper} {a : Act} {K : Act → World → Prop} {Q : Exit → Act → World → Prop} {E : Prop} (hgd : o.guard = none) (sl x : Operand) (t u : TypeId)
    (ho : o.op = .call { callee := .builtin .append, args := #[sl, x], argTypes := #[t, u] })
    (base : Nat) (e : TypeId) (i : TypeInfo) (ht : P.underlying t = some (.slice e)) (hu : P.underlying u = some .string) (hi : P.info? e = some i) (hsize : i.size = 1)
    (p : Option Addr) (n cap : Nat) (l : List UInt8) (hs : a.eval sl = .slice p n cap) (hown : w.ownsRow base e 1 (.slice p n cap) n (bcells l)) (s : ByteArray) (hx : a.eval x = .string s)
    (h1 : 0 < cap) (hroom : n + s.size ≤ cap)
    (h : ∀ w', w'.ownsRow base e 1 (.slice p (n + s.size) cap) (n + s.size) (bcells (l ++ s.toList)) → w.grownBy w' (Value.ownBlock (.slice p n cap)) → K (a.put o.dst (.slice p (n + s.size) cap)) w') :
    if Region.wanted o (yielded ops a.tmps) = true then Oper.wp P o a w K Q else E := by
  have hw : Region.wanted o (yielded ops a.tmps) = true := by simp [Region.wanted, hgd]
  rw [if_pos hw]
  obtain ⟨w', hr, h2, h3⟩ := Lib.run_append_fits_string (P := P) w base t u o.type e i ht hu hi hsize p n cap (bcells l) hown s h1 hroom
  have e1 : Lib.strCells s = bcells s.toList := by
    rw [Lib.toList_data]
    simp [Lib.strCells, bcells]
  rw [e1, ← bcells_append] at h2
  unfold Oper.wp execOp
  simp only [ho, resolve, invoke, builtin, Sem.run_bind, Sem.run_pure, Result.andThen_ok, List.map_toArray, List.map_cons, List.map_nil, hs, hx, hr]
  exact h w' h2 h3
/-- one block after the other: the cipher, the width and the counter lie in three blocks from B on -/
structure Gen (w : World) (B g : Nat) (K C : List UInt8) (wd : Nat) : Prop where
  ci : At w B 0 [.pointer (some ⟨g, 0, none⟩)]
  wi : At w (B + 1) 0 [.int .i64 (wd : Int)]
  co : ∃ c : ByteArray, c.toList = C ∧ At w (B + 2) 0 [.string c]
  q : Ciq w g K
  lt : g < B
  len : C.length = 16
theorem Gen.size {w : World} {B g wd : Nat} {K C : List UInt8} (h : Gen w B g K C wd) : B + 2 < w.heap.size := by
  obtain ⟨c, _, hc⟩ := h.co
  exact hc.lt (by simp)
theorem Gen.below {w w' : World} {B g wd : Nat} {K C : List UInt8} (h : Gen w B g K C wd) (hb : Below w.heap.size w w') : Gen w' B g K C wd := by
  have hs := h.size
  obtain ⟨c, hc, ha⟩ := h.co
  exact ⟨h.ci.below hb (by omega), h.wi.below hb (by omega), ⟨c, hc, ha.below hb hs⟩, h.q.below hb h.q.lt, h.lt, h.len⟩
theorem Gen.grown {w w' : World} {B g wd b : Nat} {K C : List UInt8} (h : Gen w B g K C wd) (hg : w.grownBy w' (some b)) (hb : b < B) (hgb : g < b) : Gen w' B g K C wd := by
  have hs := h.size
  obtain ⟨c, hc, ha⟩ := h.co
  have hbel : Below b w w' := (Below.refl b w).grown hg (by omega) (fun k hk => by cases hk; exact Nat.le_refl _)
  have hne : ∀ j, b < j → (some b : Option Nat) ≠ some j := fun j hj e => by cases e; omega
  exact ⟨h.ci.grown hg (by omega) (hne _ hb), h.wi.grown hg (by omega) (hne _ (by omega)), ⟨c, hc, ha.grown hg hs (hne _ (by omega))⟩, h.q.below hbel hgb, h.lt, h.len⟩
def RetG (B g : Nat) (K C : List UInt8) (wd : Nat) (w : World) (e : Ending) (w' : World) : Prop := ∃ s : ByteArray, e = .returned (.string s) ∧ s.toList = encL K C ∧ Gen w' B g K (nxt C wd 1) wd ∧ Turn (B + 2) 0 w w'
def lenOf : Value → Nat
  | .slice _ n _ => n
  | _ => 0
def ctrR (K S : List UInt8) (wd : Int) (T : List UInt8) : List UInt8 := if ctrE K.length S.length wd T.length = 0 then ctrL K S wd.toNat T else []
theorem Gen.drewN {w : World} {B g wd : Nat} {K C : List UInt8} (h : Gen w B g K C wd) : Gen w.drew B g K C wd := h.below ((Below.refl _ _).drew)
end Go.Proofs.YtjlmmlnldjandaaGreatDoor
namespace Go.Proofs.YtjlmmlnldjandaaGreatDoor
open Go.RowKit
set_option linter.unusedVariables false
set_option linter.unusedSimpArgs false
theorem At.take {w : World} {g : Nat} {l : List UInt8} (h : At w g 0 (bcells l)) (n : Nat) : At w g 0 (bcells (l.take n)) := by
  rw [← List.take_append_drop n l, bcells_append] at h
  exact h.split.1
theorem own_slice {w : World} {B e n : Nat} {v : Value} {xs : List Value} (h : w.ownsRow B e 1 v n xs) : ∃ p cap, v = .slice p n cap := by
  rcases h.2 with ⟨rfl, rfl⟩ | ⟨g, cap, cur, rfl, _⟩
  · exact ⟨none, 0, rfl⟩
  · exact ⟨some ⟨g, 0, none⟩, cap, rfl⟩
end Go.Proofs.YtjlmmlnldjandaaGreatDoor
namespace Go.Proofs.YtjlmmlnldjandaaGreatDoor
open Go.RowKit
set_option linter.unusedVariables false
set_option linter.unusedSimpArgs false
theorem keyOk_yes {n : Nat} (h : n = 16 ∨ n = 24 ∨ n = 32) : keyOk n = true := by simp [keyOk, h]
theorem keyOk_no {n : Nat} (h1 : n ≠ 16) (h2 : n ≠ 24) (h3 : n ≠ 32) : keyOk n = false := by simp [keyOk, h1, h2, h3]
theorem ctrR_ne {K S T : List UInt8} {wd : Int} (h : ctrE K.length S.length wd T.length ≠ 0) : ctrR K S wd T = [] := by rw [ctrR, if_neg h]
theorem ctrR_ok {K S T : List UInt8} {wd : Nat} (h : ctrE K.length S.length (wd : Int) T.length = 0) : ctrR K S (wd : Int) T = ctrL K S wd T := by rw [ctrR, if_pos h, Int.toNat_natCast]
theorem ctrE_zero {k n t : Nat} {wd : Int} (h : ctrE k n wd t = 0) : (k = 16 ∨ k = 24 ∨ k = 32) ∧ n = 16 ∧ 1 ≤ wd ∧ wd ≤ 16 ∧ t ≤ 70000 := by
  unfold ctrE at h
  split at h
  · rename_i hk
    split at h
    · rename_i hm
      split at h
      · cases h
      · obtain ⟨a, b, c⟩ := may_zero hm
        exact ⟨by simpa [keyOk] using hk, a, b, c, by omega⟩
    · rename_i hm; exact absurd h hm
  · cases h
theorem may_range (n : Nat) (wd : Int) : mayE n wd = 0 ∨ mayE n wd = 2 ∨ mayE n wd = 4 := by
  unfold mayE
  split
  · split <;> simp
  · simp
end Go.Proofs.YtjlmmlnldjandaaGreatDoor
