/- Size; a hash of a text; plain words on what is gathered. -/
import Derived.Test.YtjlmmlnldjandaaGreatDoorShL3
import Derived.Test.YtjlmmlnldjandaaGreatDoorShL6
namespace Go.Proofs.YtjlmmlnldjandaaGreatDoor
open Go.RowKit
set_option linter.unusedVariables false
set_option linter.unusedSimpArgs false
def szA (kind : Int) : Int := if kind = 256 then 32 else if kind = 384 then 48 else if kind = 512 then 64 else 0
def szB (kind : Int) : Int := if kind = 256 then 64 else if kind = 384 then 128 else if kind = 512 then 128 else 0
def RetSz (kind : Int) (w : World) (e : Ending) (w' : World) : Prop := e = .returned (.tuple #[.int .i64 (szA kind), .int .i64 (szB kind), .int .i64 (Sh.shE kind)]) ∧ w = w'
theorem known_ways (kind : Int) : kind = 256 ∨ kind = 384 ∨ kind = 512 ∨ Sh.known kind = false ∧ kind ≠ 256 ∧ kind ≠ 384 ∧ kind ≠ 512 := by
  by_cases h1 : kind = 256
  · exact .inl h1
  · by_cases h2 : kind = 384
    · exact .inr (.inl h2)
    · by_cases h3 : kind = 512
      · exact .inr (.inr (.inl h3))
      · refine .inr (.inr (.inr ⟨?_, h1, h2, h3⟩))
        rw [Sh.known, beq_eq_false_iff_ne.2 h1, beq_eq_false_iff_ne.2 h2, beq_eq_false_iff_ne.2 h3]
        rfl
set_option maxRecDepth 100000 in
theorem size_any (kind : Int) (w : World) : Calls Tryz.prog 84 #[.int .i64 kind] w (RetSz kind w) := by
  rcases known_ways kind with rfl | rfl | rfl | ⟨hk, h1, h2, h3⟩
  · go_enter Tryz.func84, Tryz.ntmps84
    go_wp2_with fail
    go_ret3
    exact ⟨rfl, rfl⟩
  · go_enter Tryz.func84, Tryz.ntmps84
    go_wp2_with fail
    go_ret3
    exact ⟨rfl, rfl⟩
  · go_enter Tryz.func84, Tryz.ntmps84
    go_wp2_with fail
    go_ret3
    exact ⟨rfl, rfl⟩
  · have e1 : (kind == 256) = false := beq_eq_false_iff_ne.2 h1
    have e2 : (kind == 384) = false := beq_eq_false_iff_ne.2 h2
    have e3 : (kind == 512) = false := beq_eq_false_iff_ne.2 h3
    have HA : Hid (szA kind = 0) := by show _ = _; rw [szA, if_neg h1, if_neg h2, if_neg h3]
    have HB : Hid (szB kind = 0) := by show _ = _; rw [szB, if_neg h1, if_neg h2, if_neg h3]
    have HE : Hid (Sh.shE kind = 11) := by show _ = _; rw [Sh.shE, hk]; rfl
    clear hk h1 h2 h3
    go_enter Tryz.func84, Tryz.ntmps84
    go_wp2_with fail
    go_ret3
    exact ⟨by rw [HA.out, HB.out, HE.out]; rfl, rfl⟩
/-- a known kind's block and digest -/
theorem size_known (kind : Int) (hk : Sh.known kind = true) : kb kind (Sh.bits kind) ∧ szB kind = ((2 * Sh.bits kind : Nat) : Int) ∧ szA kind = ((Sh.outN kind : Nat) : Int) ∧ Sh.outN kind ≤ Sh.bits kind ∧ Sh.shE kind = 0 := by
  rcases known_ways kind with rfl | rfl | rfl | ⟨hk2, _⟩
  · exact ⟨.inl ⟨rfl, rfl⟩, rfl, rfl, by decide, rfl⟩
  · exact ⟨.inr ⟨by decide, rfl⟩, rfl, rfl, by decide, rfl⟩
  · exact ⟨.inr ⟨by decide, rfl⟩, rfl, rfl, by decide, rfl⟩
  · rw [hk] at hk2
    cases hk2
/-- a hash to which the bytes D were written -/
def Hst (w : World) (g : Nat) (kind : Int) (b : Nat) (D : List UInt8) : Prop := ∃ R, HM w g kind (Sh.hs b (Sh.kL b) (Sh.hL kind) D (D.length / (2 * b))) R D.length ∧ R.take (D.length % (2 * b)) = D.drop (2 * b * (D.length / (2 * b)))
theorem Hst.lt {w : World} {g b : Nat} {kind : Int} {D : List UInt8} (h : Hst w g kind b D) : g < w.heap.size := by
  obtain ⟨R, h, _⟩ := h
  exact h.lt
theorem Hst.below {w w' : World} {g b B : Nat} {kind : Int} {D : List UInt8} (h : Hst w g kind b D) (hb : Below B w w') (hB : g < B) : Hst w' g kind b D := by
  obtain ⟨R, h, h2⟩ := h
  exact ⟨R, h.below hb hB, h2⟩
theorem Hst.chg {w w' : World} {g g' b : Nat} {kind : Int} {D : List UInt8} (h : Hst w g kind b D) (hc : Chg g' w w') (hne : g ≠ g') : Hst w' g kind b D := by
  obtain ⟨R, h, h2⟩ := h
  exact ⟨R, h.chg hc hne, h2⟩
/-- a part of a row is written over -/
theorem At.mid_set {w : World} {g o : Nat} {A Z T X : List UInt8} (h : At w g o (bcells (A ++ (Z ++ T)))) (hX : Z.length = X.length) : At (w.setCells g (o + A.length) (bcells X)) g o (bcells (A ++ (X ++ T))) := by
  have e : bcells (A ++ (Z ++ T)) = bcells A ++ bcells Z ++ bcells T := by rw [← List.append_assoc, bcells_append, bcells_append]
  rw [e] at h
  have h1 : At w g o (bcells A) := At.sub (a := []) (b := bcells A) (c := bcells Z ++ bcells T) (by rw [List.nil_append, ← List.append_assoc]; exact h)
  have h2 : At w g (o + A.length) (bcells Z) := by
    have := h.sub
    rwa [bcells_length] at this
  have h3 : At w g (o + A.length + Z.length) (bcells T) := by
    have h0 : At w g o ((bcells A ++ bcells Z) ++ bcells T ++ []) := by rw [List.append_nil]; exact h
    have := h0.sub
    rwa [List.length_append, bcells_length, bcells_length, ← Nat.add_assoc] at this
  have k1 : At (w.setCells g (o + A.length) (bcells X)) g o (bcells A) := h1.apartSets (.inr (.inr (by rw [bcells_length]; exact Nat.le_refl _)))
  have k2 : At (w.setCells g (o + A.length) (bcells X)) g (o + A.length) (bcells X) := h2.ofSets (by rw [bcells_length, bcells_length, hX])
  have k3 : At (w.setCells g (o + A.length) (bcells X)) g (o + A.length + X.length) (bcells T) := by
    rw [← hX]
    exact h3.apartSets (.inr (.inl (by rw [bcells_length, hX]; exact Nat.le_refl _)))
  rw [bcells_append, bcells_append]
  refine k1.join ?_
  rw [bcells_length]
  refine k2.join ?_
  rw [bcells_length]
  exact k3
/-- the bytes from place u on are written over by X -/
def over (R X : List UInt8) (u : Nat) : List UInt8 := R.take u ++ (X ++ R.drop (u + X.length))
theorem over_length (R X : List UInt8) (u : Nat) (h : u + X.length ≤ R.length) : (over R X u).length = R.length := by
  rw [over, List.length_append, List.length_append, List.length_take, List.length_drop]; omega
theorem over_take (R X : List UInt8) (u : Nat) (h : u + X.length ≤ R.length) : (over R X u).take (u + X.length) = R.take u ++ X := by
  rw [over, ← List.append_assoc, List.take_left' (by rw [List.length_append, List.length_take]; omega)]
theorem HM.over {w : World} {g n u : Nat} {kind : Int} {H : List Nat} {R X : List UInt8} (h : HM w g kind H R n) (hu : u + X.length ≤ 128) : HM (w.setCells g (9 + u) (bcells X)) g kind H (over R X u) n := by
  have hl := h.rl
  have hsplit : R = R.take u ++ ((R.drop u).take X.length ++ R.drop (u + X.length)) := by
    rw [← List.drop_drop, List.take_append_drop, List.take_append_drop]
  have hR := h.rs
  rw [hsplit] at hR
  have hr2 := hR.mid_set (X := X) (by rw [List.length_take, List.length_drop]; omega)
  rw [List.length_take, Nat.min_eq_left (by omega)] at hr2
  exact ⟨h.kd.apartSets (.inr (.inr (by simp; omega))), h.bl.apartSets (.inr (.inr (by rw [ucells_length, h.hl]; omega))), hr2, h.ln.apartSets (.inr (.inl (by rw [bcells_length]; omega))), h.hl, by rw [over_length _ _ _ (by omega)]; exact hl⟩
theorem HM.length {w : World} {g n : Nat} {kind : Int} {H : List Nat} {R : List UInt8} (h : HM w g kind H R n) (m : Nat) : HM (w.setCell ⟨g, 137, none⟩ (.int .u64 (m : Int))) g kind H R m :=
  ⟨h.kd.other _ _ _ (.inr (.inr (by simp))), h.bl.other _ _ _ (.inr (.inr (by rw [ucells_length, h.hl]; omega))), h.rs.other _ _ _ (.inr (.inr (by rw [bcells_length, h.rl]; omega))), h.ln.set 0 _, h.hl, h.rl⟩
/-- what is gathered stays short of a block -/
theorem gather_less {b : Nat} (hb : 0 < b) (K H0 : List Nat) (D X R : List UInt8) (hR : R.length = 128) (h : R.take (D.length % (2 * b)) = D.drop (2 * b * (D.length / (2 * b)))) (hl : D.length % (2 * b) + X.length < 2 * b) (hb64 : b ≤ 64) :
    Sh.hs b K H0 (D ++ X) ((D ++ X).length / (2 * b)) = Sh.hs b K H0 D (D.length / (2 * b)) ∧ (over R X (D.length % (2 * b))).take ((D ++ X).length % (2 * b)) = (D ++ X).drop (2 * b * ((D ++ X).length / (2 * b))) := by
  have h1 := Nat.div_add_mod D.length (2 * b)
  have hq : (D ++ X).length / (2 * b) = D.length / (2 * b) := by
    rw [List.length_append, ← h1, Nat.add_assoc, Nat.mul_add_div (by omega), Nat.div_eq_of_lt hl]
    simp [Nat.mul_add_div (show 2 * b > 0 by omega)]
  have hm : (D ++ X).length % (2 * b) = D.length % (2 * b) + X.length := by
    have h2 := Nat.div_add_mod (D ++ X).length (2 * b)
    rw [hq, List.length_append] at h2
    rw [List.length_append]
    omega
  have hle : 2 * b * (D.length / (2 * b)) ≤ D.length := by omega
  refine ⟨by rw [hq, hs_app _ _ _ _ _ _ hle], ?_⟩
  rw [hm, hq, over_take _ _ _ (by omega), h, List.drop_append_of_le_length hle]
/-- a block is whole -/
theorem gather_full {b : Nat} (hb : 0 < b) (K H0 : List Nat) (D X R : List UInt8) (hR : R.length = 128) (h : R.take (D.length % (2 * b)) = D.drop (2 * b * (D.length / (2 * b)))) (hl : D.length % (2 * b) + X.length = 2 * b) (hb64 : b ≤ 64) :
    Sh.hs b K H0 (D ++ X) ((D ++ X).length / (2 * b)) = Sh.comp b K (Sh.hs b K H0 D (D.length / (2 * b))) (Sh.wordsOf b ((over R X (D.length % (2 * b))).take (2 * b))) ∧ (over R X (D.length % (2 * b))).take ((D ++ X).length % (2 * b)) = (D ++ X).drop (2 * b * ((D ++ X).length / (2 * b))) := by
  have h1 := Nat.div_add_mod D.length (2 * b)
  have e : (D ++ X).length = 2 * b * (D.length / (2 * b) + 1) := by rw [List.length_append, Nat.mul_add, Nat.mul_one]; omega
  have hq : (D ++ X).length / (2 * b) = D.length / (2 * b) + 1 := by rw [e, Nat.mul_div_cancel_left _ (by omega)]
  have hm : (D ++ X).length % (2 * b) = 0 := by rw [e, Nat.mul_mod_right]
  have hle : 2 * b * (D.length / (2 * b)) ≤ D.length := by omega
  refine ⟨?_, ?_⟩
  · rw [hq, Sh.hs, hs_app _ _ _ _ _ _ hle, List.drop_append_of_le_length hle, ← h]
    have ho := over_take R X (D.length % (2 * b)) (by omega)
    rw [hl] at ho
    rw [ho, List.take_of_length_le (by rw [List.length_append, List.length_take]; omega)]
  · rw [hm, hq, ← e, List.take_zero, List.drop_length]
def RetHst (g : Nat) (kind : Int) (b : Nat) (D : List UInt8) (w : World) (e : Ending) (w' : World) : Prop := e = .returned (.tuple #[]) ∧ Hst w' g kind b D ∧ Chg g w w'
set_option maxRecDepth 100000 in
/-- a block, of either kind -/
theorem block_any (w : World) (g b : Nat) (kind : Int) (hk : kb kind b) (H : List Nat) (R : List UInt8) (n : Nat) (hm : HM w g kind H R n) (hH : ∀ x ∈ H, x < 2 ^ b) (hT : Tb w) (hg : 2 < g) :
    Calls Tryz.prog 133 #[.pointer (some ⟨g, 0, none⟩)] w (RetHB g kind (Sh.comp b (Sh.kL b) H (Sh.wordsOf b (R.take (2 * b)))) R n w) := by
  have c0 := hm.kd.cell 0 _ rfl
  rcases hk with ⟨rfl, rfl⟩ | ⟨hne, rfl⟩
  · have BL := Lib.hid (block32_any w g 256 H R n hm hH hT hg)
    clear hm hH hT
    go_enter Tryz.func133, Tryz.ntmps133
    go_wp2_with fail
    refine BL.out.mono ?_
    rintro e w1 ⟨rfl, h1, h2⟩
    have H1 := Lib.hid (And.intro h1 h2)
    clear h1 h2
    go_wp2_with fail
    go_end0
    exact ⟨rfl, H1.out.1, H1.out.2⟩
  · have BL := Lib.hid (block64_any w g kind H R n hm hH hT hg)
    have e1 : (kind == 256) = false := beq_eq_false_iff_ne.2 hne
    clear hm hH hT hne
    go_enter Tryz.func133, Tryz.ntmps133
    go_wp2_with fail
    refine BL.out.mono ?_
    rintro e w1 ⟨rfl, h1, h2⟩
    have H1 := Lib.hid (And.intro h1 h2)
    clear h1 h2
    go_wp2_with fail
    go_end0
    exact ⟨rfl, H1.out.1, H1.out.2⟩
end Go.Proofs.YtjlmmlnldjandaaGreatDoor
