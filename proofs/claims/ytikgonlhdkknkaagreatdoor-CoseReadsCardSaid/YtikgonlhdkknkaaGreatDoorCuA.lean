import Derived.Test.YtikgonlhdkknkaaGreatDoorCuJ
import Derived.Test.YtikgonlhdkknkaaGreatDoorCuC
set_option maxRecDepth 100000
set_option maxHeartbeats 1600000
set_option linter.unusedVariables false
set_option linter.unusedSimpArgs false
open Go.Lib (hid)
namespace Go.Proofs.YtikgonlhdkknkaaGreatDoor
open Go.RowKit
namespace Ce
open Co (Am Ra up rcells rv rcells_length rcells_append rcell_atO)
def Wl (w : World) (v : Value) (l : List Am) : Prop := ∃ g o cap, v = .slice (some ⟨g, o, none⟩) l.length cap ∧ l.length ≤ cap ∧ cap ≤ maxLen ∧ At w g o (rcells (l.map up)) ∧ g < w.heap.size
def WX (X : Nat → Prop) (w : World) (v : Value) (l : List Am) : Prop := ∃ g o cap, v = .slice (some ⟨g, o, none⟩) l.length cap ∧ l.length ≤ cap ∧ cap ≤ maxLen ∧ At w g o (rcells (l.map up)) ∧ g < w.heap.size ∧ ¬ X g
theorem WX.wl {X : Nat → Prop} {w : World} {v : Value} {l : List Am} (h : WX X w v l) : Wl w v l := by obtain ⟨g, o, cap, h1, h2, h3, h4, h5, _⟩ := h; exact ⟨g, o, cap, h1, h2, h3, h4, h5⟩
theorem WX.below {X : Nat → Prop} {w w' : World} {v : Value} {l : List Am} (h : WX X w v l) (hb : Below w.heap.size w w') : WX X w' v l := by
 obtain ⟨g, o, cap, h1, h2, h3, h4, h5, h6⟩ := h
 exact ⟨g, o, cap, h1, h2, h3, h4.below hb h5, nlt h5 hb.size, h6⟩
abbrev Wx (n : Nat) (w : World) (v : Value) (l : List Am) : Prop := WX (fun k => k = n) w v l
theorem Wl.sr {w : World} {v : Value} {l : List Am} (h : Wl w v l) : Co.SrO w v (l.map up) := by
 obtain ⟨g, o, cap, rfl, h2, h3, h4, h5⟩ := h
 exact ⟨_, cap, by rw [List.length_map], fun _ => ⟨g, o, rfl, h4, h5⟩⟩
theorem cells_split {l : List Am} (n : Nat) (h : n ≤ l.length) : ∃ A B, rcells (l.map up) = A ++ B ∧ A = rcells ((l.take n).map up) ∧ B = rcells ((l.drop n).map up) ∧ A.length = n * 3 := by
 refine ⟨_, _, ?_, rfl, rfl, ?_⟩
 ·rw [← rcells_append, ← List.map_append, List.take_append_drop]
 ·rw [rcells_length, List.length_map, List.length_take, Nat.min_eq_left h, Nat.mul_comm]
theorem At.dropA {w : World} {g o : Nat} {l : List Am} (h : At w g o (rcells (l.map up))) (n : Nat) (hn : n ≤ l.length) : At w g (o + n * 3) (rcells ((l.drop n).map up)) := by
 obtain ⟨A, B, e1, e2, e3, e4⟩ := cells_split n hn
 rw [e1, ← List.append_nil (A ++ B)] at h
 have h2 := At.sub h
 rw [e4, e3] at h2
 exact h2
theorem At.takeA {w : World} {g o : Nat} {l : List Am} (h : At w g o (rcells (l.map up))) (n : Nat) (hn : n ≤ l.length) : At w g o (rcells ((l.take n).map up)) := by
 obtain ⟨A, B, e1, e2, e3, e4⟩ := cells_split n hn
 rw [e1, ← List.nil_append (A ++ B), ← List.append_assoc] at h
 have h2 := At.sub h
 rw [e2] at h2
 exact h2
theorem At.headA {w : World} {g o : Nat} {l : List Am} (h : At w g o (rcells (l.map up))) (i : Nat) (hi : i < l.length) : At w g (o + i * 3) [.int .i64 ((l.getD i ⟨0, 0, []⟩).kind : Int), .int .u64 ((l.getD i ⟨0, 0, []⟩).num : Int), .string ⟨(l.getD i ⟨0, 0, []⟩).text.toArray⟩] := by
 have h1 := rcell_atO h i (by rw [List.length_map]; exact hi)
 have h2 : (l.map up).getD i Co.ra0 = up (l.getD i ⟨0, 0, []⟩) := by
  rw [List.getD, List.getD, List.getElem?_map, List.getElem?_eq_getElem hi]; rfl
 rw [h2] at h1
 exact h1
def heldI (k num : Nat) : Nat := if k = 4 then num else if k = 5 then 2 * num else if k = 6 then 1 else 0
theorem heldI_eq (a : Am) : heldI a.kind a.num = hld a := by
 rw [heldI, hld, Co.need, Co.holds]
 by_cases h4 : a.kind = 4
 ·rw [if_pos h4, if_pos (by rw [h4]; rfl), if_neg (by omega), if_neg (by omega)]
 rw [if_neg h4]
 by_cases h5 : a.kind = 5
 ·rw [if_pos h5, if_pos (by rw [h5]; rfl), if_neg (by omega), if_pos h5]
 rw [if_neg h5]
 by_cases h6 : a.kind = 6
 ·rw [if_pos h6, if_pos (by rw [h6]; rfl), if_pos h6]
 rw [if_neg h6, if_neg (by rw [decide_eq_true_iff]; omega)]
theorem held_any (k num : Nat) (tx : ByteArray) (w : World) (h : heldI k num ≤ 4096) :
  Calls Tryz.prog 84 #[.agg #[.int .i64 (k : Int), .int .u64 (num : Int), .string tx]] w (fun e w' => e = .returned (.int .i64 (heldI k num : Int)) ∧ Below w.heap.size w w') := by
 have HB := hid ((Below.refl w.heap.size w).alloc (nle _) (Obj.cells #[.int .i64 (k : Int), .int .u64 (num : Int), .string tx] 60))
 obtain ⟨R, hR⟩ : ∃ R, heldI k num = R := ⟨_, rfl⟩
 rw [hR] at h ⊢
 rw [heldI] at hR
 by_cases h4 : k = 4
 ·rw [if_pos h4] at hR
  subst hR
  subst h4
  have e1 : IntKind.i64.wrap (num : Int) = (num : Int) := Co.wrap_fit num (by unfold maxLen; omega)
  go_enter Tryz.func84, Tryz.ntmps84
  go_wp2_with fail
  go_ret
  exact ⟨rfl, HB.out⟩
 have f4 : ¬ (k : Int) = 4 := by omega
 rw [if_neg h4] at hR
 by_cases h5 : k = 5
 ·rw [if_pos h5] at hR
  subst h5
  have e1 : IntKind.i64.wrap (num : Int) = (num : Int) := Co.wrap_fit num (by unfold maxLen; omega)
  have e2 : (2 : Int) * (num : Int) = (R : Int) := by omega
  have e3 : IntKind.i64.wrap (R : Int) = (R : Int) := Co.wrap_fit R (by unfold maxLen; omega)
  clear hR f4 h4
  go_enter Tryz.func84, Tryz.ntmps84
  go_wp2_with fail
  go_ret
  exact ⟨rfl, HB.out⟩
 have f5 : ¬ (k : Int) = 5 := by omega
 rw [if_neg h5] at hR
 by_cases h6 : k = 6
 ·rw [if_pos h6] at hR
  subst h6
  subst hR
  clear f4 f5 h4 h5
  go_enter Tryz.func84, Tryz.ntmps84
  go_wp2_with fail
  go_ret
  exact ⟨rfl, HB.out⟩
 have f6 : ¬ (k : Int) = 6 := by omega
 rw [if_neg h6] at hR
 subst hR
 clear h4 h5 h6
 go_enter Tryz.func84, Tryz.ntmps84
 go_wp2_with fail
 go_ret
 exact ⟨rfl, HB.out⟩
theorem getD_drop_cons {l : List Am} {i : Nat} (hi : i < l.length) : l.drop i = l.getD i ⟨0, 0, []⟩ :: l.drop (i + 1) := by
 rw [← List.getElem_cons_drop (h := hi), List.getD, List.getElem?_eq_getElem hi]
 rfl
def RetFst (l : List Am) (g o cap : Nat) (w : World) (e : Ending) (w' : World) : Prop := e = .returned (.slice (some ⟨g, o, none⟩) (fl 1 l) cap) ∧ Below w.heap.size w w'
theorem first_any (l : List Am) (g o cap : Nat) (w : World) (hA : At w g o (rcells (l.map up))) (hg : g < w.heap.size) (hc : l.length ≤ cap) (hcm : cap ≤ maxLen) (hl : l.length ≤ 4096) (hF : Fits 1 l) :
  Calls Tryz.prog 57 #[.slice (some ⟨g, o, none⟩) l.length cap] w (RetFst l g o cap w) := by
 obtain ⟨n, hn⟩ : ∃ n, l.length = n := ⟨_, rfl⟩
 obtain ⟨m, hm⟩ : ∃ m, fl 1 l = m := ⟨_, rfl⟩
 have HF := hid hF
 have HN := hid hn
 have HM := hid hm
 have HA := hid hA
 have HG := hid hg
 have hmn : m ≤ n := by have := hF.le; omega
 have HL := hid (aIn hl hmn)
 have ecap : (m : Int) ≤ (cap : Int) := by omega
 have HH := hid (fun (a : Am) (w' : World) (h : hld a ≤ 4096) => held_any a.kind a.num ⟨a.text.toArray⟩ w' (by rw [heldI_eq]; exact h))
 rw [hn]
 unfold maxLen at hcm
 have HC := hid (aIn hc hcm)
 clear hF hA hg hl hm hc hcm hmn
 go_enter Tryz.func57, Tryz.ntmps57
 go_wp2_with fail
 clear hn
 go_loopw [3, 4] (fun vi vW wr => ∃ (i W : Nat), vi = .int .i64 (i : Int) ∧ vW = .int .i64 (W : Int) ∧ i ≤ n ∧ Hid (Fits W (l.drop i)) ∧ Hid (i + fl W (l.drop i) = m) ∧ Hid (Below w.heap.size w wr)) (fun vi _ _ => n - (intOf vi).toNat)
 case atStart => exact ⟨0, 1, rfl, rfl, Nat.zero_le _, HF.out, by show 0 + fl 1 (l.drop 0) = m; rw [List.drop_zero, HM.out, Nat.zero_add], Below.refl _ _⟩
 case round =>
  obtain ⟨i, W, rfl, rfl, hi, HFW, HS, HB⟩ := hrel
  by_cases hW : W = 0
  ·subst hW
   have hS := HS.out
   rw [fl_zero, Nat.add_zero] at hS
   subst hS
   clear hi
   go_wp2_with fail
   go_ret
   exact ⟨by rw [HM.out]; rfl, HB.out⟩
  ·obtain ⟨k, rfl⟩ : ∃ k, W = k + 1 := ⟨W - 1, by omega⟩
   have hFW := HFW.out
   have hle := hFW.le
   have hin : i < l.length := by rw [List.length_drop] at hle; omega
   rw [getD_drop_cons hin] at hFW
   have hS := HS.out
   rw [getD_drop_cons hin] at hS
   have hFW2 : Fits (k + hld (l.getD i ⟨0, 0, []⟩)) (l.drop (i + 1)) := hFW
   have hle2 := hFW2.le
   rw [fl] at hS
   rw [List.length_drop] at hle2
   have hAc := (At.headA HA.out i hin).below HB.out HG.out
   obtain ⟨a, ha⟩ : ∃ a, l.getD i ⟨0, 0, []⟩ = a := ⟨_, rfl⟩
   rw [ha] at hAc hle2 hFW2 hS
   have hl2 := HL.out.1
   have n0 := hAc.cell 0 _ rfl
   have n1 := hAc.cell 1 _ rfl
   have n2 := hAc.cell 2 _ rfl
   rw [Nat.add_zero] at n0
   have HC1 := hid (HH.out a wr (by omega))
   rw [heldI_eq] at HC1
   obtain ⟨j, hj⟩ : ∃ j, hld a = j := ⟨_, rfl⟩
   rw [hj] at HC1 hS hFW2 hle2
   obtain ⟨K2, hK2⟩ : ∃ z, k + j = z := ⟨_, rfl⟩
   have HFN := hid hFW2
   have HSN : Hid (i + 1 + fl (k + j) (l.drop (i + 1)) = m) := by show i + 1 + fl (k + j) (l.drop (i + 1)) = m; omega
   rw [hK2] at HFN HSN
   have e1 : (i : Int) < (n : Int) := by have := HN.out; omega
   have e2 : (0 : Int) < (k : Int) + 1 := by omega
   have e3 : ((k : Int) + 1) + ((j : Int) - 1) = (K2 : Int) := by omega
   have e4 : wrap64 ((j : Int) - 1) = (j : Int) - 1 := by
    have := HL.out.1
    simp only [wrap64, IntKind.wrap, IntKind.bits, IntKind.signed]; omega
   have e5 : IntKind.i64.wrap (K2 : Int) = (K2 : Int) := Co.wrap_fit K2 (by unfold maxLen; omega)
   have e6 : IntKind.i64.wrap ((i : Int) + 1) = (i : Int) + 1 := by have := Co.wrap_fit (i + 1) (by unfold maxLen; omega); push_cast at this; exact this
   have e7 : (i : Int) ≤ 4096 := by omega
   have HIN : Hid (i + 1 ≤ n) := by show i + 1 ≤ n; have := HN.out; omega
   clear hAc hle hle2 hFW hFW2 hS hl2 hK2 hj ha hi hW hin
   go_wp2_with fail
   refine HC1.out.mono ?_
   rintro e w1 ⟨rfl, hb1⟩
   have HB1 : Hid (Below w.heap.size w w1) := HB.out.trans (hb1.mono HB.out.size)
   clear hb1 n0 n1 n2
   go_wp2_with fail
   go_roundw
   case rel => exact ⟨i + 1, K2, by go_num, by go_num, HIN.out, HFN, HSN, HB1⟩
   case measure => have := HIN.out; simp [intOf]; omega
theorem infoSl : (Tryz.prog.info? 43).map (fun i => (i.zero, i.size, i.bytes)) = some (some (.slice none 0 0), 1, 24) := by kernel_rfl
def isSl (v : Value) : Prop := ∃ a n c, v = .slice a n c
theorem isSl.one {v : Value} (h : isSl v) : v.oneCell' = true := by obtain ⟨a, n, c, rfl⟩ := h; rfl
theorem WX.isSl {X : Nat → Prop} {w : World} {v : Value} {l : List Am} (h : WX X w v l) : isSl v := by obtain ⟨g, o, cap, rfl, _⟩ := h; exact ⟨_, _, _, rfl⟩
section
variable {P : Program} {w : World}
theorem wpList_append_sl {ops : Array Oper} {rest : List Oper} {o : Oper} {a : Act} {Q : Exit → Act → World → Prop} (hgd : o.guard = none) (s x : Operand) (t : TypeId)
  (ho : o.op = .call { callee := .builtin .append, args := #[s, x], argTypes := #[t, t] })
  (base : Nat) (e : TypeId) (i : TypeInfo) (ht : P.underlying t = some (.slice e)) (hi : P.info? e = some i) (hz : i.zero = some (.slice none 0 0)) (hsize : i.size = 1) (hby : i.bytes = 24)
  (v : Value) (n : Nat) (l : List Value) (hs : a.eval s = v) (hown : w.ownsRow base e 1 v n l)
  (g c : Nat) (u : Value) (hx : a.eval x = .slice (some ⟨g, 0, none⟩) 1 c) (hcell : w.cell? ⟨g, 0, none⟩ = some u) (hu : isSl u)
  (hn : n ≤ 1000000) (hbase : base ≤ w.heap.size)
  (h : ∀ v' w', w'.ownsRow base e 1 v' (n + 1) (l ++ [u]) → w.grownBy w' v.ownBlock → wpList P ops Q rest (a.put o.dst v') w') : wpList P ops Q (o :: rest) a w := by
 refine wpList_append_own w hgd s x t ho base e i (.slice none 0 0) 1 24 ht hi hz hsize hby rfl (by decide) v n l hs hown ⟨g, 0, none⟩ 1 c [u] hx rfl (fun j y hy => ?_) (fun y hy => ?_) (by unfold maxLen; omega) (by omega) hbase ?_
 ·match j, hy with
  | 0, hy => simp at hy; subst hy; exact hcell
 ·rw [List.mem_singleton] at hy; subst hy; exact hu.one
 ·intro v' w' h1 h2 _
  exact h v' w' h1 h2
end
inductive Sls (nx : Nat → Prop) (w : World) : List Value → List (List Am) → Prop
 | nil : Sls nx w [] []
 | cons {v P vs Ps} : WX nx w v P → Sls nx w vs Ps → Sls nx w (v :: vs) (P :: Ps)
theorem Sls.snoc {nx : Nat → Prop} {w : World} {vs Ps} (h : Sls nx w vs Ps) {v P} (h1 : WX nx w v P) : Sls nx w (vs ++ [v]) (Ps ++ [P]) := by
 induction h with
 | nil => exact .cons h1 .nil
 | cons h _ ih => exact .cons h ih
theorem Sls.get {nx : Nat → Prop} {w : World} {vs Ps} (h : Sls nx w vs Ps) : ∀ (j : Nat), j < Ps.length → ∃ v, vs[j]? = some v ∧ WX nx w v (Ps.getD j []) := by
 induction h with
 | nil => intro j hj; simp at hj
 | @cons v P vs Ps h1 h ih =>
  intro j hj
  cases j with
  | zero => exact ⟨v, rfl, h1⟩
  | succ j => exact ih j (by rw [lco] at hj; omega)
def RetPts (nx : Nat → Prop) (Ps : List (List Am)) (w : World) (e : Ending) (w' : World) : Prop := ∃ v vs, e = .returned v ∧ w'.ownsRow w.heap.size 43 1 v Ps.length vs ∧ Sls nx w vs Ps ∧ Below w.heap.size w w'
theorem cwithin_nil (nx : Nat → Prop) (w : World) : Calls Tryz.prog 31 #[.slice none 0 0] w (RetPts nx [] w) := by
 go_enter Tryz.func31, Tryz.ntmps31
 go_wp2_with fail
 refine wp_loop_rounds 1 ?_
 rw [rounds_succ]
 go_wp2_with fail
 go_ret
 exact ⟨_, [], rfl, World.ownsRow_nil _ _ _ _, .nil, Below.refl _ _⟩
theorem cwithin_any (nx : Nat → Prop) (l : List Am) (a : Am) (D : Nat) (Ps : List (List Am)) (Bs : List (List UInt8)) (g o cap : Nat) (w : World) (hA : At w g o (rcells (l.map up))) (hg : g < w.heap.size) (hc : l.length ≤ cap) (hcm : cap ≤ maxLen) (hl : l.length ≤ 4096)
  (hla : l = a :: Ps.flatten) (hF : Fo D Ps Bs) (hnx : ¬ nx g) :
  Calls Tryz.prog 31 #[.slice (some ⟨g, o, none⟩) l.length cap] w (RetPts nx Ps w) := by
 obtain ⟨n, hn⟩ : ∃ n, l.length = n := ⟨_, rfl⟩
 have HN := hid hn
 have HA := hid hA
 have HG := hid hg
 have HNE := hid hnx
 have HL := hid hl
 have HF0 := hid hF
 have HLA := hid hla
 unfold maxLen at hcm
 have HC := hid (aIn hc hcm)
 have FI := hid (fun (l' : List Am) g' o' cap' w' h1 h2 h3 h4 h5 h6 => first_any l' g' o' cap' w' h1 h2 h3 h4 h5 h6)
 obtain ⟨B, hB⟩ : ∃ B, w.heap.size = B := ⟨_, rfl⟩
 have HBB := hid hB
 rw [hn]
 clear hA hg hl hc hcm hF hla hnx
 go_enter Tryz.func31, Tryz.ntmps31
 go_wp2_with fail
 clear hn
 clear hB
 go_loopw [3, 4, 5] (fun vo vi vx wr => ∃ (s j : Nat) (vs : List Value) (Ds Rs : List (List Am)) (Cs : List (List UInt8)), vi = .int .i64 (s : Int) ∧ s ≤ n ∧ Hid (Fo D Rs Cs) ∧ Hid (Ds ++ Rs = Ps) ∧ Hid (Ds.length = j) ∧ Hid (l.drop s = Rs.flatten) ∧ Hid (wr.ownsRow B 43 1 vo j vs) ∧ Hid (Sls nx w vs Ds) ∧ Hid (Below B w wr) ∧ Hid (j + 1 ≤ s)) (fun _ vi _ _ => n - (intOf vi).toNat)
 case atStart => exact ⟨1, 0, [], [], Ps, Bs, rfl, by have := HN.out; have h := HLA.out; rw [h, lco] at this; omega, HF0.out, rfl, rfl, by rw [HLA.out]; rfl, World.ownsRow_nil _ _ _ _, .nil, Below.refl _ _, nle _⟩
 case round =>
  obtain ⟨s, j, vs, Ds, Rs, Cs, rfl, hs, HF, HP, HJ, HD, HO, HS, HB, HSJ⟩ := hrel
  obtain ⟨wq, hwq⟩ : ∃ x, x = wr := ⟨_, rfl⟩
  subst hwq
  by_cases hsn : s = n
  ·subst hsn
   have h1 := HD.out
   rw [List.drop_eq_nil_of_le (Nat.le_of_eq HN.out)] at h1
   have h2 : Rs = [] := by
    have h3 := HF.out
    cases h3 with
    | nil => rfl
    | cons hP _ => rw [List.flatten_cons] at h1; exact absurd (List.append_eq_nil_iff.1 h1.symm).1 hP.ne
   subst h2
   have HE : Hid (Ds = Ps) := by show Ds = Ps; have := HP.out; rwa [List.append_nil] at this
   have HJ2 := HJ.out
   clear h1 hs
   go_wp2_with fail
   go_ret
   exact ⟨_, vs, rfl, by rw [HBB.out, ← HE.out, HJ2]; exact HO.out, by rw [← HE.out]; exact HS.out, by rw [HBB.out]; exact HB.out⟩
  ·have hlt : s < n := by omega
   have h3 := HF.out
   have h1 := HD.out
   cases h3 with
   | nil =>
    rw [List.flatten_nil] at h1
    have h4 : (l.drop s).length = 0 := by rw [h1]; rfl
    rw [List.length_drop, HN.out] at h4
    omega
   | @cons P C Rs Cs hP hR =>
    rw [List.flatten_cons] at h1
    have hc := HC.out
    have hPl := hP.ne
    have hfl := hP.fl Rs.flatten
    rw [← h1] at hfl
    have hdl : (l.drop s).length = n - s := by rw [List.length_drop, HN.out]
    have hAd := At.dropA HA.out s (by rw [HN.out]; exact hs)
    have HAd := hid (hAd.below HB.out (by rw [← HBB.out]; exact HG.out))
    have HGq : Hid (g < wq.heap.size) := nlt HG.out (by have := HB.out.size; exact this)
    have HFI := hid (FI.out (l.drop s) g (o + s * 3) (cap - s) wq HAd.out HGq.out (by have h9 := HN.out; omega) (by unfold maxLen; omega) (by have := HL.out; have h9 := HN.out; omega) hfl.2)
    rw [hdl] at HFI
    obtain ⟨m, hm⟩ : ∃ m, fl 1 (l.drop s) = m := ⟨_, rfl⟩
    have hPm : P.length = m := by rw [← hm, hfl.1]
    have hm1 : 1 ≤ m := by rw [← hPm]; exact List.length_pos_iff.2 hPl
    have hmr : m ≤ n - s := by rw [← hm, ← hdl]; exact hfl.2.le.2.1
    unfold RetFst at HFI
    rw [hm] at HFI
    have HWP : Hid (WX nx w (.slice (some ⟨g, o + s * 3, none⟩) m (cap - s)) P) := by
     refine ⟨g, o + s * 3, cap - s, by rw [hPm], by rw [hPm]; have h9 := HN.out; omega, by unfold maxLen; omega, ?_, HG.out, HNE.out⟩
     have h5 := At.takeA hAd m (by rw [hdl]; exact hmr)
     rw [h1, List.take_left' hPm] at h5
     exact h5
    have HNX : Hid (l.drop (s + m) = Rs.flatten) := by
     show l.drop (s + m) = _
     rw [← List.drop_drop, h1, List.drop_left' hPm]
    have HR := hid hR
    have HSM : Hid (s + m ≤ n ∧ 1 ≤ m) := ⟨by omega, hm1⟩
    have e1 : (s : Int) < (n : Int) := by omega
    have e4 : (s : Int) ≤ (n : Int) := by omega
    have e5 : (n : Int) ≤ (cap : Int) := by have h9 := HN.out; omega
    have e6 : ¬ cap = s := by have h9 := HN.out; omega
    have e7 : (s : Int) ≤ 4096 := by have := HL.out; have h9 := HN.out; omega
    have e8 : IntKind.i64.wrap ((s : Int) + (m : Int)) = (s : Int) + (m : Int) := by
     have := Co.wrap_fit (s + m) (by have := HL.out; have h9 := HN.out; unfold maxLen; omega)
     push_cast at this; exact this
    have hjn : j ≤ 1000000 := by have := HSJ.out; have := HL.out; have h9 := HN.out; omega
    have HJN := hid hjn
    obtain ⟨i0, hi0, hq⟩ := Option.map_eq_some_iff.1 infoSl
    simp only [Prod.mk.injEq] at hq
    obtain ⟨hz0, hz1, hz2⟩ := hq
    clear hc hPl hfl hdl hAd h1 hm hPm hm1 hmr hs hsn hlt hP hR hjn
    go_wp2_with fail
    refine HFI.out.mono ?_
    rintro e w1 ⟨rfl, hb1⟩
    have HO1 : Hid (w1.ownsRow B 43 1 u3 j vs) := own_below HO.out hb1 (nle _)
    have HB1 : Hid (Below B w w1) := HB.out.trans (hb1.mono (by have h1 := HB.out.size; rw [HBB.out] at h1; exact h1))
    have HBZ : Hid (B ≤ w1.heap.size) := by have h1 := HB1.out.size; rw [HBB.out] at h1; exact h1
    clear hb1
    go_wp2_with (first | (at_builtin; refine wpList_append_sl rfl (.tmp 14) (.tmp 16) 74 rfl B 43 i0 Tryz.underlying74 hi0 hz0 hz1 hz2 u3 j vs rfl (HO1.out.alloc _) w1.heap.size 1 (.slice (some ⟨g, o + s * 3, none⟩) m (cap - s)) rfl ((At.ofAlloc w1 #[.slice (some ⟨g, o + s * 3, none⟩) m (cap - s)] 43).cell 0 _ rfl) ⟨_, _, _, rfl⟩ HJN.out (by have := HBZ.out; simp; omega) ?_; intro v' w3 hown3 hgrow3))
    have HB3 : Hid (Below B w w3) := below_own (HB1.out.alloc HBZ.out _) hgrow3 (by have := HBZ.out; simp; omega) (HO1.out.alloc _)
    have HO3 := hid hown3
    have HSN := hid (HS.out.snoc HWP.out)
    clear hown3 hgrow3
    go_roundw
    case rel => exact ⟨s + m, j + 1, _, Ds ++ [P], Rs, Cs, by go_num, HSM.out.1, HR.out, by show Ds ++ [P] ++ Rs = Ps; rw [← HP.out]; simp, by show (Ds ++ [P]).length = j + 1; rw [lap, HJ.out]; rfl, HNX, HO3, HSN, HB3, by show j + 1 + 1 ≤ s + m; have h1 := HSJ.out; have h2 := HSM.out.2; omega⟩
    case measure => have h1 := HSM.out.1; have h2 := HSM.out.2; simp [intOf]; omega
end Ce
end Go.Proofs.YtikgonlhdkknkaaGreatDoor
namespace Go.Proofs.YtikgonlhdkknkaaGreatDoor
open Go.RowKit
namespace Ce
open Co (Am Ra up rcells rv rcells_length rcells_append rcell_atO)
theorem infoPr : (Tryz.prog.info? 84).map (fun i => (i.zero, i.size, i.bytes)) = some (some (.agg #[.int .i64 0, .int .u64 0, .string ByteArray.empty, .slice none 0 0]), 4, 56) := by kernel_rfl
def pcell (p : Am × Value) : List Value := [.int .i64 (p.1.kind : Int), .int .u64 (p.1.num : Int), .string ⟨p.1.text.toArray⟩, p.2]
def pcells (l : List (Am × Value)) : List Value := l.flatMap pcell
theorem pcells_append (a b : List (Am × Value)) : pcells (a ++ b) = pcells a ++ pcells b := by rw [pcells, pcells, pcells, List.flatMap_append]
theorem pcells_length (l : List (Am × Value)) : (pcells l).length = l.length * 4 := by
 induction l with
 | nil => rfl
 | cons a l ih => rw [show pcells (a :: l) = pcell a ++ pcells l from rfl, lap, ih, lco]; simp [pcell]; omega
inductive Prm (nx : Nat → Prop) (w : World) : List (Am × Value) → List (Am × Am) → Prop
 | nil : Prm nx w [] []
 | cons {k v P L ps} : WX nx w v P → P ≠ [] → Prm nx w L ps → Prm nx w ((k, v) :: L) ((k, P.headD a0) :: ps)
theorem Prm.low {nx : Nat → Prop} {w w' : World} {L ps} (h : Prm nx w L ps) (hb : Below w.heap.size w w') : Prm nx w' L ps := by
 induction h with
 | nil => exact .nil
 | cons h h0 _ ih => exact .cons (h.below hb) h0 ih
theorem Prm.append {nx : Nat → Prop} {w : World} {L ps M qs} (h : Prm nx w L ps) (h2 : Prm nx w M qs) : Prm nx w (L ++ M) (ps ++ qs) := by
 induction h with
 | nil => exact h2
 | cons h h0 _ ih => exact .cons h h0 ih
theorem Prm.length {nx : Nat → Prop} {w : World} {L ps} (h : Prm nx w L ps) : L.length = ps.length := by
 induction h with
 | nil => rfl
 | cons _ _ _ ih => rw [lco, lco, ih]
theorem Prm.get {nx : Nat → Prop} {w : World} {L ps} (h : Prm nx w L ps) : ∀ (j : Nat), j < L.length → ∃ k v P, L[j]? = some (k, v) ∧ ps[j]? = some (k, P.headD a0) ∧ WX nx w v P ∧ P ≠ [] := by
 induction h with
 | nil => intro j hj; simp at hj
 | @cons k v P L ps h1 h0 h ih =>
  intro j hj
  cases j with
  | zero => exact ⟨k, v, P, rfl, rfl, h1, h0⟩
  | succ j => exact ih j (by rw [lco] at hj; omega)
theorem Prm.one {nx : Nat → Prop} {w : World} {L ps} (h : Prm nx w L ps) : ∀ u ∈ pcells L, u.oneCell' = true := by
 induction h with
 | nil => intro u hu; cases hu
 | @cons k v P L ps h1 h0 h ih =>
  intro u hu
  rw [show pcells ((k, v) :: L) = pcell (k, v) ++ pcells L from rfl] at hu
  rcases List.mem_append.1 hu with hu | hu
  ·rw [pcell] at hu
   simp only [List.mem_cons, List.mem_nil_iff, or_false] at hu
   rcases hu with rfl | rfl | rfl | rfl
   ·rfl
   ·rfl
   ·rfl
   ·exact h1.isSl.one
  ·exact ih u hu
section
variable {w : World}
theorem step_append_pr {ops : Array Oper} {o : Oper} {a : Act} {K : Act → World → Prop} {Q : Exit → Act → World → Prop} {E : Prop} (hgd : o.guard = none) (s x : Operand)
  (ho : o.op = .call { callee := .builtin .append, args := #[s, x], argTypes := #[47, 47] })
  (base : Nat) (v : Value) (n : Nat) (l : List (Am × Value)) (hs : a.eval s = v) (hown : w.ownsRow base 84 4 v n (pcells l))
  (y : Am × Value) (g c : Nat) (hx : a.eval x = .slice (some ⟨g, 0, none⟩) 1 c) (hcells : At w g 0 (pcell y)) (hy : isSl y.2) (hn : n ≤ 1000000) (hbase : base ≤ w.heap.size)
  (h : ∀ v' w', w'.ownsRow base 84 4 v' (n + 1) (pcells (l ++ [y])) → w.grownBy w' v.ownBlock → K (a.put o.dst v') w') :
  if Region.wanted o (yielded ops a.tmps) = true then Oper.wp Tryz.prog o a w K Q else E := by
 obtain ⟨i, hi, hq⟩ := Option.map_eq_some_iff.1 infoPr
 simp only [Prod.mk.injEq] at hq
 obtain ⟨hz0, hz1, hz2⟩ := hq
 refine step_append_gen hgd s x 47 ho base 84 i _ 4 56 Tryz.underlying47 hi hz0 hz1 hz2 rfl (by decide) v n (pcells l) hs hown g 1 c (pcell y) hx rfl (Co.at_cells rfl hcells) (fun u hu => ?_) (by unfold maxLen; omega) (by omega) hbase ?_
 ·rw [pcell] at hu
  simp only [List.mem_cons, List.mem_nil_iff, or_false] at hu
  rcases hu with rfl | rfl | rfl | rfl
  ·rfl
  ·rfl
  ·rfl
  ·exact hy.one
 ·intro v' w' h1 h2
  rw [show pcells l ++ pcell y = pcells (l ++ [y]) from by rw [pcells_append]; simp [pcells]] at h1
  exact h v' w' h1 h2
end
def RetPrs (nx : Nat → Prop) (ok : Bool) (ps : List (Am × Am)) (w : World) (e : Ending) (w' : World) : Prop := (ok = true → ∃ v L, e = .returned (.tuple #[v, .bool true]) ∧ w'.ownsRow w.heap.size 84 4 v ps.length (pcells L) ∧ Prm nx w L ps) ∧ (ok = false → e = .returned (.tuple #[.slice none 0 0, .bool false])) ∧ Below w.heap.size w w'
theorem isLab_cases (a : Am) : (isLab a = true ∧ (a.kind = 0 ∨ a.kind = 1 ∨ a.kind = 3)) ∨ (isLab a = false ∧ ¬ a.kind = 0 ∧ ¬ a.kind = 1 ∧ ¬ a.kind = 3) := by
 rw [isLab]
 by_cases h : a.kind = 0 ∨ a.kind = 1 ∨ a.kind = 3
 ·exact .inl ⟨dtr h, h⟩
 ·exact .inr ⟨dfa h, by omega⟩
def allLab (ps : List (Am × Am)) : Bool := ps.all fun p => isLab p.1
theorem twos_cons (P Q : List Am) (R : List (List Am)) : twos (heads (P :: Q :: R)) = (P.headD a0, Q.headD a0) :: twos (heads R) := rfl
theorem pairs_nil (nx : Nat → Prop) (w : World) : Calls Tryz.prog 34 #[.slice none 0 0] w (RetPrs nx true [] w) := by
 have WN := hid (fun w => cwithin_nil nx w)
 go_enter Tryz.func34, Tryz.ntmps34
 go_wp2_with fail
 refine (WN.out _).mono ?_
 rintro e w1 ⟨v, vs, rfl, ho, -, hb1⟩
 obtain ⟨a, c, rfl, -⟩ := own_form ho
 have HB := hid hb1
 clear ho hb1
 go_wp2_with fail
 refine wp_loop_rounds 1 ?_
 rw [rounds_succ]
 go_wp2_with fail
 go_ret2
 exact ⟨fun _ => ⟨_, [], rfl, World.ownsRow_nil _ _ _ _, .nil⟩, ⟨fun h => absurd h (by decide), HB.out⟩⟩
theorem pairs_any (nx : Nat → Prop) (l : List Am) (a : Am) (D : Nat) (Ps : List (List Am)) (Bs : List (List UInt8)) (g o cap : Nat) (w : World) (hA : At w g o (rcells (l.map up))) (hg : g < w.heap.size) (hc : l.length ≤ cap) (hcm : cap ≤ maxLen) (hl : l.length ≤ 4096)
  (hla : l = a :: Ps.flatten) (hF : Fo D Ps Bs) (h2 : ∃ k, Ps.length = 2 * k) (hnx : ¬ nx g) :
  Calls Tryz.prog 34 #[.slice (some ⟨g, o, none⟩) l.length cap] w (RetPrs nx (allLab (twos (heads Ps))) (twos (heads Ps)) w) := by
 have WN := hid (cwithin_any nx l a D Ps Bs g o cap w hA hg hc hcm hl hla hF hnx)
 obtain ⟨k2, hk2⟩ := h2
 have hpl : k2 ≤ 4096 := by
  have h1 : Ps.length ≤ Ps.flatten.length := by
   have := (hF.fits []).1.le
   rw [List.append_nil] at this
   exact this.1
  have h3 : l.length = Ps.flatten.length + 1 := by rw [hla]; rfl
  omega
 obtain ⟨B, hB⟩ : ∃ B, w.heap.size = B := ⟨_, rfl⟩
 have HBB := hid hB
 obtain ⟨n, hn⟩ : ∃ n, l.length = n := ⟨_, rfl⟩
 obtain ⟨T, hT⟩ : ∃ T, twos (heads Ps) = T := ⟨_, rfl⟩
 obtain ⟨m, hm⟩ : ∃ m, Ps.length = m := ⟨_, rfl⟩
 rw [hT]
 rw [hn] at WN ⊢
 have HT := hid hT
 have HK := hid (aIn hk2 hpl)
 have HM := hid hm
 have HFO := hid hF
 clear hA hg hc hcm hl hla hF hnx hk2 hpl hT hn
 go_enter Tryz.func34, Tryz.ntmps34
 go_wp2_with fail
 refine WN.out.mono ?_
 rintro e w1 ⟨v, vs, rfl, ho, hS, hb1⟩
 rw [hm, hB] at ho
 rw [hB] at hb1
 have HO := hid ho
 have HS := hid hS
 have HB1 := hid hb1
 obtain ⟨av, cv, rfl, hav⟩ := own_form ho
 have HAV := hid hav
 have HBZ : Hid (B ≤ w1.heap.size) := by have h1 := hb1.size; rw [hB] at h1; exact h1
 clear ho hS hb1 hav hm hB
 go_wp2_with fail
 go_loopw [4, 6, 7] (fun vo vi vp wr => ∃ (j : Nat) (L : List (Am × Value)) (ps : List (Am × Am)), vi = .int .i64 ((2 * j : Nat) : Int) ∧ 2 * j ≤ m ∧ Hid (ps ++ twos (heads (Ps.drop (2 * j))) = T) ∧ Hid (allLab ps = true) ∧ Hid (ps.length = j) ∧ Hid (wr.ownsRow w1.heap.size 84 4 vo j (pcells L)) ∧ Hid (Prm nx w L ps) ∧ Hid (Below w1.heap.size w1 wr)) (fun _ vi _ _ => m - (intOf vi).toNat)
 case atStart => exact ⟨0, [], [], rfl, Nat.zero_le _, by show [] ++ twos (heads (Ps.drop 0)) = T; rw [List.drop_zero]; exact HT.out, rfl, rfl, World.ownsRow_nil _ _ _ _, .nil, Below.refl _ _⟩
 case round =>
  obtain ⟨j, L, ps, rfl, hj, HPS, HLB, HPL, HOW, HPR, HBW⟩ := hrel
  obtain ⟨wq, hwq⟩ : ∃ x, x = wr := ⟨_, rfl⟩
  subst hwq
  by_cases hjm : 2 * j = m
  ·have hd : twos (heads (Ps.drop (2 * j))) = [] := by rw [List.drop_eq_nil_of_le (by rw [HM.out]; omega)]; rfl
   have HE : Hid (ps = T) := by show ps = T; have := HPS.out; rwa [hd, List.append_nil] at this
   have hjm2 : ((2 * j : Nat) : Int) = (m : Int) := by omega
   rw [hjm2]
   have e1 : ¬ (m : Int) < (m : Int) := by omega
   clear hj hjm hd hjm2
   go_wp2_with fail
   go_ret2
   refine ⟨fun _ => ⟨_, L, rfl, ?_, ?_⟩, ⟨fun h => ?_, ?_⟩⟩
   ·rw [← HE.out, HPL.out]
    refine ⟨HOW.out.1, HOW.out.2.imp id ?_⟩
    rintro ⟨g9, cap9, cur9, h1, h2, h3⟩
    exact ⟨g9, cap9, cur9, h1, by have := HBZ.out; have := HBB.out; omega, h3⟩
   ·rw [← HE.out]; exact HPR.out
   ·rw [← HE.out, HLB.out] at h; cases h
   ·rw [HBB.out]; exact HB1.out.trans (HBW.out.mono HBZ.out)
  ·obtain ⟨hk2, hk3⟩ := HK.out
   have hm9 := HM.out
   have hj1 : 2 * j + 1 < m := by omega
   obtain ⟨v1, hv1, hW1⟩ := HS.out.get (2 * j) (by omega)
   obtain ⟨v2, hv2, hW2⟩ := HS.out.get (2 * j + 1) (by omega)
   have hP1 := HFO.out.get (2 * j) (by omega)
   have hQ1 := HFO.out.get (2 * j + 1) (by omega)
   obtain ⟨gv, rfl⟩ := HAV.out (by omega)
   obtain ⟨P, hP⟩ : ∃ P, Ps.getD (2 * j) [] = P := ⟨_, rfl⟩
   obtain ⟨Q, hQ⟩ : ∃ P, Ps.getD (2 * j + 1) [] = P := ⟨_, rfl⟩
   rw [hP] at hW1 hP1
   rw [hQ] at hW2
   have hd : Ps.drop (2 * j) = P :: Q :: Ps.drop (2 * (j + 1)) := by
    rw [← List.getElem_cons_drop (h := by omega), ← List.getElem_cons_drop (i := 2 * j + 1) (h := by omega), ← hP, ← hQ, List.getD, List.getD, List.getElem?_eq_getElem (by omega), List.getElem?_eq_getElem (by omega)]
    rfl
   have hPS := HPS.out
   rw [hd, twos_cons] at hPS
   have hx0 : P.getD 0 ⟨0, 0, []⟩ = P.headD a0 := by cases P <;> rfl
   have HW2 := hid hW2
   rw [hQ] at hQ1
   have HQ9 := hid hQ1.ne
   obtain ⟨gp, op, cp, rfl, hl1, hc1, hA1, hg1, -⟩ := hW1
   have hAh := (At.headA hA1 0 (List.length_pos_iff.2 hP1.ne)).below (HB1.out.trans (HBW.out.mono HBZ.out)) (by rw [← HBB.out]; exact hg1)
   rw [hx0] at hAh
   obtain ⟨x, hx⟩ : ∃ x, P.headD a0 = x := ⟨_, rfl⟩
   rw [hx] at hAh hPS
   obtain ⟨pl, hpl⟩ : ∃ n, P.length = n := ⟨_, rfl⟩
   have hpl0 : 0 < pl := by rw [← hpl]; exact List.length_pos_iff.2 hP1.ne
   rw [hpl] at hv1 hl1
   have hrow := own_below HO.out HBW.out (nle _)
   have hgvl := (HO.out.lt gv rfl).2
   have c1 := hrow.cellAt (2 * j) (by have := hrow.1; omega)
   have c2 := hrow.cellAt (2 * j + 1) (by have := hrow.1; omega)
   rw [hv1] at c1
   rw [hv2] at c2
   obtain ⟨kI, hkI⟩ : ∃ k : Int, (x.kind : Int) = k := ⟨_, rfl⟩
   rw [hkI] at hAh
   obtain ⟨tx, htx⟩ : ∃ b : ByteArray, (⟨x.text.toArray⟩ : ByteArray) = b := ⟨_, rfl⟩
   rw [htx] at hAh
   have n0 := hAh.cell 0 _ rfl
   have n1 := hAh.cell 1 _ rfl
   have n2 := hAh.cell 2 _ rfl
   rw [Nat.zero_mul, Nat.add_zero] at n0 n1 n2
   try rw [Nat.add_zero] at n0
   obtain ⟨ii, hii⟩ : ∃ i, 2 * j = i := ⟨_, rfl⟩
   rw [hii] at c1 c2 hj1 ⊢
   have e1 : (ii : Int) < (m : Int) := by omega
   have e2 : (ii : Int) + 1 < (m : Int) := by omega
   have e2b : (0 : Int) ≤ (ii : Int) + 1 := by omega
   have e3 : (0 : Int) < (pl : Int) := by omega
   have e4 : IntKind.i64.wrap ((ii : Int) + 1) = (ii : Int) + 1 := by have := Co.wrap_fit (ii + 1) (by unfold maxLen; omega); push_cast at this; exact this
   have e5 : IntKind.i64.wrap ((ii : Int) + 2) = (ii : Int) + 2 := by have := Co.wrap_fit (ii + 2) (by unfold maxLen; omega); push_cast at this; exact this
   have HX := hid (aIn hx (aIn hkI htx))
   have HPS2 := hid hPS
   have HII : Hid (ii = 2 * j ∧ ii + 1 < m ∧ m ≤ 8192) := ⟨hii.symm, hj1, by omega⟩
   rcases isLab_cases x with ⟨hlab, hk⟩ | ⟨hlab, hk0, hk1, hk3⟩
   case inr =>
    have g0 : ¬ kI = 0 := by omega
    have g1 : ¬ kI = 1 := by omega
    have g3 : ¬ kI = 3 := by omega
    have g0b : (kI != 0) = true := by simp [g0]
    have g1b : (kI != 1) = true := by simp [g1]
    have g3b : (kI != 3) = true := by simp [g3]
    have HLF : Hid (allLab T = false) := by
     show allLab T = false
     rw [← HPS2.out, allLab, List.all_append, List.all_cons]
     show (_ && (isLab x && _)) = false
     rw [hlab]
     simp
    try clear hPS; try clear hx; try clear hkI; try clear htx; try clear hAh; try clear hrow; try clear hgvl; try clear hA1; try clear hg1; try clear hc1; try clear hl1; try clear hW2; try clear hd; try clear hP; try clear hQ; try clear hP1; try clear hm9; try clear hk2; try clear hk3; try clear hj; try clear hjm; try clear hlab; try clear hk0; try clear hk1; try clear hk3; try clear hpl; try clear hii; try clear hj1; try clear hv1; try clear hv2; try clear hx0
    go_wp2_with fail
    go_ret2
    exact ⟨fun h => (by rw [HLF.out] at h; cases h), ⟨fun _ => rfl, by rw [HBB.out]; exact (HB1.out.trans (HBW.out.mono HBZ.out)).alloc (by have := HBW.out.size; have := HBZ.out; omega) _⟩⟩
   case inl =>
    have HLT : Hid (isLab x = true) := hlab
    have hk' : kI = 0 ∨ kI = 1 ∨ kI = 3 := by omega
    obtain ⟨vo, hvo⟩ : ∃ v, v = u4 := ⟨_, rfl⟩
    subst hvo
    have HJN : Hid (j ≤ 1000000) := by show j ≤ 1000000; omega
    have HPP : Hid (P.headD a0 = x ∧ ps ++ (x, Q.headD a0) :: twos (heads (Ps.drop (2 * (j + 1)))) = T) := ⟨hx, hPS⟩
    obtain ⟨q1, q2, q3, hq⟩ : ∃ a n c, v2 = .slice a n c := HW2.out.isSl
    subst hq
    have HPC : Hid (pcell (x, .slice q1 q2 q3) = [Value.int .i64 kI, Value.int .u64 (x.num : Int), Value.string tx, .slice q1 q2 q3]) := by
     show pcell _ = _
     rw [← hkI, ← htx]; rfl
    have STEP : ∀ (w0 w5 : World), (w0.heap.size = wq.heap.size + 2 ∧ Below wq.heap.size wq w0) → w0.grownBy w5 vo.ownBlock → Below w1.heap.size w1 w5 := fun w0 w5 hs hg => by
     have hz := HBW.out.size
     exact (HBW.out.trans (hs.2.mono hz)).grown hg (by omega) (fun k hk => (HOW.out.lt k hk).1)
    have STEPH := hid STEP
    have HSD : Hid (∀ ob ob2 : Obj, (((wq.alloc ob).drewN 1).alloc ob2).ownsRow w1.heap.size 84 4 vo j (pcells L)) := hid (fun ob ob2 => (own_drewN (HOW.out.alloc ob) 1).alloc ob2)
    try clear STEP; try clear hPS; try clear hx; try clear hkI; try clear htx; try clear hAh; try clear hrow; try clear hgvl; try clear hA1; try clear hg1; try clear hc1; try clear hl1; try clear hW2; try clear hd; try clear hP; try clear hQ; try clear hP1; try clear hm9; try clear hk2; try clear hk3; try clear hj; try clear hjm; try clear hlab; try clear hk; try clear hpl; try clear hii; try clear hj1; try clear hv1; try clear hv2; try clear hx0
    have c2a : ∀ ob : Obj, (wq.alloc ob).cell? ⟨gv, ii + 1, none⟩ = some (.slice q1 q2 q3) := fun ob => by
     rw [World.cell?_alloc_some _ _ _ (by rw [c2]; rfl)]; exact c2
    have HKK := hid hk'
    have HOB := hid (At.ofAlloc wq #[Value.int .i64 kI, Value.int .u64 (x.num : Int), Value.string tx] 60)
    clear hk'
    go_upto_region 7 with fail
    go_cut [34] from 22 to 34 (fun v w' => v = .bool false ∧ w' = wq.alloc (Obj.cells #[Value.int .i64 kI, Value.int .u64 (x.num : Int), Value.string tx] 60))
    case first =>
     rcases HKK.out with rfl | rfl | rfl
     all_goals
      go_wp2_with fail
      go_meet
      case rel => exact ⟨rfl, rfl⟩
    case rest =>
     obtain ⟨rfl, hwc⟩ := hcut
     have hT : wc.heap.size = wq.heap.size + 1 := by rw [hwc]; simp
     have hBa : Below wq.heap.size wq wc := by rw [hwc]; exact (Below.refl _ _).alloc (nle _) _
     have hAt : At wc wq.heap.size 0 [Value.int .i64 kI, Value.int .u64 (x.num : Int), Value.string tx] := by rw [hwc]; exact HOB.out
     have hOw : wc.ownsRow w1.heap.size 84 4 vo j (pcells L) := by rw [hwc]; exact HOW.out.alloc _
     have hcc : wc.cell? ⟨gv, ii + 1, none⟩ = some (.slice q1 q2 q3) := by rw [hwc]; exact c2a _
     obtain ⟨wa, hwa⟩ : ∃ x, x = wc := ⟨_, rfl⟩
     subst hwa
     clear hwc c2a
     obtain ⟨T0, hT0⟩ : ∃ T, wq.heap.size = T := ⟨_, rfl⟩
     rw [hT0] at hT hAt
     rw [hT0] at hBa STEPH ⊢
     have k0 := hAt.z 0 _ rfl
     have k1 := hAt.z 1 _ rfl
     have k2 := hAt.z 2 _ rfl
     have HC0 : Hid (wa.cell? ⟨T0, 0, none⟩ = some (.int .i64 kI) ∧ wa.cell? ⟨T0, 1, none⟩ = some (.int .u64 (x.num : Int)) ∧ wa.cell? ⟨T0, 2, none⟩ = some (.string tx) ∧ wa.cell? ⟨gv, ii + 1, none⟩ = some (.slice q1 q2 q3)) := ⟨k0, k1, k2, hcc⟩
     have HC1 : Hid (∀ ob, (wa.alloc ob).cell? ⟨T0, 0, none⟩ = some (.int .i64 kI) ∧ (wa.alloc ob).cell? ⟨T0, 1, none⟩ = some (.int .u64 (x.num : Int)) ∧ (wa.alloc ob).cell? ⟨T0, 2, none⟩ = some (.string tx) ∧ (wa.alloc ob).cell? ⟨gv, ii + 1, none⟩ = some (.slice q1 q2 q3)) := fun ob => by
      refine ⟨?_, ?_, ?_, ?_⟩
      ·rw [World.cell?_alloc_some _ _ _ (by rw [k0]; rfl)]; exact k0
      ·rw [World.cell?_alloc_some _ _ _ (by rw [k1]; rfl)]; exact k1
      ·rw [World.cell?_alloc_some _ _ _ (by rw [k2]; rfl)]; exact k2
      ·rw [World.cell?_alloc_some _ _ _ (by rw [hcc]; rfl)]; exact hcc
     have hgvl : gv < w1.heap.size := (HO.out.lt gv rfl).2
     have hzq := HBW.out.size
     rw [hT0] at hzq
     have KEEP : ∀ (w0 w5 : World), (w0.cell? ⟨T0, 0, none⟩ = some (.int .i64 kI) ∧ w0.cell? ⟨T0, 1, none⟩ = some (.int .u64 (x.num : Int)) ∧ w0.cell? ⟨T0, 2, none⟩ = some (.string tx) ∧ w0.cell? ⟨gv, ii + 1, none⟩ = some (.slice q1 q2 q3)) → w0.grownBy w5 vo.ownBlock →
       (w5.cell? ⟨T0, 0, none⟩ = some (.int .i64 kI) ∧ w5.cell? ⟨T0, 1, none⟩ = some (.int .u64 (x.num : Int)) ∧ w5.cell? ⟨T0, 2, none⟩ = some (.string tx) ∧ w5.cell? ⟨gv, ii + 1, none⟩ = some (.slice q1 q2 q3)) := fun w0 w5 h hg => by
      have hne : ∀ q, q = T0 ∨ q = gv → some q ≠ vo.ownBlock := fun q hq e => by
       have h9 := HOW.out.lt q e.symm
       rw [hT0] at h9
       omega
      exact ⟨hg.cell h.1 (hne _ (.inl rfl)), hg.cell h.2.1 (hne _ (.inl rfl)), hg.cell h.2.2.1 (hne _ (.inl rfl)), hg.cell h.2.2.2 (hne _ (.inr rfl))⟩
     have KEEPH := hid KEEP
     have HSD3 : Hid (∀ ob, (wa.drew.alloc ob).ownsRow w1.heap.size 84 4 vo j (pcells L)) := fun ob => hOw.alloc ob
     have HBS : Hid (w1.heap.size ≤ T0 ∧ wa.heap.size = T0 + 1) := ⟨hzq, hT⟩
     have HBZ2 : Hid (∀ ob, (wa.drew.alloc ob).heap.size = T0 + 2 ∧ Below T0 wq (wa.drew.alloc ob)) := fun ob => ⟨by rw [World.size_alloc]; show wa.heap.size + 1 = _; omega, (hBa.trans ((Below.refl wa.heap.size wa).drew.mono (by rw [hT]; omega))).alloc (by show T0 ≤ wa.heap.size; omega) _⟩
     have HAY : Hid (At (wa.drew.alloc (Obj.cells #[Value.int .i64 kI, Value.int .u64 (x.num : Int), Value.string tx, .slice q1 q2 q3] 84)) wa.heap.size 0 (pcell (x, .slice q1 q2 q3))) := by
      show At _ _ _ _
      rw [HPC.out]
      exact At.ofAlloc wa.drew #[Value.int .i64 kI, Value.int .u64 (x.num : Int), Value.string tx, .slice q1 q2 q3] 84
     have HIS : Hid (isSl (Prod.snd (x, Value.slice q1 q2 q3))) := ⟨_, _, _, rfl⟩
     have HBS9 : Hid (∀ ob, w1.heap.size ≤ (wa.drew.alloc ob).heap.size) := fun ob => by rw [World.size_alloc]; show _ ≤ wa.heap.size + 1; omega
     clear KEEP hT hBa hAt hOw hcc k0 k1 k2 hgvl hzq
     go_upto_region 9 with fail
     go_region_held3 (fun w' => w'.cell? ⟨T0, 0, none⟩ = some (.int .i64 kI) ∧ w'.cell? ⟨T0, 1, none⟩ = some (.int .u64 (x.num : Int)) ∧ w'.cell? ⟨T0, 2, none⟩ = some (.string tx) ∧ w'.cell? ⟨gv, ii + 1, none⟩ = some (.slice q1 q2 q3)) (first | exact HC5.out | exact HC1.out _ | exact HC0.out) (first | (refine step_append_pr ?_ (.tmp 35) (.tmp 49) ?_ w1.heap.size vo j L ?_ ?_ (x, .slice q1 q2 q3) wa.heap.size 1 ?_ ?_ ?_ ?_ ?_ ?_; (focus rfl); (focus rfl); (focus rfl); exact HSD3.out _; (focus rfl); exact HAY.out; exact HIS.out; exact HJN.out; exact HBS9.out _; intro v5 w5 hown5 hgrow5; have hg9 : World.grownBy ((wa.alloc (Obj.cells #[Value.int .i64 kI, Value.int .u64 (x.num : Int), Value.string tx, .slice q1 q2 q3] 84)).drew) w5 vo.ownBlock := hgrow5; have HC5 := hid (KEEPH.out ((wa.alloc (Obj.cells #[Value.int .i64 kI, Value.int .u64 (x.num : Int), Value.string tx, .slice q1 q2 q3] 84)).drew) w5 (HC1.out _) hg9); have HB6 := hid (STEPH.out _ w5 (HBZ2.out _) hgrow5); have HO6 := hid hown5; obtain ⟨a5, c5, rfl, -⟩ := own_form hown5; clear hown5 hgrow5 hg9))
     all_goals
      go_wp2_with fail
      go_roundw
      case rel =>
       have hii := HII.out
       refine ⟨j + 1, L ++ [(x, .slice q1 q2 q3)], ps ++ [(x, Q.headD a0)], ?_, by omega, ?_, ?_, ?_, HO6, HPR.out.append (.cons HW2.out HQ9.out .nil), HB6⟩
       ·rw [hii.1]; push_cast; rw [show (2 : Int) * (j : Int) + 2 = 2 * ((j : Int) + 1) by omega]
       ·show ps ++ [(x, Q.headD a0)] ++ _ = T
        rw [List.append_assoc]; exact HPP.out.2
       ·show allLab (ps ++ [(x, Q.headD a0)]) = true
        rw [allLab, List.all_append]
        have h1 : ps.all (fun p => isLab p.1) = true := HLB.out
        rw [h1]
        show (true && (isLab x && true)) = true
        rw [HLT.out]; rfl
       ·show (ps ++ [(x, Q.headD a0)]).length = j + 1
        rw [lap, HPL.out]; rfl
      case measure => have hii := HII.out; simp [intOf]; omega
end Ce
end Go.Proofs.YtikgonlhdkknkaaGreatDoor
namespace Go.Proofs.YtikgonlhdkknkaaGreatDoor
open Go.RowKit
namespace Ce
open Co (Am Ra up rcells rv rcells_length rcells_append rcell_atO)
structure Bg (g : Nat) (w w' : World) : Prop where
 os : w'.os = w.os
 tape : w'.tape = w.tape
 output : w'.output = w.output
 size : w.heap.size ≤ w'.heap.size
 keep : ∀ k, k < w.heap.size → k ≠ g → w'.heap[k]? = w.heap[k]?
theorem Bg.refl (g : Nat) (w : World) : Bg g w w := ⟨rfl, rfl, rfl, nle _, fun _ _ _ => rfl⟩
theorem Bg.trans {g : Nat} {a b c : World} (h1 : Bg g a b) (h2 : Bg g b c) : Bg g a c := ⟨h2.os.trans h1.os, h2.tape.trans h1.tape, h2.output.trans h1.output, Nat.le_trans h1.size h2.size, fun k hk hS => (h2.keep k (nlt hk h1.size) hS).trans (h1.keep k hk hS)⟩
theorem Bg.of {g : Nat} {w w' : World} (h : Below w.heap.size w w') : Bg g w w' := ⟨h.os, h.tape, h.output, h.size, fun k hk _ => h.block k hk⟩
theorem Bg.to {g : Nat} {w w' : World} (h : Bg g w w') {B : Nat} (hg : B ≤ g) (hB : B ≤ w.heap.size) : Below B w w' := ⟨h.os, h.tape, h.output, h.size, fun k hk => h.keep k (by omega) (by omega)⟩
theorem Bg.set {g : Nat} {a w : World} (h : Bg g a w) (i : Nat) (v : Value) : Bg g a (w.setCell ⟨g, i, none⟩ v) :=
 h.trans ⟨rfl, rfl, rfl, by simp [World.setCell], fun k hk hne => Below.heap_setCell _ _ _ _ (by show k ≠ g; exact hne)⟩
theorem Bg.setUp {g : Nat} {a w : World} (h : Bg g a w) {p : Nat} (hp : a.heap.size ≤ p) (i : Nat) (v : Value) : Bg g a (w.setCell ⟨p, i, none⟩ v) :=
 ⟨h.os, h.tape, h.output, by rw [World.size_setCell]; exact h.size, fun k hk hne => (Below.heap_setCell _ _ _ _ (by show k ≠ p; omega)).trans (h.keep k hk hne)⟩
theorem Bg.alloc {g : Nat} {a w : World} (h : Bg g a w) (ob : Obj) : Bg g a (w.alloc ob) := h.trans (Bg.of ((Below.refl _ _).alloc (nle _) _))
theorem Bg.drewN {g : Nat} {a w : World} (h : Bg g a w) (k : Nat) : Bg g a (w.drewN k) := ⟨h.os, h.tape, h.output, h.size, h.keep⟩
theorem Bg.drew {g : Nat} {a w : World} (h : Bg g a w) : Bg g a w.drew := h.drewN 1
theorem At.bg {g k o : Nat} {w w' : World} {cs : List Value} (h : At w k o cs) (hb : Bg g w w') (hk : k < w.heap.size) (hne : k ≠ g) : At w' k o cs := fun j v hv => by
 have h1 := h j v hv
 have h2 := hb.keep k hk hne
 rw [World.cell?, World.frozen?] at h1 ⊢
 simp only at h1 ⊢
 rw [h2]
 exact h1
theorem Wl.wx {w : World} {v : Value} {l : List Am} (h : Wl w v l) {n : Nat} (hn : w.heap.size ≤ n) : Wx n w v l := by obtain ⟨g, o, cap, h1, h2, h3, h4, h5⟩ := h; exact ⟨g, o, cap, h1, h2, h3, h4, h5, by show ¬ g = n; omega⟩
theorem WX.bg {n : Nat} {w w' : World} {v : Value} {l : List Am} (h : Wx n w v l) (hb : Bg n w w') : Wx n w' v l := by
 obtain ⟨g, o, cap, h1, h2, h3, h4, h5, h6⟩ := h
 exact ⟨g, o, cap, h1, h2, h3, At.bg h4 hb h5 h6, nlt h5 hb.size, h6⟩
theorem Prm.bg {n : Nat} {w w' : World} {L ps} (h : Prm (fun k => k = n) w L ps) (hb : Bg n w w') : Prm (fun k => k = n) w' L ps := by
 induction h with
 | nil => exact .nil
 | cons h h0 _ ih => exact .cons (h.bg hb) h0 ih
def Px (n : Nat) (w : World) (v : Value) (ps : List (Am × Am)) : Prop := ∃ a c L, v = .slice a ps.length c ∧ Prm (fun k => k = n) w L ps ∧ (ps ≠ [] → ∃ g, a = some ⟨g, 0, none⟩ ∧ g ≠ n ∧ g < w.heap.size ∧ At w g 0 (pcells L))
theorem Px.bg {n : Nat} {w w' : World} {v : Value} {ps} (h : Px n w v ps) (hb : Bg n w w') : Px n w' v ps := by
 obtain ⟨a, c, L, h1, h2, h3⟩ := h
 refine ⟨a, c, L, h1, h2.bg hb, fun h => ?_⟩
 obtain ⟨g, h4, h5, h6, h7⟩ := h3 h
 exact ⟨g, h4, h5, nlt h6 hb.size, At.bg h7 hb h6 h5⟩
theorem Px.far {n : Nat} {w : World} {v : Value} {ps} (h : Px n w v ps) {m : Nat} (hm : w.heap.size ≤ m) : Px m w v ps := by
 obtain ⟨a, c, L, h1, h2, h3⟩ := h
 refine ⟨a, c, L, h1, ?_, fun h => ?_⟩
 ·clear h1 h3
  induction h2 with
  | nil => exact .nil
  | cons h h0 _ ih => exact .cons (h.wl.wx hm) h0 ih
 ·obtain ⟨g, h4, h5, h6, h7⟩ := h3 h
  exact ⟨g, h4, by omega, h6, h7⟩
theorem pcell_at {w : World} {g : Nat} {L : List (Am × Value)} (h : At w g 0 (pcells L)) (i : Nat) (p : Am × Value) (hi : L[i]? = some p) : At w g (i * 4) (pcell p) := by
 obtain ⟨hlt, he⟩ := List.getElem?_eq_some_iff.1 hi
 have h1 : L = L.take i ++ ([p] ++ L.drop (i + 1)) := by rw [← he]; simp
 have h2 : pcells L = pcells (L.take i) ++ pcell p ++ pcells (L.drop (i + 1)) := by
  conv => lhs; rw [h1]
  rw [pcells_append, pcells_append, List.append_assoc]
  simp [pcells]
 rw [h2] at h
 have h3 := At.sub h
 rw [pcells_length, List.length_take, Nat.min_eq_left (Nat.le_of_lt hlt), Nat.zero_add] at h3
 exact h3
def RetFind (n : Nat) (m : Nat) (ps : List (Am × Am)) (w : World) (e : Ending) (w' : World) : Prop := (find m ps = none → e = .returned (.slice none 0 0)) ∧ (∀ a, find m ps = some a → ∃ v P, e = .returned v ∧ Wx n w' v P ∧ P ≠ [] ∧ P.headD a0 = a) ∧ Below w.heap.size w w'
theorem find_cons (m : Nat) (p : Am × Am) (ps : List (Am × Am)) : find m (p :: ps) = if p.1 = ⟨0, m, []⟩ then some p.2 else find m ps := by
 rw [find, find, List.find?_cons]
 by_cases h : p.1 = ⟨0, m, []⟩
 ·rw [if_pos h, dtr h]; rfl
 ·rw [if_neg h, dfa h]
theorem am_ne {x : Am} {m : Nat} (h : ¬ x = ⟨0, m, []⟩) : ¬ x.kind = 0 ∨ (x.kind = 0 ∧ ¬ x.num = m) ∨ (x.kind = 0 ∧ x.num = m ∧ ¬ x.text = []) := by
 by_cases h1 : x.kind = 0
 ·by_cases h2 : x.num = m
  ·exact .inr (.inr ⟨h1, h2, fun h3 => h (by cases x; simp only at h1 h2 h3; rw [h1, h2, h3])⟩)
  ·exact .inr (.inl ⟨h1, h2⟩)
 ·exact .inl h1
theorem cfind_any (g nx m : Nat) (vp : Value) (ps : List (Am × Am)) (w : World) (hc : w.cell? ⟨g, 15, none⟩ = some vp) (hp : Px nx w vp ps) (hl : ps.length ≤ 100000) :
  Calls Tryz.prog 35 #[.pointer (some ⟨g, 0, none⟩), .int .u64 (m : Int)] w (RetFind nx m ps w) := by
 have HP := hid hp
 obtain ⟨a, c, L, rfl, hm, hr⟩ := hp
 obtain ⟨n, hn⟩ : ∃ n, ps.length = n := ⟨_, rfl⟩
 rw [hn] at hc hl
 have HN := hid hn
 have HL := hid hl
 have HMX := hid hm
 have HR := hid hr
 have HC := hid hc
 have hca : ∀ ob, (w.alloc ob).cell? ⟨g, 15, none⟩ = some (.slice a n c) := fun ob => by rw [World.cell?_alloc_some _ _ _ (by rw [hc]; rfl)]; exact hc
 have HB0 : Hid (Below w.heap.size w (w.alloc (Obj.cells #[.int .i64 0, .int .u64 (m : Int), .string ⟨#[]⟩] 82))) := (Below.refl _ _).alloc (nle _) _
 have HA0 := hid (At.ofAlloc w #[.int .i64 0, .int .u64 (m : Int), .string ⟨#[]⟩] 82)
 obtain ⟨B, hB⟩ : ∃ B, w.heap.size = B := ⟨_, rfl⟩
 rw [hB] at HA0 HB0
 have HBB := hid hB
 clear hm hr hl hn
 go_enter Tryz.func35, Tryz.ntmps35
 go_wp2_with fail
 try rw [hB]
 clear hB hc hca
 obtain ⟨w0, hw0⟩ : ∃ x, w.alloc (Obj.cells #[.int .i64 0, .int .u64 (m : Int), .string ⟨#[]⟩] 82) = x := ⟨_, rfl⟩
 have HS0 : Hid (w0.heap.size = B + 1) := by show _ = _; rw [← hw0, ← HBB.out]; simp
 rw [hw0] at HA0 HB0
 rw [hw0]
 clear hw0
 go_loopw [15] (fun vi wr => ∃ i : Nat, vi = .int .i64 (i : Int) ∧ i ≤ n ∧ Hid (find m ps = find m (ps.drop i)) ∧ Hid (Below (B + 1) w0 wr)) (fun vi _ => n - (intOf vi).toNat)
 case atStart => exact ⟨0, rfl, Nat.zero_le _, by show _ = find m (ps.drop 0); rw [List.drop_zero], Below.refl _ _⟩
 case round =>
  obtain ⟨i, rfl, hi, HF, HB⟩ := hrel
  obtain ⟨wq, hwq⟩ : ∃ x, x = wr := ⟨_, rfl⟩
  subst hwq
  have HBW : Hid (Below B w wq) := HB0.out.trans (HB.out.mono (by omega))
  by_cases hin : i = n
  ·subst hin
   have HE : Hid (find m ps = none) := by
    show _ = none
    rw [HF.out, List.drop_eq_nil_of_le (Nat.le_of_eq HN.out)]; rfl
   clear hi
   go_wp2_with fail
   go_ret
   exact ⟨fun _ => rfl, fun a h => (by rw [HE.out] at h; cases h), by rw [HBB.out]; exact HBW.out⟩
  ·have hN := HN.out
   have hlt : i < ps.length := by omega
   obtain ⟨k, v, P, hk1, hk2, hk3, hk4⟩ := HMX.out.get i (by rw [HMX.out.length]; exact hlt)
   obtain ⟨gr, rfl, hgn, hgl, hAt⟩ := HR.out (fun h => by rw [h] at hlt; simp at hlt)
   have hx := (pcell_at hAt i _ hk1).below (hb := HBW.out) (by rw [← HBB.out]; exact hgl)
   rw [pcell] at hx
   simp only at hx
   have hd : ps.drop i = (k, P.headD a0) :: ps.drop (i + 1) := by
    rw [← List.getElem_cons_drop (h := hlt)]
    congr 1
    exact (List.getElem?_eq_some_iff.1 hk2).2
   have hF := HF.out
   rw [hd, find_cons] at hF
   obtain ⟨q1, q2, q3, hq⟩ : ∃ a n c, v = .slice a n c := hk3.isSl
   subst hq
   obtain ⟨kd, hkd⟩ : ∃ t, k.kind = t := ⟨_, rfl⟩
   obtain ⟨nm, hnm⟩ : ∃ t, k.num = t := ⟨_, rfl⟩
   obtain ⟨tx, htx⟩ : ∃ t, k.text = t := ⟨_, rfl⟩
   rw [hkd, hnm, htx] at hx
   have n0 := hx.cell 0 _ rfl
   have n1 := hx.cell 1 _ rfl
   have n2 := hx.cell 2 _ rfl
   have n3 := hx.cell 3 _ rfl
   rw [Nat.add_zero] at n0
   have hAq := HA0.out.below HB.out (by omega)
   have l0 := fun ob => (hAq.alloc ob).z 0 _ rfl
   have l1 := fun ob => (hAq.alloc ob).z 1 _ rfl
   have l2 := fun ob => (hAq.alloc ob).z 2 _ rfl
   have e1 : (i : Int) < (n : Int) := by omega
   have e2 : IntKind.i64.wrap ((i : Int) + 1) = (i : Int) + 1 := by have := HL.out; have := Co.wrap_fit (i + 1) (by unfold maxLen; omega); push_cast at this; exact this
   have e3 : (i : Int) ≤ 1000000 := by have := HL.out; omega
   have HII : Hid (i + 1 ≤ n) := by show i + 1 ≤ n; omega
   by_cases heq : k = ⟨0, m, []⟩
   ·rw [if_pos heq] at hF
    have HFD := hid hF
    have HW : Hid (Wx nx w (.slice q1 q2 q3) P ∧ P ≠ []) := ⟨hk3, hk4⟩
    obtain rfl : kd = 0 := by rw [← hkd, heq]
    obtain rfl : nm = m := by rw [← hnm, heq]
    obtain rfl : tx = [] := by rw [← htx, heq]
    clear hF hx hAq hd hk1 hk2 hk3 hk4 hkd hnm htx heq hAt hgl hgn hlt hN hin hi
    go_wp2_with fail
    go_ret
    have hBf : Below B w (wq.alloc (Obj.cells #[Value.int .i64 0, Value.int .u64 (nm : Int), Value.string ⟨#[]⟩, Value.slice q1 q2 q3] 84)) := HBW.out.alloc (by have h9 := HBW.out.size; rw [HBB.out] at h9; exact h9) _
    refine ⟨fun h => (by rw [HFD.out] at h; cases h), fun a h => ?_, by rw [HBB.out]; exact hBf⟩
    rw [HFD.out] at h
    cases h
    exact ⟨_, P, rfl, HW.out.1.below (by rw [HBB.out]; exact hBf), HW.out.2, rfl⟩
   ·rw [if_neg heq] at hF
    have HFD := hid hF
    have hne := am_ne heq
    rw [hkd, hnm, htx] at hne
    clear hF hx hAq hd hk1 hk2 hk3 hk4 hkd hnm htx heq hAt hgl hgn hlt hN hin hi
    have HBN : Hid (∀ ob, Below (B + 1) w0 (wq.alloc ob)) := fun ob => HB.out.alloc (by have h9 := HB.out.size; have := HS0.out; omega) ob
    rcases hne with h1 | ⟨rfl, h2⟩ | ⟨rfl, rfl, h3⟩
    all_goals
     go_wp2_with fail
     go_roundw
     case rel => exact ⟨i + 1, by go_num, HII.out, HFD, HBN.out _⟩
     case measure => have := HII.out; simp [intOf]; omega
end Ce
end Go.Proofs.YtikgonlhdkknkaaGreatDoor
