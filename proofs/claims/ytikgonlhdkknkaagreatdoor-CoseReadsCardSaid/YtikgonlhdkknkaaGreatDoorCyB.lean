import Derived.Test.YtikgonlhdkknkaaGreatDoorCyA
import Derived.Test.YtikgonlhdkknkaaGreatDoorCeB
import Derived.Test.YtikgonlhdkknkaaGreatDoorCuR
import Derived.Test.YtikgonlhdkknkaaGreatDoorCrE
import Derived.Test.YtikgonlhdkknkaaGreatDoorCuV
import Derived.Maps.AppendAt
import Derived.Deep.RegionLaw
set_option maxRecDepth 100000
set_option maxHeartbeats 6400000
set_option linter.unusedVariables false
set_option linter.unusedSimpArgs false
open Go.Lib (hid)
namespace Go.Proofs.YtikgonlhdkknkaaGreatDoor
open Go.RowKit
namespace Ce
open Co (Am Ra up rcells rv UT DecR enc Its holds tell okA SrO ra0 rcell_atO ra_ne bhc)
def Sc (w : World) (v : Value) (l : List Ra) : Prop := ∃ a cap, v = .slice a l.length cap ∧ l.length ≤ cap ∧ (l ≠ [] → ∃ g o, a = some ⟨g, o, none⟩ ∧ At w g o (rcells l) ∧ g < w.heap.size)
theorem Sc.sr {w : World} {v : Value} {l : List Ra} (h : Sc w v l) : SrO w v l := by
 obtain ⟨a, c, h1, -, h2⟩ := h
 exact ⟨a, c, h1, h2⟩
theorem Sc.below {w w' : World} {v : Value} {l : List Ra} (h : Sc w v l) (hb : Below w.heap.size w w') : Sc w' v l := by
 obtain ⟨a, cap, hv, hc, h1⟩ := h
 exact ⟨a, cap, hv, hc, fun hl => by obtain ⟨g, o, h2, h3, h4⟩ := h1 hl; exact ⟨g, o, h2, h3.below hb h4, nlt h4 hb.size⟩⟩
theorem at_sub {w : World} {g o : Nat} {A P R : List Ra} (h : At w g o (rcells (A ++ (P ++ R)))) : At w g (o + A.length * 3) (rcells P) := by
 rw [Co.rcells_append, Co.rcells_append, ← List.append_assoc] at h
 have h2 := At.sub h
 rw [Co.rcells_length, Nat.mul_comm] at h2
 exact h2
theorem behind_part {D : Nat} {A P R : List Am} {B : List UInt8} (h : Part D P B) (hl : (A ++ (P ++ R)).length ≤ 4096) (v : Value) (w : World) (hS : SrO w v ((A ++ (P ++ R)).map up)) (hK : ∀ a ∈ A ++ (P ++ R), a.num < 18446744073709551616) :
  Calls Tryz.prog 63 #[v, .int .i64 (A.length : Int)] w (fun e w' => ∃ x, e = .returned (.tuple #[.int .i64 ((A.length + P.length : Nat) : Int), .int .i64 x]) ∧ Below w.heap.size w w') := by
 refine (Co.behind_at ((A ++ (P ++ R)).map up) A.length (by rw [List.length_map, lap]; omega) v w hS (by intro a ha; obtain ⟨b, hb, rfl⟩ := List.mem_map.1 ha; exact hK b hb) (by rw [List.length_map]; exact hl)).mono ?_
 rintro e w' ⟨rfl, hb⟩
 have hd : ((A ++ (P ++ R)).map up).drop A.length = P.map up ++ R.map up := by
  rw [List.map_append, List.drop_append_of_le_length (by rw [List.length_map]; exact nle _), List.drop_of_length_le (by rw [List.length_map]; exact nle _), List.nil_append, List.map_append]
 rw [hd, h.behind (by rw [lap, lap] at hl; omega) A.length (R.map up)]
 exact ⟨_, rfl, hb⟩
theorem ritem_any {D : Nat} {A P R : List Am} {Bt : List UInt8} (h : Part D P Bt) (hl : (A ++ (P ++ R)).length ≤ 4096) (v : Value) (w : World) (hS : Sc w v ((A ++ (P ++ R)).map up)) (hK : ∀ a ∈ A ++ (P ++ R), a.num < 18446744073709551616) (hbo : ∀ a ∈ A ++ (P ++ R), a.text.length ≤ 140737488351232) :
  Calls Tryz.prog 42 #[v, .int .i64 (A.length : Int)] w (fun e w' => e = .returned (.tuple #[.string (bs (enc Lib.validD (P.map up)).1), .int .i64 ((A.length + P.length : Nat) : Int)]) ∧ Below w.heap.size w w') := by
 have BH := hid (behind_part h hl v w hS.sr hK)
 have hne := h.ne
 have RE := hid (fun (v' : Value) (w' : World) (hS' : SrO w' v' (P.map up)) => Co.rencode_any (P.map up) v' w' hS' (by intro a ha; obtain ⟨b, hb, rfl⟩ := List.mem_map.1 ha; exact hK b (List.mem_append_right _ (List.mem_append_left _ hb))) (by intro a ha; obtain ⟨b, hb, rfl⟩ := List.mem_map.1 ha; exact hbo b (List.mem_append_right _ (List.mem_append_left _ hb))) (by rw [List.length_map]; rw [lap, lap] at hl; omega))
 obtain ⟨a, cap, rfl, hcap, hat⟩ := hS
 obtain ⟨g, o, rfl, hAt, hg⟩ := hat (by
  intro h0
  have h1 := List.map_eq_nil_iff.1 h0
  rw [List.append_eq_nil_iff, List.append_eq_nil_iff] at h1
  exact hne h1.2.1)
 rw [List.map_append, List.map_append] at hAt
 have hSub := at_sub hAt
 rw [List.length_map] at hSub
 have HSB := hid hSub
 have HGL := hid hg
 rw [List.length_map] at hcap
 obtain ⟨n, hn⟩ : ∃ n, (A ++ (P ++ R)).length = n := ⟨_, rfl⟩
 obtain ⟨k, hk⟩ : ∃ k, A.length = k := ⟨_, rfl⟩
 obtain ⟨m, hm⟩ : ∃ k, P.length = k := ⟨_, rfl⟩
 obtain ⟨z, hz⟩ : ∃ z, k + m = z := ⟨_, rfl⟩
 have hkm : z ≤ n := by rw [← hn, lap, lap]; omega
 simp only [List.length_map, hn, hk, hm, hz] at BH hcap HSB hl ⊢
 have HNN := hid (aIn hl (aIn hm (aIn hz hk)))
 have hm1 : 1 ≤ m := by rw [← hm]; exact List.length_pos_iff.2 hne
 have hck : ¬ cap = k := by omega
 have e1 : (0 : Int) ≤ (k : Int) := by omega
 have e2 : (k : Int) ≤ (z : Int) := by omega
 have e3 : (z : Int) ≤ (cap : Int) := by omega
 clear hK hbo hne hAt hg hat hSub hk hm hz hkm hn
 go_enter Tryz.func42, Tryz.ntmps42
 go_wp2_with fail
 refine BH.out.mono ?_
 rintro e w1 ⟨x, rfl, hb1⟩
 have HB1 : Hid (Below w.heap.size w w1) := hb1
 have hzk : z - k = m := by have := HNN.out; omega
 have hS1 : SrO w1 (.slice (some ⟨g, o + k * 3, none⟩) m (cap - k)) (P.map up) := ⟨_, cap - k, by rw [List.length_map, HNN.out.2.1], fun _ => ⟨g, o + k * 3, rfl, HSB.out.below hb1 HGL.out, nlt HGL.out hb1.size⟩⟩
 have re := RE.out _ w1 hS1
 clear hb1 hS1 hm1
 go_wp2_with fail
 refine re.mono ?_
 clear re
 rintro e w2 ⟨s, rfl, hs, hb2⟩
 obtain rfl : s = bs (enc Lib.validD (P.map up)).1 := tl_inj (hs.trans (bs_list _).symm)
 have HB2 : Hid (Below w.heap.size w w2) := HB1.out.trans (hb2.mono HB1.out.size)
 clear hs hb2
 go_wp2_with fail
 go_ret2
 exact ⟨rfl, HB2.out⟩
section
variable {w : World} {ops : Array Oper} {o : Oper} {a : Act}
theorem step_append_two {K : Act → World → Prop} {Q : Exit → Act → World → Prop} {E : Prop} (hgd : o.guard = none) (s x : Operand)
  (ho : o.op = .call { callee := .builtin .append, args := #[s, x], argTypes := #[43, 43] })
  (base : Nat) (v : Value) (n : Nat) (l : List Ra) (hs : a.eval s = v) (hown : w.ownsRow base 60 3 v n (rcells l))
  (g c : Nat) (y : Ra) (hx : a.eval x = .slice (some ⟨g, 0, none⟩) 1 c) (hcell : ∀ j u, (rv y)[j]? = some u → w.cell? ((⟨g, 0, none⟩ : Addr).add j) = some u)
  (hn : n ≤ 1000000) (hbase : base ≤ w.heap.size)
  (h : ∀ v' w', w'.ownsRow base 60 3 v' (n + 1) (rcells (l ++ [y])) → w.grownBy w' v.ownBlock → (v'.ownBlock = v.ownBlock ∨ v'.ownBlock = some w.heap.size) → K (a.put o.dst v') w') :
  if Region.wanted o (yielded ops a.tmps) = true then Oper.wp Tryz.prog o a w K Q else E := by
 obtain ⟨i0, hi, hq⟩ := Option.map_eq_some_iff.1 Co.infoA
 simp only [Prod.mk.injEq] at hq
 have hw : Region.wanted o (yielded ops a.tmps) = true := by simp [Region.wanted, hgd]
 rw [if_pos hw]
 obtain ⟨v', w', hr, h2, h3, h4, h5⟩ := run_append_own_at (P := Tryz.prog) w base 43 o.type 60 i0 _ 3 32 Tryz.underlying43 hi hq.1 hq.2.1 hq.2.2 rfl (by decide) v n (rcells l) hown ⟨g, 0, none⟩ 1 c (rv y) rfl hcell (Co.rv_one y) (by unfold maxLen; omega) (by omega) hbase
 unfold Oper.wp execOp
 simp only [ho, resolve, invoke, builtin, Sem.run_bind, Sem.run_pure, Result.andThen_ok, List.map_toArray, List.map_cons, List.map_nil, hs, hx, hr]
 exact h v' w' (by rw [Co.rcells_append]; simpa [rcells] using h2) h3 h5
end
structure Pw (w0 w : World) (B Hb T : Nat) (vl vv : Value) (L V : List Ra) : Prop where
 at0 : At w Hb 0 [vl, vv]
 own1 : w.ownsRow T 60 3 vl L.length (rcells L)
 own2 : w.ownsRow T 60 3 vv V.length (rcells V)
 ap : vl.ownBlock = none ∨ vl.ownBlock ≠ vv.ownBlock
 hT : Hb < T
 sz : T ≤ w.heap.size
 bB : B ≤ Hb
 be : Below B w0 w
variable {w0 w w' : World} {B Hb T : Nat} {vl vv v' : Value} {L V : List Ra} {y : Ra}
theorem Pw.below (h : Pw w0 w B Hb T vl vv L V) (hb : Below w.heap.size w w') : Pw w0 w' B Hb T vl vv L V := by
 have h1 := h.hT
 have h2 := h.sz
 have h3 := h.bB
 have hs := hb.size
 exact ⟨h.at0.below hb (by omega), own_below h.own1 hb (nle _), own_below h.own2 hb (nle _), h.ap, h1, by omega, h3, h.be.trans (hb.mono (by omega))⟩
theorem ap_swap {a b : Option Nat} (h : a = none ∨ a ≠ b) : b = none ∨ b ≠ a := by
 cases b with
 | none => exact .inl rfl
 | some k =>
  refine .inr (fun e => ?_)
  rcases h with h | h
  ·rw [h] at e; cases e
  ·exact h e.symm
theorem Pw.addL (h : Pw w0 w B Hb T vl vv L V) (hg : w.grownBy w' vl.ownBlock) (ho : w'.ownsRow T 60 3 v' (L.length + 1) (rcells (L ++ [y]))) (hat : v'.ownBlock = vl.ownBlock ∨ v'.ownBlock = some w.heap.size) :
  Pw w0 (w'.setCell ⟨Hb, 0, none⟩ v') B Hb T v' vv (L ++ [y]) V := by
 have h1 := h.hT
 have h2 := h.sz
 have h3 := h.bB
 have hs := hg.size
 have hrow : ∀ k, vl.ownBlock = some k → T ≤ k := fun k hk => (h.own1.lt k hk).1
 have hat1 := (h.at0.grown hg (by omega) (fun e => by have := hrow Hb e; omega)).set 0 v'
 refine ⟨hat1, ?_, ?_, ?_, h1, by rw [Co.set_size]; omega, h3, ?_⟩
 ·have := ownsRow_setCell_below ho (a := ⟨Hb, 0, none⟩) h1 v'
  rw [lap]
  exact this
 ·exact ownsRow_setCell_below (h.own2.kept hg (ap_swap h.ap)) (a := ⟨Hb, 0, none⟩) h1 v'
 ·rcases hat with e | e
  ·rw [e]; exact h.ap
  ·right
   rw [e]
   intro e2
   have := (h.own2.lt _ e2.symm).2
   omega
 ·exact (h.be.grown hg (by omega) (fun k hk => by have := hrow k hk; omega)).setCell (p := ⟨Hb, 0, none⟩) h3 v'
theorem Pw.addV (h : Pw w0 w B Hb T vl vv L V) (hg : w.grownBy w' vv.ownBlock) (ho : w'.ownsRow T 60 3 v' (V.length + 1) (rcells (V ++ [y]))) (hat : v'.ownBlock = vv.ownBlock ∨ v'.ownBlock = some w.heap.size) :
  Pw w0 (w'.setCell ⟨Hb, 1, none⟩ v') B Hb T vl v' L (V ++ [y]) := by
 have h1 := h.hT
 have h2 := h.sz
 have h3 := h.bB
 have hs := hg.size
 have hrow : ∀ k, vv.ownBlock = some k → T ≤ k := fun k hk => (h.own2.lt k hk).1
 have hat1 := (h.at0.grown hg (by omega) (fun e => by have := hrow Hb e; omega)).set 1 v'
 refine ⟨hat1, ?_, ?_, ?_, h1, by rw [Co.set_size]; omega, h3, ?_⟩
 ·exact ownsRow_setCell_below (h.own1.kept hg h.ap) (a := ⟨Hb, 1, none⟩) h1 v'
 ·have := ownsRow_setCell_below ho (a := ⟨Hb, 1, none⟩) h1 v'
  rw [lap]
  exact this
 ·rcases hat with e | e
  ·rw [e]; exact h.ap
  ·rcases h.ap with e3 | e3
   ·exact .inl e3
   ·right
    rw [e]
    intro e2
    have := (h.own1.lt _ e2).2
    omega
 ·exact (h.be.grown hg (by omega) (fun k hk => by have := hrow k hk; omega)).setCell (p := ⟨Hb, 1, none⟩) h3 v'
theorem Pw.hv (h : Pw w0 w B Hb T vl vv L V) {ps : List (Am × Am)} (h1 : L = ps.map fun p => up p.1) (h2 : V = ps.map fun p => up p.2) : Hv w (.agg #[vl, vv]) ps := by
 have sr : ∀ {v : Value} {l : List Ra}, w.ownsRow T 60 3 v l.length (rcells l) → SrO w v l := fun {v l} ho => by
  obtain ⟨a, c, rfl, ha⟩ := own_form ho
  refine ⟨a, c, rfl, fun hl => ?_⟩
  obtain ⟨g, rfl⟩ := ha (List.length_pos_iff.2 hl)
  exact ⟨g, 0, rfl, At.ofOwnN ho, (ho.lt g rfl).2⟩
 exact ⟨vl, vv, rfl, by rw [← h1]; exact sr h.own1, by rw [← h2]; exact sr h.own2⟩
end Ce
end Go.Proofs.YtikgonlhdkknkaaGreatDoor
namespace Go.Proofs.YtikgonlhdkknkaaGreatDoor
open Go.RowKit
namespace Ce
open Co (Am Ra up rcells rv UT DecR enc Its holds tell okA SrO ra0 rcell_atO ra_ne bhc)
def psI (Ps : List (List Am)) (i : Nat) : List (Am × Am) := twos (heads (Ps.take (2 * i)))
theorem twos_app : ∀ (l : List Am) (a b : Am), l.length % 2 = 0 → twos (l ++ [a, b]) = twos l ++ [(a, b)]
 | [], a, b, _ => rfl
 | [x], a, b, h => by simp at h
 | x :: y :: r, a, b, h => by
  show (x, y) :: twos (r ++ [a, b]) = _
  rw [twos_app r a b (by simp only [lco] at h; omega)]
  rfl
theorem take_two {Ps : List (List Am)} {i : Nat} {P Q : List Am} (hP : Ps[2 * i]? = some P) (hQ : Ps[2 * i + 1]? = some Q) : Ps.take (2 * (i + 1)) = Ps.take (2 * i) ++ [P, Q] := by
 rw [show 2 * (i + 1) = 2 * i + 1 + 1 by omega, List.take_add_one, List.take_add_one, hP, hQ]
 simp
theorem psI_succ {Ps : List (List Am)} {i : Nat} {P Q : List Am} (hP : Ps[2 * i]? = some P) (hQ : Ps[2 * i + 1]? = some Q) : psI Ps (i + 1) = psI Ps i ++ [(P.headD a0, Q.headD a0)] := by
 have hl := (List.getElem?_eq_some_iff.1 hP).1
 rw [psI, psI, take_two hP hQ, heads, List.map_append]
 exact twos_app _ _ _ (by rw [List.length_map, List.length_take, Nat.min_eq_left (by omega)]; omega)
theorem psI_len {Ps : List (List Am)} : ∀ (i : Nat), 2 * i ≤ Ps.length → (psI Ps i).length = i
 | 0, _ => rfl
 | i + 1, h => by
  rw [psI_succ (List.getElem?_eq_getElem (show 2 * i < Ps.length by omega)) (List.getElem?_eq_getElem (show 2 * i + 1 < Ps.length by omega)), lap, psI_len i (by omega)]
  rfl
def posI (k : Nat) (Ps : List (List Am)) (i : Nat) : Nat := k + 1 + (Ps.take (2 * i)).flatten.length
theorem lay_at {A R : List Am} {a : Am} {Ps : List (List Am)} {j : Nat} {P : List Am} (h : Ps[j]? = some P) :
  A ++ (a :: (Ps.flatten ++ R)) = (A ++ (a :: (Ps.take j).flatten)) ++ (P ++ ((Ps.drop (j + 1)).flatten ++ R)) := by
 obtain ⟨hj, he⟩ := List.getElem?_eq_some_iff.1 h
 have h1 : Ps = Ps.take j ++ ([P] ++ Ps.drop (j + 1)) := by rw [← he]; simp
 conv => lhs; rw [h1]
 simp [List.flatten_append, List.append_assoc]
theorem head_at {A R P : List Am} (h : P ≠ []) : ((A ++ (P ++ R)).map up).getD A.length ra0 = up (P.headD a0) := by
 cases P with
 | nil => exact absurd rfl h
 | cons p P =>
  rw [List.getD, List.getElem?_map, List.getElem?_append_right (nle _), Nat.sub_self]
  rfl
theorem at_bg {w wA w' : World} {g o : Nat} {cs : List Value} {row : Option Nat} (h : At w g o cs) (hb : Below w.heap.size w wA) (hg : wA.grownBy w' row) (hlt : g < w.heap.size) (hne : row ≠ some g) : At w' g o cs :=
 (h.below hb hlt).grown hg (nlt hlt hb.size) hne
theorem posI_len {A : List Am} {a : Am} {Ps : List (List Am)} (i : Nat) : (A ++ (a :: (Ps.take (2 * i)).flatten)).length = posI A.length Ps i := by
 rw [posI, lap, lco]; omega
theorem posI_mid {A : List Am} {a : Am} {Ps : List (List Am)} {i : Nat} {P : List Am} (hP : Ps[2 * i]? = some P) : (A ++ (a :: (Ps.take (2 * i + 1)).flatten)).length = posI A.length Ps i + P.length := by
 rw [List.take_add_one, hP, posI, lap, lco, List.flatten_append, lap]
 simp
 omega
theorem posI_succ {k : Nat} {Ps : List (List Am)} {i : Nat} {P Q : List Am} (hP : Ps[2 * i]? = some P) (hQ : Ps[2 * i + 1]? = some Q) : posI k Ps (i + 1) = posI k Ps i + P.length + Q.length := by
 rw [posI, take_two hP hQ, posI, List.flatten_append, lap]
 simp
 omega
theorem Pw.setB {w0 w : World} {B Hb T : Nat} {vl vv : Value} {L V : List Ra} (h : Pw w0 w B Hb T vl vv L V) (hlt : B < Hb) (c : Nat) (x : Value) : Pw w0 (w.setCell ⟨B, c, none⟩ x) B Hb T vl vv L V := by
 have h1 := h.hT
 exact ⟨h.at0.other B c x (.inl (by omega)), ownsRow_setCell_below h.own1 (a := ⟨B, c, none⟩) (show B < T by omega) x, ownsRow_setCell_below h.own2 (a := ⟨B, c, none⟩) (show B < T by omega) x, h.ap, h1, by rw [Co.set_size]; exact h.sz, h.bB, h.be.setCell (p := ⟨B, c, none⟩) (nle _) x⟩
theorem rpairs_any {D : Nat} {A R : List Am} {a : Am} {Ps : List (List Am)} {Bs : List (List UInt8)} (hF : Fo D Ps Bs) (hPs : Ps.length = 2 * a.num) (l : List Am) (hll : l = A ++ (a :: (Ps.flatten ++ R))) (hl : l.length ≤ 4096) (v : Value) (w : World) (hS : SrO w v (l.map up)) (hK : ∀ x ∈ l, x.num < 18446744073709551616) :
  Calls Tryz.prog 41 #[v, .int .i64 (A.length : Int)] w (fun e w' => ∃ vh, e = .returned vh ∧ Hv w' vh (twos (heads Ps)) ∧ Below w.heap.size w w') := by
 have BH := hid (fun (j : Nat) (P : List Am) (hP : Ps[j]? = some P) (w' : World) (hS' : SrO w' v (l.map up)) => by
  have hj := (List.getElem?_eq_some_iff.1 hP).1
  have hp : Part D P (Bs.getD j []) := by
   have h := hF.get j hj
   rw [List.getD, hP] at h
   exact h
  have he := hll.trans (lay_at (A := A) (R := R) (a := a) hP)
  rw [he] at hS'
  exact behind_part hp (by rw [← he]; exact hl) v w' hS' (by rw [← he]; exact hK))
 have HAT := hid (fun (j : Nat) (P : List Am) (hP : Ps[j]? = some P) (hne : P ≠ []) => (show (l.map up).getD (A ++ (a :: (Ps.take j).flatten)).length ra0 = up (P.headD a0) ∧ (A ++ (a :: (Ps.take j).flatten)).length < l.length from by
  have he := hll.trans (lay_at (A := A) (R := R) (a := a) hP)
  refine ⟨by rw [he]; exact head_at hne, ?_⟩
  have h3 := congrArg List.length he
  have h4 := List.length_pos_iff.2 hne
  obtain ⟨X, hX⟩ : ∃ X, A ++ (a :: (Ps.take j).flatten) = X := ⟨_, rfl⟩
  rw [hX] at h3 ⊢
  rw [lap, lap] at h3
  omega))
 have HNE := hid (fun (j : Nat) (P : List Am) (hP : Ps[j]? = some P) => (show P ≠ [] from by
  have hj := (List.getElem?_eq_some_iff.1 hP).1
  have h := (hF.get j hj).ne
  rw [List.getD, hP] at h
  exact h))
 have hA : (l.map up).getD A.length ra0 = up a ∧ A.length < l.length := by
  rw [hll]
  exact ⟨head_at (P := [a]) (R := Ps.flatten ++ R) (by simp), by rw [lap, lco]; omega⟩
 have HA := hid hA
 have HSV := hid hS
 have hN : a.num < 18446744073709551616 := hK a (by rw [hll]; simp)
 obtain ⟨al, cl, rfl, hal⟩ := hS
 obtain ⟨g, o, rfl, hAt, hg⟩ := hal (by intro h; have h2 := hA.2; rw [List.map_eq_nil_iff.1 h] at h2; simp at h2)
 obtain ⟨n, hn⟩ : ∃ n, l.length = n := ⟨_, rfl⟩
 obtain ⟨k, hk⟩ : ∃ k, A.length = k := ⟨_, rfl⟩
 obtain ⟨N, hNN⟩ : ∃ N, a.num = N := ⟨_, rfl⟩
 simp only [List.length_map, hn] at BH HSV ⊢
 rw [hk]
 have HKK := hid (aIn hk (aIn hl hn))
 have HNL4 : Hid (N ≤ 4096) := by
  have h1 := (hF.fits []).1.le.1
  rw [List.append_nil] at h1
  have h2 := congrArg List.length hll
  rw [lap, lco, lap] at h2
  show N ≤ 4096
  omega
 have HPN : Hid (Ps.length = 2 * N) := by show _ = _; rw [hPs, hNN]
 have HGT := hid (aIn hAt hg)
 have hNc := rcell_atO hAt A.length (by rw [List.length_map]; exact hA.2)
 rw [hA.1, hk] at hNc
 have HNC := hid hNc
 have HN5 : Hid (N < 18446744073709551616 ∧ a.num = N) := ⟨by rw [← hNN]; exact hN, hNN⟩
 have hP0 : Pw w ((w.alloc (Obj.cells #[.slice none 0 0, .slice none 0 0] 97)).alloc (Obj.cells #[.slice none 0 0, .slice none 0 0] 97)) w.heap.size (w.heap.size + 1) (w.heap.size + 2) (.slice none 0 0) (.slice none 0 0) [] [] := by
  have h := At.ofAlloc (w.alloc (Obj.cells #[.slice none 0 0, .slice none 0 0] 97)) #[.slice none 0 0, .slice none 0 0] 97
  rw [World.size_alloc] at h
  exact ⟨h, World.ownsRow_nil _ _ _ _, World.ownsRow_nil _ _ _ _, .inl rfl, by omega, by simp, by omega, ((Below.refl _ _).alloc (nle _) _).alloc (by simp) _⟩
 have hZ0 := (At.ofAlloc w #[.slice none 0 0, .slice none 0 0] 97).alloc (Obj.cells #[.slice none 0 0, .slice none 0 0] 97)
 obtain ⟨B, hB⟩ : ∃ B, w.heap.size = B := ⟨_, rfl⟩
 have HBB := hid hB
 clear hF hPs hK hA hal hAt hg hn hk hNN hl hNc hN
 go_enter Tryz.func41, Tryz.ntmps41
 have hk1 : (k : Int) + 1 = ((k + 1 : Nat) : Int) := by push_cast; rfl
 have e0 : IntKind.i64.wrap ((k : Int) + 1) = (k : Int) + 1 := by have := HKK.out; have := HA.out.2; have := Co.wrap_fit (k + 1) (by unfold maxLen; omega); push_cast at this; exact this
 clear hk1
 go_upto_region 2 with fail
 obtain ⟨w0, hw0⟩ : ∃ q, (w.alloc (Obj.cells #[.slice none 0 0, .slice none 0 0] 97)).alloc (Obj.cells #[.slice none 0 0, .slice none 0 0] 97) = q := ⟨_, rfl⟩
 rw [hw0] at hP0 hZ0
 try rw [hw0]
 rw [hB] at hP0 hZ0
 try rw [hB]
 have HP0 := hid hP0
 have HZ0 := hid hZ0
 clear hw0 hP0 hZ0 hB
 go_wp2_with fail
 go_loopw [6, 7] (fun vp vi wr => ∃ (i : Nat) (vl vv : Value), vi = .int .u64 (i : Int) ∧ vp = .int .i64 ((posI k Ps i : Nat) : Int) ∧ i ≤ N ∧ Hid (Pw w wr B (B + 1) (B + 2) vl vv ((psI Ps i).map fun p => up p.1) ((psI Ps i).map fun p => up p.2)) ∧ Hid (At wr B 0 (#[.slice none 0 0, .slice none 0 0]).toList)) (fun _ vi _ => N - (intOf vi).toNat)
 case atStart => exact ⟨0, _, _, rfl, by simp [posI], Nat.zero_le _, HP0, HZ0⟩
 case round =>
  obtain ⟨i, vl, vv, rfl, rfl, hi, HP, HZ⟩ := hrel
  have hBw : Below w.heap.size w wr := by rw [HBB.out]; exact HP.out.be
  have hNr := HNC.out.below hBw HGT.out.2
  have nA1 := hNr.cell 1 _ rfl
  have nA : wr.cell? ⟨g, o + k * 3 + 1, none⟩ = some (.int .u64 (N : Int)) := by rw [← HN5.out.2]; exact nA1
  have hkn : (k : Int) < (n : Int) := by have h1 := HA.out.2; have h2 := HKK.out; omega
  have hk0 : (0 : Int) ≤ (k : Int) := by omega
  clear nA1 hNr
  by_cases hin : i < N
  case pos =>
   have h2 : 2 * i + 1 < Ps.length := by rw [HPN.out]; omega
   obtain ⟨P, hP⟩ : ∃ P, Ps[2 * i]? = some P := ⟨_, List.getElem?_eq_getElem (by omega)⟩
   obtain ⟨Q, hQ⟩ : ∃ Q, Ps[2 * i + 1]? = some Q := ⟨_, List.getElem?_eq_getElem h2⟩
   have aP := HAT.out (2 * i) P hP (HNE.out _ P hP)
   have aQ := HAT.out (2 * i + 1) Q hQ (HNE.out _ Q hQ)
   have bP := BH.out (2 * i) P hP
   have bQ := BH.out (2 * i + 1) Q hQ
   have hs := posI_succ (k := k) hP hQ
   rw [posI_len, HKK.out.1, HKK.out.2.2] at aP
   rw [posI_mid hP, HKK.out.1, HKK.out.2.2] at aQ
   rw [posI_len, HKK.out.1] at bP
   rw [posI_mid hP, HKK.out.1] at bQ
   obtain ⟨p, hp⟩ : ∃ p, posI k Ps i = p := ⟨_, rfl⟩
   rw [hp] at aP aQ bP bQ hs ⊢
   obtain ⟨q, hq⟩ : ∃ q, p + P.length = q := ⟨_, rfl⟩
   rw [hq] at aQ bP bQ hs
   have cP := (rcell_atO HGT.out.1 p (by rw [List.length_map]; have := HKK.out; omega)).below hBw HGT.out.2
   have cQ := rcell_atO HGT.out.1 q (by rw [List.length_map]; have := HKK.out; omega)
   rw [aP.1] at cP
   rw [aQ.1] at cQ
   have HCQ := hid cQ
   have HPI := hid (psI_succ hP hQ)
   obtain ⟨x, hx⟩ : ∃ x, up (P.headD a0) = x := ⟨_, rfl⟩
   obtain ⟨y, hy⟩ : ∃ x, up (Q.headD a0) = x := ⟨_, rfl⟩
   rw [hx] at cP
   rw [hy] at HCQ
   have HXY := hid (aIn hx hy)
   obtain ⟨kx, nx, tx⟩ := x
   obtain ⟨ky, ny, ty⟩ := y
   obtain ⟨L, hL⟩ : ∃ L, ((psI Ps i).map fun p => up p.1) = L := ⟨_, rfl⟩
   obtain ⟨V, hV⟩ : ∃ V, ((psI Ps i).map fun p => up p.2) = V := ⟨_, rfl⟩
   have HLV : Hid (True ∧ L.length = i ∧ V.length = i) := ⟨trivial, by rw [← hL, List.length_map, psI_len i (by omega)], by rw [← hV, List.length_map, psI_len i (by omega)]⟩
   rw [hL, hV] at HP
   have HLVE := hid (aIn hL hV)
   have ho1 := HP.out.own1
   rw [HLV.out.2.1] at ho1
   have ho2 := HP.out.own2
   rw [HLV.out.2.2] at ho2
   obtain ⟨a1, c1, rfl, -⟩ := own_form ho1
   obtain ⟨a2, c2, rfl, -⟩ := own_form ho2
   have HO1 := hid ho1
   have HPW := HP
   have HZZ := HZ
   have HIN : Hid (i < N ∧ N ≤ 4096) := ⟨hin, HNL4.out⟩
   have n0 := cP.cell 0 _ rfl
   have n1 := cP.cell 1 _ rfl
   have n2 := cP.cell 2 _ rfl
   have cPa := cP.alloc (Obj.cells #[.int .i64 kx, .int .u64 (nx : Int), .string ⟨tx.toArray⟩] 60)
   simp only [Nat.add_zero] at n0
   have l0 := HP.out.at0.z 0 _ rfl
   have l1 := HP.out.at0.z 1 _ rfl
   have l0a := (HP.out.at0.alloc (Obj.cells #[.int .i64 kx, .int .u64 (nx : Int), .string ⟨tx.toArray⟩] 60)).z 0 _ rfl
   have e1 : (i : Int) < (N : Int) := by omega
   have p1 : (p : Int) < (n : Int) := by have := aP.2; omega
   have p0 : (0 : Int) ≤ (p : Int) := by omega
   have HQN : Hid (q < n ∧ p < n) := ⟨aQ.2, aP.2⟩
   have BP := hid bP
   have BQ := hid bQ
   have HSS := hid hs
   clear aP aQ bP bQ hs cP cQ cPa hp hq hx hy hL hV ho1 ho2 hP hQ h2 hin hi hBw
   go_upto_region 6 with fail
   go_cut [] from 10 to 48 (fun wx => ∃ v', Hid (Pw w wx B (B + 1) (B + 2) v' (.slice a2 i c2) (L ++ [⟨kx, nx, tx⟩]) V) ∧ Hid (At wx B 0 [.slice none 0 0, .slice none 0 0]))
   case first =>
    go_region_law (first | (refine step_append_two rfl (.tmp 20) (.tmp 25) rfl (B + 2) _ i L rfl (own_below HO1.out (by { repeat (first | exact Below.refl _ _ | refine Below.drew ?_ | refine bdN ?_ _ | refine Below.alloc ?_ (nle _) _) }) (nle _)) wr.heap.size 1 ⟨kx, nx, tx⟩ rfl (Co.at_cellsO (by { first | exact At.ofAlloc wr #[.int .i64 kx, .int .u64 (nx : Int), .string ⟨tx.toArray⟩] 60 | exact (At.ofAlloc wr #[.int .i64 kx, .int .u64 (nx : Int), .string ⟨tx.toArray⟩] 60).drewN 1 | exact At.ofAlloc wr.drew #[.int .i64 kx, .int .u64 (nx : Int), .string ⟨tx.toArray⟩] 60 })) (by have := HIN.out; omega) (by have := HPW.out.sz; first | (simp; omega) | (show B + 2 ≤ (World.alloc _ _).heap.size; simp; omega)) ?_; intro v9 w9 hown9 hgrow9 hat9; have hat0 := at_bg HPW.out.at0 (by { repeat (first | exact Below.refl _ _ | refine Below.drew ?_ | refine bdN ?_ _ | refine Below.alloc ?_ (nle _) _) }) hgrow9 (by have := HPW.out.sz; have := HPW.out.hT; omega) (fun e => by have := (HPW.out.own1.lt _ e).1; omega); have hz9 := at_bg HZZ.out (by { repeat (first | exact Below.refl _ _ | refine Below.drew ?_ | refine bdN ?_ _ | refine Below.alloc ?_ (nle _) _) }) hgrow9 (by have := HPW.out.sz; omega) (fun e => by have := (HPW.out.own1.lt _ e).1; omega); have b9 := hat0.z 0 _ rfl; have f9 := hat0.zy 0 _ rfl; obtain ⟨a9, c9, hv9, -⟩ := own_form hown9; subst hv9; have HPX := hid (Pw.addL (HPW.out.below (by { repeat (first | exact Below.refl _ _ | refine Below.drew ?_ | refine bdN ?_ _ | refine Below.alloc ?_ (nle _) _) })) hgrow9 (by rw [HLV.out.2.1]; exact hown9) hat9); have HZX := hid (hz9.other (B + 1) 0 (.slice a9 (i + 1) c9) (.inl (by omega))); clear hown9 hgrow9 hat9 hat0 hz9))
    all_goals (go_wp2_with fail)
    all_goals go_meet
    all_goals exact ⟨_, HPX, HZX⟩
   case rest =>
    obtain ⟨v6, HP6, HZ6⟩ := hcut
    have hB6 := HP6.out.be
    rw [← HBB.out] at hB6
    have HS6 := hid (HSV.out.below hB6)
    clear n0 n1 n2 l0 l1 l0a p1 p0 hB6 HP HPW HZ HZZ HO1
    go_upto_region 7 with fail
    go_wp2_with (first | (go_at_call 63; refine (BP.out _ HS6.out).mono ?_; rintro e w7 ⟨x7, rfl, hb7⟩))
    have HPW7 := hid (HP6.out.below hb7)
    have HZZ7 := hid (HZ6.out.below hb7 (by have := HP6.out.sz; omega))
    have ho7 := HPW7.out.own2
    rw [HLV.out.2.2] at ho7
    have HO7 := hid ho7
    have hB7 := HPW7.out.be
    rw [← HBB.out] at hB7
    have HS7 := hid (HSV.out.below hB7)
    have cQ := HCQ.out.below hB7 HGT.out.2
    have n0 := cQ.cell 0 _ rfl
    have n1 := cQ.cell 1 _ rfl
    have n2 := cQ.cell 2 _ rfl
    simp only [Nat.add_zero] at n0
    have l0 := HPW7.out.at0.z 0 _ rfl
    have l1 := HPW7.out.at0.z 1 _ rfl
    have l1a := (HPW7.out.at0.alloc (Obj.cells #[.int .i64 ky, .int .u64 (ny : Int), .string ⟨ty.toArray⟩] 60)).z 1 _ rfl
    have p1 : (q : Int) < (n : Int) := by have := HQN.out; omega
    have p0 : (0 : Int) ≤ (q : Int) := by omega
    clear cQ hB7 ho7 hb7
    go_cut [] from 10 to 48 (fun wx => ∃ v', Hid (Pw w wx B (B + 1) (B + 2) v6 v' (L ++ [⟨kx, nx, tx⟩]) (V ++ [⟨ky, ny, ty⟩])) ∧ Hid (At wx B 0 [.slice none 0 0, .slice none 0 0]))
    case first =>
     go_region_law (first | (refine step_append_two rfl (.tmp 35) (.tmp 40) rfl (B + 2) _ i V rfl (own_below HO7.out (by { repeat (first | exact Below.refl _ _ | refine Below.drew ?_ | refine bdN ?_ _ | refine Below.alloc ?_ (nle _) _) }) (nle _)) w7.heap.size 1 ⟨ky, ny, ty⟩ rfl (Co.at_cellsO (by { first | exact At.ofAlloc w7 #[.int .i64 ky, .int .u64 (ny : Int), .string ⟨ty.toArray⟩] 60 | exact (At.ofAlloc w7 #[.int .i64 ky, .int .u64 (ny : Int), .string ⟨ty.toArray⟩] 60).drewN 1 | exact At.ofAlloc w7.drew #[.int .i64 ky, .int .u64 (ny : Int), .string ⟨ty.toArray⟩] 60 })) (by have := HIN.out; omega) (by have := HPW7.out.sz; first | (simp; omega) | (show B + 2 ≤ (World.alloc _ _).heap.size; simp; omega)) ?_; intro v9 w9 hown9 hgrow9 hat9; have hat0 := at_bg HPW7.out.at0 (by { repeat (first | exact Below.refl _ _ | refine Below.drew ?_ | refine bdN ?_ _ | refine Below.alloc ?_ (nle _) _) }) hgrow9 (by have := HPW7.out.sz; have := HPW7.out.hT; omega) (fun e => by have := (HPW7.out.own2.lt _ e).1; omega); have hz9 := at_bg HZZ7.out (by { repeat (first | exact Below.refl _ _ | refine Below.drew ?_ | refine bdN ?_ _ | refine Below.alloc ?_ (nle _) _) }) hgrow9 (by have := HPW7.out.sz; omega) (fun e => by have := (HPW7.out.own2.lt _ e).1; omega); have b9 := hat0.z 1 _ rfl; have f9 := hat0.zy 1 _ rfl; obtain ⟨a9, c9, hv9, -⟩ := own_form hown9; subst hv9; have HPX := hid (Pw.addV (HPW7.out.below (by { repeat (first | exact Below.refl _ _ | refine Below.drew ?_ | refine bdN ?_ _ | refine Below.alloc ?_ (nle _) _) })) hgrow9 (by rw [HLV.out.2.2]; exact hown9) hat9); have HZX := hid (hz9.other (B + 1) 1 (.slice a9 (i + 1) c9) (.inl (by omega))); clear hown9 hgrow9 hat9 hat0 hz9))
     all_goals (go_wp2_with fail)
     all_goals go_meet
     all_goals exact ⟨_, HPX, HZX⟩
    case rest =>
     obtain ⟨v8, HP8, HZ8⟩ := hcut
     have hB8 := HP8.out.be
     rw [← HBB.out] at hB8
     have HS8 := hid (HSV.out.below hB8)
     clear n0 n1 n2 l0 l1 l1a p1 p0 hB8
     go_wp2_with (first | (go_at_call 63; refine (BQ.out _ HS8.out).mono ?_; rintro e w9 ⟨x9, rfl, hb9⟩))
     have hL9 : ((psI Ps (i + 1)).map fun p => up p.1) = L ++ [⟨kx, nx, tx⟩] := by rw [HPI.out, List.map_append, HLVE.out.1, List.map_cons, List.map_nil, HXY.out.1]
     have hV9 : ((psI Ps (i + 1)).map fun p => up p.2) = V ++ [⟨ky, ny, ty⟩] := by rw [HPI.out, List.map_append, HLVE.out.2, List.map_cons, List.map_nil, HXY.out.2]
     have HP9 : Hid (Pw w w9 B (B + 1) (B + 2) v6 v8 ((psI Ps (i + 1)).map fun p => up p.1) ((psI Ps (i + 1)).map fun p => up p.2)) := by rw [hL9, hV9]; exact HP8.out.below hb9
     have HZ9 : Hid (At w9 B 0 [.slice none 0 0, .slice none 0 0]) := HZ8.out.below hb9 (by have := HP8.out.sz; omega)
     have hi9 : i + 1 ≤ N := by have := HIN.out; omega
     have hw9 := Co.u64c (i + 1) (by have := HIN.out; omega)
     push_cast at hw9
     go_roundw
     case rel => (repeat apply Exists.intro); exact ⟨by first | rfl | (rw [hw9]; rfl) | (rw [hw9]; push_cast; rfl), by first | rfl | (rw [HSS.out]; push_cast; rfl), hi9, HP9, HZ9⟩
     case measure => have := HIN.out; simp [intOf]; omega
  case neg =>
   obtain rfl : i = N := by omega
   obtain ⟨a1, c1, rfl, -⟩ := own_form HP.out.own1
   obtain ⟨a2, c2, rfl, -⟩ := own_form HP.out.own2
   have l0 := HP.out.at0.z 0 _ rfl
   have l1 := HP.out.at0.z 1 _ rfl
   have z0 := HZ.out.z 0 _ rfl
   have z1 := HZ.out.z 1 _ rfl
   have f0 := HZ.out.zf 0 (by simp)
   have f1 := HZ.out.zf 1 (by simp)
   have e1 : ¬ (i : Int) < (i : Int) := by omega
   clear HP0 HZ0
   go_wp2_with fail
   have hZE : At ((wr.setCell ⟨B, 0, none⟩ (.slice a1 (List.map (fun p => up p.1) (psI Ps i)).length c1)).setCell ⟨B, 1, none⟩ (.slice a2 (List.map (fun p => up p.2) (psI Ps i)).length c2)) B 0 [.slice a1 (List.map (fun p => up p.1) (psI Ps i)).length c1, .slice a2 (List.map (fun p => up p.2) (psI Ps i)).length c2] := (HZ.out.set 0 _).set 1 _
   have hPE := (HP.out.setB (by omega) 0 (.slice a1 (List.map (fun p => up p.1) (psI Ps i)).length c1)).setB (by omega) 1 (.slice a2 (List.map (fun p => up p.2) (psI Ps i)).length c2)
   have hv := hPE.hv rfl rfl
   have hb := hPE.be
   have hps : psI Ps i = twos (heads Ps) := by rw [psI, List.take_of_length_le (by rw [HPN.out]; exact nle _)]
   simp only [List.length_map] at hZE hv hb ⊢
   refine bodyPost_ret (results_at rfl _ B [.slice a1 (psI Ps i).length c1, .slice a2 (psI Ps i).length c2] _ rfl hZE Tryz.underlying97 rfl (by kernel_rfl)) rfl ?_
   rw [← hps]
   exact ⟨_, rfl, hv, by rw [HBB.out]; exact hb⟩
end Ce
end Go.Proofs.YtikgonlhdkknkaaGreatDoor
