import Derived.Test.YtikgonlhdkknkaaGreatDoorCoZ
set_option linter.unusedVariables false
set_option linter.unusedSimpArgs false
namespace Go.Proofs.YtikgonlhdkknkaaGreatDoor
namespace Co
open Dr (Rs Lm has lack at0S)
def holdR (a : Ra) : Bool := decide (4 ≤ a.kind ∧ a.kind ≤ 6)
def needR (a : Ra) : Nat := if a.kind < 6 then a.num * (a.kind - 3).toNat else 1
def pop0 : List Nat → List Nat
 | [] => []
 | x :: W => if x = 0 then pop0 W else x :: W
def dec1 : List Nat → List Nat
 | [] => []
 | x :: W => (x - 1) :: W
def pushR (a : Ra) (W : List Nat) : List Nat := if holdR a = true then needR a :: W else W
def bhc : List Nat → Nat → Nat → List Ra → Int × Nat
 | _, m, _, [] => (-1, m)
 | W, m, i, a :: r =>
  if holdR a = true ∧ a.kind < 6 ∧ 5000 < a.num then (-1, m)
  else if pop0 (pushR a (dec1 W)) = [] then ((i : Int) + 1, max m (pushR a (dec1 W)).length)
  else bhc (pop0 (pushR a (dec1 W))) (max m (pushR a (dec1 W)).length) (i + 1) r
def stk : List Fr → List Nat
 | [] => []
 | f :: G => slots f :: G.map fun f => slots f - 1
def WG (G : List Fr) : Prop := ∀ f ∈ G, 1 ≤ slots f ∧ wfF f
theorem stk_dec (G : List Fr) : dec1 (stk G) = G.map fun f => slots f - 1 := by cases G <;> rfl
theorem slots_left {f : Fr} (h : f.left = 0) : slots f = 0 := by
 rw [slots, h]
 split <;> simp
theorem ends_stk (out : List UInt8) : ∀ (G : List Fr) (a : Nat) (o : Bool), WG G →
  (ends out a G o).2.1 = decide (pop0 (G.map fun f => slots f - 1) = []) ∧ stk (ends out a G o).1 = pop0 (G.map fun f => slots f - 1) ∧ WG (ends out a G o).1 ∧ (ends out a G o).1.length ≤ G.length
 | [], a, o, _ => ⟨rfl, rfl, (fun f hf => absurd hf List.not_mem_nil), nle _⟩
 | f :: G, a, o, hW => by
  have hf := hW f (List.mem_cons_self ..)
  have hG : WG G := fun x hx => hW x (List.mem_cons_of_mem _ hx)
  have h1 := slots_adv f (out.drop a) hf.1
  have h2 := wfF_adv (out.drop a) hf.1
  rw [ends, List.map_cons, pop0]
  by_cases h : (adv f (out.drop a)).left = 0
  ·have h3 := slots_left h
   rw [if_pos h, if_pos (by omega)]
   obtain ⟨i1, i2, i3, i4⟩ := ends_stk out G f.p0 (o && okB f (out.drop a)) hG
   exact ⟨i1, i2, i3, by rw [lco]; omega⟩
  ·have h3 : slots (adv f (out.drop a)) ≠ 0 := fun h0 => h (slots_zero h0 h2)
   rw [if_neg h, if_neg (by omega)]
   refine ⟨(dfa (by simp)).symm, ?_, ?_, nle _⟩
   ·show slots (adv f (out.drop a)) :: _ = _
    rw [show slots (adv f (out.drop a)) = slots f - 1 by omega]
   ·intro x hx
    rcases List.mem_cons.1 hx with rfl | hx
    ·exact ⟨by omega, h2⟩
    ·exact hG x hx
theorem tops_stk (out : List UInt8) (f : Fr) (G : List Fr) (o : Bool) (hf : wfF f) (hG : WG G) :
  (tops out f G o).2.1 = decide (pop0 (slots f :: G.map fun f => slots f - 1) = []) ∧ stk (tops out f G o).1 = pop0 (slots f :: G.map fun f => slots f - 1) ∧ WG (tops out f G o).1 ∧ (tops out f G o).1.length ≤ G.length + 1 := by
 rw [tops, pop0]
 by_cases h : f.left = 0
 ·rw [if_pos h, if_pos (slots_left h)]
  obtain ⟨i1, i2, i3, i4⟩ := ends_stk out G f.p0 o hG
  exact ⟨i1, i2, i3, by omega⟩
 ·have h3 : slots f ≠ 0 := fun h0 => h (slots_zero h0 hf)
  rw [if_neg h, if_neg h3]
  refine ⟨(dfa (by simp)).symm, rfl, ?_, nle _⟩
  intro x hx
  rcases List.mem_cons.1 hx with rfl | hx
  ·exact ⟨by omega, hf⟩
  ·exact hG x hx
theorem atom_stk {t : Tl} {a : Ra} (hW : WG t.G) (hl : t.G.length ≤ t.deep) (h0 : 0 ≤ a.kind) :
  (atomT true t (dn a)).done = decide (pop0 (pushR a (dec1 (stk t.G))) = []) ∧ stk (atomT true t (dn a)).G = pop0 (pushR a (dec1 (stk t.G))) ∧ WG (atomT true t (dn a)).G ∧ (atomT true t (dn a)).deep = max t.deep (pushR a (dec1 (stk t.G))).length ∧ (atomT true t (dn a)).G.length ≤ (atomT true t (dn a)).deep := by
 have hk : ((dn a).kind : Int) = a.kind := by show ((a.kind.toNat : Nat) : Int) = a.kind; omega
 have hh : holds (dn a).kind = holdR a := by
  rw [holds, holdR]
  congr 1
  exact propext ⟨fun h => by omega, fun h => by omega⟩
 rw [stk_dec, pushR, atomT, hh]
 by_cases h : holdR a = true
 ·rw [if_pos h, if_pos h]
  have hn : slots (fr0 (dn a) t.out.length) = needR a := by
   have h4 : 4 ≤ a.kind ∧ a.kind ≤ 6 := of_decide_eq_true h
   rw [slots_fr0, need, needR]
   have hnum : (dn a).num = a.num := rfl
   rw [hnum]
   rcases (by omega : a.kind = 4 ∨ a.kind = 5 ∨ a.kind = 6) with h5 | h5 | h5
   ·rw [if_neg (by omega), if_neg (by omega), if_pos (by omega), h5]; show a.num = a.num * 1; omega
   ·rw [if_neg (by omega), if_pos (by omega), if_pos (by omega), h5]; show 2 * a.num = a.num * 2; omega
   ·rw [if_pos (by omega), if_neg (by omega)]
  obtain ⟨i1, i2, i3, i4⟩ := tops_stk (outT true t.out (dn a)) (fr0 (dn a) t.out.length) t.G t.ord (fun h => by cases h) hW
  rw [hn] at i1 i2
  exact ⟨i1, i2, i3, by rw [lco, List.length_map]; rfl, by show (tops _ _ _ _).1.length ≤ max _ _; omega⟩
 ·rw [if_neg h, if_neg h]
  obtain ⟨i1, i2, i3, i4⟩ := ends_stk (outT true t.out (dn a)) t.G t.out.length t.ord hW
  exact ⟨i1, i2, i3, by rw [List.length_map]; show t.deep = max _ _; omega, by show (ends _ _ _ _).1.length ≤ t.deep; omega⟩
theorem right_kind {txt : List UInt8 → Bool} {a : Ra} (h : rightR txt a = true) : 0 ≤ a.kind := by
 rw [rightR] at h
 repeat' split at h
 all_goals first | omega | (cases h; done)
theorem go_many {txt : List UInt8 → Bool} {r : List Ra} {f : Fr} {G : List Fr} {out : List UInt8} {dp : Nat} {ord : Bool} (hb : ∀ a ∈ r, a.num < 18446744073709551616 ∧ a.text.length < 18446744073709551616) (hf : wfF f) (h : r.length < slots f) : go txt true r ⟨out, f :: G, dp, false, ord⟩ = ([], 9) := by
 refine Classical.byContradiction fun hne => ?_
 obtain ⟨d, N, M, o, r2, h1, -, h3, h4, -⟩ := go_inv (r.length + 1) r f G out dp ord [] (Nat.lt_succ_self _) hb (slots_pos (f := f) (by omega)) hf hne
 have h5 := h3.lens
 have h6 := congrArg List.length h1
 rw [lap, List.length_map] at h6
 omega
theorem bhc_go {txt : List UInt8 → Bool} : ∀ (r : List Ra) (t : Tl) (i : Nat), t.done = false → WG t.G → t.G.length ≤ t.deep → r.length ≤ 4096 → (∀ a ∈ r, a.num < 18446744073709551616 ∧ a.text.length < 18446744073709551616) → (∀ a ∈ r, rightR txt a = true) →
  (∃ t', go txt true r t = fins t' ∧ t'.done = true ∧ bhc (stk t.G) t.deep i r = (((i + r.length : Nat) : Int), t'.deep)) ∨ (go txt true r t = ([], 9) ∧ (bhc (stk t.G) t.deep i r).1 ≠ ((i + r.length : Nat) : Int))
 | [], t, i, hd, hW, hl, hn, hb, hr => .inr ⟨by rw [go, fins, if_pos hd], by rw [bhc]; show (-1 : Int) ≠ _; omega⟩
 | a :: r, t, i, hd, hW, hl, hn, hb, hr => by
  have ha := hr a (List.mem_cons_self ..)
  have h0 := right_kind ha
  rw [lco] at hn
  have hbr : ∀ x ∈ r, x.num < 18446744073709551616 ∧ x.text.length < 18446744073709551616 := fun x hx => hb x (List.mem_cons_of_mem _ hx)
  obtain ⟨i1, i2, i3, i4, i5⟩ := atom_stk hW hl h0
  rw [go, if_neg (by rw [hd, ha]; simp), bhc]
  by_cases h5 : holdR a = true ∧ a.kind < 6 ∧ 5000 < a.num
  ·rw [if_pos h5]
   refine .inr ⟨?_, by show (-1 : Int) ≠ _; omega⟩
   have h4 : 4 ≤ a.kind ∧ a.kind ≤ 6 := of_decide_eq_true h5.1
   have hh : holds (dn a).kind = true := by
    rw [holds, decide_eq_true_iff]
    show 4 ≤ a.kind.toNat ∧ a.kind.toNat ≤ 6
    omega
   have hsl : 5000 < slots (fr0 (dn a) t.out.length) := by
    rw [slots_fr0, need, if_neg (by show ¬ a.kind.toNat = 6; omega)]
    have hnum : (dn a).num = a.num := rfl
    split <;> rw [hnum] <;> omega
   rw [atomT, if_pos hh, mkT, tops, if_neg (slots_pos (f := fr0 (dn a) t.out.length) (by omega))]
   exact go_many hbr (fun h => by cases h) (by omega)
  ·rw [if_neg h5]
   by_cases h6 : pop0 (pushR a (dec1 (stk t.G))) = []
   ·rw [if_pos h6]
    rw [dtr h6] at i1
    cases r with
    | nil => exact .inl ⟨atomT true t (dn a), rfl, i1, by rw [i4]; rfl⟩
    | cons b r =>
     refine .inr ⟨by rw [go, if_pos (.inl i1)], ?_⟩
     show (i : Int) + 1 ≠ ((i + (a :: b :: r).length : Nat) : Int)
     rw [lco, lco]
     omega
   ·rw [if_neg h6]
    rw [dfa h6] at i1
    have ih := bhc_go r (atomT true t (dn a)) (i + 1) i1 i3 i5 (by omega) hbr (fun x hx => hr x (List.mem_cons_of_mem _ hx))
    rw [i2, i4] at ih
    rw [lco, show i + (r.length + 1) = i + 1 + r.length by omega]
    exact ih
end Co
end Go.Proofs.YtikgonlhdkknkaaGreatDoor
