import Derived.Test.YtikgonlhdkknkaaGreatDoorCqK
set_option linter.unusedVariables false
set_option linter.unusedSimpArgs false
namespace Go.Proofs.YtikgonlhdkknkaaGreatDoor
namespace Co
open Dr (Rs Lm has lack at0S)
def finD (t : Tl) : List UInt8 × Int := if t.done = false then ([], 9) else ([0], (t.deep : Int))
def gd (txt : List UInt8 → Bool) : List Ra → Tl → List UInt8 × Int
 | [], t => finD t
 | a :: r, t => if t.done = true ∨ rightR txt a = false then ([], 9) else gd txt r (atomT true t (dn a))
section
variable {txt : List UInt8 → Bool}
theorem gd_cons {a : Am} {r : List Ra} {t : Tl} (ht : t.done = false) (ha : okA txt a) : gd txt (up a :: r) t = gd txt r (atomT true t a) := by
 rw [gd, if_neg, dn_up]
 rw [ht, rightR_up ha]
 simp
theorem Its.tellsD {d N M o} (h : Its d N M o) : (∀ a ∈ N, okA txt a) → N ≠ [] → ∀ (f : Fr) (G : List Fr) (out : List UInt8) (dp : Nat) (ord : Bool) (r : List Ra), M.length ≤ slots f → wfF f →
  gd txt (N.map up ++ r) ⟨out, f :: G, dp, false, ord⟩ = gd txt r (mkT (out ++ M.flatten) (dpm dp (G.length + 1) d) (tops (out ++ M.flatten) (advs f M) G (ord && (o && okM f M)))) := by
 induction h with
 | nil => intro _ h0; exact absurd rfl h0
 | @leaf a d N M o hn h ih =>
  intro hall _ f G out dp ord r hs hwf
  rw [lco] at hs
  rw [List.map_cons, List.cons_append, gd_cons rfl (hall a (List.mem_cons_self ..)), atomT, if_neg (by rw [hn]; decide), outT_tell _ hn, ends_cons, drop_put]
  have hsl := slots_adv f (tell a) (by omega)
  by_cases hN : N = []
  ·subst hN
   cases h
   have e0 : dpm dp (G.length + 1) 0 = dp := by rw [dpm, if_pos rfl, Nat.max_zero]
   rw [List.map_nil, List.nil_append, List.flatten_singleton, okM, okM, e0]
   congr 2
   cases ord <;> cases okB f (tell a) <;> rfl
  ·have hM : 1 ≤ M.length := by
    cases M with
    | nil => exact absurd h.none.1 hN
    | cons _ _ => simp
   rw [tops_live (slots_pos (by omega))]
   refine (ih (fun x hx => hall x (List.mem_cons_of_mem _ hx)) hN (adv f (tell a)) G (out ++ tell a) dp _ r (by omega) (wfF_adv _ (by omega))).trans ?_
   rw [List.append_assoc, ← List.flatten_cons, advs_cons, okM]
   congr 3
   cases ord <;> cases okB f (tell a) <;> cases o <;> rfl
 | @node a dK K MK oK d N M o hn hm hK h ihK ih =>
  intro hall _ f G out dp ord r hs hwf
  rw [lco] at hs
  obtain ⟨B, hB⟩ : ∃ B, hdN a.kind a.num ++ MK.flatten = B := ⟨_, rfl⟩
  have hsl := slots_adv f B (by omega)
  -- the holder, with all that it holds
  have hold : ∀ r2 : List Ra, gd txt (up a :: (K.map up ++ r2)) ⟨out, f :: G, dp, false, ord⟩ = gd txt r2 (mkT (out ++ B) (dpm dp (G.length + 1) (dK + 1)) (tops (out ++ B) (adv f B) G (ord && ((oK && ordA a.kind MK) && okB f B)))) := fun r2 => by
   rw [gd_cons rfl (hall a (List.mem_cons_self ..)), atomT, if_pos hn, outT_head _ hn]
   show gd txt (K.map up ++ r2) (mkT (out ++ hdN a.kind a.num) (max dp ((f :: G).length + 1)) (tops (out ++ hdN a.kind a.num) (fr0 a out.length) (f :: G) ord)) = _
   have hsn : slots (fr0 a out.length) = MK.length := by rw [slots_fr0, hm]
   have hz : (advs (fr0 a out.length) MK).left = 0 := by
    have h3 := slots_advs MK (fr0 a out.length) (by omega)
    exact slots_zero (by omega) (wfF_advs MK _ (fun h4 => by cases h4) (by omega))
   by_cases hKe : K = []
   ·subst hKe
    cases hK
    rw [List.flatten_nil, List.append_nil] at hB
    rw [hB, tops, if_pos (show (fr0 a out.length).left = 0 from hz), show (fr0 a out.length).p0 = out.length from rfl, ends_cons, drop_put]
    rw [List.map_nil, List.nil_append, lco]
    have e1 : dpm dp (G.length + 1) (0 + 1) = max dp (G.length + 1 + 1) := by rw [dpm, if_neg (by omega)]
    rw [e1]
    congr 3
    have e2 : ordA a.kind [] = true := by rw [ordA]; simp [keysOk]
    rw [e2]
    cases ord <;> cases okB f B <;> rfl
   ·have hMK : 1 ≤ MK.length := by
     cases MK with
     | nil => exact absurd hK.none.1 hKe
     | cons _ _ => simp
    rw [tops_live (f := fr0 a out.length) (slots_pos (by omega))]
    refine (ihK (fun x hx => hall x (List.mem_cons_of_mem _ (List.mem_append_left _ hx))) hKe (fr0 a out.length) (f :: G) (out ++ hdN a.kind a.num) _ ord r2 (by omega) (fun h4 => by cases h4)).trans ?_
    rw [List.append_assoc, hB, tops, if_pos hz, advs_p0, show (fr0 a out.length).p0 = out.length from rfl, ends_cons, drop_put, okM_fr0, lco]
    have e1 : dpm (max dp (G.length + 1 + 1)) (G.length + 1 + 1) dK = dpm dp (G.length + 1) (dK + 1) := by
     have e2 : ¬ dK + 1 = 0 := Nat.succ_ne_zero _
     rw [dpm, dpm, if_neg e2]
     split <;> omega
    rw [e1]
    congr 3
    cases ord <;> cases okB f B <;> cases oK <;> cases ordA a.kind MK <;> rfl
  rw [List.map_cons, List.map_append, List.cons_append, List.append_assoc, hold]
  rw [hB, List.flatten_cons, advs_cons, okM]
  by_cases hN : N = []
  ·subst hN
   cases h
   rw [List.map_nil, List.nil_append, List.flatten_nil, List.append_nil, okM]
   have e1 : max (dK + 1) 0 = dK + 1 := Nat.max_zero _
   rw [e1]
   congr 3
   cases ord <;> cases okB f B <;> cases oK <;> cases ordA a.kind MK <;> rfl
  ·have hM : 1 ≤ M.length := by
    cases M with
    | nil => exact absurd h.none.1 hN
    | cons _ _ => simp
   rw [tops_live (slots_pos (by omega))]
   refine (ih (fun x hx => hall x (List.mem_cons_of_mem _ (List.mem_append_right _ hx))) hN (adv f B) G (out ++ B) _ _ r (by omega) (wfF_adv _ (by omega))).trans ?_
   rw [List.append_assoc]
   have e1 : dpm (dpm dp (G.length + 1) (dK + 1)) (G.length + 1) d = dpm dp (G.length + 1) (max (dK + 1) d) := by
    rw [dpm, dpm, dpm]
    split <;> split <;> split <;> omega
   rw [e1]
   congr 3
   cases ord <;> cases okB f B <;> cases oK <;> cases ordA a.kind MK <;> cases o <;> rfl
theorem Its.tellsOneD {d : Nat} {l : List Am} {B : List UInt8} {o : Bool} (h : Its d l [B] o) (hall : ∀ a ∈ l, okA txt a) (r : List Ra) : gd txt (l.map up ++ r) ini = gd txt r ⟨B, [], d, true, o⟩ := by
 generalize hM : [B] = M at h
 cases h with
 | nil => cases hM
 | @leaf a d N M o hn h =>
  injection hM with h1 h2
  subst h2
  obtain ⟨rfl, rfl, rfl⟩ := h.none
  rw [List.map_cons, List.cons_append, gd_cons rfl (hall a (List.mem_cons_self ..)), atomT, if_neg (by rw [hn]; decide), outT_tell _ hn, h1]
  rfl
 | @node a dK K MK oK d N M o hn hm hK h =>
  injection hM with h1 h2
  subst h2
  obtain ⟨rfl, rfl, rfl⟩ := h.none
  rw [List.append_nil] at hall ⊢
  rw [List.map_cons, List.cons_append, gd_cons rfl (hall a (List.mem_cons_self ..)), atomT, if_pos hn, outT_head _ hn]
  show gd txt (K.map up ++ r) (mkT ([] ++ hdN a.kind a.num) (max 0 (([] : List Fr).length + 1)) (tops ([] ++ hdN a.kind a.num) (fr0 a 0) [] true)) = _
  rw [List.nil_append]
  have hsn : slots (fr0 a 0) = MK.length := by rw [slots_fr0, hm]
  have hz : (advs (fr0 a 0) MK).left = 0 := by
   have h3 := slots_advs MK (fr0 a 0) (by omega)
   exact slots_zero (by omega) (wfF_advs MK _ (fun h4 => by cases h4) (by omega))
  by_cases hKe : K = []
  ·subst hKe
   cases hK
   rw [List.flatten_nil, List.append_nil] at h1
   rw [← h1, tops, if_pos (show (fr0 a 0).left = 0 from hz)]
   have e2 : ordA a.kind [] = true := by rw [ordA]; simp [keysOk]
   rw [e2]
   rfl
  ·have hMK : 1 ≤ MK.length := by
    cases MK with
    | nil => exact absurd hK.none.1 hKe
    | cons _ _ => simp
   rw [tops_live (slots_pos (by omega))]
   refine (hK.tellsD (fun x hx => hall x (List.mem_cons_of_mem _ hx)) hKe (fr0 a 0) [] (hdN a.kind a.num) _ true r (by omega) (fun h4 => by cases h4)).trans ?_
   rw [← h1, tops, if_pos hz, advs_p0, okM_fr0]
   have e1 : dpm (max 0 (([] : List Fr).length + 1)) (([] : List Fr).length + 1) dK = max (dK + 1) 0 := by
    rw [dpm, List.length_nil]
    split <;> omega
   rw [e1, Bool.true_and, Bool.and_true]
   rfl
theorem gd_inv : ∀ (m : Nat) (r : List Ra) (f : Fr) (G : List Fr) (out : List UInt8) (dp : Nat) (ord : Bool) (S : List UInt8), r.length < m → (∀ a ∈ r, a.num < 18446744073709551616 ∧ a.text.length < 18446744073709551616) → f.left ≠ 0 → wfF f →
  gd txt r ⟨out, f :: G, dp, false, ord⟩ ≠ ([], 9) → ∃ d N M o r2, r = N.map up ++ r2 ∧ N ≠ [] ∧ Its d N M o ∧ M.length = slots f ∧ ∀ a ∈ N, okA txt a
 | 0, r, _, _, _, _, _, _, hm, _, _, _, _ => absurd hm (Nat.not_lt_zero _)
 | m + 1, [], f, G, out, dp, ord, S, hm, _, _, _, hgo => absurd rfl hgo
 | m + 1, a :: r, f, G, out, dp, ord, S, hm, hb, hf, hwf, hgo => by
  rw [lco] at hm
  have hbr : ∀ x ∈ r, x.num < 18446744073709551616 ∧ x.text.length < 18446744073709551616 := fun x hx => hb x (List.mem_cons_of_mem _ hx)
  have hR : rightR txt a = true := by
   cases hq : rightR txt a with
   | true => rfl
   | false => exact absurd (by rw [gd, if_pos (.inr hq)]) hgo
  obtain ⟨hok, hup⟩ := okA_dn (hb a (List.mem_cons_self ..)).1 (hb a (List.mem_cons_self ..)).2 hR
  obtain ⟨x, hx⟩ : ∃ x, dn a = x := ⟨_, rfl⟩
  rw [hx] at hok hup
  subst hup
  rw [gd_cons rfl hok] at hgo
  have hs1 : 1 ≤ slots f := by
   rw [slots]
   split
   ·split <;> omega
   ·omega
  -- the item that stands first, with what stands behind it
  have first : ∀ (d0 : Nat) (K : List Am) (B : List UInt8) (o0 : Bool) (r1 : List Ra) (dp1 : Nat) (out1 : List UInt8) (ord1 : Bool), r = K.map up ++ r1 → Its d0 (x :: K) [B] o0 → (∀ y ∈ K, okA txt y) →
    gd txt r1 (mkT out1 dp1 (tops out1 (adv f B) G ord1)) ≠ ([], 9) → ∃ d N M o r2, up x :: r = N.map up ++ r2 ∧ N ≠ [] ∧ Its d N M o ∧ M.length = slots f ∧ ∀ a ∈ N, okA txt a := fun d0 K B o0 r1 dp1 out1 ord1 hr hI hK h9 => by
   have hsl := slots_adv f B hs1
   have hallx : ∀ y ∈ x :: K, okA txt y := fun y hy => by
    rcases List.mem_cons.1 hy with rfl | hy
    ·exact hok
    ·exact hK y hy
   by_cases hl : (adv f B).left = 0
   ·refine ⟨d0, x :: K, [B], o0, r1, by rw [hr]; rfl, by simp, hI, ?_, hallx⟩
    have hv : (adv f B).value = false := by
     cases hv : (adv f B).value with
     | false => rfl
     | true => have := wfF_adv B hs1 hv; omega
    have h0 : slots (adv f B) = 0 := by rw [slots, hl, hv]; simp
    rw [List.length_singleton]; omega
   ·rw [tops_live hl] at h9
    obtain ⟨d, N, M, o, r2, hr2, hN, hI2, hM, hall⟩ := gd_inv m r1 (adv f B) G out1 dp1 ord1 S (by rw [hr, lap] at hm; omega) (fun y hy => hbr y (by rw [hr]; exact List.mem_append_right _ hy)) hl (wfF_adv B hs1) h9
    have hI3 := hI.append hI2
    refine ⟨_, _, _, _, r2, ?_, ?_, hI3, ?_, ?_⟩
    ·rw [hr, hr2]; simp
    ·simp
    ·rw [List.singleton_append, lco]; omega
    ·intro y hy
     rcases List.mem_append.1 hy with h | h
     ·exact hallx y h
     ·exact hall y h
  cases hh : holds x.kind with
  | false =>
   rw [atomT, if_neg (by rw [hh]; decide), outT_tell _ hh, ends_cons, drop_put] at hgo
   exact first 0 [] (tell x) true r _ _ _ rfl (.leaf hh .nil) (fun y hy => by cases hy) hgo
  | true =>
   rw [atomT, if_pos hh, outT_head _ hh] at hgo
   have hgo : gd txt r (mkT (out ++ hdN x.kind x.num) (max dp ((f :: G).length + 1)) (tops (out ++ hdN x.kind x.num) (fr0 x out.length) (f :: G) ord)) ≠ ([], 9) := hgo
   by_cases hl : (fr0 x out.length).left = 0
   ·have hn0 : need x = 0 := by
     rw [← slots_fr0 x out.length, slots, hl]
     simp
    rw [tops, if_pos hl, show (fr0 x out.length).p0 = out.length from rfl, ends_cons, drop_put] at hgo
    have hI := Its.node hh (by rw [hn0]; rfl) .nil .nil
    rw [List.flatten_nil, List.append_nil, List.append_nil] at hI
    exact first _ [] _ _ r _ _ _ rfl hI (fun y hy => by cases hy) hgo
   ·rw [tops_live hl] at hgo
    obtain ⟨d, K, MK, oK, r1, hr, hK, hIK, hMK, hallK⟩ := gd_inv m r (fr0 x out.length) (f :: G) _ _ _ S (by omega) hbr hl (fun h4 => by cases h4) hgo
    have h5 := hIK.tellsD hallK hK (fr0 x out.length) (f :: G) (out ++ hdN x.kind x.num) (max dp ((f :: G).length + 1)) ord r1 (by omega) (fun h4 => by cases h4)
    rw [← hr] at h5
    have hgo2 : gd txt r ⟨out ++ hdN x.kind x.num, fr0 x out.length :: f :: G, max dp ((f :: G).length + 1), false, ord⟩ ≠ ([], 9) := hgo
    rw [h5] at hgo2
    clear hgo
    have hgo := hgo2
    have hz : (advs (fr0 x out.length) MK).left = 0 := by
     have h3 := slots_advs MK (fr0 x out.length) (by omega)
     exact slots_zero (by omega) (wfF_advs MK _ (fun h4 => by cases h4) (by omega))
    rw [tops, if_pos hz, advs_p0, show (fr0 x out.length).p0 = out.length from rfl, ends_cons, List.append_assoc, drop_put] at hgo
    have hI := Its.node hh (by rw [hMK, slots_fr0]) hIK .nil
    rw [List.append_nil] at hI
    exact first _ K _ _ r1 _ _ _ hr hI hallK hgo
theorem gd_tree {l : List Ra} (hb : ∀ a ∈ l, a.num < 18446744073709551616 ∧ a.text.length < 18446744073709551616) (h : gd txt l ini ≠ ([], 9)) : ∃ d N B o, l = N.map up ∧ Its d N [B] o ∧ ∀ a ∈ N, okA txt a := by
 cases l with
 | nil => exact absurd rfl h
 | cons a r =>
  have hbr : ∀ x ∈ r, x.num < 18446744073709551616 ∧ x.text.length < 18446744073709551616 := fun x hx => hb x (List.mem_cons_of_mem _ hx)
  have hR : rightR txt a = true := by
   cases hq : rightR txt a with
   | true => rfl
   | false => exact absurd (by rw [gd, if_pos (.inr hq)]) h
  obtain ⟨hok, hup⟩ := okA_dn (hb a (List.mem_cons_self ..)).1 (hb a (List.mem_cons_self ..)).2 hR
  obtain ⟨x, hx⟩ : ∃ x, dn a = x := ⟨_, rfl⟩
  rw [hx] at hok hup
  subst hup
  have hnil : ∀ (r1 : List Ra) (t : Tl), t.done = true → gd txt r1 t ≠ ([], 9) → r1 = [] := fun r1 t ht h1 => by
   cases r1 with
   | nil => rfl
   | cons y r1 => exact absurd (by rw [gd, if_pos (.inl ht)]) h1
  have one : ∀ (d : Nat) (K : List Am) (B : List UInt8) (o : Bool) (r1 : List Ra), r = K.map up ++ r1 → Its d (x :: K) [B] o → (∀ y ∈ K, okA txt y) → ∃ d N B o, up x :: r = N.map up ∧ Its d N [B] o ∧ ∀ a ∈ N, okA txt a := fun d K B o r1 hr hI hK => by
   have hallx : ∀ y ∈ x :: K, okA txt y := fun y hy => by
    rcases List.mem_cons.1 hy with rfl | hy
    ·exact hok
    ·exact hK y hy
   have h2 := hI.tellsOneD hallx r1
   rw [List.map_cons, List.cons_append, ← hr] at h2
   rw [h2] at h
   have := hnil _ _ rfl h
   subst this
   exact ⟨d, x :: K, B, o, by rw [hr, List.append_nil]; rfl, hI, hallx⟩
  cases hh : holds x.kind with
  | false => exact one 0 [] (tell x) true r rfl (.leaf hh .nil) (fun y hy => by cases hy)
  | true =>
   have h' := h
   rw [gd_cons rfl hok, atomT, if_pos hh, outT_head _ hh] at h'
   have h' : gd txt r (mkT ([] ++ hdN x.kind x.num) (max 0 (([] : List Fr).length + 1)) (tops ([] ++ hdN x.kind x.num) (fr0 x 0) [] true)) ≠ ([], 9) := h'
   by_cases hl : (fr0 x 0).left = 0
   ·have hn0 : need x = 0 := by
     rw [← slots_fr0 x 0, slots, hl]
     simp
    have hI := Its.node hh (by rw [hn0]; rfl) .nil .nil
    rw [List.flatten_nil, List.append_nil, List.append_nil] at hI
    exact one _ [] _ _ r rfl hI (fun y hy => by cases hy)
   ·rw [tops_live hl] at h'
    obtain ⟨d, K, MK, oK, r1, hr, hK, hIK, hMK, hallK⟩ := gd_inv (r.length + 1) r (fr0 x 0) [] _ _ _ [] (by omega) hbr hl (fun h4 => by cases h4) h'
    have hI := Its.node hh (by rw [hMK, slots_fr0]) hIK .nil
    rw [List.append_nil] at hI
    exact one _ K _ _ r1 hr hI hallK
end
theorem gd_many {txt : List UInt8 → Bool} {r : List Ra} {f : Fr} {G : List Fr} {out : List UInt8} {dp : Nat} {ord : Bool} (hb : ∀ a ∈ r, a.num < 18446744073709551616 ∧ a.text.length < 18446744073709551616) (hf : wfF f) (h : r.length < slots f) : gd txt r ⟨out, f :: G, dp, false, ord⟩ = ([], 9) := by
 refine Classical.byContradiction fun hne => ?_
 obtain ⟨d, N, M, o, r2, h1, -, h3, h4, -⟩ := gd_inv (r.length + 1) r f G out dp ord [] (Nat.lt_succ_self _) hb (slots_pos (f := f) (by omega)) hf hne
 have h5 := h3.lens
 have h6 := congrArg List.length h1
 rw [lap, List.length_map] at h6
 omega
theorem bhc_gd {txt : List UInt8 → Bool} : ∀ (r : List Ra) (t : Tl) (i : Nat), t.done = false → WG t.G → t.G.length ≤ t.deep → r.length ≤ 4096 → (∀ a ∈ r, a.num < 18446744073709551616 ∧ a.text.length < 18446744073709551616) → (∀ a ∈ r, rightR txt a = true) →
  (∃ t', gd txt r t = finD t' ∧ t'.done = true ∧ bhc (stk t.G) t.deep i r = (((i + r.length : Nat) : Int), t'.deep)) ∨ (gd txt r t = ([], 9) ∧ (bhc (stk t.G) t.deep i r).1 ≠ ((i + r.length : Nat) : Int))
 | [], t, i, hd, hW, hl, hn, hb, hr => .inr ⟨by rw [gd, finD, if_pos hd], by rw [bhc]; show (-1 : Int) ≠ _; omega⟩
 | a :: r, t, i, hd, hW, hl, hn, hb, hr => by
  have ha := hr a (List.mem_cons_self ..)
  have h0 := right_kind ha
  rw [lco] at hn
  have hbr : ∀ x ∈ r, x.num < 18446744073709551616 ∧ x.text.length < 18446744073709551616 := fun x hx => hb x (List.mem_cons_of_mem _ hx)
  obtain ⟨i1, i2, i3, i4, i5⟩ := atom_stk hW hl h0
  rw [gd, if_neg (by rw [hd, ha]; simp), bhc]
  by_cases h5 : holdR a = true ∧ a.kind < 6 ∧ 5000 < a.num
  ·rw [if_pos h5]
   refine .inr ⟨?_, by show (-1 : Int) ≠ _; omega⟩
   have h4 : 4 ≤ a.kind ∧ a.kind ≤ 6 := of_decide_eq_true h5.1
   have hh : holds (dn a).kind = true := by
    rw [holds, decide_eq_true_iff]
    show 4 ≤ a.kind.toNat ∧ a.kind.toNat ≤ 6
    omega
   have hsl : 5000 < slots (fr0 (dn a) t.out.length) := by
    rw [slots_fr0, need, if_neg (by show ¬ a.kind.toNat = 6; omega)]
    have hnum : (dn a).num = a.num := rfl
    split <;> rw [hnum] <;> omega
   rw [atomT, if_pos hh, mkT, tops, if_neg (slots_pos (f := fr0 (dn a) t.out.length) (by omega))]
   exact gd_many hbr (fun h => by cases h) (by omega)
  ·rw [if_neg h5]
   by_cases h6 : pop0 (pushR a (dec1 (stk t.G))) = []
   ·rw [if_pos h6]
    rw [dtr h6] at i1
    cases r with
    | nil => exact .inl ⟨atomT true t (dn a), rfl, i1, by rw [i4]; rfl⟩
    | cons b r =>
     refine .inr ⟨by rw [gd, if_pos (.inl i1)], ?_⟩
     show (i : Int) + 1 ≠ ((i + (a :: b :: r).length : Nat) : Int)
     rw [lco, lco]
     omega
   ·rw [if_neg h6]
    rw [dfa h6] at i1
    have ih := bhc_gd r (atomT true t (dn a)) (i + 1) i1 i3 i5 (by omega) hbr (fun x hx => hr x (List.mem_cons_of_mem _ hx))
    rw [i2, i4] at ih
    rw [lco, show i + (r.length + 1) = i + 1 + r.length by omega]
    exact ih
theorem bhc_tree {txt : List UInt8 → Bool} {l : List Ra} (hl : l.length ≤ 4096) (hb : ∀ a ∈ l, a.num < 18446744073709551616 ∧ a.text.length < 18446744073709551616) (hr : ∀ a ∈ l, rightR txt a = true) (h : (bhc [] 0 0 l).1 = (l.length : Int)) :
  ∃ d N B o, l = N.map up ∧ Its d N [B] o ∧ (∀ a ∈ N, okA txt a) ∧ (bhc [] 0 0 l).2 = d := by
 rcases bhc_gd (txt := txt) l ini 0 rfl (fun f hf => absurd hf List.not_mem_nil) (nle _) hl hb hr with ⟨t', h1, h2, h3⟩ | ⟨h1, h2⟩
 ·obtain ⟨d, N, B, o, rfl, h4, h5⟩ := gd_tree (txt := txt) hb (by rw [h1, finD, if_neg (by rw [h2]; decide)]; intro h9; injection h9 with h9 _; cases h9)
  have h6 := h4.tellsOneD h5 []
  rw [List.append_nil, h1, gd, finD, finD, if_neg (by rw [h2]; decide), if_neg (show ¬ true = false by decide)] at h6
  injection h6 with _ h7
  refine ⟨d, N, B, o, rfl, h4, h5, ?_⟩
  have h8 : bhc [] 0 0 (N.map up) = _ := h3
  rw [h8]
  exact Int.ofNat_inj.1 h7
 ·exact absurd h (by have h9 : (bhc [] 0 0 l).1 ≠ _ := h2; rw [Nat.zero_add] at h9; exact h9)
end Co
end Go.Proofs.YtikgonlhdkknkaaGreatDoor
namespace Go.Proofs.YtikgonlhdkknkaaGreatDoor
namespace Co
open Dr (Rs Lm has lack at0S)
section
variable {txt : List UInt8 → Bool}
theorem go_wrong {b : Bool} : ∀ (r : List Ra) (t : Tl), (∃ a ∈ r, rightR txt a = false) → go txt b r t = ([], 9)
 | [], t, h => by obtain ⟨a, ha, -⟩ := h; cases ha
 | a :: r, t, h => by
  rw [go]
  by_cases h1 : t.done = true ∨ rightR txt a = false
  ·rw [if_pos h1]
  ·rw [if_neg h1]
   obtain ⟨x, hx, hr⟩ := h
   rcases List.mem_cons.1 hx with rfl | hx
   ·exact absurd (.inr hr) h1
   ·exact go_wrong r _ ⟨x, hx, hr⟩
theorem enc_wrong {l : List Ra} (hl : l.length ≤ 4096) (h : ∃ a ∈ l, rightR txt a = false) : enc txt l = ([], 9) := by
 rw [enc, if_neg (by omega)]
 exact go_wrong l ini h
theorem enc_notree {l : List Ra} (hl : l.length ≤ 4096) (hb : ∀ a ∈ l, a.num < 18446744073709551616 ∧ a.text.length < 18446744073709551616) (hr : ∀ a ∈ l, rightR txt a = true) (h : (bhc [] 0 0 l).1 ≠ (l.length : Int) ∨ l = []) : enc txt l = ([], 9) := by
 rw [enc_eq, if_neg (by omega)]
 rcases h with h | rfl
 ·rcases bhc_go (txt := txt) l ini 0 rfl (fun f hf => absurd hf List.not_mem_nil) (nle _) hl hb hr with ⟨t', h1, h2, h3⟩ | ⟨h1, h2⟩
  ·have h4 : bhc [] 0 0 l = _ := h3
   exact absurd (by rw [h4, Nat.zero_add]) h
  ·exact h1
 ·rfl
end
theorem Its.texts_le {txt : List UInt8 → Bool} {d N M o} (h : Its d N M o) : (∀ a ∈ N, okA txt a) → (N.map fun a => a.text.length).sum ≤ M.flatten.length := by
 have hnil : ∀ a : Am, okA txt a → ¬ (a.kind = 2 ∨ a.kind = 3) → a.text = [] := fun a ha h2 => by
  rcases ha.2.2 with ⟨-, h⟩ | ⟨h, -⟩ | ⟨h, -⟩ | ⟨-, h, -⟩
  ·exact h
  ·exact absurd (.inl h) h2
  ·exact absurd (.inr h) h2
  ·exact h
 induction h with
 | nil => intro _; exact nle _
 | @leaf x d N M o hx h ih =>
  intro hall
  have h1 := ih (fun y hy => hall y (List.mem_cons_of_mem _ hy))
  have h2 : x.text.length ≤ (tell x).length := by
   rw [tell]
   split
   ·rw [lap]; omega
   ·rename_i h3
    rw [hnil x (hall x (List.mem_cons_self ..)) h3]
    exact Nat.zero_le _
  rw [List.map_cons, List.sum_cons, List.flatten_cons, lap]
  omega
 | @node x dK K MK oK d N M o hx hm hK h ihK ih =>
  intro hall
  have h1 := ihK (fun y hy => hall y (List.mem_cons_of_mem _ (List.mem_append_left _ hy)))
  have h2 := ih (fun y hy => hall y (List.mem_cons_of_mem _ (List.mem_append_right _ hy)))
  have h3 := hnil x (hall x (List.mem_cons_self ..)) (holds_not hx)
  rw [List.map_cons, List.sum_cons, List.map_append, List.sum_append, List.flatten_cons, lap, lap, h3, List.length_nil]
  omega
end Co
end Go.Proofs.YtikgonlhdkknkaaGreatDoor
