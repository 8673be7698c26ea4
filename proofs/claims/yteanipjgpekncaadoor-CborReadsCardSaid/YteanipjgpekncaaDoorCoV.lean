/- Items, told and read again (layer 17), in plain words. -/
import Derived.Test.YteanipjgpekncaaDoorCoU
namespace Go.Proofs.YteanipjgpekncaaDoor
set_option linter.unusedVariables false
set_option linter.unusedSimpArgs false
namespace Co
open Dr (Rs Lm has lack at0S)
def adv (f : Fr) (B : List UInt8) : Fr := if f.pairs = true ∧ f.value = false then { f with keys := true, value := true, last := B } else { f with value := false, left := f.left - 1 }
def advs (f : Fr) (M : List (List UInt8)) : Fr := M.foldl adv f
def slots (f : Fr) : Nat := if f.pairs = true then 2 * f.left - (if f.value = true then 1 else 0) else f.left
/-- each key comes behind the one ahead -/
def okF : Fr → List (List UInt8) → Prop
  | _, [] => True
  | f, B :: M => (f.pairs = true → f.value = false → f.keys = true → Op.bytesLess f.last B = true) ∧ okF (adv f B) M
theorem advs_p0 (M : List (List UInt8)) : ∀ f : Fr, (advs f M).p0 = f.p0 := by
  induction M with
  | nil => intro f; rfl
  | cons B M ih =>
    intro f
    show (advs (adv f B) M).p0 = _
    rw [ih, adv]
    split <;> rfl
theorem slots_adv (f : Fr) (B : List UInt8) (h : 1 ≤ slots f) : slots (adv f B) + 1 = slots f ∧ f.left ≠ 0 := by
  rw [slots] at h ⊢
  rw [adv, slots]
  cases hp : f.pairs <;> cases hv : f.value <;> simp [hp, hv] at h ⊢ <;> omega
theorem slots_advs (M : List (List UInt8)) : ∀ f : Fr, M.length ≤ slots f → slots (advs f M) + M.length = slots f := by
  induction M with
  | nil => intro f _; rfl
  | cons B M ih =>
    intro f h
    rw [List.length_cons] at h ⊢
    have h1 := (slots_adv f B (by omega)).1
    have h2 := ih (adv f B) (by omega)
    show slots (advs (adv f B) M) + _ = _
    omega
theorem slots_zero {f : Fr} (h : slots f = 0) (hv : f.value = true → 0 < f.left) : f.left = 0 := by
  rw [slots] at h
  cases hp : f.pairs <;> cases hw : f.value <;> simp [hp, hw] at h hv <;> omega
section
variable {S : List UInt8} {L : Lm} {txt : List UInt8 → Bool}
theorem pend_ok {f : Fr} {G : List Fr} {l : List Am} {a p : Nat} {B : List UInt8} (h : f.pairs = true → f.value = false → f.keys = true → Op.bytesLess f.last B = true) (hB : Dr.part S a p = B) : pendS S Op.bytesLess (f :: G) l a p = .ok (.loop (adv f B :: G) l p) := by
  rw [pendS, hB, adv]
  by_cases h1 : f.pairs = true ∧ f.value = false
  · rw [if_pos h1, if_pos h1, if_neg]
    rintro ⟨h2, h3⟩
    rw [h h1.1 h1.2 h2] at h3
    cases h3
  · rw [if_neg h1, if_neg h1]
/-- an atom that is right -/
def okA (txt : List UInt8 → Bool) (a : Am) : Prop := a.num < 18446744073709551616 ∧ a.text.length < 18446744073709551616 ∧
  (((a.kind = 0 ∨ a.kind = 1 ∨ a.kind = 4 ∨ a.kind = 5 ∨ a.kind = 6) ∧ a.text = []) ∨ (a.kind = 2 ∧ a.num = 0) ∨ (a.kind = 3 ∧ a.num = 0 ∧ txt a.text = true) ∨ (a.kind = 7 ∧ a.text = [] ∧ 20 ≤ a.num ∧ a.num ≤ 23))
theorem head_ok {t : UInt8} {k n : Nat} (h1 : kindT t = k) (h2 : infT t = infN n) (h : k = 7 → 20 ≤ n ∧ n ≤ 23) : headE t = 0 := by
  have h3 := infN_lt n
  rw [headE, h1, h2, if_neg (by omega), if_neg]
  rintro ⟨h4, h5⟩
  have h6 := h h4
  have h7 : infN n = n := by rw [infN, if_pos (by omega)]
  omega
theorem elS_leaf (hb : S.length ≤ L.bytes) {G : List Fr} {l : List Am} {p : Nat} {a : Am} {R : List UInt8} (hS : S.drop p = tell a ++ R) (ha : okA txt a) (hh : holds a.kind = false) (hi : l.length < L.items) : elS S L txt G l p = .ok (.pend G (l ++ [a]) p (p + (tell a).length)) := by
  obtain ⟨h1, h2, h3⟩ := ha
  obtain ⟨k, n, x⟩ := a
  have hk : k < 8 := by rcases h3 with ⟨h, -⟩ | ⟨h, -⟩ | ⟨h, -⟩ | ⟨h, -⟩ <;> (dsimp only at h; omega)
  dsimp only at h1 h2 h3 hh hk
  have hl := congrArg List.length hS
  rw [List.length_drop, List.length_append] at hl
  by_cases h23 : k = 2 ∨ k = 3
  · have ht : tell ⟨k, n, x⟩ = hdN k x.length ++ x := by rw [tell, if_pos h23]
    have hn : n = 0 := by rcases h3 with ⟨h, -⟩ | ⟨-, h⟩ | ⟨-, h, -⟩ | ⟨h, -⟩ <;> omega
    subst hn
    rw [ht, List.length_append, hdN_length] at hl
    rw [ht, List.append_assoc] at hS
    rw [ht, List.length_append, hdN_length]
    obtain ⟨g1, g2, g3, g4⟩ := argR_tell hk h2 hS hb
    have hd := drop_more hS
    rw [hdN_length] at hd
    have hpt := part_of hd
    have hq : p + 1 + widT (S.getD p 0) = p + (widN x.length + 1) := by rw [g4]; omega
    have h0 : has S L p = true := decide_eq_true ⟨by omega, by omega⟩
    have hE := ElOk.text (S := S) (L := L) (txt := txt) (G := G) (l := l) (p := p) (n := x.length) (by rw [g2]; exact h23) (by
      by_cases h9 : x.length = 0
      · exact .inl h9
      · exact .inr (decide_eq_true ⟨by omega, by omega⟩)) (by
      rw [g2, hq, hpt]
      intro h9
      rcases h3 with ⟨h, -⟩ | ⟨h, -⟩ | ⟨-, -, h⟩ | ⟨h, -⟩
      · omega
      · omega
      · exact h
      · omega)
    rw [g2, hq, hpt, Nat.add_assoc] at hE
    exact elS_mk h0 hi (head_ok g2 g3 (fun h => by omega)) g1 hE
  · have ht : tell ⟨k, n, x⟩ = hdN k n := by rw [tell, if_neg h23]
    have hx : x = [] := by
      rcases h3 with ⟨-, h⟩ | ⟨h, -⟩ | ⟨h, -⟩ | ⟨-, h, -⟩
      · exact h
      · exact absurd (.inl h) h23
      · exact absurd (.inr h) h23
      · exact h
    subst hx
    rw [ht, hdN_length] at hl
    rw [ht] at hS
    rw [ht, hdN_length]
    obtain ⟨g1, g2, g3, g4⟩ := argR_tell hk h1 hS hb
    have hq : p + 1 + widT (S.getD p 0) = p + (widN n + 1) := by rw [g4]; omega
    have h0 : has S L p = true := decide_eq_true ⟨by omega, by omega⟩
    have hE := ElOk.plain (S := S) (L := L) (txt := txt) (G := G) (l := l) (p := p) (n := n) (by rw [g2]; exact h23) (by rw [g2]; exact hh)
    rw [g2, hq] at hE
    exact elS_mk h0 hi (head_ok g2 g3 (fun h => by rcases h3 with ⟨h9, -⟩ | ⟨h9, -⟩ | ⟨h9, -⟩ | ⟨-, -, h9⟩ <;> omega)) g1 hE
def fr0 (a : Am) (p : Nat) : Fr := ⟨p, if a.kind = 6 then 1 else a.num, decide (a.kind = 5), false, false, []⟩
theorem elS_node (hb : S.length ≤ L.bytes) {G : List Fr} {l : List Am} {p : Nat} {a : Am} {R : List UInt8} (hS : S.drop p = hdN a.kind a.num ++ R) (ha : okA txt a) (hh : holds a.kind = true) (hi : l.length < L.items) (hd : G.length < L.depth) : elS S L txt G l p = .ok (.loop (fr0 a p :: G) (l ++ [a]) (p + (hdN a.kind a.num).length)) := by
  obtain ⟨h1, h2, h3⟩ := ha
  obtain ⟨k, n, x⟩ := a
  dsimp only at h1 h2 h3 hh hS ⊢
  have hk : 4 ≤ k ∧ k ≤ 6 := of_decide_eq_true hh
  have hx : x = [] := by rcases h3 with ⟨-, h⟩ | ⟨h, -⟩ | ⟨h, -⟩ | ⟨h, -⟩ <;> first | exact h | omega
  subst hx
  have hl := congrArg List.length hS
  rw [List.length_drop, List.length_append, hdN_length] at hl
  rw [hdN_length]
  obtain ⟨g1, g2, g3, g4⟩ := argR_tell (by omega) h1 hS hb
  have hq : p + 1 + widT (S.getD p 0) = p + (widN n + 1) := by rw [g4]; omega
  have h0 : has S L p = true := decide_eq_true ⟨by omega, by omega⟩
  have hE := ElOk.hold (S := S) (L := L) (txt := txt) (G := G) (l := l) (p := p) (n := n) (by rw [g2]; exact hh) hd
  rw [g2, hq] at hE
  exact elS_mk h0 hi (head_ok g2 g3 (fun h => by omega)) g1 hE
theorem okF_np : ∀ (M : List (List UInt8)) (f : Fr), f.pairs = false → okF f M
  | [], _, _ => trivial
  | B :: M, f, h => ⟨(fun h1 => by rw [h] at h1; cases h1), okF_np M _ (by rw [adv, if_neg (by rw [h]; simp)]; exact h)⟩
theorem okF_keys : ∀ (M : List (List UInt8)) (f : Fr), f.pairs = true → f.value = false → (f.keys = true → ∀ k, M.head? = some k → Op.bytesLess f.last k = true) → keysOk M = true → okF f M
  | [], _, _, _, _, _ => trivial
  | [k], f, hp, hv, hl, _ => ⟨fun _ _ hk => hl hk k rfl, trivial⟩
  | k :: v :: r, f, hp, hv, hl, ho => by
    refine ⟨fun _ _ hk => hl hk k rfl, ?_⟩
    have h1 : adv f k = { f with keys := true, value := true, last := k } := by rw [adv, if_pos ⟨hp, hv⟩]
    rw [h1]
    refine ⟨(fun _ h2 => by cases h2), ?_⟩
    rw [adv, if_neg (by rintro ⟨-, h2⟩; cases h2)]
    refine okF_keys r _ hp rfl (fun _ k2 hk2 => ?_) ?_
    · cases r with
      | nil => cases hk2
      | cons y r =>
        rw [keysOk, Bool.and_eq_true] at ho
        cases hk2
        exact ho.1
    · cases r with
      | nil => rfl
      | cons y r => rw [keysOk, Bool.and_eq_true] at ho; exact ho.2
theorem okF_fr0 {a : Am} {p : Nat} {M : List (List UInt8)} (h : ordA a.kind M = true) : okF (fr0 a p) M := by
  by_cases hk : a.kind = 5
  · rw [ordA, hk] at h
    exact okF_keys M _ (by show decide (a.kind = 5) = true; rw [hk]; rfl) rfl (fun h1 => by cases h1) (by simpa using h)
  · exact okF_np M _ (decide_eq_false hk)
theorem slots_fr0 (a : Am) (p : Nat) : slots (fr0 a p) = need a := by
  rw [slots, fr0, need]
  by_cases h6 : a.kind = 6
  · rw [h6]; rfl
  · by_cases h5 : a.kind = 5
    · rw [h5]; simp
    · simp [h5, h6]
def wfF (f : Fr) : Prop := f.value = true → 0 < f.left
theorem wfF_adv {f : Fr} (B : List UInt8) (h : 1 ≤ slots f) : wfF (adv f B) := by
  have h1 := (slots_adv f B h).2
  rw [adv]
  split
  · intro _; show 0 < f.left; omega
  · intro h2; cases h2
theorem wfF_advs : ∀ (M : List (List UInt8)) (f : Fr), wfF f → M.length ≤ slots f → wfF (advs f M)
  | [], _, h, _ => h
  | B :: M, f, h, hl => by
    rw [List.length_cons] at hl
    have h1 := (slots_adv f B (by omega)).1
    exact wfF_advs M (adv f B) (wfF_adv B (by omega)) (by omega)
/-- a forest is read -/
theorem Its.read (hb : S.length ≤ L.bytes) {d N M o} (h : Its d N M o) : o = true → (∀ a ∈ N, okA txt a) → ∀ (f : Fr) (G : List Fr) (l0 : List Am) (p : Nat) (R : List UInt8), S.drop p = M.flatten ++ R → M.length ≤ slots f → okF f M →
    l0.length + N.length ≤ L.items → G.length + 1 + d ≤ L.depth → ∀ r, Runs S L txt Op.bytesLess (.loop (advs f M :: G) (l0 ++ N) (p + M.flatten.length)) r → Runs S L txt Op.bytesLess (.loop (f :: G) l0 p) r := by
  induction h with
  | nil =>
    intro _ _ f G l0 p R hS hs hO hi hd r hr
    rw [List.append_nil] at hr
    exact hr
  | @leaf a d N M o hn h ih =>
    intro ho hall f G l0 p R hS hs hO hi hd r hr
    rw [List.flatten_cons] at hS hr
    rw [List.append_assoc] at hS
    rw [List.length_append] at hr
    rw [List.length_cons] at hi hs
    have hsl := slots_adv f (tell a) (by omega)
    have h1 := elS_leaf (G := f :: G) (l := l0) hb hS (hall a (List.mem_cons_self ..)) hn (by omega)
    have hB := part_of hS
    have h2 := drop_more hS
    have hs1 : loopS f G l0 p = .el (f :: G) l0 p := by rw [loopS, if_neg hsl.2]
    refine Runs.loop ?_
    rw [hs1]
    refine Runs.el h1 (Runs.pend (pend_ok hO.1 hB) (ih ho (fun x hx => hall x (List.mem_cons_of_mem _ hx)) (adv f (tell a)) G (l0 ++ [a]) (p + (tell a).length) R h2 (by omega) hO.2 (by rw [List.length_append]; simp; omega) hd r ?_))
    rw [List.append_assoc, Nat.add_assoc p]
    exact hr
  | @node a dK K MK oK d N M o hn hm hK h ihK ih =>
    intro ho hall f G l0 p R hS hs hO hi hd r hr
    rw [Bool.and_eq_true, Bool.and_eq_true] at ho
    rw [List.flatten_cons] at hS hr
    rw [List.append_assoc] at hS
    rw [List.length_append] at hr
    rw [List.length_cons] at hs
    rw [List.length_cons, List.length_append] at hi
    have hsl := slots_adv f (hdN a.kind a.num ++ MK.flatten) (by omega)
    have hB := part_of hS
    have h2 := drop_more hS
    have hS2 := hS
    rw [List.append_assoc] at hS2
    have h1 := elS_node (G := f :: G) (l := l0) hb hS2 (hall a (List.mem_cons_self ..)) hn (by omega) (by rw [List.length_cons]; omega)
    have hin := drop_more hS2
    have hs1 : loopS f G l0 p = .el (f :: G) l0 p := by rw [loopS, if_neg hsl.2]
    refine Runs.loop ?_
    rw [hs1]
    refine Runs.el h1 (ihK ho.1.1 (fun x hx => hall x (List.mem_cons_of_mem _ (List.mem_append_left _ hx))) (fr0 a p) (f :: G) (l0 ++ [a]) _ _ hin (by rw [slots_fr0, hm]; exact Nat.le_refl _) (okF_fr0 ho.1.2) (by rw [List.length_append]; simp; omega) (by rw [List.length_cons]; omega) r ?_)
    have hz : (advs (fr0 a p) MK).left = 0 := by
      have h3 := slots_advs MK (fr0 a p) (by rw [slots_fr0, hm]; exact Nat.le_refl _)
      rw [slots_fr0, hm] at h3
      exact slots_zero (by omega) (wfF_advs MK _ (fun h4 => by cases h4) (by rw [slots_fr0, hm]; exact Nat.le_refl _))
    refine Runs.loop ?_
    rw [loopS, if_pos hz, advs_p0]
    have hpl : p + (hdN a.kind a.num).length + MK.flatten.length = p + (hdN a.kind a.num ++ MK.flatten).length := by rw [List.length_append]; omega
    rw [hpl]
    refine Runs.pend (pend_ok hO.1 hB) (ih ho.2 (fun x hx => hall x (List.mem_cons_of_mem _ (List.mem_append_right _ hx))) (adv f (hdN a.kind a.num ++ MK.flatten)) G (l0 ++ [a] ++ K) _ R h2 (by omega) hO.2 (by rw [List.length_append, List.length_append]; simp; omega) (by omega) r ?_)
    rw [List.append_assoc, List.append_assoc, Nat.add_assoc p]
    exact hr
theorem fin_end {l : List Am} {p : Nat} (h : S.length = p) : Runs S L txt Op.bytesLess (.loop [] l p) (.ok l) := by
  have h2 : Co.fin S L l p = .ok l := by rw [Co.fin, if_neg (by omega)]
  rw [← h2]
  exact Runs.fin
/-- one item is read -/
theorem Its.readOne (hb : S.length ≤ L.bytes) {d : Nat} {l : List Am} (h : Its d l [S] true) (hall : ∀ a ∈ l, okA txt a) (hi : l.length ≤ L.items) (hd : d ≤ L.depth) : Runs S L txt Op.bytesLess (.el [] [] 0) (.ok l) := by
  generalize hM : [S] = M at h
  generalize ho : true = o at h
  cases h with
  | nil => cases hM
  | @leaf a d N M o hn h =>
    injection hM with h1 h2
    subst h2
    obtain ⟨rfl, rfl, rfl⟩ := h.none
    have hS : S.drop 0 = tell a ++ [] := by rw [List.append_nil, ← h1]; rfl
    have h3 := elS_leaf (G := []) (l := []) hb hS (hall a (List.mem_cons_self ..)) hn (by rw [List.length_cons] at hi; simp; omega)
    refine Runs.el h3 (Runs.pend rfl (fin_end ?_))
    rw [← h1, Nat.zero_add]
  | @node a dK K MK oK d N M o hn hm hK h =>
    injection hM with h1 h2
    subst h2
    obtain ⟨rfl, rfl, rfl⟩ := h.none
    rw [Bool.and_true] at ho
    have ho2 : (oK && ordA a.kind MK) = true := ho.symm
    rw [Bool.and_eq_true] at ho2
    rw [List.append_nil] at hall hi ⊢
    have hS : S.drop 0 = hdN a.kind a.num ++ MK.flatten := by rw [← h1]; rfl
    have h3 := elS_node (G := []) (l := []) hb hS (hall a (List.mem_cons_self ..)) hn (by rw [List.length_cons] at hi; simp; omega) (by simp; omega)
    have hin := drop_more hS
    rw [Nat.zero_add] at hin
    rw [Nat.zero_add] at h3
    refine Runs.el h3 (Its.read (R := []) hb hK ho2.1 (fun x hx => hall x (List.mem_cons_of_mem _ hx)) (fr0 a 0) [] ([] ++ [a]) _ (by rw [List.append_nil]; exact hin) (by rw [slots_fr0, hm]; exact Nat.le_refl _) (okF_fr0 ho2.2) (by rw [List.length_cons] at hi; simp; omega) (by simp; omega) _ ?_)
    have hz : (advs (fr0 a 0) MK).left = 0 := by
      have h4 := slots_advs MK (fr0 a 0) (by rw [slots_fr0, hm]; exact Nat.le_refl _)
      rw [slots_fr0, hm] at h4
      exact slots_zero (by omega) (wfF_advs MK _ (fun h4 => by cases h4) (by rw [slots_fr0, hm]; exact Nat.le_refl _))
    refine Runs.loop ?_
    rw [loopS, if_pos hz, advs_p0]
    refine Runs.pend rfl (fin_end ?_)
    rw [← List.length_append, ← h1]
end
end Co
end Go.Proofs.YteanipjgpekncaaDoor
