/- Items, read and told again (layer 17), in plain words: what was read is a forest, told. -/
import Derived.Test.YteanipjgpekncaaDoorCoW
namespace Go.Proofs.YteanipjgpekncaaDoor
set_option linter.unusedVariables false
set_option linter.unusedSimpArgs false
namespace Co
open Dr (Rs Lm has lack at0S)
theorem okF_inv : ∀ (M : List (List UInt8)) (f : Fr), f.pairs = true → f.value = false → okF f M → keysOk M = true ∧ (f.keys = true → ∀ k, M.head? = some k → Op.bytesLess f.last k = true)
  | [], f, _, _, _ => ⟨rfl, fun _ k hk => by cases hk⟩
  | [k], f, hp, hv, h => ⟨rfl, fun hk x hx => by cases hx; exact h.1 hp hv hk⟩
  | k :: v :: r, f, hp, hv, h => by
    obtain ⟨h1, h2⟩ := h
    have e1 : adv f k = { f with keys := true, value := true, last := k } := by rw [adv, if_pos ⟨hp, hv⟩]
    rw [e1] at h2
    obtain ⟨-, h3⟩ := h2
    rw [adv, if_neg (by rintro ⟨-, h4⟩; cases h4)] at h3
    have ih := okF_inv r { f with keys := true, value := false, last := k, left := f.left - 1 } hp rfl h3
    refine ⟨?_, fun hk x hx => by cases hx; exact h1 hp hv hk⟩
    cases r with
    | nil => rfl
    | cons k2 r2 =>
      rw [keysOk, Bool.and_eq_true]
      exact ⟨ih.2 rfl k2 rfl, ih.1⟩
theorem ordA_of {a : Am} {p : Nat} {M : List (List UInt8)} (h : okF (fr0 a p) M) : ordA a.kind M = true := by
  rw [ordA]
  by_cases hk : a.kind = 5
  · rw [(okF_inv M (fr0 a p) (by show decide (a.kind = 5) = true; rw [hk]; rfl) rfl h).1, Bool.or_true]
  · rw [decide_eq_true hk]; rfl
section
variable {S : List UInt8} {L : Lm} {txt : List UInt8 → Bool}
theorem pend_inv {f : Fr} {G : List Fr} {l : List Am} {a p : Nat} {s : St} (h : pendS S Op.bytesLess (f :: G) l a p = .ok s) : s = .loop (adv f (Dr.part S a p) :: G) l p ∧ (f.pairs = true → f.value = false → f.keys = true → Op.bytesLess f.last (Dr.part S a p) = true) := by
  rw [pendS] at h
  rw [adv]
  by_cases h1 : f.pairs = true ∧ f.value = false
  · rw [if_pos h1] at h
    rw [if_pos h1]
    by_cases h2 : f.keys = true ∧ Op.bytesLess f.last (Dr.part S a p) = false
    · rw [if_pos h2] at h; cases h
    · rw [if_neg h2] at h
      cases h
      exact ⟨rfl, fun _ _ hk => by cases hq : Op.bytesLess f.last (Dr.part S a p) with | true => rfl | false => exact absurd ⟨hk, hq⟩ h2⟩
  · rw [if_neg h1] at h
    rw [if_neg h1]
    cases h
    exact ⟨rfl, fun hp hv => absurd ⟨hp, hv⟩ h1⟩
theorem part_tell {p q : Nat} {B : List UInt8} (h : S.drop p = B ++ S.drop q) (hq : p + B.length = q) : Dr.part S p q = B := by
  subst hq
  exact part_of h
/-- one item that holds no others, read -/
theorem leaf_inv {p n : Nat} {a : Am} {q : Nat} (h0 : has S L p = true) (he : headE (S.getD p 0) = 0) (hA : argR S L p = .ok n)
    (h : (∃ x, a = ⟨kindT (S.getD p 0), 0, x⟩ ∧ (kindT (S.getD p 0) = 2 ∨ kindT (S.getD p 0) = 3) ∧ (n = 0 ∨ has S L (p + 1 + widT (S.getD p 0) + n - 1) = true) ∧ (kindT (S.getD p 0) = 3 → txt x = true) ∧ x = Dr.part S (p + 1 + widT (S.getD p 0)) (p + 1 + widT (S.getD p 0) + n) ∧ q = p + 1 + widT (S.getD p 0) + n) ∨
      (a = ⟨kindT (S.getD p 0), n, []⟩ ∧ ¬ (kindT (S.getD p 0) = 2 ∨ kindT (S.getD p 0) = 3) ∧ holds (kindT (S.getD p 0)) = false ∧ q = p + 1 + widT (S.getD p 0))) :
    S.drop p = tell a ++ S.drop q ∧ p + (tell a).length = q ∧ q ≤ S.length ∧ okA txt a ∧ holds a.kind = false := by
  obtain ⟨h1, h2, h3, h4⟩ := argR_inv h0 he hA
  have hk : kindT (S.getD p 0) < 8 := by rw [kindT]; have := (S.getD p 0).toNat_lt; omega
  have hw7 : kindT (S.getD p 0) = 7 → 20 ≤ n ∧ n ≤ 23 := fun h7 => by
    rw [headE] at he
    split at he
    · cases he
    · split at he
      · cases he
      · rename_i _ h8
        have h9 : 20 ≤ infT (S.getD p 0) ∧ infT (S.getD p 0) ≤ 23 := by
          constructor
          · exact Nat.le_of_not_lt fun h => h8 ⟨h7, .inl h⟩
          · exact Nat.le_of_not_lt fun h => h8 ⟨h7, .inr h⟩
        have hw0 : widT (S.getD p 0) = 0 := by rw [widT, if_pos (by omega)]
        rw [argR, hw0] at hA
        have hA2 : (if 0 = 0 then Rs.ok (infT (S.getD p 0)) else _) = Rs.ok n := hA
        rw [if_pos rfl] at hA2
        cases hA2
        exact h9
  generalize S.getD p 0 = t at *
  rcases h with ⟨x, rfl, h23, hh, ht, hx, rfl⟩ | ⟨rfl, h23, hh, rfl⟩
  · have hle : p + 1 + widT t + n ≤ S.length := by
      rcases hh with rfl | hh
      · omega
      · have := (of_decide_eq_true hh : _ < S.length ∧ _ < L.bytes)
        omega
    have hxl : x.length = n := by rw [hx, Dr.part, List.length_take, List.length_drop]; omega
    have hdr : S.drop (p + 1 + widT t) = x ++ S.drop (p + 1 + widT t + n) := by
      rw [hx, Dr.part, show p + 1 + widT t + n - (p + 1 + widT t) = n by omega]
      have := (List.take_append_drop n (S.drop (p + 1 + widT t))).symm
      rw [List.drop_drop] at this
      exact this
    have htl : tell ⟨kindT t, 0, x⟩ = hdN (kindT t) n ++ x := by rw [tell, if_pos h23, hxl]
    refine ⟨by rw [htl, List.append_assoc, ← hdr]; exact h1, by rw [htl, List.length_append, hdN_length, hxl, ← h2]; omega, hle, ⟨by show 0 < _; omega, by show x.length < _; omega, ?_⟩, ?_⟩
    · rcases h23 with h | h
      · exact .inr (.inl ⟨h, rfl⟩)
      · exact .inr (.inr (.inl ⟨h, rfl, ht h⟩))
    · rcases h23 with h | h <;> (show holds (kindT t) = false; rw [h]; rfl)
  · have htl : tell ⟨kindT t, n, []⟩ = hdN (kindT t) n := by rw [tell, if_neg h23]
    refine ⟨by rw [htl]; exact h1, by rw [htl, hdN_length, ← h2]; omega, h4, ⟨h3, by show 0 < _; omega, ?_⟩, hh⟩
    have hnh : ¬ (4 ≤ kindT t ∧ kindT t ≤ 6) := of_decide_eq_false hh
    rcases (by omega : kindT t = 0 ∨ kindT t = 1 ∨ kindT t = 7) with h | h | h
    · exact .inl ⟨.inl h, rfl⟩
    · exact .inl ⟨.inr (.inl h), rfl⟩
    · exact .inr (.inr (.inr ⟨h, rfl, hw7 h⟩))
/-- what reading told, when the rest of a frame was read -/
structure Told (S : List UInt8) (L : Lm) (txt : List UInt8 → Bool) (f : Fr) (G : List Fr) (l0 : List Am) (p : Nat) (L' : List Am) : Prop where
  out : ∃ d N M q, Its d N M true ∧ (∀ a ∈ N, okA txt a) ∧ M.length = slots f ∧ S.drop p = M.flatten ++ S.drop q ∧ p + M.flatten.length = q ∧ q ≤ S.length ∧ (d = 0 ∨ G.length + 1 + d ≤ L.depth) ∧ okF f M ∧
    Runs S L txt Op.bytesLess (.loop (advs f M :: G) (l0 ++ N) q) (.ok L')
theorem tell_pos (a : Am) : 1 ≤ (tell a).length := by
  rw [tell]
  split
  · rw [List.length_append, hdN_length]; omega
  · rw [hdN_length]; omega
theorem fr_hold {t : UInt8} {n p : Nat} : (⟨p, if kindT t = 6 then 1 else n, decide (kindT t = 5), false, false, []⟩ : Fr) = fr0 ⟨kindT t, n, []⟩ p := rfl
theorem advs_cons (f : Fr) (B : List UInt8) (M : List (List UInt8)) : advs f (B :: M) = advs (adv f B) M := rfl
theorem Runs.tell : ∀ (m : Nat) (f : Fr) (G : List Fr) (l0 : List Am) (p : Nat) (L' : List Am), S.length - p < m → p ≤ S.length → wfF f → Runs S L txt Op.bytesLess (.loop (f :: G) l0 p) (.ok L') → Told S L txt f G l0 p L'
  | 0, f, G, l0, p, L', hm, _, _, _ => absurd hm (by omega)
  | m + 1, f, G, l0, p, L', hm, hp, hwf, hr => by
    by_cases hl : f.left = 0
    · have hv : f.value = false := by
        cases hv : f.value with
        | false => rfl
        | true => have := hwf hv; omega
      refine ⟨0, [], [], p, .nil, (fun a ha => by cases ha), ?_, rfl, rfl, hp, .inl rfl, trivial, ?_⟩
      · rw [slots, hl, hv]; simp
      · rw [List.append_nil]; exact hr
    · have hs1 : loopS f G l0 p = .el (f :: G) l0 p := by rw [loopS, if_neg hl]
      have hsl : 1 ≤ slots f := by
        rw [slots]
        split
        · split <;> omega
        · omega
      have hr1 : Runs S L txt Op.bytesLess (.el (f :: G) l0 p) (.ok L') := by
        cases hr with
        | loop h => rw [hs1] at h; exact h
      -- one item has ended
      have step : ∀ (d0 : Nat) (N0 : List Am) (B : List UInt8) (a q : Nat) (l1 : List Am), a = p → l1 = l0 ++ N0 → Its d0 N0 [B] true → (∀ a ∈ N0, okA txt a) → S.drop p = B ++ S.drop q → p + B.length = q → 1 ≤ B.length → q ≤ S.length → (d0 = 0 ∨ G.length + 1 + d0 ≤ L.depth) →
          Runs S L txt Op.bytesLess (.pend (f :: G) l1 a q) (.ok L') → Told S L txt f G l0 p L' := fun d0 N0 B a q l1 ha hl1 hI hall hS hq hB hqS hd h => by
        subst ha hl1
        generalize hR : (Rs.ok L' : Rs (List Am)) = R at h
        cases h with
        | pendNo h => cases hR
        | pend h9 h10 =>
          subst hR
          obtain ⟨rfl, hord⟩ := pend_inv h9
          rw [part_tell hS hq] at h10 hord
          have hq1 := Runs.tell m (adv f B) G (l0 ++ N0) q L' (by omega) hqS (wfF_adv B hsl) h10
          obtain ⟨d, N, M, q2, hE, hall2, hM, hS2, hq2, hqS2, hd2, hO, hrun⟩ := hq1.out
          have hI2 := hI.append hE
          rw [Bool.true_and] at hI2
          refine ⟨_, _, _, q2, hI2, ?_, ?_, ?_, ?_, hqS2, ?_, ⟨hord, hO⟩, ?_⟩
          · intro x hx
            rcases List.mem_append.1 hx with h | h
            · exact hall x h
            · exact hall2 x h
          · have h11 := (slots_adv f B hsl).1
            rw [List.singleton_append, List.length_cons]; omega
          · rw [List.singleton_append, List.flatten_cons, List.append_assoc, ← hS2]; exact hS
          · rw [List.singleton_append, List.flatten_cons, List.length_append]; omega
          · omega
          · rw [List.singleton_append, advs_cons, ← List.append_assoc]; exact hrun
      generalize hR : (Rs.ok L' : Rs (List Am)) = R at hr1
      cases hr1 with
      | elNo h => cases hR
      | @el _ _ _ s _ h2 h3 =>
        subst hR
        obtain ⟨h0, hi, he, n, hA, hE⟩ := elS_ok h2
        cases hE with
        | text h23 hh ht =>
          obtain ⟨g1, g2, g3, g4, g5⟩ := leaf_inv (txt := txt) h0 he hA (.inl ⟨_, rfl, h23, hh, ht, rfl, rfl⟩)
          refine step 0 [_] _ p _ _ rfl rfl (.leaf g5 .nil) ?_ g1 g2 (tell_pos _) g3 (.inl rfl) h3
          intro a ha
          rw [List.mem_singleton.1 ha]
          exact g4
        | plain h23 hh =>
          obtain ⟨g1, g2, g3, g4, g5⟩ := leaf_inv (txt := txt) h0 he hA (.inr ⟨rfl, h23, hh, rfl⟩)
          refine step 0 [_] _ p _ _ rfl rfl (.leaf g5 .nil) ?_ g1 g2 (tell_pos _) g3 (.inl rfl) h3
          intro a ha
          rw [List.mem_singleton.1 ha]
          exact g4
        | hold hh hd =>
          obtain ⟨h1, h4, h5, h6⟩ := argR_inv h0 he hA
          have hq0 := Runs.tell m (fr0 ⟨kindT (S.getD p 0), n, []⟩ p) (f :: G) (l0 ++ [({ kind := kindT (S.getD p 0), num := n, text := [] } : Am)]) (p + 1 + widT (S.getD p 0)) L' (by omega) h6 (fun h => by cases h) h3
          obtain ⟨dK, K, MK, q, hEK, hallK, hMK, hSK, hqK, hqS, hdK, hOK, hrun⟩ := hq0.out
          have hz : (advs (fr0 ⟨kindT (S.getD p 0), n, []⟩ p) MK).left = 0 := by
            have h3 := slots_advs MK (fr0 ⟨kindT (S.getD p 0), n, []⟩ p) (by omega)
            exact slots_zero (by omega) (wfF_advs MK _ (fun h4 => by cases h4) (by omega))
          have hrun2 : Runs S L txt Op.bytesLess (.pend (f :: G) (l0 ++ [⟨kindT (S.getD p 0), n, []⟩] ++ K) p q) (.ok L') := by
            cases hrun with
            | loop h => rw [loopS, if_pos hz, advs_p0] at h; exact h
          have hI := Its.node (a := ⟨kindT (S.getD p 0), n, []⟩) hh (by rw [hMK, slots_fr0]) hEK .nil
          rw [ordA_of hOK, List.append_nil] at hI
          refine step _ _ _ p q _ rfl (by rw [List.append_assoc]; rfl) hI ?_ ?_ ?_ ?_ hqS ?_ hrun2
          · intro a ha
            rcases List.mem_cons.1 ha with rfl | ha
            · have hk : 4 ≤ kindT (S.getD p 0) ∧ kindT (S.getD p 0) ≤ 6 := of_decide_eq_true hh
              exact ⟨h5, by show 0 < _; omega, .inl ⟨by dsimp only; omega, rfl⟩⟩
            · exact hallK a ha
          · rw [List.append_assoc, ← hSK]; exact h1
          · rw [List.length_append, hdN_length]; dsimp only; omega
          · rw [List.length_append, hdN_length]; omega
          · rw [List.length_cons] at hd hdK
            rcases hdK with h | h <;> omega
theorem loop_end {N l : List Am} {x : Nat} (h : Runs S L txt Op.bytesLess (.loop [] N x) (.ok l)) : S.length ≤ x ∧ N = l := by
  generalize hR : (Rs.ok l : Rs (List Am)) = R at h
  cases h with
  | fin =>
    have := fin_ok hR.symm
    exact ⟨by omega, this.1⟩
theorem pend_end {N l : List Am} {a x : Nat} (h : Runs S L txt Op.bytesLess (.pend [] N a x) (.ok l)) : S.length ≤ x ∧ N = l := by
  generalize hR : (Rs.ok l : Rs (List Am)) = R at h
  cases h with
  | pendNo h => cases hR
  | pend h9 h10 =>
    subst hR
    cases h9
    exact loop_end h10
/-- what a whole text was, when it was read -/
theorem Runs.tellOne {l : List Am} (hr : Runs S L txt Op.bytesLess (.el [] [] 0) (.ok l)) : ∃ d, Its d l [S] true ∧ (∀ a ∈ l, okA txt a) ∧ d ≤ L.depth := by
  generalize hR : (Rs.ok l : Rs (List Am)) = R at hr
  cases hr with
  | elNo h => cases hR
  | @el _ _ _ s _ h2 h3 =>
    subst hR
    obtain ⟨h0, hi, he, n, hA, hE⟩ := elS_ok h2
    cases hE with
    | text h23 hh ht =>
      obtain ⟨g1, g2, g3, g4, g5⟩ := leaf_inv (txt := txt) h0 he hA (.inl ⟨_, rfl, h23, hh, ht, rfl, rfl⟩)
      obtain ⟨h8, rfl⟩ := pend_end h3
      rw [List.drop_eq_nil_of_le h8, List.append_nil, List.drop_zero] at g1
      have hI := Its.leaf g5 .nil
      rw [← g1] at hI
      exact ⟨0, hI, fun a ha => by rw [List.mem_singleton.1 ha]; exact g4, Nat.zero_le _⟩
    | plain h23 hh =>
      obtain ⟨g1, g2, g3, g4, g5⟩ := leaf_inv (txt := txt) h0 he hA (.inr ⟨rfl, h23, hh, rfl⟩)
      obtain ⟨h8, rfl⟩ := pend_end h3
      rw [List.drop_eq_nil_of_le h8, List.append_nil, List.drop_zero] at g1
      have hI := Its.leaf g5 .nil
      rw [← g1] at hI
      exact ⟨0, hI, fun a ha => by rw [List.mem_singleton.1 ha]; exact g4, Nat.zero_le _⟩
    | hold hh hd =>
      obtain ⟨h1, h4, h5, h6⟩ := argR_inv h0 he hA
      have hq0 := Runs.tell (S.length + 1) (fr0 ⟨kindT (S.getD 0 0), n, []⟩ 0) [] ([] ++ [({ kind := kindT (S.getD 0 0), num := n, text := [] } : Am)]) (0 + 1 + widT (S.getD 0 0)) l (by omega) h6 (fun h => by cases h) h3
      obtain ⟨dK, K, MK, q, hEK, hallK, hMK, hSK, hqK, hqS, hdK, hOK, hrun⟩ := hq0.out
      have hz : (advs (fr0 ⟨kindT (S.getD 0 0), n, []⟩ 0) MK).left = 0 := by
        have h3 := slots_advs MK (fr0 ⟨kindT (S.getD 0 0), n, []⟩ 0) (by omega)
        exact slots_zero (by omega) (wfF_advs MK _ (fun h4 => by cases h4) (by omega))
      have hrun2 : Runs S L txt Op.bytesLess (.pend [] ([] ++ [⟨kindT (S.getD 0 0), n, []⟩] ++ K) 0 q) (.ok l) := by
        cases hrun with
        | loop h => rw [loopS, if_pos hz, advs_p0] at h; exact h
      obtain ⟨h8, rfl⟩ := pend_end hrun2
      have hI := Its.node (a := ⟨kindT (S.getD 0 0), n, []⟩) hh (by rw [hMK, slots_fr0]) hEK .nil
      rw [ordA_of hOK, List.append_nil] at hI
      have hB : S.drop 0 = (hdN (kindT (S.getD 0 0)) n ++ MK.flatten) ++ S.drop q := by rw [List.append_assoc, ← hSK]; exact h1
      rw [List.drop_eq_nil_of_le h8, List.append_nil, List.drop_zero] at hB
      refine ⟨_, (by have h9 := hI; rw [show (hdN (⟨kindT (S.getD 0 0), n, []⟩ : Am).kind (⟨kindT (S.getD 0 0), n, []⟩ : Am).num ++ MK.flatten) = S from hB.symm] at h9; exact h9), ?_, ?_⟩
      · intro a ha
        rcases List.mem_cons.1 ha with rfl | ha
        · have hk : 4 ≤ kindT (S.getD 0 0) ∧ kindT (S.getD 0 0) ≤ 6 := of_decide_eq_true hh
          exact ⟨h5, by show 0 < _; omega, .inl ⟨by dsimp only; omega, rfl⟩⟩
        · exact hallK a ha
      · rw [List.length_nil] at hd hdK
        rcases hdK with h | h <;> omega
end
end Co
end Go.Proofs.YteanipjgpekncaaDoor
