/- Trees, told and read again, in plain words: forests; what is told is read to the list that it was. -/
import Derived.Test.YteglahkgnggmgaaDoorDwB
namespace Go.Proofs.YteglahkgnggmgaaDoor
set_option linter.unusedVariables false
set_option linter.unusedSimpArgs false
open Dr
theorem mod_mid2 (O N : List Nd) (x : Nd) (z : Int) : (O ++ x :: N).modify O.length (fun n => { n with kids := z }) = O ++ { x with kids := z } :: N := by
  induction O with
  | nil => rfl
  | cons a O ih => rw [List.cons_append, List.length_cons, List.modify_succ_cons, ih]; rfl
def ordF (f : Fr) (M : List (List UInt8)) : Prop := f.tag = 0x31 → (if f.kids = 0 then ordL M else ordL (f.last :: M)) = true
theorem ordF_next {f : Fr} {B : List UInt8} {M : List (List UInt8)} (h : ordF f (B :: M)) : ordF { f with kids := f.kids + 1, last := B } M := fun ht => by
  have h1 := h ht
  rw [if_neg (by show ¬ f.kids + 1 = 0; omega)]
  show ordL (B :: M) = true
  split at h1
  · exact h1
  · rw [ordL, Bool.and_eq_true] at h1; exact h1.2
section
variable {S : List UInt8} {L : Lm}
theorem pend_ok {f : Fr} {G : List Fr} {l : List Nd} {a p : Nat} {B : List UInt8} {M : List (List UInt8)} (h : ordF f (B :: M)) (hB : Dr.part S a p = B) : pendS S Op.bytesLess (f :: G) l a p = .ok (.loop ({ f with kids := f.kids + 1, last := B } :: G) l p) := by
  rw [pendS, hB, if_neg]
  rintro ⟨h1, h2, h3⟩
  have h4 := h h1
  rw [if_neg (by omega), ordL, h3] at h4
  simp at h4
theorem encN_ne (t : UInt8) (b : List UInt8) : encN t b ≠ [] := by rw [encN]; exact List.cons_ne_nil _ _
/-- a forest is read -/
theorem Els.read (hb : S.length ≤ L.bytes) {d N M o} (h : Els d N M o) : o = true → N.all nodeOk = true → ∀ (f : Fr) (G : List Fr) (l0 : List Nd) (p : Nat) (R : List UInt8), S.drop p = M.flatten ++ R → p + M.flatten.length ≤ f.e → M.flatten.length < 4294967296 →
    l0.length + N.length ≤ L.items → G.length + 1 + d ≤ L.depth → ordF f M → ∃ last', ∀ r, RunsD S L (.loop ({ f with kids := f.kids + M.length, last := last' } :: G) (l0 ++ N) (p + M.flatten.length)) r → RunsD S L (.loop (f :: G) l0 p) r := by
  induction h with
  | nil =>
    intro _ _ f G l0 p R hS he _ hi hd' hO
    refine ⟨f.last, fun r hr => ?_⟩
    rw [List.append_nil] at hr
    exact hr
  | @leaf n d N M o hn h ih =>
    intro ho hall f G l0 p R hS he hlen hi hd' hO
    rw [List.all_cons, Bool.and_eq_true] at hall
    rw [List.flatten_cons] at hS he hlen ⊢
    rw [List.append_assoc] at hS
    rw [List.length_append] at he hlen
    rw [List.length_cons] at hi
    have hl := encN_length n.tag n.body
    have h1 := elS_leaf (G := f :: G) (l := l0) hb hS hall.1 hn (by omega) (by omega) (fun f' hf => by cases hf; omega)
    have hB := part_of hS
    have h2 := drop_more hS
    have hpos := hd_pos n.body.length
    obtain ⟨last', h3⟩ := ih ho hall.2 { f with kids := f.kids + 1, last := encN n.tag n.body } G (l0 ++ [n]) (p + (encN n.tag n.body).length) R h2 (by show _ ≤ f.e; omega) (by omega) (by rw [List.length_append]; simp; omega) hd' (ordF_next hO)
    refine ⟨last', fun r hr => ?_⟩
    have hs1 : loopS f G l0 p = .el (f :: G) l0 p := by rw [loopS, if_pos (by omega)]
    refine Runs.loop ?_
    rw [hs1]
    refine Runs.el h1 (Runs.pend (pend_ok hO hB) (h3 r ?_))
    rw [List.length_append] at hr
    show RunsD S L (.loop ({ f with kids := f.kids + 1 + M.length, last := last' } :: G) _ _) r
    rw [List.append_assoc, Nat.add_assoc p, show f.kids + 1 + M.length = f.kids + (encN n.tag n.body :: M).length by rw [List.length_cons]; omega]
    exact hr
  | @node n dK K MK oK d N M o hn hK h ihK ih =>
    intro ho hall f G l0 p R hS he hlen hi hd' hO
    rw [List.all_cons, List.all_append, Bool.and_eq_true, Bool.and_eq_true] at hall
    rw [Bool.and_eq_true, Bool.and_eq_true] at ho
    rw [List.flatten_cons] at hS he hlen ⊢
    rw [List.append_assoc] at hS
    rw [List.length_append] at he hlen
    rw [List.length_cons, List.length_append] at hi
    have hl := encN_length n.tag MK.flatten
    have hpos := hd_pos MK.flatten.length
    obtain ⟨h1, hbody⟩ := elS_node (G := f :: G) (l := l0) hb hS hall.1 (by omega) (by omega) (by omega) (by rw [List.length_cons]; omega) (fun f' hf => by cases hf; omega)
    have hB := part_of hS
    have h2 := drop_more hS
    have hin : S.drop (p + 1 + (hd MK.flatten.length).length) = MK.flatten ++ (M.flatten ++ R) := by
      rw [encN, List.cons_append, List.append_assoc] at hS
      exact drop_more (at_drop hS).2.1
    obtain ⟨lastK, h4⟩ := ihK ho.1.1 hall.2.1 { tag := n.tag, node := l0.length, p0 := p, e := p + (encN n.tag MK.flatten).length, kids := 0, last := [] } (f :: G) (l0 ++ [{ tag := n.tag, kids := 0, body := [] }]) (p + 1 + (hd MK.flatten.length).length) _ hin (by show _ ≤ p + _; omega) (by omega) (by rw [List.length_append]; simp; omega) (by rw [List.length_cons]; omega) (fun ht => by
      rw [if_pos rfl]
      have h5 := ho.1.2
      have ht' : n.tag = 0x31 := ht
      rw [ht'] at h5
      simpa using h5)
    obtain ⟨last', h3⟩ := ih ho.2 hall.2.2 { f with kids := f.kids + 1, last := encN n.tag MK.flatten } G (l0 ++ n :: K) (p + (encN n.tag MK.flatten).length) R h2 (by show _ ≤ f.e; omega) (by omega) (by rw [List.length_append]; simp; omega) (by omega) (ordF_next hO)
    refine ⟨last', fun r hr => ?_⟩
    have hs1 : loopS f G l0 p = .el (f :: G) l0 p := by rw [loopS, if_pos (by omega)]
    refine Runs.loop ?_
    rw [hs1]
    refine Runs.el h1 (h4 r ?_)
    have hs2 : loopS { tag := n.tag, node := l0.length, p0 := p, e := p + (encN n.tag MK.flatten).length, kids := 0 + MK.length, last := lastK } (f :: G) (l0 ++ [{ tag := n.tag, kids := 0, body := [] }] ++ K) (p + 1 + (hd MK.flatten.length).length + MK.flatten.length) = .pend (f :: G) (l0 ++ n :: K) p (p + (encN n.tag MK.flatten).length) := by
      rw [loopS, if_neg (by show ¬ _ < p + _; omega)]
      show St.pend (f :: G) ((l0 ++ [({ tag := n.tag, kids := 0, body := [] } : Nd)] ++ K).modify l0.length fun x => { x with kids := ((0 + MK.length : Nat) : Int) }) p _ = _
      rw [List.append_assoc, List.singleton_append, mod_mid2, show p + 1 + (hd MK.flatten.length).length + MK.flatten.length = p + (encN n.tag MK.flatten).length by omega]
      obtain ⟨t, k, bo⟩ := n
      have h6 : bo = [] := hbody
      have h7 : k = ((0 + MK.length : Nat) : Int) := by rw [Nat.zero_add]; exact hn
      rw [h6, h7]
    refine Runs.loop ?_
    rw [hs2]
    refine Runs.pend (pend_ok hO hB) (h3 r ?_)
    rw [List.length_append] at hr
    show RunsD S L (.loop ({ f with kids := f.kids + 1 + M.length, last := last' } :: G) _ _) r
    rw [List.append_assoc, Nat.add_assoc p, show f.kids + 1 + M.length = f.kids + (encN n.tag MK.flatten :: M).length by rw [List.length_cons]; omega]
    exact hr
theorem Els.none {d N o} (h : Els d N [] o) : N = [] ∧ d = 0 ∧ o = true := by
  cases h with
  | nil => exact ⟨rfl, rfl, rfl⟩
/-- one tree is read -/
theorem Els.readOne (hb : S.length ≤ L.bytes) (hlen : S.length < 4294967296) {d l} (h : Els d l [S] true) (hall : l.all nodeOk = true) (hi : l.length ≤ L.items) (hd' : d ≤ L.depth) : RunsD S L (.el [] [] 0) (.ok l) := by
  generalize hM : [S] = M at h
  generalize ho : true = o at h
  cases h with
  | nil => cases hM
  | @leaf n d N M o hn h =>
    injection hM with h1 h2
    subst h2
    obtain ⟨rfl, rfl, rfl⟩ := h.none
    rw [List.all_cons, Bool.and_eq_true] at hall
    have hS : S.drop 0 = encN n.tag n.body ++ [] := by rw [List.append_nil, ← h1]; rfl
    have hl := encN_length n.tag n.body
    have h3 := elS_leaf (G := []) (l := []) hb hS hall.1 hn (by rw [h1] at hlen; omega) (by have h9 := hi; simp at h9 ⊢; omega) (fun f' hf => by cases hf)
    refine Runs.el h3 (Runs.pend (s := .loop [] ([] ++ [n]) (0 + (encN n.tag n.body).length)) rfl ?_)
    have h4 : fin S L ([] ++ [n]) (0 + (encN n.tag n.body).length) = .ok [n] := by rw [fin, if_neg (by rw [← h1]; omega)]; rfl
    rw [← h4]
    exact Runs.fin
  | @node n dK K MK oK d N M o hn hK h =>
    injection hM with h1 h2
    subst h2
    obtain ⟨rfl, rfl, rfl⟩ := h.none
    rw [List.append_nil] at hall hi ⊢
    rw [List.all_cons, Bool.and_eq_true] at hall
    have ho' := ho.symm
    rw [Bool.and_true, Bool.and_eq_true] at ho'
    have hS : S.drop 0 = encN n.tag MK.flatten ++ [] := by rw [List.append_nil, ← h1]; rfl
    have hl := encN_length n.tag MK.flatten
    have hlS : (encN n.tag MK.flatten).length = S.length := by rw [← h1]
    rw [List.length_cons] at hi
    obtain ⟨h3, hbody⟩ := elS_node (G := []) (l := []) hb hS hall.1 (by omega) (by omega) (by simp; omega) (by simp; omega) (fun f' hf => by cases hf)
    have hin : S.drop (0 + 1 + (hd MK.flatten.length).length) = MK.flatten ++ [] := by
      rw [encN, List.cons_append, List.append_assoc] at hS
      exact drop_more (at_drop hS).2.1
    obtain ⟨lastK, h4⟩ := hK.read hb ho'.1 hall.2 { tag := n.tag, node := 0, p0 := 0, e := 0 + (encN n.tag MK.flatten).length, kids := 0, last := [] } [] ([] ++ [{ tag := n.tag, kids := 0, body := [] }]) (0 + 1 + (hd MK.flatten.length).length) _ hin (by show _ ≤ 0 + _; omega) (by omega) (by simp; omega) (by simp; omega) (fun ht => by
      rw [if_pos rfl]
      have h5 := ho'.2
      have ht' : n.tag = 0x31 := ht
      rw [ht'] at h5
      simpa using h5)
    refine Runs.el h3 (h4 _ (Runs.loop ?_))
    have hs2 : loopS { tag := n.tag, node := 0, p0 := 0, e := 0 + (encN n.tag MK.flatten).length, kids := 0 + MK.length, last := lastK } [] ([] ++ [{ tag := n.tag, kids := 0, body := [] }] ++ K) (0 + 1 + (hd MK.flatten.length).length + MK.flatten.length) = .pend [] (n :: K) 0 S.length := by
      rw [loopS, if_neg (by show ¬ _ < 0 + _; omega)]
      show St.pend [] (([] ++ [({ tag := n.tag, kids := 0, body := [] } : Nd)] ++ K).modify 0 fun x => { x with kids := ((0 + MK.length : Nat) : Int) }) 0 _ = _
      rw [List.nil_append, List.singleton_append, List.modify_zero_cons, show 0 + 1 + (hd MK.flatten.length).length + MK.flatten.length = S.length by omega]
      obtain ⟨t, k, bo⟩ := n
      have h6 : bo = [] := hbody
      have h7 : k = ((0 + MK.length : Nat) : Int) := by rw [Nat.zero_add]; exact hn
      rw [h6, h7]
    rw [hs2]
    refine Runs.pend (s := .loop [] (n :: K) S.length) rfl ?_
    have h4 : fin S L (n :: K) S.length = .ok (n :: K) := by rw [fin, if_neg (by omega)]
    rw [← h4]
    exact Runs.fin
/-- what is told is read to the list that it was -/
theorem enc_read {l : List Nd} {S : List UInt8} (h : enc l = (S, 0)) : RunsD S (limL 32 4096 262144) (.el [] [] 0) (.ok l) := by
  rw [enc] at h
  by_cases h1 : 4096 < l.length
  · rw [if_pos h1] at h; cases h
  rw [if_neg h1] at h
  by_cases h2 : (shp [1] 0 l).2 = false
  · rw [if_pos h2] at h; cases h
  rw [if_neg h2] at h
  by_cases h3 : l.all nodeOk = false
  · rw [if_pos h3] at h; cases h
  rw [if_neg h3] at h
  by_cases h4 : 32 < (shp [1] 0 l).1 ∨ 262144 < bods l
  · rw [if_pos h4] at h; cases h
  rw [if_neg h4] at h
  by_cases h5 : 262144 < ((jnS l).1.getD 0 []).length
  · rw [if_pos h5] at h; cases h
  rw [if_neg h5] at h
  by_cases h6 : (jnS l).2 = false
  · rw [if_pos h6] at h; cases h
  rw [if_neg h6] at h
  obtain ⟨d, o, B, hE, hj, hdd⟩ := els_one (l := l) (by cases hq : (shp [1] 0 l).2 with | true => rfl | false => exact absurd hq h2)
  rw [hj] at h h5 h6
  have hB : B = S := congrArg Prod.fst h
  subst hB
  have ho : o = true := by cases o with | true => rfl | false => exact absurd rfl h6
  subst ho
  have h7 : ¬ 262144 < B.length := h5
  rw [hdd] at h4
  exact hE.readOne (L := limL 32 4096 262144) (by show B.length ≤ 262144; omega) (by omega) (by cases hq : l.all nodeOk with | true => rfl | false => exact absurd hq h3) (by show l.length ≤ 4096; omega) (by show d ≤ 32; omega)
end
end Go.Proofs.YteglahkgnggmgaaDoor
