/- Trees, told and read again, in plain words: a length; one element. -/
import Derived.Test.YteglahkgnggmgaaDoorDwA
import Derived.Test.YteglahkgnggmgaaDoorDtX
namespace Go.Proofs.YteglahkgnggmgaaDoor
set_option linter.unusedVariables false
set_option linter.unusedSimpArgs false
open Dr
/-- the number that bytes tell, the greatest first -/
def bval : List UInt8 → Nat → Nat
  | [], n => n
  | x :: l, n => bval l (256 * n + x.toNat)
theorem bval_snoc : ∀ (l : List UInt8) (x : UInt8) (n : Nat), bval (l ++ [x]) n = 256 * bval l n + x.toNat
  | [], x, n => rfl
  | a :: l, x, n => by rw [List.cons_append, bval, bval, bval_snoc l x]
theorem digs_val (n : Nat) : bval (digs n) 0 = n := by
  induction n using Nat.strongRecOn with
  | _ n ih =>
    by_cases h : n = 0
    · rw [h, digs_zero]; rfl
    · rw [digs_pos h, bval_snoc, ih (n / 256) (by omega)]
      have : (UInt8.ofNat (n % 256)).toNat = n % 256 := by simp
      rw [this]
      omega
theorem digs_head {n : Nat} (h : n ≠ 0) : ∃ x l, digs n = x :: l ∧ x.toNat ≠ 0 := by
  induction n using Nat.strongRecOn with
  | _ n ih =>
    by_cases h1 : n / 256 = 0
    · refine ⟨UInt8.ofNat (n % 256), [], by rw [digs_pos h, h1, digs_zero]; rfl, ?_⟩
      have : (UInt8.ofNat (n % 256)).toNat = n % 256 := by simp
      rw [this]
      omega
    · obtain ⟨x, l, hx, hx0⟩ := ih (n / 256) (by omega) h1
      exact ⟨x, l ++ [UInt8.ofNat (n % 256)], by rw [digs_pos h, hx]; rfl, hx0⟩
section
variable {S : List UInt8} {L : Lm}
theorem at_drop {q : Nat} {x : UInt8} {R : List UInt8} (h : S.drop q = x :: R) : S.getD q 0 = x ∧ S.drop (q + 1) = R ∧ q < S.length := by
  have hl : q < S.length := by
    refine Nat.lt_of_not_le fun h0 => ?_
    rw [List.drop_eq_nil_of_le h0] at h
    cases h
  have h1 := List.getElem_cons_drop (h := hl)
  rw [h] at h1
  injection h1 with h2 h3
  exact ⟨by rw [List.getD, List.getElem?_eq_getElem hl]; exact h2, h3, hl⟩
theorem has_in {q : Nat} (hb : S.length ≤ L.bytes) (h : q < S.length) : has S L q = true := decide_eq_true ⟨h, by omega⟩
/-- digits are read -/
theorem lenB_digs (hb : S.length ≤ L.bytes) : ∀ (D : List UInt8) (q i n : Nat) (R : List UInt8), S.drop (q + i + 1) = D ++ R → lenB S L q i = .ok n → (i = 0 → ∀ x l, D = x :: l → x.toNat ≠ 0) → lenB S L q (i + D.length) = .ok (bval D n)
  | [], q, i, n, R, _, h, _ => h
  | x :: D, q, i, n, R, hS, h, h0 => by
    obtain ⟨h1, h2, h3⟩ := at_drop (R := D ++ R) hS
    have hx : at0S S (q + i + 1) = x.toNat := by rw [at0S, h1]
    have hstep : lenB S L q (i + 1) = .ok (256 * n + x.toNat) := by
      rw [lenB, h]
      dsimp only
      rw [if_pos (has_in hb h3), if_neg, hx]
      rintro ⟨h4, h5⟩
      subst h4
      rw [Nat.add_zero] at hx
      rw [hx] at h5
      exact h0 rfl x D rfl h5
    have h6 := lenB_digs hb D q (i + 1) (256 * n + x.toNat) R (by rw [show q + (i + 1) + 1 = q + i + 1 + 1 by omega]; exact h2) hstep (fun h => by omega)
    rw [List.length_cons, show i + (D.length + 1) = i + 1 + D.length by omega]
    exact h6
/-- a length is read -/
theorem lenR_hd (hb : S.length ≤ L.bytes) {q n : Nat} {R : List UInt8} (hn : n < 4294967296) (hS : S.drop q = hd n ++ R) : lenR S L q = .ok (n, q + (hd n).length) := by
  rw [hd] at hS ⊢
  by_cases h : n < 128
  · rw [if_pos h] at hS ⊢
    obtain ⟨h1, h2, h3⟩ := at_drop (R := R) hS
    have hx : at0S S q = n := by
      rw [at0S, h1]
      have : (UInt8.ofNat n).toNat = n % 256 := by simp
      rw [this]
      omega
    rw [lenR, if_pos (has_in hb h3), hx, if_pos h]
    rfl
  · rw [if_neg h] at hS ⊢
    have hk := digs_len 4 n (by omega)
    obtain ⟨x, l, hxl, hx0⟩ := digs_head (n := n) (by omega)
    obtain ⟨k, hkk⟩ : ∃ k, (digs n).length = k := ⟨_, rfl⟩
    have hk1 : 1 ≤ k := by rw [← hkk, hxl, List.length_cons]; omega
    rw [hkk] at hS hk ⊢
    obtain ⟨h1, h2, h3⟩ := at_drop (R := digs n ++ R) hS
    have hx : at0S S q = 128 + k := by
      rw [at0S, h1]
      have : (UInt8.ofNat (128 + k)).toNat = (128 + k) % 256 := by simp
      rw [this]
      omega
    have hB := lenB_digs (L := L) hb (digs n) q 0 0 R h2 rfl (fun _ y m hy => by rw [hxl] at hy; injection hy with h4 _; rw [← h4]; exact hx0)
    rw [Nat.zero_add, hkk, digs_val] at hB
    rw [lenR, if_pos (has_in hb h3), hx, if_neg (by omega), if_neg (by omega), show 128 + k - 128 = k by omega, hB]
    dsimp only
    rw [if_neg h, List.length_cons, hkk]
    congr 2
theorem hd_pos (n : Nat) : 1 ≤ (hd n).length := by
  rw [hd]
  split
  · exact Nat.le_refl _
  · rw [List.length_cons]; omega
theorem encN_length (t : UInt8) (b : List UInt8) : (encN t b).length = 1 + (hd b.length).length + b.length := by
  rw [encN, List.length_cons, List.length_append]
  omega
theorem part_of {q : Nat} {b R : List UInt8} (h : S.drop q = b ++ R) : Dr.part S q (q + b.length) = b := by
  rw [Dr.part, h, show q + b.length - q = b.length by omega, List.take_left' rfl]
theorem drop_more {q : Nat} {b R : List UInt8} (h : S.drop q = b ++ R) : S.drop (q + b.length) = R := by
  rw [← List.drop_drop, h, List.drop_left' rfl]
theorem drop_len {q : Nat} {b R : List UInt8} (h : S.drop q = b ++ R) (hb : b ≠ []) : q + b.length ≤ S.length := by
  have h1 := congrArg List.length h
  rw [List.length_drop, List.length_append] at h1
  have h2 := List.length_pos_iff.2 hb
  omega
/-- an element without elements is read -/
theorem elS_leaf (hb : S.length ≤ L.bytes) {G : List Fr} {l : List Nd} {p : Nat} {n : Nd} {R : List UInt8} (hS : S.drop p = encN n.tag n.body ++ R) (hn : nodeOk n = true) (hk : n.kids < 0) (hlen : n.body.length < 4294967296) (hi : l.length < L.items)
    (he : ∀ f, G.head? = some f → p + (encN n.tag n.body).length ≤ f.e) : elS S L bodyOk G l p = .ok (.pend G (l ++ [n]) p (p + (encN n.tag n.body).length)) := by
  rw [encN, List.cons_append] at hS
  obtain ⟨h1, h2, h3⟩ := at_drop hS
  rw [List.append_assoc] at h2
  have h4 := lenR_hd (L := L) hb hlen h2
  have h5 := drop_more h2
  rw [nodeOk, Bool.and_eq_true] at hn
  have hw : ¬ within n.tag = true := fun hw => by
    rw [if_pos hw, Bool.and_eq_true] at hn
    have : 0 ≤ n.kids := of_decide_eq_true hn.2.1
    omega
  have ht : tagE n.tag = 0 := of_decide_eq_true hn.1
  rw [if_neg hw, Bool.and_eq_true] at hn
  have hk1 : n.kids = -1 := of_decide_eq_true hn.2.1
  have hel := encN_length n.tag n.body
  have hP : p + 1 + (hd n.body.length).length + n.body.length = p + (encN n.tag n.body).length := by omega
  have hlast : ¬ (n.body.length ≠ 0 ∧ has S L (p + 1 + (hd n.body.length).length + n.body.length - 1) = false) := by
    rintro ⟨h6, h7⟩
    have h8 := drop_len h5 (fun h => h6 (by rw [h]; rfl))
    rw [has_in hb (by omega)] at h7
    cases h7
  have hend : ¬ (G.head?.any fun f => decide (f.e < p + 1 + (hd n.body.length).length + n.body.length)) = true := by
    rw [hP]
    cases hG : G.head? with
    | none => simp
    | some f => have := he f hG; simp; omega
  have hbody : bodyOk n.tag (Dr.part S (p + 1 + (hd n.body.length).length) (p + 1 + (hd n.body.length).length + n.body.length)) = true := by rw [part_of h5]; exact hn.2.2
  rw [elS, if_neg (by rw [has_in hb h3]; decide), if_neg (by omega), h1, if_neg (by rw [ht]; simp), if_neg (by rintro ⟨h, _⟩; exact hw h), h4]
  dsimp only
  rw [if_neg hend, if_neg hw, if_neg hlast, if_neg (by rw [hbody]; decide), part_of h5, hP]
  obtain ⟨t, k, b⟩ := n
  have : k = -1 := hk1
  subst this
  rfl
/-- an element with elements is begun -/
theorem elS_node (hb : S.length ≤ L.bytes) {G : List Fr} {l : List Nd} {p : Nat} {n : Nd} {B R : List UInt8} (hS : S.drop p = encN n.tag B ++ R) (hn : nodeOk n = true) (hk : 0 ≤ n.kids) (hlen : B.length < 4294967296) (hi : l.length < L.items) (hd' : G.length < L.depth)
    (he : ∀ f, G.head? = some f → p + (encN n.tag B).length ≤ f.e) : elS S L bodyOk G l p = .ok (.loop ({ tag := n.tag, node := l.length, p0 := p, e := p + (encN n.tag B).length, kids := 0, last := [] } :: G) (l ++ [{ tag := n.tag, kids := 0, body := [] }]) (p + 1 + (hd B.length).length)) ∧ n.body = [] := by
  rw [encN, List.cons_append] at hS
  obtain ⟨h1, h2, h3⟩ := at_drop hS
  rw [List.append_assoc] at h2
  have h4 := lenR_hd (L := L) hb hlen h2
  rw [nodeOk, Bool.and_eq_true] at hn
  have hw : within n.tag = true := by
    cases hw : within n.tag with
    | true => rfl
    | false =>
      rw [hw, if_neg (by decide), Bool.and_eq_true] at hn
      have : n.kids = -1 := of_decide_eq_true hn.2.1
      omega
  have ht : tagE n.tag = 0 := of_decide_eq_true hn.1
  rw [if_pos hw, Bool.and_eq_true] at hn
  have hel := encN_length n.tag B
  have hP : p + 1 + (hd B.length).length + B.length = p + (encN n.tag B).length := by omega
  have hend : ¬ (G.head?.any fun f => decide (f.e < p + 1 + (hd B.length).length + B.length)) = true := by
    rw [hP]
    cases hG : G.head? with
    | none => simp
    | some f => have := he f hG; simp; omega
  refine ⟨?_, by simpa using hn.2.2⟩
  rw [elS, if_neg (by rw [has_in hb h3]; decide), if_neg (by omega), h1, if_neg (by rw [ht]; simp), if_neg (by rintro ⟨_, h⟩; omega), h4]
  dsimp only
  rw [if_neg hend, if_pos hw, hP]
end
end Go.Proofs.YteglahkgnggmgaaDoor
