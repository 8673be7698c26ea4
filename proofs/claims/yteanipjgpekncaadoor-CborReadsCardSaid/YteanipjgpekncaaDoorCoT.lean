/- Plain words for reading items (layer 17): what is read within some limits is read alike within greater ones. -/
import Derived.Test.YteanipjgpekncaaDoorCoP
namespace Go.Proofs.YteanipjgpekncaaDoor
set_option linter.unusedVariables false
set_option linter.unusedSimpArgs false
namespace Co
open Dr (Rs Lm has lack at0S)
section
variable {S : List UInt8} {L L' : Lm} {txt : List UInt8 → Bool} {ls : List UInt8 → List UInt8 → Bool}
/-- an item is read or begun, case by case -/
inductive ElOk (S : List UInt8) (L : Lm) (txt : List UInt8 → Bool) (G : List Fr) (l : List Am) (p n : Nat) : St → Prop
  | text : kindT (S.getD p 0) = 2 ∨ kindT (S.getD p 0) = 3 → (n = 0 ∨ has S L (p + 1 + widT (S.getD p 0) + n - 1) = true) → (kindT (S.getD p 0) = 3 → txt (Dr.part S (p + 1 + widT (S.getD p 0)) (p + 1 + widT (S.getD p 0) + n)) = true) →
      ElOk S L txt G l p n (.pend G (l ++ [⟨kindT (S.getD p 0), 0, Dr.part S (p + 1 + widT (S.getD p 0)) (p + 1 + widT (S.getD p 0) + n)⟩]) p (p + 1 + widT (S.getD p 0) + n))
  | hold : holds (kindT (S.getD p 0)) = true → G.length < L.depth →
      ElOk S L txt G l p n (.loop (⟨p, if kindT (S.getD p 0) = 6 then 1 else n, decide (kindT (S.getD p 0) = 5), false, false, []⟩ :: G) (l ++ [⟨kindT (S.getD p 0), n, []⟩]) (p + 1 + widT (S.getD p 0)))
  | plain : ¬ (kindT (S.getD p 0) = 2 ∨ kindT (S.getD p 0) = 3) → holds (kindT (S.getD p 0)) = false →
      ElOk S L txt G l p n (.pend G (l ++ [⟨kindT (S.getD p 0), n, []⟩]) p (p + 1 + widT (S.getD p 0)))
theorem holds_not {k : Nat} (h : holds k = true) : ¬ (k = 2 ∨ k = 3) := by
  have h1 : 4 ≤ k ∧ k ≤ 6 := of_decide_eq_true h
  omega
theorem elS_ok {G : List Fr} {l : List Am} {p : Nat} {s : St} (hs : elS S L txt G l p = .ok s) : has S L p = true ∧ l.length < L.items ∧ headE (S.getD p 0) = 0 ∧ ∃ n, argR S L p = .ok n ∧ ElOk S L txt G l p n s := by
  rw [elS] at hs
  by_cases h0 : has S L p = false
  · rw [if_pos h0, lack] at hs; cases hs
  rw [if_neg h0] at hs
  by_cases h1 : L.items ≤ l.length
  · rw [if_pos h1] at hs; cases hs
  rw [if_neg h1] at hs
  by_cases h2 : headE (S.getD p 0) ≠ 0
  · rw [if_pos h2] at hs; cases hs
  rw [if_neg h2] at hs
  refine ⟨by simpa using h0, by omega, Decidable.byContradiction h2, ?_⟩
  cases hA : argR S L p with
  | no e q b => rw [hA] at hs; cases hs
  | ok n =>
    rw [hA] at hs
    dsimp only at hs
    refine ⟨n, rfl, ?_⟩
    by_cases h3 : kindT (S.getD p 0) = 2 ∨ kindT (S.getD p 0) = 3
    · rw [if_pos h3] at hs
      by_cases h4 : n ≠ 0 ∧ has S L (p + 1 + widT (S.getD p 0) + n - 1) = false
      · rw [if_pos h4, lack] at hs; cases hs
      rw [if_neg h4] at hs
      split at hs
      · cases hs
      · rename_i h5
        cases hs
        refine .text h3 ?_ ?_
        · by_cases h6 : n = 0
          · exact .inl h6
          · exact .inr (by cases h7 : has S L (p + 1 + widT (S.getD p 0) + n - 1) with | true => rfl | false => exact absurd ⟨h6, h7⟩ h4)
        · intro h6
          cases h7 : txt (Dr.part S (p + 1 + widT (S.getD p 0)) (p + 1 + widT (S.getD p 0) + n)) with
          | true => rfl
          | false => exact absurd ⟨h6, h7⟩ h5
    · rw [if_neg h3] at hs
      by_cases h4 : holds (kindT (S.getD p 0)) = true
      · rw [if_pos h4] at hs
        by_cases h5 : L.depth ≤ G.length
        · rw [if_pos h5] at hs; cases hs
        · rw [if_neg h5] at hs; cases hs; exact .hold h4 (by omega)
      · rw [if_neg h4] at hs; cases hs; exact .plain h3 (by simpa using h4)
theorem elS_mk {G : List Fr} {l : List Am} {p n : Nat} {s : St} (h0 : has S L p = true) (h1 : l.length < L.items) (h2 : headE (S.getD p 0) = 0) (hA : argR S L p = .ok n) (h : ElOk S L txt G l p n s) : elS S L txt G l p = .ok s := by
  rw [elS, if_neg (by rw [h0]; decide), if_neg (by omega), if_neg (by rw [h2]; decide), hA]
  cases h with
  | text h3 h4 h5 =>
    dsimp only
    rw [if_pos h3, if_neg, if_neg]
    · rintro ⟨h6, h7⟩; rw [h5 h6] at h7; cases h7
    · rintro ⟨h6, h7⟩
      rcases h4 with h4 | h4
      · exact h6 h4
      · rw [h4] at h7; cases h7
  | hold h3 h4 =>
    dsimp only
    rw [if_neg (holds_not h3), if_pos h3, if_neg (by omega)]
  | plain h3 h4 =>
    dsimp only
    rw [if_neg h3, if_neg (by rw [h4]; decide)]
theorem argB_more (hm : ∀ q, has S L q = true → has S L' q = true) (q : Nat) : ∀ (i n : Nat), argB S L q i = .ok n → argB S L' q i = .ok n
  | 0, n, hn => hn
  | i + 1, n, hn => by
    rw [argB] at hn ⊢
    cases hB : argB S L q i with
    | no e p b => rw [hB] at hn; cases hn
    | ok m =>
      rw [hB] at hn
      rw [argB_more hm q i m hB]
      dsimp only at hn ⊢
      cases hh : has S L (q + i + 1) with
      | false => rw [hh, if_neg (by decide)] at hn; rw [lack] at hn; cases hn
      | true =>
        rw [hh, if_pos rfl] at hn
        rw [hm _ hh, if_pos rfl]
        exact hn
theorem argR_more (hm : ∀ q, has S L q = true → has S L' q = true) {p n : Nat} (h : argR S L p = .ok n) : argR S L' p = .ok n := by
  rw [argR] at h ⊢
  cases hB : argB S L p (widT (S.getD p 0)) with
  | no e q b => rw [hB] at h; cases h
  | ok m => rw [hB] at h; rw [argB_more hm _ _ _ hB]; exact h
theorem ElOk.more (hm : ∀ q, has S L q = true → has S L' q = true) (hd : L.depth ≤ L'.depth) {G : List Fr} {l : List Am} {p n : Nat} {s : St} (h : ElOk S L txt G l p n s) : ElOk S L' txt G l p n s := by
  cases h with
  | text h3 h4 h5 => exact .text h3 (h4.imp id (hm _)) h5
  | hold h3 h4 => exact .hold h3 (by omega)
  | plain h3 h4 => exact .plain h3 h4
theorem elS_more (hm : ∀ q, has S L q = true → has S L' q = true) (hd : L.depth ≤ L'.depth) {G : List Fr} {l : List Am} {p : Nat} {s : St} (hi : l.length < L'.items) (hs : elS S L txt G l p = .ok s) : elS S L' txt G l p = .ok s := by
  obtain ⟨h0, h1, h2, n, hA, h⟩ := elS_ok hs
  exact elS_mk (hm _ h0) hi h2 (argR_more hm hA) (h.more hm hd)
theorem elS_items {G : List Fr} {l : List Am} {p : Nat} {s : St} (hs : elS S L txt G l p = .ok s) : l.length < L.items := (elS_ok hs).2.1
def stL : St → List Am
  | .el _ l _ => l
  | .pend _ l _ _ => l
  | .loop _ l _ => l
def stP : St → Nat
  | .el _ _ p => p
  | .pend _ _ _ p => p
  | .loop _ _ p => p
theorem elS_len {G : List Fr} {l : List Am} {p : Nat} {s : St} (hs : elS S L txt G l p = .ok s) : (stL s).length = l.length + 1 := by
  obtain ⟨h0, h1, h2, n, hA, h⟩ := elS_ok hs
  cases h <;> simp [stL]
theorem pendS_ok {G : List Fr} {l : List Am} {a p : Nat} {s : St} (hs : pendS S ls G l a p = .ok s) : stL s = l ∧ stP s = p := by
  cases G with
  | nil => cases hs; exact ⟨rfl, rfl⟩
  | cons f G =>
    simp only [pendS] at hs
    split at hs
    · split at hs
      · cases hs
      · cases hs; exact ⟨rfl, rfl⟩
    · cases hs; exact ⟨rfl, rfl⟩
theorem loopS_ok (f : Fr) (G : List Fr) (l : List Am) (p : Nat) : stL (loopS f G l p) = l ∧ stP (loopS f G l p) = p := by
  rw [loopS]
  split <;> exact ⟨rfl, rfl⟩
theorem fin_ok {l l0 : List Am} {p : Nat} (h : fin S L l0 p = .ok l) : l0 = l ∧ ¬ p < S.length := by
  rw [fin] at h
  split at h
  · split at h
    · cases h
    · rw [lack] at h; cases h
  · rename_i h1; cases h; exact ⟨rfl, h1⟩
theorem Runs.long {st : St} {r : Rs (List Am)} (hr : Runs S L txt ls st r) : ∀ l, r = .ok l → (stL st).length ≤ l.length := by
  induction hr with
  | el h1 _ ih => intro l hl; have h2 := ih l hl; rw [elS_len h1] at h2; exact Nat.le_of_succ_le h2
  | elNo _ => intro l hl; cases hl
  | pend h1 _ ih => intro l hl; have h2 := ih l hl; rw [(pendS_ok h1).1] at h2; exact h2
  | pendNo _ => intro l hl; cases hl
  | loop _ ih => intro l hl; have h2 := ih l hl; rw [(loopS_ok ..).1] at h2; exact h2
  | fin => intro l hl; rw [(fin_ok hl).1.symm]; exact Nat.le_refl _
theorem Runs.moreG (hm : ∀ q, has S L q = true → has S L' q = true) (hd : L.depth ≤ L'.depth) {st : St} {r : Rs (List Am)} (hr : Runs S L txt ls st r) : ∀ l, r = .ok l → (L.items ≤ L'.items ∨ l.length ≤ L'.items) → Runs S L' txt ls st (.ok l) := by
  induction hr with
  | el h1 h2 ih =>
    intro l hl hN
    refine Runs.el (elS_more hm hd ?_ h1) (ih l hl hN)
    have h3 := elS_items h1
    have h4 := Runs.long h2 l hl
    rw [elS_len h1] at h4
    omega
  | elNo _ => intro l hl; cases hl
  | pend h1 _ ih => intro l hl hN; exact Runs.pend h1 (ih l hl hN)
  | pendNo _ => intro l hl; cases hl
  | loop _ ih => intro l hl hN; exact Runs.loop (ih l hl hN)
  | @fin l0 p =>
    intro l hl hN
    obtain ⟨rfl, h1⟩ := fin_ok hl
    have h2 : Co.fin S L' l0 p = .ok l0 := by rw [Co.fin, if_neg h1]
    rw [← h2]
    exact Runs.fin
theorem elS_full (hm : ∀ q, has S L q = true → has S L' q = true) {G : List Fr} {l : List Am} {p : Nat} {s : St} (hs : elS S L txt G l p = .ok s) (hi : L'.items ≤ l.length) : elS S L' txt G l p = .no 10 p false := by
  obtain ⟨h0, -⟩ := elS_ok hs
  rw [elS, if_neg (by rw [hm _ h0]; decide), if_pos hi]
/-- with one item fewer a limit is told -/
theorem Runs.few (hm : ∀ q, has S L q = true → has S L' q = true) (hd : L.depth ≤ L'.depth) {st : St} {r : Rs (List Am)} (hr : Runs S L txt ls st r) : ∀ l, r = .ok l → (stL st).length < l.length → L'.items + 1 = l.length → ∃ q b, Runs S L' txt ls st (.no 10 q b) := by
  induction hr with
  | @el G l0 p s r h1 h2 ih =>
    intro l hl hN hI
    by_cases h3 : L'.items ≤ l0.length
    · exact ⟨_, _, Runs.elNo (elS_full hm h1 h3)⟩
    · obtain ⟨q, b, h4⟩ := ih l hl (by rw [elS_len h1]; omega) hI
      exact ⟨q, b, Runs.el (elS_more hm hd (by omega) h1) h4⟩
  | elNo _ => intro l hl; cases hl
  | pend h1 _ ih =>
    intro l hl hN hI
    obtain ⟨q, b, h4⟩ := ih l hl (by rw [(pendS_ok h1).1]; exact hN) hI
    exact ⟨q, b, Runs.pend h1 h4⟩
  | pendNo _ => intro l hl; cases hl
  | loop _ ih =>
    intro l hl hN hI
    obtain ⟨q, b, h4⟩ := ih l hl (by rw [(loopS_ok ..).1]; exact hN) hI
    exact ⟨q, b, Runs.loop h4⟩
  | @fin l0 p =>
    intro l hl hN
    rw [(fin_ok hl).1] at hN
    exact absurd hN (Nat.lt_irrefl _)
theorem Runs.more (h : LmLe L L') {st : St} {l : List Am} (hr : Runs S L txt ls st (.ok l)) : Runs S L' txt ls st (.ok l) := Runs.moreG (fun q => has_more h) h.d hr l rfl (.inl h.i)
/-- within just as many items and bytes -/
theorem Runs.just {d i b : Nat} {st : St} {l : List Am} (hr : Runs S { depth := d, items := i, bytes := b } txt ls st (.ok l)) : Runs S { depth := d, items := l.length, bytes := S.length } txt ls st (.ok l) :=
  Runs.moreG (L := { depth := d, items := i, bytes := b }) (L' := { depth := d, items := l.length, bytes := S.length }) (fun q hq => by
    have h1 : q < S.length ∧ q < b := of_decide_eq_true hq
    exact decide_eq_true ⟨h1.1, h1.1⟩) (Nat.le_refl _) hr l rfl (.inr (Nat.le_refl _))
/-- a text, or its limits, end at a place ahead of the text's end: what is told there -/
structure Off (S S' : List UInt8) (L L' : Lm) (a : Nat) (e : Int) (b : Bool) : Prop where
  hs : ∀ q, has S L q = true → (has S' L' q = true ∧ q < a) ∨ (has S' L' q = false ∧ a ≤ q)
  eq : ∀ q, q < a → S'.getD q 0 = S.getD q 0
  pt : ∀ x y, y ≤ a → Dr.part S' x y = Dr.part S x y
  lk : ∀ {α : Type}, (lack S' L' : Rs α) = .no e a b
  dp : L.depth ≤ L'.depth
  en : a < S.length
theorem Off.less (hb : L'.bytes + 1 = S.length) (hd : L.depth ≤ L'.depth) : Off S S L L' L'.bytes 10 false :=
  ⟨fun q hq => (has_less hb hq).imp id (fun h => ⟨h.1, by omega⟩), fun _ _ => rfl, fun _ _ _ => rfl, lack_less hb, hd, by omega⟩
theorem Off.cut {a : Nat} (ha : a < S.length) (hb : S.length ≤ L.bytes) : Off S (S.take a) L L a 9 true :=
  ⟨fun q hq => has_cut ha hq, fun q hq => at_cut hq, fun x y hy => part_cut hy, lack_cut ha hb, Nat.le_refl _, ha⟩
section
variable {S' : List UInt8} {a : Nat} {e : Int} {b : Bool}
theorem argB_off (h : Off S S' L L' a e b) (q : Nat) (hq : q < a) : ∀ (i n : Nat), argB S L q i = .ok n → (argB S' L' q i = .ok n ∧ q + i < a) ∨ argB S' L' q i = .no e a b
  | 0, n, hn => .inl ⟨hn, hq⟩
  | i + 1, n, hn => by
    rw [argB] at hn
    rw [argB]
    cases hB : argB S L q i with
    | no e p b => rw [hB] at hn; cases hn
    | ok m =>
      rw [hB] at hn
      dsimp only at hn
      cases hh : has S L (q + i + 1) with
      | false => rw [hh, if_neg (by decide), lack] at hn; cases hn
      | true =>
        rw [hh, if_pos rfl] at hn
        rcases argB_off h q hq i m hB with ⟨h1, h2⟩ | h1
        · rw [h1]
          dsimp only
          rcases h.hs _ hh with ⟨h3, h4⟩ | ⟨h3, h4⟩
          · rw [h3, if_pos rfl, at0S, h.eq _ h4]
            exact .inl ⟨hn, h4⟩
          · rw [h3, if_neg (by decide), h.lk]
            exact .inr rfl
        · rw [h1]
          exact .inr rfl
theorem argR_off (h : Off S S' L L' a e b) {p n : Nat} (hp : p < a) (hA : argR S L p = .ok n) : (argR S' L' p = .ok n ∧ p + widT (S.getD p 0) < a) ∨ argR S' L' p = .no e a b := by
  rw [argR] at hA
  rw [argR, h.eq _ hp]
  cases hB : argB S L p (widT (S.getD p 0)) with
  | no e q b => rw [hB] at hA; cases hA
  | ok m =>
    rw [hB] at hA
    rcases argB_off h p hp _ m hB with ⟨h1, h2⟩ | h1
    · rw [h1]; exact .inl ⟨hA, h2⟩
    · rw [h1]; exact .inr rfl
theorem elS_off (h : Off S S' L L' a e b) {G : List Fr} {l : List Am} {p : Nat} {s : St} (hi : l.length < L'.items) (hs : elS S L txt G l p = .ok s) : (elS S' L' txt G l p = .ok s ∧ stP s ≤ a) ∨ elS S' L' txt G l p = .no e a b := by
  obtain ⟨h0, h1, h2, n, hA, hE⟩ := elS_ok hs
  rcases h.hs _ h0 with ⟨h3, h4⟩ | ⟨h3, h4⟩
  · have hg := h.eq _ h4
    rcases argR_off h h4 hA with ⟨h5, h6⟩ | h5
    · cases hE with
      | text g1 g2 g3 =>
        have key : n = 0 ∨ (has S' L' (p + 1 + widT (S.getD p 0) + n - 1) = true ∧ p + 1 + widT (S.getD p 0) + n ≤ a) ∨ (n ≠ 0 ∧ has S' L' (p + 1 + widT (S.getD p 0) + n - 1) = false) := by
          by_cases hn : n = 0
          · exact .inl hn
          · rcases h.hs _ (g2.resolve_left hn) with ⟨h7, h8⟩ | ⟨h7, h8⟩
            · exact .inr (.inl ⟨h7, by omega⟩)
            · exact .inr (.inr ⟨hn, h7⟩)
        have good : (n = 0 ∨ has S' L' (p + 1 + widT (S.getD p 0) + n - 1) = true) → p + 1 + widT (S.getD p 0) + n ≤ a → elS S' L' txt G l p = .ok (.pend G (l ++ [⟨kindT (S.getD p 0), 0, Dr.part S (p + 1 + widT (S.getD p 0)) (p + 1 + widT (S.getD p 0) + n)⟩]) p (p + 1 + widT (S.getD p 0) + n)) := fun k1 k2 => by
          have h9 := ElOk.text (S := S') (L := L') (txt := txt) (G := G) (l := l) (p := p) (n := n) (by rw [hg]; exact g1) (by rw [hg]; exact k1) (by rw [hg, h.pt _ _ k2]; exact g3)
          rw [hg, h.pt _ _ k2] at h9
          exact elS_mk h3 hi (by rw [hg]; exact h2) h5 h9
        rcases key with hn | ⟨k1, k2⟩ | ⟨k1, k2⟩
        · exact .inl ⟨good (.inl hn) (by omega), by show p + 1 + widT (S.getD p 0) + n ≤ a; omega⟩
        · exact .inl ⟨good (.inr k1) k2, k2⟩
        · refine .inr ?_
          rw [elS, if_neg (by rw [h3]; decide), if_neg (by omega), hg, if_neg (by rw [h2]; decide), h5]
          dsimp only
          rw [if_pos g1, if_pos ⟨k1, k2⟩, h.lk]
      | hold g1 g2 =>
        have h9 := ElOk.hold (S := S') (L := L') (txt := txt) (G := G) (l := l) (p := p) (n := n) (by rw [hg]; exact g1) (Nat.lt_of_lt_of_le g2 h.dp)
        rw [hg] at h9
        exact .inl ⟨elS_mk h3 hi (by rw [hg]; exact h2) h5 h9, by show p + 1 + widT (S.getD p 0) ≤ a; omega⟩
      | plain g1 g2 =>
        have h9 := ElOk.plain (S := S') (L := L') (txt := txt) (G := G) (l := l) (p := p) (n := n) (by rw [hg]; exact g1) (by rw [hg]; exact g2)
        rw [hg] at h9
        exact .inl ⟨elS_mk h3 hi (by rw [hg]; exact h2) h5 h9, by show p + 1 + widT (S.getD p 0) ≤ a; omega⟩
    · refine .inr ?_
      rw [elS, if_neg (by rw [h3]; decide), if_neg (by omega), hg, if_neg (by rw [h2]; decide), h5]
  · refine .inr ?_
    rw [elS, if_pos h3, h.lk]
theorem pendS_off (h : Off S S' L L' a e b) {G : List Fr} {l : List Am} {x p : Nat} (hp : p ≤ a) : pendS S' ls G l x p = pendS S ls G l x p := by
  cases G with
  | nil => rfl
  | cons f G => simp only [pendS, h.pt _ _ hp]
theorem Runs.off (h : Off S S' L L' a e b) {st : St} {r : Rs (List Am)} (hr : Runs S L txt ls st r) : ∀ l, r = .ok l → stP st ≤ a → l.length ≤ L'.items → Runs S' L' txt ls st (.no e a b) := by
  induction hr with
  | @el G l0 p s r h1 h2 ih =>
    intro l hl hp hN
    have h4 := Runs.long h2 l hl
    rw [elS_len h1] at h4
    rcases elS_off h (by omega) h1 with ⟨h5, h6⟩ | h5
    · exact Runs.el h5 (ih l hl h6 hN)
    · exact Runs.elNo h5
  | elNo _ => intro l hl; cases hl
  | pend h1 _ ih => intro l hl hp hN; exact Runs.pend ((pendS_off h hp).trans h1) (ih l hl (by rw [(pendS_ok h1).2]; exact hp) hN)
  | pendNo _ => intro l hl; cases hl
  | loop _ ih => intro l hl hp hN; exact Runs.loop (ih l hl (by rw [(loopS_ok ..).2]; exact hp) hN)
  | @fin l0 p =>
    intro l hl hp
    have hp' : p ≤ a := hp
    have h1 := (fin_ok hl).2
    have := h.en
    omega
end
section
variable {m : UInt8}
theorem argB_app (q : Nat) (hq : q < S.length) : ∀ (i n : Nat), argB S L q i = .ok n → argB (S ++ [m]) L q i = .ok n ∧ q + i < S.length
  | 0, n, hn => ⟨hn, hq⟩
  | i + 1, n, hn => by
    rw [argB] at hn
    rw [argB]
    cases hB : argB S L q i with
    | no e p b => rw [hB] at hn; cases hn
    | ok k =>
      rw [hB] at hn
      dsimp only at hn
      cases hh : has S L (q + i + 1) with
      | false => rw [hh, if_neg (by decide), lack] at hn; cases hn
      | true =>
        rw [hh, if_pos rfl] at hn
        obtain ⟨h1, h2⟩ := argB_app q hq i k hB
        obtain ⟨h3, h4⟩ := has_app (m := m) hh
        rw [h1]
        dsimp only
        rw [h3, if_pos rfl, at0_app h4]
        exact ⟨hn, h4⟩
theorem elS_app {G : List Fr} {l : List Am} {p : Nat} {s : St} (hs : elS S L txt G l p = .ok s) : elS (S ++ [m]) L txt G l p = .ok s ∧ stP s ≤ S.length := by
  obtain ⟨h0, h1, h2, n, hA, hE⟩ := elS_ok hs
  obtain ⟨h3, h4⟩ := has_app (m := m) h0
  have hg := get_app (m := m) h4
  have hA2 : argR (S ++ [m]) L p = .ok n ∧ p + widT (S.getD p 0) < S.length := by
    rw [argR] at hA
    rw [argR, hg]
    cases hB : argB S L p (widT (S.getD p 0)) with
    | no e q b => rw [hB] at hA; cases hA
    | ok k =>
      rw [hB] at hA
      obtain ⟨g1, g2⟩ := argB_app (m := m) p h4 _ k hB
      rw [g1]
      exact ⟨hA, g2⟩
  cases hE with
  | text g1 g2 g3 =>
    have k2 : p + 1 + widT (S.getD p 0) + n ≤ S.length := by
      rcases g2 with g2 | g2
      · have := hA2.2; omega
      · have := (has_app (m := m) g2).2; omega
    have h9 := ElOk.text (S := S ++ [m]) (L := L) (txt := txt) (G := G) (l := l) (p := p) (n := n) (by rw [hg]; exact g1) (by rw [hg]; exact g2.imp id (fun h => (has_app (m := m) h).1)) (by rw [hg, part_app k2]; exact g3)
    rw [hg, part_app k2] at h9
    exact ⟨elS_mk h3 h1 (by rw [hg]; exact h2) hA2.1 h9, k2⟩
  | hold g1 g2 =>
    have h9 := ElOk.hold (S := S ++ [m]) (L := L) (txt := txt) (G := G) (l := l) (p := p) (n := n) (by rw [hg]; exact g1) g2
    rw [hg] at h9
    exact ⟨elS_mk h3 h1 (by rw [hg]; exact h2) hA2.1 h9, by show p + 1 + widT (S.getD p 0) ≤ S.length; have := hA2.2; omega⟩
  | plain g1 g2 =>
    have h9 := ElOk.plain (S := S ++ [m]) (L := L) (txt := txt) (G := G) (l := l) (p := p) (n := n) (by rw [hg]; exact g1) (by rw [hg]; exact g2)
    rw [hg] at h9
    exact ⟨elS_mk h3 h1 (by rw [hg]; exact h2) hA2.1 h9, by show p + 1 + widT (S.getD p 0) ≤ S.length; have := hA2.2; omega⟩
theorem Runs.behind (hb : S.length < L.bytes) {st : St} {r : Rs (List Am)} (hr : Runs S L txt ls st r) : ∀ l, r = .ok l → stP st ≤ S.length → Runs (S ++ [m]) L txt ls st (.no 9 S.length false) := by
  induction hr with
  | el h1 h2 ih =>
    intro l hl hp
    obtain ⟨h5, h6⟩ := elS_app (m := m) h1
    exact Runs.el h5 (ih l hl h6)
  | elNo _ => intro l hl; cases hl
  | @pend G l0 x p s r h1 _ ih =>
    intro l hl hp
    have h2 : pendS (S ++ [m]) ls G l0 x p = pendS S ls G l0 x p := by
      cases G with
      | nil => rfl
      | cons f G => simp only [pendS, part_app (show p ≤ S.length from hp)]
    exact Runs.pend (h2.trans h1) (ih l hl (by rw [(pendS_ok h1).2]; exact hp))
  | pendNo _ => intro l hl; cases hl
  | loop _ ih => intro l hl hp; exact Runs.loop (ih l hl (by rw [(loopS_ok ..).2]; exact hp))
  | @fin l0 p =>
    intro l hl hp
    have hp' : p ≤ S.length := hp
    have h1 := (fin_ok hl).2
    obtain rfl : p = S.length := by omega
    have hh : has (S ++ [m]) L S.length = true := decide_eq_true ⟨by rw [List.length_append]; simp, hb⟩
    have h2 : Co.fin (S ++ [m]) L l0 S.length = .no 9 S.length false := by rw [Co.fin, if_pos (by rw [List.length_append]; simp), if_pos hh]
    rw [← h2]
    exact Runs.fin
end
end
end Co
end Go.Proofs.YteanipjgpekncaaDoor
