/- Telling: joining from the end: plain words. -/
import Derived.Test.YteglahkgnggmgaaDoorDrY
import Derived.Test.YteglahkgnggmgaaDoorRowS
namespace Go.Proofs.YteglahkgnggmgaaDoor
open Go.RowKit
set_option linter.unusedVariables false
set_option linter.unusedSimpArgs false
open Dr
/-- one element's bytes -/
def encN (t : UInt8) (body : List UInt8) : List UInt8 := t :: (hd body.length ++ body)
/-- are texts in order (the first first)? -/
def ordL : List (List UInt8) → Bool
  | [] => true
  | [_] => true
  | a :: b :: r => !(Op.bytesLess b a) && ordL (b :: r)
/-- what is made of a list's end: whole elements (the first one first), and whether sets are in order -/
def jnS : List Nd → List (List UInt8) × Bool
  | [] => ([], true)
  | n :: r => if 0 ≤ n.kids
    then (encN n.tag ((jnS r).1.take n.kids.toNat).flatten :: (jnS r).1.drop n.kids.toNat, (jnS r).2 && (decide (n.tag ≠ 0x31) || ordL ((jnS r).1.take n.kids.toNat)))
    else (encN n.tag n.body :: (jnS r).1, (jnS r).2)
def Fits : List Nd → Prop
  | [] => True
  | n :: r => (0 ≤ n.kids → n.kids ≤ (jnS r).1.length) ∧ Fits r
def tot (M : List (List UInt8)) : Nat := (M.map List.length).sum
def bods (l : List Nd) : Nat := (l.map fun n => n.body.length).sum
theorem tot_append (a b : List (List UInt8)) : tot (a ++ b) = tot a + tot b := by simp [tot]
theorem tot_flatten (M : List (List UInt8)) : M.flatten.length = tot M := by rw [tot, List.length_flatten]
theorem hd_len (n : Nat) (h : n < 281474976710656) : (hd n).length ≤ 7 := by
  rw [hd]
  split
  · exact Nat.le_of_ble_eq_true rfl
  · rw [List.length_cons]
    have := digs_len 6 n h
    omega
theorem encN_len (t : UInt8) (b : List UInt8) (h : b.length < 281474976710656) : (encN t b).length ≤ b.length + 8 := by
  rw [encN, List.length_cons, List.length_append]
  have := hd_len b.length h
  omega
theorem jnS_tot : ∀ (l : List Nd), bods l + 8 * l.length < 281474976710656 → tot (jnS l).1 ≤ bods l + 8 * l.length
  | [], _ => Nat.zero_le _
  | n :: r, h => by
    have hb : bods (n :: r) = n.body.length + bods r := by simp [bods]
    rw [hb, List.length_cons] at h ⊢
    have ih := jnS_tot r (by omega)
    rw [jnS]
    split
    · have h1 : tot ((jnS r).1.take n.kids.toNat) + tot ((jnS r).1.drop n.kids.toNat) = tot (jnS r).1 := by rw [← tot_append, List.take_append_drop]
      have h2 := encN_len n.tag ((jnS r).1.take n.kids.toNat).flatten (by rw [tot_flatten]; omega)
      rw [tot_flatten] at h2
      show (encN n.tag _).length + tot _ ≤ _
      omega
    · have h2 := encN_len n.tag n.body (by omega)
      show (encN n.tag _).length + tot _ ≤ _
      omega
theorem jnS_len : ∀ (l : List Nd), (jnS l).1.length ≤ l.length
  | [] => Nat.le_refl _
  | n :: r => by
    have ih := jnS_len r
    rw [jnS]
    split
    · simp only [List.length_cons, List.length_drop]; omega
    · simp only [List.length_cons]; omega
theorem tot_getD (M : List (List UInt8)) (i : Nat) : (M.getD i []).length ≤ tot M := by
  induction M generalizing i with
  | nil => simp
  | cons a M ih =>
    have hc : tot (a :: M) = a.length + tot M := by simp [tot]
    rw [hc]
    cases i with
    | zero => simp
    | succ i =>
      have := ih i
      rw [List.getD_cons_succ]
      omega
/-- a row of texts, the first one on top -/
def mcells (M : List (List UInt8)) : List Value := scells (M.reverse.map fun x => ⟨x.toArray⟩)
theorem mcells_length (M : List (List UInt8)) : (mcells M).length = M.length := by simp [mcells, scells_length]
theorem mcells_cons (x : List UInt8) (M : List (List UInt8)) : mcells (x :: M) = mcells M ++ [.string ⟨x.toArray⟩] := by simp [mcells, scells]
theorem mcells_get (M : List (List UInt8)) (i : Nat) (hi : i < M.length) : (mcells M)[M.length - 1 - i]? = some (.string ⟨(M.getD i []).toArray⟩) := by
  rw [mcells, scells, List.getElem?_map, List.getElem?_map, List.getElem?_reverse (by omega), show M.length - 1 - (M.length - 1 - i) = i by omega, List.getD, List.getElem?_eq_getElem hi]
  rfl
theorem Fits.drop : ∀ {l : List Nd} (i : Nat), Fits l → Fits (l.drop i)
  | l, 0, h => h
  | [], i + 1, h => trivial
  | n :: l, i + 1, h => Fits.drop i h.2
/-- the first k are in order -/
def ordK (K : List (List UInt8)) (k : Nat) : Bool := ordL (K.take k)
theorem ordL_snoc : ∀ (K : List (List UInt8)) (a b : List UInt8), ordL (K ++ [a] ++ [b]) = (ordL (K ++ [a]) && !(Op.bytesLess b a))
  | [], a, b => by simp [ordL]
  | [x], a, b => by simp [ordL, Bool.and_assoc]
  | x :: y :: K, a, b => by
    have ih := ordL_snoc (y :: K) a b
    simp only [List.cons_append, ordL] at ih ⊢
    rw [ih, Bool.and_assoc]
theorem ordK_zero (K : List (List UInt8)) : ordK K 0 = true := rfl
theorem take_succD (K : List (List UInt8)) (k : Nat) (h : k < K.length) : K.take (k + 1) = K.take k ++ [K.getD k []] := by
  rw [List.take_add_one, List.getElem?_eq_getElem h, List.getD, List.getElem?_eq_getElem h]
  rfl
theorem ordK_one (K : List (List UInt8)) (h : 0 < K.length) : ordK K 1 = true := by
  rw [ordK, take_succD K 0 h]
  rfl
theorem ordK_succ (K : List (List UInt8)) (k : Nat) (h : k + 1 < K.length) : ordK K (k + 2) = (ordK K (k + 1) && !(Op.bytesLess (K.getD (k + 1) []) (K.getD k []))) := by
  rw [ordK, ordK, take_succD K (k + 1) h, take_succD K k (by omega), ordL_snoc]
theorem flat_succ (K : List (List UInt8)) (k : Nat) (h : k < K.length) : (K.take (k + 1)).flatten = (K.take k).flatten ++ K.getD k [] := by
  rw [take_succD K k h, List.flatten_append]
  simp
end Go.Proofs.YteglahkgnggmgaaDoor
