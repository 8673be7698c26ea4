import Derived.Test.YtikgonlhdkknkaaGreatDoorCtC
set_option linter.unusedVariables false
set_option linter.unusedSimpArgs false
namespace Go.Proofs.YtikgonlhdkknkaaGreatDoor
open Go.RowKit
namespace Co
open Dr (Rs Lm has lack at0S)
section
variable {S : List UInt8} {L : Lm} {txt : List UInt8 → Bool} {ls : List UInt8 → List UInt8 → Bool}
theorem lack_ne {α : Type} {e : Int} {q : Nat} {b : Bool} (h : (lack S L : Rs α) = .no e q b) : e ≠ 0 := by
 rw [lack] at h
 cases h
 rw [Dr.lackE]
 split <;> decide
theorem argB_ne (q : Nat) : ∀ (i : Nat) (e : Int) (x : Nat) (b : Bool), argB S L q i = .no e x b → e ≠ 0
 | 0, e, x, b, h => by cases h
 | i + 1, e, x, b, h => by
  rw [argB] at h
  cases hB : argB S L q i with
  | no e2 x2 b2 => rw [hB] at h; cases h; exact argB_ne q i _ _ _ hB
  | ok m =>
   rw [hB] at h
   dsimp only at h
   split at h
   ·cases h
   ·exact lack_ne h
theorem argR_ne (q : Nat) (e : Int) (x : Nat) (b : Bool) (h : argR S L q = .no e x b) : e ≠ 0 := by
 rw [argR] at h
 cases hB : argB S L q (widT (S.getD q 0)) with
 | no e2 x2 b2 => rw [hB] at h; cases h; exact argB_ne q _ _ _ _ hB
 | ok m =>
  rw [hB] at h
  dsimp only at h
  split at h
  ·cases h
  ·split at h
   ·cases h
   ·cases h; decide
theorem elS_ne {G : List Fr} {l : List Am} {p : Nat} {e : Int} {x : Nat} {b : Bool} (h : elS S L txt G l p = .no e x b) : e ≠ 0 := by
 rw [elS] at h
 by_cases h0 : has S L p = false
 ·rw [if_pos h0] at h; exact lack_ne h
 rw [if_neg h0] at h
 by_cases h1 : L.items ≤ l.length
 ·rw [if_pos h1] at h; cases h; decide
 rw [if_neg h1] at h
 by_cases h2 : headE (S.getD p 0) ≠ 0
 ·rw [if_pos h2] at h; cases h; exact h2
 rw [if_neg h2] at h
 cases hA : argR S L p with
 | no e2 x2 b2 => rw [hA] at h; cases h; exact argR_ne _ _ _ _ hA
 | ok n =>
  rw [hA] at h
  dsimp only at h
  split at h
  ·split at h
   ·exact lack_ne h
   ·split at h
    ·cases h; decide
    ·cases h
  ·split at h
   ·split at h
    ·cases h; decide
    ·cases h
   ·cases h
theorem pendS_ne {G : List Fr} {l : List Am} {a p : Nat} {e : Int} {x : Nat} {b : Bool} (h : pendS S ls G l a p = .no e x b) : e ≠ 0 := by
 cases G with
 | nil => cases h
 | cons f G =>
  rw [pendS] at h
  split at h
  ·split at h
   ·cases h; decide
   ·cases h
  ·cases h
theorem Runs.ne {st : St} {r : Rs (List Am)} (hr : Runs S L txt ls st r) : ∀ e q b, r = .no e q b → e ≠ 0 := by
 induction hr with
 | el _ _ ih => exact ih
 | elNo h => intro e q b h2; cases h2; exact elS_ne h
 | pend _ _ ih => exact ih
 | pendNo h => intro e q b h2; cases h2; exact pendS_ne h
 | loop _ ih => exact ih
 | @fin l0 p =>
  intro e q b h2
  rw [Co.fin] at h2
  split at h2
  ·split at h2
   ·cases h2; decide
   ·exact lack_ne h2
  ·cases h2
theorem Runs.ini {st : St} {r : Rs (List Am)} (hr : Runs S L txt ls st r) : ∀ l, r = .ok l → (stL st).length ≤ L.items → l.length ≤ L.items := by
 induction hr with
 | el h1 _ ih => intro l hl _; exact ih l hl (by rw [elS_len h1]; exact elS_items h1)
 | elNo _ => intro l hl; cases hl
 | pend h1 _ ih => intro l hl hp; exact ih l hl (by rw [(pendS_ok h1).1]; exact hp)
 | pendNo _ => intro l hl; cases hl
 | loop _ ih => intro l hl hp; exact ih l hl (by rw [(loopS_ok ..).1]; exact hp)
 | @fin l0 p => intro l hl hp; rw [← (fin_ok hl).1]; exact hp
theorem elS_bytes {G : List Fr} {l : List Am} {p : Nat} {s : St} (hs : elS S L txt G l p = .ok s) : stP s ≤ L.bytes := by
 obtain ⟨h0, h1, h2, n, hA, hE⟩ := elS_ok hs
 have h3 := argR_pb h0 hA
 cases hE with
 | text g1 g2 g3 =>
  show p + 1 + widT (S.getD p 0) + n ≤ L.bytes
  rcases g2 with rfl | g2
  ·exact h3
  ·have h9 : _ < S.length ∧ _ < L.bytes := of_decide_eq_true g2
   omega
 | hold _ _ => exact h3
 | plain _ _ => exact h3
theorem Runs.inb {st : St} {r : Rs (List Am)} (hr : Runs S L txt ls st r) : ∀ l, r = .ok l → stP st ≤ L.bytes → S.length ≤ L.bytes := by
 induction hr with
 | el h1 _ ih => intro l hl _; exact ih l hl (elS_bytes h1)
 | elNo _ => intro l hl; cases hl
 | pend h1 _ ih => intro l hl hp; exact ih l hl (by rw [(pendS_ok h1).2]; exact hp)
 | pendNo _ => intro l hl; cases hl
 | loop _ ih => intro l hl hp; exact ih l hl (by rw [(loopS_ok ..).2]; exact hp)
 | @fin l0 p => intro l hl hp; have hp' : p ≤ L.bytes := hp; have := (fin_ok hl).2; omega
end
def RetT (w : World) (e : Ending) (w' : World) : Prop := e = .returned (.bool true) ∧ Below w.heap.size w w'
theorem tl_app (a b : ByteArray) : (a ++ b).toList = a.toList ++ b.toList := by rw [Lib.toList_data, Lib.toList_data, Lib.toList_data]; simp [ByteArray.data_append]
structure Just (s : ByteArray) (d i b ro : Int) (l : List Am) : Prop where
 may : 1 ≤ d ∧ d ≤ 32 ∧ 1 ≤ i ∧ i ≤ 4096 ∧ 1 ≤ b ∧ b ≤ 262144 ∧ 1 ≤ ro ∧ ro ≤ 4096
 len : 1 ≤ l.length ∧ (l.length : Int) ≤ i
 size : 1 ≤ s.size ∧ (s.size : Int) ≤ b
 just : RunsC s.toList (limL d l.length s.size) (.el [] [] 0) (.ok l)
end Co
end Go.Proofs.YtikgonlhdkknkaaGreatDoor
namespace Go.Proofs.YtikgonlhdkknkaaGreatDoor
open Go.RowKit
namespace Co
open Dr (Rs Lm has lack at0S)
theorem Its.text_le {txt : List UInt8 → Bool} {d N M o} (h : Its d N M o) : (∀ a ∈ N, okA txt a) → ∀ a ∈ N, a.text.length ≤ M.flatten.length := by
 induction h with
 | nil => intro _ a ha; cases ha
 | @leaf x d N M o hx h ih =>
  intro hall a ha
  rw [List.flatten_cons, lap]
  rcases List.mem_cons.1 ha with rfl | ha
  ·have h1 : a.text.length ≤ (tell a).length := by
    rw [tell]
    split
    ·rw [lap]; omega
    ·rename_i h2
     have h3 := (hall a (List.mem_cons_self ..)).2.2
     have h4 : a.text = [] := by
      rcases h3 with ⟨-, h⟩ | ⟨h, -⟩ | ⟨h, -⟩ | ⟨-, h, -⟩
      ·exact h
      ·exact absurd (.inl h) h2
      ·exact absurd (.inr h) h2
      ·exact h
     rw [h4]
     exact Nat.zero_le _
   omega
  ·have h1 := ih (fun y hy => hall y (List.mem_cons_of_mem _ hy)) a ha
   omega
 | @node x dK K MK oK d N M o hx hm hK h ihK ih =>
  intro hall a ha
  rw [List.flatten_cons, lap, lap]
  rcases List.mem_cons.1 ha with rfl | ha
  ·have h3 := (hall a (List.mem_cons_self ..)).2.2
   have h2 := holds_not hx
   have h4 : a.text = [] := by
    rcases h3 with ⟨-, h⟩ | ⟨h, -⟩ | ⟨h, -⟩ | ⟨-, h, -⟩
    ·exact h
    ·exact absurd (.inl h) h2
    ·exact absurd (.inr h) h2
    ·exact h
   rw [h4]
   exact Nat.zero_le _
  ·rcases List.mem_append.1 ha with ha | ha
   ·have h1 := ihK (fun y hy => hall y (List.mem_cons_of_mem _ (List.mem_append_left _ hy))) a ha
    omega
   ·have h1 := ih (fun y hy => hall y (List.mem_cons_of_mem _ (List.mem_append_right _ hy))) a ha
    omega
theorem read_ok {S : List UInt8} {d i b ro : Int} {l : List Am} (h : DecR S d i b ro (.ok l)) : enc Lib.validD (l.map up) = (S, 0) ∧ (∀ a ∈ l.map up, a.num < 18446744073709551616) ∧ (∀ a ∈ l.map up, a.text.length ≤ 140737488351232) ∧ l.length ≤ 4096 := by
 cases hm : mayOk d i b ro with
 | false => have := h.2 hm; cases this
 | true =>
  have hr := h.1 hm
  have hy := mayOk_yes hm
  obtain ⟨dd, hE, hall, hdd⟩ := Runs.tellOne hr
  have hdd : dd ≤ d.toNat := hdd
  have h1 : l.length ≤ i.toNat := Runs.ini hr l rfl (Nat.zero_le _)
  have h2 : S.length ≤ b.toNat := Runs.inb hr l rfl (Nat.zero_le _)
  have h3 := enc_tree hE hall (by omega)
  rw [if_neg (by omega), if_neg (by decide)] at h3
  refine ⟨h3, fun a ha => ?_, fun a ha => ?_, by omega⟩
  ·obtain ⟨x, hx, rfl⟩ := List.mem_map.1 ha
   exact (hall x hx).1
  ·obtain ⟨x, hx, rfl⟩ := List.mem_map.1 ha
   have h4 := hE.text_le hall x hx
   rw [List.flatten_singleton] at h4
   show x.text.length ≤ _
   omega
def SrO (w : World) (v : Value) (l : List Ra) : Prop := ∃ a cap, v = .slice a l.length cap ∧ (l ≠ [] → ∃ g o, a = some ⟨g, o, none⟩ ∧ At w g o (rcells l) ∧ g < w.heap.size)
theorem SrO.below {w w' : World} {v : Value} {l : List Ra} (h : SrO w v l) (hb : Below w.heap.size w w') : SrO w' v l := by
 obtain ⟨a, cap, hv, h1⟩ := h
 exact ⟨a, cap, hv, fun hl => by obtain ⟨g, o, h2, h3, h4⟩ := h1 hl; exact ⟨g, o, h2, h3.below hb h4, nlt h4 hb.size⟩⟩
theorem at_cellsO {w : World} {k o : Nat} {cs : List Value} (h : At w k o cs) : ∀ j u, cs[j]? = some u → w.cell? ((⟨k, o, none⟩ : Addr).add j) = some u := fun j u hu => by
 have := (h j u hu).1
 unfold Addr.add
 split
 ·rename_i h0; simpa [h0] using this
 ·exact this
theorem rcell_atO {w : World} {g o : Nat} {l : List Ra} (h : At w g o (rcells l)) (i : Nat) (hi : i < l.length) : At w g (o + i * 3) (rv (l.getD i ra0)) := by
 obtain ⟨A, B, hAB, hA⟩ := rv_get l i hi
 rw [hAB] at h
 have h2 := At.sub h
 rw [hA] at h2
 exact h2
end Co
end Go.Proofs.YtikgonlhdkknkaaGreatDoor
