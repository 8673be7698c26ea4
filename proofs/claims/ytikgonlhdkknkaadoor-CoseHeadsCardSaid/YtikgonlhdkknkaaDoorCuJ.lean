/- Joined by merge.py: CpU CpW CpX. -/
import Derived.Test.YtikgonlhdkknkaaDoorCpT
namespace Go.Proofs.YtikgonlhdkknkaaDoor
open Go.RowKit
set_option linter.unusedVariables false
set_option linter.unusedSimpArgs false
namespace Co
open Dr (Rs Lm has lack at0S)
section
variable {S : List UInt8} {L : Lm} {txt : List UInt8 → Bool} {ls : List UInt8 → List UInt8 → Bool}
theorem lack_ne {α : Type} {e : Int} {q : Nat} {b : Bool} (h : (lack S L : Rs α) = .no e q b) : e ≠ 0 := by
  rw [lack] at h
  cases h
  rw [Dr.lackE]
  split <;> decide
theorem argB_ne (q : Nat) : ∀ (i : Nat) (e : Int) (x : Nat) (b : Bool), argB S L q i = .no e x b → e ≠ 0
  | 0, e, x, b, h => by cases h
  | i + 1, e, x, b, h => by
    rw [argB] at h
    cases hB : argB S L q i with
    | no e2 x2 b2 => rw [hB] at h; cases h; exact argB_ne q i _ _ _ hB
    | ok m =>
      rw [hB] at h
      dsimp only at h
      split at h
      · cases h
      · exact lack_ne h
theorem argR_ne (q : Nat) (e : Int) (x : Nat) (b : Bool) (h : argR S L q = .no e x b) : e ≠ 0 := by
  rw [argR] at h
  cases hB : argB S L q (widT (S.getD q 0)) with
  | no e2 x2 b2 => rw [hB] at h; cases h; exact argB_ne q _ _ _ _ hB
  | ok m =>
    rw [hB] at h
    dsimp only at h
    split at h
    · cases h
    · split at h
      · cases h
      · cases h; decide
theorem elS_ne {G : List Fr} {l : List Am} {p : Nat} {e : Int} {x : Nat} {b : Bool} (h : elS S L txt G l p = .no e x b) : e ≠ 0 := by
  rw [elS] at h
  by_cases h0 : has S L p = false
  · rw [if_pos h0] at h; exact lack_ne h
  rw [if_neg h0] at h
  by_cases h1 : L.items ≤ l.length
  · rw [if_pos h1] at h; cases h; decide
  rw [if_neg h1] at h
  by_cases h2 : headE (S.getD p 0) ≠ 0
  · rw [if_pos h2] at h; cases h; exact h2
  rw [if_neg h2] at h
  cases hA : argR S L p with
  | no e2 x2 b2 => rw [hA] at h; cases h; exact argR_ne _ _ _ _ hA
  | ok n =>
    rw [hA] at h
    dsimp only at h
    split at h
    · split at h
      · exact lack_ne h
      · split at h
        · cases h; decide
        · cases h
    · split at h
      · split at h
        · cases h; decide
        · cases h
      · cases h
theorem pendS_ne {G : List Fr} {l : List Am} {a p : Nat} {e : Int} {x : Nat} {b : Bool} (h : pendS S ls G l a p = .no e x b) : e ≠ 0 := by
  cases G with
  | nil => cases h
  | cons f G =>
    rw [pendS] at h
    split at h
    · split at h
      · cases h; decide
      · cases h
    · cases h
theorem Runs.ne {st : St} {r : Rs (List Am)} (hr : Runs S L txt ls st r) : ∀ e q b, r = .no e q b → e ≠ 0 := by
  induction hr with
  | el _ _ ih => exact ih
  | elNo h => intro e q b h2; cases h2; exact elS_ne h
  | pend _ _ ih => exact ih
  | pendNo h => intro e q b h2; cases h2; exact pendS_ne h
  | loop _ ih => exact ih
  | @fin l0 p =>
    intro e q b h2
    rw [Co.fin] at h2
    split at h2
    · split at h2
      · cases h2; decide
      · exact lack_ne h2
    · cases h2
theorem Runs.ini {st : St} {r : Rs (List Am)} (hr : Runs S L txt ls st r) : ∀ l, r = .ok l → (stL st).length ≤ L.items → l.length ≤ L.items := by
  induction hr with
  | el h1 _ ih => intro l hl _; exact ih l hl (by rw [elS_len h1]; exact elS_items h1)
  | elNo _ => intro l hl; cases hl
  | pend h1 _ ih => intro l hl hp; exact ih l hl (by rw [(pendS_ok h1).1]; exact hp)
  | pendNo _ => intro l hl; cases hl
  | loop _ ih => intro l hl hp; exact ih l hl (by rw [(loopS_ok ..).1]; exact hp)
  | @fin l0 p => intro l hl hp; rw [← (fin_ok hl).1]; exact hp
theorem elS_bytes {G : List Fr} {l : List Am} {p : Nat} {s : St} (hs : elS S L txt G l p = .ok s) : stP s ≤ L.bytes := by
  obtain ⟨h0, h1, h2, n, hA, hE⟩ := elS_ok hs
  have h3 := argR_pb h0 hA
  cases hE with
  | text g1 g2 g3 =>
    show p + 1 + widT (S.getD p 0) + n ≤ L.bytes
    rcases g2 with rfl | g2
    · exact h3
    · have h9 : _ < S.length ∧ _ < L.bytes := of_decide_eq_true g2
      omega
  | hold _ _ => exact h3
  | plain _ _ => exact h3
theorem Runs.inb {st : St} {r : Rs (List Am)} (hr : Runs S L txt ls st r) : ∀ l, r = .ok l → stP st ≤ L.bytes → S.length ≤ L.bytes := by
  induction hr with
  | el h1 _ ih => intro l hl _; exact ih l hl (elS_bytes h1)
  | elNo _ => intro l hl; cases hl
  | pend h1 _ ih => intro l hl hp; exact ih l hl (by rw [(pendS_ok h1).2]; exact hp)
  | pendNo _ => intro l hl; cases hl
  | loop _ ih => intro l hl hp; exact ih l hl (by rw [(loopS_ok ..).2]; exact hp)
  | @fin l0 p => intro l hl hp; have hp' : p ≤ L.bytes := hp; have := (fin_ok hl).2; omega
theorem Runs.one {l : List Am} (hr : Runs S L txt ls (.el [] [] 0) (.ok l)) : 1 ≤ l.length ∧ 1 ≤ S.length := by
  cases hr with
  | el h1 h2 =>
    have h3 := Runs.long h2 l rfl
    rw [elS_len h1] at h3
    obtain ⟨h0, -⟩ := elS_ok h1
    have h5 : 0 < S.length ∧ 0 < L.bytes := of_decide_eq_true h0
    exact ⟨by simpa using h3, h5.1⟩
end
theorem Sr.ofOwnA {w : World} {B : Nat} {v : Value} {l : List Am} (h : w.ownsRow B 51 3 v l.length (rcells (l.map up))) : Sr w v (l.map up) := Sr.ofOwn (by rw [List.length_map]; exact h)
def RetT (w : World) (e : Ending) (w' : World) : Prop := e = .returned (.bool true) ∧ Below w.heap.size w w'
theorem tl_app (a b : ByteArray) : (a ++ b).toList = a.toList ++ b.toList := by rw [Lib.toList_data, Lib.toList_data, Lib.toList_data]; simp [ByteArray.data_append]
def MoL : Lm := limL 32 4096 262144
/-- reading within the greatest limits: what the answer is -/
def RetDm (s : ByteArray) (w : World) (e : Ending) (w' : World) : Prop :=
  ∃ r, RunsC s.toList MoL (.el [] [] 0) r ∧ ∃ v, e = .returned (.tuple #[v, .int .i64 (decP r : Int), .int .i64 (decE r)]) ∧ w'.ownsRow w.heap.size 51 3 v (decL r).length (rcells ((decL r).map up)) ∧ Below w.heap.size w w'
theorem decm_any (s : ByteArray) (w : World) (hz : s.size ≤ 140737488351232) (hU : UT w.heap.size w) : Calls Tryd.prog 18 #[.string s, .agg #[.int .i64 32, .int .i64 4096, .int .i64 262144, .int .i64 4096]] w (RetDm s w) := by
  refine (decode_any s 32 4096 262144 4096 w hz hU).mono ?_
  rintro e w' ⟨r, hr, v, he, ho, hb⟩
  exact ⟨r, hr.1 (by kernel_rfl), v, he, ho, hb⟩
theorem decm_is (s : ByteArray) (w : World) (hz : s.size ≤ 140737488351232) (hU : UT w.heap.size w) (r : Rs (List Am)) (hr : RunsC s.toList MoL (.el [] [] 0) r) (p : Nat) (c : Int) (hp : decP r = p) (hc : decE r = c) :
    Calls Tryd.prog 18 #[.string s, .agg #[.int .i64 32, .int .i64 4096, .int .i64 262144, .int .i64 4096]] w (fun e w' => ∃ v, e = .returned (.tuple #[v, .int .i64 (p : Int), .int .i64 c]) ∧ Hid (Below w.heap.size w w')) := by
  refine (decm_any s w hz hU).mono ?_
  rintro e w' ⟨r', hr', v, he, ho, hb⟩
  have h1 := Runs.same _ _ _ _ hr hr'
  subst h1
  exact ⟨v, by rw [he, hp, hc], hb⟩
theorem dcv_after (f : Nat) (hf : f < 256) (c : ByteArray) (hc : c = ⟨[UInt8.ofNat f].toArray⟩) {w w3 : World} (hb : Below (w.alloc (Obj.cells #[.int .u8 (f : Int)] 5)).drew.heap.size (w.alloc (Obj.cells #[.int .u8 (f : Int)] 5)).drew w3) :
    (convert 82 9 (.slice (some ⟨w.heap.size, 0, none⟩) 1 1)).run Tryd.prog w3 = .ok (.string c) w3 := by
  have e9 : (f : Int) = ((UInt8.ofNat f).toNat : Int) := by simp; omega
  have hA : At (w.alloc (Obj.cells #[.int .u8 (f : Int)] 5)).drew w.heap.size 0 (bcells [UInt8.ofNat f]) := by
    have h := At.ofAlloc w #[.int .u8 ((UInt8.ofNat f).toNat : Int)] 5
    rw [← e9] at h
    have e : bcells [UInt8.ofNat f] = [.int .u8 (f : Int)] := by rw [e9]; rfl
    rw [e]
    exact h
  have hcv := dcv_at (P := Tryd.prog) (cap := 1) (hA.below hb (by simp)) 82 9 5 1 rfl Tryd.underlying82 Tryd.underlying5 Tryd.underlying9
  rw [← hc] at hcv
  exact hcv
theorem dcv_byteD (f : Nat) (hf : f < 256) (c : ByteArray) (hc : c = ⟨[UInt8.ofNat f].toArray⟩) : ∀ w' : World, (convert 82 9 (.slice (some ⟨w'.heap.size, 0, none⟩) 1 1)).run Tryd.prog (w'.alloc (Obj.cells #[.int .u8 (f : Int)] 5)).drew = .ok (.string c) (w'.alloc (Obj.cells #[.int .u8 (f : Int)] 5)).drew := fun w' => dcv_byte f hf c hc w'.drew
theorem u8_of_wf {a : Int} (h : (Lit.int .u8 a).wf = true) : ∃ n : Nat, a = (n : Int) ∧ n < 256 := by
  have h2 : IntKind.u8.min ≤ a ∧ a ≤ IntKind.u8.max := by simpa [Lit.wf] using h
  have e1 : IntKind.u8.min = 0 := by decide
  have e2 : IntKind.u8.max = 255 := by decide
  obtain ⟨n, rfl⟩ := Int.eq_ofNat_of_zero_le (a := a) (by omega)
  exact ⟨n, rfl, by omega⟩
theorem cut_runs {s : ByteArray} {l : List Am} (hr : RunsC s.toList MoL (.el [] [] 0) (.ok l)) (k : Nat) (hk : k < s.size) (hz : s.size < 262144) : RunsC (s.extract 0 k).toList MoL (.el [] [] 0) (.no 9 k true) := by
  rw [tl_extract]
  have h := Runs.off (Off.cut (S := s.toList) (L := MoL) (a := k) (by rw [tl_size]; exact hk) (by rw [tl_size]; show s.size ≤ 262144; omega)) hr l rfl (Nat.zero_le _) (Runs.ini hr l rfl (Nat.zero_le _))
  exact h
theorem behind_runs {s c : ByteArray} {l : List Am} (m : UInt8) (hc : c.toList = [m]) (hr : RunsC s.toList MoL (.el [] [] 0) (.ok l)) (hz : s.size < 262144) : RunsC (s ++ c).toList MoL (.el [] [] 0) (.no 9 s.size false) := by
  rw [tl_app, hc, ← tl_size s]
  exact Runs.behind (m := m) (by rw [tl_size]; show s.size < 262144; omega) hr l rfl (Nat.zero_le _)
theorem dec_is (s : ByteArray) (d i b ro : Int) (w : World) (hz : s.size ≤ 140737488351232) (hU : UT w.heap.size w) (r : Rs (List Am)) (hm : mayOk d i b ro = true) (hr : RunsC s.toList (limL d i b) (.el [] [] 0) r) :
    Calls Tryd.prog 18 #[.string s, .agg #[.int .i64 d, .int .i64 i, .int .i64 b, .int .i64 ro]] w (fun e w' => ∃ v, e = .returned (.tuple #[v, .int .i64 (decP r : Int), .int .i64 (decE r)]) ∧ Hid (Sr w' v ((decL r).map up)) ∧ Hid (Below w.heap.size w w')) := by
  refine (decode_any s d i b ro w hz hU).mono ?_
  rintro e w' ⟨r', hr', v, he, ho, hb⟩
  have h1 := Runs.same _ _ _ _ hr (hr'.1 hm)
  subst h1
  exact ⟨v, he, Sr.ofOwnA ho, hb⟩
/-- what all of a text's limits come to when it is read -/
structure Just (s : ByteArray) (d i b ro : Int) (l : List Am) : Prop where
  may : 1 ≤ d ∧ d ≤ 32 ∧ 1 ≤ i ∧ i ≤ 4096 ∧ 1 ≤ b ∧ b ≤ 262144 ∧ 1 ≤ ro ∧ ro ≤ 4096
  len : 1 ≤ l.length ∧ (l.length : Int) ≤ i
  size : 1 ≤ s.size ∧ (s.size : Int) ≤ b
  just : RunsC s.toList (limL d l.length s.size) (.el [] [] 0) (.ok l)
theorem just_of {s : ByteArray} {d i b ro : Int} {l : List Am} (h : DecR s.toList d i b ro (.ok l)) : Just s d i b ro l := by
  cases hm : mayOk d i b ro with
  | false => have := h.2 hm; cases this
  | true =>
    have hr := h.1 hm
    have hy := mayOk_yes hm
    have h1 := Runs.one hr
    have h2 := Runs.ini hr l rfl (Nat.zero_le _)
    have h3 := Runs.inb hr l rfl (Nat.zero_le _)
    rw [tl_size] at h1 h3
    have h4 : l.length ≤ i.toNat := h2
    have h5 : s.size ≤ b.toNat := h3
    refine ⟨hy, ⟨h1.1, by omega⟩, ⟨h1.2, by omega⟩, ?_⟩
    have h6 := Runs.just (d := d.toNat) (i := i.toNat) (b := b.toNat) hr
    rw [tl_size] at h6
    exact h6
theorem Just.few {s : ByteArray} {d i b ro : Int} {l : List Am} (h : Just s d i b ro l) (k : Nat) (hk : k + 1 = l.length) : ∃ q b, RunsC s.toList (limL d k s.size) (.el [] [] 0) (.no 10 q b) :=
  Runs.few (L := limL d l.length s.size) (L' := limL d k s.size) (fun q hq => hq) (Nat.le_refl _) h.just l rfl (by have := h.len; show 0 < l.length; omega) hk
theorem Just.less {s : ByteArray} {d i b ro : Int} {l : List Am} (h : Just s d i b ro l) (k : Nat) (hk : k + 1 = s.size) : RunsC s.toList (limL d l.length k) (.el [] [] 0) (.no 10 k false) :=
  Runs.off (Off.less (L := limL d l.length s.size) (L' := limL d l.length k) (by rw [tl_size]; exact hk) (Nat.le_refl _)) h.just l rfl (Nat.zero_le _) (Nat.le_refl _)
theorem limL_le {d i b d' i' b' : Int} (h1 : d ≤ d') (h2 : i ≤ i') (h3 : b ≤ b') : LmLe (limL d i b) (limL d' i' b') := ⟨by show d.toNat ≤ d'.toNat; omega, by show i.toNat ≤ i'.toNat; omega, by show b.toNat ≤ b'.toNat; omega⟩
theorem Just.great {s : ByteArray} {d i b ro d' i' b' : Int} {l : List Am} (h : Just s d i b ro l) (h1 : d ≤ d') (h2 : i ≤ i') (h3 : b ≤ b') : RunsC s.toList (limL d' i' b') (.el [] [] 0) (.ok l) :=
  Runs.more (limL_le h1 (by have := h.len.2; omega) (by have := h.size.2; omega)) h.just
theorem mayOk_in {d i b r : Int} (h : 1 ≤ d ∧ d ≤ 32 ∧ 1 ≤ i ∧ i ≤ 4096 ∧ 1 ≤ b ∧ b ≤ 262144 ∧ 1 ≤ r ∧ r ≤ 4096) : mayOk d i b r = true := decide_eq_true h
theorem mayOk_out {d i b r : Int} (h : ¬ (1 ≤ i ∧ 1 ≤ b)) : mayOk d i b r = false := decide_eq_false (fun h2 => h ⟨h2.2.2.1, h2.2.2.2.2.1⟩)
theorem few_any {s : ByteArray} {d i b ro : Int} {l : List Am} (h : Just s d i b ro l) (k : Nat) (hk : k + 1 = l.length) (w : World) (hz : s.size ≤ 140737488351232) (hU : UT w.heap.size w) :
    Calls Tryd.prog 18 #[.string s, .agg #[.int .i64 d, .int .i64 (k : Int), .int .i64 (s.size : Int), .int .i64 1]] w (fun e w' => ∃ (v : Value) (p : Nat) (c : Int), e = .returned (.tuple #[v, .int .i64 (p : Int), .int .i64 c]) ∧ (k < 1 ∨ c = 10) ∧ Hid (Below w.heap.size w w')) := by
  refine (decode_any s d k s.size 1 w hz hU).mono ?_
  rintro e w' ⟨r, hr, v, he, ho, hb⟩
  refine ⟨v, _, _, he, ?_, hb⟩
  by_cases h1 : k < 1
  · exact .inl h1
  · have h2 := h.may
    have h3 := h.len
    have h4 := h.size
    obtain ⟨q, b2, h5⟩ := h.few k hk
    have h6 := Runs.same _ _ _ _ (hr.1 (mayOk_in (by omega))) h5
    subst h6
    exact .inr rfl
theorem less_any {s : ByteArray} {d i b ro : Int} {l : List Am} (h : Just s d i b ro l) (k : Nat) (hk : k + 1 = s.size) (w : World) (hz : s.size ≤ 140737488351232) (hU : UT w.heap.size w) :
    Calls Tryd.prog 18 #[.string s, .agg #[.int .i64 d, .int .i64 (l.length : Int), .int .i64 (k : Int), .int .i64 1]] w (fun e w' => ∃ (v : Value) (p : Nat) (c : Int), e = .returned (.tuple #[v, .int .i64 (p : Int), .int .i64 c]) ∧ (k < 1 ∨ (c = 10 ∧ p = k)) ∧ Hid (Below w.heap.size w w')) := by
  refine (decode_any s d l.length k 1 w hz hU).mono ?_
  rintro e w' ⟨r, hr, v, he, ho, hb⟩
  refine ⟨v, _, _, he, ?_, hb⟩
  by_cases h1 : k < 1
  · exact .inl h1
  · have h2 := h.may
    have h3 := h.len
    have h4 := h.size
    have h6 := Runs.same _ _ _ _ (hr.1 (mayOk_in (by omega))) (h.less k hk)
    subst h6
    exact .inr ⟨rfl, rfl⟩
end Co
end Go.Proofs.YtikgonlhdkknkaaDoor
namespace Go.Proofs.YtikgonlhdkknkaaDoor
open Go.RowKit
set_option linter.unusedVariables false
set_option linter.unusedSimpArgs false
namespace Co
open Dr (Rs Lm has lack at0S)
theorem Its.text_le {txt : List UInt8 → Bool} {d N M o} (h : Its d N M o) : (∀ a ∈ N, okA txt a) → ∀ a ∈ N, a.text.length ≤ M.flatten.length := by
  induction h with
  | nil => intro _ a ha; cases ha
  | @leaf x d N M o hx h ih =>
    intro hall a ha
    rw [List.flatten_cons, List.length_append]
    rcases List.mem_cons.1 ha with rfl | ha
    · have h1 : a.text.length ≤ (tell a).length := by
        rw [tell]
        split
        · rw [List.length_append]; omega
        · rename_i h2
          have h3 := (hall a (List.mem_cons_self ..)).2.2
          have h4 : a.text = [] := by
            rcases h3 with ⟨-, h⟩ | ⟨h, -⟩ | ⟨h, -⟩ | ⟨-, h, -⟩
            · exact h
            · exact absurd (.inl h) h2
            · exact absurd (.inr h) h2
            · exact h
          rw [h4]
          exact Nat.zero_le _
      omega
    · have h1 := ih (fun y hy => hall y (List.mem_cons_of_mem _ hy)) a ha
      omega
  | @node x dK K MK oK d N M o hx hm hK h ihK ih =>
    intro hall a ha
    rw [List.flatten_cons, List.length_append, List.length_append]
    rcases List.mem_cons.1 ha with rfl | ha
    · have h3 := (hall a (List.mem_cons_self ..)).2.2
      have h2 := holds_not hx
      have h4 : a.text = [] := by
        rcases h3 with ⟨-, h⟩ | ⟨h, -⟩ | ⟨h, -⟩ | ⟨-, h, -⟩
        · exact h
        · exact absurd (.inl h) h2
        · exact absurd (.inr h) h2
        · exact h
      rw [h4]
      exact Nat.zero_le _
    · rcases List.mem_append.1 ha with ha | ha
      · have h1 := ihK (fun y hy => hall y (List.mem_cons_of_mem _ (List.mem_append_left _ hy))) a ha
        omega
      · have h1 := ih (fun y hy => hall y (List.mem_cons_of_mem _ (List.mem_append_right _ hy))) a ha
        omega
/-- what is read is a right list, told by the bytes that it was -/
theorem read_ok {S : List UInt8} {d i b ro : Int} {l : List Am} (h : DecR S d i b ro (.ok l)) : enc Lib.validD (l.map up) = (S, 0) ∧ (∀ a ∈ l.map up, a.num < 18446744073709551616) ∧ (∀ a ∈ l.map up, a.text.length ≤ 140737488351232) ∧ l.length ≤ 4096 := by
  cases hm : mayOk d i b ro with
  | false => have := h.2 hm; cases this
  | true =>
    have hr := h.1 hm
    have hy := mayOk_yes hm
    obtain ⟨dd, hE, hall, hdd⟩ := Runs.tellOne hr
    have hdd : dd ≤ d.toNat := hdd
    have h1 : l.length ≤ i.toNat := Runs.ini hr l rfl (Nat.zero_le _)
    have h2 : S.length ≤ b.toNat := Runs.inb hr l rfl (Nat.zero_le _)
    have h3 := enc_tree hE hall (by omega)
    rw [if_neg (by omega), if_neg (by decide)] at h3
    refine ⟨h3, fun a ha => ?_, fun a ha => ?_, by omega⟩
    · obtain ⟨x, hx, rfl⟩ := List.mem_map.1 ha
      exact (hall x hx).1
    · obtain ⟨x, hx, rfl⟩ := List.mem_map.1 ha
      have h4 := hE.text_le hall x hx
      rw [List.flatten_singleton] at h4
      show x.text.length ≤ _
      omega
end Co
end Go.Proofs.YtikgonlhdkknkaaDoor
namespace Go.Proofs.YtikgonlhdkknkaaDoor
open Go.RowKit
set_option linter.unusedVariables false
set_option linter.unusedSimpArgs false
namespace Co
open Dr (Rs Lm has lack at0S)
def SrO (w : World) (v : Value) (l : List Ra) : Prop := ∃ a cap, v = .slice a l.length cap ∧ (l ≠ [] → ∃ g o, a = some ⟨g, o, none⟩ ∧ At w g o (rcells l) ∧ g < w.heap.size)
theorem SrO.below {w w' : World} {v : Value} {l : List Ra} (h : SrO w v l) (hb : Below w.heap.size w w') : SrO w' v l := by
  obtain ⟨a, cap, hv, h1⟩ := h
  exact ⟨a, cap, hv, fun hl => by obtain ⟨g, o, h2, h3, h4⟩ := h1 hl; exact ⟨g, o, h2, h3.below hb h4, Nat.lt_of_lt_of_le h4 hb.size⟩⟩
theorem at_cellsO {w : World} {k o : Nat} {cs : List Value} (h : At w k o cs) : ∀ j u, cs[j]? = some u → w.cell? ((⟨k, o, none⟩ : Addr).add j) = some u := fun j u hu => by
  have := (h j u hu).1
  unfold Addr.add
  split
  · rename_i h0; simpa [h0] using this
  · exact this
theorem rcell_atO {w : World} {g o : Nat} {l : List Ra} (h : At w g o (rcells l)) (i : Nat) (hi : i < l.length) : At w g (o + i * 3) (rv (l.getD i ra0)) := by
  obtain ⟨A, B, hAB, hA⟩ := rv_get l i hi
  rw [hAB] at h
  have h2 := At.sub h
  rw [hA] at h2
  exact h2
end Co
end Go.Proofs.YtikgonlhdkknkaaDoor
