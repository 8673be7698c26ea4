/- The laws' own: the greatest limits, sameness, copies, what wakes. -/
import Derived.Test.YtikgonlhdkknkaaDoorCpS
namespace Go.Proofs.YtikgonlhdkknkaaDoor
open Go.RowKit
set_option linter.unusedVariables false
set_option linter.unusedSimpArgs false
namespace Co
open Dr (Rs Lm has lack at0S)
set_option maxRecDepth 100000 in
theorem most_any (w : World) : Calls Tryd.prog 11 #[] w (fun e w' => e = .returned (.agg #[.int .i64 32, .int .i64 4096, .int .i64 262144, .int .i64 4096]) ∧ Below w.heap.size w w') := by
  go_enter Tryd.func11, Tryd.ntmps11
  go_wp2_with fail
  have hA := At.ofAlloc w #[.int .i64 32, .int .i64 4096, .int .i64 262144, .int .i64 4096] 33
  refine bodyPost_ret (results_at rfl _ w.heap.size _ _ rfl hA Tryd.underlying33 rfl (by kernel_rfl)) rfl ?_
  exact ⟨rfl, (Below.refl _ _).alloc (Nat.le_refl _) _⟩
theorem Sr.ofOwn {w : World} {B : Nat} {v : Value} {l : List Ra} (h : w.ownsRow B 51 3 v l.length (rcells l)) : Sr w v l := by
  obtain ⟨a, c, rfl, ha⟩ := own_form h
  refine ⟨a, c, rfl, fun hl => ?_⟩
  obtain ⟨g, rfl⟩ := ha (List.length_pos_iff.2 hl)
  exact ⟨g, rfl, At.ofOwnN h, (h.lt g rfl).2⟩
theorem ra_ne {a b : Ra} (h : ¬ a = b) : ¬ a.kind = b.kind ∨ (a.kind = b.kind ∧ ¬ (a.num : Int) = (b.num : Int)) ∨ (a.kind = b.kind ∧ (a.num : Int) = (b.num : Int) ∧ ¬ a.text = b.text) := by
  by_cases h1 : a.kind = b.kind
  · by_cases h2 : (a.num : Int) = (b.num : Int)
    · refine .inr (.inr ⟨h1, h2, fun h3 => h ?_⟩)
      rcases a with ⟨t, k, l⟩
      rcases b with ⟨t', k', l'⟩
      have h6 : t = t' := h1
      have h7 : (k : Int) = (k' : Int) := h2
      have h8 : l = l' := h3
      have h9 : k = k' := by omega
      rw [h6, h9, h8]
    · exact .inr (.inl ⟨h1, h2⟩)
  · exact .inl h1
theorem take_eqD (l m : List Ra) (i : Nat) (hi : i < l.length) (hj : i < m.length) (h : l.take i = m.take i) (he : l.getD i ra0 = m.getD i ra0) : l.take (i + 1) = m.take (i + 1) := by
  rw [List.take_add_one, List.take_add_one, h, List.getElem?_eq_getElem hi, List.getElem?_eq_getElem hj]
  rw [List.getD, List.getD, List.getElem?_eq_getElem hi, List.getElem?_eq_getElem hj] at he
  have he : l[i] = m[i] := he
  rw [he]
def RetRas (l : List Ra) (w : World) (e : Ending) (w' : World) : Prop := ∃ v, e = .returned v ∧ w'.ownsRow w.heap.size 51 3 v l.length (rcells l) ∧ Below w.heap.size w w'
theorem rcells_one (l : List Ra) : ∀ u ∈ rcells l, u.oneCell' = true := by
  intro u hu
  simp only [rcells, List.mem_flatMap] at hu
  obtain ⟨n, _, hn⟩ := hu
  exact rv_one n u hn
/-- limits that one is handed, in memory -/
structure Lm4 (w : World) (g : Nat) (d i b r : Int) : Prop where
  at0 : At w g 0 [.int .i64 d, .int .i64 i, .int .i64 b, .int .i64 r]
  lt : g < w.heap.size
theorem Lm4.below {w w' : World} {g : Nat} {d i b r : Int} (h : Lm4 w g d i b r) (hb : Below w.heap.size w w') : Lm4 w' g d i b r := ⟨h.at0.below hb h.lt, Nat.lt_of_lt_of_le h.lt hb.size⟩
theorem Lm4.ofAlloc (w : World) (d i b r : Int) : Lm4 (w.alloc (Obj.cells #[.int .i64 d, .int .i64 i, .int .i64 b, .int .i64 r] 33)) w.heap.size d i b r := ⟨At.ofAlloc w #[.int .i64 d, .int .i64 i, .int .i64 b, .int .i64 r] 33, by simp⟩
theorem Lm4.alloc {w : World} {g : Nat} {d i b r : Int} (h : Lm4 w g d i b r) (o : Obj) : Lm4 (w.alloc o) g d i b r := ⟨h.at0.alloc o, by have := h.lt; simp; omega⟩
def wkL : List Am := [⟨4, 3, []⟩, ⟨0, 1, []⟩, ⟨1, 0, []⟩, ⟨2, 0, [97]⟩]
theorem enc_wake : enc Lib.validD (wkL.map up) = ([0x83, 1, 0x20, 0x41, 97], 0) := by decide +kernel
set_option maxRecDepth 100000 in
theorem runs_wake : RunsC [0x83, 1, 0x20, 0x41, 97] (limL 32 4096 262144) (.el [] [] 0) (.ok wkL) := by
  refine Runs.el (s := .loop [⟨0, 3, false, false, false, []⟩] [⟨4, 3, []⟩] 1) (by kernel_rfl) (Runs.loop ?_)
  refine Runs.el (s := .pend [⟨0, 3, false, false, false, []⟩] [⟨4, 3, []⟩, ⟨0, 1, []⟩] 1 2) (by kernel_rfl) ?_
  refine Runs.pend (s := .loop [⟨0, 2, false, false, false, []⟩] [⟨4, 3, []⟩, ⟨0, 1, []⟩] 2) (by kernel_rfl) (Runs.loop ?_)
  refine Runs.el (s := .pend [⟨0, 2, false, false, false, []⟩] [⟨4, 3, []⟩, ⟨0, 1, []⟩, ⟨1, 0, []⟩] 2 3) (by kernel_rfl) ?_
  refine Runs.pend (s := .loop [⟨0, 1, false, false, false, []⟩] [⟨4, 3, []⟩, ⟨0, 1, []⟩, ⟨1, 0, []⟩] 3) (by kernel_rfl) (Runs.loop ?_)
  refine Runs.el (s := .pend [⟨0, 1, false, false, false, []⟩] wkL 3 5) (by kernel_rfl) ?_
  refine Runs.pend (s := .loop [⟨0, 0, false, false, false, []⟩] wkL 5) (by kernel_rfl) (Runs.loop ?_)
  refine Runs.pend (s := .loop [] wkL 5) (by kernel_rfl) ?_
  exact Runs.fin
set_option maxRecDepth 100000 in
theorem runs_wake2 : RunsC [0xa2, 97, 98, 1, 97, 97, 1] (limL 32 4096 262144) (.el [] [] 0) (.no 9 4 false) := by
  refine Runs.el (s := .loop [⟨0, 2, true, false, false, []⟩] [⟨5, 2, []⟩] 1) (by kernel_rfl) (Runs.loop ?_)
  refine Runs.el (s := .pend [⟨0, 2, true, false, false, []⟩] [⟨5, 2, []⟩, ⟨3, 0, [98]⟩] 1 3) (by kernel_rfl) ?_
  refine Runs.pend (s := .loop [⟨0, 2, true, true, true, [97, 98]⟩] [⟨5, 2, []⟩, ⟨3, 0, [98]⟩] 3) (by kernel_rfl) (Runs.loop ?_)
  refine Runs.el (s := .pend [⟨0, 2, true, true, true, [97, 98]⟩] [⟨5, 2, []⟩, ⟨3, 0, [98]⟩, ⟨0, 1, []⟩] 3 4) (by kernel_rfl) ?_
  refine Runs.pend (s := .loop [⟨0, 1, true, false, true, [97, 98]⟩] [⟨5, 2, []⟩, ⟨3, 0, [98]⟩, ⟨0, 1, []⟩] 4) (by kernel_rfl) (Runs.loop ?_)
  refine Runs.el (s := .pend [⟨0, 1, true, false, true, [97, 98]⟩] [⟨5, 2, []⟩, ⟨3, 0, [98]⟩, ⟨0, 1, []⟩, ⟨3, 0, [97]⟩] 4 6) (by kernel_rfl) ?_
  exact Runs.pendNo (by kernel_rfl)
theorem wk_dec1 (w : World) (hU : UT w.heap.size w) : Calls Tryd.prog 18 #[.string ⟨#[131, 1, 32, 65, 97]⟩, .agg #[.int .i64 32, .int .i64 4096, .int .i64 262144, .int .i64 4096]] w (fun e w' => ∃ v, e = .returned (.tuple #[v, .int .i64 0, .int .i64 0]) ∧ w'.ownsRow w.heap.size 51 3 v 4 (rcells (wkL.map up)) ∧ Below w.heap.size w w') := by
  refine (decode_any ⟨#[131, 1, 32, 65, 97]⟩ 32 4096 262144 4096 w (by rw [show (⟨#[131, 1, 32, 65, 97]⟩ : ByteArray).size = 5 from rfl]; omega) hU).mono ?_
  rintro e w' ⟨r, hr, v, he, ho, hb⟩
  have h1 := hr.1 (by kernel_rfl)
  rw [show (⟨#[131, 1, 32, 65, 97]⟩ : ByteArray).toList = [131, 1, 32, 65, 97] from tl_mk [131, 1, 32, 65, 97]] at h1
  have h2 := Runs.same _ _ _ _ h1 runs_wake
  subst h2
  exact ⟨v, he, ho, hb⟩
theorem wk_dec2 (w : World) (hU : UT w.heap.size w) : Calls Tryd.prog 18 #[.string ⟨#[162, 97, 98, 1, 97, 97, 1]⟩, .agg #[.int .i64 32, .int .i64 4096, .int .i64 262144, .int .i64 4096]] w (fun e w' => ∃ v, e = .returned (.tuple #[v, .int .i64 4, .int .i64 9]) ∧ Below w.heap.size w w') := by
  refine (decode_any ⟨#[162, 97, 98, 1, 97, 97, 1]⟩ 32 4096 262144 4096 w (by rw [show (⟨#[162, 97, 98, 1, 97, 97, 1]⟩ : ByteArray).size = 7 from rfl]; omega) hU).mono ?_
  rintro e w' ⟨r, hr, v, he, ho, hb⟩
  have h1 := hr.1 (by kernel_rfl)
  rw [show (⟨#[162, 97, 98, 1, 97, 97, 1]⟩ : ByteArray).toList = [162, 97, 98, 1, 97, 97, 1] from tl_mk [162, 97, 98, 1, 97, 97, 1]] at h1
  have h2 := Runs.same _ _ _ _ h1 runs_wake2
  subst h2
  exact ⟨v, he, hb⟩
theorem wk_enc (w : World) (v : Value) (hS : Sr w v (wkL.map up)) (hU : UT w.heap.size w) : Calls Tryd.prog 21 #[v] w (fun e w' => e = .returned (.tuple #[.string ⟨#[131, 1, 32, 65, 97]⟩, .int .i64 0]) ∧ Below w.heap.size w w') := by
  refine (cencode_any (wkL.map up) v w hS (by intro n hn; simp [wkL, up] at hn; rcases hn with rfl | rfl | rfl | rfl <;> decide) (by intro n hn; simp [wkL, up] at hn; rcases hn with rfl | rfl | rfl | rfl <;> decide) (by simp [wkL]) hU).mono ?_
  rintro e w' ⟨s, he, hs, hb⟩
  rw [enc_wake] at he hs
  have h1 : s = ⟨#[131, 1, 32, 65, 97]⟩ := by
    have h2 : (⟨s.toList.toArray⟩ : ByteArray) = s := by rw [Lib.toList_data]
    rw [← h2, hs]
  subst h1
  exact ⟨he, hb⟩
end Co
end Go.Proofs.YtikgonlhdkknkaaDoor
