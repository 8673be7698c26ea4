/- Keys by their names: what is done to the lists that went in and came out changes nothing. -/
import Derived.Test.YtcegihdgnbjclaaRnA
namespace Go.Proofs.Ytcegihdgnbjclaa
open Go.RowKit Go.Maps Go.Sort
open Go.Proofs (encStr)
set_option linter.unusedVariables false
set_option linter.unusedSimpArgs false
namespace Rn
theorem idx0 (k o n cap : Nat) (hn : 0 < n) (w : World) : (Instr.indexAt 22 (.slice (some ⟨k, o, none⟩) n cap) (.int .i64 0)).run Try.prog w = .ok (.pointer (some ⟨k, o, none⟩)) w := by
  have hs : (sizeOf (Try.prog.elem 22)).run Try.prog w = .ok 2 w := by kernel_rfl
  rw [run_indexAt_slice (P := Try.prog) w 22 ⟨k, o, none⟩ n cap .i64 0 (by kernel_rfl), if_pos ⟨by omega, by omega⟩, hs]
  simp [Result.andThen, Addr.add]
theorem newGo_ok : ∀ (l S : List En), newGo S l = 0 → ∀ e ∈ l, okE e = true
  | [], _, _ => fun e he => by cases he
  | a :: l, S, h => by
    rw [newGo] at h
    by_cases h1 : okE a = false
    · rw [if_pos h1] at h; cases h
    · rw [if_neg h1] at h
      by_cases h2 : a.name ∈ names S
      · rw [if_pos h2] at h; cases h
      · rw [if_neg h2] at h
        intro e he
        rcases List.mem_cons.1 he with rfl | he
        · simpa using h1
        · exact newGo_ok l _ h e he
theorem newE_ok {l : List En} (h : newE l = 0) : ∀ e ∈ l, e.name.length ≤ 128 := fun e he => by
  rw [newE] at h
  by_cases h1 : 64 < l.length
  · rw [if_pos h1] at h; cases h
  · rw [if_neg h1] at h
    have h2 := newGo_ok l [] h e he
    rw [okE, decide_eq_true_iff] at h2
    exact h2.2.1
theorem plc0 (e : En) (l : List En) : plc e.name (e :: l) = some 0 := by rw [plc, if_pos rfl]
/-- the ring and a row beside it that is written to -/
structure Bes (w0 w : World) (r b : Nat) (ps : List Nat) (v : Value) (dn : Bool) (l : List En) (C : List Nat) (g m : Nat) : Prop where
  rg : Rg w w0.heap.size r b ps v dn l C
  bw : Below w0.heap.size w0 w
  at0 : ∃ cs, At w g 0 cs ∧ cs.length = m
  ap : ¬ Rb r b ps v g
  ge : w0.heap.size ≤ g
theorem Bes.set {w0 w : World} {r b : Nat} {ps : List Nat} {v : Value} {dn : Bool} {l : List En} {C : List Nat} {g m : Nat} (h : Bes w0 w r b ps v dn l C g m) (i : Nat) (u : Value) : Bes w0 (w.setCell ⟨g, i, none⟩ u) r b ps v dn l C g m := by
  refine ⟨h.rg.same (fun k hk => heap_set_ne w _ _ k (fun e => h.ap (by have e : g = k := e; rw [e]; exact hk))), h.bw.setCell (p := ⟨g, i, none⟩) h.ge u, ?_, h.ap, h.ge⟩
  obtain ⟨cs, h1, h2⟩ := h.at0
  have h3 := h1.set i u
  rw [Nat.zero_add] at h3
  exact ⟨_, h3, by rw [List.length_set]; exact h2⟩
theorem Bes.cell {w0 w : World} {r b : Nat} {ps : List Nat} {v : Value} {dn : Bool} {l : List En} {C : List Nat} {g m : Nat} (h : Bes w0 w r b ps v dn l C g m) (i : Nat) (hi : i < m) : ∃ u, w.cell? ⟨g, i, none⟩ = some u ∧ w.frozen? ⟨g, i, none⟩ = false := by
  obtain ⟨cs, h1, h2⟩ := h.at0
  have h3 := h1 i _ (List.getElem?_eq_getElem (show i < cs.length by omega))
  rw [Nat.zero_add] at h3
  exact ⟨_, h3⟩
theorem newE_nil : newE [] = 0 := by decide +kernel
set_option maxRecDepth 100000 in
set_option maxHeartbeats 1600000 in
theorem ringOwn_no (l : List En) (v : Value) (w : World) (hl : El w v l) (hn : l.length ≤ 4398046510976) (hc : newE l ≠ 0) : Calls Try.prog 5 #[v] w (fun e w' => e = .returned (.bool true) ∧ Below w.heap.size w w') := by
  have HLN := Lib.hid hn
  have HL := Lib.hid (And.intro hl hn)
  have hnot : ∀ (x : Bool) (w : World), (Op.unary .not (.bool x)).run Try.prog w = .ok (.bool (!x)) w := fun _ _ => rfl
  have H0 := Lib.hid hc
  obtain ⟨c, hc0⟩ : ∃ c, newE l = c := ⟨_, rfl⟩
  have hc1 : ((c : Int) != 0) = true := by rw [bne_iff_ne]; omega
  have HC := Lib.hid hc0
  obtain ⟨a, cap, rfl, -⟩ := hl
  obtain ⟨n, hn0⟩ : ∃ n, l.length = n := ⟨_, rfl⟩
  rw [hn0] at HL ⊢
  clear hn hc hc0 hn0
  go_enter Try.func5, Try.ntmps5
  go_wp2_with (first
    | (go_at_call 8; refine (copied_any l _ _ HL.out.1 HLN.out).mono ?_; rintro e w1 ⟨v1, rfl, h1, b1⟩; have H1 := Lib.hid (And.intro h1 b1); clear h1 b1)
    | (go_at_call 7; refine (new_any l v1 w1 (El.own H1.out.1)).mono ?_; rintro e w2 (⟨hbad, -⟩ | ⟨-, rfl, b2⟩); exact absurd hbad H0.out; rw [HC.out]; have H2 := Lib.hid (H1.out.2.trans (b2.mono H1.out.2.size)); clear b2)
    | (go_at_call 10; have tok := H4; clear tok; refine (wakes_any w4).mono ?_; rintro e w5 ⟨rfl, b5⟩; have H5 : Hid (Below w.heap.size w w5) := H4.out.trans (b5.mono H4.out.size); clear b5)
    | (go_at_call 10; refine (wakes_any w2).mono ?_; rintro e w4 ⟨rfl, b4⟩; have H4 : Hid (Below w.heap.size w w4) := H2.out.trans (b4.mono H2.out.size); clear b4))
  go_ret
  exact ⟨rfl, H5.out⟩
set_option maxRecDepth 100000 in
set_option maxHeartbeats 1600000 in
theorem ringOwn_nil (a : Option Addr) (cap : Nat) (w : World) : Calls Try.prog 5 #[.slice a 0 cap] w (fun e w' => e = .returned (.bool true) ∧ Below w.heap.size w w') := by
  have hnot : ∀ (x : Bool) (w : World), (Op.unary .not (.bool x)).run Try.prog w = .ok (.bool (!x)) w := fun _ _ => rfl
  go_enter Try.func5, Try.ntmps5
  go_wp2_with (first
    | (go_at_call 8; refine (copied_nil a cap _).mono ?_; rintro e w1 ⟨v1, rfl, h1, b1⟩; have H1 := Lib.hid (And.intro h1 b1); clear h1 b1)
    | (go_at_call 7; refine (new_any [] v1 w1 (El.own H1.out.1)).mono ?_; rintro e w2 (⟨-, r, b, ps, rfl, -, b2⟩ | ⟨hbad, -, -⟩); rotate_left; exact absurd newE_nil hbad; have H2 := Lib.hid (H1.out.2.trans (b2.mono H1.out.2.size)); clear b2)
    | (go_at_call 10; have tok := H4; clear tok; refine (wakes_any w4).mono ?_; rintro e w5 ⟨rfl, b5⟩; have H5 : Hid (Below w.heap.size w w5) := H4.out.trans (b5.mono H4.out.size); clear b5)
    | (go_at_call 10; refine (wakes_any w2).mono ?_; rintro e w4 ⟨rfl, b4⟩; have H4 : Hid (Below w.heap.size w w4) := H2.out.trans (b4.mono H2.out.size); clear b4))
  go_ret
  exact ⟨rfl, H5.out⟩
end Rn
end Go.Proofs.Ytcegihdgnbjclaa
