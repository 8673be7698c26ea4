/- Keys by their names: the document's ring in memory; At, Uses, Same. -/
import Derived.Test.YtcegihdgnbjclaaRnW
import Derived.BigQuiet
namespace Go.Proofs.Ytcegihdgnbjclaa
open Go.RowKit Go.Maps Go.Sort
open Go.Proofs (encStr)
set_option linter.unusedVariables false
set_option linter.unusedSimpArgs false
namespace Rn
def ncells (C : List Nat) : List Value := icells (C.map Int.ofNat)
theorem ncells_length (C : List Nat) : (ncells C).length = C.length := by rw [ncells, icells_length, List.length_map]
theorem ncells_get (C : List Nat) (j : Nat) (h : j < C.length) : (ncells C)[j]? = some (.int .i64 ((C.getD j 0 : Nat) : Int)) := by
  rw [ncells, icells_get _ _ (by rw [List.length_map]; exact h)]
  simp [List.getD, h]
theorem ncells_set (C : List Nat) (j u : Nat) : (ncells C).set j (.int .i64 (u : Int)) = ncells (C.set j u) := by
  simp [ncells, icells, List.map_set]
/-- the document's ring in memory -/
structure Rf (w : World) (B x : Nat) (vL vT : Value) (L : List En) (C : List Nat) : Prop where
  at0 : At w x 0 [vL, vT]
  oL : w.ownsRow B 51 2 vL L.length (ecells L)
  oT : w.ownsRow B 3 1 vT L.length (ncells C)
  cl : C.length = L.length
  ge : B ≤ x
  nx : some x ≠ vL.ownBlock ∧ some x ≠ vT.ownBlock
def Fb (x : Nat) (vL vT : Value) (k : Nat) : Prop := k = x ∨ some k = vL.ownBlock ∨ some k = vT.ownBlock
theorem Rf.same {w w' : World} {B x : Nat} {vL vT : Value} {L : List En} {C : List Nat} (h : Rf w B x vL vT L C) (hs : ∀ k, Fb x vL vT k → w'.heap[k]? = w.heap[k]?) : Rf w' B x vL vT L C where
  at0 := at_same h.at0 (hs x (.inl rfl))
  oL := own_same h.oL (fun k hk => hs k (.inr (.inl hk.symm)))
  oT := own_same h.oT (fun k hk => hs k (.inr (.inr hk.symm)))
  cl := h.cl
  ge := h.ge
  nx := h.nx
theorem Rf.lt {w : World} {B x : Nat} {vL vT : Value} {L : List En} {C : List Nat} (h : Rf w B x vL vT L C) (k : Nat) (hk : Fb x vL vT k) : B ≤ k ∧ k < w.heap.size := by
  rcases hk with rfl | hk | hk
  · exact ⟨h.ge, h.at0.lt (by simp)⟩
  · exact h.oL.lt k hk.symm
  · exact h.oT.lt k hk.symm
theorem plc_first {x : List UInt8} {L : List En} {i : Nat} (hi : i < L.length) (hb : ∀ j < i, (L.getD j e0).name ≠ x) (h : (L.getD i e0).name = x) : plc x L = some i := by
  have hm : x ∈ names L := by
    rw [names, List.mem_map]
    refine ⟨L.getD i e0, ?_, h⟩
    rw [List.getD, List.getElem?_eq_getElem hi]
    exact List.getElem_mem hi
  cases hp : plc x L with
  | none => exact absurd hm (plc_none.1 hp)
  | some k =>
    obtain ⟨e, h1, h2, h3⟩ := plc_some hp
    have hk := (List.getElem?_eq_some_iff.1 h1).1
    rcases Nat.lt_trichotomy k i with h4 | h4 | h4
    · exact absurd (by rw [List.getD, h1]; exact h2) (hb k h4)
    · rw [h4]
    · exact absurd h (h3 i h4 _ (by rw [List.getElem?_eq_getElem hi, List.getD, List.getElem?_eq_getElem hi]; rfl))
theorem plc_no {x : List UInt8} {L : List En} (hb : ∀ j < L.length, (L.getD j e0).name ≠ x) : plc x L = none := by
  rw [plc_none, names, List.mem_map]
  rintro ⟨e, he, h⟩
  obtain ⟨i, hi, rfl⟩ := List.getElem_of_mem he
  exact hb i hi (by rw [List.getD, List.getElem?_eq_getElem hi]; exact h)
def pI (o : Option Nat) : Int := match o with | some i => (i : Int) | none => -1
section
variable (w : World) (B x : Nat) (vL vT : Value) (L : List En) (C : List Nat)
set_option maxRecDepth 100000 in
set_option maxHeartbeats 1600000 in
theorem rat_any (hR : Rf w B x vL vT L C) (s : ByteArray) (hn : L.length ≤ 64) :
    Calls Try.prog 17 #[.pointer (some ⟨x, 0, none⟩), .string s] w fun e w' => e = .returned (.int .i64 (pI (plc s.toList L))) ∧ w' = w := by
  obtain ⟨R, hR0⟩ : ∃ R, pI (plc s.toList L) = R := ⟨_, rfl⟩
  rw [hR0]
  obtain ⟨n, hn0⟩ : ∃ n, L.length = n := ⟨_, rfl⟩
  obtain ⟨aL, cL, rfl, hg⟩ := own_form hR.oL
  rw [hn0] at hg hR
  have HR := Lib.hid (And.intro hR0 (And.intro hn0 (And.intro hg hR)))
  have HN : Hid (n ≤ 64) := by rw [← hn0]; exact hn
  try rw [hn0]
  clear hR0 hn0 hg hR hn
  go_enter Try.func17, Try.ntmps17
  go_wp2_with fail
  go_loopw [5] (fun vi wr => ∃ i : Nat, vi = .int .i64 (i : Int) ∧ i ≤ n ∧ Hid (∀ j < i, (L.getD j e0).name ≠ s.toList) ∧ wr = w) (fun vi _ => n - (intOf vi).toNat)
  case atStart => exact ⟨0, rfl, Nat.zero_le _, fun j hj => absurd hj (Nat.not_lt_zero _), rfl⟩
  case round =>
    obtain ⟨i, rfl, hin, HB, rfl⟩ := hrel
    obtain ⟨hR0, hn0, hg, hR⟩ := HR.out
    have a0 := hR.at0.cell 0 _ rfl
    rw [Nat.zero_add] at a0
    by_cases hi : i < n
    · obtain ⟨g, rfl⟩ := hg (by omega)
      obtain ⟨e, he⟩ : ∃ e, L.getD i e0 = e := ⟨_, rfl⟩
      have hoL := hR.oL
      rw [hn0] at hoL
      have hX := entry_at (At.ofOwnN hoL) i (by rw [hn0]; exact hi)
      rw [he, Nat.zero_add] at hX
      obtain ⟨sn, hsn⟩ : ∃ s : ByteArray, (⟨e.name.toArray⟩ : ByteArray) = s := ⟨_, rfl⟩
      rw [ev, hsn] at hX
      have hnt : sn.toList = e.name := by rw [← hsn, tl_mk]
      have x0 := hX.cell 0 _ rfl
      rw [Nat.add_zero] at x0
      have e1 : (i : Int) < (n : Int) := by omega
      have e2 : (0 : Int) ≤ (i : Int) := by omega
      have e3 : (i : Int) ≤ 64 := by have := HN.out; omega
      have HI := Lib.hid hi
      have HE := Lib.hid (And.intro he hnt)
      by_cases hq : e.name = s.toList
      · have hq2 : (sn.toList == s.toList) = true := by rw [hnt, hq]; simp
        have HF : Hid (R = (i : Int)) := by
          show R = _
          rw [← hR0, plc_first (by rw [hn0]; exact hi) HB.out (by rw [he]; exact hq)]
          rfl
        clear hR0 hn0 hg hR hX hi hq he hnt hsn hoL
        go_wp2_with fail
        go_ret
        exact ⟨by rw [HF.out]; rfl, rfl⟩
      · have hq2 : (sn.toList == s.toList) = false := by rw [hnt]; simpa using hq
        have HQ := Lib.hid hq
        clear hR0 hn0 hg hR hX hi hq he hnt hsn hoL
        go_wp2_with fail
        go_roundw
        case rel =>
          refine ⟨i + 1, by go_num, HI.out, fun j hj => ?_, by trivial⟩
          by_cases hji : j = i
          · subst hji; rw [HE.out.1]; exact HQ.out
          · exact HB.out j (by omega)
        case measure => have h9 := HI.out; simp [intOf]; omega
    · obtain rfl : i = n := by omega
      have e1 : ¬ (i : Int) < (i : Int) := by omega
      have HF : Hid (R = -1) := by
        show R = _
        rw [← hR0, plc_no (fun j hj => HB.out j (by rw [← hn0]; exact hj))]
        rfl
      clear hR0 hn0 hg hR hi
      go_wp2_with fail
      go_ret
      exact ⟨by rw [HF.out]; rfl, rfl⟩
set_option maxRecDepth 100000 in
set_option maxHeartbeats 1600000 in
theorem ruses_any (hR : Rf w B x vL vT L C) (s : ByteArray) (hn : L.length ≤ 64) :
    Calls Try.prog 21 #[.pointer (some ⟨x, 0, none⟩), .string s] w fun e w' => e = .returned (.int .i64 ((usesN L C s.toList : Nat) : Int)) ∧ w' = w := by
  have AA := rat_any w B x vL vT L C hR s hn
  rw [usesN]
  have a1 := hR.at0.cell 1 _ rfl
  rw [Nat.zero_add] at a1
  cases hp : plc s.toList L with
  | none =>
    rw [hp] at AA
    replace AA := Lib.hid AA
    have e1 : pI none = -1 := rfl
    rw [e1] at AA
    clear hR hn hp
    go_enter Try.func21, Try.ntmps21
    go_wp2_with (go_at_call 17; refine (AA.out).mono ?_; rintro e w ⟨rfl, rfl⟩)
    go_ret
    exact ⟨rfl, rfl⟩
  | some i =>
    rw [hp] at AA
    have hi := plc_lt hp
    replace AA := Lib.hid AA
    have e1 : pI (some i) = (i : Int) := rfl
    rw [e1] at AA
    obtain ⟨aT, cT, rfl, hg⟩ := own_form hR.oT
    obtain ⟨g, rfl⟩ := hg (by omega)
    obtain ⟨n, hn0⟩ : ∃ n, L.length = n := ⟨_, rfl⟩
    have c0 := (At.ofOwnN hR.oT).cell i _ (ncells_get C i (by rw [hR.cl]; exact hi))
    rw [Nat.zero_add] at c0
    obtain ⟨c, hc⟩ : ∃ c, C.getD i 0 = c := ⟨_, rfl⟩
    rw [hc] at c0
    rw [hn0] at hi hn a1
    have e2 : (i : Int) < (n : Int) := by omega
    have e3 : (0 : Int) ≤ (i : Int) := by omega
    have e4 : (i : Int) ≤ 64 := by omega
    have e5 : ¬ (i : Int) < 0 := by omega
    show Calls _ _ _ _ (fun e w' => e = .returned (.int .i64 ((C.getD i 0 : Nat) : Int)) ∧ w' = w)
    rw [hc]
    clear hR hn hp hi hn0 hg hc
    go_enter Try.func21, Try.ntmps21
    go_wp2_with (go_at_call 17; refine (AA.out).mono ?_; rintro e w ⟨rfl, rfl⟩)
    go_ret
    exact ⟨rfl, rfl⟩
end
end Rn
end Go.Proofs.Ytcegihdgnbjclaa
