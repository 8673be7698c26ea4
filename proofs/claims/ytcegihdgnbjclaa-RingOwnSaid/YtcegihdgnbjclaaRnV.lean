/- Keys by their names: what a ring is asked. -/
import Derived.Test.YtcegihdgnbjclaaRnU
import Derived.WalkSpells
namespace Go.Proofs.Ytcegihdgnbjclaa
open Go.RowKit Go.Maps Go.Sort
open Go.Proofs (encStr)
set_option linter.unusedVariables false
set_option linter.unusedSimpArgs false
namespace Rn
set_option maxRecDepth 100000 in
theorem none_nil (w : World) : Calls Try.prog 23 #[.pointer none] w fun e w' => e = .returned (.bool true) ∧ w' = w := by
  go_enter Try.func23, Try.ntmps23
  go_wp2
  go_ret
  exact ⟨rfl, rfl⟩
set_option maxRecDepth 100000 in
theorem none_map (w : World) (r : Nat) (m : Option Nat) (h : w.cell? ⟨r, 0, none⟩ = some (.map m)) : Calls Try.prog 23 #[.pointer (some ⟨r, 0, none⟩)] w fun e w' => e = .returned (.bool m.isNone) ∧ w' = w := by
  have qT : ∀ (w : World) (r : Option Nat), (binOp .eql 52 (.map r) (.map none)).run Try.prog w = .ok (.bool r.isNone) w := fun w r => run_eql_map_nil w _ _ _ r Try.underlying52
  go_enter Try.func23, Try.ntmps23
  go_wp2
  go_ret
  exact ⟨rfl, rfl⟩
def findK (L : List En) (x : List UInt8) : List UInt8 := match plc x L with | some i => (L.getD i e0).key | none => []
def findC (L : List En) (x : List UInt8) : Int := match plc x L with | some _ => 0 | none => 12
def findN (L : List En) (C : List Nat) (x : List UInt8) : List Nat := match plc x L with | some i => C.set i (C.getD i 0 + 1) | none => C
theorem findN_le {L : List En} {C : List Nat} {x : List UInt8} {K : Nat} (h : ∀ i, C.getD i 0 ≤ K) : ∀ i, (findN L C x).getD i 0 ≤ K + 1 := by
  intro i
  rw [findN]
  cases plc x L with
  | none => exact Nat.le_succ_of_le (h i)
  | some j =>
    show (C.set j (C.getD j 0 + 1)).getD i 0 ≤ K + 1
    rw [List.getD, List.getElem?_set]
    split
    · split
      · simp only [Option.getD_some]; have := h j; omega
      · simp
    · exact Nat.le_succ_of_le (h i)
theorem set_get (C : List Nat) (i j u : Nat) (h : i < C.length) : (C.set i u).getD j 0 = if i = j then u else C.getD j 0 := by
  rw [List.getD, List.getElem?_set]
  by_cases hij : i = j
  · subst hij; simp [h]
  · simp [hij, List.getD]
/-- a place is counted -/
theorem Rg.bump {w : World} {B r b : Nat} {ps : List Nat} {v : Value} {dn : Bool} {L : List En} {C : List Nat} (h : Rg w B r b ps v dn L C) (i p : Nat) (hp : ps[i]? = some p) : Rg (w.setCell ⟨p, 1, none⟩ (.int .i64 ((C.getD i 0 + 1 : Nat) : Int))) B r b ps v dn L (C.set i (C.getD i 0 + 1)) := by
  have hpm := List.mem_of_getElem? hp
  have hi : i < ps.length := (List.getElem?_eq_some_iff.1 hp).1
  exact {
    at0 := at_same h.at0 (heap_set_ne w _ _ r (fun e => h.rp (e ▸ hpm)))
    mp := h.mp.same (heap_set_ne w _ _ b (fun e => h.mp.ne_at (h.pa i p hp) e.symm))
    pl := h.pl
    cl := by rw [List.length_set]; exact h.cl
    pa := fun j q hq => by
      rw [set_get _ _ _ _ (by rw [h.cl, ← h.pl]; exact hi)]
      by_cases hij : i = j
      · subst hij
        obtain rfl : p = q := Option.some.inj (hp.symm.trans hq)
        rw [if_pos rfl]
        have h9 := (h.pa i p hp).set 1 (.int .i64 ((C.getD i 0 + 1 : Nat) : Int))
        rw [Nat.zero_add] at h9
        exact h9
      · rw [if_neg hij]
        refine at_same (h.pa j q hq) (heap_set_ne w _ _ q ?_)
        intro e
        have e : p = q := e
        subst e
        obtain ⟨hi2, hg⟩ := List.getElem?_eq_some_iff.1 hp
        obtain ⟨hj2, hg2⟩ := List.getElem?_eq_some_iff.1 hq
        have hpw := List.pairwise_iff_getElem.1 h.pn
        rcases Nat.lt_or_gt_of_ne hij with h8 | h8
        · exact hpw i j hi2 hj2 h8 (hg.trans hg2.symm)
        · exact hpw j i hj2 hi2 h8 (hg2.trans hg.symm)
    nd := h.nd
    pn := h.pn
    rp := h.rp
    len := h.len
    ge := h.ge
    ow := fun hd => ⟨own_set (h.ow hd).1 _ _ (fun k hk e => (h.ow hd).2.2 p hpm (by rw [hk]; exact congrArg some e)), (h.ow hd).2⟩
    no := h.no }
def RetFind (w : World) (B r b : Nat) (ps : List Nat) (v : Value) (dn : Bool) (L : List En) (C : List Nat) (x : List UInt8) (e : Ending) (w' : World) : Prop :=
  e = .returned (.tuple #[.string ⟨(findK L x).toArray⟩, .int .i64 (findC L x)]) ∧ Rg w' B r b ps v dn L (findN L C x) ∧ Kp (fun k => k ∈ ps) w w'
theorem blk_some {w : World} {B r b : Nat} {ps : List Nat} {v : Value} {dn : Bool} {L : List En} {C : List Nat} (h : Rg w B r b ps v dn L C) {x : List UInt8} {i : Nat} (hi : plc x L = some i) : ∃ p, ps[i]? = some p ∧ blk x L ps = some p := by
  have h1 := plc_lt hi
  have h2 : i < ps.length := by rw [h.pl]; exact h1
  exact ⟨ps[i], List.getElem?_eq_getElem h2, by rw [blk, hi]; exact List.getElem?_eq_getElem h2⟩
set_option maxRecDepth 100000 in
set_option maxHeartbeats 1600000 in
theorem find_any (w : World) (B r b : Nat) (ps : List Nat) (v : Value) (dn : Bool) (L : List En) (C : List Nat) (hR : Rg w B r b ps v dn L C) (hC : ∀ i, C.getD i 0 ≤ 1000000) (s : ByteArray) (hs : s.size ≤ 140737488351232) :
    Calls Try.prog 14 #[.pointer (some ⟨r, 0, none⟩), .string s] w (RetFind w B r b ps v dn L C s.toList) := by
  have c0 := hR.at0.cell 0 _ rfl
  rw [Nat.zero_add] at c0
  have NN := Lib.hid (none_map w r (some b) c0)
  have HR := Lib.hid hR
  have lk := hR.mp.look s hs
  cases hpl : plc s.toList L with
  | none =>
    have hb : blk s.toList L ps = none := by rw [blk, hpl]; rfl
    rw [hb] at lk
    replace lk : (Instr.lookup 52 (.map (some b)) (.string s) false).run Try.prog w = .ok (.pointer none) w := lk
    have HP := Lib.hid hpl
    clear hR hpl hb hC hs
    go_enter Try.func14, Try.ntmps14
    go_wp2_with (go_at_call 23; refine (NN.out).mono ?_; rintro e w' ⟨rfl, rfl⟩)
    go_ret2
    refine ⟨?_, ?_, Kp.refl _ _⟩
    · rw [findK, findC, HP.out]; rfl
    · rw [findN, HP.out]; exact HR.out
  | some i =>
    obtain ⟨p, hp, hb⟩ := blk_some hR hpl
    rw [hb] at lk
    replace lk : (Instr.lookup 52 (.map (some b)) (.string s) false).run Try.prog w = .ok (.pointer (some ⟨p, 0, none⟩)) w := lk
    have hA := hR.pa i p hp
    have p0 := hA.cell 0 _ rfl
    rw [Nat.zero_add] at p0
    have p1 := hA.cell 1 _ rfl
    have z1 := hA.froz 1 (by show 1 < 2; decide)
    rw [Nat.zero_add] at p1 z1
    obtain ⟨c, hc⟩ : ∃ c, C.getD i 0 = c := ⟨_, rfl⟩
    have hcb := hC i
    rw [hc] at p1 hcb
    have hR2 := hR.bump i p hp
    rw [hc] at hR2
    have q0 := (hR2.pa i p hp).cell 0 _ rfl
    rw [Nat.zero_add] at q0
    obtain ⟨ky, hky⟩ : ∃ ky, (L.getD i e0).key = ky := ⟨_, rfl⟩
    rw [hky] at q0 p0
    have hcc : ((c + 1 : Nat) : Int) = (c : Int) + 1 := by omega
    rw [hcc] at hR2 q0
    have AD := add_one ⟨p, 1, none⟩ c hcb w p1 z1
    rw [hcc] at AD
    replace AD := Lib.hid AD
    have HX := Lib.hid (And.intro hpl (And.intro hR2 (And.intro hc (And.intro hky (List.mem_of_getElem? hp)))))
    clear hR hpl hb hC hs hA p1 z1 hc hcb hR2 hky hp hcc
    go_enter Try.func14, Try.ntmps14
    go_wp2_with (first | (go_at_call 23; refine (NN.out).mono ?_; rintro e w' ⟨rfl, rfl⟩) | (go_at_call 26; refine (AD.out).mono ?_; rintro e w' ⟨⟨va, rfl⟩, rfl⟩))
    go_ret2
    obtain ⟨h1, h2, h3, h4, h5⟩ := HX.out
    refine ⟨?_, ?_, (Kp.refl _ _).set _ _ (fun _ => h5)⟩
    · rw [findK, findC, h1, ← h4]; rfl
    · rw [findN, h1]
      show Rg _ _ _ _ _ _ _ _ (C.set i (C.getD i 0 + 1))
      rw [h3]
      exact h2
set_option maxRecDepth 100000 in
theorem find_nil (w : World) (s : ByteArray) : Calls Try.prog 14 #[.pointer none, .string s] w fun e w' => e = .returned (.tuple #[.string ByteArray.empty, .int .i64 1]) ∧ w' = w := by
  go_enter Try.func14, Try.ntmps14
  go_wp2_with (go_at_call 23; refine (none_nil _).mono ?_; rintro e w' ⟨rfl, rfl⟩)
  go_ret2
  exact ⟨rfl, rfl⟩
set_option maxRecDepth 100000 in
theorem find_empty (w : World) (r : Nat) (s : ByteArray) (h : w.cell? ⟨r, 0, none⟩ = some (.map none)) : Calls Try.prog 14 #[.pointer (some ⟨r, 0, none⟩), .string s] w fun e w' => e = .returned (.tuple #[.string ByteArray.empty, .int .i64 1]) ∧ w' = w := by
  have NN := Lib.hid (none_map w r none h)
  clear h
  go_enter Try.func14, Try.ntmps14
  go_wp2_with (go_at_call 23; refine (NN.out).mono ?_; rintro e w' ⟨rfl, rfl⟩)
  go_ret2
  exact ⟨rfl, rfl⟩
end Rn
end Go.Proofs.Ytcegihdgnbjclaa
