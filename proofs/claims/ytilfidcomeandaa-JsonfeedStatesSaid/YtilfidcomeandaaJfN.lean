/- A feed's answers are what the text comes to; lists that lie in memory. -/
import Derived.Test.YtilfidcomeandaaJfK
import Derived.BigQuiet
namespace Go.Proofs.Ytilfidcomeandaa
open Go.RowKit
set_option linter.unusedVariables false
set_option linter.unusedSimpArgs false
namespace Jn
open Js Jf
open Dr (Rs Lm has lack)
def decL : Rs (List Vl) → List Vl
  | .ok l => l
  | .no _ _ _ => []
def decP : Rs (List Vl) → Nat
  | .ok _ => 0
  | .no _ q _ => q
def decE : Rs (List Vl) → Int
  | .ok _ => 0
  | .no c _ _ => c
def nowE : Rs (List Vl) → Int
  | .ok _ => 0
  | .no e _ b => if b = true then 0 else e
section
variable (S : List UInt8) (L : Lm)
/-- byte by byte comes to what the text comes to -/
theorem write_runs : ∀ (l : List UInt8) (st : St) (p : Nat), S.drop p = l → p ≤ S.length → p ≤ L.bytes → ∃ r, RunsT S L st p r ((Fs.run st p).write L l).taken ((Fs.run st p).write L l).frames ∧ decL r = ((Fs.run st p).write L l).ansL ∧ (decP r : Nat) = ((Fs.run st p).write L l).ansP ∧ decE r = ((Fs.run st p).write L l).ansE ∧ nowE r = ((Fs.run st p).write L l).e
  | [], st, p, hd, hp, hb => by
    have hpe : p = S.length := by
      have h1 := congrArg List.length hd
      rw [List.length_drop] at h1
      simp at h1
      omega
    have hh : has S L p = false := has_no1 (by omega)
    have hs := RunsT.stop (s := st) hh
    show ∃ r, RunsT S L st p r p st.G.length ∧ decL r = st.last.getD [] ∧ decP r = (if st.last.isSome = true then 0 else p) ∧ decE r = (if st.last.isSome = true then 0 else 9) ∧ nowE r = 0
    have hk : lackK S L = p := by rw [lackK, if_neg (by omega)]; exact hpe.symm
    rw [fin, if_pos (by omega), hk] at hs
    cases hl : st.last with
    | none =>
      rw [hl] at hs
      refine ⟨_, hs, rfl, ?_, ?_, ?_⟩
      · show Dr.lackP S L = p
        rw [Dr.lackP, if_neg (by omega)]; exact hpe.symm
      · show Dr.lackE S L = 9
        rw [Dr.lackE, if_neg (by omega)]
      · show (if decide (S.length ≤ L.bytes) = true then 0 else _) = (0 : Int)
        rw [if_pos (decide_eq_true (by omega))]
    | some x =>
      rw [hl] at hs
      exact ⟨_, hs, rfl, rfl, rfl, rfl⟩
  | b :: l, st, p, hd, hp, hb => by
    have hlt : p < S.length := by
      have h1 := congrArg List.length hd
      rw [List.length_drop, List.length_cons] at h1
      omega
    have hg := getd_drop hlt
    rw [hd] at hg
    injection hg with hg1 hg2
    show ∃ r, RunsT S L st p r (((Fs.run st p).byte L b).write L l).taken (((Fs.run st p).byte L b).write L l).frames ∧ decL r = (((Fs.run st p).byte L b).write L l).ansL ∧ decP r = (((Fs.run st p).byte L b).write L l).ansP ∧ decE r = (((Fs.run st p).byte L b).write L l).ansE ∧ nowE r = (((Fs.run st p).byte L b).write L l).e
    by_cases hlim : L.bytes ≤ p
    · have hpe : p = L.bytes := by omega
      have hh : has S L p = false := has_no2 hlim
      have hs := RunsT.stop (s := st) hh
      have hk : lackK S L = p := by rw [lackK, if_pos (by omega)]; exact hpe.symm
      rw [fin, if_neg (by omega), hk] at hs
      rw [show (Fs.run st p).byte L b = .dead 10 L.bytes st.G.length p by rw [Fs.byte, if_pos hlim], write_dead]
      refine ⟨_, hs, rfl, ?_, ?_, ?_⟩
      · show Dr.lackP S L = L.bytes
        rw [Dr.lackP, if_pos (by omega)]
      · show Dr.lackE S L = 10
        rw [Dr.lackE, if_pos (by omega)]
      · show (if decide (S.length ≤ L.bytes) = true then 0 else Dr.lackE S L) = 10
        rw [if_neg (by rw [decide_eq_false (by omega)]; decide), Dr.lackE, if_pos (by omega)]
    · have hh : has S L p = true := has_yes hlt (by omega)
      cases ha : st.act L b p with
      | go st' =>
        rw [show (Fs.run st p).byte L b = .run st' (p + 1) by rw [Fs.byte, if_neg hlim, ha]]
        obtain ⟨r, h1, h2⟩ := write_runs l st' (p + 1) hg2.symm (by omega) (by omega)
        exact ⟨r, go_at hh hg1.symm ha h1, h2⟩
      | fl e q =>
        rw [show (Fs.run st p).byte L b = .dead e q st.G.length (p + 1) by rw [Fs.byte, if_neg hlim, ha], write_dead]
        exact ⟨_, fl_at hh hg1.symm ha, rfl, rfl, rfl, rfl⟩
theorem feed_runs : ∃ r, RunsT S L st0 0 r (f0.write L S).taken (f0.write L S).frames ∧ decL r = (f0.write L S).ansL ∧ decP r = (f0.write L S).ansP ∧ decE r = (f0.write L S).ansE ∧ nowE r = (f0.write L S).e :=
  write_runs S L S st0 0 rfl (Nat.zero_le _) (Nat.zero_le _)
theorem ansL_len {L : Lm} {F : Fs} (h : FInv L F) : F.ansL.length ≤ L.items := by
  cases F with
  | dead e q n k => exact Nat.zero_le _
  | run s k =>
    have hs : s.size ≤ L.items := h.1.size
    show (s.last.getD []).length ≤ _
    rw [St.last]
    cases hG : s.G with
    | cons f G => exact Nat.zero_le _
    | nil =>
      rw [St.size, hG] at hs
      have hs2 : s.cur.length ≤ L.items := hs
      show (Option.getD (match s.hand with | .none => if s.nx = 6 then some s.cur else none | .num w t => if wholeN w = true then some (withText t s.cur) else none | _ => none) []).length ≤ _
      split
      · split
        · exact hs2
        · exact Nat.zero_le _
      · split
        · rw [show (some (withText _ s.cur)).getD [] = withText _ s.cur from rfl, withText_length]; exact hs2
        · exact Nat.zero_le _
      · exact Nat.zero_le _
end
/-- a list that lies in memory -/
def Sv (w : World) (v : Value) (l : List Vl) : Prop := ∃ a cap, v = .slice a l.length cap ∧ (l ≠ [] → ∃ k, a = some ⟨k, 0, none⟩ ∧ At w k 0 (vcells l) ∧ k < w.heap.size)
theorem Sv.below {w w' : World} {v : Value} {l : List Vl} (h : Sv w v l) (hb : Below w.heap.size w w') : Sv w' v l := by
  obtain ⟨a, c, hv, h1⟩ := h
  exact ⟨a, c, hv, fun hl => by obtain ⟨k, h2, h3, h4⟩ := h1 hl; exact ⟨k, h2, h3.below hb h4, Nat.lt_of_lt_of_le h4 hb.size⟩⟩
theorem Sv.ofOwn {w : World} {B : Nat} {v : Value} {l : List Vl} (h : w.ownsRow B 62 3 v l.length (vcells l)) : Sv w v l := by
  obtain ⟨a, c, rfl, ha⟩ := own_form h
  refine ⟨a, c, rfl, fun hl => ?_⟩
  obtain ⟨g, rfl⟩ := ha (List.length_pos_iff.2 hl)
  exact ⟨g, rfl, At.ofOwnN h, (h.lt g rfl).2⟩
set_option maxRecDepth 100000 in
set_option maxHeartbeats 1600000 in
/-- a list is the same as itself, wherever both lie -/
theorem vsame_eq (l : List Vl) (v u : Value) (w : World) (hS : Sv w v l) (hM : Sv w u l) (hl : l.length ≤ 140737488351232) :
    Calls Try.prog 14 #[v, u] w (RetT w) := by
  obtain ⟨a, cl, rfl, hl1⟩ := hS
  obtain ⟨b, cm, rfl, hm1⟩ := hM
  obtain ⟨n, hn⟩ : ∃ n, l.length = n := ⟨_, rfl⟩
  rw [hn] at hl
  have HL := Lib.hid (And.intro hl1 (And.intro hm1 hn))
  rw [hn]
  have HNN := Lib.hid hl
  clear hl1 hm1 hn hl
  go_enter Try.func14, Try.ntmps14
  go_wp2_with fail
  go_loopw [5] (fun vi wr => ∃ i : Nat, vi = .int .i64 (i : Int) ∧ i ≤ n ∧ Hid (Below w.heap.size w wr)) (fun vi _ => n - (intOf vi).toNat)
  case atStart => exact ⟨0, rfl, Nat.zero_le _, Below.refl _ _⟩
  case round =>
    obtain ⟨i, rfl, hi, HB⟩ := hrel
    by_cases hin : i < n
    · have hil : i < l.length := by rw [HL.out.2.2]; exact hin
      have hne : l ≠ [] := fun h => by rw [h] at hil; simp at hil
      obtain ⟨g, rfl, hAg, hgl⟩ := HL.out.1 hne
      obtain ⟨g2, rfl, hAg2, hgl2⟩ := HL.out.2.1 hne
      have hNc := (value_at hAg i hil).below HB.out hgl
      have hNc2 := (value_at hAg2 i hil).below HB.out hgl2
      rw [Nat.zero_add] at hNc hNc2
      obtain ⟨x, hx⟩ : ∃ nd, l.getD i v0 = nd := ⟨_, rfl⟩
      rw [hx] at hNc hNc2
      have n0 := hNc.cell 0 _ rfl
      have n1 := hNc.cell 1 _ rfl
      have n2 := hNc.cell 2 _ rfl
      rw [Nat.add_zero] at n0
      have m0 := hNc2.cell 0 _ rfl
      have m1 := hNc2.cell 1 _ rfl
      have m2 := hNc2.cell 2 _ rfl
      rw [Nat.add_zero] at m0
      have e2 : (i : Int) < (n : Int) := by omega
      have e9 : (i : Int) ≤ 140737488351232 := by have := HNN.out; omega
      have HII := Lib.hid (show ∃ j, n = i + 1 + j from ⟨n - i - 1, by omega⟩)
      obtain ⟨tx, htx⟩ : ∃ t, x.kind = t := ⟨_, rfl⟩
      obtain ⟨kx, hkx⟩ : ∃ t, x.kids = t := ⟨_, rfl⟩
      obtain ⟨bx, hbx⟩ : ∃ t : ByteArray, (⟨x.text.toArray⟩ : ByteArray) = t := ⟨_, rfl⟩
      rw [htx] at n0 m0
      rw [hkx] at n1 m1
      rw [hbx] at n2 m2
      clear hNc hNc2 hAg hAg2 hgl hgl2 hx hil hi hin hne htx hkx hbx
      go_wp2_with fail
      go_region
      go_wp2_with fail
      go_roundw
      case rel => exact ⟨i + 1, by go_num, by obtain ⟨j, hj⟩ := HII.out; omega, HB.out.drew⟩
      case measure => obtain ⟨j, hj⟩ := HII.out; simp [intOf]; omega
    · obtain rfl : i = n := by omega
      have e2 : ¬ (i : Int) < (i : Int) := by omega
      go_wp2_with fail
      go_ret
      exact ⟨rfl, HB.out⟩
end Jn
end Go.Proofs.Ytilfidcomeandaa
