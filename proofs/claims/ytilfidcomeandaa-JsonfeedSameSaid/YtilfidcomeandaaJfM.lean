/- Values piece by piece are read as at once. -/
import Derived.Test.YtilfidcomeandaaJdK
import Derived.Test.YtilfidcomeandaaJfL
import Derived.BigQuiet
namespace Go.Proofs.Ytilfidcomeandaa
open Go.RowKit
set_option linter.unusedVariables false
set_option linter.unusedSimpArgs false
namespace Jf
open Js
open Jd (decL decP decE RetDec DecR)
open Dr (Rs Lm has lack)
section
variable (S : List UInt8) (L : Lm)
/-- byte by byte comes to what the text comes to -/
theorem write_runs : ∀ (l : List UInt8) (st : St) (p : Nat), S.drop p = l → p ≤ S.length → p ≤ L.bytes → ∃ r, RunsT S L st p r ((Fs.run st p).write L l).taken ((Fs.run st p).write L l).frames ∧ decL r = ((Fs.run st p).write L l).ansL ∧ (decP r : Nat) = ((Fs.run st p).write L l).ansP ∧ decE r = ((Fs.run st p).write L l).ansE
  | [], st, p, hd, hp, hb => by
    have hpe : p = S.length := by
      have h1 := congrArg List.length hd
      rw [List.length_drop] at h1
      simp at h1
      omega
    have hh : has S L p = false := has_no1 (by omega)
    have hs := RunsT.stop (s := st) hh
    show ∃ r, RunsT S L st p r p st.G.length ∧ decL r = st.last.getD [] ∧ decP r = (if st.last.isSome = true then 0 else p) ∧ decE r = (if st.last.isSome = true then 0 else 9)
    have hk : lackK S L = p := by rw [lackK, if_neg (by omega)]; exact hpe.symm
    rw [fin, if_pos (by omega), hk] at hs
    cases hl : st.last with
    | none =>
      rw [hl] at hs
      refine ⟨_, hs, rfl, ?_, ?_⟩
      · show Dr.lackP S L = p
        rw [Dr.lackP, if_neg (by omega)]; exact hpe.symm
      · show Dr.lackE S L = 9
        rw [Dr.lackE, if_neg (by omega)]
    | some x =>
      rw [hl] at hs
      exact ⟨_, hs, rfl, rfl, rfl⟩
  | b :: l, st, p, hd, hp, hb => by
    have hlt : p < S.length := by
      have h1 := congrArg List.length hd
      rw [List.length_drop, List.length_cons] at h1
      omega
    have hg := getd_drop hlt
    rw [hd] at hg
    injection hg with hg1 hg2
    show ∃ r, RunsT S L st p r (((Fs.run st p).byte L b).write L l).taken (((Fs.run st p).byte L b).write L l).frames ∧ decL r = (((Fs.run st p).byte L b).write L l).ansL ∧ decP r = (((Fs.run st p).byte L b).write L l).ansP ∧ decE r = (((Fs.run st p).byte L b).write L l).ansE
    by_cases hlim : L.bytes ≤ p
    · have hpe : p = L.bytes := by omega
      have hh : has S L p = false := has_no2 hlim
      have hs := RunsT.stop (s := st) hh
      have hk : lackK S L = p := by rw [lackK, if_pos (by omega)]; exact hpe.symm
      rw [fin, if_neg (by omega), hk] at hs
      rw [show (Fs.run st p).byte L b = .dead 10 L.bytes st.G.length p by rw [Fs.byte, if_pos hlim], write_dead]
      refine ⟨_, hs, rfl, ?_, ?_⟩
      · show Dr.lackP S L = L.bytes
        rw [Dr.lackP, if_pos (by omega)]
      · show Dr.lackE S L = 10
        rw [Dr.lackE, if_pos (by omega)]
    · have hh : has S L p = true := has_yes hlt (by omega)
      cases ha : st.act L b p with
      | go st' =>
        rw [show (Fs.run st p).byte L b = .run st' (p + 1) by rw [Fs.byte, if_neg hlim, ha]]
        obtain ⟨r, h1, h2⟩ := write_runs l st' (p + 1) hg2.symm (by omega) (by omega)
        exact ⟨r, go_at hh hg1.symm ha h1, h2⟩
      | fl e q =>
        rw [show (Fs.run st p).byte L b = .dead e q st.G.length (p + 1) by rw [Fs.byte, if_neg hlim, ha], write_dead]
        exact ⟨_, fl_at hh hg1.symm ha, rfl, rfl, rfl⟩
theorem feed_runs : ∃ r, RunsT S L st0 0 r (f0.write L S).taken (f0.write L S).frames ∧ decL r = (f0.write L S).ansL ∧ decP r = (f0.write L S).ansP ∧ decE r = (f0.write L S).ansE :=
  write_runs S L S st0 0 rfl (Nat.zero_le _) (Nat.zero_le _)
theorem ansL_len {L : Lm} {F : Fs} (h : FInv L F) : F.ansL.length ≤ L.items := by
  cases F with
  | dead e q n k => exact Nat.zero_le _
  | run s k =>
    have hs : s.size ≤ L.items := h.1.size
    show (s.last.getD []).length ≤ _
    rw [St.last]
    cases hG : s.G with
    | cons f G => exact Nat.zero_le _
    | nil =>
      rw [St.size, hG] at hs
      have hs2 : s.cur.length ≤ L.items := hs
      show (Option.getD (match s.hand with | .none => if s.nx = 6 then some s.cur else none | .num w t => if wholeN w = true then some (withText t s.cur) else none | _ => none) []).length ≤ _
      split
      · split
        · exact hs2
        · exact Nat.zero_le _
      · split
        · rw [show (some (withText _ s.cur)).getD [] = withText _ s.cur from rfl, withText_length]; exact hs2
        · exact Nat.zero_le _
      · exact Nat.zero_le _
end
/-- a list that lies in memory -/
def Sv (w : World) (v : Value) (l : List Vl) : Prop := ∃ a cap, v = .slice a l.length cap ∧ (l ≠ [] → ∃ k, a = some ⟨k, 0, none⟩ ∧ At w k 0 (vcells l) ∧ k < w.heap.size)
theorem Sv.below {w w' : World} {v : Value} {l : List Vl} (h : Sv w v l) (hb : Below w.heap.size w w') : Sv w' v l := by
  obtain ⟨a, c, hv, h1⟩ := h
  exact ⟨a, c, hv, fun hl => by obtain ⟨k, h2, h3, h4⟩ := h1 hl; exact ⟨k, h2, h3.below hb h4, Nat.lt_of_lt_of_le h4 hb.size⟩⟩
theorem Sv.ofOwn {w : World} {B : Nat} {v : Value} {l : List Vl} (h : w.ownsRow B 62 3 v l.length (vcells l)) : Sv w v l := by
  obtain ⟨a, c, rfl, ha⟩ := own_form h
  refine ⟨a, c, rfl, fun hl => ?_⟩
  obtain ⟨g, rfl⟩ := ha (List.length_pos_iff.2 hl)
  exact ⟨g, rfl, At.ofOwnN h, (h.lt g rfl).2⟩
set_option maxRecDepth 100000 in
set_option maxHeartbeats 1600000 in
/-- a list is the same as itself, wherever both lie -/
theorem vsame_eq (l : List Vl) (v u : Value) (w : World) (hS : Sv w v l) (hM : Sv w u l) (hl : l.length ≤ 140737488351232) :
    Calls Try.prog 14 #[v, u] w (RetT w) := by
  obtain ⟨a, cl, rfl, hl1⟩ := hS
  obtain ⟨b, cm, rfl, hm1⟩ := hM
  obtain ⟨n, hn⟩ : ∃ n, l.length = n := ⟨_, rfl⟩
  rw [hn] at hl
  have HL := Lib.hid (And.intro hl1 (And.intro hm1 hn))
  rw [hn]
  have HNN := Lib.hid hl
  clear hl1 hm1 hn hl
  go_enter Try.func14, Try.ntmps14
  go_wp2_with fail
  go_loopw [5] (fun vi wr => ∃ i : Nat, vi = .int .i64 (i : Int) ∧ i ≤ n ∧ Hid (Below w.heap.size w wr)) (fun vi _ => n - (intOf vi).toNat)
  case atStart => exact ⟨0, rfl, Nat.zero_le _, Below.refl _ _⟩
  case round =>
    obtain ⟨i, rfl, hi, HB⟩ := hrel
    by_cases hin : i < n
    · have hil : i < l.length := by rw [HL.out.2.2]; exact hin
      have hne : l ≠ [] := fun h => by rw [h] at hil; simp at hil
      obtain ⟨g, rfl, hAg, hgl⟩ := HL.out.1 hne
      obtain ⟨g2, rfl, hAg2, hgl2⟩ := HL.out.2.1 hne
      have hNc := (value_at hAg i hil).below HB.out hgl
      have hNc2 := (value_at hAg2 i hil).below HB.out hgl2
      rw [Nat.zero_add] at hNc hNc2
      obtain ⟨x, hx⟩ : ∃ nd, l.getD i v0 = nd := ⟨_, rfl⟩
      rw [hx] at hNc hNc2
      have n0 := hNc.cell 0 _ rfl
      have n1 := hNc.cell 1 _ rfl
      have n2 := hNc.cell 2 _ rfl
      rw [Nat.add_zero] at n0
      have m0 := hNc2.cell 0 _ rfl
      have m1 := hNc2.cell 1 _ rfl
      have m2 := hNc2.cell 2 _ rfl
      rw [Nat.add_zero] at m0
      have e2 : (i : Int) < (n : Int) := by omega
      have e9 : (i : Int) ≤ 140737488351232 := by have := HNN.out; omega
      have HII := Lib.hid (show ∃ j, n = i + 1 + j from ⟨n - i - 1, by omega⟩)
      obtain ⟨tx, htx⟩ : ∃ t, x.kind = t := ⟨_, rfl⟩
      obtain ⟨kx, hkx⟩ : ∃ t, x.kids = t := ⟨_, rfl⟩
      obtain ⟨bx, hbx⟩ : ∃ t : ByteArray, (⟨x.text.toArray⟩ : ByteArray) = t := ⟨_, rfl⟩
      rw [htx] at n0 m0
      rw [hkx] at n1 m1
      rw [hbx] at n2 m2
      clear hNc hNc2 hAg hAg2 hgl hgl2 hx hil hi hin hne htx hkx hbx
      go_wp2_with fail
      go_region
      go_wp2_with fail
      go_roundw
      case rel => exact ⟨i + 1, by go_num, by obtain ⟨j, hj⟩ := HII.out; omega, HB.out.drew⟩
      case measure => obtain ⟨j, hj⟩ := HII.out; simp [intOf]; omega
    · obtain rfl : i = n := by omega
      have e2 : ¬ (i : Int) < (i : Int) := by omega
      go_wp2_with fail
      go_ret
      exact ⟨rfl, HB.out⟩
/-- a list that lies below beta, beside the feed -/
def SlB (g β : Nat) (w : World) (v : Value) (l : List Vl) : Prop := ∃ a cap, v = .slice a l.length cap ∧ (l ≠ [] → ∃ k, a = some ⟨k, 0, none⟩ ∧ At w k 0 (vcells l) ∧ k < β ∧ k ≠ g)
theorem i64_wf {a : Int} (h : (Lit.int .i64 a).wf = true) : -9223372036854775808 ≤ a ∧ a ≤ 9223372036854775807 := by
  have h2 : IntKind.i64.min ≤ a ∧ a ≤ IntKind.i64.max := by simpa [Lit.wf] using h
  have e1 : IntKind.i64.min = -9223372036854775808 := by decide
  have e2 : IntKind.i64.max = 9223372036854775807 := by decide
  omega
theorem SlB.ofOwn {w : World} {g β B : Nat} {v : Value} {l : List Vl} (h : w.ownsRow B 62 3 v l.length (vcells l)) (hg : g < B) (hb : w.heap.size ≤ β) : SlB g β w v l := by
  obtain ⟨a, c, hv, ha⟩ := own_form h
  refine ⟨a, c, hv, fun hl => ?_⟩
  obtain ⟨k, rfl⟩ := ha (List.length_pos_iff.2 hl)
  rw [hv] at h
  have h1 := h.lt k rfl
  exact ⟨k, rfl, At.ofOwnN h, by omega, by omega⟩
theorem At.bx {g β k o : Nat} {w w' : World} {cs : List Value} (h : At w k o cs) (hb : Bx g β w w') (h1 : k < β) (h2 : k ≠ g) : At w' k o cs := fun j v hv => by
  obtain ⟨h3, h4⟩ := h j v hv
  have h5 := hb.block k h1 h2
  refine ⟨?_, ?_⟩
  · rw [← h3]; simp only [World.cell?, h5]
  · rw [← h4]; simp only [World.frozen?, h5]
theorem SlB.bx {g β : Nat} {w w' : World} {v : Value} {l : List Vl} (h : SlB g β w v l) (hb : Bx g β w w') : SlB g β w' v l := by
  obtain ⟨a, c, hv, h1⟩ := h
  exact ⟨a, c, hv, fun hl => by obtain ⟨k, h2, h3, h4, h5⟩ := h1 hl; exact ⟨k, h2, At.bx h3 hb h4 h5, h4, h5⟩⟩
theorem SlB.sl {g β : Nat} {w : World} {v : Value} {l : List Vl} (h : SlB g β w v l) (hb : β ≤ w.heap.size) : Sv w v l := by
  obtain ⟨a, c, hv, h1⟩ := h
  exact ⟨a, c, hv, fun hl => by obtain ⟨k, h2, h3, h4, h5⟩ := h1 hl; exact ⟨k, h2, h3, by omega⟩⟩
theorem low_bx2 {g β : Nat} {w w' : World} (h : Bx g β w w') {B : Nat} (h1 : B ≤ g) (h2 : g < β) : Below B w w' := ⟨h.os, h.tape, h.output, h.size, fun k hk => h.block k (by omega) (by omega)⟩
theorem FM.bs {w : World} {g β : Nat} {L : Lm} {ro : Int} {f : Fs} (h : FM w g β L ro f) : β ≤ w.heap.size := by
  cases f with
  | run s k => obtain ⟨B, vV, vS, vH, a, h, _⟩ := h; exact h.bs
  | dead e q n k => obtain ⟨vV, c, cap, nx, vH, nm, a, _, _, h⟩ := h; exact h
/-- a new feed's cells -/
def nc (L : Lm) (ro : Int) : List Value := jc L ro 0 (.slice none 0 0) (.slice none 0 0) 0 .nilIface false 0 0 0
theorem fm0 {w : World} {g β : Nat} {L : Lm} {ro : Int} (h : At w g 0 (nc L ro)) (h1 : g < β) (h2 : β ≤ w.heap.size) : FM w g β L ro f0 :=
  ⟨[], .slice none 0 0, .slice none 0 0, .nilIface, 0, ⟨h, World.ownsRow_nil _ _ _ _, World.ownsRow_nil _ _ _ _, .nil, rfl, h1, h2⟩, fun x hx => by cases hx⟩
set_option maxRecDepth 100000 in
set_option maxHeartbeats 1600000 in
theorem new_at (d i b r : Int) (w : World) (hm : mayOk d i b r = true) :
    Calls Try.prog 9 #[.agg #[.int .i64 d, .int .i64 i, .int .i64 b, .int .i64 r]] w (fun e w' => ∃ g, e = .returned (.tuple #[.pointer (some ⟨g, 0, none⟩), .int .i64 0]) ∧ w.heap.size ≤ g ∧ Hid (At w' g 0 (nc (limL d i b) r)) ∧ Hid (g < w'.heap.size) ∧ Hid (Below w.heap.size w w')) := by
  have h1 := mayOk_yes hm
  have MA := Lib.hid (fun w => may_any d i b r w)
  rw [hm] at MA
  have HD : Hid (((limL d i b).depth : Int) = d ∧ ((limL d i b).items : Int) = i ∧ ((limL d i b).bytes : Int) = b) := ⟨by show ((d.toNat : Nat) : Int) = d; omega, by show ((i.toNat : Nat) : Int) = i; omega, by show ((b.toNat : Nat) : Int) = b; omega⟩
  have HB0 : Hid (Below w.heap.size w (w.alloc (Obj.cells #[.int .i64 d, .int .i64 i, .int .i64 b, .int .i64 r] 24))) := (Below.refl _ _).alloc (Nat.le_refl _) _
  have HL0 := Lib.hid (Lm4.ofAlloc w d i b r)
  obtain ⟨B, hB⟩ : ∃ B, w.heap.size = B := ⟨_, rfl⟩
  rw [hB] at HL0
  have HBB := Lib.hid hB
  clear h1 hm
  go_enter Try.func9, Try.ntmps9
  go_wp2_with fail
  try rw [hB]
  clear hB
  obtain ⟨w0, hw0⟩ : ∃ x, w.alloc (Obj.cells #[.int .i64 d, .int .i64 i, .int .i64 b, .int .i64 r] 24) = x := ⟨_, rfl⟩
  rw [hw0] at HL0 HB0
  rw [hw0]
  clear hw0
  refine (MA.out _).mono ?_
  rintro e w1 ⟨rfl, hb1⟩
  have HB1 : Hid (Below w.heap.size w w1) := HB0.out.trans (hb1.mono HB0.out.size)
  have HL1 := Lib.hid (HL0.out.below hb1)
  clear hb1
  have l0 := HL1.out.at0.cell 0 _ rfl
  have l1 := HL1.out.at0.cell 1 _ rfl
  have l2 := HL1.out.at0.cell 2 _ rfl
  have l3 := HL1.out.at0.cell 3 _ rfl
  rw [Nat.zero_add] at l0 l1 l2 l3
  go_wp2_with fail
  go_ret2
  refine ⟨w1.heap.size, rfl, HB1.out.size, ?_, by show w1.heap.size < _; simp, HB1.out.alloc HB1.out.size _⟩
  show At _ _ 0 [.int .i64 ((limL d i b).depth : Int), .int .i64 ((limL d i b).items : Int), .int .i64 ((limL d i b).bytes : Int), .int .i64 r, .int .i64 0, .slice none 0 0, .slice none 0 0, .int .i64 0, .nilIface, .bool false, .int .i64 0, .int .i64 0, .int .i64 0]
  rw [HD.out.1, HD.out.2.1, HD.out.2.2]
  exact At.ofAlloc w1 #[.int .i64 d, .int .i64 i, .int .i64 b, .int .i64 r, .int .i64 0, .slice none 0 0, .slice none 0 0, .int .i64 0, .nilIface, .bool false, .int .i64 0, .int .i64 0, .int .i64 0] 48
set_option maxRecDepth 100000 in
set_option maxHeartbeats 1600000 in
theorem same_walk (s : ByteArray) (at_ d i b ro : Int) (hz : s.size ≤ 140737488351232) (hat : (Lit.int .i64 at_).wf = true) (w : World) :
    Calls Try.prog 5 #[.string s, .int .i64 at_, .agg #[.int .i64 d, .int .i64 i, .int .i64 b, .int .i64 ro]] w (RetT w) := by
  have WK := Lib.hid (fun w => wakes19_any w)
  have D1 := Lib.hid (fun w => Jd.decode_any s d i b ro w hz)
  have HB0 : Hid (Below w.heap.size w (w.alloc (Obj.cells #[.int .i64 d, .int .i64 i, .int .i64 b, .int .i64 ro] 24))) := (Below.refl _ _).alloc (Nat.le_refl _) _
  have HL0 := Lib.hid (Lm4.ofAlloc w d i b ro)
  obtain ⟨B, hB⟩ : ∃ B, w.heap.size = B := ⟨_, rfl⟩
  rw [hB] at HL0
  have HBB := Lib.hid hB
  have HZ := Lib.hid hz
  have HAT := Lib.hid hat
  clear hz hat
  go_enter Try.func5, Try.ntmps5
  go_wp2_with fail
  try rw [hB]
  clear hB
  obtain ⟨w0, hw0⟩ : ∃ x, w.alloc (Obj.cells #[.int .i64 d, .int .i64 i, .int .i64 b, .int .i64 ro] 24) = x := ⟨_, rfl⟩
  rw [hw0] at HL0 HB0
  rw [hw0]
  clear hw0
  refine (WK.out _).mono ?_
  rintro e w1 ⟨rfl, hb1⟩
  have HB1 : Hid (Below w.heap.size w w1) := HB0.out.trans (hb1.mono HB0.out.size)
  have HL1 := Lib.hid (HL0.out.below hb1)
  clear hb1
  have l0 := HL1.out.at0.cell 0 _ rfl
  have l1 := HL1.out.at0.cell 1 _ rfl
  have l2 := HL1.out.at0.cell 2 _ rfl
  have l3 := HL1.out.at0.cell 3 _ rfl
  rw [Nat.zero_add] at l0 l1 l2 l3
  cases hm : mayOk d i b ro with
  | false =>
    have NE := Lib.hid (new_no d i b ro w1 hm)
    have HM := Lib.hid hm
    clear hm
    go_wp2_with fail
    refine NE.out.mono ?_
    rintro e w2 ⟨rfl, hb2⟩
    have HB2 : Hid (Below w.heap.size w w2) := HB1.out.trans (hb2.mono HB1.out.size)
    have HL2 := Lib.hid (HL1.out.below hb2)
    clear hb2 l0 l1 l2 l3
    have l0 := HL2.out.at0.cell 0 _ rfl
    have l1 := HL2.out.at0.cell 1 _ rfl
    have l2 := HL2.out.at0.cell 2 _ rfl
    have l3 := HL2.out.at0.cell 3 _ rfl
    rw [Nat.zero_add] at l0 l1 l2 l3
    go_wp2_with fail
    refine (D1.out _).mono ?_
    rintro e w3 ⟨r, hr, v, rfl, ho, hb3⟩
    obtain rfl := hr.2 HM.out
    have HB3 : Hid (Below w.heap.size w w3) := HB2.out.trans (hb3.mono HB2.out.size)
    clear hb3 ho hr
    rw [show Jd.decE (.no 2 0 false) = 2 from rfl]
    go_wp2_with fail
    go_ret
    exact ⟨rfl, HB3.out⟩
  | true =>
    have NE := Lib.hid (new_at d i b ro w1 hm)
    have HOK := Lib.hid (lok hm)
    have HM := Lib.hid hm
    clear hm
    go_wp2_with fail
    refine NE.out.mono ?_
    rintro e w2 ⟨g, rfl, hg, HF2, hgl2, hb2⟩
    have HG : Hid (w.heap.size ≤ g) := Nat.le_trans HB1.out.size hg
    have HB2 : Hid (Below w.heap.size w w2) := HB1.out.trans (hb2.out.mono HB1.out.size)
    have HL2 := Lib.hid (HL1.out.below hb2.out)
    clear hg hb2 l0 l1 l2 l3
    have l0 := HL2.out.at0.cell 0 _ rfl
    have l1 := HL2.out.at0.cell 1 _ rfl
    have l2 := HL2.out.at0.cell 2 _ rfl
    have l3 := HL2.out.at0.cell 3 _ rfl
    rw [Nat.zero_add] at l0 l1 l2 l3
    go_wp2_with fail
    refine (D1.out _).mono ?_
    rintro e w3 ⟨r, hr, v, rfl, ho, hb3⟩
    have HB3 : Hid (Below w.heap.size w w3) := HB2.out.trans (hb3.mono HB2.out.size)
    have HA3 : At w3 g 0 (nc (limL d i b) ro) := HF2.out.below hb3 hgl2.out
    have hg3 : g < w3.heap.size := Nat.lt_of_lt_of_le hgl2.out hb3.size
    have HF3 := Lib.hid (fm0 HA3 hg3 (Nat.le_refl _))
    obtain ⟨β, hβ⟩ : ∃ b, w3.heap.size = b := ⟨_, rfl⟩
    rw [hβ] at HF3 hg3
    have HSL := Lib.hid (SlB.ofOwn (g := g) (β := β) ho hgl2.out (Nat.le_of_eq hβ))
    have HGB : Hid (g < β) := hg3
    obtain ⟨r2, hr2, hrL, hrP, hrE⟩ := feed_runs s.toList (limL d i b)
    obtain ⟨tr, kr, hrr⟩ := hr.1 HM.out
    obtain rfl := (RunsT.same _ _ hrr hr2).1
    obtain ⟨F, hF⟩ : ∃ F, f0.write (limL d i b) s.toList = F := ⟨_, rfl⟩
    have hFI : FInv (limL d i b) F := by rw [← hF]; exact (finv0 _).write _
    rw [hF] at hrL hrP hrE
    have HFE := Lib.hid (And.intro hF (And.intro hrL (And.intro hrP (And.intro hrE hFI))))
    clear hβ hb3 ho hr hF hrL hrP hrE hFI hr2 hrr l0 l1 l2 l3 HA3 hg3 hgl2 HF2
    obtain ⟨pp, hpp⟩ : ∃ x, decP r = x := ⟨_, rfl⟩
    obtain ⟨ee, hee⟩ : ∃ x, decE r = x := ⟨_, rfl⟩
    rw [hpp, hee]
    have HPE := Lib.hid (And.intro hpp hee)
    obtain ⟨n, hn⟩ : ∃ n, s.size = n := ⟨_, rfl⟩
    have HN := Lib.hid hn
    clear hpp hee
    obtain ⟨k, hk⟩ : ∃ k : Nat, k = if 0 < at_ then (at_ % ((n : Int) + 1)).toNat else 0 := ⟨_, rfl⟩
    have hkn : k ≤ n := by
      rw [hk]
      split
      · have h1 := Int.emod_lt_of_pos at_ (show (0 : Int) < (n : Int) + 1 by omega)
        omega
      · omega
    have hwf := i64_wf HAT.out
    have HK := Lib.hid (And.intro hk hkn)
    have hnn : (n : Int) ≤ 140737488351232 := by have := HZ.out; omega
    have hnm : IntKind.i64.wrap ((n : Int) + 1) = (n : Int) + 1 := by have h9 := wrap_fit (n + 1) (by unfold maxLen; omega); rw [show ((n + 1 : Nat) : Int) = (n : Int) + 1 by omega] at h9; exact h9
    clear hk hkn
    go_upto_if 35 with fail
    go_cut [12] from 34 to 40 (fun v wx => v = .int .i64 (k : Int) ∧ wx = w3)
    case first =>
      by_cases hp : 0 < at_
      · have hpe : at_ % ((n : Int) + 1) = (k : Int) := by
          have h9 := HK.out.1
          rw [if_pos hp] at h9
          have h8 := Int.emod_nonneg at_ (show (n : Int) + 1 ≠ 0 by omega)
          omega
        have hp0 : 0 ≤ at_ := by omega
        have hsz : s.size = n := HN.out
        go_wp2_with fail
        go_meet
        case rel => exact ⟨by rw [hpe], rfl⟩
      · have h9 := HK.out.1
        rw [if_neg hp] at h9
        subst h9
        clear hnm
        go_wp2_with fail
        go_meet
        case rel => exact ⟨rfl, rfl⟩
    case rest =>
      obtain ⟨rfl, hwc⟩ := hcut
      subst hwc
      have hkn := HK.out.2
      have hsz : s.size = n := HN.out
      have e1 : (k : Int) ≤ (n : Int) := by omega
      obtain ⟨p1, hp1⟩ : ∃ p, s.extract 0 k = p := ⟨_, rfl⟩
      obtain ⟨p2, hp2⟩ : ∃ p, s.extract k n = p := ⟨_, rfl⟩
      have h1 : p1.toList = s.toList.take k := by rw [← hp1, tl_extract, List.drop_zero, Nat.sub_zero]
      have h2 : p2.toList = s.toList.drop k := by
        rw [← hp2, tl_extract]
        exact List.take_of_length_le (by rw [List.length_drop, tl_size, hsz]; exact Nat.le_refl _)
      have z1 : p1.size ≤ 140737488351232 := by rw [← tl_size, h1, List.length_take, tl_size]; have := HZ.out; omega
      have z2 : p2.size ≤ 140737488351232 := by rw [← tl_size, h2, List.length_drop, tl_size]; have := HZ.out; omega
      have W1 := Lib.hid (write_any wc g β (limL d i b) ro f0 HF3.out (finv0 _) HOK.out p1 z1)
      have HPP := Lib.hid (And.intro h1 (And.intro h2 z2))
      clear h1 h2 z1 z2 hkn hnm hnn
      go_wp2_with fail
      refine W1.out.mono ?_
      rintro e w4 ⟨rfl, HF4, hb4⟩
      have HB4 : Hid (Below w.heap.size w w4) := HB3.out.trans (low_bx2 hb4.out HG.out HGB.out)
      have HS4 := Lib.hid (HSL.out.bx hb4.out)
      have W2 := Lib.hid (write_any w4 g β (limL d i b) ro (f0.write (limL d i b) p1.toList) HF4.out ((finv0 _).write _) HOK.out p2 HPP.out.2.2)
      rw [← write_app, HPP.out.1, HPP.out.2.1, List.take_append_drop, HFE.out.1] at W2
      obtain ⟨e4, he4⟩ : ∃ e, (f0.write (limL d i b) p1.toList).e = e := ⟨_, rfl⟩
      rw [he4]
      clear he4 hb4
      go_wp2_with fail
      refine W2.out.mono ?_
      rintro e w5 ⟨rfl, HF5, hb5⟩
      have HB5 : Hid (Below w.heap.size w w5) := HB4.out.trans (low_bx2 hb5.out HG.out HGB.out)
      have HS5 := Lib.hid (HS4.out.bx hb5.out)
      have EN := Lib.hid (end_any w5 g β (limL d i b) ro F HF5.out HFE.out.2.2.2.2 HOK.out)
      obtain ⟨e5, he5⟩ : ∃ e, F.e = e := ⟨_, rfl⟩
      rw [he5]
      clear he5 hb5
      go_wp2_with fail
      refine EN.out.mono ?_
      rintro e w6 ⟨v6, rfl, ho6, hb6⟩
      have HB6 : Hid (Below w.heap.size w w6) := HB5.out.trans (hb6.mono HB5.out.size)
      have hln : F.ansL.length ≤ 140737488351232 := by have h1 := ansL_len HFE.out.2.2.2.2; have := HOK.out.i; omega
      rw [← HFE.out.2.1] at ho6 hln
      rw [← HFE.out.2.2.1, ← HFE.out.2.2.2.1, HPE.out.1, HPE.out.2]
      have HL6 := Lib.hid ((HS5.out.sl (FM.bs HF5.out)).below hb6)
      have HM6 := Lib.hid (Sv.ofOwn ho6)
      have SA := Lib.hid (vsame_eq (decL r) v v6 w6 HL6.out HM6.out hln)
      have hp1 : ((pp : Int) == (pp : Int)) = true := by rw [beq_iff_eq]
      have he1 : (ee == ee) = true := by rw [beq_iff_eq]
      clear ho6 hb6 hln
      go_wp2_with (first | (go_at_call 14; refine SA.out.mono ?_; rintro e w7 ⟨rfl, hb7⟩; have HB7 : Hid (Below w.heap.size w w7) := HB6.out.trans (hb7.mono HB6.out.size); clear hb7))
      go_ret
      exact ⟨rfl, HB7.out⟩
theorem jsonfeedSame_walk (s : ByteArray) (at_ d i b ro : Int) (hz : s.size ≤ 140737488351232) (hat : (Lit.int .i64 at_).wf = true) (w : World) :
    Calls Try.prog 5 #[.string s, .int .i64 at_, .agg #[.int .i64 d, .int .i64 i, .int .i64 b, .int .i64 ro]] w (RetT w) := same_walk s at_ d i b ro hz hat w
end Jf
end Go.Proofs.Ytilfidcomeandaa
