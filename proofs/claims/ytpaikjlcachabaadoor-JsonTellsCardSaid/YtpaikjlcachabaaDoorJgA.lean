/- json: what a text comes to, by reckoning; lists alike; what wakes. -/
import Derived.Test.YtpaikjlcachabaaDoorJzG
import Derived.Test.YtpaikjlcachabaaDoorJdK
namespace Go.Proofs.YtpaikjlcachabaaDoor
open Go.RowKit
set_option linter.unusedVariables false
set_option linter.unusedSimpArgs false
namespace Jg
open Js Je
open Jd (decL decP decE RetDec DecR)
open Dr (Rs Lm has lack)
theorem getd_drop {S : List UInt8} {q : Nat} (h : q < S.length) : S.drop q = S.getD q 0 :: S.drop (q + 1) := by
  rw [List.drop_eq_getElem_cons h, List.getD, List.getElem?_eq_getElem h]; rfl
def nowE : Rs (List Vl) → Int
  | .ok _ => 0
  | .no e _ b => if b = true then 0 else e
section
variable (S : List UInt8) (L : Lm)
/-- byte by byte comes to what the text comes to -/
theorem write_runs : ∀ (l : List UInt8) (st : St) (p : Nat), S.drop p = l → p ≤ S.length → p ≤ L.bytes → ∃ r, RunsT S L st p r ((Fs.run st p).write L l).taken ((Fs.run st p).write L l).frames ∧ decL r = ((Fs.run st p).write L l).ansL ∧ (decP r : Nat) = ((Fs.run st p).write L l).ansP ∧ decE r = ((Fs.run st p).write L l).ansE ∧ nowE r = ((Fs.run st p).write L l).e
  | [], st, p, hd, hp, hb => by
    have hpe : p = S.length := by
      have h1 := congrArg List.length hd
      rw [List.length_drop] at h1
      simp at h1
      omega
    have hh : has S L p = false := has_no1 (by omega)
    have hs := RunsT.stop (s := st) hh
    show ∃ r, RunsT S L st p r p st.G.length ∧ decL r = st.last.getD [] ∧ decP r = (if st.last.isSome = true then 0 else p) ∧ decE r = (if st.last.isSome = true then 0 else 9) ∧ nowE r = 0
    have hk : lackK S L = p := by rw [lackK, if_neg (by omega)]; exact hpe.symm
    rw [fin, if_pos (by omega), hk] at hs
    cases hl : st.last with
    | none =>
      rw [hl] at hs
      refine ⟨_, hs, rfl, ?_, ?_, ?_⟩
      · show Dr.lackP S L = p
        rw [Dr.lackP, if_neg (by omega)]; exact hpe.symm
      · show Dr.lackE S L = 9
        rw [Dr.lackE, if_neg (by omega)]
      · show (if decide (S.length ≤ L.bytes) = true then 0 else _) = (0 : Int)
        rw [if_pos (decide_eq_true (by omega))]
    | some x =>
      rw [hl] at hs
      exact ⟨_, hs, rfl, rfl, rfl, rfl⟩
  | b :: l, st, p, hd, hp, hb => by
    have hlt : p < S.length := by
      have h1 := congrArg List.length hd
      rw [List.length_drop, List.length_cons] at h1
      omega
    have hg := getd_drop hlt
    rw [hd] at hg
    injection hg with hg1 hg2
    show ∃ r, RunsT S L st p r (((Fs.run st p).byte L b).write L l).taken (((Fs.run st p).byte L b).write L l).frames ∧ decL r = (((Fs.run st p).byte L b).write L l).ansL ∧ decP r = (((Fs.run st p).byte L b).write L l).ansP ∧ decE r = (((Fs.run st p).byte L b).write L l).ansE ∧ nowE r = (((Fs.run st p).byte L b).write L l).e
    by_cases hlim : L.bytes ≤ p
    · have hpe : p = L.bytes := by omega
      have hh : has S L p = false := has_no2 hlim
      have hs := RunsT.stop (s := st) hh
      have hk : lackK S L = p := by rw [lackK, if_pos (by omega)]; exact hpe.symm
      rw [fin, if_neg (by omega), hk] at hs
      rw [show (Fs.run st p).byte L b = .dead 10 L.bytes st.G.length p by rw [Fs.byte, if_pos hlim], write_dead]
      refine ⟨_, hs, rfl, ?_, ?_, ?_⟩
      · show Dr.lackP S L = L.bytes
        rw [Dr.lackP, if_pos (by omega)]
      · show Dr.lackE S L = 10
        rw [Dr.lackE, if_pos (by omega)]
      · show (if decide (S.length ≤ L.bytes) = true then 0 else Dr.lackE S L) = 10
        rw [if_neg (by rw [decide_eq_false (by omega)]; decide), Dr.lackE, if_pos (by omega)]
    · have hh : has S L p = true := has_yes hlt (by omega)
      cases ha : st.act L b p with
      | go st' =>
        rw [show (Fs.run st p).byte L b = .run st' (p + 1) by rw [Fs.byte, if_neg hlim, ha]]
        obtain ⟨r, h1, h2⟩ := write_runs l st' (p + 1) hg2.symm (by omega) (by omega)
        exact ⟨r, go_at hh hg1.symm ha h1, h2⟩
      | fl e q =>
        rw [show (Fs.run st p).byte L b = .dead e q st.G.length (p + 1) by rw [Fs.byte, if_neg hlim, ha], write_dead]
        exact ⟨_, fl_at hh hg1.symm ha, rfl, rfl, rfl, rfl⟩
theorem feed_runs : ∃ r, RunsT S L st0 0 r (f0.write L S).taken (f0.write L S).frames ∧ decL r = (f0.write L S).ansL ∧ decP r = (f0.write L S).ansP ∧ decE r = (f0.write L S).ansE ∧ nowE r = (f0.write L S).e :=
  write_runs S L S st0 0 rfl (Nat.zero_le _) (Nat.zero_le _)
theorem ansL_len {L : Lm} {F : Fs} (h : FInv L F) : F.ansL.length ≤ L.items := by
  cases F with
  | dead e q n k => exact Nat.zero_le _
  | run s k =>
    have hs : s.size ≤ L.items := h.1.size
    show (s.last.getD []).length ≤ _
    rw [St.last]
    cases hG : s.G with
    | cons f G => exact Nat.zero_le _
    | nil =>
      rw [St.size, hG] at hs
      have hs2 : s.cur.length ≤ L.items := hs
      show (Option.getD (match s.hand with | .none => if s.nx = 6 then some s.cur else none | .num w t => if wholeN w = true then some (withText t s.cur) else none | _ => none) []).length ≤ _
      split
      · split
        · exact hs2
        · exact Nat.zero_le _
      · split
        · rw [show (some (withText _ s.cur)).getD [] = withText _ s.cur from rfl, withText_length]; exact hs2
        · exact Nat.zero_le _
      · exact Nat.zero_le _
end
set_option maxRecDepth 100000 in
set_option maxHeartbeats 1600000 in
/-- a list is the same as itself, wherever both lie -/
theorem vsame_eq (l : List Vl) (v u : Value) (w : World) (hS : SvE w v l) (hM : SvE w u l) (hl : l.length ≤ 140737488351232) :
    Calls Tryd.prog 12 #[v, u] w (RetT w) := by
  obtain ⟨a, cl, rfl, hl1⟩ := hS
  obtain ⟨b, cm, rfl, hm1⟩ := hM
  obtain ⟨n, hn⟩ : ∃ n, l.length = n := ⟨_, rfl⟩
  rw [hn] at hl
  have HL := Lib.hid (And.intro hl1 (And.intro hm1 hn))
  rw [hn]
  have HNN := Lib.hid hl
  clear hl1 hm1 hn hl
  go_enter Tryd.func12, Tryd.ntmps12
  go_wp2_with fail
  go_loopw [5] (fun vi wr => ∃ i : Nat, vi = .int .i64 (i : Int) ∧ i ≤ n ∧ Hid (Below w.heap.size w wr)) (fun vi _ => n - (intOf vi).toNat)
  case atStart => exact ⟨0, rfl, Nat.zero_le _, Below.refl _ _⟩
  case round =>
    obtain ⟨i, rfl, hi, HB⟩ := hrel
    by_cases hin : i < n
    · have hil : i < l.length := by rw [HL.out.2.2]; exact hin
      have hne : l ≠ [] := fun h => by rw [h] at hil; simp at hil
      obtain ⟨g, rfl, hAg, hgl⟩ := HL.out.1 hne
      obtain ⟨g2, rfl, hAg2, hgl2⟩ := HL.out.2.1 hne
      have hNc := (value_at hAg i hil).below HB.out hgl
      have hNc2 := (value_at hAg2 i hil).below HB.out hgl2
      rw [Nat.zero_add] at hNc hNc2
      obtain ⟨x, hx⟩ : ∃ nd, l.getD i v0 = nd := ⟨_, rfl⟩
      rw [hx] at hNc hNc2
      have n0 := hNc.cell 0 _ rfl
      have n1 := hNc.cell 1 _ rfl
      have n2 := hNc.cell 2 _ rfl
      rw [Nat.add_zero] at n0
      have m0 := hNc2.cell 0 _ rfl
      have m1 := hNc2.cell 1 _ rfl
      have m2 := hNc2.cell 2 _ rfl
      rw [Nat.add_zero] at m0
      have e2 : (i : Int) < (n : Int) := by omega
      have e9 : (i : Int) ≤ 140737488351232 := by have := HNN.out; omega
      have HII := Lib.hid (show ∃ j, n = i + 1 + j from ⟨n - i - 1, by omega⟩)
      obtain ⟨tx, htx⟩ : ∃ t, x.kind = t := ⟨_, rfl⟩
      obtain ⟨kx, hkx⟩ : ∃ t, x.kids = t := ⟨_, rfl⟩
      obtain ⟨bx, hbx⟩ : ∃ t : ByteArray, (⟨x.text.toArray⟩ : ByteArray) = t := ⟨_, rfl⟩
      rw [htx] at n0 m0
      rw [hkx] at n1 m1
      rw [hbx] at n2 m2
      clear hNc hNc2 hAg hAg2 hgl hgl2 hx hil hi hin hne htx hkx hbx
      go_wp2_with fail
      go_region
      go_wp2_with fail
      go_roundw
      case rel => exact ⟨i + 1, by go_num, by obtain ⟨j, hj⟩ := HII.out; omega, HB.out.drew⟩
      case measure => obtain ⟨j, hj⟩ := HII.out; simp [intOf]; omega
    · obtain rfl : i = n := by omega
      have e2 : ¬ (i : Int) < (i : Int) := by omega
      go_wp2_with fail
      go_ret
      exact ⟨rfl, HB.out⟩

/-- a text of few bytes, reckoned -/
theorem dec_of {S : List UInt8} {d i b ro : Int} {r : Rs (List Vl)} (h : DecR S d i b ro r) (hm : mayOk d i b ro = true) : decL r = (f0.write (limL d i b) S).ansL ∧ decP r = (f0.write (limL d i b) S).ansP ∧ decE r = (f0.write (limL d i b) S).ansE := by
  obtain ⟨t, k, h1⟩ := h.1 hm
  obtain ⟨r2, h2, h3, h4, h5, -⟩ := feed_runs S (limL d i b)
  obtain ⟨rfl, -, -⟩ := RunsT.same _ _ h1 h2
  exact ⟨h3, h4, h5⟩
def wk1 : List UInt8 := [32, 91, 49, 44, 32, 34, 92, 117, 48, 48, 101, 57, 34, 93]
def wk2 : List UInt8 := [123, 34, 97, 34, 58, 49, 44, 34, 97, 34, 58, 50, 125]
def wkL : List Vl := [⟨5, 2, []⟩, ⟨3, 0, [49]⟩, ⟨4, 0, [195, 169]⟩]
theorem wk1_L : (f0.write (limL 32 4096 262144) wk1).ansL = wkL ∧ (f0.write (limL 32 4096 262144) wk1).ansP = 0 ∧ (f0.write (limL 32 4096 262144) wk1).ansE = 0 := by decide +kernel
theorem wk2_L : (f0.write (limL 32 4096 262144) wk2).ansP = 7 ∧ (f0.write (limL 32 4096 262144) wk2).ansE = 9 := by decide +kernel
theorem wk_E : enc Lib.validD wkL = ([91, 49, 44, 34, 195, 169, 34, 93], 0) := by decide +kernel
theorem wk_dec1 (w : World) : Calls Tryd.prog 10 #[.string ⟨#[32, 91, 49, 44, 32, 34, 92, 117, 48, 48, 101, 57, 34, 93]⟩, .agg #[.int .i64 32, .int .i64 4096, .int .i64 262144, .int .i64 4096]] w (fun e w' => ∃ v, e = .returned (.tuple #[v, .int .i64 0, .int .i64 0]) ∧ w'.ownsRow w.heap.size 61 3 v 3 (vcells wkL) ∧ Below w.heap.size w w') := by
  refine (Jd.decode_any ⟨#[32, 91, 49, 44, 32, 34, 92, 117, 48, 48, 101, 57, 34, 93]⟩ 32 4096 262144 4096 w (by show (14 : Nat) ≤ _; decide)).mono ?_
  rintro e w' ⟨r, hr, v, he, ho, hb⟩
  rw [show (⟨#[32, 91, 49, 44, 32, 34, 92, 117, 48, 48, 101, 57, 34, 93]⟩ : ByteArray).toList = wk1 from tl_mk wk1] at hr
  obtain ⟨h1, h2, h3⟩ := dec_of hr (by decide +kernel)
  rw [wk1_L.1] at h1
  rw [wk1_L.2.1] at h2
  rw [wk1_L.2.2] at h3
  rw [h2, h3] at he
  rw [h1] at ho
  exact ⟨v, he, ho, hb⟩
theorem wk_dec2 (w : World) : Calls Tryd.prog 10 #[.string ⟨#[123, 34, 97, 34, 58, 49, 44, 34, 97, 34, 58, 50, 125]⟩, .agg #[.int .i64 32, .int .i64 4096, .int .i64 262144, .int .i64 4096]] w (fun e w' => ∃ v, e = .returned (.tuple #[v, .int .i64 7, .int .i64 9]) ∧ Below w.heap.size w w') := by
  refine (Jd.decode_any ⟨#[123, 34, 97, 34, 58, 49, 44, 34, 97, 34, 58, 50, 125]⟩ 32 4096 262144 4096 w (by show (13 : Nat) ≤ _; decide)).mono ?_
  rintro e w' ⟨r, hr, v, he, ho, hb⟩
  rw [show (⟨#[123, 34, 97, 34, 58, 49, 44, 34, 97, 34, 58, 50, 125]⟩ : ByteArray).toList = wk2 from tl_mk wk2] at hr
  obtain ⟨-, h2, h3⟩ := dec_of hr (by decide +kernel)
  rw [wk2_L.1] at h2
  rw [wk2_L.2] at h3
  rw [h2, h3] at he
  exact ⟨v, he, hb⟩
theorem wk_enc (w : World) (v : Value) (hS : SvE w v wkL) (hU : UT w.heap.size w) : Calls Tryd.prog 13 #[v] w (fun e w' => e = .returned (.tuple #[.string ⟨#[91, 49, 44, 34, 195, 169, 34, 93]⟩, .int .i64 0]) ∧ Below w.heap.size w w') := by
  refine (jencode_any wkL v w hS (by intro x hx; simp only [wkL, List.mem_cons, List.not_mem_nil, or_false] at hx; rcases hx with rfl | rfl | rfl <;> exact ⟨by decide, by decide⟩) hU (by decide)).mono ?_
  rintro e w' ⟨he, hb⟩
  rw [wk_E] at he
  exact ⟨he, hb⟩
set_option maxRecDepth 100000 in
set_option maxHeartbeats 1600000 in
theorem wakes16_any (w : World) (hU : UT w.heap.size w) : Calls Tryd.prog 9 #[] w (fun e w' => e = .returned (.bool true) ∧ Below w.heap.size w w') := by
  have HU := Lib.hid hU
  have D1 := Lib.hid (fun w' => wk_dec1 w')
  have D2 := Lib.hid (fun w' => wk_dec2 w')
  have EN := Lib.hid (fun w' v hS hU => wk_enc w' v hS hU)
  have MO := Lib.hid (fun w' => most_any w')
  clear hU
  go_enter Tryd.func9, Tryd.ntmps9
  go_wp2_with fail
  refine (MO.out _).mono ?_
  rintro e w2 ⟨rfl, hb2⟩
  have HB2 : Hid (Below w.heap.size w w2) := hb2
  clear hb2
  go_wp2_with fail
  refine (D1.out _).mono ?_
  rintro e w3 ⟨v, rfl, ho, hb3⟩
  have HB3 : Hid (Below w.heap.size w w3) := HB2.out.trans (hb3.mono HB2.out.size)
  have HS3 : Hid (SvE w3 v wkL) := SvE.ofOwn ho
  obtain ⟨a, c, rfl, -⟩ := own_form ho
  clear ho hb3
  go_wp2_with fail
  refine (MO.out _).mono ?_
  rintro e w4 ⟨rfl, hb4⟩
  have HB4 : Hid (Below w.heap.size w w4) := HB3.out.trans (hb4.mono HB3.out.size)
  have HS4 := Lib.hid (HS3.out.below hb4)
  clear hb4
  go_wp2_with fail
  refine (D2.out _).mono ?_
  rintro e w5 ⟨v5, rfl, hb5⟩
  have HB5 : Hid (Below w.heap.size w w5) := HB4.out.trans (hb5.mono HB4.out.size)
  have HS5 := Lib.hid (HS4.out.below hb5)
  clear hb5
  go_wp2_with fail
  refine (EN.out _ _ HS5.out (HU.out.at HB5.out)).mono ?_
  rintro e w6 ⟨rfl, hb6⟩
  have HB6 : Hid (Below w.heap.size w w6) := HB5.out.trans (hb6.mono HB5.out.size)
  clear hb6
  go_wp2_with fail
  go_ret
  exact ⟨rfl, HB6.out⟩
end Jg
end Go.Proofs.YtpaikjlcachabaaDoor
