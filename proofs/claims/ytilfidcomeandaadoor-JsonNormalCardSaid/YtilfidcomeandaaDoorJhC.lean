/- JsonLimits: the walk. -/
import Derived.Test.YtilfidcomeandaaDoorJgA
import Derived.Test.YtilfidcomeandaaDoorJhA
namespace Go.Proofs.YtilfidcomeandaaDoor
open Go.RowKit
set_option linter.unusedVariables false
set_option linter.unusedSimpArgs false
namespace Jg
open Js Je Jh
open Jd (decL decP decE RetDec DecR)
open Dr (Rs Lm has lack)
theorem act_fl9 {L : Lm} {s : St} {b : UInt8} {p q : Nat} {e : Int} (h : s.act L b p = .fl e q) : e ≠ 0 := by
  rcases act_fl h with h | h <;> rw [h] <;> decide
theorem dec_ne {S : List UInt8} {L : Lm} {c : Int} {q : Nat} {b : Bool} (h : ∃ t k, RunsT S L st0 0 (.no c q b) t k) : c ≠ 0 := by
  obtain ⟨t, k, h⟩ := h
  have hl : ∀ {s : St} {p : Nat} {r : Rs (List Vl)} {t k : Nat}, RunsT S L s p r t k → ∀ c q b, r = .no c q b → c ≠ 0 := by
    intro s p r t k h
    induction h with
    | stop hh =>
      intro c q b hr
      have h2 : (lack S L : Rs (List Vl)) = .no c q b → c ≠ 0 := fun h3 => by
        rw [lack] at h3
        cases h3
        rw [Dr.lackE]
        split <;> decide
      rw [fin] at hr
      split at hr
      · split at hr
        · cases hr
        · exact h2 hr
      · exact h2 hr
    | fl hh ha => intro c q b hr; cases hr; exact act_fl9 ha
    | go hh ha h3 ih => exact ih
  exact hl h _ _ _ rfl
theorem dec_is (s : ByteArray) (d i b ro : Int) (w : World) (hz : s.size ≤ 140737488351232) (r : Rs (List Vl)) (hm : mayOk d i b ro = true) (hr : ∃ t k, RunsT s.toList (limL d i b) st0 0 r t k) :
    Calls Tryd.prog 10 #[.string s, .agg #[.int .i64 d, .int .i64 i, .int .i64 b, .int .i64 ro]] w (fun e w' => ∃ v, e = .returned (.tuple #[v, .int .i64 (decP r : Int), .int .i64 (decE r)]) ∧ Hid (SvE w' v (decL r)) ∧ Hid (Below w.heap.size w w') ∧ Hid (∀ (g c : Nat) (x : Value), g < w.heap.size → SvE (w'.setCell ⟨g, c, none⟩ x) v (decL r))) := by
  refine (Jd.decode_any s d i b ro w hz).mono ?_
  rintro e w' ⟨r', hr', v, he, ho, hb⟩
  obtain ⟨t, k, h1⟩ := hr
  obtain ⟨t', k', h2⟩ := hr'.1 hm
  obtain ⟨rfl, -, -⟩ := RunsT.same _ _ h1 h2
  refine ⟨v, he, SvE.ofOwn ho, hb, fun g c x hg => ?_⟩
  obtain ⟨a, cap, rfl, ha⟩ := own_form ho
  refine ⟨a, cap, rfl, fun hl => ?_⟩
  obtain ⟨g', rfl⟩ := ha (List.length_pos_iff.2 hl)
  have h1 := ho.lt g' rfl
  exact ⟨g', rfl, (At.ofOwnN ho).other g c x (.inl (by omega)), by rw [set_size]; exact h1.2⟩
/-- what all of a text's limits come to when it is read -/
structure Just (s : ByteArray) (d i b ro : Int) (l : List Vl) : Prop where
  may : 1 ≤ d ∧ d ≤ 32 ∧ 1 ≤ i ∧ i ≤ 4096 ∧ 1 ≤ b ∧ b ≤ 262144 ∧ 1 ≤ ro ∧ ro ≤ 4096
  len : 1 ≤ l.length ∧ (l.length : Int) ≤ i
  size : 1 ≤ s.size ∧ (s.size : Int) ≤ b
  run : ∃ t k, RunsT s.toList (limL d i b) st0 0 (.ok l) t k
theorem just_of {s : ByteArray} {d i b ro : Int} {l : List Vl} (h : DecR s.toList d i b ro (.ok l)) : Just s d i b ro l := by
  cases hm : mayOk d i b ro with
  | false => have := h.2 hm; cases this
  | true =>
    have hy := mayOk_yes hm
    obtain ⟨t, k, hr⟩ := h.1 hm
    obtain ⟨h1, h2, h3⟩ := runs_some hr
    rw [tl_size] at h2 h3
    have h4 : l.length ≤ i.toNat := by
      have h5 := (dec_of h hm).1
      rw [show decL (.ok l) = l from rfl] at h5
      rw [h5]
      exact ansL_len ((finv0 (limL d i b)).write s.toList)
    have h5 : s.size ≤ b.toNat := h3
    exact ⟨hy, ⟨h1, by omega⟩, ⟨h2, by omega⟩, t, k, hr⟩
theorem Just.great {s : ByteArray} {d i b ro d' i' b' : Int} {l : List Vl} (h : Just s d i b ro l) (h1 : d ≤ d') (h2 : i ≤ i') (h3 : b ≤ b') : ∃ t k, RunsT s.toList (limL d' i' b') st0 0 (.ok l) t k := by
  obtain ⟨t, k, hr⟩ := h.run
  have h4 := h.len
  have h5 := h.size
  exact ⟨t, k, (runs_re (L := limL d i b) (L' := limL d' i' b') (by show d.toNat ≤ d'.toNat; omega) (by rw [tl_size]; show _ ≤ b'.toNat; omega) hr l rfl).2.2 (by show _ ≤ i'.toNat; omega)⟩
theorem Just.just {s : ByteArray} {d i b ro : Int} {l : List Vl} (h : Just s d i b ro l) : ∃ t k, RunsT s.toList (limL d l.length s.size) st0 0 (.ok l) t k := by
  obtain ⟨t, k, hr⟩ := h.run
  exact ⟨t, k, (runs_re (L := limL d i b) (L' := limL d l.length s.size) (Nat.le_refl _) (by rw [tl_size]; show _ ≤ (s.size : Int).toNat; omega) hr l rfl).2.2 (by show _ ≤ (l.length : Int).toNat; omega)⟩
theorem mayOk_in {d i b r : Int} (h : 1 ≤ d ∧ d ≤ 32 ∧ 1 ≤ i ∧ i ≤ 4096 ∧ 1 ≤ b ∧ b ≤ 262144 ∧ 1 ≤ r ∧ r ≤ 4096) : mayOk d i b r = true := decide_eq_true h
theorem few_any {s : ByteArray} {d i b ro : Int} {l : List Vl} (h : Just s d i b ro l) (k : Nat) (hk : k + 1 = l.length) (w : World) (hz : s.size ≤ 140737488351232) :
    Calls Tryd.prog 10 #[.string s, .agg #[.int .i64 d, .int .i64 (k : Int), .int .i64 (s.size : Int), .int .i64 1]] w (fun e w' => ∃ (v : Value) (p : Nat) (c : Int), e = .returned (.tuple #[v, .int .i64 (p : Int), .int .i64 c]) ∧ (k < 1 ∨ c = 10) ∧ Hid (Below w.heap.size w w')) := by
  refine (Jd.decode_any s d k s.size 1 w hz).mono ?_
  rintro e w' ⟨r, hr, v, he, ho, hb⟩
  refine ⟨v, _, _, he, ?_, hb⟩
  by_cases h1 : k < 1
  · exact .inl h1
  · have h2 := h.may
    have h3 := h.len
    have h4 := h.size
    obtain ⟨t, kk, h5⟩ := h.run
    obtain ⟨q, t2, k2, h6⟩ := runs_few (L := limL d i b) (L' := limL d k s.size) (Nat.le_refl _) (by rw [tl_size]; show _ ≤ (s.size : Int).toNat; omega) h5 l rfl (Nat.zero_le _) (by show (k : Int).toNat < _; omega)
    obtain ⟨t3, k3, h7⟩ := hr.1 (mayOk_in (by omega))
    obtain ⟨rfl, -, -⟩ := RunsT.same _ _ h7 h6
    exact .inr rfl
set_option maxRecDepth 100000 in
set_option maxHeartbeats 6400000 in
theorem jsonLimits_walk (s : ByteArray) (d i b ro d2 i2 b2 ro2 : Int) (hz : s.size ≤ 140737488351232) (w : World) (hU : UT w.heap.size w) :
    Calls Tryd.prog 7 #[.string s, .agg #[.int .i64 d, .int .i64 i, .int .i64 b, .int .i64 ro], .agg #[.int .i64 d2, .int .i64 i2, .int .i64 b2, .int .i64 ro2]] w (RetT w) := by
  have HU := Lib.hid hU
  have WK := Lib.hid (fun w hU => wakes16_any w hU)
  have MA := Lib.hid (fun d i b r w' => rmay_any d i b r w')
  have D1 := Lib.hid (fun w => Jd.decode_any s d i b ro w hz)
  have D2 := Lib.hid (fun d i b ro w r hm hr => dec_is s d i b ro w hz r hm hr)
  have HZ := Lib.hid hz
  have HB0 : Hid (Below w.heap.size w ((w.alloc (Obj.cells #[.int .i64 d, .int .i64 i, .int .i64 b, .int .i64 ro] 23)).alloc (Obj.cells #[.int .i64 d2, .int .i64 i2, .int .i64 b2, .int .i64 ro2] 23))) := ((Below.refl _ _).alloc (Nat.le_refl _) _).alloc (by simp) _
  have HL0 := Lib.hid ((Lm4.ofAlloc w d i b ro).alloc (Obj.cells #[.int .i64 d2, .int .i64 i2, .int .i64 b2, .int .i64 ro2] 23))
  have HM0 := Lib.hid (Lm4.ofAlloc (w.alloc (Obj.cells #[.int .i64 d, .int .i64 i, .int .i64 b, .int .i64 ro] 23)) d2 i2 b2 ro2)
  rw [show (w.alloc (Obj.cells #[.int .i64 d, .int .i64 i, .int .i64 b, .int .i64 ro] 23)).heap.size = w.heap.size + 1 by simp] at HM0
  clear hU hz
  go_enter Tryd.func7, Tryd.ntmps7
  go_wp2_with fail
  obtain ⟨B, hB⟩ : ∃ B, w.heap.size = B := ⟨_, rfl⟩
  rw [hB] at HL0 HM0
  rw [hB]
  obtain ⟨w0, hw0⟩ : ∃ w0, ((w.alloc (Obj.cells #[.int .i64 d, .int .i64 i, .int .i64 b, .int .i64 ro] 23)).alloc (Obj.cells #[.int .i64 d2, .int .i64 i2, .int .i64 b2, .int .i64 ro2] 23)) = w0 := ⟨_, rfl⟩
  rw [hw0] at HL0 HM0 HB0
  rw [hw0]
  have HBB := Lib.hid hB
  clear hw0 hB
  refine (WK.out _ (HU.out.at HB0.out)).mono ?_
  rintro e w1 ⟨rfl, hb1⟩
  have HB1 : Hid (Below w.heap.size w w1) := HB0.out.trans (hb1.mono HB0.out.size)
  have HL1 := Lib.hid (HL0.out.below hb1)
  have HM1 := Lib.hid (HM0.out.below hb1)
  clear hb1
  have l0 := HL1.out.at0.cell 0 _ rfl
  have l1 := HL1.out.at0.cell 1 _ rfl
  have l2 := HL1.out.at0.cell 2 _ rfl
  have l3 := HL1.out.at0.cell 3 _ rfl
  rw [Nat.zero_add] at l0 l1 l2 l3
  go_wp2_with fail
  refine (D1.out _).mono ?_
  rintro e w2 ⟨r, hr, v, rfl, ho, hb2⟩
  have HB2 : Hid (Below w.heap.size w w2) := HB1.out.trans (hb2.mono HB1.out.size)
  have HL2 := Lib.hid (HL1.out.below hb2)
  have HM2 := Lib.hid (HM1.out.below hb2)
  obtain ⟨a, c, rfl, ha⟩ := own_form ho
  clear l0 l1 l2 l3 ha hb2
  cases r with
  | no c0 q b0 =>
    have hc : ¬ c0 = 0 := by
      cases hm : mayOk d i b ro with
      | false => have h9 := hr.2 hm; cases h9; decide
      | true => exact dec_ne (hr.1 hm)
    rw [show decE (.no c0 q b0) = c0 from rfl, show decL (.no c0 q b0) = [] from rfl]
    clear ho hr
    go_wp2_with fail
    go_ret
    exact ⟨rfl, HB2.out⟩
  | ok l =>
    rw [show decE (.ok l) = 0 from rfl, show decL (.ok l) = l from rfl]
    have HJ := Lib.hid (just_of hr)
    have HS2 := Lib.hid (SvE.ofOwn ho)
    rw [show decL (.ok l) = l from rfl] at HS2
    obtain ⟨n, hn⟩ : ∃ n, l.length = n := ⟨_, rfl⟩
    rw [hn] at HS2
    rw [hn]
    have HN := Lib.hid hn
    clear ho hr hn
    have l0 := HL2.out.at0.cell 0 _ rfl
    have l1 := HL2.out.at0.cell 1 _ rfl
    have l2 := HL2.out.at0.cell 2 _ rfl
    have l3 := HL2.out.at0.cell 3 _ rfl
    rw [Nat.zero_add] at l0 l1 l2 l3
    have m0 := HM2.out.at0.cell 0 _ rfl
    have m1 := HM2.out.at0.cell 1 _ rfl
    have m2 := HM2.out.at0.cell 2 _ rfl
    have m3 := HM2.out.at0.cell 3 _ rfl
    rw [Nat.zero_add] at m0 m1 m2 m3
    obtain ⟨gd, hgd⟩ : ∃ x, max d d2 = x := ⟨_, rfl⟩
    obtain ⟨gi, hgi⟩ : ∃ x, max i i2 = x := ⟨_, rfl⟩
    obtain ⟨gb, hgb⟩ : ∃ x, max b b2 = x := ⟨_, rfl⟩
    obtain ⟨gr, hgr⟩ : ∃ x, max ro ro2 = x := ⟨_, rfl⟩
    go_wp2_with fail
    -- REST
    obtain ⟨mg, hmg⟩ : ∃ m, mayOk gd gi gb gr = m := ⟨_, rfl⟩
    have MG := Lib.hid (fun w' => MA.out gd gi gb gr w')
    rw [hmg] at MG
    have HBa : Hid (Below w.heap.size w (w2.alloc (Obj.cells #[.int .i64 gd, .int .i64 gi, .int .i64 gb, .int .i64 gr] 23))) := HB2.out.alloc HB2.out.size _
    have HLa := Lib.hid (HL2.out.alloc (Obj.cells #[.int .i64 gd, .int .i64 gi, .int .i64 gb, .int .i64 gr] 23))
    have HGa := Lib.hid (Lm4.ofAlloc w2 gd gi gb gr)
    have HSa := Lib.hid (HS2.out.below ((Below.refl _ _).alloc (Nat.le_refl _) (Obj.cells #[.int .i64 gd, .int .i64 gi, .int .i64 gb, .int .i64 gr] 23)))
    have HG := Lib.hid (And.intro hmg (show (∃ t k, RunsT s.toList (limL gd gi gb) st0 0 (.ok l) t k) from HJ.out.great (by omega) (by omega) (by omega)))
    have hn4 : n ≤ 4096 := by have h1 := HJ.out.len; have h2 := HJ.out.may; have h3 := HN.out; omega
    have SA := Lib.hid (fun v u w' (h1 : SvE w' v l) (h2 : SvE w' u l) => vsame_eq l v u w' h1 h2 (by rw [HN.out]; omega))
    have HF : Hid (mayOk d n s.size 1 = true ∧ (∃ t k, RunsT s.toList (limL d n s.size) st0 0 (.ok l) t k) ∧ 1 ≤ n ∧ n ≤ 4096) := by
      have h1 := HJ.out.len
      have h2 := HJ.out.may
      have h3 := HJ.out.size
      rw [HN.out] at h1
      refine ⟨mayOk_in (by omega), ?_, by omega, hn4⟩
      have h4 := HJ.out.just
      rw [HN.out] at h4
      exact h4
    clear l0 l1 l2 l3 m0 m1 m2 m3 hgd hgi hgb hgr hmg hn4
    refine (MG.out _).mono ?_
    rintro e w3 ⟨rfl, hb3⟩
    have HB3 : Hid (Below w.heap.size w w3) := HBa.out.trans (hb3.mono HBa.out.size)
    have HL3 := Lib.hid (HLa.out.below hb3)
    have HG3 := Lib.hid (HGa.out.below hb3)
    have HS3 := Lib.hid (HSa.out.below hb3)
    clear hb3 HLa HGa HSa HBa
    obtain ⟨Ga, hGa⟩ : ∃ Ga, w2.heap.size = Ga := ⟨_, rfl⟩
    rw [hGa] at HG3
    rw [hGa]
    clear hGa
    cases mg with
    | true =>
      have l0 := HG3.out.at0.cell 0 _ rfl
      have l1 := HG3.out.at0.cell 1 _ rfl
      have l2 := HG3.out.at0.cell 2 _ rfl
      have l3 := HG3.out.at0.cell 3 _ rfl
      rw [Nat.zero_add] at l0 l1 l2 l3
      go_wp2_with fail
      refine (D2.out gd gi gb gr _ (.ok l) HG.out.1 HG.out.2).mono ?_
      rintro e w4 ⟨v4, rfl, HS4, hb4, -⟩
      have HB4 : Hid (Below w.heap.size w w4) := HB3.out.trans (hb4.out.mono HB3.out.size)
      have HSl4 := Lib.hid (HS3.out.below hb4.out)
      have HL4 := Lib.hid (HL3.out.below hb4.out)
      clear hb4 l0 l1 l2 l3
      rw [show decE (.ok l) = 0 from rfl, show decL (.ok l) = l from rfl] at *
      go_upto_region 11 with (first | (go_at_call 12; refine (SA.out _ _ _ HSl4.out HS4.out).mono ?_; rintro e wj ⟨rfl, hbj⟩; have HBj : Hid (Below w.heap.size w wj) := HB4.out.trans (hbj.mono HB4.out.size); have HLj := Lib.hid (HL4.out.below hbj); have HSj := Lib.hid (HSl4.out.below hbj)))
      have j0 := HLj.out.at0.cell 0 _ rfl
      rw [Nat.zero_add] at j0
      have HAj := Lib.hid (Lm4.ofAlloc wj d n s.size 1)
      have HBk : Hid (Below w.heap.size w (wj.alloc (Obj.cells #[.int .i64 d, .int .i64 n, .int .i64 s.size, .int .i64 1] 23))) := HBj.out.alloc HBj.out.size _
      have HSk : Hid (SvE (wj.alloc (Obj.cells #[.int .i64 d, .int .i64 n, .int .i64 s.size, .int .i64 1] 23)) (.slice a n c) l) := HSj.out.below ((Below.refl _ _).alloc (Nat.le_refl _) _)
      go_wp2_with fail
      refine (D2.out d n s.size 1 _ (.ok l) HF.out.1 HF.out.2.1).mono ?_
      rintro e w5 ⟨v5, rfl, HS5, hb5, hq5⟩
      have HB5 : Hid (Below w.heap.size w w5) := HBk.out.trans (hb5.out.mono HBk.out.size)
      have HSl5 : Hid (SvE w5 (.slice a n c) l) := HSk.out.below hb5.out
      have HA5 := Lib.hid (HAj.out.below hb5.out)
      have HW5 : Hid (Below wj.heap.size wj w5) := ((Below.refl wj.heap.size wj).alloc (Nat.le_refl _) _).trans (hb5.out.mono (by simp))
      clear hb5 HAj HBk HSk j0
      rw [show decE (.ok l) = 0 from rfl]
      have f0 := HA5.out.at0.cell 0 _ rfl
      have f1 := HA5.out.at0.cell 1 _ rfl
      have f2 := HA5.out.at0.cell 2 _ rfl
      have f3 := HA5.out.at0.cell 3 _ rfl
      have z1 := HA5.out.at0.froz 1 (Nat.le_of_ble_eq_true rfl)
      rw [Nat.zero_add] at f0 f1 f2 f3 z1
      obtain ⟨k, hk⟩ : ∃ k, k + 1 = n := ⟨n - 1, by have := HF.out.2.2.1; omega⟩
      have e1 : (n : Int) - 1 = (k : Int) := by omega
      have e3 : (k : Int) ≤ 4096 := by have := HF.out.2.2.2; omega
      have FE := Lib.hid (fun w' => few_any HJ.out k (by rw [HN.out]; exact hk) w' HZ.out)
      have HA5s := Lib.hid (show Lm4 (w5.setCell ⟨wj.heap.size, 1, none⟩ (.int .i64 (k : Int))) wj.heap.size d k s.size 1 from ⟨by have h9 := HA5.out.at0.set 1 (.int .i64 (k : Int)); rw [Nat.zero_add] at h9; exact h9, by rw [set_size]; exact HA5.out.lt⟩)
      have HB5s : Hid (Below w.heap.size w (w5.setCell ⟨wj.heap.size, 1, none⟩ (.int .i64 (k : Int)))) := HB5.out.setCell (p := ⟨wj.heap.size, 1, none⟩) HBj.out.size _
      have HSl5s : Hid (SvE (w5.setCell ⟨wj.heap.size, 1, none⟩ (.int .i64 (k : Int))) (.slice a n c) l) := HSj.out.below (HW5.out.setCell (p := ⟨wj.heap.size, 1, none⟩) (Nat.le_refl _) _)
      have HS5s : Hid (SvE (w5.setCell ⟨wj.heap.size, 1, none⟩ (.int .i64 (k : Int))) v5 l) := hq5.out wj.heap.size 1 _ (by simp)
      clear hk
      go_upto_region 14 with fail
      generalize w5.setCell ⟨wj.heap.size, 1, none⟩ (.int .i64 (k : Int)) = w6 at *
      have f06 := HA5s.out.at0.cell 0 _ rfl
      have f16 := HA5s.out.at0.cell 1 _ rfl
      have f26 := HA5s.out.at0.cell 2 _ rfl
      have f36 := HA5s.out.at0.cell 3 _ rfl
      rw [Nat.zero_add] at f06 f16 f26 f36
      clear f0 f1 f2 f3 z1
      go_wp2_with fail
      refine (FE.out _).mono ?_
      rintro e w7 ⟨v7, p7, c7, rfl, hc7, hb7⟩
      have HB7 : Hid (Below w.heap.size w w7) := HB5s.out.trans (hb7.out.mono HB5s.out.size)
      have HSl7 := Lib.hid (HSl5s.out.below hb7.out)
      have HS7 := Lib.hid (HS5s.out.below hb7.out)
      have HA7 := Lib.hid (HA5s.out.below hb7.out)
      clear hb7 f06 f16 f26 f36
      have SA7 := Lib.hid (SA.out _ _ _ HSl7.out HS7.out)
      clear SA
      by_cases k1 : k < 1
      · have e5 : (k : Int) < 1 := by omega
        clear hc7 k1
        go_wp2_with (first | (go_at_call 12; refine SA7.out.mono ?_; rintro e w10 ⟨rfl, hb10⟩; have HB10 : Hid (Below w.heap.size w w10) := HB7.out.trans (hb10.mono HB7.out.size); have f1 := (HA7.out.below hb10).at0.cell 1 _ rfl; rw [Nat.zero_add] at f1))
        go_ret
        exact ⟨rfl, HB10.out⟩
      · have e5 : ¬ (k : Int) < 1 := by omega
        obtain rfl := hc7.resolve_left k1
        clear hc7 k1
        go_wp2_with (first | (go_at_call 12; refine SA7.out.mono ?_; rintro e w10 ⟨rfl, hb10⟩; have HB10 : Hid (Below w.heap.size w w10) := HB7.out.trans (hb10.mono HB7.out.size); have f1 := (HA7.out.below hb10).at0.cell 1 _ rfl; rw [Nat.zero_add] at f1))
        go_ret
        exact ⟨rfl, HB10.out⟩
    | false =>
      obtain ⟨wj, hwj⟩ : ∃ x, x = w3 := ⟨_, rfl⟩
      subst hwj
      have HBj := HB3
      have HLj := HL3
      have HSj := HS3
      have j0 := HLj.out.at0.cell 0 _ rfl
      rw [Nat.zero_add] at j0
      have HAj := Lib.hid (Lm4.ofAlloc wj d n s.size 1)
      have HBk : Hid (Below w.heap.size w (wj.alloc (Obj.cells #[.int .i64 d, .int .i64 n, .int .i64 s.size, .int .i64 1] 23))) := HBj.out.alloc HBj.out.size _
      have HSk : Hid (SvE (wj.alloc (Obj.cells #[.int .i64 d, .int .i64 n, .int .i64 s.size, .int .i64 1] 23)) (.slice a n c) l) := HSj.out.below ((Below.refl _ _).alloc (Nat.le_refl _) _)
      go_wp2_with fail
      refine (D2.out d n s.size 1 _ (.ok l) HF.out.1 HF.out.2.1).mono ?_
      rintro e w5 ⟨v5, rfl, HS5, hb5, hq5⟩
      have HB5 : Hid (Below w.heap.size w w5) := HBk.out.trans (hb5.out.mono HBk.out.size)
      have HSl5 : Hid (SvE w5 (.slice a n c) l) := HSk.out.below hb5.out
      have HA5 := Lib.hid (HAj.out.below hb5.out)
      have HW5 : Hid (Below wj.heap.size wj w5) := ((Below.refl wj.heap.size wj).alloc (Nat.le_refl _) _).trans (hb5.out.mono (by simp))
      clear hb5 HAj HBk HSk j0
      rw [show decE (.ok l) = 0 from rfl]
      have f0 := HA5.out.at0.cell 0 _ rfl
      have f1 := HA5.out.at0.cell 1 _ rfl
      have f2 := HA5.out.at0.cell 2 _ rfl
      have f3 := HA5.out.at0.cell 3 _ rfl
      have z1 := HA5.out.at0.froz 1 (Nat.le_of_ble_eq_true rfl)
      rw [Nat.zero_add] at f0 f1 f2 f3 z1
      obtain ⟨k, hk⟩ : ∃ k, k + 1 = n := ⟨n - 1, by have := HF.out.2.2.1; omega⟩
      have e1 : (n : Int) - 1 = (k : Int) := by omega
      have e3 : (k : Int) ≤ 4096 := by have := HF.out.2.2.2; omega
      have FE := Lib.hid (fun w' => few_any HJ.out k (by rw [HN.out]; exact hk) w' HZ.out)
      have HA5s := Lib.hid (show Lm4 (w5.setCell ⟨wj.heap.size, 1, none⟩ (.int .i64 (k : Int))) wj.heap.size d k s.size 1 from ⟨by have h9 := HA5.out.at0.set 1 (.int .i64 (k : Int)); rw [Nat.zero_add] at h9; exact h9, by rw [set_size]; exact HA5.out.lt⟩)
      have HB5s : Hid (Below w.heap.size w (w5.setCell ⟨wj.heap.size, 1, none⟩ (.int .i64 (k : Int)))) := HB5.out.setCell (p := ⟨wj.heap.size, 1, none⟩) HBj.out.size _
      have HSl5s : Hid (SvE (w5.setCell ⟨wj.heap.size, 1, none⟩ (.int .i64 (k : Int))) (.slice a n c) l) := HSj.out.below (HW5.out.setCell (p := ⟨wj.heap.size, 1, none⟩) (Nat.le_refl _) _)
      have HS5s : Hid (SvE (w5.setCell ⟨wj.heap.size, 1, none⟩ (.int .i64 (k : Int))) v5 l) := hq5.out wj.heap.size 1 _ (by simp)
      clear hk
      go_upto_region 14 with fail
      generalize w5.setCell ⟨wj.heap.size, 1, none⟩ (.int .i64 (k : Int)) = w6 at *
      have f06 := HA5s.out.at0.cell 0 _ rfl
      have f16 := HA5s.out.at0.cell 1 _ rfl
      have f26 := HA5s.out.at0.cell 2 _ rfl
      have f36 := HA5s.out.at0.cell 3 _ rfl
      rw [Nat.zero_add] at f06 f16 f26 f36
      clear f0 f1 f2 f3 z1
      go_wp2_with fail
      refine (FE.out _).mono ?_
      rintro e w7 ⟨v7, p7, c7, rfl, hc7, hb7⟩
      have HB7 : Hid (Below w.heap.size w w7) := HB5s.out.trans (hb7.out.mono HB5s.out.size)
      have HSl7 := Lib.hid (HSl5s.out.below hb7.out)
      have HS7 := Lib.hid (HS5s.out.below hb7.out)
      have HA7 := Lib.hid (HA5s.out.below hb7.out)
      clear hb7 f06 f16 f26 f36
      have SA7 := Lib.hid (SA.out _ _ _ HSl7.out HS7.out)
      clear SA
      by_cases k1 : k < 1
      · have e5 : (k : Int) < 1 := by omega
        clear hc7 k1
        go_wp2_with (first | (go_at_call 12; refine SA7.out.mono ?_; rintro e w10 ⟨rfl, hb10⟩; have HB10 : Hid (Below w.heap.size w w10) := HB7.out.trans (hb10.mono HB7.out.size); have f1 := (HA7.out.below hb10).at0.cell 1 _ rfl; rw [Nat.zero_add] at f1))
        go_ret
        exact ⟨rfl, HB10.out⟩
      · have e5 : ¬ (k : Int) < 1 := by omega
        obtain rfl := hc7.resolve_left k1
        clear hc7 k1
        go_wp2_with (first | (go_at_call 12; refine SA7.out.mono ?_; rintro e w10 ⟨rfl, hb10⟩; have HB10 : Hid (Below w.heap.size w w10) := HB7.out.trans (hb10.mono HB7.out.size); have f1 := (HA7.out.below hb10).at0.cell 1 _ rfl; rw [Nat.zero_add] at f1))
        go_ret
        exact ⟨rfl, HB10.out⟩
end Jg
end Go.Proofs.YtilfidcomeandaaDoor
