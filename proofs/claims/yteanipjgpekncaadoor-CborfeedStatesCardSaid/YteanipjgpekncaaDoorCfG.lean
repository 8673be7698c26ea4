/- A feed of items in memory: bytes are taken. -/
import Derived.Test.YteanipjgpekncaaDoorCfF
namespace Go.Proofs.YteanipjgpekncaaDoor
open Go.RowKit
set_option linter.unusedVariables false
set_option linter.unusedSimpArgs false
namespace Cf
open Co
open Dr (Rs Lm has lack at0S lackE lackP)
section
variable (txt : List UInt8 → Bool) (L : Lm)
theorem close_T : ∀ (k : Nat) (f : Fs), (Fs.close k f).T = f.T
  | 0, f => rfl
  | k + 1, f => by
    rw [Fs.close]
    split
    · rfl
    · split
      · exact (close_T k _).trans (ended_T _ _)
      · rfl
theorem whole_T (f : Fs) : (f.whole txt).T = f.T := by
  rw [Fs.whole]
  split
  · rfl
  · exact ((close_T _ _).trans (ended_T _ _))
theorem headed_T (f : Fs) : (f.headed txt L).T = f.T := by
  rw [Fs.headed]
  split
  · rfl
  · split
    · split
      · exact whole_T txt { f with left := f.arg, m := 2 }
      · rfl
    · split
      · split
        · rfl
        · exact close_T _ { f.numbered with G := frN f.a f.lastK f.arg :: f.G, m := 0 }
      · exact (close_T _ _).trans (ended_T _ _)
theorem go_T (f : Fs) (x : UInt8) : (Fs.go txt L f x).T = f.T := by
  rw [Fs.go]
  split
  · rw [Fs.head]
    split
    · rfl
    · split
      · rfl
      · split
        · exact headed_T txt L { f.begun x with arg := infT x }
        · rfl
  · split
    · rw [Fs.argd]
      split
      · exact headed_T txt L { f with arg := 256 * f.arg + x.toNat, left := f.left - 1 }
      · rfl
    · split
      · rw [Fs.body]
        split
        · exact whole_T txt { f with left := f.left - 1 }
        · rfl
      · rfl
end
structure Fine (A : List UInt8) (L : Lm) (txt : List UInt8 → Bool) (k : Nat) (f : Fs) : Prop where
  good : Good A L txt f
  tx : f.e = 0 → f.T = A.take k
theorem take_fine {A : List UInt8} {L : Lm} {txt : List UInt8 → Bool} {k : Nat} {f : Fs} (h : Fine A L txt k f) (hk : k < A.length) : Fine A L txt (k + 1) (f.take txt L (A.getD k 0)) := by
  by_cases he : f.e = 0
  · have hT := h.tx he
    have hl : f.T.length = k := by rw [hT, List.length_take]; omega
    have h1 := take_good f he (h.good.2 he) (by rw [hl]; exact hk)
    rw [hl] at h1
    refine ⟨h1, fun h0 => ?_⟩
    rw [Fs.take, if_neg (fun h => h he)] at h0 ⊢
    split
    · rename_i h2; rw [if_pos h2] at h0; exact absurd h0 (show (10 : Int) ≠ 0 by decide)
    · rw [Fs.step, go_T]
      show f.T ++ _ = _
      rw [hT, snoc_take hk]
  · rw [take_bad f _ he]
    exact ⟨h.good, fun h0 => absurd h0 he⟩
theorem feed_fine (A : List UInt8) (L : Lm) (txt : List UInt8 → Bool) : ∀ k, k ≤ A.length → Fine A L txt k (f0.feed txt L (A.take k))
  | 0, _ => by
    rw [List.take_zero]
    exact ⟨⟨fun h => absurd rfl h, fun _ => inv_f0⟩, fun _ => rfl⟩
  | k + 1, h => by
    rw [← snoc_take (by omega : k < A.length), feed_append]
    exact take_fine (feed_fine A L txt k (by omega)) (by omega)
/-- what a feed tells at its end -/
def ans (f : Fs) : Rs (List Am) := if f.e ≠ 0 then .no f.e f.pl false else if f.m = 3 then .ok f.l else .no 9 f.T.length true
theorem feed_runs (A : List UInt8) (L : Lm) (txt : List UInt8 → Bool) : Runs A L txt Op.bytesLess (.el [] [] 0) (ans (f0.feed txt L A)) := by
  have h := feed_fine A L txt A.length (Nat.le_refl _)
  rw [List.take_length] at h
  generalize f0.feed txt L A = f at h
  rw [ans]
  by_cases he : f.e = 0
  · rw [if_neg (fun h => h he)]
    have hT := h.tx he
    rw [List.take_length] at hT
    have hi := h.good.2 he
    have hl : f.T.length = A.length := by rw [hT]
    have hh : has A L f.T.length = false := decide_eq_false (fun h9 => by omega)
    split
    · rename_i hm
      have h9 := inv_fin hi hm
      rw [fin, if_neg (by omega)] at h9
      exact h9
    · rename_i hm
      have h9 := inv_lack hi hh hm
      have hb := hi.lb
      rw [lack, lackE, lackP, if_neg (by omega), if_neg (by omega), decide_eq_true (by omega)] at h9
      rw [hl]
      exact h9
  · rw [if_pos he]
    exact h.good.1 he
theorem getd_drop {S : List UInt8} {q : Nat} (h : q < S.length) : S.drop q = S.getD q 0 :: S.drop (q + 1) := by
  rw [List.drop_eq_getElem_cons h, List.getD, List.getElem?_eq_getElem h]; rfl
/-- limits that may be -/
structure Lok (L : Lm) : Prop where
  i : L.items ≤ 4096
  d : L.depth ≤ 32
  b : L.bytes ≤ 262144
  p : 0 < L.depth
def RW (f : Fs) (g β : Nat) (L : Lm) (ro : Int) (w : World) (e : Ending) (w' : World) : Prop := e = .returned (.int .i64 f.e) ∧ ∃ vT vN vS, Hid (FmS w' g β L ro f vT vN vS) ∧ Hid (Bx g β w w')
theorem RW.of {R f : Fs} {g β : Nat} {L : Lm} {ro : Int} {w w' : World} {vT vN vS : Value} {e : Int} (hR : Hid (R = f)) (he : Hid (f.e = e)) (h : Hid (FmS w' g β L ro f vT vN vS)) (hb : Hid (Bx g β w w')) : RW R g β L ro w (.returned (.int .i64 e)) w' := by
  have h1 := hR.out
  subst h1
  exact ⟨by rw [he.out], _, _, _, h, hb⟩
theorem El.ln {A : List UInt8} {L : Lm} {txt : List UInt8 → Bool} {f : Fs} {l : List Am} {t : UInt8} (h : El A L txt f l t) : 0 < f.l.length := by rw [h.fl]; simp
set_option maxRecDepth 100000 in
set_option maxHeartbeats 3200000 in
theorem ftake_any (w : World) (g β : Nat) (L : Lm) (ro : Int) (A : List UInt8) (f : Fs) (vT vN vS : Value) (h : FmS w g β L ro (more f A) vT vN vS) (hU : UT g w) (hI : Inv A L Lib.validD f) (hL : Lok L) (h2 : f.T.length < L.bytes) (x : UInt8) (b : Nat) (hx : x.toNat = b) :
    Calls Tryd.prog 41 #[.pointer (some ⟨g, 0, none⟩), .int .u8 (b : Int)] w (RF (Fs.go Lib.validD L (more f A) x) g β L ro w) := by
  have hgb : g < β := h.gb
  have hb2 : b < 256 := by rw [← hx]; exact x.toNat_lt
  have hlb := hL.b
  have htl : (more f A).T.length = f.T.length + 1 := more_len f A
  have ht0 : 0 < (more f A).T.length := by omega
  have htT : (more f A).T.length ≤ 262144 := by omega
  have hgf : Gf (more f A).G ((more f A).T.length - 1) := hI.gd.mono (by omega)
  have hgl : (more f A).G.length ≤ 4096 := by have := hI.gl; have := hL.d; show f.G.length ≤ _; omega
  have hli : (more f A).l.length ≤ 4096 := by have := hI.li; have := hL.i; show f.l.length ≤ _; omega
  have hmm := hI.mm
  have c7 := h.at0.cell 7 _ rfl
  obtain ⟨R, hR⟩ : ∃ R, Fs.go Lib.validD L (more f A) x = R := ⟨_, rfl⟩
  rw [hR]
  rw [Fs.go] at hR
  have HF := Lib.hid h
  have HB := Lib.hid (Bx.refl' g β w)
  by_cases m0 : f.m = 0
  · rw [if_pos (show (more f A).m = 0 from m0)] at hR
    rw [show (more f A).m = 0 from m0] at c7
    have HD := Lib.hid (head_any w g β L ro (more f A) vT vN vS h ⟨hU, hL.i, ht0, htT, hgf, hgl⟩ x b hx)
    rw [hR] at HD
    clear h hU hI hL h2 hx hb2 hlb htl ht0 htT hgf hgl hli hmm hR m0
    go_enter Tryd.func41, Tryd.ntmps41
    go_wp2_with fail
    refine HD.out.mono ?_
    rintro e w5 ⟨rfl, vT5, vN5, vS5, hF5, hB5⟩
    go_wp2_with fail
    first | go_end0 | refine bodyPost_ret (results_none rfl _ _ _) rfl ?_
    exact ⟨rfl, _, _, _, hF5, hB5⟩
  rw [if_neg (show ¬ (more f A).m = 0 from m0)] at hR
  by_cases m1 : f.m = 1
  · rw [if_pos (show (more f A).m = 1 from m1), Fs.argd] at hR
    rw [show (more f A).m = 1 from m1] at c7
    obtain ⟨l, t, hE, i, y1, y2, y3, y4⟩ := hI.m1 m1
    have hwl := wid_le hE.ok
    have h3 := argB_lt f.a i _ y4
    have h4 : f.arg < 256 ^ 7 := Nat.lt_of_lt_of_le h3 (Nat.pow_le_pow_right (by decide) (by omega))
    have h4 : f.arg < 72057594037927936 := h4
    obtain ⟨ar, har⟩ : ∃ a, f.arg = a := ⟨_, rfl⟩
    obtain ⟨lf, hlf⟩ : ∃ a, f.left = a := ⟨_, rfl⟩
    rw [show (more f A).arg = f.arg from rfl, show (more f A).left = f.left from rfl, har, hlf, hx] at hR
    rw [har] at h4
    have c12 := h.at0.cell 12 _ rfl
    have c13 := h.at0.cell 13 _ rfl
    have f12 := h.at0.froz 12 (by show 12 < 14; decide)
    have f13 := h.at0.froz 13 (by show 13 < 14; decide)
    rw [show (more f A).arg = f.arg from rfl, har] at c13
    rw [show (more f A).left = f.left from rfl, hlf] at c12
    obtain ⟨q, hq⟩ : ∃ q, 256 * ar + b = q := ⟨_, rfl⟩
    obtain ⟨l1, hl1⟩ : ∃ q, lf - 1 = q := ⟨_, rfl⟩
    rw [hq, hl1] at hR
    have ho := or8u ar b hb2 (by omega)
    rw [hq] at ho
    obtain ⟨m8, hm8⟩ : ∃ q, 256 * ar = q := ⟨_, rfl⟩
    rw [hm8] at ho
    have hwm : IntKind.u64.wrap ((ar : Int) * 256) = (m8 : Int) := by
      rw [show ((ar : Int) * 256) = (m8 : Int) by omega]
      exact u64c _ (by omega)
    have hwd : IntKind.u64.wrap (b : Int) = (b : Int) := u64c b (by omega)
    have hs1 : (lf : Int) - 1 = (l1 : Int) := by omega
    have hs2 : IntKind.u64.wrap (l1 : Int) = (l1 : Int) := u64c l1 (by omega)
    have HF2 : Hid (FmS ((w.setCell ⟨g, 13, none⟩ (.int .u64 (q : Int))).setCell ⟨g, 12, none⟩ (.int .u64 (l1 : Int))) g β L ro { more f A with arg := q, left := l1 } vT vN vS) := (h.set 6 (.int .u64 (q : Int))).set 5 (.int .u64 (l1 : Int))
    have HB2 : Hid (Bx g β w ((w.setCell ⟨g, 13, none⟩ (.int .u64 (q : Int))).setCell ⟨g, 12, none⟩ (.int .u64 (l1 : Int)))) := (HB.out.setG _).setG _
    by_cases hz : l1 = 0
    · have q1 : ((l1 : Int) == 0) = true := by rw [beq_iff_eq]; omega
      rw [if_pos hz] at hR
      have HD := Lib.hid (headed_any _ g β L ro { more f A with arg := q, left := l1 } vT vN vS HF2.out ⟨ut_bxf hU HB2.out hgb, hE.ln, hli, hE.more.lt, by show q < _; omega, by show f.wd = 0 ∨ f.wd = 1 ∨ f.wd = 2 ∨ f.wd = 4 ∨ f.wd = 8; rw [hE.wd]; exact wid_in hE.ok, htT, hgf, hgl⟩)
      rw [hR] at HD
      clear h hU hI hL h2 hx hb2 hlb htl ht0 htT hgf hgl hli hmm hR m0 m1 hE y1 y2 y3 y4 hwl h3 h4 har hlf hq hl1 hz hm8
      go_enter Tryd.func41, Tryd.ntmps41
      go_wp2_with fail
      refine HD.out.mono ?_
      rintro e w5 ⟨rfl, vT5, vN5, vS5, hF5, hB5⟩
      go_wp2_with fail
      first | go_end0 | refine bodyPost_ret (results_none rfl _ _ _) rfl ?_
      exact ⟨rfl, _, _, _, hF5, HB2.out.trans hB5.out⟩
    · have q1 : ((l1 : Int) == 0) = false := by rw [beq_eq_false_iff_ne]; omega
      rw [if_neg hz] at hR
      have HR2 : Hid (R = { more f A with arg := q, left := l1 }) := hR.symm
      clear h hU hI hL h2 hx hb2 hlb htl ht0 htT hgf hgl hli hmm hR m0 m1 hE y1 y2 y3 y4 hwl h3 h4 har hlf hq hl1 hz hm8
      go_enter Tryd.func41, Tryd.ntmps41
      go_wp2_with fail
      first | go_end0 | refine bodyPost_ret (results_none rfl _ _ _) rfl ?_
      exact RF.of HR2 HF2 HB2
  rw [if_neg (show ¬ (more f A).m = 1 from m1)] at hR
  by_cases m2 : f.m = 2
  · rw [if_pos (show (more f A).m = 2 from m2), Fs.body] at hR
    rw [show (more f A).m = 2 from m2] at c7
    obtain ⟨l, t, hE, y0, y1, y2, y3, y4⟩ := hI.m2 m2
    obtain ⟨lf, hlf⟩ : ∃ a, f.left = a := ⟨_, rfl⟩
    rw [show (more f A).left = f.left from rfl, hlf] at hR
    have c12 := h.at0.cell 12 _ rfl
    have f12 := h.at0.froz 12 (by show 12 < 14; decide)
    rw [show (more f A).left = f.left from rfl, hlf] at c12
    obtain ⟨l1, hl1⟩ : ∃ q, lf - 1 = q := ⟨_, rfl⟩
    rw [hl1] at hR
    have hag := hI.ag
    have hs1 : (lf : Int) - 1 = (l1 : Int) := by omega
    have hs2 : IntKind.u64.wrap (l1 : Int) = (l1 : Int) := u64c l1 (by have := hE.lt; omega)
    have HF2 : Hid (FmS (w.setCell ⟨g, 12, none⟩ (.int .u64 (l1 : Int))) g β L ro { more f A with left := l1 } vT vN vS) := h.set 5 (.int .u64 (l1 : Int))
    have HB2 : Hid (Bx g β w (w.setCell ⟨g, 12, none⟩ (.int .u64 (l1 : Int)))) := HB.out.setG _
    by_cases hz : l1 = 0
    · have q1 : ((l1 : Int) == 0) = true := by rw [beq_iff_eq]; omega
      rw [if_pos hz] at hR
      have HD := Lib.hid (fwhole_any _ g β L ro { more f A with left := l1 } vT vN vS HF2.out (ut_bxf hU HB2.out hgb) hE.ln hE.more.lt (by show f.arg ≤ (more f A).T.length; omega) htT hgf)
      rw [hR] at HD
      clear h hU hI hL h2 hx hb2 hlb htl ht0 htT hgf hgl hli hmm hR m0 m1 m2 hE y0 y1 y2 y3 y4 hlf hl1 hz hag
      go_enter Tryd.func41, Tryd.ntmps41
      go_wp2_with fail
      refine HD.out.mono ?_
      rintro e w5 ⟨rfl, vT5, vN5, vS5, hF5, hB5⟩
      go_wp2_with fail
      first | go_end0 | refine bodyPost_ret (results_none rfl _ _ _) rfl ?_
      exact ⟨rfl, _, _, _, hF5, HB2.out.trans hB5.out⟩
    · have q1 : ((l1 : Int) == 0) = false := by rw [beq_eq_false_iff_ne]; omega
      rw [if_neg hz] at hR
      have HR2 : Hid (R = { more f A with left := l1 }) := hR.symm
      clear h hU hI hL h2 hx hb2 hlb htl ht0 htT hgf hgl hli hmm hR m0 m1 m2 hE y0 y1 y2 y3 y4 hlf hl1 hz hag
      go_enter Tryd.func41, Tryd.ntmps41
      go_wp2_with fail
      first | go_end0 | refine bodyPost_ret (results_none rfl _ _ _) rfl ?_
      exact RF.of HR2 HF2 HB2
  · rw [if_neg (show ¬ (more f A).m = 2 from m2), Fs.rest] at hR
    have m3 : (more f A).m = 3 := by show f.m = 3; omega
    rw [m3] at c7
    obtain ⟨aT, cT, rfl, hcT, -⟩ := h.bytes
    have c4 := h.at0.cell 4 _ rfl
    obtain ⟨tl, htl2⟩ : ∃ m, (more f A).T.length = m := ⟨_, rfl⟩
    obtain ⟨p, hp⟩ : ∃ p, tl - 1 = p := ⟨_, rfl⟩
    rw [htl2] at c4 ht0 htT hR
    rw [hp] at hR
    have e1 : (tl : Int) - 1 = (p : Int) := by omega
    have e2 : IntKind.i64.wrap (p : Int) = (p : Int) := wrap_fit p (by unfold maxLen; omega)
    have HR2 : Hid (R = (more f A).fault 9 p) := hR.symm
    clear h hU hI hL h2 hx hb2 hlb htl ht0 htT hgf hgl hli hmm hR m0 m1 m2 m3 htl2 hp hcT
    go_enter Tryd.func41, Tryd.ntmps41
    go_wp2_with fail
    refine (ffault_any _ g β L ro (more f A) _ _ _ HF.out 9 p (p : Int) rfl).mono ?_
    rintro e w4 ⟨rfl, hF4, hB4⟩
    go_wp2_with fail
    first | go_end0 | refine bodyPost_ret (results_none rfl _ _ _) rfl ?_
    exact RF.of HR2 hF4 hB4
set_option maxRecDepth 100000 in
set_option maxHeartbeats 3200000 in
theorem write_any (w : World) (g β : Nat) (L : Lm) (ro : Int) (all : List UInt8) (s : ByteArray) (vT vN vS : Value) (h : FmS w g β L ro (f0.feed Lib.validD L all) vT vN vS) (hU : UT g w) (hL : Lok L) (hs : s.size ≤ 140737488351232) :
    Calls Tryd.prog 25 #[.pointer (some ⟨g, 0, none⟩), .string s] w (RW (f0.feed Lib.validD L (all ++ s.toList)) g β L ro w) := by
  have hgb : g < β := h.gb
  obtain ⟨i5, hi5, hq5⟩ := Option.map_eq_some_iff.1 info5
  simp only [Prod.mk.injEq] at hq5
  obtain ⟨hz0, hz1, hz2⟩ := hq5
  obtain ⟨R, hR⟩ : ∃ R, f0.feed Lib.validD L (all ++ s.toList) = R := ⟨_, rfl⟩
  rw [hR]
  obtain ⟨n, hn⟩ : ∃ n, s.size = n := ⟨_, rfl⟩
  have hsl : s.toList.length = n := by rw [tl_size, hn]
  have HF := Lib.hid h
  have NO := Lib.hid (none_any w g β L ro _ vT vN vS h hL.p)
  have HU := Lib.hid hU
  have HL := Lib.hid hL
  have HR := Lib.hid hR
  rw [hn] at hs
  have HN := Lib.hid (And.intro hn (And.intro hsl hs))
  have HST : Hid (FmS w g β L ro (f0.feed Lib.validD L (all ++ s.toList.take 0)) vT vN vS) := by rw [List.take_zero, List.append_nil]; exact h
  clear h hU hL hR hs hsl hn
  go_enter Tryd.func25, Tryd.ntmps25
  go_wp2_with fail
  refine NO.out.mono ?_
  rintro e w1 ⟨rfl, rfl⟩
  go_wp2_with fail
  rw [HN.out.1]
  go_loopw [5, 10] (fun v5 v10 wr => ∃ (i : Nat) (vT vN vS : Value), v10 = .int .i64 (i : Int) ∧ i ≤ n ∧ Hid (FmS wr g β L ro (f0.feed Lib.validD L (all ++ s.toList.take i)) vT vN vS) ∧ Hid (Bx g β w wr)) (fun _ v10 _ => n - (intOf v10).toNat)
  case atStart => exact ⟨0, vT, vN, vS, rfl, Nat.zero_le _, HST, Bx.refl' _ _ _⟩
  case round =>
    obtain ⟨i, vT, vN, vS, rfl, hi, HF, HB⟩ := hrel
    clear HST
    have HFI : Hid (Fine (all ++ s.toList) L Lib.validD (all.length + i) (f0.feed Lib.validD L (all ++ s.toList.take i))) := by
      have h9 := feed_fine (all ++ s.toList) L Lib.validD (all.length + i) (by rw [List.length_append, HN.out.2.1]; omega)
      rw [List.take_length_add_append] at h9
      exact h9
    obtain ⟨F, hF⟩ : ∃ F, f0.feed Lib.validD L (all ++ s.toList.take i) = F := ⟨_, rfl⟩
    rw [hF] at HF HFI
    have HRF : Hid (F.feed Lib.validD L (s.toList.drop i) = R) := by
      show _ = R
      rw [← HR.out, ← hF, ← feed_append, List.append_assoc, List.take_append_drop]
    have HFE := Lib.hid hF
    clear hF
    obtain ⟨aT, cT, rfl, hcT, hbT⟩ := HF.out.bytes
    have c2 := HF.out.at0.cell 2 _ rfl
    have c4 := HF.out.at0.cell 4 _ rfl
    have c9 := HF.out.at0.cell 8 _ rfl
    obtain ⟨tl, htl⟩ : ∃ m, F.T.length = m := ⟨_, rfl⟩
    obtain ⟨by', hby⟩ : ∃ m, L.bytes = m := ⟨_, rfl⟩
    obtain ⟨ee, hee⟩ : ∃ m, F.e = m := ⟨_, rfl⟩
    have HX := Lib.hid (And.intro htl (And.intro hby hee))
    rw [htl] at c4
    rw [hby] at c2
    rw [hee] at c9
    clear hcT hbT htl hby
    by_cases hin : i < n
    · have e1 : (i : Int) < (n : Int) := by omega
      have e1n : i < n := hin
      by_cases he : ee = 0
      · have x1 : (ee == 0) = true := by rw [beq_iff_eq]; exact he
        by_cases hlim : by' ≤ tl
        · have x2 : (by' : Int) ≤ (tl : Int) := by omega
          have HR2 : Hid (R = F.fault 10 by') := by
            have h9 := HRF.out
            rw [getd_drop (by rw [HN.out.2.1]; exact hin), Fs.feed, List.foldl_cons] at h9
            show R = _
            rw [← h9, Fs.take, if_neg (fun h => h (hee.trans he)), HX.out.2.1, HX.out.1, if_pos hlim]
            exact feed_bad _ _ (show (10 : Int) ≠ 0 by decide)
          have FA := Lib.hid (fun q => ffault_any (wr.drewN q) g β L ro F _ _ _ (HF.out.drewN q) 10 by' (by' : Int) rfl)
          clear hee he hlim hin hi
          go_wp2_with fail
          go_quiet (fail)
          go_wp2_with fail
          refine (FA.out _).mono ?_
          rintro e w4 ⟨rfl, hF4, hB4⟩
          have c94 := hF4.out.at0.cell 8 _ rfl
          rw [show (F.fault 10 by').e = 10 from rfl] at c94
          go_wp2_with fail
          go_ret
          exact RW.of HR2 rfl hF4 (HB.out.trans ((bx_drewN g β _ _).trans hB4))
        · have x2 : ¬ (by' : Int) ≤ (tl : Int) := by omega
          have x3 : decide ((by' : Int) ≤ (tl : Int)) = false := decide_eq_false x2
          have x5 : (ee != 0) = false := by rw [he]; rfl
          have x6 : decide (by' ≤ tl) = false := decide_eq_false hlim
          have hT := HFI.out.tx (hee.trans he)
          have htk : tl = all.length + i := by rw [← HX.out.1, hT, List.length_take, List.length_append, HN.out.2.1]; omega
          obtain ⟨x, hx⟩ : ∃ x, s.toList.getD i 0 = x := ⟨_, rfl⟩
          have hxA : (all ++ s.toList).getD F.T.length 0 = x := by
            rw [HX.out.1, htk, List.getD, List.getElem?_append_right (by omega), Nat.add_sub_cancel_left]
            exact hx
          have hsz : i < s.size := by rw [HN.out.1]; exact hin
          have hsx : s[i] = x := by
            rw [← hx, Lib.toList_data, List.getD, List.getElem?_eq_getElem (by simpa using hsz)]
            rfl
          obtain ⟨b, hb⟩ : ∃ b, x.toNat = b := ⟨_, rfl⟩
          have hsb : (s[i].toNat : Int) = (b : Int) := by rw [hsx, hb]
          have HTX := Lib.hid (And.intro hxA (And.intro hb (And.intro hx (show tl < by' by omega))))
          have HIE := Lib.hid (And.intro (HFI.out.good.2 (hee.trans he)) (And.intro hin hin))
          have htb : tl ≤ 262144 := by have := HL.out.b; rw [HX.out.2.1] at this; omega
          have HE0 := Lib.hid (hee.trans he)
          clear hee he hlim hin hi hT hxA htk hsx hb hx
          go_wp2_with fail
          go_quiet (fail)
          go_wp2_with fail
          have HF2 : Hid (FmS (wr.drewN nq) g β L ro F (.slice aT tl cT) vN vS) := by have h9 := HF.out.drewN nq; rw [HX.out.1] at h9; exact h9
          have HB2 : Hid (Bx g β w (wr.drewN nq)) := HB.out.trans (bx_drewN g β _ _)
          obtain ⟨vT, hvT⟩ : ∃ v, Value.slice aT tl cT = v := ⟨_, rfl⟩
          rw [hvT] at HF2
          clear hvT c2 c4 c9 x1 x2 x3 x5
          generalize wr.drewN nq = w2 at HF2 HB2 ⊢
          have c4 := HF2.out.at0.cell 4 _ rfl
          have f4 := HF2.out.at0.froz 4 (by show 4 < 14; decide)
          have hA4 : ∀ ob : Obj, (w2.alloc ob).cell? ⟨g, 4, none⟩ = some vT := fun ob => ((HF2.out.alloc ob).at0).cell 4 _ rfl
          have HT4 : Hid (w2.ownsRow β 5 1 vT tl (bcells F.T)) := by have h9 := HF2.out.text; rw [HX.out.1] at h9; exact h9
          go_cut [] from 43 to 54 (fun wx => ∃ vT', Fm wx g β L ro (F.T ++ [x]) F.l F.G vT' vN vS (cs F) ∧ Bx g β w2 wx)
          case first =>
            go_wp2_with fail
            go_region_law (refine step_append_u8 rfl (.tmp 47) (.tmp 51) 42 rfl β 5 i5 Tryd.underlying42 hi5 hz0 hz1 hz2 vT tl F.T rfl (own_drewN (HT4.out.alloc _) 1) w2.heap.size 1 1 [x] rfl rfl (cells_one (by rw [HTX.out.2.1]; simp)) (by omega) (by have := HF2.out.bs; simp; omega) ?_; intro v' w4 hown4 hgrow4; obtain ⟨a4, c4', hv4, -⟩ := own_form hown4; subst hv4; have hAt4 := At.grown (((HF2.out.alloc _).drewN 1).at0) hgrow4 ((HF2.out.alloc _).drewN 1).lt (fun e => by have := (HF2.out.text.lt g e).1; omega); have hf44 := hAt4.froz 4 (by show 4 < 14; decide); have hc44 := hAt4.cell 4 _ rfl; have HR4 := Lib.hid (Fm.growT (T' := F.T ++ [x]) ((HF2.out.alloc _).drewN 1) hgrow4 (by rw [List.length_append, HX.out.1]; exact hown4)); have HB4 := Lib.hid (((((Bx.refl' g β w2).alloc HF2.out.bs _).trans (bx_drewN g β _ 1)).grown hgrow4 (by have := HF2.out.bs; simp; omega) (fun k hk => by have := (HF2.out.text.lt k hk).1; omega)).setG (o := 4) (.slice a4 (tl + 1) c4')); clear hAt4 hgrow4 hown4)
            all_goals
              go_wp2_with fail
              go_meet
              case rel => exact ⟨_, HR4.out, HB4.out⟩
          case rest =>
            obtain ⟨vT3, hF3, hB3⟩ := hcut
            have HF3 : Hid (FmS wc g β L ro (more F (all ++ s.toList)) vT3 vN vS) := by
              show Fm wc g β L ro (F.T ++ [(all ++ s.toList).getD F.T.length 0]) F.l F.G _ _ _ (cs F)
              rw [HTX.out.1]
              exact hF3
            have HB3 : Hid (Bx g β w wc) := HB2.out.trans hB3
            have TK : Hid (∀ q : Nat, Calls Tryd.prog 41 #[.pointer (some ⟨g, 0, none⟩), .int .u8 (b : Int)] wc (RF (Fs.go Lib.validD L (more F (all ++ s.toList)) x) g β L ro wc)) := fun _ =>
              ftake_any _ g β L ro (all ++ s.toList) F _ _ _ HF3.out (ut_bxf HU.out HB3.out hgb) HIE.out.1 HL.out (by rw [HX.out.1, HX.out.2.1]; exact HTX.out.2.2.2) x b HTX.out.2.1
            have HNX : Hid (Fs.go Lib.validD L (more F (all ++ s.toList)) x = f0.feed Lib.validD L (all ++ s.toList.take (i + 1))) := by
              show _ = _
              have h9 := snoc_take (A := s.toList) (p := i) (by rw [HN.out.2.1]; exact HIE.out.2.2)
              rw [← h9, ← List.append_assoc, feed_append, HFE.out, HTX.out.2.2.1, Fs.feed, List.foldl_cons, List.foldl_nil, Fs.take, if_neg (fun h => h HE0.out), HX.out.1, HX.out.2.1, if_neg (by have := HTX.out.2.2.2; omega), Fs.step, more, HTX.out.1]
            have HII := Lib.hid HIE.out.2.2
            have e9 : (i : Int) ≤ 140737488351232 := by have h8 := HN.out.2.2; have h9 := HIE.out.2.2; omega
            clear hF3 hB3 c4 f4 hA4
            go_wp2_with fail
            refine (TK.out 0).mono ?_
            rintro e w5 ⟨rfl, vT5, vN5, vS5, hF5, hB5⟩
            go_wp2_with fail
            go_roundw
            case rel => exact ⟨i + 1, vT5, vN5, vS5, by go_num, HII.out, by rw [← HNX.out]; exact hF5, HB3.out.trans hB5.out⟩
            case measure => have h9 := HII.out; simp [intOf]; omega
      · have x1 : (ee == 0) = false := by rw [beq_eq_false_iff_ne]; exact he
        have x2 : (ee != 0) = true := by rw [bne_iff_ne]; exact he
        have HR2 : Hid (R = F) := by
          show R = _
          rw [← HRF.out]
          exact feed_bad _ _ (by rw [hee]; exact he)
        have HE2 : Hid (F.e = ee) := hee
        clear hee he hin hi
        go_wp2_with fail
        go_quiet (fail)
        go_wp2_with fail
        go_ret
        exact RW.of HR2 HE2 (HF.out.drewN _) (HB.out.trans (bx_drewN g β _ _))
    · obtain rfl : i = n := by omega
      have e1 : ¬ (i : Int) < (i : Int) := by omega
      have HR2 : Hid (R = F) := by
        have h9 := HRF.out
        rw [List.drop_of_length_le (by rw [HN.out.2.1]; exact Nat.le_refl _)] at h9
        exact h9.symm
      have HE2 : Hid (F.e = ee) := hee
      clear hee hin hi
      go_wp2_with fail
      go_ret
      exact RW.of HR2 HE2 HF HB
end Cf
end Go.Proofs.YteanipjgpekncaaDoor
