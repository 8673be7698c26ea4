/- Joined by merge.py: FdF FdG FdR FdH. -/
import Derived.Test.YteglahkgnggmgaaDoorFeY
import Derived.Test.YteglahkgnggmgaaDoorFdX
import Derived.Test.YteglahkgnggmgaaDoorDwB
import Derived.Test.YteglahkgnggmgaaDoorDwD
import Derived.StillTailTactics
namespace Go.Proofs.YteglahkgnggmgaaDoor
open Go.RowKit
set_option linter.unusedVariables false
set_option linter.unusedSimpArgs false
open Dr
namespace Fd
/-- what the code asks where an element's head or body is read -/
structure Ep (f : Fs) : Prop where
  gk : Gk f.l f.G f.a (f.l.length - 1)
  ne : 0 < f.l.length
  lt : f.a < f.T.length
  sz : Sz f
  m : f.m ≠ 4
set_option maxRecDepth 100000 in
set_option maxHeartbeats 1600000 in
theorem rest_any (w : World) (g β : Nat) (L : Lm) (ro : Int) (f : Fs) (vT vN vS : Value) (h : FmS w g β L ro f vT vN vS) (ht : 0 < f.T.length) (hz : Sz f) (b : Nat) :
    Calls Tryd.prog 88 #[.pointer (some ⟨g, 0, none⟩), .int .u8 (b : Int)] w (RF f.rest g β L ro w) := by
  have hgb : g < β := h.gb
  have HF := Lib.hid h
  have c4 := h.at0.cell 4 _ rfl
  obtain ⟨aT, cT, rfl, hcT, hbT⟩ := h.bytes
  obtain ⟨tl, htl⟩ : ∃ m, f.T.length = m := ⟨_, rfl⟩
  have hzt := hz.t
  rw [htl] at c4 hzt ht
  obtain ⟨p, hp⟩ : ∃ p, tl - 1 = p := ⟨_, rfl⟩
  have e1 : (tl : Int) - 1 = (p : Int) := by omega
  have e2 : IntKind.i64.wrap (p : Int) = (p : Int) := wrap_fit p (by unfold maxLen; omega)
  have FA := Lib.hid (fault_any w g β L ro f _ _ _ h 9 p (p : Int) rfl)
  have HR : Hid (f.rest = f.fault 9 p) := by show f.rest = _; rw [Fs.rest, htl, hp]
  clear h ht hz hcT hbT htl hzt hp
  go_enter Tryd.func88, Tryd.ntmps88
  go_wp2_with fail
  refine FA.out.mono ?_
  rintro e w1 ⟨rfl, hF1, hB1⟩
  go_wp2_with fail
  first | go_end0 | refine bodyPost_ret (results_none rfl _ _ _) rfl ?_
  exact RF.of HR hF1 hB1
set_option maxRecDepth 100000 in
set_option maxHeartbeats 1600000 in
theorem body_any (w : World) (g β : Nat) (L : Lm) (ro : Int) (f : Fs) (vT vN vS : Value) (h : FmS w g β L ro f vT vN vS) (hU : UT g w) (he : Ep f) (hst : f.st ≤ f.T.length) (b : Nat) :
    Calls Tryd.prog 85 #[.pointer (some ⟨g, 0, none⟩), .int .u8 (b : Int)] w (RF f.body g β L ro w) := by
  have hgb : g < β := h.gb
  have HF := Lib.hid h
  have c4 := h.at0.cell 4 _ rfl
  have c15 := h.at0.cell 15 _ rfl
  obtain ⟨aT, cT, rfl, hcT, hbT⟩ := h.bytes
  obtain ⟨tl, htl⟩ : ∃ m, f.T.length = m := ⟨_, rfl⟩
  obtain ⟨en, hen⟩ : ∃ m, f.en = m := ⟨_, rfl⟩
  rw [htl] at c4
  rw [hen] at c15
  have WH := Lib.hid (fun q => whole_any (w.drewN q) g β L ro f _ _ _ (HF.out.drewN q) (ut_bx hU (bx_drewN g β w q) hgb) he.gk he.ne he.lt hst he.sz he.m)
  have HR : Hid (f.body = if tl = en then f.whole else f) := by show f.body = _; rw [Fs.body, htl, hen]
  by_cases hq : tl = en
  · have e1 : ((tl : Int) == (en : Int)) = true := by rw [beq_iff_eq]; omega
    have HR2 : Hid (f.body = f.whole) := by show f.body = _; rw [HR.out, if_pos hq]
    clear h hU he hst hcT hbT htl hen hq
    go_enter Tryd.func85, Tryd.ntmps85
    go_wp2_with fail
    go_quiet (fail)
    go_wp2_with fail
    refine (WH.out _).mono ?_
    rintro e w1 ⟨rfl, vT1, vN1, vS1, hF1, hB1⟩
    go_wp2_with fail
    first | go_end0 | refine bodyPost_ret (results_none rfl _ _ _) rfl ?_
    exact RF.of HR2 hF1 ((bx_drewN g β w _).trans hB1)
  · have e1 : ((tl : Int) == (en : Int)) = false := by rw [beq_eq_false_iff_ne]; omega
    have HR2 : Hid (f.body = f) := by show f.body = _; rw [HR.out, if_neg hq]
    clear h hU he hst hcT hbT htl hen hq
    go_enter Tryd.func85, Tryd.ntmps85
    go_wp2_with fail
    go_quiet (fail)
    go_wp2_with fail
    first | go_end0 | refine bodyPost_ret (results_none rfl _ _ _) rfl ?_
    exact RF.of HR2 (HF.out.drewN _) (bx_drewN g β w _)
set_option maxRecDepth 100000 in
set_option maxHeartbeats 1600000 in
theorem first_any (w : World) (g β : Nat) (L : Lm) (ro : Int) (f : Fs) (vT vN vS : Value) (h : FmS w g β L ro f vT vN vS) (hU : UT g w) (he : Ep f) (x : UInt8) (b : Nat) (hx : x.toNat = b) :
    Calls Tryd.prog 62 #[.pointer (some ⟨g, 0, none⟩), .int .u8 (b : Int)] w (RF (f.first x) g β L ro w) := by
  have hgb : g < β := h.gb
  obtain ⟨R, hR⟩ : ∃ R, f.first x = R := ⟨_, rfl⟩
  rw [hR]
  rw [Fs.first, hx] at hR
  have hb : b < 256 := by rw [← hx]; exact x.toNat_lt
  have HF := Lib.hid h
  by_cases q1 : b < 128
  · rw [if_pos q1] at hR
    have HR : Hid (R = f.measured b) := hR.symm
    have ME := Lib.hid (measured_any w g β L ro f _ _ _ h hU he.gk he.ne he.lt he.sz he.m b (by omega) (b : Int) rfl)
    have e1 : (b : Int) < 128 := by omega
    clear h hU he hx hR
    go_enter Tryd.func62, Tryd.ntmps62
    go_wp2_with fail
    refine ME.out.mono ?_
    rintro e w1 ⟨rfl, vT1, vN1, vS1, hF1, hB1⟩
    go_wp2_with fail
    first | go_end0 | refine bodyPost_ret (results_none rfl _ _ _) rfl ?_
    exact RF.of HR hF1 hB1
  · rw [if_neg q1] at hR
    have e1 : ¬ (b : Int) < 128 := by omega
    have c4 := h.at0.cell 4 _ rfl
    obtain ⟨aT, cT, rfl, hcT, hbT⟩ := h.bytes
    obtain ⟨tl, htl⟩ : ∃ m, f.T.length = m := ⟨_, rfl⟩
    have hzt := he.sz.t
    have hlt := he.lt
    rw [htl] at c4 hzt hlt hR
    obtain ⟨p, hp⟩ : ∃ p, tl - 1 = p := ⟨_, rfl⟩
    rw [hp] at hR
    have e2 : (tl : Int) - 1 = (p : Int) := by omega
    have e3 : IntKind.i64.wrap (p : Int) = (p : Int) := wrap_fit p (by unfold maxLen; omega)
    by_cases q2 : b = 128 ∨ 132 < b
    · rw [if_pos q2] at hR
      have HR : Hid (R = f.fault 9 p) := hR.symm
      have FA := Lib.hid (fault_any w g β L ro f _ _ _ h 9 p (p : Int) rfl)
      clear h hU he hx hR hcT hbT htl hzt hp hlt
      by_cases q3 : b = 128
      · have e4 : ((b : Int) == 128) = true := by rw [beq_iff_eq]; omega
        clear q2 q1 q3
        go_enter Tryd.func62, Tryd.ntmps62
        go_wp2_with fail
        refine FA.out.mono ?_
        rintro e w1 ⟨rfl, hF1, hB1⟩
        go_wp2_with fail
        first | go_end0 | refine bodyPost_ret (results_none rfl _ _ _) rfl ?_
        exact RF.of HR hF1 hB1
      · have e4 : ((b : Int) == 128) = false := by rw [beq_eq_false_iff_ne]; omega
        have e5 : (132 : Int) < (b : Int) := by omega
        clear q2 q1 q3
        go_enter Tryd.func62, Tryd.ntmps62
        go_wp2_with fail
        refine FA.out.mono ?_
        rintro e w1 ⟨rfl, hF1, hB1⟩
        go_wp2_with fail
        first | go_end0 | refine bodyPost_ret (results_none rfl _ _ _) rfl ?_
        exact RF.of HR hF1 hB1
    · rw [if_neg q2] at hR
      obtain ⟨y, hy⟩ : ∃ y, b - 128 = y := ⟨_, rfl⟩
      rw [hy] at hR
      have e4 : ((b : Int) == 128) = false := by rw [beq_eq_false_iff_ne]; omega
      have e5 : ¬ (132 : Int) < (b : Int) := by omega
      have e6 : (b : Int) - 128 = (y : Int) := by omega
      have e7 : IntKind.u8.wrap (y : Int) = (y : Int) := du8_in y (by omega)
      have e8 : IntKind.i64.wrap (y : Int) = (y : Int) := wrap_fit y (by unfold maxLen; omega)
      have HR : Hid (R = { f with left := y, len := 0, m := 2 }) := hR.symm
      have c7 := h.at0.cell 7 _ rfl
      have f7 := h.at0.froz 7 (by show 7 < 16; decide)
      have c12 := h.at0.cell 12 _ rfl
      have f12 := h.at0.froz 12 (by show 12 < 16; decide)
      have c13 := h.at0.cell 13 _ rfl
      have f13 := h.at0.froz 13 (by show 13 < 16; decide)
      have HF2 : Hid (FmS (((w.setCell ⟨g, 12, none⟩ (.int .i64 (y : Int))).setCell ⟨g, 13, none⟩ (.int .i64 0)).setCell ⟨g, 7, none⟩ (nxV g (nxF 2))) g β L ro { f with left := y, len := 0, m := 2 } (.slice aT tl cT) vN vS) := by
        have h3 : Fm _ g β L ro f.T f.l f.G _ _ _ (cs g { f with left := y, len := 0 }) := (h.set 5 (.int .i64 (y : Int))).set 6 (.int .i64 0)
        show Fm _ g β L ro f.T f.l f.G _ _ _ (cs g { ({ f with left := y, len := 0 } : Fs) with m := 2 })
        rw [cs_m g { f with left := y, len := 0 } 2 he.m (by decide), ← htl]
        exact h3.set 0 (nxV g (nxF 2))
      have HB2 : Hid (Bx g β w (((w.setCell ⟨g, 12, none⟩ (.int .i64 (y : Int))).setCell ⟨g, 13, none⟩ (.int .i64 0)).setCell ⟨g, 7, none⟩ (nxV g (nxF 2)))) := (((Bx.refl' g β w).setG _).setG _).setG _
      clear h hU he hx hR hcT hbT htl hzt hp hlt hy q1 q2
      go_enter Tryd.func62, Tryd.ntmps62
      go_wp2_with fail
      first | go_end0 | refine bodyPost_ret (results_none rfl _ _ _) rfl ?_
      exact RF.of HR HF2.out HB2.out
end Fd
end Go.Proofs.YteglahkgnggmgaaDoor
namespace Go.Proofs.YteglahkgnggmgaaDoor
open Go.RowKit
set_option linter.unusedVariables false
set_option linter.unusedSimpArgs false
open Dr
namespace Fd
def Fs.longer (f : Fs) (q l : Nat) : Fs := { f with len := q, left := l }
theorem Ep.longer {f : Fs} (h : Ep f) (q l : Nat) : Ep (f.longer q l) := ⟨h.gk, h.ne, h.lt, ⟨h.sz.t, h.sz.l⟩, h.m⟩
set_option maxRecDepth 100000 in
set_option maxHeartbeats 1600000 in
theorem next_any (w : World) (g β : Nat) (L : Lm) (ro : Int) (f : Fs) (vT vN vS : Value) (h : FmS w g β L ro f vT vN vS) (hU : UT g w) (he : Ep f) (hlen : f.len < 16777216) (hle : 0 < f.left) (hle2 : f.left ≤ 4) (x : UInt8) (b : Nat) (hx : x.toNat = b) :
    Calls Tryd.prog 79 #[.pointer (some ⟨g, 0, none⟩), .int .u8 (b : Int)] w (RF (f.next x) g β L ro w) := by
  have hgb : g < β := h.gb
  obtain ⟨R, hR⟩ : ∃ R, f.next x = R := ⟨_, rfl⟩
  rw [hR]
  have hb : b < 256 := by rw [← hx]; exact x.toNat_lt
  have c4 := h.at0.cell 4 _ rfl
  have c12 := h.at0.cell 12 _ rfl
  have f12 := h.at0.froz 12 (by show 12 < 16; decide)
  have c13 := h.at0.cell 13 _ rfl
  have f13 := h.at0.froz 13 (by show 13 < 16; decide)
  obtain ⟨aT, cT, rfl, hcT, hbT⟩ := h.bytes
  obtain ⟨tl, htl⟩ : ∃ m, f.T.length = m := ⟨_, rfl⟩
  obtain ⟨n, hn⟩ : ∃ m, f.len = m := ⟨_, rfl⟩
  obtain ⟨lf, hlf⟩ : ∃ m, f.left = m := ⟨_, rfl⟩
  obtain ⟨q, hq⟩ : ∃ m, 256 * n + b = m := ⟨_, rfl⟩
  obtain ⟨l1, hl1⟩ : ∃ m, lf - 1 = m := ⟨_, rfl⟩
  have hR2 : (if q = 0 ∨ l1 = 0 ∧ q < 128 then (f.longer q l1).fault 9 (tl - 1) else if l1 = 0 then (f.longer q l1).measured q else f.longer q l1) = R := by
    rw [← hR, Fs.next, hx, hn, hlf, hq, hl1, htl]; rfl
  have hzt := he.sz.t
  have hlt := he.lt
  rw [htl] at c4 hzt hlt
  rw [hn] at c13 hlen
  rw [hlf] at c12 hle hle2
  obtain ⟨p, hp⟩ : ∃ p, tl - 1 = p := ⟨_, rfl⟩
  rw [hp] at hR2
  have e2 : (tl : Int) - 1 = (p : Int) := by omega
  have e3 : IntKind.i64.wrap (p : Int) = (p : Int) := wrap_fit p (by unfold maxLen; omega)
  have e4 : (lf : Int) - 1 = (l1 : Int) := by omega
  have e5 : IntKind.i64.wrap (l1 : Int) = (l1 : Int) := wrap_fit l1 (by unfold maxLen; omega)
  have e6 : (n : Int) ≤ 16777215 := by omega
  have e7 : (b : Int) ≤ 255 := by omega
  have e8 : IntKind.i64.wrap (b : Int) = (b : Int) := wrap_fit b (by unfold maxLen; omega)
  have eo : bits .or .i64 ((n : Int) * 256) (b : Int) = (q : Int) := by rw [← hq, ← or8 n b hb (by omega)]; congr 1; omega
  have HF2 : Hid (FmS ((w.setCell ⟨g, 13, none⟩ (.int .i64 (q : Int))).setCell ⟨g, 12, none⟩ (.int .i64 (l1 : Int))) g β L ro (f.longer q l1) (.slice aT f.T.length cT) vN vS) := (h.set 6 (.int .i64 (q : Int))).set 5 (.int .i64 (l1 : Int))
  have HB2 : Hid (Bx g β w ((w.setCell ⟨g, 13, none⟩ (.int .i64 (q : Int))).setCell ⟨g, 12, none⟩ (.int .i64 (l1 : Int)))) := ((Bx.refl' g β w).setG _).setG _
  have HU := Lib.hid hU
  have HE := Lib.hid (he.longer q l1)
  have HQ := Lib.hid (show q ≤ 4294967296 by omega)
  have FA := Lib.hid (fault_any _ g β L ro (f.longer q l1) _ _ _ HF2.out 9 p (p : Int) rfl)
  by_cases q1 : q = 0
  · have HR : Hid (R = (f.longer q l1).fault 9 p) := by show R = _; rw [← hR2, if_pos (.inl q1)]
    have x1 : ((q : Int) == 0) = true := by rw [beq_iff_eq]; omega
    clear h hU he hx hR hR2 hcT hbT htl hzt hp hlt hn hlf hl1 hq hb hlen hle hle2 q1
    go_enter Tryd.func79, Tryd.ntmps79
    go_wp2_with fail
    refine FA.out.mono ?_
    rintro e w1 ⟨rfl, hF1, hB1⟩
    go_wp2_with fail
    first | go_end0 | refine bodyPost_ret (results_none rfl _ _ _) rfl ?_
    exact RF.of HR hF1 (HB2.out.trans hB1)
  have x1 : ((q : Int) == 0) = false := by rw [beq_eq_false_iff_ne]; omega
  by_cases q2 : l1 = 0
  · have x2 : ((l1 : Int) == 0) = true := by rw [beq_iff_eq]; omega
    by_cases q3 : q < 128
    · have HR : Hid (R = (f.longer q l1).fault 9 p) := by show R = _; rw [← hR2, if_pos (.inr ⟨q2, q3⟩)]
      have x3 : (q : Int) < 128 := by omega
      clear h hU he hx hR hR2 hcT hbT htl hzt hp hlt hn hlf hl1 hq hb hlen hle hle2 q1 q2 q3
      go_enter Tryd.func79, Tryd.ntmps79
      go_wp2_with fail
      refine FA.out.mono ?_
      rintro e w1 ⟨rfl, hF1, hB1⟩
      go_wp2_with fail
      first | go_end0 | refine bodyPost_ret (results_none rfl _ _ _) rfl ?_
      exact RF.of HR hF1 (HB2.out.trans hB1)
    · have HR : Hid (R = (f.longer q l1).measured q) := by show R = _; rw [← hR2, if_neg (fun h => h.elim q1 (fun h => q3 h.2)), if_pos q2]
      have x3 : ¬ (q : Int) < 128 := by omega
      have x4 : decide ((q : Int) < 128) = false := decide_eq_false x3
      have ME := Lib.hid (measured_any _ g β L ro (f.longer q l1) _ _ _ HF2.out (ut_bx HU.out HB2.out hgb) HE.out.gk HE.out.ne HE.out.lt HE.out.sz HE.out.m q HQ.out (q : Int) rfl)
      clear h hU he hx hR hR2 hcT hbT htl hzt hp hlt hn hlf hl1 hq hb hlen hle hle2 q1 q2 q3
      go_enter Tryd.func79, Tryd.ntmps79
      go_wp2_with fail
      refine ME.out.mono ?_
      rintro e w1 ⟨rfl, vT1, vN1, vS1, hF1, hB1⟩
      go_wp2_with fail
      first | go_end0 | refine bodyPost_ret (results_none rfl _ _ _) rfl ?_
      exact RF.of HR hF1 (HB2.out.trans hB1)
  · have x2 : ((l1 : Int) == 0) = false := by rw [beq_eq_false_iff_ne]; omega
    have HR : Hid (R = f.longer q l1) := by show R = _; rw [← hR2, if_neg (fun h => h.elim q1 (fun h => q2 h.1)), if_neg q2]
    clear h hU he hx hR hR2 hcT hbT htl hzt hp hlt hn hlf hl1 hq hb hlen hle hle2 q1 q2
    go_enter Tryd.func79, Tryd.ntmps79
    go_wp2_with fail
    first | go_end0 | refine bodyPost_ret (results_none rfl _ _ _) rfl ?_
    exact RF.of HR HF2.out HB2.out
def Fs.atT (f : Fs) (p : Nat) : Fs := { f with a := p }
theorem tagged {w : World} {g β : Nat} {L : Lm} {ro : Int} {f : Fs} {p : Nat} {x : UInt8} {vT vN vS : Value} (hm : f.m ≠ 4) (h : Fm w g β L ro f.T (f.l ++ [⟨x, -1, []⟩]) f.G vT vN vS (cs g (f.atT p))) :
    Hid (FmS (w.setCell ⟨g, 7, none⟩ (nxV g (nxF 1))) g β L ro { f.atT p with l := f.l ++ [⟨x, -1, []⟩], m := 1 } vT vN vS) := by
  show Fm _ g β L ro f.T (f.l ++ [⟨x, -1, []⟩]) f.G _ _ _ (cs g { f.atT p with m := 1 })
  rw [cs_m g (f.atT p) 1 hm (by decide)]
  exact h.set 0 (nxV g (nxF 1))
set_option maxRecDepth 100000 in
set_option maxHeartbeats 3200000 in
theorem tag_any (w : World) (g β : Nat) (L : Lm) (ro : Int) (f : Fs) (vT vN vS : Value) (h : FmS w g β L ro f vT vN vS) (ht : 0 < f.T.length) (hz : Sz f) (hG : f.G.length ≤ 262144) (hm : f.m ≠ 4) (hLi : L.items ≤ 4096) (hLd : L.depth ≤ 32) (x : UInt8) (b : Nat) (hx : x.toNat = b) :
    Calls Tryd.prog 40 #[.pointer (some ⟨g, 0, none⟩), .int .u8 (b : Int)] w (RF (f.tag L x) g β L ro w) := by
  have hgb : g < β := h.gb
  obtain ⟨R, hR⟩ : ∃ R, f.tag L x = R := ⟨_, rfl⟩
  rw [hR]
  have hb : b < 256 := by rw [← hx]; exact x.toNat_lt
  have c0 := h.at0.cell 0 _ rfl
  have c1 := h.at0.cell 1 _ rfl
  have c4 := h.at0.cell 4 _ rfl
  have c5 := h.at0.cell 5 _ rfl
  have c6 := h.at0.cell 6 _ rfl
  have c11 := h.at0.cell 11 _ rfl
  have f11 := h.at0.froz 11 (by show 11 < 16; decide)
  obtain ⟨aT, cT, rfl, hcT, hbT⟩ := h.bytes
  obtain ⟨aN, cN, rfl, -⟩ := own_form h.nodes
  obtain ⟨aS, cS, rfl, -⟩ := own_form h.stack
  obtain ⟨tl, htl⟩ : ∃ m, f.T.length = m := ⟨_, rfl⟩
  obtain ⟨m, hm0⟩ : ∃ m, f.l.length = m := ⟨_, rfl⟩
  obtain ⟨n, hn⟩ : ∃ m, f.G.length = m := ⟨_, rfl⟩
  obtain ⟨it, hit⟩ : ∃ m, L.items = m := ⟨_, rfl⟩
  obtain ⟨dp, hdp⟩ : ∃ m, L.depth = m := ⟨_, rfl⟩
  have hzt := hz.t
  have hzl := hz.l
  rw [htl] at c4 hzt ht
  rw [hm0] at c5 hzl
  rw [hn] at c6 hG
  rw [hit] at c1 hLi
  rw [hdp] at c0 hLd
  rw [Nat.zero_add] at c0
  obtain ⟨p, hp⟩ : ∃ p, tl - 1 = p := ⟨_, rfl⟩
  have e2 : (tl : Int) - 1 = (p : Int) := by omega
  have e3 : IntKind.i64.wrap (p : Int) = (p : Int) := wrap_fit p (by unfold maxLen; omega)
  have hte : tagE x = tagF (b / 64) (b % 32) (b / 32 % 2) := by rw [tagE, hx]
  obtain ⟨E, hE⟩ : ∃ E, tagE x = E := ⟨_, rfl⟩
  have AS := Lib.hid (fun w => ask_any b hb w)
  rw [← hte, hE] at AS
  obtain ⟨wi, hwi⟩ : ∃ y, b / 32 % 2 = y := ⟨_, rfl⟩
  have hwn : within x = decide (wi = 1) := by rw [within, hx, hwi]
  have WI := Lib.hid (fun w => within_any b wi hb hwi w)
  have hR2 : (if it ≤ m then (f.atT p).fault 10 p else if E ≠ 0 then (f.atT p).fault E p else if wi = 1 ∧ dp ≤ n then (f.atT p).fault 10 p else { f.atT p with l := f.l ++ [⟨x, -1, []⟩], m := 1 }) = R := by
    rw [← hR, Fs.tag, htl, hp, hm0, hn, hit, hdp, hE, hwn]; simp only [decide_eq_true_eq]; rfl
  have HF2 : Hid (FmS (w.setCell ⟨g, 11, none⟩ (.int .i64 (p : Int))) g β L ro (f.atT p) (.slice aT f.T.length cT) (.slice aN f.l.length cN) (.slice aS f.G.length cS)) := h.set 4 (.int .i64 (p : Int))
  have HB2 : Hid (Bx g β w (w.setCell ⟨g, 11, none⟩ (.int .i64 (p : Int)))) := (Bx.refl' g β w).setG _
  have HR := Lib.hid hR2
  have HX := Lib.hid (And.intro hm (And.intro hm0 (And.intro hzl (And.intro hwi (And.intro hx hz)))))
  have hwi2 : wi = 0 ∨ wi = 1 := by omega
  have HD := Lib.hid (And.intro hit (And.intro hdp hn))
  clear h ht hz hm hR hcT hbT htl hm0 hn hit hdp hzt hp hte hE hwn hR2 hwi hx
  go_enter Tryd.func40, Tryd.ntmps40
  go_wp2_with (first | (go_at_call 54; refine (AS.out _).mono ?_; rintro e w4 ⟨rfl, rfl⟩))
  generalize w.setCell ⟨g, 11, none⟩ (.int .i64 (p : Int)) = w2 at HF2 HB2 ⊢
  clear c0 c1 c4 c5 c6 c11 f11
  have c0 := HF2.out.at0.cell 0 _ rfl
  have c1 := HF2.out.at0.cell 1 _ rfl
  have c5 := HF2.out.at0.cell 5 _ rfl
  have c6 := HF2.out.at0.cell 6 _ rfl
  have c7 := HF2.out.at0.cell 7 _ rfl
  have c11 := HF2.out.at0.cell 11 _ rfl
  have f7 := HF2.out.at0.froz 7 (by show 7 < 16; decide)
  rw [HD.out.1] at c1
  rw [HD.out.2.1, Nat.zero_add] at c0
  rw [HX.out.2.1] at c5
  rw [HD.out.2.2] at c6
  have HF3 : Hid (FmS w2 g β L ro (f.atT p) (.slice aT f.T.length cT) (.slice aN m cN) (.slice aS f.G.length cS)) := by have h9 := HF2.out; rw [HX.out.2.1] at h9; exact h9
  have HNV : Hid (nv (⟨x, -1, []⟩ : Nd) = (#[Value.int .u8 (b : Int), Value.int .i64 (-1), Value.string ByteArray.empty]).toList) := by
    show nv _ = _
    rw [nv, HX.out.2.2.2.2.1]
    rfl
  have FA := Lib.hid (fun q e => fault_any (w2.drewN q) g β L ro (f.atT p) _ _ _ (HF2.out.drewN q) e p (p : Int) rfl)
  by_cases q1 : it ≤ m
  · have HR2 : Hid (R = (f.atT p).fault 10 p) := by show R = _; rw [← HR.out, if_pos q1]
    have x1 : (it : Int) ≤ (m : Int) := by omega
    clear q1 hLi hLd hzl
    go_quiet (fail)
    go_wp2_with fail
    refine (FA.out _ _).mono ?_
    rintro e w4 ⟨rfl, hF4, hB4⟩
    go_wp2_with fail
    first | go_end0 | refine bodyPost_ret (results_none rfl _ _ _) rfl ?_
    exact RF.of HR2 hF4 (HB2.out.trans ((bx_drewN g β _ _).trans hB4))
  have x1 : ¬ (it : Int) ≤ (m : Int) := by omega
  have x1b : decide ((it : Int) ≤ (m : Int)) = false := decide_eq_false x1
  by_cases q2 : E = 0
  · have x2 : (E != 0) = false := by rw [q2]; rfl
    rcases hwi2 with rfl | rfl
    · have HR2 : Hid (R = { f.atT p with l := f.l ++ [⟨x, -1, []⟩], m := 1 }) := by show R = _; rw [← HR.out, if_neg q1, if_neg (fun h => h q2), if_neg (fun h => absurd h.1 (by decide))]
      have W0 : Hid (∀ w, Calls Tryd.prog 55 #[.int .u8 (b : Int)] w (fun e w' => e = .returned (.bool false) ∧ w = w')) := fun w => WI.out w
      clear q1 q2 hLi hLd hzl
      go_quiet (fail)
      go_wp2_with fail
      go_quiet ((go_at_call 55; exact (W0.out _).mono fun _ _ h => ⟨h.1, _, h.2.symm⟩))
      obtain ⟨vN, hvN⟩ : ∃ v, Value.slice aN m cN = v := ⟨_, rfl⟩
      rw [hvN] at c5 HF3
      have HN : Hid (∀ (k : Nat) (ob : Obj), ((w2.drewN k).alloc ob).ownsRow β 63 3 vN m (ncells f.l)) := fun k ob => by have h9 := ((HF3.out.drewN k).nodes.alloc ob); rw [show (f.atT p).l = f.l from rfl, HX.out.2.1] at h9; exact h9
      clear hvN c0 c1 c6 c11 FA
      go_wp2_with (at_builtin; refine wpList_append_nd rfl (.tmp 20) (.tmp 23) rfl β vN m f.l rfl (HN.out _ _) w2.heap.size 1 (⟨x, -1, []⟩ : Nd) rfl (nd_cells2 HNV.out (At.ofAlloc _ #[Value.int .u8 (b : Int), Value.int .i64 (-1), Value.string ByteArray.empty] 63)) (by have := HX.out.2.2.1; omega) (by have := HF3.out.bs; simp; omega) ?_; intro v5 w5 hown5 hgrow5; obtain ⟨a5, c5', hv5, -⟩ := own_form hown5; subst hv5; have hAt5 := At.grown (((HF3.out.drewN _).alloc _).at0) hgrow5 ((HF3.out.drewN _).alloc _).lt (fun e => by have := (HF3.out.nodes.lt g e).1; omega); have hf55 := hAt5.froz 5 (by show 5 < 16; decide); have hc55 := hAt5.cell 5 _ rfl; have hf75 := hAt5.froz 7 (by show 7 < 16; decide); have hc75 := hAt5.cell 7 _ rfl; have HR5 := Lib.hid (Fm.growN (l' := f.l ++ [(⟨x, -1, []⟩ : Nd)]) ((HF3.out.drewN _).alloc _) hgrow5 (by rw [List.length_append, HX.out.2.1]; exact hown5)); have HB5 := Lib.hid ((((bx_drewN g β w2 _).alloc HF3.out.bs _).grown hgrow5 (by have := HF3.out.bs; simp; omega) (fun k hk => by have := (HF3.out.nodes.lt k hk).1; omega)).setG (o := 5) (.slice a5 (m + 1) c5')); clear hAt5 hgrow5 hown5)
      first | go_end0 | refine bodyPost_ret (results_none rfl _ _ _) rfl ?_
      exact RF.of HR2 (tagged HX.out.1 HR5.out) (HB2.out.trans (HB5.out.setG _))
    · by_cases q3 : dp ≤ n
      · have W0 : Hid (∀ w, Calls Tryd.prog 55 #[.int .u8 (b : Int)] w (fun e w' => e = .returned (.bool true) ∧ w = w')) := fun w => WI.out w
        have HR2 : Hid (R = (f.atT p).fault 10 p) := by show R = _; rw [← HR.out, if_neg q1, if_neg (fun h => h q2), if_pos ⟨rfl, q3⟩]
        have x3 : (dp : Int) ≤ (n : Int) := by omega
        clear q1 q2 hLi hLd hzl q3
        go_quiet (fail)
        go_wp2_with fail
        go_quiet ((go_at_call 55; exact (W0.out _).mono fun _ _ h => ⟨h.1, _, h.2.symm⟩))
        go_wp2_with fail
        refine (FA.out _ _).mono ?_
        rintro e w4 ⟨rfl, hF4, hB4⟩
        go_wp2_with fail
        first | go_end0 | refine bodyPost_ret (results_none rfl _ _ _) rfl ?_
        exact RF.of HR2 hF4 (HB2.out.trans ((bx_drewN g β _ _).trans hB4))
      · have W0 : Hid (∀ w, Calls Tryd.prog 55 #[.int .u8 (b : Int)] w (fun e w' => e = .returned (.bool true) ∧ w = w')) := fun w => WI.out w
        have HR2 : Hid (R = { f.atT p with l := f.l ++ [⟨x, -1, []⟩], m := 1 }) := by show R = _; rw [← HR.out, if_neg q1, if_neg (fun h => h q2), if_neg (fun h => q3 h.2)]
        have x3 : ¬ (dp : Int) ≤ (n : Int) := by omega
        have x4 : decide ((dp : Int) ≤ (n : Int)) = false := decide_eq_false x3
        clear q1 q2 hLi hLd hzl q3
        go_quiet (fail)
        go_wp2_with fail
        go_quiet ((go_at_call 55; exact (W0.out _).mono fun _ _ h => ⟨h.1, _, h.2.symm⟩))
        obtain ⟨vN, hvN⟩ : ∃ v, Value.slice aN m cN = v := ⟨_, rfl⟩
        rw [hvN] at c5 HF3
        have HN : Hid (∀ (k : Nat) (ob : Obj), ((w2.drewN k).alloc ob).ownsRow β 63 3 vN m (ncells f.l)) := fun k ob => by have h9 := ((HF3.out.drewN k).nodes.alloc ob); rw [show (f.atT p).l = f.l from rfl, HX.out.2.1] at h9; exact h9
        clear hvN c0 c1 c6 c11 FA
        go_wp2_with (at_builtin; refine wpList_append_nd rfl (.tmp 20) (.tmp 23) rfl β vN m f.l rfl (HN.out _ _) w2.heap.size 1 (⟨x, -1, []⟩ : Nd) rfl (nd_cells2 HNV.out (At.ofAlloc _ #[Value.int .u8 (b : Int), Value.int .i64 (-1), Value.string ByteArray.empty] 63)) (by have := HX.out.2.2.1; omega) (by have := HF3.out.bs; simp; omega) ?_; intro v5 w5 hown5 hgrow5; obtain ⟨a5, c5', hv5, -⟩ := own_form hown5; subst hv5; have hAt5 := At.grown (((HF3.out.drewN _).alloc _).at0) hgrow5 ((HF3.out.drewN _).alloc _).lt (fun e => by have := (HF3.out.nodes.lt g e).1; omega); have hf55 := hAt5.froz 5 (by show 5 < 16; decide); have hc55 := hAt5.cell 5 _ rfl; have hf75 := hAt5.froz 7 (by show 7 < 16; decide); have hc75 := hAt5.cell 7 _ rfl; have HR5 := Lib.hid (Fm.growN (l' := f.l ++ [(⟨x, -1, []⟩ : Nd)]) ((HF3.out.drewN _).alloc _) hgrow5 (by rw [List.length_append, HX.out.2.1]; exact hown5)); have HB5 := Lib.hid ((((bx_drewN g β w2 _).alloc HF3.out.bs _).grown hgrow5 (by have := HF3.out.bs; simp; omega) (fun k hk => by have := (HF3.out.nodes.lt k hk).1; omega)).setG (o := 5) (.slice a5 (m + 1) c5')); clear hAt5 hgrow5 hown5)
        first | go_end0 | refine bodyPost_ret (results_none rfl _ _ _) rfl ?_
        exact RF.of HR2 (tagged HX.out.1 HR5.out) (HB2.out.trans (HB5.out.setG _))
  · have x2 : (E != 0) = true := by rw [bne_iff_ne]; exact q2
    have HR2 : Hid (R = (f.atT p).fault E p) := by show R = _; rw [← HR.out, if_neg q1, if_pos q2]
    clear q1 q2 hLi hLd hzl
    go_quiet (fail)
    go_wp2_with fail
    refine (FA.out _ _).mono ?_
    rintro e w4 ⟨rfl, hF4, hB4⟩
    go_wp2_with fail
    first | go_end0 | refine bodyPost_ret (results_none rfl _ _ _) rfl ?_
    exact RF.of HR2 hF4 (HB2.out.trans ((bx_drewN g β _ _).trans hB4))
end Fd
end Go.Proofs.YteglahkgnggmgaaDoor
namespace Go.Proofs.YteglahkgnggmgaaDoor
open Go.RowKit
set_option linter.unusedVariables false
set_option linter.unusedSimpArgs false
open Dr
namespace Fd
/-- the text and how many nodes there are stay -/
def Kp (f f' : Fs) : Prop := f'.T = f.T ∧ f'.l.length = f.l.length
theorem Kp.trans {f g h : Fs} (a : Kp f g) (b : Kp g h) : Kp f h := ⟨b.1.trans a.1, b.2.trans a.2⟩
theorem kp_ended (f : Fs) (a : Nat) : Kp f (f.ended a) := ⟨ended_T f a, (ended_len f a).1⟩
theorem kp_close : ∀ (k : Nat) (f : Fs), Kp f (Fs.close k f)
  | 0, f => ⟨rfl, rfl⟩
  | k + 1, f => by
    rw [Fs.close]
    split
    · exact ⟨rfl, rfl⟩
    · split
      · exact ⟨(kp_close k _).1.trans (ended_T _ _), (kp_close k _).2.trans (ended_len _ _).1⟩
      · exact ⟨rfl, rfl⟩
theorem kp_bodied (f : Fs) : Kp f f.bodied := ⟨rfl, by show (f.l.modify _ _).length = _; rw [List.length_modify]⟩
theorem kp_whole (f : Fs) : Kp f f.whole := by
  rw [whole_eq]
  split
  · exact kp_bodied f
  · exact ((kp_bodied f).trans (kp_ended _ _)).trans (kp_close _ _)
theorem kp_measured (f : Fs) (n : Nat) : Kp f (f.measured n) := by
  rw [measured_eq]
  split
  · exact ⟨rfl, rfl⟩
  · split
    · exact Kp.trans (g := f.pushed n) ⟨rfl, by show (f.l.modify _ _).length = _; rw [List.length_modify]⟩ (kp_close _ _)
    · split
      · exact Kp.trans (g := f.bodyM n) ⟨rfl, rfl⟩ (kp_whole _)
      · exact ⟨rfl, rfl⟩
theorem kp_first (f : Fs) (x : UInt8) : Kp f (f.first x) := by
  rw [Fs.first]
  split
  · exact kp_measured _ _
  · split <;> exact ⟨rfl, rfl⟩
theorem kp_next (f : Fs) (x : UInt8) : Kp f (f.next x) := by
  rw [Fs.next]
  split
  · exact ⟨rfl, rfl⟩
  · split
    · exact Kp.trans (g := { f with len := 256 * f.len + x.toNat, left := f.left - 1 }) ⟨rfl, rfl⟩ (kp_measured _ _)
    · exact ⟨rfl, rfl⟩
theorem go_kp (L : Lm) (f : Fs) (x : UInt8) (h : f.l.length ≤ L.items) : (Fs.go L f x).T = f.T ∧ (Fs.go L f x).l.length ≤ L.items := by
  have of : ∀ {f' : Fs}, Kp f f' → f'.T = f.T ∧ f'.l.length ≤ L.items := fun h9 => ⟨h9.1, by rw [h9.2]; exact h⟩
  rw [Fs.go]
  split
  · rw [Fs.tag]
    split
    · exact of ⟨rfl, rfl⟩
    · split
      · exact of ⟨rfl, rfl⟩
      · split
        · exact of ⟨rfl, rfl⟩
        · exact ⟨rfl, by show (f.l ++ _).length ≤ _; rw [List.length_append]; show f.l.length + 1 ≤ _; omega⟩
  · split
    · exact of (kp_first _ _)
    · split
      · exact of (kp_next _ _)
      · split
        · rw [Fs.body]
          split
          · exact of (kp_whole _)
          · exact of ⟨rfl, rfl⟩
        · exact of ⟨rfl, rfl⟩
structure Fine (A : List UInt8) (L : Lm) (k : Nat) (f : Fs) : Prop where
  good : Good A L f
  tx : f.e = 0 → f.T = A.take k
  li : f.l.length ≤ L.items
theorem take_fine {A : List UInt8} {L : Lm} {k : Nat} {f : Fs} (h : Fine A L k f) (hk : k < A.length) : Fine A L (k + 1) (f.take L (A.getD k 0)) := by
  by_cases he : f.e = 0
  · have hT := h.tx he
    have hl : f.T.length = k := by rw [hT, List.length_take]; omega
    have h1 := take_good f he (h.good.2 he) (by rw [hl]; exact hk)
    rw [hl] at h1
    refine ⟨h1, fun h0 => ?_, ?_⟩
    · rw [Fs.take, if_neg (fun h => h he)] at h0 ⊢
      split
      · rename_i h2; rw [if_pos h2] at h0; exact absurd h0 (show (10 : Int) ≠ 0 by decide)
      · have := (go_kp L { f with T := f.T ++ [A.getD k 0] } (A.getD k 0) h.li).1
        rw [Fs.step, this]
        show f.T ++ _ = _
        rw [hT, snoc_take hk]
    · rw [Fs.take, if_neg (fun h => h he)]
      split
      · exact h.li
      · exact (go_kp L { f with T := f.T ++ [A.getD k 0] } (A.getD k 0) h.li).2
  · rw [take_bad L f _ he]
    exact ⟨h.good, fun h0 => absurd h0 he, h.li⟩
theorem feed_fine (A : List UInt8) (L : Lm) : ∀ k, k ≤ A.length → Fine A L k (f0.feed L (A.take k))
  | 0, _ => by
    rw [List.take_zero]
    exact ⟨⟨fun h => absurd rfl h, fun _ => inv_f0⟩, fun _ => rfl, Nat.zero_le _⟩
  | k + 1, h => by
    rw [← snoc_take (by omega : k < A.length), feed_append]
    exact take_fine (feed_fine A L k (by omega)) (by omega)
/-- what a feed tells at its end -/
def ans (f : Fs) : Rs (List Nd) := if f.e ≠ 0 then .no f.e f.pl false else if f.m = 4 then .ok f.l else .no 9 f.T.length true
theorem feed_runs (A : List UInt8) (L : Lm) : RunsD A L (.el [] [] 0) (ans (f0.feed L A)) := by
  have h := feed_fine A L A.length (Nat.le_refl _)
  rw [List.take_length] at h
  generalize f0.feed L A = f at h
  rw [ans]
  by_cases he : f.e = 0
  · rw [if_neg (fun h => h he)]
    have hT := h.tx he
    rw [List.take_length] at hT
    have hi := h.good.2 he
    have hl : f.T.length = A.length := by rw [hT]
    have hh : has A L f.T.length = false := decide_eq_false (fun h9 => by omega)
    split
    · rename_i hm
      have h9 := inv_fin hi hm
      rw [fin, if_neg (by omega)] at h9
      exact h9
    · rename_i hm
      have h9 := inv_lack hi hh hm
      have hb := hi.lb
      rw [lack, lackE, lackP, if_neg (by omega), if_neg (by omega), decide_eq_true (by omega)] at h9
      rw [hl]
      exact h9
  · rw [if_pos he]
    exact h.good.1 he
section
variable {A : List UInt8} {L : Lm} {f : Fs}
theorem lenB_lt (q : Nat) : ∀ (i n : Nat), lenB A L q i = .ok n → n < 256 ^ i
  | 0, n, h => by cases h; decide
  | i + 1, n, h => by
    rw [lenB] at h
    cases hq : lenB A L q i with
    | no e p b => rw [hq] at h; cases h
    | ok n' =>
      rw [hq] at h
      dsimp only at h
      split at h
      · split at h
        · cases h
        · cases h
          have h1 := lenB_lt q i n' hq
          have h2 : at0S A (q + i + 1) < 256 := (A.getD (q + i + 1) 0).toNat_lt
          rw [Nat.pow_succ]
          omega
      · cases h
/-- what is asked of a feed that took the byte -/
theorem El.ep {M : List Fr} {l : List Nd} {t : UInt8} (h : El A L f M l t) (hs : Sz f) (hm : f.m ≠ 4) : Ep f := by
  have hlen := h.len
  refine ⟨?_, by omega, h.lt, hs, hm⟩
  rw [hlen, Nat.add_sub_cancel]
  refine h.lk.gk.list (fun i hi => ?_)
  rw [h.fl, List.getD, List.getD, List.getElem?_append_left (by rw [paint_length]; exact hi)]
theorem Inv.sz (h : Inv A L f) (hb : L.bytes ≤ 262144) (hi : L.items ≤ 4096) (hl : f.l.length ≤ L.items) (h2 : f.T.length < L.bytes) : Sz (more f A) := ⟨by rw [more_len]; omega, by show f.l.length ≤ 4096; omega⟩
theorem Inv.gl (h : Inv A L f) (hm : f.m = 0) : f.G.length ≤ f.T.length := by
  obtain ⟨M, l, hR, hl, hk, ht⟩ := h.m0 hm
  exact hk.gk.len
end
end Fd
end Go.Proofs.YteglahkgnggmgaaDoor
namespace Go.Proofs.YteglahkgnggmgaaDoor
open Go.RowKit
set_option linter.unusedVariables false
set_option linter.unusedSimpArgs false
open Dr
namespace Fd
theorem more_sz {f : Fs} (A : List UInt8) (h : Sz (more f A)) : Sz f := ⟨by have := h.t; rw [more_len] at this; omega, h.l⟩
theorem go_any (w : World) (g β : Nat) (L : Lm) (ro : Int) (A : List UInt8) (f : Fs) (vT vN vS : Value) (h : FmS w g β L ro (more f A) vT vN vS) (hU : UT g w) (hI : Inv A L f) (hli : f.l.length ≤ L.items) (hLi : L.items ≤ 4096) (hLd : L.depth ≤ 32) (hLb : L.bytes ≤ 262144) (h2 : f.T.length < L.bytes) (x : UInt8) (b : Nat) (hx : x.toNat = b) :
    Calls Tryd.prog (nxF f.m) #[.pointer (some ⟨g, 0, none⟩), .int .u8 (b : Int)] w (RF (Fs.go L (more f A) x) g β L ro w) := by
  have hgb : g < β := h.gb
  have hs := hI.sz hLb hLi hli h2
  have ht : 0 < (more f A).T.length := by rw [more_len]; omega
  have hm := hI.mm
  by_cases m0 : f.m = 0
  · have h1 : Fs.go L (more f A) x = (more f A).tag L x := by rw [Fs.go, if_pos (show (more f A).m = 0 from m0)]
    rw [h1, m0]
    exact tag_any w g β L ro (more f A) vT vN vS h ht hs (by have h3 := hI.gl m0; have h4 : f.G.length ≤ f.T.length := h3; show f.G.length ≤ 262144; omega) (by show f.m ≠ 4; omega) hLi hLd x b hx
  by_cases m1 : f.m = 1
  · obtain ⟨M, l, t, hE, -⟩ := hI.m1 m1
    have h1 : Fs.go L (more f A) x = (more f A).first x := by rw [Fs.go, if_neg (show ¬ (more f A).m = 0 from m0), if_pos (show (more f A).m = 1 from m1)]
    rw [h1, m1]
    exact first_any w g β L ro (more f A) vT vN vS h hU (hE.more.ep hs (by show f.m ≠ 4; omega)) x b hx
  by_cases m2 : f.m = 2
  · obtain ⟨M, l, t, hE, i, y1, y2, y3, y4, y5, y6, y7⟩ := hI.m2 m2
    have h1 : Fs.go L (more f A) x = (more f A).next x := by rw [Fs.go, if_neg (show ¬ (more f A).m = 0 from m0), if_neg (show ¬ (more f A).m = 1 from m1), if_pos (show (more f A).m = 2 from m2)]
    rw [h1, m2]
    have h3 := lenB_lt _ _ _ y6
    have h4 : f.len < 16777216 := Nat.lt_of_lt_of_le h3 (by
      have h5 : i ≤ 3 := by omega
      exact Nat.le_trans (Nat.pow_le_pow_right (by decide) h5) (by decide))
    exact next_any w g β L ro (more f A) vT vN vS h hU (hE.more.ep hs (by show f.m ≠ 4; omega)) h4 y5 (by show f.left ≤ 4; omega) x b hx
  by_cases m3 : f.m = 3
  · obtain ⟨M, l, t, hE, hw, n, y1, y2, y3, y4, y5⟩ := hI.m3 m3
    have h1 : Fs.go L (more f A) x = (more f A).body := by rw [Fs.go, if_neg (show ¬ (more f A).m = 0 from m0), if_neg (show ¬ (more f A).m = 1 from m1), if_neg (show ¬ (more f A).m = 2 from m2), if_pos (show (more f A).m = 3 from m3)]
    rw [h1, m3]
    exact body_any w g β L ro (more f A) vT vN vS h hU (hE.more.ep hs (by show f.m ≠ 4; omega)) (by rw [more_len]; show f.st ≤ f.T.length + 1; omega) b
  · have m4 : f.m = 4 := by omega
    have h1 : Fs.go L (more f A) x = (more f A).rest := by rw [Fs.go, if_neg (show ¬ (more f A).m = 0 from m0), if_neg (show ¬ (more f A).m = 1 from m1), if_neg (show ¬ (more f A).m = 2 from m2), if_neg (show ¬ (more f A).m = 3 from m3)]
    rw [h1, m4]
    exact rest_any w g β L ro (more f A) vT vN vS h ht hs b
/-- limits that may be -/
structure Lok (L : Lm) : Prop where
  i : L.items ≤ 4096
  d : L.depth ≤ 32
  b : L.bytes ≤ 262144
def RW (f : Fs) (g β : Nat) (L : Lm) (ro : Int) (w : World) (e : Ending) (w' : World) : Prop := e = .returned (.int .i64 f.e) ∧ ∃ vT vN vS, Hid (FmS w' g β L ro f vT vN vS) ∧ Hid (Bx g β w w')
theorem RW.of {R f : Fs} {g β : Nat} {L : Lm} {ro : Int} {w w' : World} {vT vN vS : Value} {e : Int} (hR : Hid (R = f)) (he : Hid (f.e = e)) (h : Hid (FmS w' g β L ro f vT vN vS)) (hb : Hid (Bx g β w w')) : RW R g β L ro w (.returned (.int .i64 e)) w' := by
  have h1 := hR.out
  subst h1
  exact ⟨by rw [he.out], _, _, _, h, hb⟩
set_option maxRecDepth 100000 in
set_option maxHeartbeats 3200000 in
theorem write_any (w : World) (g β : Nat) (L : Lm) (ro : Int) (all : List UInt8) (s : ByteArray) (vT vN vS : Value) (h : FmS w g β L ro (f0.feed L all) vT vN vS) (hU : UT g w) (hL : Lok L) (hs : s.size ≤ 140737488351232) :
    Calls Tryd.prog 25 #[.pointer (some ⟨g, 0, none⟩), .string s] w (RW (f0.feed L (all ++ s.toList)) g β L ro w) := by
  have hgb : g < β := h.gb
  obtain ⟨i5, hi5, hq5⟩ := Option.map_eq_some_iff.1 info5
  simp only [Prod.mk.injEq] at hq5
  obtain ⟨hz0, hz1, hz2⟩ := hq5
  obtain ⟨R, hR⟩ : ∃ R, f0.feed L (all ++ s.toList) = R := ⟨_, rfl⟩
  rw [hR]
  obtain ⟨n, hn⟩ : ∃ n, s.size = n := ⟨_, rfl⟩
  have hsl : s.toList.length = n := by rw [tl_size, hn]
  have HF := Lib.hid h
  have NO := Lib.hid (none_any w g β L ro _ vT vN vS h)
  have HU := Lib.hid hU
  have HL := Lib.hid hL
  have HR := Lib.hid hR
  rw [hn] at hs
  have HN := Lib.hid (And.intro hn (And.intro hsl hs))
  have HST : Hid (FmS w g β L ro (f0.feed L (all ++ s.toList.take 0)) vT vN vS) := by rw [List.take_zero, List.append_nil]; exact h
  clear h hU hL hR hs hsl hn
  go_enter Tryd.func25, Tryd.ntmps25
  go_wp2_with fail
  refine NO.out.mono ?_
  rintro e w1 ⟨rfl, rfl⟩
  go_wp2_with fail
  rw [HN.out.1]
  go_loopw [5, 10] (fun v5 v10 wr => ∃ (i : Nat) (vT vN vS : Value), v10 = .int .i64 (i : Int) ∧ i ≤ n ∧ Hid (FmS wr g β L ro (f0.feed L (all ++ s.toList.take i)) vT vN vS) ∧ Hid (Bx g β w wr)) (fun _ v10 _ => n - (intOf v10).toNat)
  case atStart => exact ⟨0, vT, vN, vS, rfl, Nat.zero_le _, HST, Bx.refl' _ _ _⟩
  case round =>
    obtain ⟨i, vT, vN, vS, rfl, hi, HF, HB⟩ := hrel
    clear HST
    have HFI : Hid (Fine (all ++ s.toList) L (all.length + i) (f0.feed L (all ++ s.toList.take i))) := by
      have h9 := feed_fine (all ++ s.toList) L (all.length + i) (by rw [List.length_append, HN.out.2.1]; omega)
      rw [List.take_length_add_append] at h9
      exact h9
    obtain ⟨F, hF⟩ : ∃ F, f0.feed L (all ++ s.toList.take i) = F := ⟨_, rfl⟩
    rw [hF] at HF HFI
    have HRF : Hid (F.feed L (s.toList.drop i) = R) := by
      show _ = R
      rw [← HR.out, ← hF, ← feed_append, List.append_assoc, List.take_append_drop]
    have HFE := Lib.hid hF
    clear hF
    obtain ⟨aT, cT, rfl, hcT, hbT⟩ := HF.out.bytes
    have c2 := HF.out.at0.cell 2 _ rfl
    have c4 := HF.out.at0.cell 4 _ rfl
    have c9 := HF.out.at0.cell 9 _ rfl
    obtain ⟨tl, htl⟩ : ∃ m, F.T.length = m := ⟨_, rfl⟩
    obtain ⟨by', hby⟩ : ∃ m, L.bytes = m := ⟨_, rfl⟩
    obtain ⟨ee, hee⟩ : ∃ m, F.e = m := ⟨_, rfl⟩
    have HX := Lib.hid (And.intro htl (And.intro hby hee))
    rw [htl] at c4
    rw [hby] at c2
    rw [hee] at c9
    clear hcT hbT htl hby
    by_cases hin : i < n
    · have e1 : (i : Int) < (n : Int) := by omega
      have e1n : i < n := hin
      by_cases he : ee = 0
      · have x1 : (ee == 0) = true := by rw [beq_iff_eq]; exact he
        by_cases hlim : by' ≤ tl
        · have x2 : (by' : Int) ≤ (tl : Int) := by omega
          have HR2 : Hid (R = F.fault 10 by') := by
            have h9 := HRF.out
            rw [get_drop (by rw [HN.out.2.1]; exact hin), Fs.feed, List.foldl_cons] at h9
            show R = _
            rw [← h9, Fs.take, if_neg (fun h => h (hee.trans he)), HX.out.2.1, HX.out.1, if_pos hlim]
            exact feed_bad L _ _ (show (10 : Int) ≠ 0 by decide)
          have FA := Lib.hid (fun q => fault_any (wr.drewN q) g β L ro F _ _ _ (HF.out.drewN q) 10 by' (by' : Int) rfl)
          clear hee he hlim hin hi
          go_wp2_with fail
          go_quiet (fail)
          go_wp2_with fail
          refine (FA.out _).mono ?_
          rintro e w4 ⟨rfl, hF4, hB4⟩
          have c94 := hF4.out.at0.cell 9 _ rfl
          rw [show (F.fault 10 by').e = 10 from rfl] at c94
          go_wp2_with fail
          go_ret
          exact RW.of HR2 rfl hF4 (HB.out.trans ((bx_drewN g β _ _).trans hB4))
        · have x2 : ¬ (by' : Int) ≤ (tl : Int) := by omega
          have x3 : decide ((by' : Int) ≤ (tl : Int)) = false := decide_eq_false x2
          have x5 : (ee != 0) = false := by rw [he]; rfl
          have x6 : decide (by' ≤ tl) = false := decide_eq_false hlim
          have hT := HFI.out.tx (hee.trans he)
          have htk : tl = all.length + i := by rw [← HX.out.1, hT, List.length_take, List.length_append, HN.out.2.1]; omega
          obtain ⟨x, hx⟩ : ∃ x, s.toList.getD i 0 = x := ⟨_, rfl⟩
          have hxA : (all ++ s.toList).getD F.T.length 0 = x := by
            rw [HX.out.1, htk, List.getD, List.getElem?_append_right (by omega), Nat.add_sub_cancel_left]
            exact hx
          have hsz : i < s.size := by rw [HN.out.1]; exact hin
          have hsx : s[i] = x := by
            rw [← hx, Lib.toList_data, List.getD, List.getElem?_eq_getElem (by simpa using hsz)]
            rfl
          obtain ⟨b, hb⟩ : ∃ b, x.toNat = b := ⟨_, rfl⟩
          have hsb : (s[i].toNat : Int) = (b : Int) := by rw [hsx, hb]
          have HTX := Lib.hid (And.intro hxA (And.intro hb (And.intro hx (show tl < by' by omega))))
          have HIE := Lib.hid (And.intro (HFI.out.good.2 (hee.trans he)) (And.intro HFI.out.li hin))
          have htb : tl ≤ 262144 := by have := HL.out.b; rw [HX.out.2.1] at this; omega
          have HE0 := Lib.hid (hee.trans he)
          clear hee he hlim hin hi hT hxA htk hsx hb hx
          go_wp2_with fail
          go_quiet (fail)
          go_wp2_with fail
          have HF2 : Hid (FmS (wr.drewN nq) g β L ro F (.slice aT tl cT) vN vS) := by have h9 := HF.out.drewN nq; rw [HX.out.1] at h9; exact h9
          have HB2 : Hid (Bx g β w (wr.drewN nq)) := HB.out.trans (bx_drewN g β _ _)
          obtain ⟨vT, hvT⟩ : ∃ v, Value.slice aT tl cT = v := ⟨_, rfl⟩
          rw [hvT] at HF2
          clear hvT c2 c4 c9 x1 x2 x3 x5
          generalize wr.drewN nq = w2 at HF2 HB2 ⊢
          have c4 := HF2.out.at0.cell 4 _ rfl
          have f4 := HF2.out.at0.froz 4 (by show 4 < 16; decide)
          have hA4 : ∀ ob : Obj, (w2.alloc ob).cell? ⟨g, 4, none⟩ = some vT := fun ob => ((HF2.out.alloc ob).at0).cell 4 _ rfl
          have HT4 : Hid (w2.ownsRow β 5 1 vT tl (bcells F.T)) := by have h9 := HF2.out.text; rw [HX.out.1] at h9; exact h9
          go_cut [] from 47 to 58 (fun wx => ∃ vT', Fm wx g β L ro (F.T ++ [x]) F.l F.G vT' vN vS (cs g F) ∧ Bx g β w2 wx)
          case first =>
            go_wp2_with fail
            go_region_law (refine step_append_u8 rfl (.tmp 51) (.tmp 55) 42 rfl β 5 i5 Tryd.underlying42 hi5 hz0 hz1 hz2 vT tl F.T rfl (own_drewN (HT4.out.alloc _) 1) w2.heap.size 1 1 [x] rfl rfl (cells_one (by rw [HTX.out.2.1]; simp)) (by omega) (by have := HF2.out.bs; simp; omega) ?_; intro v' w4 hown4 hgrow4; obtain ⟨a4, c4', hv4, -⟩ := own_form hown4; subst hv4; have hAt4 := At.grown (((HF2.out.alloc _).drewN 1).at0) hgrow4 ((HF2.out.alloc _).drewN 1).lt (fun e => by have := (HF2.out.text.lt g e).1; omega); have hf44 := hAt4.froz 4 (by show 4 < 16; decide); have hc44 := hAt4.cell 4 _ rfl; have HR4 := Lib.hid (Fm.growT (T' := F.T ++ [x]) ((HF2.out.alloc _).drewN 1) hgrow4 (by rw [List.length_append, HX.out.1]; exact hown4)); have HB4 := Lib.hid (((((Bx.refl' g β w2).alloc HF2.out.bs _).trans (bx_drewN g β _ 1)).grown hgrow4 (by have := HF2.out.bs; simp; omega) (fun k hk => by have := (HF2.out.text.lt k hk).1; omega)).setG (o := 4) (.slice a4 (tl + 1) c4')); clear hAt4 hgrow4 hown4)
            all_goals
              go_wp2_with fail
              go_meet
              case rel => exact ⟨_, HR4.out, HB4.out⟩
          case rest =>
            obtain ⟨vT3, hF3, hB3⟩ := hcut
            have HF3 : Hid (FmS wc g β L ro (more F (all ++ s.toList)) vT3 vN vS) := by
              show Fm wc g β L ro (F.T ++ [(all ++ s.toList).getD F.T.length 0]) F.l F.G _ _ _ (cs g F)
              rw [HTX.out.1]
              exact hF3
            have HB3 : Hid (Bx g β w wc) := HB2.out.trans hB3
            have c7 := hF3.at0.cell 7 _ rfl
            have GO : Hid (∀ K q, nxF F.m = K → Calls Tryd.prog K #[.pointer (some ⟨g, 0, none⟩), .int .u8 (b : Int)] (wc.drewN q) (RF (Fs.go L (more F (all ++ s.toList)) x) g β L ro (wc.drewN q))) := fun K q hK => by
              rw [← hK]
              exact go_any _ g β L ro (all ++ s.toList) F _ _ _ (HF3.out.drewN q) (ut_bx HU.out (HB3.out.trans (bx_drewN g β wc q)) hgb) HIE.out.1 HIE.out.2.1 HL.out.i HL.out.d HL.out.b (by rw [HX.out.1, HX.out.2.1]; exact HTX.out.2.2.2) x b HTX.out.2.1
            have HNX : Hid (Fs.go L (more F (all ++ s.toList)) x = f0.feed L (all ++ s.toList.take (i + 1))) := by
              show _ = _
              have h9 := snoc_take (A := s.toList) (p := i) (by rw [HN.out.2.1]; exact HIE.out.2.2)
              rw [← h9, ← List.append_assoc, feed_append, HFE.out, HTX.out.2.2.1, Fs.feed, List.foldl_cons, List.foldl_nil, Fs.take, if_neg (fun h => h HE0.out), HX.out.1, HX.out.2.1, if_neg (by have := HTX.out.2.2.2; omega), Fs.step, more, HTX.out.1]
            have hm5 : F.m = 0 ∨ F.m = 1 ∨ F.m = 2 ∨ F.m = 3 ∨ F.m = 4 := by have := HIE.out.1.mm; omega
            have HII := Lib.hid HIE.out.2.2
            have e9 : (i : Int) ≤ 140737488351232 := by have h8 := HN.out.2.2; have h9 := HIE.out.2.2; omega
            clear hF3 hB3 c4 f4 hA4
            go_wp2_with fail
            rcases hm5 with hm | hm | hm | hm | hm
            · have HK : Hid (nxF F.m = 40) := by show nxF F.m = _; rw [hm]; rfl
              have c7b : wc.cell? ⟨g, 7, none⟩ = some (.func (.func 40) #[.pointer (some ⟨g, 0, none⟩)] #[]) := by have h9 := c7; rw [HK.out] at h9; exact h9
              clear c7 hm
              go_still_tail 7, (by kernel_rfl)
              repeat still_step
              change wpList _ _ _ _ _ wc.drew
              go_wp2_with (first | (go_at_call 40; refine (GO.out _ 1 HK.out).mono ?_; rintro e w5 ⟨rfl, vT5, vN5, vS5, hF5, hB5⟩))
              go_roundw
              case rel => exact ⟨i + 1, vT5, vN5, vS5, by go_num, HII.out, by rw [← HNX.out]; exact hF5, HB3.out.trans ((bx_drewN g β wc _).trans hB5)⟩
              case measure => have h9 := HII.out; simp [intOf]; omega
            · have HK : Hid (nxF F.m = 62) := by show nxF F.m = _; rw [hm]; rfl
              have c7b : wc.cell? ⟨g, 7, none⟩ = some (.func (.func 62) #[.pointer (some ⟨g, 0, none⟩)] #[]) := by have h9 := c7; rw [HK.out] at h9; exact h9
              clear c7 hm
              go_still_tail 7, (by kernel_rfl)
              repeat still_step
              change wpList _ _ _ _ _ wc.drew
              go_wp2_with (first | (go_at_call 62; refine (GO.out _ 1 HK.out).mono ?_; rintro e w5 ⟨rfl, vT5, vN5, vS5, hF5, hB5⟩))
              go_roundw
              case rel => exact ⟨i + 1, vT5, vN5, vS5, by go_num, HII.out, by rw [← HNX.out]; exact hF5, HB3.out.trans ((bx_drewN g β wc _).trans hB5)⟩
              case measure => have h9 := HII.out; simp [intOf]; omega
            · have HK : Hid (nxF F.m = 79) := by show nxF F.m = _; rw [hm]; rfl
              have c7b : wc.cell? ⟨g, 7, none⟩ = some (.func (.func 79) #[.pointer (some ⟨g, 0, none⟩)] #[]) := by have h9 := c7; rw [HK.out] at h9; exact h9
              clear c7 hm
              go_still_tail 7, (by kernel_rfl)
              repeat still_step
              change wpList _ _ _ _ _ wc.drew
              go_wp2_with (first | (go_at_call 79; refine (GO.out _ 1 HK.out).mono ?_; rintro e w5 ⟨rfl, vT5, vN5, vS5, hF5, hB5⟩))
              go_roundw
              case rel => exact ⟨i + 1, vT5, vN5, vS5, by go_num, HII.out, by rw [← HNX.out]; exact hF5, HB3.out.trans ((bx_drewN g β wc _).trans hB5)⟩
              case measure => have h9 := HII.out; simp [intOf]; omega
            · have HK : Hid (nxF F.m = 85) := by show nxF F.m = _; rw [hm]; rfl
              have c7b : wc.cell? ⟨g, 7, none⟩ = some (.func (.func 85) #[.pointer (some ⟨g, 0, none⟩)] #[]) := by have h9 := c7; rw [HK.out] at h9; exact h9
              clear c7 hm
              go_still_tail 7, (by kernel_rfl)
              repeat still_step
              change wpList _ _ _ _ _ wc.drew
              go_wp2_with (first | (go_at_call 85; refine (GO.out _ 1 HK.out).mono ?_; rintro e w5 ⟨rfl, vT5, vN5, vS5, hF5, hB5⟩))
              go_roundw
              case rel => exact ⟨i + 1, vT5, vN5, vS5, by go_num, HII.out, by rw [← HNX.out]; exact hF5, HB3.out.trans ((bx_drewN g β wc _).trans hB5)⟩
              case measure => have h9 := HII.out; simp [intOf]; omega
            · have HK : Hid (nxF F.m = 88) := by show nxF F.m = _; rw [hm]; rfl
              have c7b : wc.cell? ⟨g, 7, none⟩ = some (.func (.func 88) #[.pointer (some ⟨g, 0, none⟩)] #[]) := by have h9 := c7; rw [HK.out] at h9; exact h9
              clear c7 hm
              go_still_tail 7, (by kernel_rfl)
              repeat still_step
              change wpList _ _ _ _ _ wc.drew
              go_wp2_with (first | (go_at_call 88; refine (GO.out _ 1 HK.out).mono ?_; rintro e w5 ⟨rfl, vT5, vN5, vS5, hF5, hB5⟩))
              go_roundw
              case rel => exact ⟨i + 1, vT5, vN5, vS5, by go_num, HII.out, by rw [← HNX.out]; exact hF5, HB3.out.trans ((bx_drewN g β wc _).trans hB5)⟩
              case measure => have h9 := HII.out; simp [intOf]; omega
      · have x1 : (ee == 0) = false := by rw [beq_eq_false_iff_ne]; exact he
        have x2 : (ee != 0) = true := by rw [bne_iff_ne]; exact he
        have HR2 : Hid (R = F) := by
          show R = _
          rw [← HRF.out]
          exact feed_bad L _ _ (by rw [hee]; exact he)
        have HE2 : Hid (F.e = ee) := hee
        clear hee he hin hi
        go_wp2_with fail
        go_quiet (fail)
        go_wp2_with fail
        go_ret
        exact RW.of HR2 HE2 (HF.out.drewN _) (HB.out.trans (bx_drewN g β _ _))
    · obtain rfl : i = n := by omega
      have e1 : ¬ (i : Int) < (i : Int) := by omega
      have HR2 : Hid (R = F) := by
        have h9 := HRF.out
        rw [List.drop_of_length_le (by rw [HN.out.2.1]; exact Nat.le_refl _)] at h9
        exact h9.symm
      have HE2 : Hid (F.e = ee) := hee
      clear hee hin hi
      go_wp2_with fail
      go_ret
      exact RW.of HR2 HE2 HF HB
end Fd
end Go.Proofs.YteglahkgnggmgaaDoor
