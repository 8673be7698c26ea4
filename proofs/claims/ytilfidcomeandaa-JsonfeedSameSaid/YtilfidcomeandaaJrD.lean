/- The document's reader of JSON: digits, four of them. -/
import Derived.Test.YtilfidcomeandaaJrC
import Derived.Test.YtilfidcomeandaaJtH
namespace Go.Proofs.Ytilfidcomeandaa
open Go.RowKit
set_option linter.unusedVariables false
set_option linter.unusedSimpArgs false
namespace Jr
open Js
open Dr (Rs Lm has lack lackE lackP)
def hexI (b : UInt8) : Int := match hexOf b with | some v => (v : Int) | none => -1
theorem hexOf_lt {b : UInt8} {v : Nat} (h : hexOf b = some v) : v < 16 := by
  rw [hexOf] at h
  repeat' split at h
  all_goals first | (cases h; omega) | cases h
set_option maxRecDepth 100000 in
set_option maxHeartbeats 1600000 in
theorem rhex_any (b : UInt8) (w : World) : Calls Try.prog 96 #[.int .u8 (b.toNat : Int)] w (RetV (.int .i64 (hexI b)) w) := by
  have DG := Lib.hid (fun w' => rdigit_any b w')
  rw [isDigit] at DG
  rw [hexI, hexOf]
  have hlt := b.toNat_lt
  obtain ⟨n, hn⟩ : ∃ n, b.toNat = n := ⟨_, rfl⟩
  rw [hn] at DG hlt ⊢
  clear hn
  by_cases g1 : 48 ≤ n ∧ n ≤ 57
  · rw [decide_eq_true g1] at DG
    rw [if_pos g1]
    dsimp only
    obtain ⟨v0, hv0⟩ : ∃ v, n - 48 = v := ⟨_, rfl⟩
    have k1 : (n : Int) - 48 = (v0 : Int) := by omega
    rw [hv0]
    have k5 : (v0 : Int) < 16 := by omega
    clear hlt g1 hv0
    go_enter Try.func96, Try.ntmps96
    go_wp2_with (go_at_call 56; refine (DG.out _).mono ?_; rintro e w2 ⟨rfl, rfl⟩)
    go_ret
    exact ⟨rfl, rfl⟩
  rw [decide_eq_false g1] at DG
  rw [if_neg g1]
  by_cases g2 : 97 ≤ n ∧ n ≤ 102
  · rw [if_pos g2]
    dsimp only
    obtain ⟨v0, hv0⟩ : ∃ v, n - 97 = v := ⟨_, rfl⟩
    have k1 : (n : Int) - 97 = (v0 : Int) := by omega
    have k5 : (v0 : Int) < 16 := by omega
    rw [hv0]
    have d3 : (97 : Int) ≤ n := by omega
    have d4 : (n : Int) ≤ 102 := by omega
    have k2 : ((v0 + 10 : Nat) : Int) = (v0 : Int) + 10 := by omega
    rw [k2]
    clear hlt g1 g2 hv0 k2
    go_enter Try.func96, Try.ntmps96
    go_wp2_with (go_at_call 56; refine (DG.out _).mono ?_; rintro e w2 ⟨rfl, rfl⟩)
    go_ret
    exact ⟨rfl, rfl⟩
  rw [if_neg g2]
  by_cases g3 : 65 ≤ n ∧ n ≤ 70
  · rw [if_pos g3]
    dsimp only
    obtain ⟨v0, hv0⟩ : ∃ v, n - 65 = v := ⟨_, rfl⟩
    have k1 : (n : Int) - 65 = (v0 : Int) := by omega
    have k5 : (v0 : Int) < 16 := by omega
    rw [hv0]
    have d3 : ¬ (97 : Int) ≤ n := by omega
    have d5 : (65 : Int) ≤ n := by omega
    have d6 : (n : Int) ≤ 70 := by omega
    have k2 : ((v0 + 10 : Nat) : Int) = (v0 : Int) + 10 := by omega
    rw [k2]
    clear hlt g1 g2 g3 hv0 k2
    go_enter Try.func96, Try.ntmps96
    go_wp2_with (go_at_call 56; refine (DG.out _).mono ?_; rintro e w2 ⟨rfl, rfl⟩)
    go_ret
    exact ⟨rfl, rfl⟩
  rw [if_neg g3]
  dsimp only
  by_cases b1 : n < 65
  · have d3 : ¬ (97 : Int) ≤ n := by omega
    have d5 : ¬ (65 : Int) ≤ n := by omega
    clear hlt g1 g2 g3 b1
    go_enter Try.func96, Try.ntmps96
    go_wp2_with (go_at_call 56; refine (DG.out _).mono ?_; rintro e w2 ⟨rfl, rfl⟩)
    go_ret
    exact ⟨rfl, rfl⟩
  by_cases b2 : n < 97
  · have d3 : ¬ (97 : Int) ≤ n := by omega
    have d5 : (65 : Int) ≤ n := by omega
    have d6 : ¬ (n : Int) ≤ 70 := by omega
    clear hlt g1 g2 g3 b1 b2
    go_enter Try.func96, Try.ntmps96
    go_wp2_with (go_at_call 56; refine (DG.out _).mono ?_; rintro e w2 ⟨rfl, rfl⟩)
    go_ret
    exact ⟨rfl, rfl⟩
  have d3 : (97 : Int) ≤ n := by omega
  have d4 : ¬ (n : Int) ≤ 102 := by omega
  have d5 : (65 : Int) ≤ n := by omega
  have d6 : ¬ (n : Int) ≤ 70 := by omega
  clear hlt g1 g2 g3 b1 b2
  go_enter Try.func96, Try.ntmps96
  go_wp2_with (go_at_call 56; refine (DG.out _).mono ?_; rintro e w2 ⟨rfl, rfl⟩)
  go_ret
  exact ⟨rfl, rfl⟩
/-- a string at hand -/
def sx (st : St) (m : Sm) (t : List UInt8) : St := { st with hand := .str ⟨m, t⟩ }
def Four (S : List UInt8) (L : Lm) (st : St) (t : List UInt8) (hf p : Nat) (i n : Nat) : Prop :=
  n < 16 ^ i ∧ (i ≤ 3 → Cl S L (sx st (.hex (4 - i) n hf) t) (p + i) (sx st (.hex 4 0 hf) t) p) ∧
  (i = 4 → ∃ m v, has S L (p + 3) = true ∧ hexOf (S.getD (p + 3) 0) = some v ∧ n = 16 * m + v ∧ Cl S L (sx st (.hex 1 m hf) t) (p + 3) (sx st (.hex 4 0 hf) t) p)
theorem sx_last (st : St) (m : Sm) (t : List UInt8) : (sx st m t).last = none := by
  rw [St.last]
  split
  · rfl
  · rfl
theorem sx_lack {S : List UInt8} {L : Lm} {st : St} {m : Sm} {t : List UInt8} {p : Nat} (hh : has S L p = false) : RunsT S L (sx st m t) p (lack S L) (lackK S L) st.G.length := stop_lack hh (fun _ => sx_last st m t)
theorem sx_bad {S : List UInt8} {L : Lm} {st : St} {m : Sm} {t : List UInt8} {p : Nat} (hh : has S L p = true) (hb : (⟨m, t⟩ : Ss).take (S.getD p 0) = .bad) : RunsT S L (sx st m t) p (.no 9 p false) (p + 1) st.G.length := by
  refine RunsT.fl (s := sx st m t) hh ?_
  show (match (⟨m, t⟩ : Ss).take (S.getD p 0) with | .more y => Out.go { sx st m t with hand := .str y } | .bad => .fl 9 p | .done => (sx st m t).endStr t) = _
  rw [hb]
theorem sx_more {S : List UInt8} {L : Lm} {st : St} {m m' : Sm} {t t' : List UInt8} {p : Nat} (hh : has S L p = true) (hb : (⟨m, t⟩ : Ss).take (S.getD p 0) = .more ⟨m', t'⟩) : Cl S L (sx st m' t') (p + 1) (sx st m t) p := by
  intro r tk k h
  refine RunsT.go (s := sx st m t) hh ?_ h
  show (match (⟨m, t⟩ : Ss).take (S.getD p 0) with | .more y => Out.go { sx st m t with hand := .str y } | .bad => .fl 9 p | .done => (sx st m t).endStr t) = _
  rw [hb]
  rfl
theorem Four.zero (S : List UInt8) (L : Lm) (st : St) (t : List UInt8) (hf p : Nat) : Four S L st t hf p 0 0 := ⟨by decide, fun _ => Cl.refl _ _ _ _, fun h => by cases h⟩
theorem take_hex (l n hf v : Nat) (t : List UInt8) (b : UInt8) (h : hexOf b = some v) : (⟨.hex l n hf, t⟩ : Ss).take b = if 0 < l - 1 then .more ⟨.hex (l - 1) (16 * n + v) hf, t⟩ else numbered t (16 * n + v) hf := by
  show (match hexOf b with | none => Sr.bad | some v => if 0 < l - 1 then Sr.more ⟨.hex (l - 1) (16 * n + v) hf, t⟩ else numbered t (16 * n + v) hf) = _
  rw [h]
theorem take_hexN (l n hf : Nat) (t : List UInt8) (b : UInt8) (h : hexOf b = none) : (⟨.hex l n hf, t⟩ : Ss).take b = .bad := by
  show (match hexOf b with | none => Sr.bad | some v => if 0 < l - 1 then Sr.more ⟨.hex (l - 1) (16 * n + v) hf, t⟩ else numbered t (16 * n + v) hf) = _
  rw [h]
theorem Four.step {S : List UInt8} {L : Lm} {st : St} {t : List UInt8} {hf p i n v : Nat} (h : Four S L st t hf p i n) (hi : i < 4) (hh : has S L (p + i) = true) (hv : hexOf (S.getD (p + i) 0) = some v) : Four S L st t hf p (i + 1) (16 * n + v) := by
  obtain ⟨h1, h2, -⟩ := h
  have hv16 := hexOf_lt hv
  refine ⟨by rw [Nat.pow_succ]; omega, fun h3 => ?_, fun h4 => ?_⟩
  · refine Cl.trans (sx_more (m' := .hex (4 - (i + 1)) (16 * n + v) hf) (t' := t) hh ?_) (h2 (by omega))
    show (⟨.hex (4 - i) n hf, t⟩ : Ss).take (S.getD (p + i) 0) = _
    rw [take_hex _ _ _ _ _ _ hv, if_pos (by omega), show 4 - i - 1 = 4 - (i + 1) by omega]
  · obtain rfl : i = 3 := by omega
    exact ⟨n, v, hh, hv, rfl, h2 (Nat.le_refl 3)⟩
def RetFour (st : St) (t : List UInt8) (hf p : Nat) (g : Nat) (s : ByteArray) (L : Lm) (ro : Int) (O : List Vl) (w : World) (e : Ending) (w' : World) : Prop :=
  (∃ m v, has s.toList L (p + 3) = true ∧ hexOf (s.toList.getD (p + 3) 0) = some v ∧ 16 * m + v < 65536 ∧ Cl s.toList L (sx st (.hex 1 m hf) t) (p + 3) (sx st (.hex 4 0 hf) t) p ∧ GYes (.tuple #[.int .i64 ((16 * m + v : Nat) : Int), .bool true]) g s L ro O st.G.length (p + 4) w e w') ∨
  (∃ c q b tk, RunsT s.toList L (sx st (.hex 4 0 hf) t) p (.no c q b) tk st.G.length ∧ GNay (.tuple #[.int .i64 0, .bool false]) g s L ro c q b tk st.G.length w e w')
set_option maxRecDepth 100000 in
set_option maxHeartbeats 1600000 in
theorem four_any {w : World} {g : Nat} {s : ByteArray} {L : Lm} {ro : Int} {O : List Vl} {tk : Nat} (st : St) (t : List UInt8) (hf : Nat) (hG : Gok w g s L ro O st.G.length tk) (p : Nat) (hs : s.size ≤ 140737488351232) (htk : tk ≤ p + 1) (hp : p ≤ s.size + 100) :
    Calls Try.prog 85 #[.pointer (some ⟨g, 0, none⟩), .int .i64 (p : Int)] w (RetFour st t hf p g s L ro O w) := by
  have HG0 : Hid (∃ tk, tk ≤ p + 0 + 1 ∧ Gok w g s L ro O st.G.length tk) := ⟨tk, htk, hG⟩
  have HS := Lib.hid hs
  have HP : Hid ((p : Int) ≤ 140737488351500) := by show (p : Int) ≤ _; omega
  obtain ⟨fr, hfr⟩ : ∃ n, st.G.length = n := ⟨_, rfl⟩
  have HFR := Lib.hid hfr
  rw [hfr] at HG0
  clear hG htk hs hp hfr
  go_enter Try.func85, Try.ntmps85
  go_wp2_with fail
  go_loopw [6, 7, 8] (fun vn vi vh wr => ∃ i n : Nat, vn = .int .i64 (n : Int) ∧ vi = .int .i64 (i : Int) ∧ i ≤ 4 ∧ n < 65536 ∧ Hid (∃ tk, tk ≤ p + i + 1 ∧ Gok wr g s L ro O fr tk ∧ (i = 4 → tk = p + 4)) ∧ Hid (Four s.toList L st t hf p i n) ∧ Hid (Below g w wr)) (fun _ vi _ _ => 4 - (intOf vi).toNat)
  case atStart =>
    obtain ⟨tk, h1, h2⟩ := HG0.out
    exact ⟨0, 0, rfl, rfl, by omega, by omega, ⟨tk, h1, h2, fun h => by cases h⟩, Four.zero _ _ _ _ _ _, Below.refl g w⟩
  case round =>
    obtain ⟨i, n, rfl, rfl, hi4, hn, HG, HF, HB⟩ := hrel
    clear HG0
    by_cases h4 : i < 4
    · have e1 : (i : Int) < 4 := by omega
      obtain ⟨tk, htk, hG, -⟩ := HG.out
      have HI := Lib.hid h4
      have e8 : (p : Int) + (i : Int) < 140737488351600 := by have := HP.out; omega
      obtain ⟨q, hq⟩ : ∃ q, p + i = q := ⟨_, rfl⟩
      have hqi : (p : Int) + (i : Int) = (q : Int) := by omega
      have HQ := Lib.hid hq
      rw [hq] at htk
      by_cases h1 : q < s.size ∧ q < L.bytes
      · obtain ⟨hq1, hq2⟩ := h1
        have W := Lib.hid (gwant_yes hG (q : Int) q rfl hq1 hq2 HS.out htk)
        have HH := Lib.hid (has_of hq1 hq2)
        have hb := byte_at s q hq1
        have e2 : (q : Int) < (s.size : Int) := by omega
        have e3 : (0 : Int) ≤ (q : Int) := by omega
        have e0 := hq1
        have BL := Lib.hid (fun w' => rhex_any (s.toList.getD q 0) w')
        rw [← hb] at BL
        obtain ⟨y, hy⟩ : ∃ y, (s[q]).toNat = y := ⟨_, rfl⟩
        rw [hy] at BL
        obtain ⟨xi, hxi⟩ : ∃ x, hexI (s.toList.getD q 0) = x := ⟨_, rfl⟩
        rw [hxi] at BL
        have HXI := Lib.hid hxi
        have HNN := Lib.hid hn
        clear hb hG htk hq2 hq h4 hi4 hn hxi
        go_wp2_with (go_at_call 38; refine W.out.mono ?_; rintro e w1 ⟨rfl, HG1, HB1⟩; have t0 := Gok.txt HG1.out)
        refine (BL.out _).mono ?_
        rintro e w2 ⟨rfl, rfl⟩
        clear W BL
        cases hx : hexOf (s.toList.getD q 0) with
        | none =>
          obtain rfl : xi = -1 := by rw [← HXI.out, hexI, hx]
          have HBD : Hid (RunsT s.toList L (sx st (.hex 4 0 hf) t) p (.no 9 q false) (q + 1) st.G.length) := by
            have h7 := HF.out.2.1 (by have := HI.out; omega)
            rw [HQ.out] at h7
            exact h7 _ _ _ (sx_bad HH.out (take_hexN _ _ _ _ _ hx))
          clear hx
          go_wp2_with (go_at_call 40; refine (gfault16_ok HG1.out _ _ q rfl).mono ?_; rintro e w2 ⟨rfl, HG2, HB2⟩)
          exact bodyPost_ret (v := .tuple #[.int .i64 0, .bool false]) (by simp [results, Try.results85, go_sem]) rfl (.inr ⟨_, _, _, _, HBD.out, rfl, by rw [HFR.out]; exact HG2, (HB.out.trans HB1.out).trans HB2.out⟩)
        | some v =>
          obtain rfl : xi = (v : Int) := by rw [← HXI.out, hexI, hx]
          have hv := hexOf_lt hx
          have HST : Hid (Four s.toList L st t hf p (i + 1) (16 * n + v)) := Four.step HF.out HI.out (by rw [HQ.out]; exact HH.out) (by rw [HQ.out]; exact hx)
          have hn2 : 16 * n + v < 65536 := by
            have h7 := HST.out.1
            have h8 : 16 ^ (i + 1) ≤ 16 ^ 4 := Nat.pow_le_pow_right (by decide) (by have := HI.out; omega)
            omega
          obtain ⟨z, hz⟩ : ∃ z, 16 * n + v = z := ⟨_, rfl⟩
          have k6 : Hid (wrap64 (wrap64 (16 * (n : Int)) + (v : Int)) = (z : Int)) := by
            have hw : ∀ x : Int, -9223372036854775808 ≤ x → x ≤ 9223372036854775807 → wrap64 x = x := fun x _ _ => by unfold wrap64; omega
            show wrap64 (wrap64 (16 * (n : Int)) + (v : Int)) = (z : Int)
            rw [hw (16 * (n : Int)) (by omega) (by omega), hw _ (by omega) (by omega)]
            omega
          have e7 : (v : Int) < 16 := by omega
          have e6 : ¬ (v : Int) < 0 := by omega
          rw [hz] at HST hn2
          have HN2 := Lib.hid hn2
          clear hx hn2 hv hz hqi e8 e2 e3
          go_wp2_with fail
          go_roundw
          case rel => exact ⟨i + 1, z, congrArg (Value.int IntKind.i64) k6.out, congrArg (Value.int IntKind.i64) (show (i : Int) + 1 = ((i + 1 : Nat) : Int) by omega), by have := HI.out; omega, HN2.out, ⟨q + 1, by have := HQ.out; omega, HG1.out, fun h => by have := HQ.out; omega⟩, HST, HB.out.trans HB1.out⟩
          case measure => have h9 := HI.out; simp [intOf]; omega
      · have W := Lib.hid (gwant_no hG (q : Int) q rfl h1)
        have HLK : Hid (RunsT s.toList L (sx st (.hex 4 0 hf) t) p (lack s.toList L) (lackK s.toList L) st.G.length) := by
          have h7 := HF.out.2.1 (by omega)
          rw [hq] at h7
          exact h7 _ _ _ (sx_lack (has_not h1))
        clear hG htk h1 hq h4 hi4 hn
        go_wp2_with (go_at_call 38; refine W.out.mono ?_; rintro e w1 ⟨rfl, HG1, HB1⟩)
        exact bodyPost_ret (v := .tuple #[.int .i64 0, .bool false]) (by simp [results, Try.results85, go_sem]) rfl (.inr ⟨_, _, _, _, HLK.out, rfl, by rw [HFR.out]; exact HG1, HB.out.trans HB1.out⟩)
    · obtain rfl : i = 4 := by omega
      have HN2 := Lib.hid hn
      clear hi4 hn h4
      go_wp2_with fail
      obtain ⟨tk, -, hG, h8⟩ := HG.out
      obtain rfl : tk = p + 4 := by first | exact h8 rfl | exact h8 trivial
      obtain ⟨m, v, k1, k2, rfl, k4⟩ := HF.out.2.2 rfl
      exact bodyPost_ret (v := .tuple #[.int .i64 ((16 * m + v : Nat) : Int), .bool true]) (by simp [results, Try.results85, go_sem]) rfl (.inl ⟨m, v, k1, k2, HN2.out, k4, rfl, by rw [HFR.out]; exact hG, HB⟩)
end Jr
end Go.Proofs.Ytilfidcomeandaa
