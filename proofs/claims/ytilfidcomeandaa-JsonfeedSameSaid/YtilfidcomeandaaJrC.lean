/- The document's reader of JSON: blanks passed over; the digit of a byte. -/
import Derived.Test.YtilfidcomeandaaJrB
namespace Go.Proofs.Ytilfidcomeandaa
open Go.RowKit
set_option linter.unusedVariables false
set_option linter.unusedSimpArgs false
namespace Jr
open Js
open Dr (Rs Lm has lack lackE lackP)
def RetPass (st : St) (p : Nat) (g : Nat) (s : ByteArray) (L : Lm) (ro : Int) (O : List Vl) (w : World) (e : Ending) (w' : World) : Prop :=
  (∃ q : Nat, p ≤ q ∧ has s.toList L q = true ∧ Js.blank (s.toList.getD q 0) = false ∧ Cl s.toList L st q st p ∧ GYes (.tuple #[.int .i64 (q : Int), .bool true]) g s L ro O st.G.length (q + 1) w e w') ∨
  (∃ c q b tk, RunsT s.toList L st p (.no c q b) tk st.G.length ∧ GNay (.tuple #[.int .i64 0, .bool false]) g s L ro c q b tk st.G.length w e w')
set_option maxRecDepth 100000 in
set_option maxHeartbeats 1600000 in
theorem pass_any {w : World} {g : Nat} {s : ByteArray} {L : Lm} {ro : Int} {O : List Vl} {tk : Nat} (st : St) (hst : st.hand = .none) (hnx : st.nx ≠ 6) (hG : Gok w g s L ro O st.G.length tk) (p : Nat) (hs : s.size ≤ 140737488351232) (htk : tk ≤ p + 1) (hp : p ≤ s.size) :
    Calls Try.prog 36 #[.pointer (some ⟨g, 0, none⟩), .int .i64 (p : Int)] w (RetPass st p g s L ro O w) := by
  have HG0 : Hid (∃ tk, tk ≤ p + 1 ∧ Gok w g s L ro O st.G.length tk) := ⟨tk, htk, hG⟩
  have HST := Lib.hid (And.intro hst hnx)
  have HS := Lib.hid hs
  obtain ⟨fr, hfr⟩ : ∃ n, st.G.length = n := ⟨_, rfl⟩
  have HFR := Lib.hid hfr
  rw [hfr] at HG0
  clear hG htk hs hst hnx hfr
  go_enter Try.func36, Try.ntmps36
  go_wp2_with fail
  go_loopw [1] (fun vi wr => ∃ q : Nat, vi = .int .i64 (q : Int) ∧ p ≤ q ∧ q ≤ s.size ∧ Hid (∃ tk, tk ≤ q + 1 ∧ Gok wr g s L ro O fr tk) ∧ Hid (Cl s.toList L st q st p) ∧ Hid (Below g w wr)) (fun vi _ => s.size - (intOf vi).toNat)
  case atStart => exact ⟨p, rfl, Nat.le_refl _, hp, HG0, Cl.refl _ _ _ _, Below.refl g w⟩
  case round =>
    obtain ⟨q, rfl, hpq, hqs, HG, HC, HB⟩ := hrel
    have HPQ := Lib.hid hpq
    clear HG0
    obtain ⟨tk, htk, hG⟩ := HG.out
    by_cases h1 : q < s.size ∧ q < L.bytes
    · obtain ⟨hq1, hq2⟩ := h1
      have W := Lib.hid (gwant_yes hG (q : Int) q rfl hq1 hq2 HS.out htk)
      have HH := Lib.hid (has_of hq1 hq2)
      have hb := byte_at s q hq1
      have e1 : (q : Int) < (s.size : Int) := by omega
      have e3 : (0 : Int) ≤ (q : Int) := by omega
      have e4 : (q : Int) < 140737488351232 := by have := HS.out; omega
      have BL := Lib.hid (fun w' => rblank_any (s.toList.getD q 0) w')
      rw [← hb] at BL
      obtain ⟨y, hy⟩ : ∃ y, (s[q]).toNat = y := ⟨_, rfl⟩
      rw [hy] at BL
      obtain ⟨bb, hbb⟩ : ∃ b, Js.blank (s.toList.getD q 0) = b := ⟨_, rfl⟩
      have HBB := Lib.hid hbb
      have HQ1 := Lib.hid hq1
      rw [hbb] at BL
      clear hb hbb hG htk hpq hqs hq2
      cases bb with
      | true =>
        go_wp2_with (first | (go_at_call 38; refine W.out.mono ?_; rintro e w1 ⟨rfl, HG1, HB1⟩; have t0 := Gok.txt HG1.out) | (go_at_call 39; refine (BL.out _).mono ?_; rintro e w2 ⟨rfl, rfl⟩))
        go_roundw
        case rel => exact ⟨q + 1, by go_num, by have := HPQ.out; omega, HQ1.out, ⟨q + 1, by omega, HG1.out⟩, Cl.trans (fun r t k h => pass_blank HST.out.1 HH.out rfl HBB.out h) HC.out, HB.out.trans HB1.out⟩
        case measure => have h9 := HQ1.out; simp [intOf]; omega
      | false =>
        go_wp2_with (first | (go_at_call 38; refine W.out.mono ?_; rintro e w1 ⟨rfl, HG1, HB1⟩; have t0 := Gok.txt HG1.out) | (go_at_call 39; refine (BL.out _).mono ?_; rintro e w2 ⟨rfl, rfl⟩))
        exact bodyPost_ret (v := .tuple #[.int .i64 (q : Int), .bool true]) (by simp [results, Try.results36, go_sem]) rfl (.inl ⟨q, HPQ.out, HH.out, HBB.out, HC.out, rfl, by rw [HFR.out]; exact HG1, HB.out.trans HB1.out⟩)
    · have W := Lib.hid (gwant_no hG (q : Int) q rfl h1)
      have hlk : RunsT s.toList L st q (lack s.toList L) (lackK s.toList L) st.G.length := stop_lack (has_not h1) (fun _ => by
        rw [St.last, HST.out.1]
        dsimp only
        split
        · rw [if_neg HST.out.2]
        · rfl)
      have HLK := Lib.hid (HC.out _ _ _ hlk)
      clear hG htk h1 hlk hpq hqs
      go_wp2_with (go_at_call 38; refine W.out.mono ?_; rintro e w1 ⟨rfl, HG1, HB1⟩)
      exact bodyPost_ret (v := .tuple #[.int .i64 0, .bool false]) (by simp [results, Try.results36, go_sem]) rfl (.inr ⟨_, _, _, _, HLK.out, rfl, by rw [HFR.out]; exact HG1, HB.out.trans HB1.out⟩)
end Jr
end Go.Proofs.Ytilfidcomeandaa
