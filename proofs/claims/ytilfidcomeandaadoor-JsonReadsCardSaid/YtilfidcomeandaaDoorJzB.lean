/- Joined by merge.py: JrH JrI JrJ JrK. -/
import Derived.Test.YtilfidcomeandaaDoorJzA
import Derived.Test.YtilfidcomeandaaDoorJsM
import Derived.BigQuiet
import Derived.Test.YtilfidcomeandaaDoorJsU
import Derived.Deep.LoopGhost
import Derived.Lib.AppendStr
namespace Go.Proofs.YtilfidcomeandaaDoor
open Go.RowKit
set_option linter.unusedVariables false
set_option linter.unusedSimpArgs false
namespace Jr
open Js
open Dr (Rs Lm has lack lackE lackP)
def letL : List UInt8 := [34, 92, 47, 98, 102, 110, 114, 116]
def bytL : List UInt8 := [34, 92, 47, 8, 12, 10, 13, 9]
theorem esc_cases (b : UInt8) : (∃ k, k < 8 ∧ letL.getD k 0 = b ∧ (∀ j, j < k → letL.getD j 0 ≠ b) ∧ escOf b = some (bytL.getD k 0)) ∨ ((∀ j, j < 8 → letL.getD j 0 ≠ b) ∧ escOf b = none) := by
  by_cases h0 : b = 34
  · subst h0
    exact .inl ⟨0, by decide, rfl, by decide, by decide⟩
  by_cases h1 : b = 92
  · subst h1
    exact .inl ⟨1, by decide, rfl, by decide, by decide⟩
  by_cases h2 : b = 47
  · subst h2
    exact .inl ⟨2, by decide, rfl, by decide, by decide⟩
  by_cases h3 : b = 98
  · subst h3
    exact .inl ⟨3, by decide, rfl, by decide, by decide⟩
  by_cases h4 : b = 102
  · subst h4
    exact .inl ⟨4, by decide, rfl, by decide, by decide⟩
  by_cases h5 : b = 110
  · subst h5
    exact .inl ⟨5, by decide, rfl, by decide, by decide⟩
  by_cases h6 : b = 114
  · subst h6
    exact .inl ⟨6, by decide, rfl, by decide, by decide⟩
  by_cases h7 : b = 116
  · subst h7
    exact .inl ⟨7, by decide, rfl, by decide, by decide⟩
  refine .inr ⟨fun j hj => ?_, ?_⟩
  · rcases (by omega : j = 0 ∨ j = 1 ∨ j = 2 ∨ j = 3 ∨ j = 4 ∨ j = 5 ∨ j = 6 ∨ j = 7) with rfl | rfl | rfl | rfl | rfl | rfl | rfl | rfl
    · exact fun e => h0 e.symm
    · exact fun e => h1 e.symm
    · exact fun e => h2 e.symm
    · exact fun e => h3 e.symm
    · exact fun e => h4 e.symm
    · exact fun e => h5 e.symm
    · exact fun e => h6 e.symm
    · exact fun e => h7 e.symm
  · simp [escOf, h0, h1, h2, h3, h4, h5, h6, h7]
theorem take_esc (t : List UInt8) (b : UInt8) : (⟨.esc, t⟩ : Ss).take b = match escOf b with
    | some c => .more ⟨.plain, t ++ [c]⟩
    | none => if b = 117 then .more ⟨.hex 4 0 0, t⟩ else .bad := rfl
def RetEsc (st : St) (t : List UInt8) (p : Nat) (g : Nat) (s : ByteArray) (L : Lm) (ro : Int) (O : List Vl) (w : World) (e : Ending) (w' : World) : Prop :=
  (∃ (Y : ByteArray) (q : Nat), p < q ∧ Y.size ≤ 4 ∧ Cl s.toList L (sx st .plain (t ++ Y.toList)) q (sx st .esc t) p ∧ GYes (.tuple #[.string Y, .int .i64 (q : Int), .bool true]) g s L ro O st.G.length q w e w') ∨
  (∃ c q b tk, RunsT s.toList L (sx st .esc t) p (.no c q b) tk st.G.length ∧ GNay (.tuple #[.string ⟨#[]⟩, .int .i64 0, .bool false]) g s L ro c q b tk st.G.length w e w')
set_option maxRecDepth 100000 in
set_option maxHeartbeats 1600000 in
theorem escape_lack {w : World} {g : Nat} {s : ByteArray} {L : Lm} {ro : Int} {O : List Vl} {tk : Nat} (st : St) (t : List UInt8) (hG : Gok w g s L ro O st.G.length tk) (p : Nat) (h1 : ¬ (p < s.size ∧ p < L.bytes)) :
    Calls Tryd.prog 81 #[.pointer (some ⟨g, 0, none⟩), .int .i64 (p : Int)] w (RetEsc st t p g s L ro O w) := by
  have W := Lib.hid (gwant_no hG (p : Int) p rfl h1)
  have HLK : Hid (RunsT s.toList L (sx st .esc t) p (lack s.toList L) (lackK s.toList L) st.G.length) := sx_lack (has_not h1)
  clear hG h1
  go_enter Tryd.func81, Tryd.ntmps81
  go_wp2_with (go_at_call 43; refine W.out.mono ?_; rintro e w1 ⟨rfl, HG1, HB1⟩)
  exact bodyPost_ret (v := .tuple #[.string ⟨#[]⟩, .int .i64 0, .bool false]) (by simp [results, Tryd.results81, go_sem]) rfl (.inr ⟨_, _, _, _, HLK.out, rfl, HG1, HB1⟩)
set_option maxRecDepth 100000 in
set_option maxHeartbeats 3200000 in
theorem escape_some {w : World} {g : Nat} {s : ByteArray} {L : Lm} {ro : Int} {O : List Vl} {tk : Nat} (st : St) (t : List UInt8) (hG : Gok w g s L ro O st.G.length tk) (p : Nat) (hs : s.size ≤ 140737488351232) (htk : tk ≤ p + 1) (hq1 : p < s.size) (hq2 : p < L.bytes)
    (k : Nat) (hk : k < 8) (hlk : letL.getD k 0 = s.toList.getD p 0) (hne : ∀ j, j < k → letL.getD j 0 ≠ s.toList.getD p 0) (hesc : escOf (s.toList.getD p 0) = some (bytL.getD k 0)) :
    Calls Tryd.prog 81 #[.pointer (some ⟨g, 0, none⟩), .int .i64 (p : Int)] w (RetEsc st t p g s L ro O w) := by
  have W := Lib.hid (gwant_yes hG (p : Int) p rfl hq1 hq2 hs htk)
  have HCL : Hid (Cl s.toList L (sx st .plain (t ++ [bytL.getD k 0])) (p + 1) (sx st .esc t) p) := sx_more (has_of hq1 hq2) (by rw [take_esc, hesc])
  have hb := byte_at s p hq1
  have e2 : (p : Int) < (s.size : Int) := by omega
  have e3 : (0 : Int) ≤ (p : Int) := by omega
  have e4 : (p : Int) ≤ 140737488351232 := by omega
  obtain ⟨y, hy⟩ : ∃ y, (s[p]).toNat = y := ⟨_, rfl⟩
  rw [hy] at hb
  have HK : Hid (k < 8 ∧ ∀ j, j < k → (letL.getD j 0).toNat ≠ y) := ⟨hk, fun j hj e => hne j hj (UInt8.toNat_inj.1 (by rw [e, hb]))⟩
  have HKK : Hid ((letL.getD k 0).toNat = y) := by show _ = _; rw [hlk, hb]
  obtain ⟨fr, hfr⟩ : ∃ n, st.G.length = n := ⟨_, rfl⟩
  have HFR := Lib.hid hfr
  rw [hfr] at W
  clear hG hs htk hq2 hk hlk hne hesc hb hfr
  go_enter Tryd.func81, Tryd.ntmps81
  go_wp2_with (go_at_call 43; refine W.out.mono ?_; rintro e w1 ⟨rfl, HG1, HB1⟩)
  obtain ⟨Ls, hLs⟩ : ∃ x : ByteArray, (⟨#[34, 92, 47, 98, 102, 110, 114, 116]⟩ : ByteArray) = x := ⟨_, rfl⟩
  obtain ⟨Bs, hBs⟩ : ∃ x : ByteArray, (⟨#[34, 92, 47, 8, 12, 10, 13, 9]⟩ : ByteArray) = x := ⟨_, rfl⟩
  have hLl : Ls.toList = letL := by rw [← hLs]; exact tl_mk [34, 92, 47, 98, 102, 110, 114, 116]
  have hBl : Bs.toList = bytL := by rw [← hBs]; exact tl_mk [34, 92, 47, 8, 12, 10, 13, 9]
  have hL8 : Ls.size = 8 := by rw [← tl_size, hLl]; rfl
  have hB8 : Bs.size = 8 := by rw [← tl_size, hBl]; rfl
  have HLL := Lib.hid (And.intro hLl hBl)
  rw [hLs, hBs]
  clear hLs hBs hLl hBl W
  go_loopw [9] (fun vi wr => ∃ i : Nat, vi = .int .i64 (i : Int) ∧ i ≤ k ∧ Hid (Gok wr g s L ro O fr (p + 1)) ∧ Hid (Fg g w wr)) (fun vi _ => 8 - (intOf vi).toNat)
  case atStart => exact ⟨0, rfl, Nat.zero_le _, HG1, HB1⟩
  case round =>
    obtain ⟨i, rfl, hik, HG, HB⟩ := hrel
    have t0 := Gok.txt HG.out
    have hi8 : i < 8 := by have := HK.out.1; omega
    have hiL : i < Ls.size := by omega
    have e5 : (i : Int) < 8 := by omega
    have e6 : (0 : Int) ≤ (i : Int) := by omega
    have hlb := byte_at Ls i hiL
    rw [HLL.out.1] at hlb
    obtain ⟨x, hx⟩ : ∃ x, (Ls[i]).toNat = x := ⟨_, rfl⟩
    rw [hx] at hlb
    have HXL := Lib.hid hlb
    have HIK := Lib.hid hik
    by_cases h4 : i < k
    · have e7 : ((x : Int) == (y : Int)) = false := by
        rw [beq_eq_false_iff_ne]
        have := HK.out.2 i h4
        omega
      have HI := Lib.hid h4
      clear h4 hik hlb hi8
      go_wp2_with fail
      go_quiet (fail)
      go_wp2_with fail
      go_roundw
      case rel => exact ⟨i + 1, by go_num, by have := HI.out; omega, HG.out.drewN _, HB.out.trans (Fg.drewN _ _ _)⟩
      case measure => have h9 := HI.out; have h8 := HK.out.1; simp [intOf]; omega
    · obtain rfl : i = k := by omega
      have hxy : x = y := by rw [hlb, HKK.out]
      have e8 : (i : Int) + 1 ≤ 8 := by omega
      obtain ⟨q, hq⟩ : ∃ q, p + 1 = q := ⟨_, rfl⟩
      have hqi : (p : Int) + 1 = (q : Int) := by omega
      obtain ⟨Y, hY⟩ : ∃ Y, Bs.extract i (i + 1) = Y := ⟨_, rfl⟩
      have hYl : Y.toList = [bytL.getD i 0] := by
        rw [← hY, tl_extract, HLL.out.2, show i + 1 - i = 1 by omega]
        have hl : i < bytL.length := hi8
        rw [List.drop_eq_getElem_cons hl, List.getD, List.getElem?_eq_getElem hl]
        rfl
      have HQ : Hid (p < q ∧ Y.size ≤ 4 ∧ Cl s.toList L (sx st .plain (t ++ Y.toList)) q (sx st .esc t) p) := by
        refine ⟨by omega, by rw [← tl_size, hYl]; show 1 ≤ 4; decide, ?_⟩
        rw [hYl, ← hq]
        exact HCL.out
      have HG9 : Hid (Gok wr g s L ro O fr q) := by rw [← hq]; exact HG
      subst hxy
      clear h4 hik hlb hi8 hYl HG hq
      go_wp2_with fail
      go_quiet (fail)
      go_wp2_with fail
      refine bodyPost_ret (v := .tuple #[.string Y, .int .i64 (q : Int), .bool true]) (by simp [results, Tryd.results81, go_sem, hY]) rfl (.inl ⟨Y, q, HQ.out.1, HQ.out.2.1, HQ.out.2.2, rfl, by rw [HFR.out]; exact HG9.out.drewN _, HB.out.trans (Fg.drewN _ _ _)⟩)

theorem numbered_bad0 (t : List UInt8) (n : Nat) (h1 : 56320 ≤ n) (h2 : n ≤ 57343) : numbered t n 0 = .bad := by rw [numbered, if_pos]; simp [h1, h2]
theorem numbered_slash (t : List UInt8) (n : Nat) (h1 : 55296 ≤ n) (h2 : n ≤ 56319) : numbered t n 0 = .more ⟨.slash n, t⟩ := by
  rw [numbered, if_neg, if_pos ⟨h1, h2⟩]
  have : ¬ (56320 ≤ n ∧ n ≤ 57343) := by omega
  simp [this]
theorem numbered_plain (t : List UInt8) (n : Nat) (h : n < 55296 ∨ 57343 < n) : numbered t n 0 = .more ⟨.plain, t ++ enc8 n⟩ := by
  have h1 : ¬ (56320 ≤ n ∧ n ≤ 57343) := by omega
  have h2 : ¬ (55296 ≤ n ∧ n ≤ 56319) := by omega
  rw [numbered, if_neg, if_neg h2, if_neg h1]
  simp [h1]
theorem numbered_badh (t : List UInt8) (n half : Nat) (h0 : half ≠ 0) (h : n < 56320 ∨ 57343 < n) : numbered t n half = .bad := by
  have h1 : ¬ (56320 ≤ n ∧ n ≤ 57343) := by omega
  rw [numbered, if_pos]
  simp [h1, h0]
theorem numbered_pair (t : List UInt8) (n half : Nat) (h0 : half ≠ 0) (h1 : 56320 ≤ n) (h2 : n ≤ 57343) : numbered t n half = .more ⟨.plain, t ++ enc8 (n + 65536 + (half - 55296) * 1024 - 56320)⟩ := by
  have h3 : ¬ (55296 ≤ n ∧ n ≤ 56319) := by omega
  rw [numbered, if_neg, if_neg h3, if_pos ⟨h1, h2⟩]
  simp [h1, h2, h0]
theorem take_hex1 (m hf v : Nat) (t : List UInt8) (b : UInt8) (h : hexOf b = some v) : (⟨.hex 1 m hf, t⟩ : Ss).take b = numbered t (16 * m + v) hf := by
  rw [take_hex _ _ _ _ _ _ h, if_neg (by decide)]
set_option maxRecDepth 100000 in
set_option maxHeartbeats 6400000 in
theorem escape_bad {w : World} {g : Nat} {s : ByteArray} {L : Lm} {ro : Int} {O : List Vl} {tk : Nat} (st : St) (t : List UInt8) (hG : Gok w g s L ro O st.G.length tk) (p : Nat) (hs : s.size ≤ 140737488351232) (htk : tk ≤ p + 1) (hq1 : p < s.size) (hq2 : p < L.bytes)
    (hne : ∀ j, j < 8 → letL.getD j 0 ≠ s.toList.getD p 0) (hesc : escOf (s.toList.getD p 0) = none) (hu : ¬ s.toList.getD p 0 = 117) :
    Calls Tryd.prog 81 #[.pointer (some ⟨g, 0, none⟩), .int .i64 (p : Int)] w (RetEsc st t p g s L ro O w) := by
  have W := Lib.hid (gwant_yes hG (p : Int) p rfl hq1 hq2 hs htk)
  have HBD : Hid (RunsT s.toList L (sx st .esc t) p (.no 9 p false) (p + 1) st.G.length) := sx_bad (has_of hq1 hq2) (by rw [take_esc, hesc]; exact if_neg hu)
  have hb := byte_at s p hq1
  have e2 : (p : Int) < (s.size : Int) := by omega
  have e3 : (0 : Int) ≤ (p : Int) := by omega
  have e4 : (p : Int) ≤ 140737488351232 := by omega
  obtain ⟨y, hy⟩ : ∃ y, (s[p]).toNat = y := ⟨_, rfl⟩
  rw [hy] at hb
  have HK : Hid (∀ j, j < 8 → (letL.getD j 0).toNat ≠ y) := fun j hj e => hne j hj (UInt8.toNat_inj.1 (by rw [e, hb]))
  have e9 : ((y : Int) != 117) = true := by
    have : y ≠ 117 := fun e => hu (UInt8.toNat_inj.1 (by rw [← hb, e]; rfl))
    rw [bne, eqF (n := y) (c := 117) (by omega)]; rfl
  obtain ⟨fr, hfr⟩ : ∃ n, st.G.length = n := ⟨_, rfl⟩
  have HFR := Lib.hid hfr
  rw [hfr] at W
  clear hG hs htk hq2 hne hesc hb hfr hu
  go_enter Tryd.func81, Tryd.ntmps81
  go_wp2_with (go_at_call 43; refine W.out.mono ?_; rintro e w1 ⟨rfl, HG1, HB1⟩)
  obtain ⟨Ls, hLs⟩ : ∃ x : ByteArray, (⟨#[34, 92, 47, 98, 102, 110, 114, 116]⟩ : ByteArray) = x := ⟨_, rfl⟩
  have hLl : Ls.toList = letL := by rw [← hLs]; exact tl_mk [34, 92, 47, 98, 102, 110, 114, 116]
  have hL8 : Ls.size = 8 := by rw [← tl_size, hLl]; rfl
  have HLL := Lib.hid hLl
  rw [hLs]
  clear hLs hLl W
  go_loopw [9] (fun vi wr => ∃ i : Nat, vi = .int .i64 (i : Int) ∧ i ≤ 8 ∧ Hid (Gok wr g s L ro O fr (p + 1)) ∧ Hid (Fg g w wr)) (fun vi _ => 8 - (intOf vi).toNat)
  case atStart => exact ⟨0, rfl, Nat.zero_le _, HG1, HB1⟩
  case round =>
    obtain ⟨i, rfl, hik, HG, HB⟩ := hrel
    clear HG1 HB1
    have t0 := Gok.txt HG.out
    by_cases h4 : i < 8
    · have hiL : i < Ls.size := by omega
      have e5 : (i : Int) < 8 := by omega
      have e6 : (0 : Int) ≤ (i : Int) := by omega
      have hlb := byte_at Ls i hiL
      rw [HLL.out] at hlb
      obtain ⟨x, hx⟩ : ∃ x, (Ls[i]).toNat = x := ⟨_, rfl⟩
      rw [hx] at hlb
      have e7 : ((x : Int) == (y : Int)) = false := by
        rw [beq_eq_false_iff_ne]
        have := HK.out i h4
        omega
      have HI := Lib.hid h4
      clear h4 hik hlb
      go_wp2_with fail
      go_quiet (fail)
      go_wp2_with fail
      go_roundw
      case rel => exact ⟨i + 1, by go_num, by have := HI.out; omega, HG.out.drewN _, HB.out.trans (Fg.drewN _ _ _)⟩
      case measure => have h9 := HI.out; simp [intOf]; omega
    · obtain rfl : i = 8 := by omega
      rw [show (((8 : Nat) : Int)) = (8 : Int) from rfl]
      have e5 : ¬ (8 : Int) < 8 := by decide
      clear h4 hik
      go_wp2_with (go_at_call 45; refine (gfault16_ok HG.out _ _ p rfl).mono ?_; rintro e w2 ⟨rfl, HG2, HB2⟩)
      refine bodyPost_ret (v := .tuple #[.string ⟨#[]⟩, .int .i64 0, .bool false]) (by simp [results, Tryd.results81, go_sem]) rfl (.inr ⟨_, _, _, _, HBD.out, rfl, by rw [HFR.out]; exact HG2, HB.out.trans HB2.out⟩)
set_option maxRecDepth 100000 in
set_option maxHeartbeats 6400000 in
theorem escape_u {w : World} {g : Nat} {s : ByteArray} {L : Lm} {ro : Int} {O : List Vl} {tk : Nat} (st : St) (t : List UInt8) (hG : Gok w g s L ro O st.G.length tk) (p : Nat) (hs : s.size ≤ 140737488351232) (htk : tk ≤ p + 1) (hq1 : p < s.size) (hq2 : p < L.bytes)
    (hne : ∀ j, j < 8 → letL.getD j 0 ≠ s.toList.getD p 0) (hesc : escOf (s.toList.getD p 0) = none) (hu : s.toList.getD p 0 = 117) :
    Calls Tryd.prog 81 #[.pointer (some ⟨g, 0, none⟩), .int .i64 (p : Int)] w (RetEsc st t p g s L ro O w) := by
  have W := Lib.hid (gwant_yes hG (p : Int) p rfl hq1 hq2 hs htk)
  have HC0 : Hid (Cl s.toList L (sx st (.hex 4 0 0) t) (p + 1) (sx st .esc t) p) := sx_more (has_of hq1 hq2) (by rw [take_esc, hesc]; exact if_pos hu)
  have hb := byte_at s p hq1
  have e2 : (p : Int) < (s.size : Int) := by omega
  have e3 : (0 : Int) ≤ (p : Int) := by omega
  have e4 : (p : Int) ≤ 140737488351232 := by omega
  obtain ⟨y, hy⟩ : ∃ y, (s[p]).toNat = y := ⟨_, rfl⟩
  rw [hy] at hb
  have HK : Hid (∀ j, j < 8 → (letL.getD j 0).toNat ≠ y) := fun j hj e => hne j hj (UInt8.toNat_inj.1 (by rw [e, hb]))
  have e9 : y = 117 := by rw [hb, hu]; rfl
  obtain ⟨q1, z1⟩ : ∃ q, p + 1 = q := ⟨_, rfl⟩
  have k1 : (p : Int) + 1 = (q1 : Int) := by omega
  obtain ⟨q4, z4⟩ : ∃ q, p + 4 = q := ⟨_, rfl⟩
  have k4 : (p : Int) + 4 = (q4 : Int) := by omega
  obtain ⟨q5, z5⟩ : ∃ q, p + 5 = q := ⟨_, rfl⟩
  have k5 : (p : Int) + 5 = (q5 : Int) := by omega
  obtain ⟨q6, z6⟩ : ∃ q, p + 6 = q := ⟨_, rfl⟩
  have k6 : (p : Int) + 6 = (q6 : Int) := by omega
  obtain ⟨q7, z7⟩ : ∃ q, p + 7 = q := ⟨_, rfl⟩
  have k7 : (p : Int) + 7 = (q7 : Int) := by omega
  obtain ⟨q10, z10⟩ : ∃ q, p + 10 = q := ⟨_, rfl⟩
  have k10 : (p : Int) + 10 = (q10 : Int) := by omega
  obtain ⟨q11, z11⟩ : ∃ q, p + 11 = q := ⟨_, rfl⟩
  have k11 : (p : Int) + 11 = (q11 : Int) := by omega
  have HP : Hid (p + 1 = q1 ∧ p + 4 = q4 ∧ p + 5 = q5 ∧ p + 6 = q6 ∧ p + 7 = q7 ∧ p + 10 = q10 ∧ p + 11 = q11) := ⟨z1, z4, z5, z6, z7, z10, z11⟩
  have FO := Lib.hid (fun (w' : World) (hf q tk : Nat) (h : Gok w' g s L ro O st.G.length tk) (h1 : tk ≤ q + 1) (h2 : q ≤ p + 7) => four_any st t hf h q hs h1 (by omega))
  have IS := Lib.hid (fun (w' : World) (tk' q : Nat) (c : UInt8) (h : Gok w' g s L ro O st.G.length tk') (h2 : tk' ≤ q + 1) => is_any h q c hs h2)
  have SG := Lib.hid (fun (n : Nat) (h : n ≤ 1114111) (w' : World) => rsign_any n h w')
  obtain ⟨fr, hfr⟩ : ∃ n, st.G.length = n := ⟨_, rfl⟩
  have HFR := Lib.hid hfr
  rw [hfr] at W FO IS
  clear z1 z4 z5 z6 z7 z10 z11
  clear hG hs htk hq2 hne hesc hb hfr hu
  go_enter Tryd.func81, Tryd.ntmps81
  go_wp2_with (go_at_call 43; refine W.out.mono ?_; rintro e w1 ⟨rfl, HG1, HB1⟩)
  obtain ⟨Ls, hLs⟩ : ∃ x : ByteArray, (⟨#[34, 92, 47, 98, 102, 110, 114, 116]⟩ : ByteArray) = x := ⟨_, rfl⟩
  have hLl : Ls.toList = letL := by rw [← hLs]; exact tl_mk [34, 92, 47, 98, 102, 110, 114, 116]
  have hL8 : Ls.size = 8 := by rw [← tl_size, hLl]; rfl
  have HLL := Lib.hid hLl
  rw [hLs]
  clear hLs hLl W
  go_loopw [9] (fun vi wr => ∃ i : Nat, vi = .int .i64 (i : Int) ∧ i ≤ 8 ∧ Hid (Gok wr g s L ro O fr (p + 1)) ∧ Hid (Fg g w wr)) (fun vi _ => 8 - (intOf vi).toNat)
  case atStart => exact ⟨0, rfl, Nat.zero_le _, HG1, HB1⟩
  case round =>
    obtain ⟨i, rfl, hik, HG, HB⟩ := hrel
    clear HG1 HB1
    have t0 := Gok.txt HG.out
    by_cases h4 : i < 8
    · have hiL : i < Ls.size := by omega
      have e5 : (i : Int) < 8 := by omega
      have e6 : (0 : Int) ≤ (i : Int) := by omega
      have hlb := byte_at Ls i hiL
      rw [HLL.out] at hlb
      obtain ⟨x, hx⟩ : ∃ x, (Ls[i]).toNat = x := ⟨_, rfl⟩
      rw [hx] at hlb
      have e7 : ((x : Int) == (y : Int)) = false := by
        rw [beq_eq_false_iff_ne]
        have := HK.out i h4
        omega
      have HI := Lib.hid h4
      clear h4 hik hlb
      go_wp2_with fail
      go_quiet (fail)
      go_wp2_with fail
      go_roundw
      case rel => exact ⟨i + 1, by go_num, by have := HI.out; omega, HG.out.drewN _, HB.out.trans (Fg.drewN _ _ _)⟩
      case measure => have h9 := HI.out; simp [intOf]; omega
    · obtain rfl : i = 8 := by omega
      rw [show (((8 : Nat) : Int)) = (8 : Int) from rfl]
      have e5 : ¬ (8 : Int) < 8 := by decide
      subst e9
      clear h4 hik
      go_wp2_with fail
      have F1 := Lib.hid (FO.out wr 0 q1 (p + 1) HG.out (by have := HP.out.1; omega) (by have := HP.out.1; omega))
      refine F1.out.mono ?_
      rintro e w2 (⟨m, v, hh3, hv3, hn, hcl, rfl, HG2, HB2⟩ | ⟨c, q, b, tk2, hrun, rfl, HG2, HB2⟩)
      · obtain ⟨n, hnn⟩ : ∃ n, 16 * m + v = n := ⟨_, rfl⟩
        have htake := take_hex1 m 0 v t _ hv3
        rw [hnn] at htake hn
        rw [hnn]
        have hC1 : Cl s.toList L (sx st (.hex 1 m 0) t) (q1 + 3) (sx st .esc t) p := Cl.trans hcl (by have := HC0.out; rw [HP.out.1] at this; exact this)
        have HB12 := Lib.hid (HB.out.trans HB2.out)
        rw [HFR.out] at HG2
        by_cases r1 : 56320 ≤ n ∧ n ≤ 57343
        · have HBD : Hid (RunsT s.toList L (sx st .esc t) p (.no 9 q4 false) (q4 + 1) st.G.length) := by
            have h9 := hC1 _ _ _ (sx_bad hh3 (by rw [htake]; exact numbered_bad0 t n r1.1 r1.2))
            rw [show q1 + 3 = q4 by have := HP.out; omega] at h9
            exact h9
          have r2 : (56320 : Int) ≤ (n : Int) := by omega
          have r3 : (n : Int) ≤ 57343 := by omega
          have HG3 : Hid (Gok w2 g s L ro O fr (q4 + 1)) := by have h9 := HG2.out; rw [show q1 + 4 = q4 + 1 by have := HP.out; omega] at h9; exact h9
          clear r1 hh3 hv3 hn hcl hnn htake hC1 t0
          go_wp2_with (go_at_call 45; refine (gfault16_ok HG3.out _ _ q4 rfl).mono ?_; rintro e w3 ⟨rfl, HG4, HB4⟩)
          refine bodyPost_ret (v := .tuple #[.string ⟨#[]⟩, .int .i64 0, .bool false]) (by simp [results, Tryd.results81, go_sem]) rfl (.inr ⟨_, _, _, _, HBD.out, rfl, by rw [HFR.out]; exact HG4, HB12.out.trans HB4.out⟩)
        by_cases r4 : n < 55296 ∨ 57343 < n
        · have HCL : Hid (Cl s.toList L (sx st .plain (t ++ (⟨(enc8 n).toArray⟩ : ByteArray).toList)) q5 (sx st .esc t) p) := by
            have h9 := Cl.trans (sx_more hh3 (by rw [htake]; exact numbered_plain t n r4)) hC1
            rw [show q1 + 3 + 1 = q5 by have := HP.out; omega] at h9
            rw [tl_mk (enc8 n)]
            exact h9
          have hsz : (⟨(enc8 n).toArray⟩ : ByteArray).size ≤ 4 := by rw [← tl_size, tl_mk]; exact (enc8_len n).2
          have HSZ := Lib.hid hsz
          have HG3 : Hid (Gok w2 g s L ro O fr q5) := by have h9 := HG2.out; rw [show q1 + 4 = q5 by have := HP.out; omega] at h9; exact h9
          have S1 := Lib.hid (SG.out n (by omega) w2)
          have hlt3 := HG3.out.lt
          have HLT3 := Lib.hid hlt3
          have hp5 : p < q5 := by have := HP.out; omega
          have HP5 := Lib.hid hp5
          clear r1 hh3 hv3 hn hcl hnn htake hC1 t0 hsz hlt3 hp5
          rcases r4 with r4 | r4
          · have r5 : ¬ (56320 : Int) ≤ (n : Int) := by omega
            have r5b : decide ((56320 : Int) ≤ (n : Int)) = false := decide_eq_false r5
            have r6 : (n : Int) < 55296 := by omega
            clear r4
            go_wp2_with fail
            refine S1.out.mono ?_
            rintro e w3 ⟨rfl, hb3⟩
            have HG4 := Lib.hid (HG3.out.below hb3)
            have HB4 : Hid (Fg g w w3) := HB12.out.trans (Fg.of hb3 (Nat.le_of_lt HLT3.out))
            clear hb3
            go_wp2_with fail
            refine bodyPost_ret (v := .tuple #[.string ⟨(enc8 n).toArray⟩, .int .i64 (q5 : Int), .bool true]) (by simp [results, Tryd.results81, go_sem]) rfl (.inl ⟨⟨(enc8 n).toArray⟩, q5, HP5.out, HSZ.out, HCL.out, rfl, by rw [HFR.out]; exact HG4, HB4⟩)
          · have r5 : (56320 : Int) ≤ (n : Int) := by omega
            have r6 : ¬ (n : Int) ≤ 57343 := by omega
            have r7 : ¬ (n : Int) < 55296 := by omega
            have r8 : (56319 : Int) < (n : Int) := by omega
            clear r4
            go_wp2_with fail
            refine S1.out.mono ?_
            rintro e w3 ⟨rfl, hb3⟩
            have HG4 := Lib.hid (HG3.out.below hb3)
            have HB4 : Hid (Fg g w w3) := HB12.out.trans (Fg.of hb3 (Nat.le_of_lt HLT3.out))
            clear hb3
            go_wp2_with fail
            refine bodyPost_ret (v := .tuple #[.string ⟨(enc8 n).toArray⟩, .int .i64 (q5 : Int), .bool true]) (by simp [results, Tryd.results81, go_sem]) rfl (.inl ⟨⟨(enc8 n).toArray⟩, q5, HP5.out, HSZ.out, HCL.out, rfl, by rw [HFR.out]; exact HG4, HB4⟩)
        have r5 : ¬ (56320 : Int) ≤ (n : Int) := by omega
        have r6 : ¬ (n : Int) < 55296 := by omega
        have r7 : ¬ (56319 : Int) < (n : Int) := by omega
        have r5b : decide ((56320 : Int) ≤ (n : Int)) = false := decide_eq_false r5
        have r6b : decide ((n : Int) < 55296) = false := decide_eq_false r6
        have r7b : decide ((56319 : Int) < (n : Int)) = false := decide_eq_false r7
        have HCS : Hid (Cl s.toList L (sx st (.slash n) t) q5 (sx st .esc t) p) := by
          have h9 := Cl.trans (sx_more hh3 (by rw [htake]; exact numbered_slash t n (by omega) (by omega))) hC1
          rw [show q1 + 3 + 1 = q5 by have := HP.out; omega] at h9
          exact h9
        have HN : Hid (55296 ≤ n ∧ n ≤ 56319) := ⟨by omega, by omega⟩
        have HG3 : Hid (Gok w2 g s L ro O fr q5) := by have h9 := HG2.out; rw [show q1 + 4 = q5 by have := HP.out; omega] at h9; exact h9
        have I1 := Lib.hid (IS.out w2 q5 q5 92 HG3.out (by omega))
        clear r1 r4 hh3 hv3 hn hcl hnn htake hC1 t0
        go_wp2_with fail
        refine I1.out.mono ?_
        rintro e w3 (⟨h5, h5b, rfl, HG5, HB5⟩ | ⟨h5, h5b, rfl, HG5, HB5⟩ | ⟨h5, rfl, HG5, HB5⟩)
        · have HCM : Hid (Cl s.toList L (sx st (.mark n) t) q6 (sx st .esc t) p) := by
            have h9 := Cl.trans (sx_more (m := .slash n) (m' := .mark n) (t := t) (t' := t) h5 (by rw [h5b]; rfl)) HCS.out
            rw [show q5 + 1 = q6 by have := HP.out; omega] at h9
            exact h9
          have HG6 : Hid (Gok w3 g s L ro O fr q6) := by have h9 := HG5.out; rw [show q5 + 1 = q6 by have := HP.out; omega] at h9; exact h9
          have I2 := Lib.hid (IS.out w3 q6 q6 117 HG6.out (by omega))
          have HB13 := Lib.hid (HB12.out.trans HB5.out)
          clear h5 h5b
          go_wp2_with fail
          refine I2.out.mono ?_
          rintro e w4 (⟨h6, h6b, rfl, HG7, HB7⟩ | ⟨h6, h6b, rfl, HG7, HB7⟩ | ⟨h6, rfl, HG7, HB7⟩)
          · have HCH : Hid (Cl s.toList L (sx st (.hex 4 0 n) t) q7 (sx st .esc t) p) := by
              have h9 := Cl.trans (sx_more (m := .mark n) (m' := .hex 4 0 n) (t := t) (t' := t) h6 (by rw [h6b]; rfl)) HCM.out
              rw [show q6 + 1 = q7 by have := HP.out; omega] at h9
              exact h9
            have HG8 : Hid (Gok w4 g s L ro O fr q7) := by have h9 := HG7.out; rw [show q6 + 1 = q7 by have := HP.out; omega] at h9; exact h9
            have F2 := Lib.hid (FO.out w4 n q7 q7 HG8.out (by omega) (by have := HP.out; omega))
            have HB14 := Lib.hid (HB13.out.trans HB7.out)
            clear h6 h6b
            go_wp2_with fail
            refine F2.out.mono ?_
            rintro e w5 (⟨m2, v2, hh10, hv10, hn2, hcl2, rfl, HG9, HB9⟩ | ⟨c, q, b, tk2, hrun, rfl, HG9, HB9⟩)
            · obtain ⟨n2, hnn2⟩ : ∃ n, 16 * m2 + v2 = n := ⟨_, rfl⟩
              have htake2 := take_hex1 m2 n v2 t _ hv10
              rw [hnn2] at htake2 hn2
              rw [hnn2]
              have hC2 := Cl.trans hcl2 HCH.out
              have HB15 := Lib.hid (HB14.out.trans HB9.out)
              rw [HFR.out] at HG9
              by_cases u1 : n2 < 56320 ∨ 57343 < n2
              · have HBD : Hid (RunsT s.toList L (sx st .esc t) p (.no 9 q10 false) (q10 + 1) st.G.length) := by
                  have h9 := hC2 _ _ _ (sx_bad hh10 (by rw [htake2]; exact numbered_badh t n2 n (by have := HN.out; omega) u1))
                  rw [show q7 + 3 = q10 by have := HP.out; omega] at h9
                  exact h9
                have HG10 : Hid (Gok w5 g s L ro O fr (q10 + 1)) := by have h9 := HG9.out; rw [show q7 + 4 = q10 + 1 by have := HP.out; omega] at h9; exact h9
                clear hh10 hv10 hn2 hcl2 hnn2 htake2 hC2
                rcases u1 with u1 | u1
                · have u2 : (n2 : Int) < 56320 := by omega
                  clear u1
                  go_wp2_with (go_at_call 45; refine (gfault16_ok HG10.out _ _ q10 rfl).mono ?_; rintro e w6 ⟨rfl, HG11, HB11⟩)
                  refine bodyPost_ret (v := .tuple #[.string ⟨#[]⟩, .int .i64 0, .bool false]) (by simp [results, Tryd.results81, go_sem]) rfl (.inr ⟨_, _, _, _, HBD.out, rfl, by rw [HFR.out]; exact HG11, HB15.out.trans HB11.out⟩)
                · have u2 : ¬ (n2 : Int) < 56320 := by omega
                  have u3 : (57343 : Int) < (n2 : Int) := by omega
                  have u2b : decide ((n2 : Int) < 56320) = false := decide_eq_false u2
                  clear u1
                  go_wp2_with (go_at_call 45; refine (gfault16_ok HG10.out _ _ q10 rfl).mono ?_; rintro e w6 ⟨rfl, HG11, HB11⟩)
                  refine bodyPost_ret (v := .tuple #[.string ⟨#[]⟩, .int .i64 0, .bool false]) (by simp [results, Tryd.results81, go_sem]) rfl (.inr ⟨_, _, _, _, HBD.out, rfl, by rw [HFR.out]; exact HG11, HB15.out.trans HB11.out⟩)
              · obtain ⟨Z, hZ⟩ : ∃ Z, n2 + 65536 + (n - 55296) * 1024 - 56320 = Z := ⟨_, rfl⟩
                have HCL : Hid (Cl s.toList L (sx st .plain (t ++ (⟨(enc8 Z).toArray⟩ : ByteArray).toList)) q11 (sx st .esc t) p) := by
                  have h9 := Cl.trans (sx_more hh10 (by rw [htake2]; exact numbered_pair t n2 n (by have := HN.out; omega) (by omega) (by omega))) hC2
                  rw [show q7 + 3 + 1 = q11 by have := HP.out; omega, hZ] at h9
                  rw [tl_mk (enc8 Z)]
                  exact h9
                have hsz : (⟨(enc8 Z).toArray⟩ : ByteArray).size ≤ 4 := by rw [← tl_size, tl_mk]; exact (enc8_len Z).2
                have HSZ := Lib.hid hsz
                have HG10 : Hid (Gok w5 g s L ro O fr q11) := by have h9 := HG9.out; rw [show q7 + 4 = q11 by have := HP.out; omega] at h9; exact h9
                have S1 := Lib.hid (SG.out Z (by have := HN.out; omega) w5)
                have HLT3 := Lib.hid HG10.out.lt
                have hp11 : p < q11 := by have := HP.out; omega
                have HP5 := Lib.hid hp11
                have hZi : 65536 + ((n : Int) - 55296) * 1024 + (n2 : Int) - 56320 = (Z : Int) := by have := HN.out; omega
                have u2 : ¬ (n2 : Int) < 56320 := by omega
                have u3 : ¬ (57343 : Int) < (n2 : Int) := by omega
                have u2b : decide ((n2 : Int) < 56320) = false := decide_eq_false u2
                have u3b : decide ((57343 : Int) < (n2 : Int)) = false := decide_eq_false u3
                have u4 : (n2 : Int) ≤ 57343 := by omega
                have u5 : (n : Int) ≤ 56319 := by have := HN.out; omega
                have u6 : (55296 : Int) ≤ (n : Int) := by have := HN.out; omega
                clear hh10 hv10 hn2 hcl2 hnn2 htake2 hC2 hsz hp11 hZ u1
                go_wp2_with fail
                refine S1.out.mono ?_
                rintro e w6 ⟨rfl, hb3⟩
                have HG4 := Lib.hid (HG10.out.below hb3)
                have HB4 : Hid (Fg g w w6) := HB15.out.trans (Fg.of hb3 (Nat.le_of_lt HLT3.out))
                clear hb3
                go_wp2_with fail
                refine bodyPost_ret (v := .tuple #[.string ⟨(enc8 Z).toArray⟩, .int .i64 (q11 : Int), .bool true]) (by simp [results, Tryd.results81, go_sem]) rfl (.inl ⟨⟨(enc8 Z).toArray⟩, q11, HP5.out, HSZ.out, HCL.out, rfl, by rw [HFR.out]; exact HG4, HB4⟩)
            · have HBD := Lib.hid (HCH.out _ _ _ hrun)
              have HB15 := Lib.hid (HB14.out.trans HB9.out)
              rw [HFR.out] at HG9
              clear hrun
              go_wp2_with fail
              refine bodyPost_ret (v := .tuple #[.string ⟨#[]⟩, .int .i64 0, .bool false]) (by simp [results, Tryd.results81, go_sem]) rfl (.inr ⟨_, _, _, _, HBD.out, rfl, by rw [HFR.out]; exact HG9, HB15⟩)
          · have HBD := Lib.hid (HCM.out _ _ _ (sx_bad (m := .mark n) (t := t) h6 (by show (if s.toList.getD q6 0 = 117 then _ else Sr.bad) = _; rw [if_neg h6b])))
            clear h6 h6b
            go_wp2_with fail
            refine bodyPost_ret (v := .tuple #[.string ⟨#[]⟩, .int .i64 0, .bool false]) (by simp [results, Tryd.results81, go_sem]) rfl (.inr ⟨_, _, _, _, HBD.out, rfl, by rw [HFR.out]; exact HG7, HB13.out.trans HB7.out⟩)
          · have HBD := Lib.hid (HCM.out _ _ _ (sx_lack (m := .mark n) (t := t) h6))
            clear h6
            go_wp2_with fail
            refine bodyPost_ret (v := .tuple #[.string ⟨#[]⟩, .int .i64 0, .bool false]) (by simp [results, Tryd.results81, go_sem]) rfl (.inr ⟨_, _, _, _, HBD.out, rfl, by rw [HFR.out]; exact HG7, HB13.out.trans HB7.out⟩)
        · have HBD := Lib.hid (HCS.out _ _ _ (sx_bad (m := .slash n) (t := t) h5 (by show (if s.toList.getD q5 0 = 92 then _ else Sr.bad) = _; rw [if_neg h5b])))
          clear h5 h5b
          go_wp2_with fail
          refine bodyPost_ret (v := .tuple #[.string ⟨#[]⟩, .int .i64 0, .bool false]) (by simp [results, Tryd.results81, go_sem]) rfl (.inr ⟨_, _, _, _, HBD.out, rfl, by rw [HFR.out]; exact HG5, HB12.out.trans HB5.out⟩)
        · have HBD := Lib.hid (HCS.out _ _ _ (sx_lack (m := .slash n) (t := t) h5))
          clear h5
          go_wp2_with fail
          refine bodyPost_ret (v := .tuple #[.string ⟨#[]⟩, .int .i64 0, .bool false]) (by simp [results, Tryd.results81, go_sem]) rfl (.inr ⟨_, _, _, _, HBD.out, rfl, by rw [HFR.out]; exact HG5, HB12.out.trans HB5.out⟩)
      · have HBD : Hid (RunsT s.toList L (sx st .esc t) p (.no c q b) tk2 st.G.length) := by
          have h9 := HC0.out
          rw [HP.out.1] at h9
          exact h9 _ _ _ hrun
        have HB12 := Lib.hid (HB.out.trans HB2.out)
        rw [HFR.out] at HG2
        clear hrun t0
        go_wp2_with fail
        refine bodyPost_ret (v := .tuple #[.string ⟨#[]⟩, .int .i64 0, .bool false]) (by simp [results, Tryd.results81, go_sem]) rfl (.inr ⟨_, _, _, _, HBD.out, rfl, by rw [HFR.out]; exact HG2, HB12⟩)
theorem escape_any {w : World} {g : Nat} {s : ByteArray} {L : Lm} {ro : Int} {O : List Vl} {tk : Nat} (st : St) (t : List UInt8) (hG : Gok w g s L ro O st.G.length tk) (p : Nat) (hs : s.size ≤ 140737488351232) (htk : tk ≤ p + 1) :
    Calls Tryd.prog 81 #[.pointer (some ⟨g, 0, none⟩), .int .i64 (p : Int)] w (RetEsc st t p g s L ro O w) := by
  by_cases h1 : p < s.size ∧ p < L.bytes
  · rcases esc_cases (s.toList.getD p 0) with ⟨k, hk, hlk, hne, hesc⟩ | ⟨hne, hesc⟩
    · exact escape_some st t hG p hs htk h1.1 h1.2 k hk hlk hne hesc
    · by_cases hu : s.toList.getD p 0 = 117
      · exact escape_u st t hG p hs htk h1.1 h1.2 hne hesc hu
      · exact escape_bad st t hG p hs htk h1.1 h1.2 hne hesc hu
  · exact escape_lack st t hG p h1
end Jr
end Go.Proofs.YtilfidcomeandaaDoor
namespace Go.Proofs.YtilfidcomeandaaDoor
open Go.RowKit
set_option linter.unusedVariables false
set_option linter.unusedSimpArgs false
namespace Jr
open Js
open Co (utfP utf_any)
open Dr (Rs Lm has lack lackE lackP)
theorem cvt_at {w : World} {g cap : Nat} {l : List UInt8} (h : At w g 0 (bcells l)) (n : Nat) (hn : l.length = n) : (convert 66 9 (.slice (some ⟨g, 0, none⟩) n cap)).run Tryd.prog w = .ok (.string ⟨l.toArray⟩) w := by
  subst hn
  refine run_convert_bytes_back w 66 9 5 ⟨g, 0, none⟩ cap l Tryd.underlying66 Tryd.underlying5 Tryd.underlying9 fun j hj => ?_
  have hc := h.cell j _ (bcells_get l j hj)
  have : (⟨g, 0, none⟩ : Addr).add j = ⟨g, j, none⟩ := by unfold Addr.add; split <;> simp_all
  rw [this]
  rw [Nat.zero_add] at hc
  exact hc
theorem idx0 (w : World) : (Instr.index 138 (.agg #[.int .u8 128, .int .u8 191, .int .u8 144, .int .u8 160]) (.int .i64 0)).run Tryd.prog w = .ok (.int .u8 128) w := by kernel_rfl
theorem idx1 (w : World) : (Instr.index 138 (.agg #[.int .u8 128, .int .u8 191, .int .u8 144, .int .u8 160]) (.int .i64 1)).run Tryd.prog w = .ok (.int .u8 191) w := by kernel_rfl
theorem idx2 (w : World) : (Instr.index 138 (.agg #[.int .u8 128, .int .u8 191, .int .u8 144, .int .u8 160]) (.int .i64 2)).run Tryd.prog w = .ok (.int .u8 144) w := by kernel_rfl
theorem idx3 (w : World) : (Instr.index 138 (.agg #[.int .u8 128, .int .u8 191, .int .u8 144, .int .u8 160]) (.int .i64 3)).run Tryd.prog w = .ok (.int .u8 160) w := by kernel_rfl
def RetBeg (S : ByteArray) (w : World) (e : Ending) (w' : World) : Prop := ∃ b : Bool, e = .returned (.bool b) ∧ (b = true ↔ begS S.toList) ∧ Below w.heap.size w w'
set_option maxRecDepth 100000 in
set_option maxHeartbeats 6400000 in
theorem begins_any (S : ByteArray) (hS : S.size ≤ 4) (w : World) : Calls Tryd.prog 93 #[.string S] w (RetBeg S w) := by
  obtain ⟨i0, hi, hz0, hz1, hz2⟩ := info_parts info5
  obtain ⟨z, hz⟩ : ∃ z, S.size = z := ⟨_, rfl⟩
  have hzi : (S.size : Int) = (z : Int) := by omega
  have HZ := Lib.hid (And.intro hz (show z ≤ 4 by omega))
  have UT := Lib.hid (fun s w => utf_any s w)
  obtain ⟨l, hl⟩ : ∃ l, S.toList = l := ⟨_, rfl⟩
  have HL := Lib.hid (And.intro hl (show l.length = z by rw [← hl, tl_size, hz]))
  clear hz hS hl
  go_enter Tryd.func93, Tryd.ntmps93
  go_wp2_with fail
  go_loopw [3] (fun vn wr => ∃ n : Nat, vn = .int .i64 (n : Int) ∧ z ≤ n ∧ n ≤ 5 ∧ Hid (∀ m, z ≤ m → m < n → ∀ f ∈ fillsS, utfP (l ++ List.replicate (m - z) f) ≠ m) ∧ Hid (Below w.heap.size w wr)) (fun vn _ => 5 - (intOf vn).toNat)
  case atStart => exact ⟨z, rfl, Nat.le_refl _, by have := HZ.out.2; omega, fun m h1 h2 => by omega, Below.refl _ _⟩
  case round =>
    obtain ⟨n, rfl, hzn, hn5, HN, HB⟩ := hrel
    clear hzi
    by_cases hn4 : n ≤ 4
    · have e1 : (n : Int) ≤ 4 := by omega
      have HNN : Hid (z ≤ n ∧ n ≤ 4) := ⟨hzn, hn4⟩
      clear hzn hn5 hn4
      go_wp2_with fail
      go_loopw [14] (fun vk wq => ∃ k : Nat, vk = .int .i64 (k : Int) ∧ k ≤ 4 ∧ Hid (∀ j, j < k → utfP (l ++ List.replicate (n - z) (fillsS.getD j 0)) ≠ n) ∧ Hid (Below w.heap.size w wq)) (fun vk _ => 4 - (intOf vk).toNat)
      case atStart => exact ⟨0, rfl, Nat.zero_le _, fun j h => absurd h (Nat.not_lt_zero _), HB⟩
      case round =>
        rename World => wq
        obtain ⟨k, rfl, hk4, HK, HB2⟩ := hrel
        clear HB
        rcases (by omega : k = 4 ∨ k = 0 ∨ k = 1 ∨ k = 2 ∨ k = 3) with rfl | rfl | rfl | rfl | rfl
        · rw [show (((4 : Nat) : Int)) = (4 : Int) from rfl]
          have HN2 : Hid (∀ m, z ≤ m → m < n + 1 → ∀ f ∈ fillsS, utfP (l ++ List.replicate (m - z) f) ≠ m) := by
            intro m h1 h2 f hf
            by_cases hm : m < n
            · exact HN.out m h1 hm f hf
            · obtain rfl : m = n := by omega
              have h4 : f = 128 ∨ f = 191 ∨ f = 144 ∨ f = 160 := by simpa [fillsS] using hf
              rcases h4 with rfl | rfl | rfl | rfl
              · exact HK.out 0 (by decide)
              · exact HK.out 1 (by decide)
              · exact HK.out 2 (by decide)
              · exact HK.out 3 (by decide)
          clear hk4
          go_wp2_with fail
          go_roundw
          case rel => exact ⟨n + 1, by go_num, by have := HNN.out; omega, by have := HNN.out; omega, HN2, HB2⟩
          case measure => have h9 := HNN.out; simp [intOf]; omega
        · rw [show (((0 : Nat) : Int)) = (0 : Int) from rfl]
          clear hk4
          obtain ⟨B, hB⟩ : ∃ B, wq.heap.size = B := ⟨_, rfl⟩
          have hix := idx0
          go_wp2_with (refine wpList_bytes_bag _ rfl (.tmp 17) 9 66 5 rfl Tryd.underlying9 Tryd.underlying66 Tryd.underlying5 S rfl B (Nat.le_of_eq hB.symm) ?_; intro v0 w1 hbag hbel; have HBAG := Lib.hid hbag; have HBEL := Lib.hid hbel; clear hbag hbel)
          have HB3 : Hid (Bag w1 B v0 (l ++ List.replicate 0 (128 : UInt8)) ∧ B ≤ w1.heap.size) := by
            refine ⟨by rw [List.replicate_zero, List.append_nil, ← HL.out.1]; exact HBAG.out, by have := HBEL.out.size; omega⟩
          have HBB := Lib.hid hB
          clear hB HBAG
          go_loopg [6] (5 : Nat) (fun gk v wi => ∃ j : Nat, Hid (j + z ≤ n ∧ n - j < gk + z) ∧ Hid (Bag wi B v (l ++ List.replicate j (128 : UInt8)) ∧ B ≤ wi.heap.size) ∧ Hid (Below B wq wi))
          case atStart => exact ⟨0, ⟨by have := HNN.out; omega, by have := HNN.out; omega⟩, HB3, HBEL⟩
          case round =>
            rename World => wi
            obtain ⟨j, HJ, HBG, HBL⟩ := hrel
            clear HB3 HBEL
            obtain ⟨N, hN⟩ : ∃ N, z + j = N := ⟨_, rfl⟩
            have hlen : (l ++ List.replicate j (128 : UInt8)).length = N := by rw [List.length_append, List.length_replicate, HL.out.2, hN]
            obtain ⟨gq, cap, hv, hA⟩ := HBG.out.1.is
            subst hv
            by_cases hlt : N < n
            · have e2 : (N : Int) < (n : Int) := by omega
              have HLEN := Lib.hid (And.intro hlen (And.intro hN hlt))
              rw [hlen] at HBG
              rw [hlen]
              clear hA hlen hlt hN
              go_wp2_with (at_builtin; refine wpList_append_bag _ rfl (.tmp 23) (.tmp 25) 66 rfl 5 i0 Tryd.underlying66 hi hz0 hz1 hz2 _ B (l ++ List.replicate j (128 : UInt8)) rfl (HBG.out.1.alloc _) wi.heap.size rfl (128 : UInt8) ((At.ofAlloc wi #[Value.int .u8 128] 5).cell 0 _ rfl) (by have := HBG.out.2; simp; omega) (by rw [HLEN.out.1]; have := HLEN.out.2.2; have := HNN.out.2; omega) ?_; intro v' w2 hbag2 hbel2; have HBAG2 := Lib.hid hbag2; have HBEL2 := Lib.hid hbel2; clear hbag2 hbel2)
              have HNX : Hid (Bag w2 B v' (l ++ List.replicate (j + 1) (128 : UInt8)) ∧ B ≤ w2.heap.size) := by
                refine ⟨?_, by have h8 := HBEL2.out.size; have h7 := HBG.out.2; simp at h8; omega⟩
                have h9 := HBAG2.out
                rw [List.append_assoc, ← List.replicate_succ'] at h9
                exact h9
              have HBN : Hid (Below B wq w2) := (HBL.out.alloc HBG.out.2 (Obj.cells #[Value.int .u8 128] 5)).trans HBEL2.out
              go_roundg (n - (j + 1) - z + 1)
              case measure => have := HJ.out; have := HLEN.out.2; omega
              case rel => exact ⟨j + 1, ⟨by have := HLEN.out.2; omega, by have := HLEN.out.2; omega⟩, HNX, HBN⟩
            · obtain rfl : N = n := by have := HJ.out; omega
              have e2 : ¬ (N : Int) < (N : Int) := by omega
              have hcv := cvt_at (cap := cap) hA N hlen
              have U1 := Lib.hid (UT.out ⟨(l ++ List.replicate j (128 : UInt8)).toArray⟩ wi)
              rw [tl_mk] at U1
              have HLEN := Lib.hid (And.intro hlen hN)
              have HBQ : Hid (Below w.heap.size w wi) := HB2.out.trans (HBL.out.mono (by have := HBB.out; have := HB2.out.size; omega))
              obtain ⟨uu, huu⟩ : ∃ uu, utfP (l ++ List.replicate j (128 : UInt8)) = uu := ⟨_, rfl⟩
              obtain ⟨YY, hYY⟩ : ∃ YY : ByteArray, (⟨(l ++ List.replicate j (128 : UInt8)).toArray⟩ : ByteArray) = YY := ⟨_, rfl⟩
              rw [huu, hYY] at U1
              rw [hYY] at hcv
              rw [hlen]
              have HUU := Lib.hid huu
              clear hA hlen hlt hN huu hYY
              go_wp2_with fail
              refine U1.out.mono ?_
              rintro e w3 ⟨rfl, hb3⟩
              have HB4 : Hid (Below w.heap.size w w3) := HBQ.out.trans (hb3.mono HBQ.out.size)
              clear hb3 hcv
              by_cases hun : uu = N
              · subst hun
                have HBS : Hid (begS S.toList) := ⟨uu, by rw [HL.out.1, HL.out.2]; exact HNN.out.1, HNN.out.2, (128 : UInt8), by decide, by rw [HL.out.1, HL.out.2, show uu - z = j by have := HLEN.out.2; omega]; exact HUU.out⟩
                go_wp2_with fail
                go_ret
                exact ⟨true, rfl, ⟨fun _ => HBS.out, fun _ => rfl⟩, HB4.out⟩
              · have e3 : ((uu : Int) == (N : Int)) = false := by rw [beq_eq_false_iff_ne]; omega
                have HNE : Hid (∀ i, i < 0 + 1 → utfP (l ++ List.replicate (N - z) (fillsS.getD i 0)) ≠ N) := by
                  intro i hi
                  by_cases h9 : i < 0
                  · exact HK.out i h9
                  · obtain rfl : i = 0 := by omega
                    show utfP (l ++ List.replicate (N - z) (128 : UInt8)) ≠ N
                    rw [show N - z = j by have := HLEN.out.2; omega, HUU.out]
                    exact hun
                clear hun
                go_wp2_with fail
                go_roundw
                case rel => exact ⟨0 + 1, by go_num, by decide, HNE, HB4⟩
                case measure => simp [intOf]
        · rw [show (((1 : Nat) : Int)) = (1 : Int) from rfl]
          clear hk4
          obtain ⟨B, hB⟩ : ∃ B, wq.heap.size = B := ⟨_, rfl⟩
          have hix := idx1
          go_wp2_with (refine wpList_bytes_bag _ rfl (.tmp 17) 9 66 5 rfl Tryd.underlying9 Tryd.underlying66 Tryd.underlying5 S rfl B (Nat.le_of_eq hB.symm) ?_; intro v0 w1 hbag hbel; have HBAG := Lib.hid hbag; have HBEL := Lib.hid hbel; clear hbag hbel)
          have HB3 : Hid (Bag w1 B v0 (l ++ List.replicate 0 (191 : UInt8)) ∧ B ≤ w1.heap.size) := by
            refine ⟨by rw [List.replicate_zero, List.append_nil, ← HL.out.1]; exact HBAG.out, by have := HBEL.out.size; omega⟩
          have HBB := Lib.hid hB
          clear hB HBAG
          go_loopg [6] (5 : Nat) (fun gk v wi => ∃ j : Nat, Hid (j + z ≤ n ∧ n - j < gk + z) ∧ Hid (Bag wi B v (l ++ List.replicate j (191 : UInt8)) ∧ B ≤ wi.heap.size) ∧ Hid (Below B wq wi))
          case atStart => exact ⟨0, ⟨by have := HNN.out; omega, by have := HNN.out; omega⟩, HB3, HBEL⟩
          case round =>
            rename World => wi
            obtain ⟨j, HJ, HBG, HBL⟩ := hrel
            clear HB3 HBEL
            obtain ⟨N, hN⟩ : ∃ N, z + j = N := ⟨_, rfl⟩
            have hlen : (l ++ List.replicate j (191 : UInt8)).length = N := by rw [List.length_append, List.length_replicate, HL.out.2, hN]
            obtain ⟨gq, cap, hv, hA⟩ := HBG.out.1.is
            subst hv
            by_cases hlt : N < n
            · have e2 : (N : Int) < (n : Int) := by omega
              have HLEN := Lib.hid (And.intro hlen (And.intro hN hlt))
              rw [hlen] at HBG
              rw [hlen]
              clear hA hlen hlt hN
              go_wp2_with (at_builtin; refine wpList_append_bag _ rfl (.tmp 23) (.tmp 25) 66 rfl 5 i0 Tryd.underlying66 hi hz0 hz1 hz2 _ B (l ++ List.replicate j (191 : UInt8)) rfl (HBG.out.1.alloc _) wi.heap.size rfl (191 : UInt8) ((At.ofAlloc wi #[Value.int .u8 191] 5).cell 0 _ rfl) (by have := HBG.out.2; simp; omega) (by rw [HLEN.out.1]; have := HLEN.out.2.2; have := HNN.out.2; omega) ?_; intro v' w2 hbag2 hbel2; have HBAG2 := Lib.hid hbag2; have HBEL2 := Lib.hid hbel2; clear hbag2 hbel2)
              have HNX : Hid (Bag w2 B v' (l ++ List.replicate (j + 1) (191 : UInt8)) ∧ B ≤ w2.heap.size) := by
                refine ⟨?_, by have h8 := HBEL2.out.size; have h7 := HBG.out.2; simp at h8; omega⟩
                have h9 := HBAG2.out
                rw [List.append_assoc, ← List.replicate_succ'] at h9
                exact h9
              have HBN : Hid (Below B wq w2) := (HBL.out.alloc HBG.out.2 (Obj.cells #[Value.int .u8 191] 5)).trans HBEL2.out
              go_roundg (n - (j + 1) - z + 1)
              case measure => have := HJ.out; have := HLEN.out.2; omega
              case rel => exact ⟨j + 1, ⟨by have := HLEN.out.2; omega, by have := HLEN.out.2; omega⟩, HNX, HBN⟩
            · obtain rfl : N = n := by have := HJ.out; omega
              have e2 : ¬ (N : Int) < (N : Int) := by omega
              have hcv := cvt_at (cap := cap) hA N hlen
              have U1 := Lib.hid (UT.out ⟨(l ++ List.replicate j (191 : UInt8)).toArray⟩ wi)
              rw [tl_mk] at U1
              have HLEN := Lib.hid (And.intro hlen hN)
              have HBQ : Hid (Below w.heap.size w wi) := HB2.out.trans (HBL.out.mono (by have := HBB.out; have := HB2.out.size; omega))
              obtain ⟨uu, huu⟩ : ∃ uu, utfP (l ++ List.replicate j (191 : UInt8)) = uu := ⟨_, rfl⟩
              obtain ⟨YY, hYY⟩ : ∃ YY : ByteArray, (⟨(l ++ List.replicate j (191 : UInt8)).toArray⟩ : ByteArray) = YY := ⟨_, rfl⟩
              rw [huu, hYY] at U1
              rw [hYY] at hcv
              rw [hlen]
              have HUU := Lib.hid huu
              clear hA hlen hlt hN huu hYY
              go_wp2_with fail
              refine U1.out.mono ?_
              rintro e w3 ⟨rfl, hb3⟩
              have HB4 : Hid (Below w.heap.size w w3) := HBQ.out.trans (hb3.mono HBQ.out.size)
              clear hb3 hcv
              by_cases hun : uu = N
              · subst hun
                have HBS : Hid (begS S.toList) := ⟨uu, by rw [HL.out.1, HL.out.2]; exact HNN.out.1, HNN.out.2, (191 : UInt8), by decide, by rw [HL.out.1, HL.out.2, show uu - z = j by have := HLEN.out.2; omega]; exact HUU.out⟩
                go_wp2_with fail
                go_ret
                exact ⟨true, rfl, ⟨fun _ => HBS.out, fun _ => rfl⟩, HB4.out⟩
              · have e3 : ((uu : Int) == (N : Int)) = false := by rw [beq_eq_false_iff_ne]; omega
                have HNE : Hid (∀ i, i < 1 + 1 → utfP (l ++ List.replicate (N - z) (fillsS.getD i 0)) ≠ N) := by
                  intro i hi
                  by_cases h9 : i < 1
                  · exact HK.out i h9
                  · obtain rfl : i = 1 := by omega
                    show utfP (l ++ List.replicate (N - z) (191 : UInt8)) ≠ N
                    rw [show N - z = j by have := HLEN.out.2; omega, HUU.out]
                    exact hun
                clear hun
                go_wp2_with fail
                go_roundw
                case rel => exact ⟨1 + 1, by go_num, by decide, HNE, HB4⟩
                case measure => simp [intOf]
        · rw [show (((2 : Nat) : Int)) = (2 : Int) from rfl]
          clear hk4
          obtain ⟨B, hB⟩ : ∃ B, wq.heap.size = B := ⟨_, rfl⟩
          have hix := idx2
          go_wp2_with (refine wpList_bytes_bag _ rfl (.tmp 17) 9 66 5 rfl Tryd.underlying9 Tryd.underlying66 Tryd.underlying5 S rfl B (Nat.le_of_eq hB.symm) ?_; intro v0 w1 hbag hbel; have HBAG := Lib.hid hbag; have HBEL := Lib.hid hbel; clear hbag hbel)
          have HB3 : Hid (Bag w1 B v0 (l ++ List.replicate 0 (144 : UInt8)) ∧ B ≤ w1.heap.size) := by
            refine ⟨by rw [List.replicate_zero, List.append_nil, ← HL.out.1]; exact HBAG.out, by have := HBEL.out.size; omega⟩
          have HBB := Lib.hid hB
          clear hB HBAG
          go_loopg [6] (5 : Nat) (fun gk v wi => ∃ j : Nat, Hid (j + z ≤ n ∧ n - j < gk + z) ∧ Hid (Bag wi B v (l ++ List.replicate j (144 : UInt8)) ∧ B ≤ wi.heap.size) ∧ Hid (Below B wq wi))
          case atStart => exact ⟨0, ⟨by have := HNN.out; omega, by have := HNN.out; omega⟩, HB3, HBEL⟩
          case round =>
            rename World => wi
            obtain ⟨j, HJ, HBG, HBL⟩ := hrel
            clear HB3 HBEL
            obtain ⟨N, hN⟩ : ∃ N, z + j = N := ⟨_, rfl⟩
            have hlen : (l ++ List.replicate j (144 : UInt8)).length = N := by rw [List.length_append, List.length_replicate, HL.out.2, hN]
            obtain ⟨gq, cap, hv, hA⟩ := HBG.out.1.is
            subst hv
            by_cases hlt : N < n
            · have e2 : (N : Int) < (n : Int) := by omega
              have HLEN := Lib.hid (And.intro hlen (And.intro hN hlt))
              rw [hlen] at HBG
              rw [hlen]
              clear hA hlen hlt hN
              go_wp2_with (at_builtin; refine wpList_append_bag _ rfl (.tmp 23) (.tmp 25) 66 rfl 5 i0 Tryd.underlying66 hi hz0 hz1 hz2 _ B (l ++ List.replicate j (144 : UInt8)) rfl (HBG.out.1.alloc _) wi.heap.size rfl (144 : UInt8) ((At.ofAlloc wi #[Value.int .u8 144] 5).cell 0 _ rfl) (by have := HBG.out.2; simp; omega) (by rw [HLEN.out.1]; have := HLEN.out.2.2; have := HNN.out.2; omega) ?_; intro v' w2 hbag2 hbel2; have HBAG2 := Lib.hid hbag2; have HBEL2 := Lib.hid hbel2; clear hbag2 hbel2)
              have HNX : Hid (Bag w2 B v' (l ++ List.replicate (j + 1) (144 : UInt8)) ∧ B ≤ w2.heap.size) := by
                refine ⟨?_, by have h8 := HBEL2.out.size; have h7 := HBG.out.2; simp at h8; omega⟩
                have h9 := HBAG2.out
                rw [List.append_assoc, ← List.replicate_succ'] at h9
                exact h9
              have HBN : Hid (Below B wq w2) := (HBL.out.alloc HBG.out.2 (Obj.cells #[Value.int .u8 144] 5)).trans HBEL2.out
              go_roundg (n - (j + 1) - z + 1)
              case measure => have := HJ.out; have := HLEN.out.2; omega
              case rel => exact ⟨j + 1, ⟨by have := HLEN.out.2; omega, by have := HLEN.out.2; omega⟩, HNX, HBN⟩
            · obtain rfl : N = n := by have := HJ.out; omega
              have e2 : ¬ (N : Int) < (N : Int) := by omega
              have hcv := cvt_at (cap := cap) hA N hlen
              have U1 := Lib.hid (UT.out ⟨(l ++ List.replicate j (144 : UInt8)).toArray⟩ wi)
              rw [tl_mk] at U1
              have HLEN := Lib.hid (And.intro hlen hN)
              have HBQ : Hid (Below w.heap.size w wi) := HB2.out.trans (HBL.out.mono (by have := HBB.out; have := HB2.out.size; omega))
              obtain ⟨uu, huu⟩ : ∃ uu, utfP (l ++ List.replicate j (144 : UInt8)) = uu := ⟨_, rfl⟩
              obtain ⟨YY, hYY⟩ : ∃ YY : ByteArray, (⟨(l ++ List.replicate j (144 : UInt8)).toArray⟩ : ByteArray) = YY := ⟨_, rfl⟩
              rw [huu, hYY] at U1
              rw [hYY] at hcv
              rw [hlen]
              have HUU := Lib.hid huu
              clear hA hlen hlt hN huu hYY
              go_wp2_with fail
              refine U1.out.mono ?_
              rintro e w3 ⟨rfl, hb3⟩
              have HB4 : Hid (Below w.heap.size w w3) := HBQ.out.trans (hb3.mono HBQ.out.size)
              clear hb3 hcv
              by_cases hun : uu = N
              · subst hun
                have HBS : Hid (begS S.toList) := ⟨uu, by rw [HL.out.1, HL.out.2]; exact HNN.out.1, HNN.out.2, (144 : UInt8), by decide, by rw [HL.out.1, HL.out.2, show uu - z = j by have := HLEN.out.2; omega]; exact HUU.out⟩
                go_wp2_with fail
                go_ret
                exact ⟨true, rfl, ⟨fun _ => HBS.out, fun _ => rfl⟩, HB4.out⟩
              · have e3 : ((uu : Int) == (N : Int)) = false := by rw [beq_eq_false_iff_ne]; omega
                have HNE : Hid (∀ i, i < 2 + 1 → utfP (l ++ List.replicate (N - z) (fillsS.getD i 0)) ≠ N) := by
                  intro i hi
                  by_cases h9 : i < 2
                  · exact HK.out i h9
                  · obtain rfl : i = 2 := by omega
                    show utfP (l ++ List.replicate (N - z) (144 : UInt8)) ≠ N
                    rw [show N - z = j by have := HLEN.out.2; omega, HUU.out]
                    exact hun
                clear hun
                go_wp2_with fail
                go_roundw
                case rel => exact ⟨2 + 1, by go_num, by decide, HNE, HB4⟩
                case measure => simp [intOf]
        · rw [show (((3 : Nat) : Int)) = (3 : Int) from rfl]
          clear hk4
          obtain ⟨B, hB⟩ : ∃ B, wq.heap.size = B := ⟨_, rfl⟩
          have hix := idx3
          go_wp2_with (refine wpList_bytes_bag _ rfl (.tmp 17) 9 66 5 rfl Tryd.underlying9 Tryd.underlying66 Tryd.underlying5 S rfl B (Nat.le_of_eq hB.symm) ?_; intro v0 w1 hbag hbel; have HBAG := Lib.hid hbag; have HBEL := Lib.hid hbel; clear hbag hbel)
          have HB3 : Hid (Bag w1 B v0 (l ++ List.replicate 0 (160 : UInt8)) ∧ B ≤ w1.heap.size) := by
            refine ⟨by rw [List.replicate_zero, List.append_nil, ← HL.out.1]; exact HBAG.out, by have := HBEL.out.size; omega⟩
          have HBB := Lib.hid hB
          clear hB HBAG
          go_loopg [6] (5 : Nat) (fun gk v wi => ∃ j : Nat, Hid (j + z ≤ n ∧ n - j < gk + z) ∧ Hid (Bag wi B v (l ++ List.replicate j (160 : UInt8)) ∧ B ≤ wi.heap.size) ∧ Hid (Below B wq wi))
          case atStart => exact ⟨0, ⟨by have := HNN.out; omega, by have := HNN.out; omega⟩, HB3, HBEL⟩
          case round =>
            rename World => wi
            obtain ⟨j, HJ, HBG, HBL⟩ := hrel
            clear HB3 HBEL
            obtain ⟨N, hN⟩ : ∃ N, z + j = N := ⟨_, rfl⟩
            have hlen : (l ++ List.replicate j (160 : UInt8)).length = N := by rw [List.length_append, List.length_replicate, HL.out.2, hN]
            obtain ⟨gq, cap, hv, hA⟩ := HBG.out.1.is
            subst hv
            by_cases hlt : N < n
            · have e2 : (N : Int) < (n : Int) := by omega
              have HLEN := Lib.hid (And.intro hlen (And.intro hN hlt))
              rw [hlen] at HBG
              rw [hlen]
              clear hA hlen hlt hN
              go_wp2_with (at_builtin; refine wpList_append_bag _ rfl (.tmp 23) (.tmp 25) 66 rfl 5 i0 Tryd.underlying66 hi hz0 hz1 hz2 _ B (l ++ List.replicate j (160 : UInt8)) rfl (HBG.out.1.alloc _) wi.heap.size rfl (160 : UInt8) ((At.ofAlloc wi #[Value.int .u8 160] 5).cell 0 _ rfl) (by have := HBG.out.2; simp; omega) (by rw [HLEN.out.1]; have := HLEN.out.2.2; have := HNN.out.2; omega) ?_; intro v' w2 hbag2 hbel2; have HBAG2 := Lib.hid hbag2; have HBEL2 := Lib.hid hbel2; clear hbag2 hbel2)
              have HNX : Hid (Bag w2 B v' (l ++ List.replicate (j + 1) (160 : UInt8)) ∧ B ≤ w2.heap.size) := by
                refine ⟨?_, by have h8 := HBEL2.out.size; have h7 := HBG.out.2; simp at h8; omega⟩
                have h9 := HBAG2.out
                rw [List.append_assoc, ← List.replicate_succ'] at h9
                exact h9
              have HBN : Hid (Below B wq w2) := (HBL.out.alloc HBG.out.2 (Obj.cells #[Value.int .u8 160] 5)).trans HBEL2.out
              go_roundg (n - (j + 1) - z + 1)
              case measure => have := HJ.out; have := HLEN.out.2; omega
              case rel => exact ⟨j + 1, ⟨by have := HLEN.out.2; omega, by have := HLEN.out.2; omega⟩, HNX, HBN⟩
            · obtain rfl : N = n := by have := HJ.out; omega
              have e2 : ¬ (N : Int) < (N : Int) := by omega
              have hcv := cvt_at (cap := cap) hA N hlen
              have U1 := Lib.hid (UT.out ⟨(l ++ List.replicate j (160 : UInt8)).toArray⟩ wi)
              rw [tl_mk] at U1
              have HLEN := Lib.hid (And.intro hlen hN)
              have HBQ : Hid (Below w.heap.size w wi) := HB2.out.trans (HBL.out.mono (by have := HBB.out; have := HB2.out.size; omega))
              obtain ⟨uu, huu⟩ : ∃ uu, utfP (l ++ List.replicate j (160 : UInt8)) = uu := ⟨_, rfl⟩
              obtain ⟨YY, hYY⟩ : ∃ YY : ByteArray, (⟨(l ++ List.replicate j (160 : UInt8)).toArray⟩ : ByteArray) = YY := ⟨_, rfl⟩
              rw [huu, hYY] at U1
              rw [hYY] at hcv
              rw [hlen]
              have HUU := Lib.hid huu
              clear hA hlen hlt hN huu hYY
              go_wp2_with fail
              refine U1.out.mono ?_
              rintro e w3 ⟨rfl, hb3⟩
              have HB4 : Hid (Below w.heap.size w w3) := HBQ.out.trans (hb3.mono HBQ.out.size)
              clear hb3 hcv
              by_cases hun : uu = N
              · subst hun
                have HBS : Hid (begS S.toList) := ⟨uu, by rw [HL.out.1, HL.out.2]; exact HNN.out.1, HNN.out.2, (160 : UInt8), by decide, by rw [HL.out.1, HL.out.2, show uu - z = j by have := HLEN.out.2; omega]; exact HUU.out⟩
                go_wp2_with fail
                go_ret
                exact ⟨true, rfl, ⟨fun _ => HBS.out, fun _ => rfl⟩, HB4.out⟩
              · have e3 : ((uu : Int) == (N : Int)) = false := by rw [beq_eq_false_iff_ne]; omega
                have HNE : Hid (∀ i, i < 3 + 1 → utfP (l ++ List.replicate (N - z) (fillsS.getD i 0)) ≠ N) := by
                  intro i hi
                  by_cases h9 : i < 3
                  · exact HK.out i h9
                  · obtain rfl : i = 3 := by omega
                    show utfP (l ++ List.replicate (N - z) (160 : UInt8)) ≠ N
                    rw [show N - z = j by have := HLEN.out.2; omega, HUU.out]
                    exact hun
                clear hun
                go_wp2_with fail
                go_roundw
                case rel => exact ⟨3 + 1, by go_num, by decide, HNE, HB4⟩
                case measure => simp [intOf]
    · obtain rfl : n = 5 := by omega
      have HF : Hid (¬ begS S.toList) := by
        rintro ⟨m, h1, h2, f, hf, h3⟩
        rw [HL.out.1, HL.out.2] at h1 h3
        exact HN.out m h1 (by omega) f hf h3
      rw [show (((5 : Nat) : Int)) = (5 : Int) from rfl]
      clear hzn hn5 hn4
      go_wp2_with fail
      go_ret
      exact ⟨false, rfl, ⟨(fun h => by cases h), (fun h => absurd h HF.out)⟩, HB.out⟩
end Jr
end Go.Proofs.YtilfidcomeandaaDoor
namespace Go.Proofs.YtilfidcomeandaaDoor
open Go.RowKit
set_option linter.unusedVariables false
set_option linter.unusedSimpArgs false
namespace Jr
open Js
open Co (utfP utf_any)
open Dr (Rs Lm has lack lackE lackP)
theorem take_snoc {S : List UInt8} {p i : Nat} (h : p + i < S.length) : (S.drop p).take (i + 1) = (S.drop p).take i ++ [S.getD (p + i) 0] := by
  rw [List.take_add_one, List.getElem?_drop, List.getD, List.getElem?_eq_getElem h]
  rfl
theorem ptM_nil : ptM [] = .plain := rfl
/-- one more byte of a sign: what the document asks, and what a string takes -/
theorem sign_step (l : List UInt8) (x : UInt8) (t : List UInt8) (h : l = [] ∨ partS l) (ha : 128 ≤ ((l ++ [x]).getD 0 0).toNat) :
    (utfP (l ++ [x]) = (l ++ [x]).length ↔ wholeS (l ++ [x])) ∧ (l ++ [x]).length ≤ 4 ∧ (begS (l ++ [x]) ↔ partS (l ++ [x]) ∨ wholeS (l ++ [x])) ∧
    (⟨ptM l, t⟩ : Ss).take x = if wholeS (l ++ [x]) then .more ⟨.plain, t ++ [x]⟩ else if partS (l ++ [x]) then .more ⟨ptM (l ++ [x]), t ++ [x]⟩ else .bad := by
  rcases h with rfl | h
  · have hx : 128 ≤ x.toNat := ha
    refine ⟨⟨fun e => absurd e (whole1 x hx), fun e => e.elim⟩, by simp, begS_part [x] (by simp) (by simp) hx, ?_⟩
    rw [List.nil_append, if_neg (show ¬ wholeS [x] from id)]
    exact take_first t x hx
  · refine ⟨?_, ?_, ?_, take_next t l x h⟩
    · match l, h, ha with
      | [a], _, ha => exact whole2 a x ha
      | [a, b], _, ha => exact whole3 a b x ha
      | [a, b, c], _, ha => exact whole4 a b c x ha
    · match l, h with
      | [a], _ => simp
      | [a, b], _ => simp
      | [a, b, c], _ => simp
    · refine begS_part _ ?_ (by simp) ha
      match l, h with
      | [a], _ => simp
      | [a, b], _ => simp
      | [a, b, c], _ => simp
def RetSign (st : St) (t : List UInt8) (p : Nat) (g : Nat) (s : ByteArray) (L : Lm) (ro : Int) (O : List Vl) (w : World) (e : Ending) (w' : World) : Prop :=
  (∃ q : Nat, p < q ∧ q ≤ p + 4 ∧ q ≤ s.size ∧ Cl s.toList L (sx st .plain (t ++ (s.toList.drop p).take (q - p))) q (sx st .plain t) p ∧ GYes (.tuple #[.int .i64 (q : Int), .bool true]) g s L ro O st.G.length q w e w') ∨
  (∃ c q b tk, RunsT s.toList L (sx st .plain t) p (.no c q b) tk st.G.length ∧ GNay (.tuple #[.int .i64 0, .bool false]) g s L ro c q b tk st.G.length w e w')
set_option maxRecDepth 100000 in
set_option maxHeartbeats 6400000 in
theorem sign_any {w : World} {g : Nat} {s : ByteArray} {L : Lm} {ro : Int} {O : List Vl} {tk : Nat} (st : St) (t : List UInt8) (hG : Gok w g s L ro O st.G.length tk) (p : Nat) (hs : s.size ≤ 140737488351232) (htk : tk ≤ p + 1) (hp1 : p < s.size) (ha : 128 ≤ (s.toList.getD p 0).toNat) :
    Calls Tryd.prog 82 #[.pointer (some ⟨g, 0, none⟩), .int .i64 (p : Int)] w (RetSign st t p g s L ro O w) := by
  have HG0 : Hid (∃ tk, tk ≤ p + 0 + 1 ∧ Gok w g s L ro O st.G.length tk) := ⟨tk, htk, hG⟩
  have HS := Lib.hid hs
  have HA := Lib.hid (And.intro ha hp1)
  have e3 : (0 : Int) ≤ (p : Int) := by omega
  have e4 : (p : Int) ≤ 140737488351232 := by omega
  have UT := Lib.hid (fun s w => utf_any s w)
  have BG := Lib.hid (fun S h w => begins_any S h w)
  obtain ⟨fr, hfr⟩ : ∃ n, st.G.length = n := ⟨_, rfl⟩
  have HFR := Lib.hid hfr
  rw [hfr] at HG0
  clear hG htk hs hp1 ha hfr
  go_enter Tryd.func82, Tryd.ntmps82
  go_wp2_with fail
  go_loopg [6] (5 : Nat) (fun gk va wr => ∃ i : Nat, va = .int .i64 ((p + i : Nat) : Int) ∧ Hid (i ≤ 3 ∧ 4 - i < gk ∧ (i = 0 ∨ partS ((s.toList.drop p).take i)) ∧ p + i ≤ s.size) ∧ Hid (∃ tk, tk ≤ p + i + 1 ∧ Gok wr g s L ro O fr tk) ∧ Hid (Cl s.toList L (sx st (ptM ((s.toList.drop p).take i)) (t ++ (s.toList.drop p).take i)) (p + i) (sx st .plain t) p) ∧ Hid (Fg g w wr))
  case atStart =>
    refine ⟨0, rfl, ⟨by decide, by decide, .inl rfl, by have := HA.out.2; omega⟩, HG0, ?_, Fg.refl g w⟩
    rw [List.take_zero, List.append_nil, ptM_nil]
    exact Cl.refl _ _ _ _
  case round =>
    obtain ⟨i, rfl, HI, HG, HC, HB⟩ := hrel
    clear HG0
    obtain ⟨a, hpa⟩ : ∃ a, p + i = a := ⟨_, rfl⟩
    rw [hpa] at HC ⊢
    obtain ⟨tk, htk, hG⟩ := HG.out
    rw [hpa] at htk
    have HPA := Lib.hid hpa
    by_cases h1 : a < s.size ∧ a < L.bytes
    · obtain ⟨hq1, hq2⟩ := h1
      have W := Lib.hid (gwant_yes hG (a : Int) a rfl hq1 hq2 HS.out htk)
      have hh := has_of hq1 hq2
      obtain ⟨x, hx⟩ : ∃ x, s.toList.getD a 0 = x := ⟨_, rfl⟩
      obtain ⟨l, hl⟩ : ∃ l, (s.toList.drop p).take i = l := ⟨_, rfl⟩
      have hsn : (s.toList.drop p).take (i + 1) = l ++ [x] := by rw [take_snoc (by rw [hpa, tl_size]; exact hq1), hl, hpa, hx]
      have hll : l.length = i := by rw [← hl, List.length_take, List.length_drop, tl_size]; omega
      have hpart : l = [] ∨ partS l := by
        rcases HI.out.2.2.1 with h | h
        · exact .inl (by rw [← List.length_eq_zero_iff, hll]; exact h)
        · rw [hl] at h; exact .inr h
      have hfst : (l ++ [x]).getD 0 0 = s.toList.getD p 0 := by
        rw [← hsn, List.getD, List.getElem?_take_of_lt (by omega), List.getElem?_drop, Nat.add_zero]; rfl
      have hst := sign_step l x (t ++ l) hpart (by rw [hfst]; exact HA.out.1)
      rw [hl] at HC
      obtain ⟨Y, hY⟩ : ∃ Y, s.extract p (a + 1) = Y := ⟨_, rfl⟩
      have hYl : Y.toList = l ++ [x] := by rw [← hY, tl_extract, show a + 1 - p = i + 1 by omega, hsn]
      have hYs : Y.size = i + 1 := by rw [← tl_size, hYl, List.length_append, hll]; rfl
      have HST := Lib.hid hst
      have HYL := Lib.hid (And.intro hYl hYs)
      have HSN := Lib.hid hsn
      have HH := Lib.hid (And.intro hh hx)
      have HQ1 := Lib.hid hq1
      have hab : (a : Int) + 1 ≤ (s.size : Int) := by omega
      have hpab : (p : Int) ≤ (a : Int) + 1 := by omega
      have e5 : (a : Int) ≤ 140737488351232 := by have := HS.out; omega
      obtain ⟨uu, huu⟩ : ∃ uu, utfP Y.toList = uu := ⟨_, rfl⟩
      have HUU := Lib.hid huu
      obtain ⟨yz, hyz⟩ : ∃ n, Y.size = n := ⟨_, rfl⟩
      have hyz2 : (Y.size : Int) = (yz : Int) := by omega
      have HYZ := Lib.hid hyz
      clear hG htk hq1 hq2 hh hsn hll hpart hfst hst hYl hYs hpa hl hx huu hyz
      go_wp2_with (go_at_call 43; refine W.out.mono ?_; rintro e w1 ⟨rfl, HG1, HB1⟩; have t0 := Gok.txt HG1.out)
      refine (UT.out Y _).mono ?_
      rintro e w2 ⟨rfl, hb2⟩
      rw [HUU.out]
      have HG2 := Lib.hid (HG1.out.below hb2)
      have HB2 : Hid (Fg g w w2) := (HB.out.trans HB1.out).trans (Fg.of hb2 (Nat.le_of_lt HG1.out.lt))
      clear hb2 W t0
      by_cases hwh : uu = yz
      · have hws : wholeS (l ++ [x]) := HST.out.1.1 (by rw [← HYL.out.1, HUU.out, hwh, ← HYZ.out, tl_size])
        have HCL : Hid (Cl s.toList L (sx st .plain (t ++ (s.toList.drop p).take (a + 1 - p))) (a + 1) (sx st .plain t) p) := by
          have h9 := HST.out.2.2.2
          rw [if_pos hws] at h9
          rw [show a + 1 - p = i + 1 by have := HPA.out; omega, HSN.out, ← List.append_assoc]
          exact Cl.trans (sx_more HH.out.1 (by rw [HH.out.2]; exact h9)) HC.out
        subst hwh
        obtain ⟨q, hq⟩ : ∃ q, a + 1 = q := ⟨_, rfl⟩
        have hqi : (a : Int) + 1 = (q : Int) := by omega
        have HQ : Hid (p < q ∧ q ≤ p + 4 ∧ q ≤ s.size) := ⟨by have := HPA.out; omega, by have := HPA.out; have := HI.out.1; omega, by have := HQ1.out; omega⟩
        rw [hq] at HCL HG2
        clear hws hq
        go_wp2_with fail
        exact bodyPost_ret (v := .tuple #[.int .i64 (q : Int), .bool true]) (by simp [results, Tryd.results82, go_sem]) rfl (.inl ⟨q, HQ.out.1, HQ.out.2.1, HQ.out.2.2, HCL.out, rfl, by rw [HFR.out]; exact HG2, HB2⟩)
      · have hws : ¬ wholeS (l ++ [x]) := fun h => hwh (by rw [← HUU.out, HYL.out.1, HST.out.1.2 h, ← HYL.out.1, tl_size, HYZ.out])
        have e6 : ((uu : Int) == (yz : Int)) = false := by rw [beq_eq_false_iff_ne]; omega
        have B1 := Lib.hid (BG.out Y (by rw [← tl_size, HYL.out.1]; exact HST.out.2.1) w2)
        have HWS := Lib.hid hws
        clear hwh hws
        go_wp2_with fail
        refine B1.out.mono ?_
        rintro e w3 ⟨b, rfl, hb, hb3⟩
        have HG3 := Lib.hid (HG2.out.below hb3)
        have HB3 : Hid (Fg g w w3) := HB2.out.trans (Fg.of hb3 (Nat.le_of_lt HG2.out.lt))
        rw [HYL.out.1] at hb
        clear hb3 B1
        cases b with
        | true =>
          have hpt : partS (l ++ [x]) := by
            rcases HST.out.2.2.1.1 (hb.1 rfl) with h | h
            · exact h
            · exact absurd h HWS.out
          have HC4 : Hid (Cl s.toList L (sx st (ptM ((s.toList.drop p).take (i + 1))) (t ++ (s.toList.drop p).take (i + 1))) (p + (i + 1)) (sx st .plain t) p) := by
            have h9 := HST.out.2.2.2
            rw [if_neg HWS.out, if_pos hpt] at h9
            rw [HSN.out, show p + (i + 1) = a + 1 by have := HPA.out; omega, ← List.append_assoc]
            exact Cl.trans (sx_more HH.out.1 (by rw [HH.out.2]; exact h9)) HC.out
          have hi4 : i + 1 ≤ 3 := by
            have h8 : (l ++ [x]).length = i + 1 := by rw [← HYL.out.1, tl_size, HYL.out.2]
            have h7 : (l ++ [x]).length ≤ 3 := by
              generalize l ++ [x] = m at hpt
              match m, hpt with
              | [a], _ => simp
              | [a, b], _ => simp
              | [a, b, c], _ => simp
            omega
          have HI4 : Hid (i + 1 ≤ 3 ∧ 4 - (i + 1) < 4 - i ∧ (i + 1 = 0 ∨ partS ((s.toList.drop p).take (i + 1))) ∧ p + (i + 1) ≤ s.size) := ⟨hi4, by omega, .inr (by rw [HSN.out]; exact hpt), by have := HPA.out; have := HQ1.out; omega⟩
          have HG4 : Hid (∃ tk, tk ≤ p + (i + 1) + 1 ∧ Gok w3 g s L ro O fr tk) := ⟨a + 1, by have := HPA.out; omega, HG3.out⟩
          clear hb hpt hi4
          go_wp2_with fail
          go_roundg (4 - i)
          case measure => exact HI.out.2.1
          case rel => exact ⟨i + 1, congrArg (Value.int IntKind.i64) (show (a : Int) + 1 = ((p + (i + 1) : Nat) : Int) by have := HPA.out; omega), HI4, HG4, HC4, HB3⟩
        | false =>
          have hpt : ¬ partS (l ++ [x]) := fun h => by have := hb.2 (HST.out.2.2.1.2 (.inl h)); cases this
          have HBD : Hid (RunsT s.toList L (sx st .plain t) p (.no 9 a false) (a + 1) st.G.length) := by
            have h9 := HST.out.2.2.2
            rw [if_neg HWS.out, if_neg hpt] at h9
            exact HC.out _ _ _ (sx_bad HH.out.1 (by rw [HH.out.2]; exact h9))
          clear hb hpt
          go_wp2_with (go_at_call 45; refine (gfault16_ok HG3.out _ _ a rfl).mono ?_; rintro e w4 ⟨rfl, HG4, HB4⟩)
          exact bodyPost_ret (v := .tuple #[.int .i64 0, .bool false]) (by simp [results, Tryd.results82, go_sem]) rfl (.inr ⟨_, _, _, _, HBD.out, rfl, by rw [HFR.out]; exact HG4, HB3.out.trans HB4.out⟩)
    · have W := Lib.hid (gwant_no hG (a : Int) a rfl h1)
      have HLK : Hid (RunsT s.toList L (sx st .plain t) p (lack s.toList L) (lackK s.toList L) st.G.length) := HC.out _ _ _ (sx_lack (has_not h1))
      clear hG htk h1 hpa
      go_wp2_with (go_at_call 43; refine W.out.mono ?_; rintro e w1 ⟨rfl, HG1, HB1⟩)
      exact bodyPost_ret (v := .tuple #[.int .i64 0, .bool false]) (by simp [results, Tryd.results82, go_sem]) rfl (.inr ⟨_, _, _, _, HLK.out, rfl, by rw [HFR.out]; exact HG1, HB.out.trans HB1.out⟩)
end Jr
end Go.Proofs.YtilfidcomeandaaDoor
namespace Go.Proofs.YtilfidcomeandaaDoor
open Go.RowKit
set_option linter.unusedVariables false
set_option linter.unusedSimpArgs false
namespace Jr
open Js
open Dr (Rs Lm has lack lackE lackP)
section
variable {P : Program} {w : World}
theorem wpList_append_st {ops : Array Oper} {rest : List Oper} {o : Oper} {a : Act} {Q : Exit → Act → World → Prop} (hgd : o.guard = none) (sl x : Operand) (t u : TypeId)
    (ho : o.op = .call { callee := .builtin .append, args := #[sl, x], argTypes := #[t, u] })
    (base : Nat) (e : TypeId) (i : TypeInfo) (ht : P.underlying t = some (.slice e)) (hu : P.underlying u = some .string) (hi : P.info? e = some i) (hz : i.zero = some (.int .u8 0)) (hsize : i.size = 1) (hby : i.bytes = 1)
    (v : Value) (n m : Nat) (l : List UInt8) (hs : a.eval sl = v) (hown : w.ownsRow base e 1 v n (bcells l)) (s : ByteArray) (hx : a.eval x = .string s) (hm : s.size = m) (hb : n + m ≤ 140737488355328) (hbase : base ≤ w.heap.size)
    (h : ∀ v' w', w'.ownsRow base e 1 v' (n + m) (bcells (l ++ s.toList)) → w.grownBy w' v.ownBlock → wpList P ops Q rest (a.put o.dst v') w') : wpList P ops Q (o :: rest) a w := by
  subst hm
  refine Lib.wpList_append_own_string w hgd sl x t u ho base e i ht hu hi hz hsize hby v n _ hs hown s hx (by unfold maxLen; omega) hb hbase ?_
  intro v' w' h1 h2 _
  have e1 : Lib.strCells s = bcells s.toList := by
    rw [Lib.toList_data]
    simp [Lib.strCells, bcells]
  rw [e1, ← bcells_append] at h1
  exact h v' w' h1 h2
end
theorem row_ty {w : World} {B e z n : Nat} {v : Value} {xs : List Value} (h : w.ownsRow B e z v n xs) {q : Nat} (hq : v.ownBlock = some q) : ∃ cur, w.heap[q]? = some (.cells cur e (0, 0)) := by
  rcases h.2 with ⟨rfl, _⟩ | ⟨b, cap, cur, rfl, _, h2, _⟩
  · cases hq
  · obtain rfl : b = q := by simpa [Value.ownBlock] using hq
    exact ⟨cur, h2⟩
/-- a row of another type than values' stays -/
theorem Fg.row {g : Nat} {w w' : World} (h : Fg g w w') {B e z n : Nat} {v : Value} {xs : List Value} (ho : w.ownsRow B e z v n xs) (he : e ≠ 61) (hg : g < B) : w'.ownsRow B e z v n xs :=
  own_same ho fun q hq => h.block q (ho.lt q hq).2 (by have := (ho.lt q hq).1; omega) (fun cur hc => by
    obtain ⟨c2, h2⟩ := row_ty ho hq
    rw [h2] at hc
    injection hc with hc
    injection hc with _ hc
    exact he hc)
/-- a row of another type has grown -/
theorem Gok.grown {w w' : World} {g : Nat} {s : ByteArray} {L : Lm} {ro : Int} {O : List Vl} {fr tk : Nat} (h : Gok w g s L ro O fr tk) {B e z n : Nat} {v : Value} {xs : List Value} (ho : w.ownsRow B e z v n xs) (he : e ≠ 61) (hg : g < B) (hw : w.grownBy w' v.ownBlock) : Gok w' g s L ro O fr tk := by
  obtain ⟨⟨vo, h⟩, h1⟩ := h
  refine ⟨⟨vo, h.at0.grown hw h.lt (fun e => by have := (ho.lt g e).1; omega), h.out.kept hw (own_ne h.out ho (Ne.symm he)), Nat.lt_of_lt_of_le h.lt hw.size⟩, h1⟩
theorem Gok.alloc {w : World} {g : Nat} {s : ByteArray} {L : Lm} {ro : Int} {O : List Vl} {fr tk : Nat} (h : Gok w g s L ro O fr tk) (o : Obj) : Gok (w.alloc o) g s L ro O fr tk := h.below ((Below.refl _ _).alloc (Nat.le_refl _) o)
theorem u8_ne : (5 : Nat) ≠ 61 := by decide
def RetTx (st : St) (p : Nat) (g : Nat) (s : ByteArray) (L : Lm) (ro : Int) (O : List Vl) (w : World) (e : Ending) (w' : World) : Prop :=
  (∃ (Y : ByteArray) (q : Nat), p + 1 ≤ q ∧ has s.toList L q = true ∧ s.toList.getD q 0 = 34 ∧ Y.size ≤ 4 * q ∧ Cl s.toList L (sx st .plain Y.toList) q (sx st .plain []) (p + 1) ∧ GYes (.tuple #[.string Y, .int .i64 ((q + 1 : Nat) : Int), .bool true]) g s L ro O st.G.length (q + 1) w e w') ∨
  (∃ c q b tk, RunsT s.toList L (sx st .plain []) (p + 1) (.no c q b) tk st.G.length ∧ GNay (.tuple #[.string ⟨#[]⟩, .int .i64 0, .bool false]) g s L ro c q b tk st.G.length w e w')
theorem take_plain (l : List UInt8) (c : UInt8) : (⟨.plain, l⟩ : Ss).take c = if c = 34 then .done else if c.toNat < 32 then .bad else if c = 92 then .more ⟨.esc, l⟩
    else if c.toNat < 128 then .more ⟨.plain, l ++ [c]⟩
    else if sgLeft c = 0 then .bad else .more ⟨.more (sgLeft c) (sgLow c) (sgHigh c), l ++ [c]⟩ := rfl
theorem u8v {c : UInt8} {y : Nat} (h : c.toNat = y) (n : Nat) (hn : n < 256) : c = UInt8.ofNat n ↔ y = n := by
  constructor
  · intro e; rw [← h, e]; simp; omega
  · intro e; rw [← e, ← h]; simp
set_option maxRecDepth 100000 in
set_option maxHeartbeats 6400000 in
theorem rtext_any {w : World} {g : Nat} {s : ByteArray} {L : Lm} {ro : Int} {O : List Vl} {tk : Nat} (st : St) (hG : Gok w g s L ro O st.G.length tk) (p : Nat) (hs : s.size ≤ 140737488351232) (htk : tk ≤ p + 2) (hL : L.bytes ≤ 262144) (hp : p ≤ 262144) :
    Calls Tryd.prog 65 #[.pointer (some ⟨g, 0, none⟩), .int .i64 (p : Int)] w (RetTx st p g s L ro O w) := by
  obtain ⟨i5, hi5, hz0, hz1, hz2⟩ := info_parts info5
  have HS := Lib.hid (And.intro hs (And.intro hL hp))
  have HGL : Hid (g < w.heap.size) := hG.lt
  obtain ⟨B, hB⟩ : ∃ B, w.heap.size = B := ⟨_, rfl⟩
  have HBB := Lib.hid hB
  obtain ⟨p1, hp1⟩ : ∃ q, p + 1 = q := ⟨_, rfl⟩
  have k1 : (p : Int) + 1 = (p1 : Int) := by omega
  have HP := Lib.hid hp1
  have e0 : (p : Int) ≤ 262144 := by omega
  have EC := Lib.hid (fun (w' : World) (l : List UInt8) (q tk : Nat) (h : Gok w' g s L ro O st.G.length tk) (h1 : tk ≤ q + 1) => escape_any st l h q hs h1)
  have SN := Lib.hid (fun (w' : World) (l : List UInt8) (q tk : Nat) (h : Gok w' g s L ro O st.G.length tk) (h1 : tk ≤ q + 1) (h2 : q < s.size) (h3 : 128 ≤ (s.toList.getD q 0).toNat) => sign_any st l h q hs h1 h2 h3)
  have WY := Lib.hid (fun (w' : World) (q tk : Nat) (h : Gok w' g s L ro O st.G.length tk) (h1 : q < s.size) (h2 : q < L.bytes) (h3 : tk ≤ q + 1) => gwant_yes h (q : Int) q rfl h1 h2 hs h3)
  have WN := Lib.hid (fun (w' : World) (q tk : Nat) (h : Gok w' g s L ro O st.G.length tk) (h1 : ¬ (q < s.size ∧ q < L.bytes)) => gwant_no h (q : Int) q rfl h1)
  obtain ⟨fr, hfr⟩ : ∃ n, st.G.length = n := ⟨_, rfl⟩
  have HFR := Lib.hid hfr
  rw [hfr] at EC SN WY WN hG
  have HG0 : Hid (∃ tk, tk ≤ p1 + 1 ∧ Gok w g s L ro O fr tk) := ⟨tk, by omega, hG⟩
  clear hG htk hs hL hp hfr hp1 hB
  go_enter Tryd.func65, Tryd.ntmps65
  go_wp2_with fail
  go_loopg [1, 7] (s.size + 2) (fun gk va vo wr => ∃ (a : Nat) (l : List UInt8), va = .int .i64 (a : Int) ∧ Hid (wr.ownsRow B 5 1 vo l.length (bcells l)) ∧ Hid (p1 ≤ a ∧ a ≤ 262145 ∧ s.size + 1 - a < gk ∧ l.length ≤ 4 * a) ∧ Hid (∃ tk, tk ≤ a + 1 ∧ Gok wr g s L ro O fr tk) ∧ Hid (Cl s.toList L (sx st .plain l) a (sx st .plain []) p1) ∧ Hid (Fg g w wr))
  case atStart => exact ⟨p1, [], rfl, World.ownsRow_nil _ _ _ _, ⟨Nat.le_refl _, by have := HS.out.2.2; have := HP.out; omega, by omega, Nat.zero_le _⟩, HG0, Cl.refl _ _ _ _, Fg.refl g w⟩
  case round =>
    obtain ⟨a, l, rfl, HO, HI, HG, HC, HF⟩ := hrel
    clear HG0
    obtain ⟨tk, htk, hG⟩ := HG.out
    have hlt := hG.lt
    by_cases h1 : a < s.size ∧ a < L.bytes
    · obtain ⟨hq1, hq2⟩ := h1
      have W := Lib.hid (WY.out wr a tk hG hq1 hq2 htk)
      have hh := has_of hq1 hq2
      obtain ⟨c, hc⟩ : ∃ x, s.toList.getD a 0 = x := ⟨_, rfl⟩
      have hb := byte_at s a hq1
      rw [hc] at hb
      obtain ⟨y, hy⟩ : ∃ y, (s[a]).toNat = y := ⟨_, rfl⟩
      rw [hy] at hb
      have hcy : c.toNat = y := hb.symm
      have e2 : (a : Int) < (s.size : Int) := by omega
      have e3 : (0 : Int) ≤ (a : Int) := by omega
      have e4 : (a : Int) ≤ 262144 := by have := HS.out.2.1; omega
      obtain ⟨a1, ha1⟩ : ∃ q, a + 1 = q := ⟨_, rfl⟩
      have k2 : (a : Int) + 1 = (a1 : Int) := by omega
      have HA1 := Lib.hid ha1
      have HH := Lib.hid (And.intro hh (And.intro hc (And.intro hcy (And.intro hq1 hq2))))
      have hyl : y < 256 := by rw [← hcy]; exact c.toNat_lt
      have tp := take_plain l c
      rw [hcy] at tp
      have c34 := u8v hcy 34 (by decide)
      have c92 := u8v hcy 92 (by decide)
      have HTP := Lib.hid (And.intro tp (And.intro (show c = 34 ↔ y = 34 from c34) (show c = 92 ↔ y = 92 from c92)))
      clear hG htk hq2 hh hc hb hcy ha1 tp c34 c92 hlt

      go_wp2_with fail
      refine W.out.mono ?_
      rintro e w1 ⟨rfl, HG1, HF1⟩
      have t0 := Gok.txt HG1.out
      have HFw := Lib.hid (HF.out.trans HF1.out)
      have HO1 := Lib.hid (HF1.out.row HO.out u8_ne (by have := HGL.out; have := HBB.out; omega))
      have HSZ : Hid (B ≤ w1.heap.size) := by have := HFw.out.size; have := HBB.out; show B ≤ _; omega
      clear HG HF HF1 HO W
      by_cases y34 : y = 34
      · subst y34
        have hcv := run_convert_own (P := Tryd.prog) HO1.out 66 9 Tryd.underlying66 Tryd.underlying5 Tryd.underlying9
        obtain ⟨Y, hY⟩ : ∃ Y : ByteArray, (⟨l.toArray⟩ : ByteArray) = Y := ⟨_, rfl⟩
        have hYl : Y.toList = l := by rw [← hY]; exact tl_mk l
        rw [hY] at hcv
        have HY : Hid (Y.toList = l ∧ Y.size ≤ 4 * a) := ⟨hYl, by rw [← tl_size, hYl]; exact HI.out.2.2.2⟩
        clear hY hYl
        go_wp2_with fail
        refine bodyPost_ret (v := .tuple #[.string Y, .int .i64 (a1 : Int), .bool true]) (by simp [results, Tryd.results65, go_sem]) rfl (.inl ⟨Y, a, by rw [HP.out]; exact HI.out.1, HH.out.1, by rw [HH.out.2.1]; first | exact HTP.out.2.1.2 rfl | exact HTP.out.2.1.2 trivial, HY.out.2, ?_, ?_⟩)
        · rw [HY.out.1, HP.out]; exact HC.out
        · rw [HA1.out, HFR.out]; exact ⟨rfl, by have h9 := HG1.out; rw [HA1.out] at h9; exact h9, HFw⟩
      have f34 := eqF (n := y) (c := 34) (by omega)
      by_cases y32 : y < 32
      · have HBD : Hid (RunsT s.toList L (sx st .plain []) p1 (.no 9 a false) (a + 1) st.G.length) := HC.out _ _ _ (sx_bad HH.out.1 (by rw [HH.out.2.1, HTP.out.1, if_neg (fun e => y34 (HTP.out.2.1.1 e)), if_pos y32]))
        have f32 : (y : Int) < 32 := by omega
        clear y34 y32
        go_wp2_with (go_at_call 45; refine (gfault16_ok HG1.out _ _ a rfl).mono ?_; rintro e w2 ⟨rfl, HG2, HF2⟩)
        exact bodyPost_ret (v := .tuple #[.string ⟨#[]⟩, .int .i64 0, .bool false]) (by simp [results, Tryd.results65, go_sem]) rfl (.inr ⟨_, _, _, _, by rw [HP.out]; exact HBD.out, rfl, by rw [HFR.out]; exact HG2, HFw.out.trans HF2.out⟩)
      have f32 : ¬ (y : Int) < 32 := by omega
      by_cases y92 : y = 92
      · have HCE : Hid (Cl s.toList L (sx st .esc l) a1 (sx st .plain []) p1) := by
          have h9 := Cl.trans (sx_more (m := .plain) (t := l) HH.out.1 (by rw [HH.out.2.1, HTP.out.1, if_neg (fun e => y34 (HTP.out.2.1.1 e)), if_neg y32, if_pos (HTP.out.2.2.2 y92)])) HC.out
          rw [HA1.out] at h9
          exact h9
        have E1 := Lib.hid (EC.out w1 l a1 (a + 1) HG1.out (by have := HA1.out; omega))
        subst y92
        clear y34 y32
        go_wp2_with fail
        refine E1.out.mono ?_
        rintro e w2 (⟨Y, q, hpq, hYs, hcl, rfl, HG2, HF2⟩ | ⟨c2, q, b, tk2, hrun, rfl, HG2, HF2⟩)
        · rw [HFR.out] at HG2
          have HQ := Lib.hid (And.intro hpq hYs)
          have HCL := Lib.hid (Cl.trans hcl HCE.out)
          have HO2 := Lib.hid (HF2.out.row HO1.out u8_ne (by have := HGL.out; have := HBB.out; omega))
          have HF12 := Lib.hid (HFw.out.trans HF2.out)
          have hqs := HG2.out.2
          obtain ⟨m, hm⟩ : ∃ m, Y.size = m := ⟨_, rfl⟩
          have HM := Lib.hid hm
          have HQS := Lib.hid hqs
          clear hpq hYs hcl hm hqs t0
          go_wp2_with (at_builtin; refine wpList_append_st rfl (.tmp 60) (.tmp 61) 66 9 rfl B 5 i5 Tryd.underlying66 Tryd.underlying9 hi5 hz0 hz1 hz2 _ l.length m l rfl HO2.out Y rfl HM.out (by have := HI.out; have := HQ.out.2; have := HM.out; omega) (by have := HF12.out.size; have := HBB.out; omega) ?_; intro v' w3 hown3 hgrow3; have HO3 := Lib.hid hown3; have HGR := Lib.hid hgrow3; clear hown3 hgrow3)
          have HG3 : Hid (Gok w3 g s L ro O fr q) := HG2.out.grown HO2.out u8_ne (by have := HGL.out; have := HBB.out; omega) HGR.out
          have HF3 : Hid (Fg g w w3) := HF12.out.grown (by have := HF12.out.size; have := HGL.out; omega) HGR.out (fun q2 hq2 => by have := (HO2.out.lt q2 hq2).1; have := HBB.out; have := HGL.out; omega)
          go_roundg (s.size + 1 - a)
          case measure => exact HI.out.2.2.1
          case rel =>
            refine ⟨q, l ++ Y.toList, rfl, ?_, ⟨by have := HI.out.1; have := HQ.out.1; have := HA1.out; omega, by have := HQS.out.1; have := HS.out.2.1; omega, by have := HQ.out.1; have := HA1.out; have := HH.out.2.2.2.1; omega, ?_⟩, ⟨q, by omega, HG3.out⟩, HCL, HF3⟩
            · rw [List.length_append, tl_size, HM.out]; exact HO3.out
            · rw [List.length_append, tl_size]; have := HI.out.2.2.2; have := HQ.out; have := HA1.out; omega
        · have HRN := Lib.hid (HCE.out _ _ _ hrun)
          rw [HFR.out] at HG2
          clear hrun
          go_wp2_with fail
          exact bodyPost_ret (v := .tuple #[.string ⟨#[]⟩, .int .i64 0, .bool false]) (by simp [results, Tryd.results65, go_sem]) rfl (.inr ⟨_, _, _, _, by rw [HP.out]; exact HRN.out, rfl, by rw [HFR.out]; exact HG2, HFw.out.trans HF2.out⟩)
      have f92 := eqF (n := y) (c := 92) (by omega)
      by_cases y128 : 128 ≤ y
      · have f128 : (128 : Int) ≤ (y : Int) := by omega
        have S1 := Lib.hid (SN.out w1 l a (a + 1) HG1.out (by omega) HH.out.2.2.2.1 (by rw [HH.out.2.1, HH.out.2.2.1]; exact y128))
        clear y34 y32 y92 y128
        go_wp2_with fail
        refine S1.out.mono ?_
        rintro e w2 (⟨q, hpq, hq4, hqs, hcl, rfl, HG2, HF2⟩ | ⟨c2, q, b, tk2, hrun, rfl, HG2, HF2⟩)
        · rw [HFR.out] at HG2
          have t2 := Gok.txt HG2.out
          have HCL := Lib.hid (Cl.trans hcl HC.out)
          have HO2 := Lib.hid (HF2.out.row HO1.out u8_ne (by have := HGL.out; have := HBB.out; omega))
          have HF12 := Lib.hid (HFw.out.trans HF2.out)
          obtain ⟨Y, hY⟩ : ∃ Y, s.extract a q = Y := ⟨_, rfl⟩
          have hYl : Y.toList = (s.toList.drop a).take (q - a) := by rw [← hY, tl_extract]
          have hYs : Y.size = q - a := by rw [← tl_size, hYl, List.length_take, List.length_drop, tl_size]; omega
          obtain ⟨m, hm⟩ : ∃ m, Y.size = m := ⟨_, rfl⟩
          have HM := Lib.hid hm
          have HYL := Lib.hid (And.intro hYl hYs)
          have HQ := Lib.hid (And.intro hpq (And.intro hq4 (And.intro hqs HG2.out.2)))
          have x1 : (a : Int) ≤ (q : Int) := by omega
          have x2 : (q : Int) ≤ (s.size : Int) := by omega
          clear hpq hq4 hqs hcl hm hYl hYs t0
          go_wp2_with (at_builtin; refine wpList_append_st rfl (.tmp 75) (.tmp 83) 66 9 rfl B 5 i5 Tryd.underlying66 Tryd.underlying9 hi5 hz0 hz1 hz2 _ l.length m l rfl HO2.out Y rfl HM.out (by have := HI.out; have := HQ.out; have := HM.out; have := HYL.out.2; omega) (by have := HF12.out.size; have := HBB.out; omega) ?_; intro v' w3 hown3 hgrow3; have HO3 := Lib.hid hown3; have HGR := Lib.hid hgrow3; clear hown3 hgrow3)
          have HG3 : Hid (Gok w3 g s L ro O fr q) := HG2.out.grown HO2.out u8_ne (by have := HGL.out; have := HBB.out; omega) HGR.out
          have HF3 : Hid (Fg g w w3) := HF12.out.grown (by have := HF12.out.size; have := HGL.out; omega) HGR.out (fun q2 hq2 => by have := (HO2.out.lt q2 hq2).1; have := HBB.out; have := HGL.out; omega)
          go_roundg (s.size + 1 - a)
          case measure => exact HI.out.2.2.1
          case rel =>
            refine ⟨q, l ++ Y.toList, rfl, ?_, ⟨by have := HI.out.1; have := HQ.out.1; omega, by have := HQ.out.2.2.2.1; have := HS.out.2.1; omega, by have := HQ.out.1; have := HH.out.2.2.2.1; omega, ?_⟩, ⟨q, by omega, HG3.out⟩, by rw [HYL.out.1]; exact HCL, HF3⟩
            · rw [List.length_append, tl_size, HM.out]; exact HO3.out
            · rw [List.length_append, tl_size, HYL.out.2]; have := HI.out.2.2.2; have := HQ.out; omega
        · have HRN := Lib.hid (HC.out _ _ _ hrun)
          rw [HFR.out] at HG2
          clear hrun
          go_wp2_with fail
          exact bodyPost_ret (v := .tuple #[.string ⟨#[]⟩, .int .i64 0, .bool false]) (by simp [results, Tryd.results65, go_sem]) rfl (.inr ⟨_, _, _, _, by rw [HP.out]; exact HRN.out, rfl, by rw [HFR.out]; exact HG2, HFw.out.trans HF2.out⟩)
      have f128 : ¬ (128 : Int) ≤ (y : Int) := by omega
      have HCP : Hid (Cl s.toList L (sx st .plain (l ++ [c])) a1 (sx st .plain []) p1) := by
        have h9 := Cl.trans (sx_more (m := .plain) (t := l) HH.out.1 (by rw [HH.out.2.1, HTP.out.1, if_neg (fun e => y34 (HTP.out.2.1.1 e)), if_neg y32, if_neg (fun e => y92 (HTP.out.2.2.1 e)), if_pos (by omega)])) HC.out
        rw [HA1.out] at h9
        exact h9
      have HYC : Hid ((y : Int) = (c.toNat : Int)) := by show (y : Int) = _; rw [HH.out.2.2.1]
      clear y34 y32 y92 y128
      go_wp2_with (at_builtin; refine wpList_append_u8 rfl (.tmp 28) (.tmp 30) 66 rfl B 5 i5 Tryd.underlying66 hi5 hz0 hz1 hz2 _ l.length l rfl (HO1.out.alloc _) w1.heap.size 1 1 [c] rfl rfl (cells_one (by rw [← HYC.out]; exact cell_new rfl _ _)) (by have := HI.out; omega) (by have := HSZ.out; simp; omega) ?_; intro v' w3 hown3 hgrow3; have HO3 := Lib.hid hown3; have HGR := Lib.hid hgrow3; clear hown3 hgrow3)
      have HOA := Lib.hid (HO1.out.alloc (Obj.cells #[Value.int .u8 (y : Int)] 5))
      have HG3 : Hid (Gok w3 g s L ro O fr (a + 1)) := (HG1.out.alloc (Obj.cells #[Value.int .u8 (y : Int)] 5)).grown HOA.out u8_ne (by have := HGL.out; have := HBB.out; omega) HGR.out
      have HF3 : Hid (Fg g w w3) := (HFw.out.alloc (Nat.le_of_lt HG1.out.lt) (Obj.cells #[Value.int .u8 (y : Int)] 5)).grown (by have := HG1.out.lt; simp; omega) HGR.out (fun q2 hq2 => by have := (HOA.out.lt q2 hq2).1; have := HBB.out; have := HGL.out; omega)
      go_roundg (s.size + 1 - a)
      case measure => exact HI.out.2.2.1
      case rel =>
        refine ⟨a1, l ++ [c], rfl, ?_, ⟨by have := HI.out.1; have := HA1.out; omega, by have := HH.out.2.2.2.2; have := HS.out.2.1; have := HA1.out; omega, by have := HA1.out; have := HH.out.2.2.2.1; omega, ?_⟩, ⟨a + 1, by have := HA1.out; omega, HG3.out⟩, HCP, HF3⟩
        · rw [List.length_append]; exact HO3.out
        · rw [List.length_append]; have := HI.out.2.2.2; have := HA1.out; simp; omega
    · have W := Lib.hid (WN.out wr a tk hG h1)
      have HLK : Hid (RunsT s.toList L (sx st .plain []) p1 (lack s.toList L) (lackK s.toList L) st.G.length) := HC.out _ _ _ (sx_lack (has_not h1))
      have HF9 := Lib.hid HF.out
      clear hG htk h1 hlt
      go_wp2_with (go_at_call 43; refine W.out.mono ?_; rintro e w1 ⟨rfl, HG1, HF1⟩)
      exact bodyPost_ret (v := .tuple #[.string ⟨#[]⟩, .int .i64 0, .bool false]) (by simp [results, Tryd.results65, go_sem]) rfl (.inr ⟨_, _, _, _, by rw [HP.out]; exact HLK.out, rfl, by rw [HFR.out]; exact HG1, HF9.out.trans HF1.out⟩)
end Jr
end Go.Proofs.YtilfidcomeandaaDoor
