/- Joined by merge.py: JqA JqB JqC JqD. -/
import Derived.Test.YtpaikjlcachabaaDoorJzG
import Derived.Test.YtpaikjlcachabaaDoorJbB
import Derived.Test.YtpaikjlcachabaaDoorJrL
import Derived.Test.YtpaikjlcachabaaDoorJeA
import Derived.Test.YtpaikjlcachabaaDoorJuT
import Derived.Test.YtpaikjlcachabaaDoorJsM
import Derived.Lib.ValidLaws
namespace Go.Proofs.YtpaikjlcachabaaDoor
open Go.RowKit
set_option linter.unusedVariables false
set_option linter.unusedSimpArgs false
namespace Jq
open Js Je Jb
open Dr (Rs Lm has lack)
def qso (l : List UInt8) : List UInt8 := 34 :: l.flatMap qb
theorem qso_len (l : List UInt8) : (qso l).length ≤ 6 * l.length + 1 := by
  rw [qso, List.length_cons]
  have h : ∀ l : List UInt8, (l.flatMap qb).length ≤ 6 * l.length := by
    intro l
    induction l with
    | nil => exact Nat.le_refl _
    | cons b l ih =>
      have h1 : (qb b).length ≤ 6 := by
        rw [qb]
        repeat' split
        all_goals simp
      rw [List.flatMap_cons, List.length_append, List.length_cons]
      omega
  have := h l
  omega
theorem qso_next (s : List UInt8) (i : Nat) (b : UInt8) (h : s[i]? = some b) : qso (s.take (i + 1)) = qso (s.take i) ++ qb b := by
  obtain ⟨hi, hb⟩ := List.getElem?_eq_some_iff.1 h
  rw [qso, qso, List.take_succ_eq_append_getElem hi, hb, List.flatMap_append]
  simp
theorem jconv_at {P : Program} {w : World} {g cap : Nat} {l : List UInt8} (h : At w g 0 (bcells l)) (src dst e : TypeId) (n : Nat) (hn : l.length = n)
    (hs : P.underlying src = some (.slice e)) (he : P.underlying e = some (.int .u8)) (hd : P.underlying dst = some .string) : (convert src dst (.slice (some ⟨g, 0, none⟩) n cap)).run P w = .ok (.string ⟨l.toArray⟩) w := by
  subst hn
  refine run_convert_bytes_back w src dst e ⟨g, 0, none⟩ cap l hs he hd fun j hj => ?_
  have hc := h.cell j _ (bcells_get l j hj)
  have : (⟨g, 0, none⟩ : Addr).add j = ⟨g, j, none⟩ := by unfold Addr.add; split <;> simp_all
  rw [this]
  rw [Nat.zero_add] at hc
  exact hc
theorem row_some {w : World} {B m : Nat} {a : Option Addr} {c : Nat} {xs : List Value} (h : w.ownsRow B 5 1 (.slice a (m + 1) c) (m + 1) xs) : ∃ g, a = some ⟨g, 0, none⟩ := by
  obtain ⟨a9, c9, e9, h9⟩ := own_form h
  cases e9
  exact h9 (Nat.succ_pos _)
theorem hex_idx : ∀ j : Fin 16, hexS j.val = (#[48, 49, 50, 51, 52, 53, 54, 55, 56, 57, 97, 98, 99, 100, 101, 102] : Array UInt8)[j.val] := by decide +kernel
theorem hex_hi : ∀ j : Fin 2, (hexS j.val).toNat = 48 + j.val := by decide +kernel
theorem hexc (y : Nat) (h : y < 32) (hp : y % 16 < (⟨#[48, 49, 50, 51, 52, 53, 54, 55, 56, 57, 97, 98, 99, 100, 101, 102]⟩ : ByteArray).size) :
    ([.int .u8 92, .int .u8 117, .int .u8 48, .int .u8 48, .int .u8 ((hexS (y / 16)).toNat : Int), .int .u8 ((hexS (y % 16)).toNat : Int)] : List Value) = [.int .u8 92, .int .u8 117, .int .u8 48, .int .u8 48, .int .u8 (48 + (y : Int) / 16), .int .u8 (((⟨#[48, 49, 50, 51, 52, 53, 54, 55, 56, 57, 97, 98, 99, 100, 101, 102]⟩ : ByteArray)[y % 16]'hp).toNat : Int)] := by
  have h1 := hex_hi ⟨y / 16, by omega⟩
  have h2 := hex_idx ⟨y % 16, by omega⟩
  simp only at h1 h2
  rw [h1, h2, show ((48 + y / 16 : Nat) : Int) = 48 + (y : Int) / 16 by omega]
  rfl
set_option maxRecDepth 100000 in
set_option maxHeartbeats 3200000 in
theorem jrquoted_any (s : ByteArray) (hz : s.size ≤ 262144) (w : World) :
    Calls Tryd.prog 54 #[.string s] w (fun e w' => e = .returned (.string ⟨(Jb.quoted s.toList).toArray⟩) ∧ Below w.heap.size w w') := by
  obtain ⟨i0, hi, hq⟩ := Option.map_eq_some_iff.1 info5
  simp only [Prod.mk.injEq] at hq
  obtain ⟨hz0, hz1, hz2⟩ := hq
  have HO := Lib.hid (World.ownsRow_lit (base := w.heap.size) (e := 5) (size := 1) w #[.int .u8 34] 1 (Nat.le_refl _) (by decide) rfl)
  obtain ⟨n, hn⟩ : ∃ n, s.size = n := ⟨_, rfl⟩
  have HN : Hid (s.size = n ∧ n ≤ 262144) := ⟨hn, by omega⟩
  have hni : (s.size : Int) = (n : Int) := by omega
  obtain ⟨B, hB⟩ : ∃ B, w.heap.size = B := ⟨_, rfl⟩
  have HBB := Lib.hid hB
  clear hn hz
  go_enter Tryd.func54, Tryd.ntmps54
  go_wp2_with fail
  go_loopw [3, 4] (fun vo vi wr => ∃ (i m : Nat) (o : List UInt8), vi = .int .i64 (i : Int) ∧ i ≤ n ∧ Hid (o = qso (s.toList.take i)) ∧ Hid (o.length = m) ∧ Hid (wr.ownsRow B 5 1 vo m (bcells o)) ∧ Hid (Below B w wr) ∧ Hid (B ≤ wr.heap.size)) (fun _ vi _ => n - (intOf vi).toNat)
  case atStart =>
    rw [hB] at HO
    exact ⟨0, 1, [34], rfl, Nat.zero_le _, rfl, rfl, HO.out, (Below.refl _ _).alloc (Nat.le_of_eq hB.symm) _, by show B ≤ (w.alloc _).heap.size; simp; omega⟩
  case round =>
    obtain ⟨i, m, o, rfl, hin, HQ, HM, HOW, HB, HS⟩ := hrel
    by_cases hi2 : i < n
    · have his : i < s.size := by have := HN.out.1; omega
      have e1 : (i : Int) < (n : Int) := by omega
      have e2 : (0 : Int) ≤ (i : Int) := by omega
      have e3 : (i : Int) ≤ 262144 := by have := HN.out.2; omega
      have e4 : (i : Int) < (s.size : Int) := by omega
      obtain ⟨b, hb⟩ : ∃ b, s[i] = b := ⟨_, rfl⟩
      have hgb : s.toList[i]? = some b := by rw [tl_get s i his, hb]
      have HQ2 : Hid (o ++ qb b = qso (s.toList.take (i + 1))) := by
        show _ = _
        rw [qso_next _ _ _ hgb, HQ.out]
      obtain ⟨y, hy⟩ : ∃ y, b.toNat = y := ⟨_, rfl⟩
      have hy256 : y < 256 := by rw [← hy]; exact b.toNat_lt
      have HY := Lib.hid hy
      have HI := Lib.hid hi2
      have HMX : Hid (m ≤ 2000000) := by
        have h1 := qso_len (s.toList.take i)
        rw [← HQ.out, HM.out, List.length_take] at h1
        have := HN.out.2
        show m ≤ 2000000
        omega
      obtain ⟨aO, cO, rfl, -⟩ := own_form HOW.out
      clear hgb hi2 hin
      by_cases hc2 : y < 32
      · have g3 : (y : Int) < 32 := by omega
        have hn34 : ¬ (b = 34 ∨ b = 92) := by
          rintro (h | h)
          · rw [h] at hy; rw [← hy] at hc2; exact absurd hc2 (by decide)
          · rw [h] at hy; rw [← hy] at hc2; exact absurd hc2 (by decide)
        have HQ3 : Hid (o ++ [92, 117, 48, 48, hexS (y / 16), hexS (y % 16)] = qso (s.toList.take (i + 1))) := by
          have h9 := HQ2.out
          rw [qb, if_neg hn34, hy, if_pos hc2] at h9
          exact h9
        clear hn34
        go_wp2_with (at_builtin; refine wpList_append_u8 rfl (.tmp 18) (.tmp 25) 66 rfl B 5 i0 Tryd.underlying66 hi hz0 hz1 hz2 _ m _ rfl (HOW.out.alloc _) wr.heap.size 6 6 [92, 117, 48, 48, hexS (y / 16), hexS (y % 16)] rfl rfl (at_cellsW (hexc y hc2 _) (At.ofAlloc wr _ 5)) (by have := HMX.out; omega) (by have := HS.out; simp; omega) ?_; intro v6 w6 hown6 hgrow6; obtain ⟨a6, c6, hv6, -⟩ := own_form hown6; subst hv6; have HO6 := Lib.hid hown6; have HB6 : Hid (Below B w w6) := (HB.out.alloc HS.out _).grown hgrow6 (by have := HS.out; simp; omega) (fun k hk => (HOW.out.lt k hk).1); have HS6 : Hid (B ≤ w6.heap.size) := Nat.le_trans (by have := HS.out; simp; omega) hgrow6.size; clear hown6 hgrow6)
        go_roundw
        case rel => exact ⟨i + 1, m + 6, _, by go_num, HI.out, HQ3, (by show _ = _; rw [List.length_append, HM.out]; rfl), HO6, HB6, HS6⟩
        case measure => have h9 := HI.out; simp [intOf]; omega
      · by_cases hc1 : y = 34 ∨ y = 92
        · have hb92 : b = 34 ∨ b = 92 := by
            rcases hc1 with h | h
            · exact .inl (UInt8.toNat_inj.1 (by rw [hy, h]; rfl))
            · exact .inr (UInt8.toNat_inj.1 (by rw [hy, h]; rfl))
          have HQ3 : Hid (o ++ [92] ++ [b] = qso (s.toList.take (i + 1))) := by
            have h9 := HQ2.out
            rw [qb, if_pos hb92] at h9
            rw [List.append_assoc]
            exact h9
          have g3 : ¬ (y : Int) < 32 := by omega
          clear hb92 hc2
          rcases hc1 with rfl | rfl
          all_goals
            go_wp2_with (first | (at_builtin; refine wpList_append_u8 rfl (.tmp 33) (.tmp 34) 66 rfl B 5 i0 Tryd.underlying66 hi hz0 hz1 hz2 _ m _ rfl (HOW.out.alloc _) wr.heap.size 1 1 [92] rfl rfl (at_cellsW (by rfl) (At.ofAlloc wr #[Value.int .u8 92] 5)) (by have := HMX.out; omega) (by have := HS.out; simp; omega) ?_; intro v7 w7 hown7 hgrow7; obtain ⟨a7, c7, hv7, -⟩ := own_form hown7; subst hv7; have HO7 := Lib.hid hown7; have HB7 : Hid (Below B w w7) := (HB.out.alloc HS.out _).grown hgrow7 (by have := HS.out; simp; omega) (fun k hk => (HOW.out.lt k hk).1); have HS7 : Hid (B ≤ w7.heap.size) := Nat.le_trans (by have := HS.out; simp; omega) hgrow7.size; clear hown7 hgrow7) | (at_builtin; refine wpList_append_u8 rfl (.tmp 36) (.tmp 38) 66 rfl B 5 i0 Tryd.underlying66 hi hz0 hz1 hz2 _ (m + 1) _ rfl (HO7.out.alloc _) w7.heap.size 1 1 [b] rfl rfl (at_cellsW (by show [Value.int .u8 (b.toNat : Int)] = _; rw [HY.out]; rfl) (At.ofAlloc w7 _ 5)) (by have := HMX.out; omega) (by have := HS7.out; simp; omega) ?_; intro v6 w6 hown6 hgrow6; obtain ⟨a6, c6, hv6, -⟩ := own_form hown6; subst hv6; have HO6 := Lib.hid hown6; have HB6 : Hid (Below B w w6) := (HB7.out.alloc HS7.out _).grown hgrow6 (by have := HS7.out; simp; omega) (fun k hk => (HO7.out.lt k hk).1); have HS6 : Hid (B ≤ w6.heap.size) := Nat.le_trans (by have := HS7.out; simp; omega) hgrow6.size; clear hown6 hgrow6))
            go_roundw
            case rel => exact ⟨i + 1, m + 1 + 1, o ++ [92] ++ [b], by go_num, HI.out, HQ3, (by show _ = _; rw [List.length_append, List.length_append, HM.out]; rfl), HO6, HB6, HS6⟩
            case measure => have h9 := HI.out; simp [intOf]; omega
        · have hn34 : ¬ (b = 34 ∨ b = 92) := by
            rintro (h | h)
            · exact hc1 (.inl (by rw [← hy, h]; rfl))
            · exact hc1 (.inr (by rw [← hy, h]; rfl))
          have HQ3 : Hid (o ++ [b] = qso (s.toList.take (i + 1))) := by
            have h9 := HQ2.out
            rw [qb, if_neg hn34, hy, if_neg hc2] at h9
            exact h9
          have g1 : ((y : Int) == 34) = false := eqF (by omega)
          have g2 : ((y : Int) == 92) = false := eqF (by omega)
          have g3 : ¬ (y : Int) < 32 := by omega
          clear hc1 hc2 hn34
          go_wp2_with (at_builtin; refine wpList_append_u8 rfl (.tmp 36) (.tmp 38) 66 rfl B 5 i0 Tryd.underlying66 hi hz0 hz1 hz2 _ m o rfl (HOW.out.alloc _) wr.heap.size 1 1 [b] rfl rfl (at_cellsW (by show [Value.int .u8 (b.toNat : Int)] = _; rw [HY.out]) (At.ofAlloc wr #[Value.int .u8 (y : Int)] 5)) (by have := HMX.out; omega) (by have := HS.out; simp; omega) ?_; intro v6 w6 hown6 hgrow6; obtain ⟨a6, c6, hv6, -⟩ := own_form hown6; subst hv6; have HO6 := Lib.hid hown6; have HB6 : Hid (Below B w w6) := (HB.out.alloc HS.out _).grown hgrow6 (by have := HS.out; simp; omega) (fun k hk => (HOW.out.lt k hk).1); have HS6 : Hid (B ≤ w6.heap.size) := Nat.le_trans (by have := HS.out; simp; omega) hgrow6.size; clear hown6 hgrow6)
          go_roundw
          case rel => exact ⟨i + 1, m + 1, o ++ [b], by go_num, HI.out, HQ3, (by show _ = _; rw [List.length_append, HM.out]; rfl), HO6, HB6, HS6⟩
          case measure => have h9 := HI.out; simp [intOf]; omega
    · obtain rfl : i = n := by omega
      have e1 : ¬ (i : Int) < (i : Int) := by omega
      have HMX : Hid (m ≤ 2000000) := by
        have h1 := qso_len (s.toList.take i)
        rw [← HQ.out, HM.out, List.length_take] at h1
        have := HN.out.2
        show m ≤ 2000000
        omega
      have HQ3 : Hid (o ++ [34] = Jb.quoted s.toList) := by
        show _ = _
        rw [HQ.out, List.take_of_length_le (by rw [tl_size, HN.out.1]; exact Nat.le_refl _), Jb.quoted, qso]
      obtain ⟨aO, cO, rfl, -⟩ := own_form HOW.out
      clear hin hi2
      obtain ⟨L, hL⟩ : ∃ L, o ++ [34] = L := ⟨_, rfl⟩
      have HLL := Lib.hid hL
      have HN9 : Hid (L.length = m + 1) := by show _ = _; rw [← hL, List.length_append, HM.out]; rfl
      have HQ9 := HQ3
      rw [hL] at HQ9
      clear hL
      go_wp2_with (at_builtin; refine wpList_append_u8 rfl (.tmp 40) (.tmp 41) 66 rfl B 5 i0 Tryd.underlying66 hi hz0 hz1 hz2 _ m _ rfl (HOW.out.alloc _) wr.heap.size 1 1 [34] rfl rfl (at_cellsW (by rfl) (At.ofAlloc wr #[Value.int .u8 34] 5)) (by have := HMX.out; omega) (by have := HS.out; simp; omega) ?_; intro v6 w6 hown6 hgrow6; obtain ⟨a6, c6, hv6, -⟩ := own_form hown6; subst hv6; have HO6 : Hid (w6.ownsRow B 5 1 (.slice a6 (m + 1) c6) (m + 1) (bcells L)) := (by rw [← HLL.out]; exact hown6); obtain ⟨g9, hg9⟩ : ∃ g, a6 = some ⟨g, 0, none⟩ := row_some HO6.out; subst hg9; have hcv := jconv_at (P := Tryd.prog) (cap := c6) (At.ofOwnN HO6.out) 66 9 5 (m + 1) HN9.out Tryd.underlying66 Tryd.underlying5 Tryd.underlying9; have HB6 : Hid (Below B w w6) := (HB.out.alloc HS.out _).grown hgrow6 (by have := HS.out; simp; omega) (fun k hk => (HOW.out.lt k hk).1); have HS6 : Hid (B ≤ w6.heap.size) := Nat.le_trans (by have := HS.out; simp; omega) hgrow6.size; clear hown6 hgrow6)
      go_ret
      exact ⟨by rw [← HQ9.out]; rfl, HB6.out⟩
end Jq
end Go.Proofs.YtpaikjlcachabaaDoor
namespace Go.Proofs.YtpaikjlcachabaaDoor
set_option linter.unusedVariables false
set_option linter.unusedSimpArgs false
namespace Jq
open Js Je Jr
theorem foldN_no : ∀ l : List UInt8, l.foldl (fun (w : Option Nat) b => match w with | some x => nextN x b | none => none) none = none
  | [] => rfl
  | b :: l => foldN_no l
theorem steps_fold : ∀ (l : List UInt8) (w : Nat), l.foldl (fun (w : Option Nat) b => match w with | some x => nextN x b | none => none) (some w) = if (nsteps w l).1 = l.length then some (nsteps w l).2 else none
  | [], w => by rw [nsteps]; rfl
  | b :: l, w => by
    show l.foldl (fun (w : Option Nat) b => match w with | some x => nextN x b | none => none) (nextN w b) = _
    cases h : nextN w b with
    | none => rw [nsteps_none h, foldN_no, if_neg (by simp)]
    | some x =>
      rw [nsteps_some h, steps_fold l x, List.length_cons]
      by_cases h1 : (nsteps x l).1 = l.length
      · rw [if_pos h1, if_pos (by omega)]
      · rw [if_neg h1, if_neg (by omega)]
/-- the document's number is the program's -/
theorem num_ok (l : List UInt8) : numOk l = (wholeN (nsteps 0 l).2 && decide ((nsteps 0 l).1 = l.length)) := by
  have e : numOk l = (match l.foldl (fun (w : Option Nat) b => match w with | some x => nextN x b | none => none) (some 0) with | some w => wholeN w | none => false) := rfl
  rw [e, steps_fold]
  by_cases h : (nsteps 0 l).1 = l.length
  · rw [if_pos h, decide_eq_true h, Bool.and_true]
  · rw [if_neg h, decide_eq_false h, Bool.and_false]
end Jq
end Go.Proofs.YtpaikjlcachabaaDoor
namespace Go.Proofs.YtpaikjlcachabaaDoor
open Go.RowKit
set_option linter.unusedVariables false
set_option linter.unusedSimpArgs false
namespace Co
open Js
open Dr (Rs Lm has lack at0S)
theorem ck_eq {P Q : Prop} [Decidable P] [Decidable Q] (k : Nat) (h : P ↔ Q) : (if P then 0 else k) = (match (if Q then none else some k : Option Nat) with | none => 0 | some k => k) := by
  by_cases hq : Q
  · rw [if_pos hq, if_pos (h.2 hq)]
  · rw [if_neg hq, if_neg (fun hp => hq (h.1 hp))]
theorem first_cases (b : Nat) (h : 128 ≤ b) (h2 : b < 256) : 
    ((b < 194 ∨ 244 < b) ∧ Lib.firstT b % 8 = 1) ∨
    (194 ≤ b ∧ b < 224 ∧ Lib.firstT b % 8 = 2 ∧ Lib.accLo (Lib.firstT b / 16) = 128 ∧ Lib.accHi (Lib.firstT b / 16) = 191) ∨
    (b = 224 ∧ Lib.firstT b % 8 = 3 ∧ Lib.accLo (Lib.firstT b / 16) = 160 ∧ Lib.accHi (Lib.firstT b / 16) = 191) ∨
    (224 < b ∧ b < 240 ∧ b ≠ 237 ∧ Lib.firstT b % 8 = 3 ∧ Lib.accLo (Lib.firstT b / 16) = 128 ∧ Lib.accHi (Lib.firstT b / 16) = 191) ∨
    (b = 237 ∧ Lib.firstT b % 8 = 3 ∧ Lib.accLo (Lib.firstT b / 16) = 128 ∧ Lib.accHi (Lib.firstT b / 16) = 159) ∨
    (b = 240 ∧ Lib.firstT b % 8 = 4 ∧ Lib.accLo (Lib.firstT b / 16) = 144 ∧ Lib.accHi (Lib.firstT b / 16) = 191) ∨
    (240 < b ∧ b < 244 ∧ Lib.firstT b % 8 = 4 ∧ Lib.accLo (Lib.firstT b / 16) = 128 ∧ Lib.accHi (Lib.firstT b / 16) = 191) ∨
    (b = 244 ∧ Lib.firstT b % 8 = 4 ∧ Lib.accLo (Lib.firstT b / 16) = 128 ∧ Lib.accHi (Lib.firstT b / 16) = 143) := by
  have : ∀ i : Fin 256, 128 ≤ i.val → (((i.val < 194 ∨ 244 < i.val) ∧ Lib.firstT i.val % 8 = 1) ∨
    (194 ≤ i.val ∧ i.val < 224 ∧ Lib.firstT i.val % 8 = 2 ∧ Lib.accLo (Lib.firstT i.val / 16) = 128 ∧ Lib.accHi (Lib.firstT i.val / 16) = 191) ∨
    (i.val = 224 ∧ Lib.firstT i.val % 8 = 3 ∧ Lib.accLo (Lib.firstT i.val / 16) = 160 ∧ Lib.accHi (Lib.firstT i.val / 16) = 191) ∨
    (224 < i.val ∧ i.val < 240 ∧ i.val ≠ 237 ∧ Lib.firstT i.val % 8 = 3 ∧ Lib.accLo (Lib.firstT i.val / 16) = 128 ∧ Lib.accHi (Lib.firstT i.val / 16) = 191) ∨
    (i.val = 237 ∧ Lib.firstT i.val % 8 = 3 ∧ Lib.accLo (Lib.firstT i.val / 16) = 128 ∧ Lib.accHi (Lib.firstT i.val / 16) = 159) ∨
    (i.val = 240 ∧ Lib.firstT i.val % 8 = 4 ∧ Lib.accLo (Lib.firstT i.val / 16) = 144 ∧ Lib.accHi (Lib.firstT i.val / 16) = 191) ∨
    (240 < i.val ∧ i.val < 244 ∧ Lib.firstT i.val % 8 = 4 ∧ Lib.accLo (Lib.firstT i.val / 16) = 128 ∧ Lib.accHi (Lib.firstT i.val / 16) = 191) ∨
    (i.val = 244 ∧ Lib.firstT i.val % 8 = 4 ∧ Lib.accLo (Lib.firstT i.val / 16) = 128 ∧ Lib.accHi (Lib.firstT i.val / 16) = 143)) := by decide +kernel
  exact this ⟨b, h2⟩ h
theorem validD_utf (l : List UInt8) (hne : l ≠ []) : Lib.validD l = if utfP l = 0 then false else Lib.validD (l.drop (utfP l)) := by
  by_cases h0 : (l.getD 0 0).toNat < 128
  · rw [show utfP l = 1 by rw [utfP, if_neg hne, if_pos h0], if_neg (by decide)]
    cases l with
    | nil => exact absurd rfl hne
    | cons b t => exact Lib.validD_cons b t h0
  · have hl : 0 < l.length := List.length_pos_iff.2 hne
    rw [Lib.validD_lead l hne (by omega)]
    obtain ⟨n, hn⟩ : ∃ n, l.length = n := ⟨_, rfl⟩
    obtain ⟨b0, h00⟩ : ∃ n, (l.getD 0 0).toNat = n := ⟨_, rfl⟩
    obtain ⟨b1, h01⟩ : ∃ n, (l.getD 1 0).toNat = n := ⟨_, rfl⟩
    obtain ⟨b2, h02⟩ : ∃ n, (l.getD 2 0).toNat = n := ⟨_, rfl⟩
    obtain ⟨b3, h03⟩ : ∃ n, (l.getD 3 0).toNat = n := ⟨_, rfl⟩
    have k0 : b0 < 256 := by rw [← h00]; exact (l.getD 0 0).toNat_lt
    have hU : utfP l = (match Lib.checkN n b1 b2 b3 (Lib.firstT b0 % 8) (Lib.accLo (Lib.firstT b0 / 16)) (Lib.accHi (Lib.firstT b0 / 16)) with
      | none => 0
      | some k => k) := by
      rw [utfP, if_neg hne, if_neg h0, utfM2 hn h01, utfM3 hn h01 h02, utfM4 hn h01 h02 h03, h00]
      rw [h00] at h0
      rcases first_cases b0 (by omega) k0 with ⟨h1, h2⟩ | ⟨h1, h1b, h2, h3, h4⟩ | ⟨h1, h2, h3, h4⟩ | ⟨h1, h1b, h1c, h2, h3, h4⟩ | ⟨h1, h2, h3, h4⟩ | ⟨h1, h2, h3, h4⟩ | ⟨h1, h1b, h2, h3, h4⟩ | ⟨h1, h2, h3, h4⟩
      · rw [h2, Lib.checkN, if_neg (show ¬ (1 : Nat) = 2 by decide), if_neg (show ¬ (1 : Nat) = 3 by decide), if_neg (show ¬ (1 : Nat) = 4 by decide)]
        show _ = 0
        by_cases c1 : 192 ≤ b0 ∧ b0 < 224
        · rw [if_pos c1]
          by_cases c2 : n < 2 ∨ b1 < 128 ∨ 191 < b1
          · rw [if_pos (by omega)]
          · rw [if_pos (by omega)]
        · rw [if_neg c1, if_neg (by omega)]
          by_cases c3 : 240 ≤ b0 ∧ b0 < 248
          · rw [if_pos c3]
            by_cases c2 : n < 4 ∨ b1 < 128 ∨ 191 < b1 ∨ b2 < 128 ∨ 191 < b2 ∨ b3 < 128 ∨ 191 < b3
            · rw [if_pos (by omega)]
            · rw [if_pos (by omega)]
          · rw [if_neg c3]
      · rw [h2, h3, h4, Lib.checkN, if_pos (show (2 : Nat) = 2 from rfl), if_pos (show 192 ≤ b0 ∧ b0 < 224 by omega)]
        exact ck_eq 2 (by omega)
      · rw [h2, h3, h4, Lib.checkN, if_neg (show ¬ (3 : Nat) = 2 by decide), if_pos (show (3 : Nat) = 3 from rfl), if_neg (show ¬ (192 ≤ b0 ∧ b0 < 224) by omega), if_pos (show 224 ≤ b0 ∧ b0 < 240 by omega)]
        exact ck_eq 3 (by omega)
      · rw [h2, h3, h4, Lib.checkN, if_neg (show ¬ (3 : Nat) = 2 by decide), if_pos (show (3 : Nat) = 3 from rfl), if_neg (show ¬ (192 ≤ b0 ∧ b0 < 224) by omega), if_pos (show 224 ≤ b0 ∧ b0 < 240 by omega)]
        exact ck_eq 3 (by omega)
      · rw [h2, h3, h4, Lib.checkN, if_neg (show ¬ (3 : Nat) = 2 by decide), if_pos (show (3 : Nat) = 3 from rfl), if_neg (show ¬ (192 ≤ b0 ∧ b0 < 224) by omega), if_pos (show 224 ≤ b0 ∧ b0 < 240 by omega)]
        exact ck_eq 3 (by omega)
      · rw [h2, h3, h4, Lib.checkN, if_neg (show ¬ (4 : Nat) = 2 by decide), if_neg (show ¬ (4 : Nat) = 3 by decide), if_pos (show (4 : Nat) = 4 from rfl), if_neg (show ¬ (192 ≤ b0 ∧ b0 < 224) by omega), if_neg (show ¬ (224 ≤ b0 ∧ b0 < 240) by omega), if_pos (show 240 ≤ b0 ∧ b0 < 248 by omega)]
        exact ck_eq 4 (by omega)
      · rw [h2, h3, h4, Lib.checkN, if_neg (show ¬ (4 : Nat) = 2 by decide), if_neg (show ¬ (4 : Nat) = 3 by decide), if_pos (show (4 : Nat) = 4 from rfl), if_neg (show ¬ (192 ≤ b0 ∧ b0 < 224) by omega), if_neg (show ¬ (224 ≤ b0 ∧ b0 < 240) by omega), if_pos (show 240 ≤ b0 ∧ b0 < 248 by omega)]
        exact ck_eq 4 (by omega)
      · rw [h2, h3, h4, Lib.checkN, if_neg (show ¬ (4 : Nat) = 2 by decide), if_neg (show ¬ (4 : Nat) = 3 by decide), if_pos (show (4 : Nat) = 4 from rfl), if_neg (show ¬ (192 ≤ b0 ∧ b0 < 224) by omega), if_neg (show ¬ (224 ≤ b0 ∧ b0 < 240) by omega), if_pos (show 240 ≤ b0 ∧ b0 < 248 by omega)]
        exact ck_eq 4 (by omega)
    rw [hn, h00, h01, h02, h03, hU]
    cases hc : Lib.checkN n b1 b2 b3 (Lib.firstT b0 % 8) (Lib.accLo (Lib.firstT b0 / 16)) (Lib.accHi (Lib.firstT b0 / 16)) with
    | none => rfl
    | some k =>
      dsimp only
      rw [if_neg]
      unfold Lib.checkN at hc
      repeat' split at hc
      all_goals first | (cases hc; decide) | cases hc
set_option maxRecDepth 100000 in
set_option maxHeartbeats 1600000 in
theorem jtext_any (s : ByteArray) (w : World) (hz : s.size ≤ 140737488351232) : Calls Tryd.prog 53 #[.string s] w (RetBb2 (Lib.validD s.toList) w) := by
  obtain ⟨R, hR⟩ : ∃ R, Lib.validD s.toList = R := ⟨_, rfl⟩
  rw [hR]
  have HR := Lib.hid hR
  have HZ := Lib.hid hz
  clear hR
  go_enter Tryd.func53, Tryd.ntmps53
  go_wp2_with fail
  go_loopw [3] (fun va wr => ∃ a : Nat, va = .int .i64 (a : Int) ∧ a ≤ s.size ∧ Hid (Lib.validD (s.toList.drop a) = R) ∧ Hid (Below w.heap.size w wr)) (fun va _ => s.size - (intOf va).toNat)
  case atStart => exact ⟨0, rfl, Nat.zero_le _, HR.out, Below.refl _ _⟩
  case round =>
    obtain ⟨a, rfl, ha, HV, HB⟩ := hrel
    by_cases h1 : a < s.size
    · have e1 : (a : Int) < (s.size : Int) := by omega
      have hne : s.toList.drop a ≠ [] := by
        intro h
        have := congrArg List.length h
        rw [List.length_drop, tl_size] at this
        simp at this
        omega
      obtain ⟨u, hu⟩ : ∃ u, s.extract a s.size = u := ⟨_, rfl⟩
      have hul : u.toList = s.toList.drop a := by rw [← hu, tl_extract, List.take_of_length_le (by rw [List.length_drop, tl_size]; exact Nat.le_refl _)]
      have U := Lib.hid (fun w' => utf_any u w')
      have hst := validD_utf _ hne
      rw [← hul] at hst
      have hle := utfP_le u.toList
      rw [hul, List.length_drop, tl_size] at hle
      rw [← hul] at hle
      obtain ⟨n, hn⟩ : ∃ n, utfP u.toList = n := ⟨_, rfl⟩
      rw [hn] at U hst hle
      have HA := Lib.hid (And.intro ha h1)
      have hV2 := HV.out
      rw [← hul] at hV2
      rw [hV2] at hst
      by_cases h2 : n = 0
      · subst h2
        rw [if_pos rfl] at hst
        obtain rfl : R = false := hst
        clear hne hle hn h1 ha
        go_wp2_with (first | (go_at_call 72; refine (U.out _).mono ?_; rintro e w1 ⟨rfl, hb1⟩))
        go_ret
        exact ⟨rfl, HB.out.trans (hb1.mono HB.out.size)⟩
      · rw [if_neg h2] at hst
        have e2 : ¬ (n : Int) = 0 := by omega
        obtain ⟨b, hb⟩ : ∃ b, a + n = b := ⟨_, rfl⟩
        have e3 : (a : Int) + (n : Int) = (b : Int) := by omega
        have e4 : IntKind.i64.wrap (b : Int) = (b : Int) := wrap_fit b (by unfold maxLen; omega)
        have HN : Hid (b ≤ s.size ∧ a < b ∧ Lib.validD (s.toList.drop b) = R) := ⟨by omega, by omega, by rw [hst, hul, List.drop_drop, hb]⟩
        clear hst hne hle hn h1 ha h2 hb
        go_wp2_with (first | (go_at_call 72; refine (U.out _).mono ?_; rintro e w1 ⟨rfl, hb1⟩; have HB1 : Hid (Below w.heap.size w w1) := HB.out.trans (hb1.mono HB.out.size); clear hb1))
        go_roundw
        case rel => exact ⟨b, rfl, HN.out.1, HN.out.2.2, HB1⟩
        case measure => have h1 := HN.out.1; have h2 := HN.out.2.1; simp [intOf]; omega
    · obtain rfl : a = s.size := by omega
      have e1 : ¬ (s.size : Int) < (s.size : Int) := by omega
      have hV2 := HV.out
      rw [List.drop_of_length_le (by rw [tl_size]; exact Nat.le_refl _)] at hV2
      obtain rfl : R = true := by rw [← hV2]; rfl
      clear hV2
      go_wp2_with fail
      go_ret
      exact ⟨rfl, HB.out⟩
end Co
end Go.Proofs.YtpaikjlcachabaaDoor
namespace Go.Proofs.YtpaikjlcachabaaDoor
open Go.RowKit
set_option linter.unusedVariables false
set_option linter.unusedSimpArgs false
namespace Jq
open Js Je Jr
set_option maxRecDepth 100000 in
set_option maxHeartbeats 6400000 in
theorem jrright_any (k kids : Int) (s : ByteArray) (hz : s.size ≤ 140737488351232) (w : World) :
    Calls Tryd.prog 31 #[.agg #[.int .i64 k, .int .i64 kids, .string s]] w (fun e w' => e = .returned (.bool (rightV Lib.validD ⟨k, kids, s.toList⟩)) ∧ Below w.heap.size w w') := by
  obtain ⟨R, hR⟩ : ∃ R, rightV Lib.validD ⟨k, kids, s.toList⟩ = R := ⟨_, rfl⟩
  rw [hR]
  have HR := Lib.hid hR
  rw [rightV] at HR
  dsimp only at HR
  have hB := (Below.refl w.heap.size w).alloc (Nat.le_refl _) (Obj.cells #[Value.int .i64 k, Value.int .i64 kids, Value.string s] 61)
  have TX := Lib.hid (fun w => Co.jtext_any s w hz)
  have NU := Lib.hid (fun w => rnumber_any s hz w)
  have HB := Lib.hid hB
  have hsz : w.heap.size ≤ (w.alloc (Obj.cells #[Value.int .i64 k, Value.int .i64 kids, Value.string s] 61)).heap.size := by simp
  have HSZ := Lib.hid hsz
  have hzi : (s.size : Int) ≤ 140737488351232 := by omega
  have hem : decide (s.toList = []) = s.toList.isEmpty := by cases s.toList <;> rfl
  have HEM := Lib.hid hem
  clear hB hz hsz hR hem
  by_cases hn : kids < 0
  · have HF : Hid (R = false) := by
      show R = _
      rw [← HR.out]
      have h1 : kids ≠ 0 := by omega
      have h2 : ¬ 0 ≤ kids := by omega
      repeat' split
      all_goals simp [h1, h2]
    clear HR
    go_enter Tryd.func31, Tryd.ntmps31
    go_wp2_with fail
    go_ret
    exact ⟨by rw [HF.out]; rfl, HB.out⟩
  · obtain ⟨m, rfl⟩ := Int.eq_ofNat_of_zero_le (show 0 ≤ kids by omega)
    clear hn
    rcases (by omega : k = 0 ∨ k = 1 ∨ k = 2 ∨ k = 3 ∨ k = 4 ∨ k = 5 ∨ k = 6 ∨ (k ≠ 0 ∧ k ≠ 1 ∧ k ≠ 2 ∧ k ≠ 3 ∧ k ≠ 4 ∧ k ≠ 5 ∧ k ≠ 6)) with rfl | rfl | rfl | rfl | rfl | rfl | rfl | ⟨q0, q1, q2, q3, q4, q5, q6⟩
    case inl | inr.inl | inr.inr.inl =>
      by_cases hm : m = 0
      · subst hm
        have HF : Hid (R = decide (s.toList = [])) := by
          show R = _
          rw [← HR.out]
          simp
        clear HR
        go_enter Tryd.func31, Tryd.ntmps31
        go_wp2_with fail
        go_ret
        exact ⟨by rw [HF.out, HEM.out]; rfl, HB.out⟩
      · have e1 : 0 < (m : Int) := by omega
        have e2 : ¬ (m : Int) < 0 := by omega
        have HF : Hid (R = false) := by
          show R = _
          rw [← HR.out]
          simp; omega
        clear HR hm
        go_enter Tryd.func31, Tryd.ntmps31
        go_wp2_with fail
        go_ret
        exact ⟨by rw [HF.out]; rfl, HB.out⟩
    · by_cases hm : m = 0
      · subst hm
        rw [num_ok, tl_size] at HR
        unfold RetNum at NU
        obtain ⟨a, ha⟩ : ∃ a, (nsteps 0 s.toList).1 = a := ⟨_, rfl⟩
        obtain ⟨wl, hwl⟩ : ∃ b, wholeN (nsteps 0 s.toList).2 = b := ⟨_, rfl⟩
        rw [ha, hwl] at HR NU
        have HF : Hid (R = (wl && decide (a = s.size))) := by
          show R = _
          rw [← HR.out]
          simp
        clear HR ha hwl
        cases wl with
        | false =>
          go_enter Tryd.func31, Tryd.ntmps31
          go_wp2_with fail
          refine (NU.out _).mono ?_
          rintro e w2 ⟨rfl, rfl⟩
          go_wp2_with fail
          go_ret
          exact ⟨by rw [HF.out]; rfl, HB.out⟩
        | true =>
          by_cases hq : a = s.size
          · subst hq
            have HF2 : Hid (R = true) := by
              show R = _
              rw [HF.out]; simp
            clear HF
            go_enter Tryd.func31, Tryd.ntmps31
            go_wp2_with fail
            refine (NU.out _).mono ?_
            rintro e w2 ⟨rfl, rfl⟩
            go_wp2_with fail
            go_ret
            exact ⟨by rw [HF2.out]; rfl, HB.out⟩
          · have hq2 : ((a : Int) == (s.size : Int)) = false := by rw [beq_eq_false_iff_ne]; omega
            have HF2 : Hid (R = false) := by
              show R = _
              rw [HF.out]; simp [hq]
            clear HF
            go_enter Tryd.func31, Tryd.ntmps31
            go_wp2_with fail
            refine (NU.out _).mono ?_
            rintro e w2 ⟨rfl, rfl⟩
            go_wp2_with fail
            go_ret
            exact ⟨by rw [HF2.out]; rfl, HB.out⟩
      · have e1 : 0 < (m : Int) := by omega
        have e2 : ¬ (m : Int) < 0 := by omega
        have HF : Hid (R = false) := by
          show R = _
          rw [← HR.out]
          simp; omega
        clear HR hm
        go_enter Tryd.func31, Tryd.ntmps31
        go_wp2_with fail
        go_ret
        exact ⟨by rw [HF.out]; rfl, HB.out⟩
    · by_cases hm : m = 0
      · subst hm
        have HF : Hid (R = Lib.validD s.toList) := by
          show R = _
          rw [← HR.out]
          simp
        obtain ⟨vb, hvb⟩ : ∃ b, Lib.validD s.toList = b := ⟨_, rfl⟩
        rw [hvb] at HF TX
        clear HR hvb
        go_enter Tryd.func31, Tryd.ntmps31
        go_wp2_with fail
        refine (TX.out _).mono ?_
        rintro e w2 ⟨rfl, hb2⟩
        have HB2 : Hid (Below w.heap.size w w2) := HB.out.trans (hb2.mono HB.out.size)
        clear hb2
        go_wp2_with fail
        go_ret
        exact ⟨by rw [HF.out]; rfl, HB2.out⟩
      · have e1 : 0 < (m : Int) := by omega
        have e2 : ¬ (m : Int) < 0 := by omega
        have HF : Hid (R = false) := by
          show R = _
          rw [← HR.out]
          simp; omega
        clear HR hm
        go_enter Tryd.func31, Tryd.ntmps31
        go_wp2_with fail
        go_ret
        exact ⟨by rw [HF.out]; rfl, HB.out⟩
    · by_cases hm : m = 0
      · subst hm
        have HF : Hid (R = decide (s.toList = [])) := by
          show R = _
          rw [← HR.out]
          simp
        clear HR
        go_enter Tryd.func31, Tryd.ntmps31
        go_wp2_with fail
        go_ret
        exact ⟨by rw [HF.out, HEM.out]; rfl, HB.out⟩
      · have e1 : 0 < (m : Int) := by omega
        have e2 : ¬ (m : Int) < 0 := by omega
        have HF : Hid (R = decide (s.toList = [])) := by
          show R = _
          rw [← HR.out]
          simp
        clear HR hm
        go_enter Tryd.func31, Tryd.ntmps31
        go_wp2_with fail
        go_ret
        exact ⟨by rw [HF.out, HEM.out]; rfl, HB.out⟩
    · by_cases hm : m = 0
      · subst hm
        have HF : Hid (R = decide (s.toList = [])) := by
          show R = _
          rw [← HR.out]
          simp
        clear HR
        go_enter Tryd.func31, Tryd.ntmps31
        go_wp2_with fail
        go_ret
        exact ⟨by rw [HF.out, HEM.out]; rfl, HB.out⟩
      · by_cases hm2 : m % 2 = 0
        · have e1 : 0 < (m : Int) := by omega
          have e2 : ¬ (m : Int) < 0 := by omega
          have e3 : (m : Int) % 2 = 0 := by omega
          have HF : Hid (R = decide (s.toList = [])) := by
            show R = _
            rw [← HR.out]
            simp [e3]
          clear HR hm hm2
          go_enter Tryd.func31, Tryd.ntmps31
          go_wp2_with fail
          go_ret
          exact ⟨by rw [HF.out, HEM.out]; rfl, HB.out⟩
        · have e1 : 0 < (m : Int) := by omega
          have e2 : ¬ (m : Int) < 0 := by omega
          have e3 : (m : Int) % 2 = 1 := by omega
          have HF : Hid (R = false) := by
            show R = _
            rw [← HR.out]
            simp [e3]
          clear HR hm hm2
          go_enter Tryd.func31, Tryd.ntmps31
          go_wp2_with fail
          go_ret
          exact ⟨by rw [HF.out]; rfl, HB.out⟩
    · have k0 : (k == 0) = false := by rw [beq_eq_false_iff_ne]; exact q0
      have k1 : (k == 1) = false := by rw [beq_eq_false_iff_ne]; exact q1
      have k2 : (k == 2) = false := by rw [beq_eq_false_iff_ne]; exact q2
      have k3 : (k == 3) = false := by rw [beq_eq_false_iff_ne]; exact q3
      have k4 : (k == 4) = false := by rw [beq_eq_false_iff_ne]; exact q4
      have k5 : (k == 5) = false := by rw [beq_eq_false_iff_ne]; exact q5
      have k6 : (k == 6) = false := by rw [beq_eq_false_iff_ne]; exact q6
      have k5' : (k != 5) = true := by rw [bne_iff_ne]; exact q5
      have k6' : (k != 6) = true := by rw [bne_iff_ne]; exact q6
      have HF : Hid (R = false) := by
        show R = _
        rw [← HR.out]
        simp [q0, q1, q2, q3, q4, q5, q6]
      clear HR
      by_cases hm : m = 0
      · subst hm
        go_enter Tryd.func31, Tryd.ntmps31
        go_wp2_with fail
        go_ret
        exact ⟨by rw [HF.out]; rfl, HB.out⟩
      · have e1 : 0 < (m : Int) := by omega
        have e2 : ¬ (m : Int) < 0 := by omega
        clear hm
        go_enter Tryd.func31, Tryd.ntmps31
        go_wp2_with fail
        go_ret
        exact ⟨by rw [HF.out]; rfl, HB.out⟩
end Jq
end Go.Proofs.YtpaikjlcachabaaDoor
