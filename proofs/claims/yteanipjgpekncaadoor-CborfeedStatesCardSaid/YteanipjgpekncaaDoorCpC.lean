/- An argument is read. -/
import Derived.Test.YteanipjgpekncaaDoorCpB
namespace Go.Proofs.YteanipjgpekncaaDoor
open Go.RowKit
set_option linter.unusedVariables false
set_option linter.unusedSimpArgs false
namespace Co
open Dr (Rs Lm has lack at0S)
theorem lack_eq {α : Type} (s : ByteArray) (L : Lm) : (lack s.toList L : Rs α) = .no (lkE L.bytes s) (lkP L.bytes s) (decide (s.size ≤ L.bytes)) := by
  unfold lack Dr.lackE Dr.lackP lkE lkP
  rw [tl_size]
theorem has_yes (s : ByteArray) (L : Lm) (p : Nat) (h : p < s.size ∧ p < L.bytes) : has s.toList L p = true := by rw [has, decide_eq_true_iff, tl_size]; exact h
theorem has_no (s : ByteArray) (L : Lm) (p : Nat) (h : ¬ (p < s.size ∧ p < L.bytes)) : has s.toList L p = false := by rw [has, decide_eq_false_iff_not, tl_size]; exact h
theorem u64c (n : Nat) (h : n < 18446744073709551616) : IntKind.u64.wrap (n : Int) = (n : Int) := by simp [IntKind.wrap, IntKind.bits, IntKind.signed]; omega
theorem u64_num (x : Nat) (h : x < 18446744073709551616) : (BitVec.ofInt 64 (x : Int)).toNat = x := by
  rw [BitVec.toNat_ofInt]; omega
theorem u64_or (x y : Nat) (hx : x < 18446744073709551616) (hy : y < 18446744073709551616) : bits .or .u64 (x : Int) (y : Int) = ((x ||| y : Nat) : Int) := by
  show IntKind.u64.wrap ((BitVec.ofInt 64 (x : Int) ||| BitVec.ofInt 64 (y : Int)).toNat : Nat) = _
  rw [BitVec.toNat_or, u64_num x hx, u64_num y hy]
  exact u64c _ (Nat.or_lt_two_pow (n := 64) hx hy)
theorem or8u (n b : Nat) (hb : b < 256) (hn : 256 * n < 18446744073709551616) : bits .or .u64 ((256 * n : Nat) : Int) (b : Int) = ((256 * n + b : Nat) : Int) := by
  rw [u64_or _ _ hn (by omega)]
  have := Nat.shiftLeft_add_eq_or_of_lt (show b < 2 ^ 8 by omega) n
  rw [Nat.shiftLeft_eq] at this
  rw [show 256 * n = n * 2 ^ 8 by omega, ← this]
section
variable {S : List UInt8} {L : Lm} {p n : Nat}
theorem argB_lt (q : Nat) : ∀ i n, argB S L q i = .ok n → n < 256 ^ i := fun i n h => (argB_inv q i n h).2
theorem argB_no {i j : Nat} {e : Int} {q : Nat} {c : Bool} (h : argB S L p i = .no e q c) (hj : i ≤ j) : argB S L p j = .no e q c := by
  induction hj with
  | refl => exact h
  | step _ ih => rw [argB, ih]
theorem argB_lack {i : Nat} (h : argB S L p i = .ok n) (hh : has S L (p + i + 1) = false) : argB S L p (i + 1) = lack S L := by rw [argB, h]; simp [hh]
theorem argB_next {i d : Nat} (h : argB S L p i = .ok n) (hh : has S L (p + i + 1) = true) (hb : at0S S (p + i + 1) = d) : argB S L p (i + 1) = .ok (256 * n + d) := by
  rw [argB, h]
  simp [hh, hb]
end
/-- an argument is answered, the reader's place is q then; or a fault -/
def RsArg (r : Rs Nat) (q : Nat) (g : Nat) (s : ByteArray) (L : Lm) (l : List Am) (G : List Fr) (vn vs : Value) (ro : Int) (w : World) (e : Ending) (w' : World) : Prop :=
  match r with
  | .ok n => At1 (.int .u64 (n : Int)) g s L q l G vn vs ro w e w'
  | .no c q _ => No c q g w e w'
section
variable (w : World) (g : Nat) (s : ByteArray) (L : Lm) (p : Nat) (l : List Am) (G : List Fr) (vn vs : Value) (ro : Int)
set_option maxRecDepth 100000 in
set_option maxHeartbeats 1600000 in
theorem argument_bad (hR : Rd w g s L (p + 1) l G vn vs ro) (t : Nat) (ht : (s.toList.getD p 0).toNat = t) (c : Int) (hc : headE (s.toList.getD p 0) = c) (h0 : c ≠ 0) (hp : p ≤ 140737488351232) :
    Calls Tryd.prog 65 #[.pointer (some ⟨g, 0, none⟩), .int .u8 (t : Int)] w (No c p g w) := by
  have ht2 : t < 256 := by rw [← ht]; exact (s.toList.getD p 0).toNat_lt
  rw [headE_eq, ht] at hc
  have F := Lib.hid (fun c p w => fail_any c p w)
  have AS := Lib.hid (fun w => cask_any t _ _ ht2 rfl rfl w)
  rw [hc, if_neg h0] at AS
  have HR := Lib.hid hR
  have e1 : ((p + 1 : Nat) : Int) - 1 = (p : Int) := by omega
  have e2 : (p : Int) ≤ 140737488351232 := by omega
  have e3 : (c != 0) = true := by rw [bne_iff_ne]; exact h0
  clear hR hc ht ht2 hp
  go_enter Tryd.func65, Tryd.ntmps65
  go_wp2_with (first
    | (go_at_call 50; refine (place_yes HR.out).mono ?_; rintro e wp ⟨rfl, rfl⟩)
    | (go_at_call 82; refine (AS.out _).mono ?_; rintro e wa ⟨rfl, rfl⟩)
    | (go_at_call 49; refine (F.out _ _ _).mono ?_; rintro e wf ⟨rfl, rfl⟩))
  exact ⟨rfl, rfl, Below.refl _ _⟩
theorem argR_none {S : List UInt8} (h : widT (S.getD p 0) = 0) : argR S L p = .ok (infT (S.getD p 0)) := by rw [argR, h]; rfl
set_option maxRecDepth 100000 in
set_option maxHeartbeats 1600000 in
theorem argument_none (hR : Rd w g s L (p + 1) l G vn vs ro) (t : Nat) (ht : (s.toList.getD p 0).toNat = t) (hc : headE (s.toList.getD p 0) = 0) (hw : widT (s.toList.getD p 0) = 0) (hp : p ≤ 140737488351232) :
    Calls Tryd.prog 65 #[.pointer (some ⟨g, 0, none⟩), .int .u8 (t : Int)] w (RsArg (argR s.toList L p) (p + 1) g s L l G vn vs ro w) := by
  rw [argR_none L p hw]
  have ht2 : t < 256 := by rw [← ht]; exact (s.toList.getD p 0).toNat_lt
  rw [headE_eq, ht] at hc
  rw [widT_eq, ht] at hw
  rw [infT, ht]
  have AS := Lib.hid (fun w => cask_any t _ _ ht2 rfl rfl w)
  rw [hc, if_pos rfl, hw] at AS
  obtain ⟨n, hn⟩ : ∃ n, t % 32 = n := ⟨_, rfl⟩
  rw [hn]
  have e31 := u8_and31 t ht2
  rw [hn] at e31
  have SH : Hid (∀ w, Calls Tryd.prog 83 #[.int .i64 0, .int .u64 (n : Int)] w (RetVal (.bool true) w)) := fun w => short_any 0 n (.inl rfl) (by omega) w
  have HR := Lib.hid hR
  have e1 : ((p + 1 : Nat) : Int) - 1 = (p : Int) := by omega
  have e2 : (p : Int) ≤ 140737488351232 := by omega
  have e4 : IntKind.u64.wrap (n : Int) = (n : Int) := u64c n (by omega)
  clear hR hc ht ht2 hp hw hn
  go_enter Tryd.func65, Tryd.ntmps65
  go_wp2_with (first
    | (go_at_call 50; refine (place_yes HR.out).mono ?_; rintro e wp ⟨rfl, rfl⟩)
    | (go_at_call 82; refine (AS.out _).mono ?_; rintro e wa ⟨rfl, rfl⟩))
  go_loopw [8, 30] (fun vq vi wr => vq = .int .u64 (n : Int) ∧ vi = .int .i64 0 ∧ wr = w) (fun _ _ _ => 0)
  case atStart => exact ⟨rfl, rfl, rfl⟩
  case round =>
    obtain ⟨rfl, rfl, rfl⟩ := hrel
    go_wp2_with (first
      | (go_at_call 83; refine (SH.out _).mono ?_; rintro e wa ⟨rfl, rfl⟩))
    go_ret
    exact ⟨rfl, HR, Below.refl _ _⟩
theorem argR_of {S : List UInt8} {n : Nat} (h : widT (S.getD p 0) ≠ 0) (hB : argB S L p (widT (S.getD p 0)) = .ok n) : argR S L p = if short (widT (S.getD p 0)) n = true then .ok n else .no 9 p false := by
  rw [argR, hB]
  dsimp only
  rw [if_neg h]
theorem argR_no {S : List UInt8} {e : Int} {q : Nat} {c : Bool} (hB : argB S L p (widT (S.getD p 0)) = .no e q c) : argR S L p = .no e q c := by rw [argR, hB]
theorem wid_cases {t : UInt8} (hc : headE t = 0) (hw : widT t ≠ 0) : widT t = 1 ∨ widT t = 2 ∨ widT t = 4 ∨ widT t = 8 := by
  rw [headE] at hc
  rw [widT] at hw ⊢
  split at hc
  · cases hc
  · split at hw
    · exact absurd rfl hw
    · rename_i h1 h2
      rw [if_neg h2]
      rcases (by omega : infT t = 24 ∨ infT t = 25 ∨ infT t = 26 ∨ infT t = 27) with h | h | h | h <;> rw [h] <;> simp
set_option maxRecDepth 100000 in
set_option maxHeartbeats 1600000 in
theorem argument_some (hR : Rd w g s L (p + 1) l G vn vs ro) (t : Nat) (ht : (s.toList.getD p 0).toNat = t) (hc : headE (s.toList.getD p 0) = 0) (hw : widT (s.toList.getD p 0) ≠ 0) (hp1 : p + 1 ≤ s.size) (hz : s.size ≤ 140737488351232) :
    Calls Tryd.prog 65 #[.pointer (some ⟨g, 0, none⟩), .int .u8 (t : Int)] w (RsArg (argR s.toList L p) (p + 1 + widT (s.toList.getD p 0)) g s L l G vn vs ro w) := by
  obtain ⟨W, hW⟩ : ∃ W, widT (s.toList.getD p 0) = W := ⟨_, rfl⟩
  have hWc := wid_cases hc hw
  have hof := fun n => argR_of L p (S := s.toList) (n := n) hw
  have hno := fun e q c => argR_no L p (S := s.toList) (e := e) (q := q) (c := c)
  rw [hW] at hWc hof hno hw ⊢
  have ht2 : t < 256 := by rw [← ht]; exact (s.toList.getD p 0).toNat_lt
  rw [headE_eq, ht] at hc
  rw [widT_eq, ht] at hW
  have AS := Lib.hid (fun w => cask_any t _ _ ht2 rfl rfl w)
  rw [hc, if_pos rfl, hW] at AS
  obtain ⟨n0, hn0⟩ : ∃ n, t % 32 = n := ⟨_, rfl⟩
  have e31 := u8_and31 t ht2
  rw [hn0] at e31
  obtain ⟨R, hRR⟩ : ∃ R, argR s.toList L p = R := ⟨_, rfl⟩
  rw [hRR]
  rw [hRR] at hof hno
  have HOF := Lib.hid hof
  have HNO := Lib.hid hno
  have HZ := Lib.hid hz
  have HW := Lib.hid (show W = 0 ∨ W = 1 ∨ W = 2 ∨ W = 4 ∨ W = 8 by omega)
  have HP1 := Lib.hid (show p + 0 + 1 ≤ s.size by omega)
  have F := Lib.hid (fun c p w => fail_any c p w)
  have HR := Lib.hid hR
  have e1 : ((p + 1 : Nat) : Int) - 1 = (p : Int) := by omega
  have e2 : (p : Int) ≤ 140737488351232 := by omega
  have e4 : IntKind.u64.wrap (n0 : Int) = (n0 : Int) := u64c n0 (by omega)
  have e5 : (0 : Int) < (W : Int) := by omega
  have e5b : 0 < W := by omega
  have e5c : decide (0 < W) = true := decide_eq_true e5b
  clear hR hc ht ht2 hp1 hz hw hn0 hof hno hRR hW hWc
  go_enter Tryd.func65, Tryd.ntmps65
  go_wp2_with (first
    | (go_at_call 50; refine (place_yes HR.out).mono ?_; rintro e wp ⟨rfl, rfl⟩)
    | (go_at_call 82; refine (AS.out _).mono ?_; rintro e wa ⟨rfl, rfl⟩))
  go_loopw [8, 30] (fun vq vi wr => ∃ i n : Nat, vi = .int .i64 (i : Int) ∧ vq = .int .u64 (n : Int) ∧ i ≤ W ∧ Hid (argB s.toList L p i = .ok n) ∧ Hid (Rd wr g s L (p + i + 1) l G vn vs ro) ∧ Hid (Below g w wr) ∧ Hid (p + i + 1 ≤ s.size)) (fun _ vi _ => W - (intOf vi).toNat)
  case atStart => exact ⟨0, 0, rfl, rfl, Nat.zero_le _, rfl, HR, Below.refl _ _, HP1⟩
  case round =>
    obtain ⟨i, n, rfl, rfl, hi, HB, HR2, HB2, HQ⟩ := hrel
    by_cases him : i < W
    · have ei : (i : Int) < (W : Int) := by omega
      have hn8 := argB_lt p _ _ HB.out
      have hn2 : 256 * n < 18446744073709551616 := by
        have h1 : (256 : Nat) ^ i ≤ 256 ^ 7 := Nat.pow_le_pow_right (by decide) (by have := HW.out; omega)
        have h2 : (256 : Nat) ^ 7 = 72057594037927936 := by decide
        omega
      have HI : Hid (∃ j, W = i + 1 + j) := ⟨W - i - 1, by omega⟩
      have e9 : (i : Int) ≤ 8 := by have := HW.out; omega
      by_cases h5 : p + i + 1 < s.size ∧ p + i + 1 < L.bytes
      · obtain ⟨d, hd⟩ : ∃ d, (s.toList.getD (p + i + 1) 0).toNat = d := ⟨_, rfl⟩
        have N2 := Lib.hid (next_yes HR2.out h5.1 h5.2 HZ.out d hd)
        have hd2 : d < 256 := by rw [← hd]; exact (s.toList.getD (p + i + 1) 0).toNat_lt
        have HN := Lib.hid (argB_next HB.out (has_yes s L (p + i + 1) h5) hd)
        have H5 := Lib.hid (show p + (i + 1) + 1 ≤ s.size by omega)
        have ho := or8u n d hd2 hn2
        obtain ⟨m, hm⟩ : ∃ m, 256 * n = m := ⟨_, rfl⟩
        obtain ⟨z, hzz⟩ : ∃ z, 256 * n + d = z := ⟨_, rfl⟩
        rw [hm] at ho
        rw [hm] at hzz
        rw [hzz] at ho
        rw [hm, hzz] at HN
        have hwm : IntKind.u64.wrap ((n : Int) * 256) = (m : Int) := by
          rw [show (n : Int) * 256 = ((m : Nat) : Int) by omega]
          exact u64c m (by omega)
        have hwd : IntKind.u64.wrap (d : Int) = (d : Int) := u64c d (by omega)
        clear hd h5 hm hzz hn2 hn8 him hd2 hi
        go_wp2_with (first
          | (go_at_call 48; refine N2.out.mono ?_; rintro e w3 ⟨rfl, HR3, HB3⟩))
        go_roundw
        case rel => exact ⟨i + 1, z, by go_num, rfl, by obtain ⟨j, hj⟩ := HI.out; omega, HN, HR3, HB2.out.trans HB3.out, H5⟩
        case measure => obtain ⟨j, hj⟩ := HI.out; simp [intOf]; omega
      · have HF : Hid (R = .no (lkE L.bytes s) (lkP L.bytes s) (decide (s.size ≤ L.bytes))) := by
          have h1 := argB_lack HB.out (has_no s L (p + i + 1) h5)
          rw [lack_eq] at h1
          exact HNO.out _ _ _ (argB_no h1 (by omega))
        have N2 := Lib.hid (next_lack HR2.out h5 (by have := HQ.out; have := HZ.out; omega))
        have hwm : IntKind.u64.wrap ((n : Int) * 256) = ((256 * n : Nat) : Int) := by
          rw [show (n : Int) * 256 = ((256 * n : Nat) : Int) by omega]
          exact u64c _ (by omega)
        clear h5 hn2 hn8 him hi
        go_wp2_with (first
          | (go_at_call 48; refine N2.out.mono ?_; rintro e w3 ⟨rfl, hb⟩))
        rw [HF.out]
        exact ⟨rfl, rfl, HB2.out.trans hb⟩
    · obtain rfl : i = W := by omega
      have ei : ¬ (i : Int) < (i : Int) := by omega
      have hn8 := argB_lt p _ _ HB.out
      have hn2 : n < 18446744073709551616 := by
        have h1 : (256 : Nat) ^ i ≤ 256 ^ 8 := Nat.pow_le_pow_right (by decide) (by have := HW.out; omega)
        have h2 : (256 : Nat) ^ 8 = 18446744073709551616 := by decide
        omega
      have SH := Lib.hid (fun w => short_any i n HW.out hn2 w)
      have hR := HOF.out n HB.out
      obtain ⟨sh, hsh⟩ : ∃ sh, short i n = sh := ⟨_, rfl⟩
      rw [hsh] at SH hR
      have HPP : Hid (Rd wr g s L (p + 1 + i) l G vn vs ro) := by show Rd _ _ _ _ _ _ _ _ _ _; rw [show p + 1 + i = p + i + 1 by omega]; exact HR2.out
      cases sh with
      | true =>
        have HF : Hid (R = .ok n) := hR
        clear hR hn2 hn8 him hi hsh
        go_wp2_with (first
          | (go_at_call 83; refine (SH.out _).mono ?_; rintro e wa ⟨rfl, rfl⟩))
        go_ret
        rw [HF.out]
        exact ⟨rfl, HPP, HB2⟩
      | false =>
        have HF : Hid (R = .no 9 p false) := hR
        clear hR hn2 hn8 him hi hsh
        go_wp2_with (first
          | (go_at_call 83; refine (SH.out _).mono ?_; rintro e wa ⟨rfl, rfl⟩)
          | (go_at_call 49; refine (F.out _ _ _).mono ?_; rintro e wf ⟨rfl, rfl⟩))
        rw [HF.out]
        exact ⟨rfl, rfl, HB2.out⟩
/-- an argument is read -/
theorem argument_any (hR : Rd w g s L (p + 1) l G vn vs ro) (t : Nat) (ht : (s.toList.getD p 0).toNat = t) (hc : headE (s.toList.getD p 0) = 0) (hp1 : p + 1 ≤ s.size) (hz : s.size ≤ 140737488351232) :
    Calls Tryd.prog 65 #[.pointer (some ⟨g, 0, none⟩), .int .u8 (t : Int)] w (RsArg (argR s.toList L p) (p + 1 + widT (s.toList.getD p 0)) g s L l G vn vs ro w) := by
  by_cases hw : widT (s.toList.getD p 0) = 0
  · rw [hw]
    exact argument_none w g s L p l G vn vs ro hR t ht hc hw (by omega)
  · exact argument_some w g s L p l G vn vs ro hR t ht hc hw hp1 hz
end
end Co
end Go.Proofs.YteanipjgpekncaaDoor
