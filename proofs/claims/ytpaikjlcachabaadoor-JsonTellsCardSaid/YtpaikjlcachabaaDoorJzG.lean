/- Joined by merge.py: JeH JeI. -/
import Derived.Test.YtpaikjlcachabaaDoorJzF
import Derived.Test.YtpaikjlcachabaaDoorJtC
import Derived.Test.YtpaikjlcachabaaDoorJeU
namespace Go.Proofs.YtpaikjlcachabaaDoor
open Go.RowKit
set_option linter.unusedVariables false
set_option linter.unusedSimpArgs false
namespace Je
open Js
def stepO (w : Option Nat) (b : UInt8) : Option Nat := match w with | some x => nextN x b | none => none
theorem stepO_none (l : List UInt8) : l.foldl stepO none = none := by
  induction l with
  | nil => rfl
  | cons b l ih => exact ih
theorem numOk_eq (l : List UInt8) : numOk l = match l.foldl stepO (some 0) with | some w => wholeN w | none => false := rfl
set_option maxRecDepth 100000 in
set_option maxHeartbeats 3200000 in
theorem jnumber_any (s : ByteArray) (w : World) (hz : s.size ≤ 140737488351232) : Calls Tryd.prog 46 #[.string s] w (fun e w' => e = .returned (.bool (numOk s.toList)) ∧ Below w.heap.size w w') := by
  obtain ⟨n, hn⟩ : ∃ n, s.size = n := ⟨_, rfl⟩
  have HN : Hid (s.size = n ∧ n ≤ 140737488351232) := ⟨hn, by omega⟩
  have hni : (s.size : Int) = (n : Int) := by omega
  obtain ⟨g, hg⟩ : ∃ g, w.heap.size = g := ⟨_, rfl⟩
  clear hz hn
  go_enter Tryd.func46, Tryd.ntmps46
  go_wp2_with fail
  go_loopw [8] (fun vi wr => ∃ (i wv : Nat) (vT : Value), vi = .int .i64 (i : Int) ∧ i ≤ n ∧ wv ≤ 8 ∧ Hid (Nm wr g wv (s.toList.take i) vT) ∧ Hid (s.toList.foldl stepO (some 0) = (s.toList.drop i).foldl stepO (some wv)) ∧ Hid (Below g w wr)) (fun vi _ => n - (intOf vi).toNat)
  case atStart =>
    refine ⟨0, 0, .slice none 0 0, rfl, Nat.zero_le _, Nat.zero_le _, ?_, rfl, ?_⟩
    · rw [List.take_zero, ← hg]
      exact ⟨At.ofAlloc w #[Value.int .i64 0, Value.slice none 0 0] _, World.ownsRow_nil _ _ _ _⟩
    · rw [← hg]
      exact (Below.refl _ _).alloc (Nat.le_refl _) _
  case round =>
    obtain ⟨i, wv, vT, rfl, hin, hw8, HM, HF, HB⟩ := hrel
    by_cases hi : i < n
    · have his : i < s.size := by have := HN.out.1; omega
      have e1 : (i : Int) < (n : Int) := by omega
      have e2 : (0 : Int) ≤ (i : Int) := by omega
      have e3 : (i : Int) ≤ 140737488351232 := by have := HN.out.2; omega
      have e4 : (i : Int) < (s.size : Int) := by omega
      obtain ⟨b, hb⟩ : ∃ b, s[i] = b := ⟨_, rfl⟩
      have hdr : s.toList.drop i = b :: s.toList.drop (i + 1) ∧ s.toList.take (i + 1) = s.toList.take i ++ [b] := by
        have hlt : i < s.toList.length := by rw [tl_size]; exact his
        have h9 := tl_get s i his
        rw [hb, List.getElem?_eq_getElem hlt] at h9
        have h8 : s.toList[i] = b := Option.some.inj h9
        exact ⟨by rw [List.drop_eq_getElem_cons hlt, h8], by rw [List.take_succ_eq_append_getElem hlt, h8]⟩
      have TK := Lib.hid (ntake_any g wv (s.toList.take i) vT b wr hw8 (by rw [List.length_take, tl_size]; have := HN.out; omega) HM.out)
      obtain ⟨y, hy⟩ : ∃ y, b.toNat = y := ⟨_, rfl⟩
      rw [hy] at TK
      have HD := Lib.hid hdr
      have HI := Lib.hid (And.intro hi hw8)
      clear hdr hi hin hw8
      go_wp2_with fail
      refine TK.out.mono ?_
      rintro e w2 (⟨x, vT2, hx, rfl, H2, HT2⟩ | ⟨hx, rfl, rfl⟩)
      · have HF2 : Hid (s.toList.foldl stepO (some 0) = (s.toList.drop (i + 1)).foldl stepO (some x)) := by
          have h9 := HF.out
          rw [HD.out.1, List.foldl_cons, show stepO (some wv) b = some x from hx] at h9
          exact h9
        have HX : Hid (x ≤ 8) := nextN_le wv b x hx
        clear hx
        go_wp2_with fail
        go_roundw
        case rel => exact ⟨i + 1, x, vT2, by go_num, HI.out.1, HX.out, by rw [HD.out.2]; exact H2, HF2, HB.out.trans HT2.out.below⟩
        case measure => have h9 := HI.out.1; simp [intOf]; omega
      · have HF2 : Hid (numOk s.toList = false) := by
          have h9 := HF.out
          rw [HD.out.1, List.foldl_cons, show stepO (some wv) b = none from hx, stepO_none] at h9
          show _ = _
          rw [numOk_eq, h9]
        have e5 : ((if wholeN wv = true then (2 : Int) else 3) != 0) = true := by split <;> decide
        obtain ⟨z, hz⟩ : ∃ z, (if wholeN wv = true then (2 : Int) else 3) = z := ⟨_, rfl⟩
        rw [hz] at e5
        rw [hz]
        clear hx hz
        go_wp2_with fail
        exact bodyPost_ret (v := .bool false) (by simp [results, Tryd.results46, go_sem]) rfl ⟨by rw [HF2.out], by rw [hg]; exact HB.out⟩
    · obtain rfl : i = n := by omega
      have e1 : ¬ (i : Int) < (i : Int) := by omega
      have HF2 : Hid (numOk s.toList = wholeN wv) := by
        have h9 := HF.out
        rw [List.drop_eq_nil_of_le (by rw [tl_size, HN.out.1]; exact Nat.le_refl _)] at h9
        show _ = _
        rw [numOk_eq, h9]
        rfl
      have c0 := HM.out.at0.cell 0 _ rfl
      rw [Nat.zero_add] at c0
      have WH := Lib.hid (nwhole_any g wv wr c0)
      clear hin hi hw8
      go_wp2_with fail
      refine WH.out.mono ?_
      rintro e w2 ⟨rfl, rfl⟩
      go_wp2_with fail
      exact bodyPost_ret (v := .bool (wholeN wv)) (by simp [results, Tryd.results46, go_sem]) rfl ⟨by rw [HF2.out], by rw [hg]; exact HB.out⟩
def RRight (v : Vl) (w : World) (e : Ending) (w' : World) : Prop := e = .returned (.bool (rightV Lib.validD v)) ∧ Below w.heap.size w w'
theorem tl_empty (X : ByteArray) : (X.toList == []) = decide (X.toList = []) := by
  cases h : X.toList with
  | nil => rfl
  | cons b l => rfl
set_option maxRecDepth 100000 in
set_option maxHeartbeats 6400000 in
theorem jright_any (kind kids : Int) (X : ByteArray) (w : World) (hX : X.size ≤ 140737488351232) (hU : ∀ w', Below w.heap.size w w' → U8 w') : Calls Tryd.prog 28 #[.agg #[.int .i64 kind, .int .i64 kids, .string X]] w (RRight ⟨kind, kids, X.toList⟩ w) := by
  obtain ⟨ob, hob⟩ : ∃ x, Obj.cells #[Value.int .i64 kind, Value.int .i64 kids, Value.string X] 61 = x := ⟨_, rfl⟩
  obtain ⟨T, hT⟩ : ∃ T, w.heap.size = T := ⟨_, rfl⟩
  have hA : At (w.alloc ob) T 0 [.int .i64 kind, .int .i64 kids, .string X] := by rw [← hob, ← hT]; exact At.ofAlloc w #[Value.int .i64 kind, Value.int .i64 kids, Value.string X] 61
  have HB : Hid (Below T w (w.alloc ob)) := by rw [← hT]; exact (Below.refl _ _).alloc (Nat.le_refl _) ob
  have NU := Lib.hid (jnumber_any X (w.alloc ob) hX)
  have VA := Lib.hid (jvalid_any X (w.alloc ob) hX (hU _ (by rw [hT]; exact HB.out)))
  have HAT := Lib.hid hA
  have HTL : Hid (T < (w.alloc ob).heap.size) := by show T < _; rw [← hT]; simp
  have k0 := hA.cell 0 _ rfl
  have k1 := hA.cell 1 _ rfl
  have k2 := hA.cell 2 _ rfl
  have HOB := Lib.hid hob
  have HTT := Lib.hid hT
  obtain ⟨r, hr⟩ : ∃ r, rightV Lib.validD ⟨kind, kids, X.toList⟩ = r := ⟨_, rfl⟩
  have HR := Lib.hid hr
  show Calls _ _ _ _ (fun e w' => e = .returned (.bool (rightV Lib.validD ⟨kind, kids, X.toList⟩)) ∧ Below w.heap.size w w')
  rw [hr, hT]
  clear hA hX hU hr
  rw [rightV] at HR
  rcases (by omega : kind = 0 ∨ kind = 1 ∨ kind = 2 ∨ kind = 3 ∨ kind = 4 ∨ kind = 5 ∨ kind = 6 ∨ (kind ≠ 0 ∧ kind ≠ 1 ∧ kind ≠ 2 ∧ kind ≠ 3 ∧ kind ≠ 4 ∧ kind ≠ 5 ∧ kind ≠ 6)) with rfl | rfl | rfl | rfl | rfl | rfl | rfl | hk
  · by_cases hx : X.toList = []
    · have ex : (X.toList == []) = true := by rw [hx]; rfl
      by_cases hk0 : kids = 0
      · have ek : (kids == 0) = true := by rw [hk0]; rfl
        have HRV : Hid (r = true) := by
          show r = _
          rw [← HR.out]
          simp [hx, hk0]
        clear HR hx hk0
        go_enter Tryd.func28, Tryd.ntmps28
        go_upto_region 1 with fail
        try rw [hT]
        try rw [hob]
        clear hT hob
        generalize w.alloc ob = w1 at *
        go_wp2_with fail
        exact bodyPost_ret (v := .bool true) (by simp [results, Tryd.results28, go_sem]) rfl ⟨by rw [HRV.out], HB.out⟩
      · have ek : (kids == 0) = false := by rw [beq_eq_false_iff_ne]; exact hk0
        have HRV : Hid (r = false) := by
          show r = _
          rw [← HR.out]
          simp [hk0]
        clear HR hx hk0
        go_enter Tryd.func28, Tryd.ntmps28
        go_upto_region 1 with fail
        try rw [hT]
        try rw [hob]
        clear hT hob
        generalize w.alloc ob = w1 at *
        go_wp2_with fail
        exact bodyPost_ret (v := .bool false) (by simp [results, Tryd.results28, go_sem]) rfl ⟨by rw [HRV.out], HB.out⟩
    · have ex : (X.toList == []) = false := by rw [tl_empty, decide_eq_false hx]
      have HRV : Hid (r = false) := by
        show r = _
        rw [← HR.out]
        simp [hx]
      clear HR hx
      go_enter Tryd.func28, Tryd.ntmps28
      go_upto_region 1 with fail
      try rw [hT]
      try rw [hob]
      clear hT hob
      generalize w.alloc ob = w1 at *
      go_wp2_with fail
      exact bodyPost_ret (v := .bool false) (by simp [results, Tryd.results28, go_sem]) rfl ⟨by rw [HRV.out], HB.out⟩
  · by_cases hx : X.toList = []
    · have ex : (X.toList == []) = true := by rw [hx]; rfl
      by_cases hk0 : kids = 0
      · have ek : (kids == 0) = true := by rw [hk0]; rfl
        have HRV : Hid (r = true) := by
          show r = _
          rw [← HR.out]
          simp [hx, hk0]
        clear HR hx hk0
        go_enter Tryd.func28, Tryd.ntmps28
        go_upto_region 1 with fail
        try rw [hT]
        try rw [hob]
        clear hT hob
        generalize w.alloc ob = w1 at *
        go_wp2_with fail
        exact bodyPost_ret (v := .bool true) (by simp [results, Tryd.results28, go_sem]) rfl ⟨by rw [HRV.out], HB.out⟩
      · have ek : (kids == 0) = false := by rw [beq_eq_false_iff_ne]; exact hk0
        have HRV : Hid (r = false) := by
          show r = _
          rw [← HR.out]
          simp [hk0]
        clear HR hx hk0
        go_enter Tryd.func28, Tryd.ntmps28
        go_upto_region 1 with fail
        try rw [hT]
        try rw [hob]
        clear hT hob
        generalize w.alloc ob = w1 at *
        go_wp2_with fail
        exact bodyPost_ret (v := .bool false) (by simp [results, Tryd.results28, go_sem]) rfl ⟨by rw [HRV.out], HB.out⟩
    · have ex : (X.toList == []) = false := by rw [tl_empty, decide_eq_false hx]
      have HRV : Hid (r = false) := by
        show r = _
        rw [← HR.out]
        simp [hx]
      clear HR hx
      go_enter Tryd.func28, Tryd.ntmps28
      go_upto_region 1 with fail
      try rw [hT]
      try rw [hob]
      clear hT hob
      generalize w.alloc ob = w1 at *
      go_wp2_with fail
      exact bodyPost_ret (v := .bool false) (by simp [results, Tryd.results28, go_sem]) rfl ⟨by rw [HRV.out], HB.out⟩
  · by_cases hx : X.toList = []
    · have ex : (X.toList == []) = true := by rw [hx]; rfl
      by_cases hk0 : kids = 0
      · have ek : (kids == 0) = true := by rw [hk0]; rfl
        have HRV : Hid (r = true) := by
          show r = _
          rw [← HR.out]
          simp [hx, hk0]
        clear HR hx hk0
        go_enter Tryd.func28, Tryd.ntmps28
        go_upto_region 1 with fail
        try rw [hT]
        try rw [hob]
        clear hT hob
        generalize w.alloc ob = w1 at *
        go_wp2_with fail
        exact bodyPost_ret (v := .bool true) (by simp [results, Tryd.results28, go_sem]) rfl ⟨by rw [HRV.out], HB.out⟩
      · have ek : (kids == 0) = false := by rw [beq_eq_false_iff_ne]; exact hk0
        have HRV : Hid (r = false) := by
          show r = _
          rw [← HR.out]
          simp [hk0]
        clear HR hx hk0
        go_enter Tryd.func28, Tryd.ntmps28
        go_upto_region 1 with fail
        try rw [hT]
        try rw [hob]
        clear hT hob
        generalize w.alloc ob = w1 at *
        go_wp2_with fail
        exact bodyPost_ret (v := .bool false) (by simp [results, Tryd.results28, go_sem]) rfl ⟨by rw [HRV.out], HB.out⟩
    · have ex : (X.toList == []) = false := by rw [tl_empty, decide_eq_false hx]
      have HRV : Hid (r = false) := by
        show r = _
        rw [← HR.out]
        simp [hx]
      clear HR hx
      go_enter Tryd.func28, Tryd.ntmps28
      go_upto_region 1 with fail
      try rw [hT]
      try rw [hob]
      clear hT hob
      generalize w.alloc ob = w1 at *
      go_wp2_with fail
      exact bodyPost_ret (v := .bool false) (by simp [results, Tryd.results28, go_sem]) rfl ⟨by rw [HRV.out], HB.out⟩
  · cases hb : numOk X.toList with
    | true =>
      by_cases hk0 : kids = 0
      · have ek : (kids == 0) = true := by rw [hk0]; rfl
        have HRV : Hid (r = true) := by
          show r = _
          rw [← HR.out]
          simp [hb, hk0]
        clear HR hk0
        go_enter Tryd.func28, Tryd.ntmps28
        go_upto_region 1 with fail
        try rw [hT]
        try rw [hob]
        clear hT hob
        generalize w.alloc ob = w1 at *
        go_wp2_with fail
        refine NU.out.mono ?_
        rintro e w2 ⟨rfl, hb2⟩
        have HB2 : Hid (Below T w w2) := HB.out.trans (hb2.mono (Nat.le_of_lt HTL.out))
        have HA2 := HAT.out.below hb2 HTL.out
        have k12 := HA2.cell 1 _ rfl
        rw [hb]
        clear hb2 HA2
        clear hb
        go_wp2_with fail
        exact bodyPost_ret (v := .bool true) (by simp [results, Tryd.results28, go_sem]) rfl ⟨by rw [HRV.out], HB2.out⟩
      · have ek : (kids == 0) = false := by rw [beq_eq_false_iff_ne]; exact hk0
        have HRV : Hid (r = false) := by
          show r = _
          rw [← HR.out]
          simp [hb, hk0]
        clear HR hk0
        go_enter Tryd.func28, Tryd.ntmps28
        go_upto_region 1 with fail
        try rw [hT]
        try rw [hob]
        clear hT hob
        generalize w.alloc ob = w1 at *
        go_wp2_with fail
        refine NU.out.mono ?_
        rintro e w2 ⟨rfl, hb2⟩
        have HB2 : Hid (Below T w w2) := HB.out.trans (hb2.mono (Nat.le_of_lt HTL.out))
        have HA2 := HAT.out.below hb2 HTL.out
        have k12 := HA2.cell 1 _ rfl
        rw [hb]
        clear hb2 HA2
        clear hb
        go_wp2_with fail
        exact bodyPost_ret (v := .bool false) (by simp [results, Tryd.results28, go_sem]) rfl ⟨by rw [HRV.out], HB2.out⟩
    | false =>
      have HRV : Hid (r = false) := by
        show r = _
        rw [← HR.out]
        simp [hb]
      clear HR
      go_enter Tryd.func28, Tryd.ntmps28
      go_upto_region 1 with fail
      try rw [hT]
      try rw [hob]
      clear hT hob
      generalize w.alloc ob = w1 at *
      go_wp2_with fail
      refine NU.out.mono ?_
      rintro e w2 ⟨rfl, hb2⟩
      have HB2 : Hid (Below T w w2) := HB.out.trans (hb2.mono (Nat.le_of_lt HTL.out))
      have HA2 := HAT.out.below hb2 HTL.out
      have k12 := HA2.cell 1 _ rfl
      rw [hb]
      clear hb2 HA2
      clear hb
      go_wp2_with fail
      exact bodyPost_ret (v := .bool false) (by simp [results, Tryd.results28, go_sem]) rfl ⟨by rw [HRV.out], HB2.out⟩
  · cases hb : Lib.validD X.toList with
    | true =>
      by_cases hk0 : kids = 0
      · have ek : (kids == 0) = true := by rw [hk0]; rfl
        have HRV : Hid (r = true) := by
          show r = _
          rw [← HR.out]
          simp [hb, hk0]
        clear HR hk0
        go_enter Tryd.func28, Tryd.ntmps28
        go_upto_region 1 with fail
        try rw [hT]
        try rw [hob]
        clear hT hob
        generalize w.alloc ob = w1 at *
        go_wp2_with fail
        refine VA.out.mono ?_
        rintro e w2 ⟨rfl, hb2⟩
        have HB2 : Hid (Below T w w2) := HB.out.trans (hb2.mono (Nat.le_of_lt HTL.out))
        have HA2 := HAT.out.below hb2 HTL.out
        have k12 := HA2.cell 1 _ rfl
        rw [hb]
        clear hb2 HA2
        clear hb
        go_wp2_with fail
        exact bodyPost_ret (v := .bool true) (by simp [results, Tryd.results28, go_sem]) rfl ⟨by rw [HRV.out], HB2.out⟩
      · have ek : (kids == 0) = false := by rw [beq_eq_false_iff_ne]; exact hk0
        have HRV : Hid (r = false) := by
          show r = _
          rw [← HR.out]
          simp [hb, hk0]
        clear HR hk0
        go_enter Tryd.func28, Tryd.ntmps28
        go_upto_region 1 with fail
        try rw [hT]
        try rw [hob]
        clear hT hob
        generalize w.alloc ob = w1 at *
        go_wp2_with fail
        refine VA.out.mono ?_
        rintro e w2 ⟨rfl, hb2⟩
        have HB2 : Hid (Below T w w2) := HB.out.trans (hb2.mono (Nat.le_of_lt HTL.out))
        have HA2 := HAT.out.below hb2 HTL.out
        have k12 := HA2.cell 1 _ rfl
        rw [hb]
        clear hb2 HA2
        clear hb
        go_wp2_with fail
        exact bodyPost_ret (v := .bool false) (by simp [results, Tryd.results28, go_sem]) rfl ⟨by rw [HRV.out], HB2.out⟩
    | false =>
      have HRV : Hid (r = false) := by
        show r = _
        rw [← HR.out]
        simp [hb]
      clear HR
      go_enter Tryd.func28, Tryd.ntmps28
      go_upto_region 1 with fail
      try rw [hT]
      try rw [hob]
      clear hT hob
      generalize w.alloc ob = w1 at *
      go_wp2_with fail
      refine VA.out.mono ?_
      rintro e w2 ⟨rfl, hb2⟩
      have HB2 : Hid (Below T w w2) := HB.out.trans (hb2.mono (Nat.le_of_lt HTL.out))
      have HA2 := HAT.out.below hb2 HTL.out
      have k12 := HA2.cell 1 _ rfl
      rw [hb]
      clear hb2 HA2
      clear hb
      go_wp2_with fail
      exact bodyPost_ret (v := .bool false) (by simp [results, Tryd.results28, go_sem]) rfl ⟨by rw [HRV.out], HB2.out⟩
  · by_cases hx : X.toList = []
    · have ex : (X.toList == []) = true := by rw [hx]; rfl
      by_cases hk0 : 0 ≤ kids
      · have ek : decide (0 ≤ kids) = true := decide_eq_true hk0
        have HRV : Hid (r = true) := by
          show r = _
          rw [← HR.out]
          simp [hx, hk0]
        clear HR hx
        go_enter Tryd.func28, Tryd.ntmps28
        go_upto_region 1 with fail
        try rw [hT]
        try rw [hob]
        clear hT hob
        generalize w.alloc ob = w1 at *
        go_wp2_with fail
        exact bodyPost_ret (v := .bool true) (by simp [results, Tryd.results28, go_sem]) rfl ⟨by rw [HRV.out], HB.out⟩
      · have ek : decide (0 ≤ kids) = false := decide_eq_false hk0
        have HRV : Hid (r = false) := by
          show r = _
          rw [← HR.out]
          simp [hk0]
        clear HR hx
        go_enter Tryd.func28, Tryd.ntmps28
        go_upto_region 1 with fail
        try rw [hT]
        try rw [hob]
        clear hT hob
        generalize w.alloc ob = w1 at *
        go_wp2_with fail
        exact bodyPost_ret (v := .bool false) (by simp [results, Tryd.results28, go_sem]) rfl ⟨by rw [HRV.out], HB.out⟩
    · have ex : (X.toList == []) = false := by rw [tl_empty, decide_eq_false hx]
      have HRV : Hid (r = false) := by
        show r = _
        rw [← HR.out]
        simp [hx]
      clear HR hx
      go_enter Tryd.func28, Tryd.ntmps28
      go_upto_region 1 with fail
      try rw [hT]
      try rw [hob]
      clear hT hob
      generalize w.alloc ob = w1 at *
      go_wp2_with fail
      exact bodyPost_ret (v := .bool false) (by simp [results, Tryd.results28, go_sem]) rfl ⟨by rw [HRV.out], HB.out⟩
  · by_cases hx : X.toList = []
    · have ex : (X.toList == []) = true := by rw [hx]; rfl
      by_cases hk0 : 0 ≤ kids
      · obtain ⟨kn, rfl⟩ : ∃ n : Nat, kids = (n : Int) := ⟨kids.toNat, by omega⟩
        have ek : decide (0 ≤ (kn : Int)) = true := decide_eq_true hk0
        by_cases h2 : kn % 2 = 0
        · have e2 : (kn : Int) % 2 = 0 := by omega
          have HRV : Hid (r = true) := by
            show r = _
            rw [← HR.out]
            simp [hx, hk0, e2]
          clear HR hx h2
          go_enter Tryd.func28, Tryd.ntmps28
          go_upto_region 1 with fail
          try rw [hT]
          try rw [hob]
          clear hT hob
          generalize w.alloc ob = w1 at *
          go_wp2_with fail
          exact bodyPost_ret (v := .bool true) (by simp [results, Tryd.results28, go_sem]) rfl ⟨by rw [HRV.out], HB.out⟩
        · have e2 : (kn : Int) % 2 = 1 := by omega
          have HRV : Hid (r = false) := by
            show r = _
            rw [← HR.out]
            simp [hx, hk0, e2]
          clear HR hx h2
          go_enter Tryd.func28, Tryd.ntmps28
          go_upto_region 1 with fail
          try rw [hT]
          try rw [hob]
          clear hT hob
          generalize w.alloc ob = w1 at *
          go_wp2_with fail
          exact bodyPost_ret (v := .bool false) (by simp [results, Tryd.results28, go_sem]) rfl ⟨by rw [HRV.out], HB.out⟩
      · have ek : decide (0 ≤ kids) = false := decide_eq_false hk0
        have HRV : Hid (r = false) := by
          show r = _
          rw [← HR.out]
          simp [hk0]
        clear HR hx
        go_enter Tryd.func28, Tryd.ntmps28
        go_upto_region 1 with fail
        try rw [hT]
        try rw [hob]
        clear hT hob
        generalize w.alloc ob = w1 at *
        go_wp2_with fail
        exact bodyPost_ret (v := .bool false) (by simp [results, Tryd.results28, go_sem]) rfl ⟨by rw [HRV.out], HB.out⟩
    · have ex : (X.toList == []) = false := by rw [tl_empty, decide_eq_false hx]
      have HRV : Hid (r = false) := by
        show r = _
        rw [← HR.out]
        simp [hx]
      clear HR hx
      go_enter Tryd.func28, Tryd.ntmps28
      go_upto_region 1 with fail
      try rw [hT]
      try rw [hob]
      clear hT hob
      generalize w.alloc ob = w1 at *
      go_wp2_with fail
      exact bodyPost_ret (v := .bool false) (by simp [results, Tryd.results28, go_sem]) rfl ⟨by rw [HRV.out], HB.out⟩
  · have n0 : (kind == 0) = false := by rw [beq_eq_false_iff_ne]; exact hk.1
    have n1 : (kind == 1) = false := by rw [beq_eq_false_iff_ne]; exact hk.2.1
    have n2 : (kind == 2) = false := by rw [beq_eq_false_iff_ne]; exact hk.2.2.1
    have n3 : (kind == 3) = false := by rw [beq_eq_false_iff_ne]; exact hk.2.2.2.1
    have n4 : (kind == 4) = false := by rw [beq_eq_false_iff_ne]; exact hk.2.2.2.2.1
    have n5 : (kind == 5) = false := by rw [beq_eq_false_iff_ne]; exact hk.2.2.2.2.2.1
    have n6 : (kind == 6) = false := by rw [beq_eq_false_iff_ne]; exact hk.2.2.2.2.2.2
    have HRV : Hid (r = false) := by
      show r = _
      rw [← HR.out]
      rw [if_neg (by rintro (h | h | h); exact hk.1 h; exact hk.2.1 h; exact hk.2.2.1 h), if_neg hk.2.2.2.1, if_neg hk.2.2.2.2.1, if_neg hk.2.2.2.2.2.1, if_neg hk.2.2.2.2.2.2]
    clear HR hk
    go_enter Tryd.func28, Tryd.ntmps28
    go_upto_region 1 with fail
    try rw [hT]
    try rw [hob]
    clear hT hob
    generalize w.alloc ob = w1 at *
    go_wp2_with fail
    exact bodyPost_ret (v := .bool false) (by simp [results, Tryd.results28, go_sem]) rfl ⟨by rw [HRV.out], HB.out⟩
end Je
end Go.Proofs.YtpaikjlcachabaaDoor
namespace Go.Proofs.YtpaikjlcachabaaDoor
open Go.RowKit
set_option linter.unusedVariables false
set_option linter.unusedSimpArgs false
namespace Je
open Js
/-- a list that lies in memory -/
def SvE (w : World) (v : Value) (l : List Vl) : Prop := ∃ a cap, v = .slice a l.length cap ∧ (l ≠ [] → ∃ k, a = some ⟨k, 0, none⟩ ∧ At w k 0 (vcells l) ∧ k < w.heap.size)
theorem SvE.below {w w' : World} {v : Value} {l : List Vl} (h : SvE w v l) (hb : Below w.heap.size w w') : SvE w' v l := by
  obtain ⟨a, c, hv, h1⟩ := h
  exact ⟨a, c, hv, fun hl => by obtain ⟨k, h2, h3, h4⟩ := h1 hl; exact ⟨k, h2, h3.below hb h4, Nat.lt_of_lt_of_le h4 hb.size⟩⟩
theorem SvE.ofOwn {w : World} {B : Nat} {v : Value} {l : List Vl} (h : w.ownsRow B 61 3 v l.length (vcells l)) : SvE w v l := by
  obtain ⟨a, c, rfl, ha⟩ := own_form h
  refine ⟨a, c, rfl, fun hl => ?_⟩
  obtain ⟨g, rfl⟩ := ha (List.length_pos_iff.2 hl)
  exact ⟨g, rfl, At.ofOwnN h, (h.lt g rfl).2⟩
/-- a value whose numbers and text fit -/
def Fit (x : Vl) : Prop := x.text.length ≤ 140737488351232 ∧ x.kids ≤ 9223372036854775807
def REnc (R : List UInt8 × Int) (w : World) (e : Ending) (w' : World) : Prop := e = .returned (.tuple #[.string ⟨R.1.toArray⟩, .int .i64 R.2]) ∧ Below w.heap.size w w'
theorem right_kids {valid : List UInt8 → Bool} {v : Vl} (h : rightV valid v = true) : 0 ≤ v.kids ∧ 0 ≤ v.kind ∧ v.kind ≤ 6 := by
  rw [rightV] at h
  split at h
  · have := of_decide_eq_true h; omega
  · split at h
    · rw [Bool.and_eq_true] at h; have := of_decide_eq_true h.2; omega
    · split at h
      · rw [Bool.and_eq_true] at h; have := of_decide_eq_true h.2; omega
      · split at h
        · have := of_decide_eq_true h; omega
        · split at h
          · have := of_decide_eq_true h; omega
          · cases h
theorem run_nil (valid : List UInt8 → Bool) (t : Te) : run valid t [] = some t := rfl
theorem run_wrong {valid : List UInt8 → Bool} {t : Te} {v : Vl} {l : List Vl} (h : rightV valid v = false) : run valid t (v :: l) = none := by rw [run, if_neg (by rw [h]; decide)]
theorem run_none {valid : List UInt8 → Bool} {t : Te} {v : Vl} {l : List Vl} (h : rightV valid v = true) (h2 : valueS t v = none) : run valid t (v :: l) = none := by rw [run, if_pos h, h2]
theorem run_some {valid : List UInt8 → Bool} {t t' : Te} {v : Vl} {l : List Vl} (h : rightV valid v = true) (h2 : valueS t v = some t') : run valid t (v :: l) = run valid t' l := by rw [run, if_pos h, h2]
theorem tell_wf {m : Nat} {h' : Hf} {G : List Hf} {o : List UInt8} {d : Nat} {v : Vl} (h : WfS (m + 1) (h' :: G)) (hl : (h' :: G).length ≤ m + 1) (hk : v.kids ≤ 9223372036854775807) : WfS (m + 1) (tellV o (h' :: G) d v).st := by
  have hp : ∀ (names : Option (List (List UInt8))) (e : Nat), (names = none ∨ names = some []) → e < 256 → WfS (m + 1) (⟨v.kids.toNat, v.kids.toNat, names, e⟩ :: h' :: G) := fun names e hn he => ⟨by rw [List.length_cons]; omega, fun f hf => by
    rcases List.mem_cons.1 hf with rfl | hf
    · refine ⟨by show v.kids.toNat ≤ _; omega, Nat.le_refl _, fun xs hx => ?_, he⟩
      rcases hn with h1 | h1
      · have h2 : (names : Option (List (List UInt8))) = some xs := hx
        rw [h1] at h2; cases h2
      · have h2 : (names : Option (List (List UInt8))) = some xs := hx
        rw [h1] at h2
        injection h2 with h2
        rw [← h2]; exact Nat.zero_le _
    · exact h.all f hf⟩
  rw [tellV]
  split
  · exact h
  · split
    · exact h
    · split
      · exact h
      · split
        · exact h
        · split
          · exact h
          · split
            · exact hp none 93 (.inl rfl) (by decide)
            · split
              · exact hp (some []) 125 (.inr rfl) (by decide)
              · exact h
theorem valueS_wf {m : Nat} {t t' : Te} {v : Vl} (h : WfS m t.st) (hv : valueS t v = some t') (hk : v.kids ≤ 9223372036854775807) : WfS (m + 1) t'.st := by
  have h1 := h.ends t.out
  cases hst : (endS t.out t.st).2 with
  | nil => rw [valueS_nil hst] at hv; cases hv
  | cons f G =>
    rw [hst] at h1
    cases hp : placed f v with
    | none => rw [valueS_none hst hp] at hv; cases hv
    | some x =>
      obtain ⟨h', pre⟩ := x
      rw [valueS_some hst hp] at hv
      injection hv with hv
      rw [← hv]
      have h2 := placed_wf h1 hp
      exact tell_wf h2.1 h2.2 hk
theorem wf0 : WfS 0 te0.st := ⟨by decide, fun f hf => by
  have h1 : f = base := by simpa [te0] using hf
  subst h1
  exact ⟨by decide, by decide, fun xs hx => absurd (show (none : Option (List (List UInt8))) = some xs from hx) (by simp), by decide⟩⟩
theorem base_own (w : World) : ((w.alloc (Obj.cells #[.int .i64 1, .int .i64 1, .map none, .int .u8 0] 64))).ownsRow w.heap.size 64 4 (.slice (some ⟨w.heap.size, 0, none⟩) 1 1) 1 (hcells [base] [none]) := by
  refine ⟨rfl, .inr ⟨w.heap.size, 1, #[.int .i64 1, .int .i64 1, .map none, .int .u8 0], rfl, Nat.le_refl _, (MapKept.heap_alloc w _).1, Nat.le_refl _, by unfold maxLen; omega, by decide, rfl⟩⟩
theorem tm0 (w : World) : Tm ((w.alloc (Obj.cells #[.int .i64 1, .int .i64 1, .map none, .int .u8 0] 64)).alloc (Obj.cells #[.slice none 0 0, .slice (some ⟨w.heap.size, 0, none⟩) 1 1, .int .i64 0] 68)) w.heap.size (w.heap.size + 1) te0 (.slice none 0 0) (.slice (some ⟨w.heap.size, 0, none⟩) 1 1) [none] := by
  have hs : (w.alloc (Obj.cells #[.int .i64 1, .int .i64 1, .map none, .int .u8 0] 64)).heap.size = w.heap.size + 1 := by simp
  have hA := At.ofAlloc (w.alloc (Obj.cells #[.int .i64 1, .int .i64 1, .map none, .int .u8 0] 64)) #[.slice none 0 0, .slice (some ⟨w.heap.size, 0, none⟩) 1 1, .int .i64 0] 68
  have hT := (MapKept.heap_alloc (w.alloc (Obj.cells #[.int .i64 1, .int .i64 1, .map none, .int .u8 0] 64)) (Obj.cells #[.slice none 0 0, .slice (some ⟨w.heap.size, 0, none⟩) 1 1, .int .i64 0] 68)).1
  rw [hs] at hA hT
  exact ⟨hA, ⟨_, hT⟩, World.ownsRow_nil _ _ _ _, (base_own w).alloc _, .arr .nil rfl, Nat.le_succ _⟩
set_option maxRecDepth 100000 in
set_option maxHeartbeats 6400000 in
theorem jencode_any (l : List Vl) (v : Value) (w : World) (hS : SvE w v l) (hfit : ∀ x ∈ l, Fit x) (hU : UT w.heap.size w) (hl : l.length ≤ 140737488351232) : Calls Tryd.prog 13 #[v] w (REnc (enc Lib.validD l) w) := by
  obtain ⟨a, cap, rfl, hl1⟩ := hS
  obtain ⟨R, hR⟩ : ∃ R, enc Lib.validD l = R := ⟨_, rfl⟩
  have HRR := Lib.hid hR
  rw [hR]
  rw [enc] at HRR
  obtain ⟨n, hn⟩ : ∃ n, l.length = n := ⟨_, rfl⟩
  rw [hn]
  rw [hn] at hl HRR
  have HN := Lib.hid hn
  have HU := Lib.hid hU
  have HL1 := Lib.hid hl1
  have HFT := Lib.hid hfit
  clear hR hn hU hl1 hfit
  by_cases h4 : 4096 < n
  · have e1 : (4096 : Int) < (n : Int) := by omega
    have HX : Hid (([], 10) = R) := by
      have h9 := HRR.out
      rw [if_pos h4] at h9
      exact h9
    clear h4
    go_enter Tryd.func13, Tryd.ntmps13
    go_wp2_with fail
    exact bodyPost_ret (v := .tuple #[.string ⟨#[]⟩, .int .i64 10]) (by simp [results, Tryd.results13, go_sem]) rfl ⟨by rw [← HX.out], Below.refl _ _⟩
  · have e1 : ¬ (4096 : Int) < (n : Int) := by omega
    go_enter Tryd.func13, Tryd.ntmps13
    go_upto_region 4 with fail
    have HT0 := Lib.hid (tm0 w)
    have HB0 : Hid (Below w.heap.size w ((w.alloc (Obj.cells #[.int .i64 1, .int .i64 1, .map none, .int .u8 0] 64)).alloc (Obj.cells #[.slice none 0 0, .slice (some ⟨w.heap.size, 0, none⟩) 1 1, .int .i64 0] 68))) := ((Below.refl _ _).alloc (Nat.le_refl _) _).alloc (by simp) _
    generalize (w.alloc (Obj.cells #[.int .i64 1, .int .i64 1, .map none, .int .u8 0] 64)).alloc (Obj.cells #[.slice none 0 0, .slice (some ⟨w.heap.size, 0, none⟩) 1 1, .int .i64 0] 68) = w0 at HT0 HB0 ⊢
    have HRR2 : Hid ((match run Lib.validD te0 l with
      | none => (([], 9) : List UInt8 × Int)
      | some t => if (endS t.out t.st).2 = [] then (if 32 < t.deep ∨ 262144 < (endS t.out t.st).1.length then ([], 10) else ((endS t.out t.st).1, 0)) else ([], 9)) = R) := by
      have h9 := HRR.out
      rw [if_neg h4] at h9
      exact h9
    obtain ⟨B, hB⟩ : ∃ B, w.heap.size = B := ⟨_, rfl⟩
    obtain ⟨g, hg⟩ : ∃ g, w.heap.size + 1 = g := ⟨_, rfl⟩
    have HBG : Hid (w.heap.size = B) := hB
    try rw [hg]
    rw [hg, hB] at HT0
    rw [hB] at HB0
    have HN4 : Hid (n ≤ 4096) := Nat.le_of_not_lt h4
    clear h4 hg hB HRR
    go_wp2_with fail
    go_loopw [15] (fun vi wr => ∃ (i : Nat) (t : Te) (vO vS : Value) (bs : List (Option Nat)), vi = .int .i64 (i : Int) ∧ i ≤ n ∧ Hid (Tm wr B g t vO vS bs) ∧ Hid (WfS i t.st) ∧ Hid (run Lib.validD te0 l = run Lib.validD t (l.drop i)) ∧ Hid (Below B w wr)) (fun vi _ => n - (intOf vi).toNat)
    case atStart => exact ⟨0, te0, _, _, _, rfl, Nat.zero_le _, HT0, wf0, rfl, HB0⟩
    case round =>
      obtain ⟨i, t, vO, vS, bs, rfl, hin, HT, HW, HE, HB⟩ := hrel
      clear HT0 HB0
      by_cases hi : i < n
      · have hil : i < l.length := by rw [HN.out]; exact hi
        have hne : l ≠ [] := fun h => by rw [h] at hil; simp at hil
        obtain ⟨k, rfl, hAk, hkl⟩ := HL1.out hne
        have hA := (value_at hAk i hil).below (HBG.out ▸ HB.out) hkl
        rw [Nat.zero_add] at hA
        obtain ⟨x, hx⟩ : ∃ x, l.getD i v0 = x := ⟨_, rfl⟩
        rw [hx] at hA
        have hdr : l.drop i = x :: l.drop (i + 1) := by
          rw [List.drop_eq_getElem_cons hil, ← hx, List.getD, List.getElem?_eq_getElem hil]; rfl
        have hfx : Fit x := HFT.out x (by rw [← hx, List.getD, List.getElem?_eq_getElem hil]; exact List.getElem_mem hil)
        obtain ⟨X, hX⟩ : ∃ X : ByteArray, (⟨x.text.toArray⟩ : ByteArray) = X := ⟨_, rfl⟩
        have hXl : X.toList = x.text := by rw [← hX]; exact tl_mk x.text
        obtain ⟨kd, hkd⟩ : ∃ z, x.kind = z := ⟨_, rfl⟩
        obtain ⟨ks, hks⟩ : ∃ z, x.kids = z := ⟨_, rfl⟩
        have hxe : x = ⟨kd, ks, X.toList⟩ := by
          obtain ⟨a1, a2, a3⟩ := x
          rw [hXl, ← hkd, ← hks]
        have c0 := hA.cell 0 _ rfl
        have c1 := hA.cell 1 _ rfl
        have c2 := hA.cell 2 _ rfl
        rw [hkd, Nat.add_zero] at c0
        rw [hks] at c1
        rw [hX] at c2
        have hXz : X.size ≤ 140737488351232 := by rw [← tl_size, hXl]; exact hfx.1
        have hks2 : ks ≤ 9223372036854775807 := by rw [← hks]; exact hfx.2
        have e2 : (i : Int) < (n : Int) := by omega
        have e3 : (0 : Int) ≤ (i : Int) := by omega
        have e4 : (i : Int) ≤ 140737488351232 := by have := HN4.out; omega
        have HX := Lib.hid (And.intro hXz hks2)
        have HI := Lib.hid hi
        have HE2 : Hid (run Lib.validD te0 l = run Lib.validD t (⟨kd, ks, X.toList⟩ :: l.drop (i + 1))) := by
          have h9 := HE.out
          rw [hdr, hxe] at h9
          exact h9
        obtain ⟨ob, hob⟩ : ∃ y, Obj.cells #[Value.int .i64 kd, Value.int .i64 ks, Value.string X] 61 = y := ⟨_, rfl⟩
        obtain ⟨T, hT⟩ : ∃ T, wr.heap.size = T := ⟨_, rfl⟩
        have HA : Hid (At (wr.alloc ob) T 0 [.int .i64 kd, .int .i64 ks, .string X] ∧ T < (wr.alloc ob).heap.size) := by
          rw [← hob, ← hT]
          exact ⟨At.ofAlloc wr #[Value.int .i64 kd, Value.int .i64 ks, Value.string X] 61, by simp⟩
        have HT1 := Lib.hid (HT.out.alloc ob)
        have HB1 : Hid (Below B w (wr.alloc ob)) := HB.out.alloc HT.out.hb ob
        have HOB := Lib.hid hob
        have k0 := HA.out.1.cell 0 _ rfl
        have k1 := HA.out.1.cell 1 _ rfl
        have k2 := HA.out.1.cell 2 _ rfl
        have RG := Lib.hid (jright_any kd ks X (wr.alloc ob) hXz (fun w' hb' => (HU.out.below ((HBG.out ▸ HB1.out).trans (hb'.mono (by have h9 := HB1.out.size; exact h9)))).1))
        clear hA hAk hkl hx hdr hfx hX hXl hkd hks hxe hXz hks2 hne hil hi hin
        go_upto_region 7 with fail
        try rw [hT]
        try rw [hob]
        clear hT hob
        generalize wr.alloc ob = w1 at *
        go_wp2_with fail
        refine RG.out.mono ?_
        rintro e w2 ⟨rfl, hb2⟩
        have HT2 := Lib.hid (HT1.out.below hb2)
        have HB2 : Hid (Below B w w2) := HB1.out.trans (hb2.mono HT1.out.hb)
        have HA2 := Lib.hid (HA.out.1.below hb2 HA.out.2)
        have k02 := HA2.out.cell 0 _ rfl
        have k12 := HA2.out.cell 1 _ rfl
        have k22 := HA2.out.cell 2 _ rfl
        clear hb2 k0 k1 k2 c0 c1 c2
        cases hr : rightV Lib.validD ⟨kd, ks, X.toList⟩ with
        | false =>
          have HRX : Hid (([], 9) = R) := by
            have h9 := HRR2.out
            rw [HE2.out, run_wrong hr] at h9
            exact h9
          clear hr
          go_wp2_with fail
          exact bodyPost_ret (v := .tuple #[.string ⟨#[]⟩, .int .i64 9]) (by simp [results, Tryd.results13, go_sem]) rfl ⟨by rw [← HRX.out], by rw [HBG.out]; exact HB2.out⟩
        | true =>
          have hkk := right_kids hr
          obtain ⟨kn, hkn⟩ : ∃ m : Nat, ks = (m : Int) := ⟨ks.toNat, by have := hkk.1; show ks = _; have h9 : 0 ≤ ks := hkk.1; omega⟩
          have VL := Lib.hid (jvalue_any w2 B g i t vO vS bs HT2.out HW.out (by have := HN4.out; have := HI.out; omega) X HX.out.1 kd kn hkk.2)
          rw [← hkn] at VL
          have HR1 := Lib.hid hr
          have HKN := Lib.hid hkn
          clear hr hkk hkn
          go_wp2_with fail
          refine VL.out.mono ?_
          rintro e w3 (⟨hv, rfl, HB3⟩ | ⟨t', hv, rfl, ⟨vO3, vS3, bs3, H3⟩, HB3⟩)
          · have HRX : Hid (([], 9) = R) := by
              have h9 := HRR2.out
              rw [HE2.out, run_none HR1.out hv] at h9
              exact h9
            clear hv
            go_wp2_with fail
            exact bodyPost_ret (v := .tuple #[.string ⟨#[]⟩, .int .i64 9]) (by simp [results, Tryd.results13, go_sem]) rfl ⟨by rw [← HRX.out], by rw [HBG.out]; exact HB2.out.trans HB3.out.below⟩
          · have HE3 : Hid (run Lib.validD te0 l = run Lib.validD t' (l.drop (i + 1))) := by
              show _ = _
              rw [HE2.out, run_some HR1.out hv]
            have HW3 : Hid (WfS (i + 1) t'.st) := valueS_wf HW.out hv HX.out.2
            have HB3w := Lib.hid (HB2.out.trans HB3.out.below)
            clear hv
            go_wp2_with fail
            go_roundw
            case rel => exact ⟨i + 1, t', vO3, vS3, bs3, by go_num, HI.out, H3, HW3, HE3, HB3w⟩
            case measure => have h9 := HI.out; simp [intOf]; omega
      · obtain rfl : i = n := by omega
        have e2 : ¬ (i : Int) < (i : Int) := by omega
        have HS : Hid (run Lib.validD te0 l = some t) := by
          have h9 := HE.out
          rw [List.drop_eq_nil_of_le (by rw [HN.out]; exact Nat.le_refl _), run_nil] at h9
          exact h9
        have HRX : Hid ((if (endS t.out t.st).2 = [] then (if 32 < t.deep ∨ 262144 < (endS t.out t.st).1.length then ([], 10) else ((endS t.out t.st).1, 0)) else (([], 9) : List UInt8 × Int)) = R) := by
          have h9 := HRR2.out
          rw [HS.out] at h9
          exact h9
        have ED := Lib.hid (jended_any wr B g t vO vS bs HT.out (by have := HW.out.len; have := HN4.out; omega) (fun f hf => (HW.out.all f hf).2.2.2))
        clear hin hi
        go_wp2_with fail
        refine ED.out.mono ?_
        rintro e w2 ⟨rfl, ⟨vO2, vS2, bs2, H2⟩, HB2⟩
        have HB2w := Lib.hid (HB.out.trans HB2.out.below)
        by_cases hend : (endS t.out t.st).2 = []
        · rw [decide_eq_true hend]
          obtain ⟨o2, ho2⟩ : ∃ o, (endS t.out t.st).1 = o := ⟨_, rfl⟩
          obtain ⟨dp, hdp⟩ : ∃ d, t.deep = d := ⟨_, rfl⟩
          rw [if_pos hend, ho2, hdp] at HRX
          rw [hend, ho2, hdp] at H2
          have c2 := H2.out.at0.cell 2 _ rfl
          have c0 : w2.cell? ⟨g, 0 + 0, none⟩ = some vO2 := H2.out.at0.cell 0 _ rfl
          obtain ⟨aO, cO, rfl, -⟩ := own_form H2.out.out
          obtain ⟨mo, hmo⟩ : ∃ m, o2.length = m := ⟨_, rfl⟩
          rw [show ({ out := o2, st := [], deep := dp } : Te).out.length = mo from hmo] at c0
          have hcv := run_convert_own (P := Tryd.prog) H2.out.out 66 9 Tryd.underlying66 Tryd.underlying5 Tryd.underlying9
          rw [show ({ out := o2, st := [], deep := dp } : Te).out = o2 from rfl, hmo] at hcv
          clear hend ho2 hdp
          by_cases hd : 32 < dp
          · have e5 : (32 : Int) < (dp : Int) := by omega
            rw [if_pos (.inl hd)] at HRX
            clear hcv hd
            go_wp2_with fail
            exact bodyPost_ret (v := .tuple #[.string ⟨#[]⟩, .int .i64 10]) (by simp [results, Tryd.results13, go_sem]) rfl ⟨by rw [← HRX.out], by rw [HBG.out]; exact HB2w.out⟩
          · have e5 : ¬ (32 : Int) < (dp : Int) := by omega
            by_cases hm : 262144 < mo
            · have e6 : (262144 : Int) < (mo : Int) := by omega
              rw [if_pos (.inr (by rw [hmo]; exact hm))] at HRX
              clear hcv hd hm
              go_wp2_with fail
              exact bodyPost_ret (v := .tuple #[.string ⟨#[]⟩, .int .i64 10]) (by simp [results, Tryd.results13, go_sem]) rfl ⟨by rw [← HRX.out], by rw [HBG.out]; exact HB2w.out⟩
            · have e6 : ¬ (262144 : Int) < (mo : Int) := by omega
              rw [if_neg (by rintro (h | h); exact hd h; rw [hmo] at h; exact hm h)] at HRX
              clear hd hm
              go_wp2_with fail
              exact bodyPost_ret (v := .tuple #[.string ⟨o2.toArray⟩, .int .i64 0]) (by simp [results, Tryd.results13, go_sem]) rfl ⟨by rw [← HRX.out], by rw [HBG.out]; exact HB2w.out⟩
        · rw [decide_eq_false hend]
          rw [if_neg hend] at HRX
          clear hend
          go_wp2_with fail
          exact bodyPost_ret (v := .tuple #[.string ⟨#[]⟩, .int .i64 9]) (by simp [results, Tryd.results13, go_sem]) rfl ⟨by rw [← HRX.out], by rw [HBG.out]; exact HB2w.out⟩
end Je
end Go.Proofs.YtpaikjlcachabaaDoor
