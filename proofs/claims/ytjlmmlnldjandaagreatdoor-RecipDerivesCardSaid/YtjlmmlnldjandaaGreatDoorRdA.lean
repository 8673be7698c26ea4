/- Keys of passwords by an algorithm's name: both sides; the walk of RecipDerives. -/
import Derived.Test.YtjlmmlnldjandaaGreatDoorRcE
import Derived.Test.YtjlmmlnldjandaaGreatDoorPbA
import Derived.Test.YtjlmmlnldjandaaGreatDoorPbB
namespace Go.Proofs.YtjlmmlnldjandaaGreatDoor
open Go.RowKit
set_option linter.unusedVariables false
set_option linter.unusedSimpArgs false
def kdK (nm : ByteArray) : Int := if ([80, 66, 69, 83, 50, 45, 72, 83, 50, 53, 54, 43, 65, 49, 50, 56, 75, 87] : List UInt8) = nm.toList then 256 else if ([80, 66, 69, 83, 50, 45, 72, 83, 51, 56, 52, 43, 65, 49, 57, 50, 75, 87] : List UInt8) = nm.toList then 384 else if ([80, 66, 69, 83, 50, 45, 72, 83, 53, 49, 50, 43, 65, 50, 53, 54, 75, 87] : List UInt8) = nm.toList then 512 else 0
def kdN (nm : ByteArray) : Int := if ([80, 66, 69, 83, 50, 45, 72, 83, 50, 53, 54, 43, 65, 49, 50, 56, 75, 87] : List UInt8) = nm.toList then 16 else if ([80, 66, 69, 83, 50, 45, 72, 83, 51, 56, 52, 43, 65, 49, 57, 50, 75, 87] : List UInt8) = nm.toList then 24 else if ([80, 66, 69, 83, 50, 45, 72, 83, 53, 49, 50, 43, 65, 50, 53, 54, 75, 87] : List UInt8) = nm.toList then 32 else 0
def RetKd (nm : ByteArray) (w : World) (e : Ending) (w' : World) : Prop := e = .returned (.tuple #[.int .i64 (kdK nm), .int .i64 (kdN nm)]) ∧ w = w'
theorem lit_ne {x : List UInt8} {y : ByteArray} (h : x ≠ y.toList) : (x == y.toList) = false ∧ (y.toList == x) = false ∧ ¬ x = y.toList ∧ ¬ y.toList = x := ⟨by rw [beq_eq_false_iff_ne]; exact h, by rw [beq_eq_false_iff_ne]; exact fun e => h e.symm, h, fun e => h e.symm⟩
set_option maxRecDepth 100000 in
set_option maxHeartbeats 1600000 in
theorem rkind_any (nm : ByteArray) (w : World) : Calls Tryz.prog 44 #[.string nm] w (RetKd nm w) := by
  by_cases h1 : ([80, 66, 69, 83, 50, 45, 72, 83, 50, 53, 54, 43, 65, 49, 50, 56, 75, 87] : List UInt8) = nm.toList
  · unfold RetKd
    rw [show kdK nm = 256 by rw [kdK, if_pos h1], show kdN nm = 16 by rw [kdN, if_pos h1]]
    obtain rfl : nm = (ByteArray.mk #[80, 66, 69, 83, 50, 45, 72, 83, 50, 53, 54, 43, 65, 49, 50, 56, 75, 87]) := tl_inj (by rw [← h1]; exact (tl_mk _).symm)
    clear h1
    go_enter Tryz.func44, Tryz.ntmps44
    go_wp2_with fail
    go_ret2
    exact ⟨rfl, rfl⟩
  obtain ⟨a1, a2, a3, a4⟩ := lit_ne h1
  by_cases h2 : ([80, 66, 69, 83, 50, 45, 72, 83, 51, 56, 52, 43, 65, 49, 57, 50, 75, 87] : List UInt8) = nm.toList
  · unfold RetKd
    rw [show kdK nm = 384 by rw [kdK, if_neg h1, if_pos h2], show kdN nm = 24 by rw [kdN, if_neg h1, if_pos h2]]
    obtain rfl : nm = (ByteArray.mk #[80, 66, 69, 83, 50, 45, 72, 83, 51, 56, 52, 43, 65, 49, 57, 50, 75, 87]) := tl_inj (by rw [← h2]; exact (tl_mk _).symm)
    clear h1 h2 a1 a2 a3 a4
    go_enter Tryz.func44, Tryz.ntmps44
    go_wp2_with fail
    go_ret2
    exact ⟨rfl, rfl⟩
  obtain ⟨b1, b2, b3, b4⟩ := lit_ne h2
  by_cases h3 : ([80, 66, 69, 83, 50, 45, 72, 83, 53, 49, 50, 43, 65, 50, 53, 54, 75, 87] : List UInt8) = nm.toList
  · unfold RetKd
    rw [show kdK nm = 512 by rw [kdK, if_neg h1, if_neg h2, if_pos h3], show kdN nm = 32 by rw [kdN, if_neg h1, if_neg h2, if_pos h3]]
    obtain rfl : nm = (ByteArray.mk #[80, 66, 69, 83, 50, 45, 72, 83, 53, 49, 50, 43, 65, 50, 53, 54, 75, 87]) := tl_inj (by rw [← h3]; exact (tl_mk _).symm)
    clear h1 h2 h3 a1 a2 a3 a4 b1 b2 b3 b4
    go_enter Tryz.func44, Tryz.ntmps44
    go_wp2_with fail
    go_ret2
    exact ⟨rfl, rfl⟩
  obtain ⟨c1, c2, c3, c4⟩ := lit_ne h3
  unfold RetKd
  rw [show kdK nm = 0 by rw [kdK, if_neg h1, if_neg h2, if_neg h3], show kdN nm = 0 by rw [kdN, if_neg h1, if_neg h2, if_neg h3]]
  clear h1 h2 h3
  go_enter Tryz.func44, Tryz.ntmps44
  go_wp2_with fail
  go_ret2
  exact ⟨rfl, rfl⟩
set_option maxRecDepth 100000 in
set_option maxHeartbeats 3200000 in
theorem kindOf_any (nm : ByteArray) (w : World) : Calls Tryz.prog 42 #[.string nm] w (RetKd nm w) := by
  have N1 := Lib.hid (fun w => rcName_any 256 w)
  have N2 := Lib.hid (fun w => rcName_any 384 w)
  have N3 := Lib.hid (fun w => rcName_any 512 w)
  unfold RetNm at N1 N2 N3
  rw [show nmB 256 = (ByteArray.mk #[80, 66, 69, 83, 50, 45, 72, 83, 50, 53, 54, 43, 65, 49, 50, 56, 75, 87]) from rfl, show nmE 256 = 0 from rfl] at N1
  rw [show nmB 384 = (ByteArray.mk #[80, 66, 69, 83, 50, 45, 72, 83, 51, 56, 52, 43, 65, 49, 57, 50, 75, 87]) from rfl, show nmE 384 = 0 from rfl] at N2
  rw [show nmB 512 = (ByteArray.mk #[80, 66, 69, 83, 50, 45, 72, 83, 53, 49, 50, 43, 65, 50, 53, 54, 75, 87]) from rfl, show nmE 512 = 0 from rfl] at N3
  obtain ⟨kK, hkK⟩ : ∃ k, kdK nm = k := ⟨_, rfl⟩
  obtain ⟨kN, hkN⟩ : ∃ k, kdN nm = k := ⟨_, rfl⟩
  unfold RetKd
  rw [hkK, hkN]
  have HK := Lib.hid (And.intro hkK hkN)
  clear hkK hkN
  go_enter Tryz.func42, Tryz.ntmps42
  go_wp2_with fail
  go_loopw [9] (fun vi wr => ∃ i : Nat, vi = .int .i64 (i : Int) ∧ i ≤ 3 ∧ (1 ≤ i → ([80, 66, 69, 83, 50, 45, 72, 83, 50, 53, 54, 43, 65, 49, 50, 56, 75, 87] : List UInt8) ≠ nm.toList) ∧ (2 ≤ i → ([80, 66, 69, 83, 50, 45, 72, 83, 51, 56, 52, 43, 65, 49, 57, 50, 75, 87] : List UInt8) ≠ nm.toList) ∧ (3 ≤ i → ([80, 66, 69, 83, 50, 45, 72, 83, 53, 49, 50, 43, 65, 50, 53, 54, 75, 87] : List UInt8) ≠ nm.toList) ∧ wr = w) (fun vi _ => 3 - (intOf vi).toNat)
  case atStart => exact ⟨0, rfl, by omega, by omega, by omega, by omega, rfl⟩
  case round =>
    obtain ⟨i, rfl, hi, h1, h2, h3, rfl⟩ := hrel
    have HH := Lib.hid (And.intro h1 (And.intro h2 h3))
    clear h1 h2 h3
    rcases (by omega : i = 0 ∨ i = 1 ∨ i = 2 ∨ i = 3) with rfl | rfl | rfl | rfl
    · have hix : ∀ w : World, (Instr.index 89 (.agg #[.int .i64 256, .int .i64 384, .int .i64 512]) (.int .i64 0)).run Tryz.prog w = .ok (.int .i64 256) w := fun _ => rfl
      rw [show (((0 : Nat) : Int)) = (0 : Int) from rfl]
      by_cases h : ([80, 66, 69, 83, 50, 45, 72, 83, 50, 53, 54, 43, 65, 49, 50, 56, 75, 87] : List UInt8) = nm.toList
      · have hK : kK = 256 := by rw [← HK.out.1]; rw [kdK, if_pos h]
        have hN : kN = 16 := by rw [← HK.out.2]; rw [kdN, if_pos h]
        subst hK hN
        obtain rfl : nm = (ByteArray.mk #[80, 66, 69, 83, 50, 45, 72, 83, 50, 53, 54, 43, 65, 49, 50, 56, 75, 87]) := tl_inj (by rw [← h]; exact (tl_mk _).symm)
        clear h hi
        go_wp2_with fail
        refine (N1.out _).mono ?_
        rintro e w1 ⟨rfl, rfl⟩
        go_wp2_with fail
        go_ret2
        exact ⟨rfl, rfl⟩
      · obtain ⟨a1, a2, a3, a4⟩ := lit_ne h
        have HN := Lib.hid h
        clear h hi
        go_wp2_with fail
        refine (N1.out _).mono ?_
        rintro e w1 ⟨rfl, rfl⟩
        go_wp2_with fail
        go_roundw
        case rel => exact ⟨1, rfl, by omega, fun _ => HN.out, fun h => absurd h (by omega), fun h => absurd h (by omega), trivial⟩
        case measure => simp [intOf]
    · have hix : ∀ w : World, (Instr.index 89 (.agg #[.int .i64 256, .int .i64 384, .int .i64 512]) (.int .i64 1)).run Tryz.prog w = .ok (.int .i64 384) w := fun _ => rfl
      rw [show (((1 : Nat) : Int)) = (1 : Int) from rfl]
      by_cases h : ([80, 66, 69, 83, 50, 45, 72, 83, 51, 56, 52, 43, 65, 49, 57, 50, 75, 87] : List UInt8) = nm.toList
      · have hK : kK = 384 := by rw [← HK.out.1]; rw [kdK, if_neg (HH.out.1 (by omega)), if_pos h]
        have hN : kN = 24 := by rw [← HK.out.2]; rw [kdN, if_neg (HH.out.1 (by omega)), if_pos h]
        subst hK hN
        obtain rfl : nm = (ByteArray.mk #[80, 66, 69, 83, 50, 45, 72, 83, 51, 56, 52, 43, 65, 49, 57, 50, 75, 87]) := tl_inj (by rw [← h]; exact (tl_mk _).symm)
        clear h hi
        go_wp2_with fail
        refine (N2.out _).mono ?_
        rintro e w1 ⟨rfl, rfl⟩
        go_wp2_with fail
        go_ret2
        exact ⟨rfl, rfl⟩
      · obtain ⟨a1, a2, a3, a4⟩ := lit_ne h
        have HN := Lib.hid h
        clear h hi
        go_wp2_with fail
        refine (N2.out _).mono ?_
        rintro e w1 ⟨rfl, rfl⟩
        go_wp2_with fail
        go_roundw
        case rel => exact ⟨2, rfl, by omega, fun _ => HH.out.1 (by omega), fun _ => HN.out, fun h => absurd h (by omega), trivial⟩
        case measure => simp [intOf]
    · have hix : ∀ w : World, (Instr.index 89 (.agg #[.int .i64 256, .int .i64 384, .int .i64 512]) (.int .i64 2)).run Tryz.prog w = .ok (.int .i64 512) w := fun _ => rfl
      rw [show (((2 : Nat) : Int)) = (2 : Int) from rfl]
      by_cases h : ([80, 66, 69, 83, 50, 45, 72, 83, 53, 49, 50, 43, 65, 50, 53, 54, 75, 87] : List UInt8) = nm.toList
      · have hK : kK = 512 := by rw [← HK.out.1]; rw [kdK, if_neg (HH.out.1 (by omega)), if_neg (HH.out.2.1 (by omega)), if_pos h]
        have hN : kN = 32 := by rw [← HK.out.2]; rw [kdN, if_neg (HH.out.1 (by omega)), if_neg (HH.out.2.1 (by omega)), if_pos h]
        subst hK hN
        obtain rfl : nm = (ByteArray.mk #[80, 66, 69, 83, 50, 45, 72, 83, 53, 49, 50, 43, 65, 50, 53, 54, 75, 87]) := tl_inj (by rw [← h]; exact (tl_mk _).symm)
        clear h hi
        go_wp2_with fail
        refine (N3.out _).mono ?_
        rintro e w1 ⟨rfl, rfl⟩
        go_wp2_with fail
        go_ret2
        exact ⟨rfl, rfl⟩
      · obtain ⟨a1, a2, a3, a4⟩ := lit_ne h
        have HN := Lib.hid h
        clear h hi
        go_wp2_with fail
        refine (N3.out _).mono ?_
        rintro e w1 ⟨rfl, rfl⟩
        go_wp2_with fail
        go_roundw
        case rel => exact ⟨3, rfl, by omega, fun _ => HH.out.1 (by omega), fun _ => HH.out.2.1 (by omega), fun _ => HN.out, trivial⟩
        case measure => simp [intOf]
    · have h1 := HH.out.1 (by omega)
      have h2 := HH.out.2.1 (by omega)
      have h3 := HH.out.2.2 (by omega)
      have hK : kK = 0 := by rw [← HK.out.1, kdK, if_neg h1, if_neg h2, if_neg h3]
      have hN : kN = 0 := by rw [← HK.out.2, kdN, if_neg h1, if_neg h2, if_neg h3]
      subst hK hN
      rw [show (((3 : Nat) : Int)) = (3 : Int) from rfl]
      clear h1 h2 h3 hi
      go_wp2_with fail
      go_ret2
      exact ⟨rfl, rfl⟩
def deE (k : Int) (s : Nat) (r : Int) : Int := if k = 0 then 11 else if s < 8 ∨ 1000 < s then 4 else if r < 1 then 2 else if 4096 < r then 14 else 0
def deL (nm P S : ByteArray) (r : Int) : List UInt8 := if deE (kdK nm) S.size r = 0 then Pb.keyT (kdK nm) P.toList (nm ++ ByteArray.mk #[0] ++ S).toList r (kdN nm) else []
def deC (nm S : ByteArray) (r : Int) : Int := if deE (kdK nm) S.size r = 0 then Pb.err (kdK nm) (nm.size + 1 + S.size) r (kdN nm) else deE (kdK nm) S.size r
set_option maxRecDepth 100000 in
set_option maxHeartbeats 3200000 in
theorem rcDerive_any (nm P S : ByteArray) (r : Int) (hP : P.size ≤ 2000) (w : World) (hT : Tb w) : Calls Tryz.prog 21 #[.string nm, .string P, .string S, .int .i64 r] w (RetSE (deL nm P S r) (deC nm S r) w) := by
  have KD := Lib.hid (fun w => kindOf_any nm w)
  unfold RetKd at KD
  obtain ⟨R, hR⟩ : ∃ R, deL nm P S r = R := ⟨_, rfl⟩
  obtain ⟨cc, hcc⟩ : ∃ c, deC nm S r = c := ⟨_, rfl⟩
  rw [hR, hcc]
  unfold deL at hR
  unfold deC at hcc
  have hkn : kdK nm ≠ 0 → nm.size = 18 := fun h => by
    by_cases h1 : ([80, 66, 69, 83, 50, 45, 72, 83, 50, 53, 54, 43, 65, 49, 50, 56, 75, 87] : List UInt8) = nm.toList
    · rw [← tl_size, ← h1]; rfl
    by_cases h2 : ([80, 66, 69, 83, 50, 45, 72, 83, 51, 56, 52, 43, 65, 49, 57, 50, 75, 87] : List UInt8) = nm.toList
    · rw [← tl_size, ← h2]; rfl
    by_cases h3 : ([80, 66, 69, 83, 50, 45, 72, 83, 53, 49, 50, 43, 65, 50, 53, 54, 75, 87] : List UInt8) = nm.toList
    · rw [← tl_size, ← h3]; rfl
    exact absurd (by rw [kdK, if_neg h1, if_neg h2, if_neg h3]) h
  obtain ⟨k, hk⟩ : ∃ k, kdK nm = k := ⟨_, rfl⟩
  obtain ⟨n, hn⟩ : ∃ n, kdN nm = n := ⟨_, rfl⟩
  rw [hk, hn] at hR hcc KD
  rw [hk] at hkn
  obtain ⟨d, hd⟩ : ∃ d, deE k S.size r = d := ⟨_, rfl⟩
  rw [hd] at hR hcc
  have HR := Lib.hid (And.intro hR hcc)
  clear hR hcc hk hn
  unfold deE at hd
  by_cases h0 : k = 0
  · rw [if_pos h0] at hd
    have HD := Lib.hid hd
    have e1 : (k == 0) = true := by rw [beq_iff_eq]; exact h0
    clear h0 hd hkn hT hP
    go_enter Tryz.func21, Tryz.ntmps21
    go_wp2_with fail
    refine (KD.out _).mono ?_
    rintro e w1 ⟨rfl, rfl⟩
    go_wp2_with fail
    go_ret2
    exact ret_se (tl_mk []) (by rw [← HR.out.1, ← HD.out]; rfl) (by rw [← HR.out.2, ← HD.out]; rfl) (Below.refl _ _)
  rw [if_neg h0] at hd
  have e1 : (k == 0) = false := by rw [beq_eq_false_iff_ne]; exact h0
  by_cases h1 : S.size < 8
  · rw [if_pos (.inl h1)] at hd
    have HD := Lib.hid hd
    have e2 : (S.size : Int) < 8 := by omega
    clear h0 h1 hd hkn hT hP
    go_enter Tryz.func21, Tryz.ntmps21
    go_wp2_with fail
    refine (KD.out _).mono ?_
    rintro e w1 ⟨rfl, rfl⟩
    go_wp2_with fail
    go_ret2
    exact ret_se (tl_mk []) (by rw [← HR.out.1, ← HD.out]; rfl) (by rw [← HR.out.2, ← HD.out]; rfl) (Below.refl _ _)
  have e2 : ¬ (S.size : Int) < 8 := by omega
  by_cases h2 : 1000 < S.size
  · rw [if_pos (.inr h2)] at hd
    have HD := Lib.hid hd
    have e3 : (1000 : Int) < (S.size : Int) := by omega
    clear h0 h1 h2 hd hkn hT hP
    go_enter Tryz.func21, Tryz.ntmps21
    go_wp2_with fail
    refine (KD.out _).mono ?_
    rintro e w1 ⟨rfl, rfl⟩
    go_wp2_with fail
    go_ret2
    exact ret_se (tl_mk []) (by rw [← HR.out.1, ← HD.out]; rfl) (by rw [← HR.out.2, ← HD.out]; rfl) (Below.refl _ _)
  rw [if_neg (by omega)] at hd
  have e3 : ¬ (1000 : Int) < (S.size : Int) := by omega
  by_cases h3 : r < 1
  · rw [if_pos h3] at hd
    have HD := Lib.hid hd
    clear h0 h1 h2 hd hkn hT hP
    go_enter Tryz.func21, Tryz.ntmps21
    go_wp2_with fail
    refine (KD.out _).mono ?_
    rintro e w1 ⟨rfl, rfl⟩
    go_wp2_with fail
    go_ret2
    exact ret_se (tl_mk []) (by rw [← HR.out.1, ← HD.out]; rfl) (by rw [← HR.out.2, ← HD.out]; rfl) (Below.refl _ _)
  rw [if_neg h3] at hd
  by_cases h4 : 4096 < r
  · rw [if_pos h4] at hd
    have HD := Lib.hid hd
    clear h0 h1 h2 hd hkn hT hP
    go_enter Tryz.func21, Tryz.ntmps21
    go_wp2_with fail
    refine (KD.out _).mono ?_
    rintro e w1 ⟨rfl, rfl⟩
    go_wp2_with fail
    go_ret2
    exact ret_se (tl_mk []) (by rw [← HR.out.1, ← HD.out]; rfl) (by rw [← HR.out.2, ← HD.out]; rfl) (Below.refl _ _)
  rw [if_neg h4] at hd
  have HD := Lib.hid hd
  have hns := hkn h0
  have q1 : ¬ 9223372036854775807 < nm.size + 1 := by omega
  have q2 : ¬ 9223372036854775807 < (nm ++ ByteArray.mk #[0]).size + S.size := by rw [ByteArray.size_append]; show ¬ _ < nm.size + 1 + S.size; omega
  have q3 : ¬ 9223372036854775807 < nm.size + 1 + S.size := by omega
  have HP : Hid (P.size ≤ 17592186044416) := by show _ ≤ _; omega
  have HT := Lib.hid hT
  clear h0 h1 h2 hd hkn hns hT hP
  go_enter Tryz.func21, Tryz.ntmps21
  go_wp2_with fail
  refine (KD.out _).mono ?_
  rintro e w1 ⟨rfl, rfl⟩
  go_wp2_with fail
  refine (pkey_any k P (nm ++ ByteArray.mk #[0] ++ S) (by have := HP.out; omega) r n _ HT.out).mono ?_
  rintro e w2 ⟨s, rfl, hs, hb⟩
  go_wp2_with fail
  go_ret2
  exact ret_se hs (by rw [← HR.out.1, ← HD.out, if_pos rfl]) (by rw [← HR.out.2, ← HD.out, if_pos rfl]) hb
set_option maxRecDepth 100000 in
set_option maxHeartbeats 3200000 in
theorem rrcDerive_any (nm P S : ByteArray) (r : Int) (hP : P.size ≤ 2000) (w : World) : Calls Tryz.prog 22 #[.string nm, .string P, .string S, .int .i64 r] w (RetSE (deL nm P S r) (deC nm S r) w) := by
  have KD := Lib.hid (fun w => rkind_any nm w)
  unfold RetKd at KD
  obtain ⟨R, hR⟩ : ∃ R, deL nm P S r = R := ⟨_, rfl⟩
  obtain ⟨cc, hcc⟩ : ∃ c, deC nm S r = c := ⟨_, rfl⟩
  rw [hR, hcc]
  unfold deL at hR
  unfold deC at hcc
  have hkn : kdK nm ≠ 0 → nm.size = 18 := fun h => by
    by_cases h1 : ([80, 66, 69, 83, 50, 45, 72, 83, 50, 53, 54, 43, 65, 49, 50, 56, 75, 87] : List UInt8) = nm.toList
    · rw [← tl_size, ← h1]; rfl
    by_cases h2 : ([80, 66, 69, 83, 50, 45, 72, 83, 51, 56, 52, 43, 65, 49, 57, 50, 75, 87] : List UInt8) = nm.toList
    · rw [← tl_size, ← h2]; rfl
    by_cases h3 : ([80, 66, 69, 83, 50, 45, 72, 83, 53, 49, 50, 43, 65, 50, 53, 54, 75, 87] : List UInt8) = nm.toList
    · rw [← tl_size, ← h3]; rfl
    exact absurd (by rw [kdK, if_neg h1, if_neg h2, if_neg h3]) h
  obtain ⟨k, hk⟩ : ∃ k, kdK nm = k := ⟨_, rfl⟩
  obtain ⟨n, hn⟩ : ∃ n, kdN nm = n := ⟨_, rfl⟩
  rw [hk, hn] at hR hcc KD
  rw [hk] at hkn
  obtain ⟨d, hd⟩ : ∃ d, deE k S.size r = d := ⟨_, rfl⟩
  rw [hd] at hR hcc
  have HR := Lib.hid (And.intro hR hcc)
  clear hR hcc hk hn
  unfold deE at hd
  by_cases h0 : k = 0
  · rw [if_pos h0] at hd
    have HD := Lib.hid hd
    have e1 : (k == 0) = true := by rw [beq_iff_eq]; exact h0
    clear h0 hd hkn hP
    go_enter Tryz.func22, Tryz.ntmps22
    go_wp2_with fail
    refine (KD.out _).mono ?_
    rintro e w1 ⟨rfl, rfl⟩
    go_wp2_with fail
    go_ret2
    exact ret_se (tl_mk []) (by rw [← HR.out.1, ← HD.out]; rfl) (by rw [← HR.out.2, ← HD.out]; rfl) (Below.refl _ _)
  rw [if_neg h0] at hd
  have e1 : (k == 0) = false := by rw [beq_eq_false_iff_ne]; exact h0
  by_cases h1 : S.size < 8
  · rw [if_pos (.inl h1)] at hd
    have HD := Lib.hid hd
    have e2 : (S.size : Int) < 8 := by omega
    clear h0 h1 hd hkn hP
    go_enter Tryz.func22, Tryz.ntmps22
    go_wp2_with fail
    refine (KD.out _).mono ?_
    rintro e w1 ⟨rfl, rfl⟩
    go_wp2_with fail
    go_ret2
    exact ret_se (tl_mk []) (by rw [← HR.out.1, ← HD.out]; rfl) (by rw [← HR.out.2, ← HD.out]; rfl) (Below.refl _ _)
  have e2 : ¬ (S.size : Int) < 8 := by omega
  by_cases h2 : 1000 < S.size
  · rw [if_pos (.inr h2)] at hd
    have HD := Lib.hid hd
    have e3 : (1000 : Int) < (S.size : Int) := by omega
    clear h0 h1 h2 hd hkn hP
    go_enter Tryz.func22, Tryz.ntmps22
    go_wp2_with fail
    refine (KD.out _).mono ?_
    rintro e w1 ⟨rfl, rfl⟩
    go_wp2_with fail
    go_ret2
    exact ret_se (tl_mk []) (by rw [← HR.out.1, ← HD.out]; rfl) (by rw [← HR.out.2, ← HD.out]; rfl) (Below.refl _ _)
  rw [if_neg (by omega)] at hd
  have e3 : ¬ (1000 : Int) < (S.size : Int) := by omega
  by_cases h3 : r < 1
  · rw [if_pos h3] at hd
    have HD := Lib.hid hd
    clear h0 h1 h2 hd hkn hP
    go_enter Tryz.func22, Tryz.ntmps22
    go_wp2_with fail
    refine (KD.out _).mono ?_
    rintro e w1 ⟨rfl, rfl⟩
    go_wp2_with fail
    go_ret2
    exact ret_se (tl_mk []) (by rw [← HR.out.1, ← HD.out]; rfl) (by rw [← HR.out.2, ← HD.out]; rfl) (Below.refl _ _)
  rw [if_neg h3] at hd
  by_cases h4 : 4096 < r
  · rw [if_pos h4] at hd
    have HD := Lib.hid hd
    clear h0 h1 h2 hd hkn hP
    go_enter Tryz.func22, Tryz.ntmps22
    go_wp2_with fail
    refine (KD.out _).mono ?_
    rintro e w1 ⟨rfl, rfl⟩
    go_wp2_with fail
    go_ret2
    exact ret_se (tl_mk []) (by rw [← HR.out.1, ← HD.out]; rfl) (by rw [← HR.out.2, ← HD.out]; rfl) (Below.refl _ _)
  rw [if_neg h4] at hd
  have HD := Lib.hid hd
  have hns := hkn h0
  have q1 : ¬ 9223372036854775807 < nm.size + 1 := by omega
  have q2 : ¬ 9223372036854775807 < (nm ++ ByteArray.mk #[0]).size + S.size := by rw [ByteArray.size_append]; show ¬ _ < nm.size + 1 + S.size; omega
  have q3 : ¬ 9223372036854775807 < nm.size + 1 + S.size := by omega
  have HP : Hid (P.size ≤ 17592186044416) := by show _ ≤ _; omega
  clear h0 h1 h2 hd hkn hns hP
  go_enter Tryz.func22, Tryz.ntmps22
  go_wp2_with fail
  refine (KD.out _).mono ?_
  rintro e w1 ⟨rfl, rfl⟩
  go_wp2_with fail
  refine (rkey_any k P (nm ++ ByteArray.mk #[0] ++ S) (by have := HP.out; omega) r n _).mono ?_
  rintro e w2 ⟨s, rfl, hs, hb⟩
  go_wp2_with fail
  go_ret2
  exact ret_se hs (by rw [← HR.out.1, ← HD.out, if_pos rfl]) (by rw [← HR.out.2, ← HD.out, if_pos rfl]) hb
/-- a derivation asked, in memory -/
def Dq (w : World) (B : Nat) (nm P S : ByteArray) (r : Int) : Prop :=
  w.cell? ⟨B, 0, none⟩ = some (.string nm) ∧ w.cell? ⟨B, 1, none⟩ = some (.string P) ∧ w.cell? ⟨B, 2, none⟩ = some (.string S) ∧ w.cell? ⟨B, 3, none⟩ = some (.int .i64 r)
theorem Dq.below {w w' : World} {B B' : Nat} {nm P S : ByteArray} {r : Int} (h : Dq w B nm P S r) (hb : Below B' w w') (hB : B < B') : Dq w' B nm P S r :=
  ⟨(hb.cell (p := ⟨B, 0, none⟩) hB).trans h.1, (hb.cell (p := ⟨B, 1, none⟩) hB).trans h.2.1, (hb.cell (p := ⟨B, 2, none⟩) hB).trans h.2.2.1, (hb.cell (p := ⟨B, 3, none⟩) hB).trans h.2.2.2⟩
theorem box_dq (w : World) (nm P S : ByteArray) (r : Int) : ∃ w0, w.alloc (Obj.cells #[.string nm, .string P, .string S, .int .i64 r] 36) = w0 ∧ Dq w0 w.heap.size nm P S r ∧ Below w.heap.size w w0 ∧ w.heap.size < w0.heap.size := by
  have h := At.ofAlloc w #[.string nm, .string P, .string S, .int .i64 r] 36
  exact ⟨_, rfl, ⟨h.cell 0 _ rfl, h.cell 1 _ rfl, h.cell 2 _ rfl, h.cell 3 _ rfl⟩, (Below.refl _ _).alloc (Nat.le_refl _) _, by simp⟩
set_option maxRecDepth 100000 in
set_option maxHeartbeats 3200000 in
theorem recipDerives_walk (nm P S : ByteArray) (r : Int) (w : World) (hF : Tb w) : Calls Tryz.prog 8 #[.agg #[.string nm, .string P, .string S, .int .i64 r]] w (RetT w) := by
  by_cases h1 : 40 < r
  · by_cases h2 : r ≤ 4096
    ·
      go_enter Tryz.func8, Tryz.ntmps8
      go_wp2_with fail
      obtain ⟨w0, hw0, hX, hb0, hl0⟩ := box_dq w nm P S r
      rw [hw0]
      obtain ⟨B, hB⟩ : ∃ B, w.heap.size = B := ⟨_, rfl⟩
      have hF0 := hF.below hb0 hF.2.2
      rw [hB] at hX hl0 ⊢
      have HB := Lib.hid hB
      clear hw0 hB hF
      refine (wakes22_any _).mono ?_
      rintro e w1 ⟨rfl, hb1⟩
      have HF1 := Lib.hid (hF0.below hb1 hF0.2.2)
      have hl1 : B < w1.heap.size := Nat.lt_of_lt_of_le hl0 hb1.size
      have HX1 := Lib.hid (hX.below hb1 hl0)
      obtain ⟨hc0, hc1, hc2, hc3⟩ := HX1.out
      have hb01 := below2 hb0 hb1
      clear hX hb0 hb1 hl0 hF0
      go_wp2_with fail
      clear hc0 hc1 hc2 hc3
      go_ret
      exact ⟨rfl, hb01⟩
    · by_cases h3 : (2000 : Int) < (P.size : Int)
      ·
        go_enter Tryz.func8, Tryz.ntmps8
        go_wp2_with fail
        obtain ⟨w0, hw0, hX, hb0, hl0⟩ := box_dq w nm P S r
        rw [hw0]
        obtain ⟨B, hB⟩ : ∃ B, w.heap.size = B := ⟨_, rfl⟩
        have hF0 := hF.below hb0 hF.2.2
        rw [hB] at hX hl0 ⊢
        have HB := Lib.hid hB
        clear hw0 hB hF
        refine (wakes22_any _).mono ?_
        rintro e w1 ⟨rfl, hb1⟩
        have HF1 := Lib.hid (hF0.below hb1 hF0.2.2)
        have hl1 : B < w1.heap.size := Nat.lt_of_lt_of_le hl0 hb1.size
        have HX1 := Lib.hid (hX.below hb1 hl0)
        obtain ⟨hc0, hc1, hc2, hc3⟩ := HX1.out
        have hb01 := below2 hb0 hb1
        clear hX hb0 hb1 hl0 hF0
        go_wp2_with fail
        clear hc0 hc1 hc2 hc3
        go_ret
        exact ⟨rfl, hb01⟩
      · have HP : Hid (P.size ≤ 2000) := by show _ ≤ _; omega
        go_enter Tryz.func8, Tryz.ntmps8
        go_wp2_with fail
        obtain ⟨w0, hw0, hX, hb0, hl0⟩ := box_dq w nm P S r
        rw [hw0]
        obtain ⟨B, hB⟩ : ∃ B, w.heap.size = B := ⟨_, rfl⟩
        have hF0 := hF.below hb0 hF.2.2
        rw [hB] at hX hl0 ⊢
        have HB := Lib.hid hB
        clear hw0 hB hF
        refine (wakes22_any _).mono ?_
        rintro e w1 ⟨rfl, hb1⟩
        have HF1 := Lib.hid (hF0.below hb1 hF0.2.2)
        have hl1 : B < w1.heap.size := Nat.lt_of_lt_of_le hl0 hb1.size
        have HX1 := Lib.hid (hX.below hb1 hl0)
        obtain ⟨hc0, hc1, hc2, hc3⟩ := HX1.out
        have hb01 := below2 hb0 hb1
        clear hX hb0 hb1 hl0 hF0
        go_wp2_with fail
        refine (rcDerive_any nm P S r HP.out _ HF1.out).mono ?_
        rintro e w2 ⟨x, rfl, hx, hb2⟩
        have HXL := Lib.hid hx
        have HX2 := Lib.hid (HX1.out.below hb2 hl1)
        have hb02 := below2 hb01 hb2
        clear hx hb01 hb2 hc0 hc1 hc2 hc3 HX1
        obtain ⟨hc0, hc1, hc2, hc3⟩ := HX2.out
        go_wp2_with fail
        refine (rrcDerive_any nm P S r HP.out _).mono ?_
        rintro e w3 ⟨y, rfl, hy, hb3⟩
        obtain rfl : x = y := tl_inj (by rw [HXL.out, hy])
        have hb03 := below2 hb02 hb3
        clear hy hb02 hb3 hc0 hc1 hc2 hc3
        go_wp2_with fail
        go_ret
        exact ⟨rfl, hb03⟩
  · by_cases h3 : (2000 : Int) < (P.size : Int)
    ·
      go_enter Tryz.func8, Tryz.ntmps8
      go_wp2_with fail
      obtain ⟨w0, hw0, hX, hb0, hl0⟩ := box_dq w nm P S r
      rw [hw0]
      obtain ⟨B, hB⟩ : ∃ B, w.heap.size = B := ⟨_, rfl⟩
      have hF0 := hF.below hb0 hF.2.2
      rw [hB] at hX hl0 ⊢
      have HB := Lib.hid hB
      clear hw0 hB hF
      refine (wakes22_any _).mono ?_
      rintro e w1 ⟨rfl, hb1⟩
      have HF1 := Lib.hid (hF0.below hb1 hF0.2.2)
      have hl1 : B < w1.heap.size := Nat.lt_of_lt_of_le hl0 hb1.size
      have HX1 := Lib.hid (hX.below hb1 hl0)
      obtain ⟨hc0, hc1, hc2, hc3⟩ := HX1.out
      have hb01 := below2 hb0 hb1
      clear hX hb0 hb1 hl0 hF0
      go_wp2_with fail
      clear hc0 hc1 hc2 hc3
      go_ret
      exact ⟨rfl, hb01⟩
    · have HP : Hid (P.size ≤ 2000) := by show _ ≤ _; omega
      go_enter Tryz.func8, Tryz.ntmps8
      go_wp2_with fail
      obtain ⟨w0, hw0, hX, hb0, hl0⟩ := box_dq w nm P S r
      rw [hw0]
      obtain ⟨B, hB⟩ : ∃ B, w.heap.size = B := ⟨_, rfl⟩
      have hF0 := hF.below hb0 hF.2.2
      rw [hB] at hX hl0 ⊢
      have HB := Lib.hid hB
      clear hw0 hB hF
      refine (wakes22_any _).mono ?_
      rintro e w1 ⟨rfl, hb1⟩
      have HF1 := Lib.hid (hF0.below hb1 hF0.2.2)
      have hl1 : B < w1.heap.size := Nat.lt_of_lt_of_le hl0 hb1.size
      have HX1 := Lib.hid (hX.below hb1 hl0)
      obtain ⟨hc0, hc1, hc2, hc3⟩ := HX1.out
      have hb01 := below2 hb0 hb1
      clear hX hb0 hb1 hl0 hF0
      go_wp2_with fail
      refine (rcDerive_any nm P S r HP.out _ HF1.out).mono ?_
      rintro e w2 ⟨x, rfl, hx, hb2⟩
      have HXL := Lib.hid hx
      have HX2 := Lib.hid (HX1.out.below hb2 hl1)
      have hb02 := below2 hb01 hb2
      clear hx hb01 hb2 hc0 hc1 hc2 hc3 HX1
      obtain ⟨hc0, hc1, hc2, hc3⟩ := HX2.out
      go_wp2_with fail
      refine (rrcDerive_any nm P S r HP.out _).mono ?_
      rintro e w3 ⟨y, rfl, hy, hb3⟩
      obtain rfl : x = y := tl_inj (by rw [HXL.out, hy])
      have hb03 := below2 hb02 hb3
      clear hy hb02 hb3 hc0 hc1 hc2 hc3
      go_wp2_with fail
      go_ret
      exact ⟨rfl, hb03⟩
end Go.Proofs.YtjlmmlnldjandaaGreatDoor
