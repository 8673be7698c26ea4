/- The document's reader of JSON: how far a number goes. -/
import Derived.Test.YtpaikjlcachabaaDoorJzA
namespace Go.Proofs.YtpaikjlcachabaaDoor
open Go.RowKit
set_option linter.unusedVariables false
set_option linter.unusedSimpArgs false
namespace Jr
open Js
open Dr (Rs Lm has lack lackE lackP)
/-- how many bytes go on with a number, and where it is then -/
def nsteps : Nat → List UInt8 → Nat × Nat
  | w, [] => (0, w)
  | w, b :: l => match nextN w b with
    | some x => ((nsteps x l).1 + 1, (nsteps x l).2)
    | none => (0, w)
theorem nsteps_some {w x : Nat} {b : UInt8} {l : List UInt8} (h : nextN w b = some x) : nsteps w (b :: l) = ((nsteps x l).1 + 1, (nsteps x l).2) := by rw [nsteps, h]
theorem nsteps_none {w : Nat} {b : UInt8} {l : List UInt8} (h : nextN w b = none) : nsteps w (b :: l) = (0, w) := by rw [nsteps, h]
theorem u8cls (b : UInt8) : b = 45 ∨ b = 43 ∨ b = 48 ∨ b = 46 ∨ b = 101 ∨ b = 69 ∨ (49 ≤ b.toNat ∧ b.toNat ≤ 57) ∨ ((b.toNat < 48 ∨ 57 < b.toNat) ∧ b.toNat ≠ 45 ∧ b.toNat ≠ 43 ∧ b.toNat ≠ 46 ∧ b.toNat ≠ 101 ∧ b.toNat ≠ 69) := by
  have q : ∀ c : UInt8, b.toNat = c.toNat → b = c := fun c h => UInt8.toNat_inj.1 h
  by_cases h1 : b.toNat = 45
  · exact .inl (q 45 h1)
  by_cases h2 : b.toNat = 43
  · exact .inr (.inl (q 43 h2))
  by_cases h3 : b.toNat = 48
  · exact .inr (.inr (.inl (q 48 h3)))
  by_cases h4 : b.toNat = 46
  · exact .inr (.inr (.inr (.inl (q 46 h4))))
  by_cases h5 : b.toNat = 101
  · exact .inr (.inr (.inr (.inr (.inl (q 101 h5)))))
  by_cases h6 : b.toNat = 69
  · exact .inr (.inr (.inr (.inr (.inr (.inl (q 69 h6))))))
  by_cases h7 : 49 ≤ b.toNat ∧ b.toNat ≤ 57
  · exact .inr (.inr (.inr (.inr (.inr (.inr (.inl h7))))))
  · exact .inr (.inr (.inr (.inr (.inr (.inr (.inr ⟨by omega, h1, h2, h4, h5, h6⟩))))))
theorem u8ne {b : UInt8} {n : Nat} (h : b.toNat ≠ n) (hn : n < 256) : ¬ b = UInt8.ofNat n := fun e => h (by rw [e]; simp; omega)
theorem nextN_dig (b : UInt8) (h : 49 ≤ b.toNat ∧ b.toNat ≤ 57) : nextN 0 b = some 3 ∧ nextN 1 b = some 3 ∧ nextN 2 b = none ∧ nextN 3 b = some 3 ∧ nextN 4 b = some 5 ∧ nextN 5 b = some 5 ∧ nextN 6 b = some 8 ∧ nextN 7 b = some 8 ∧ nextN 8 b = some 8 := by
  have hd : isDigit b = true := decide_eq_true (by omega)
  have h1 : ¬ b = 45 := u8ne (n := 45) (by omega) (by decide)
  have h2 : ¬ b = 48 := u8ne (n := 48) (by omega) (by decide)
  have h3 : ¬ b = 46 := u8ne (n := 46) (by omega) (by decide)
  have h4 : ¬ b = 101 := u8ne (n := 101) (by omega) (by decide)
  have h5 : ¬ b = 69 := u8ne (n := 69) (by omega) (by decide)
  have h6 : ¬ b = 43 := u8ne (n := 43) (by omega) (by decide)
  simp [nextN, hd, h1, h2, h3, h4, h5, h6]
theorem nextN_oth (b : UInt8) (h : (b.toNat < 48 ∨ 57 < b.toNat) ∧ b.toNat ≠ 45 ∧ b.toNat ≠ 43 ∧ b.toNat ≠ 46 ∧ b.toNat ≠ 101 ∧ b.toNat ≠ 69) : nextN 0 b = none ∧ nextN 1 b = none ∧ nextN 2 b = none ∧ nextN 3 b = none ∧ nextN 4 b = none ∧ nextN 5 b = none ∧ nextN 6 b = none ∧ nextN 7 b = none ∧ nextN 8 b = none := by
  have hd : isDigit b = false := decide_eq_false (by omega)
  have h1 : ¬ b = 45 := u8ne (n := 45) (by omega) (by decide)
  have h2 : ¬ b = 48 := u8ne (n := 48) (by omega) (by decide)
  have h3 : ¬ b = 46 := u8ne (n := 46) (by omega) (by decide)
  have h4 : ¬ b = 101 := u8ne (n := 101) (by omega) (by decide)
  have h5 : ¬ b = 69 := u8ne (n := 69) (by omega) (by decide)
  have h6 : ¬ b = 43 := u8ne (n := 43) (by omega) (by decide)
  simp [nextN, hd, h1, h2, h3, h4, h5, h6]
def RetNum (l : List UInt8) (w : World) (e : Ending) (w' : World) : Prop := e = .returned (.tuple #[.int .i64 ((nsteps 0 l).1 : Int), .bool (wholeN (nsteps 0 l).2)]) ∧ w = w'
set_option maxRecDepth 100000 in
set_option maxHeartbeats 12800000 in
theorem rnumber_any (S : ByteArray) (hs : S.size ≤ 140737488351232) (w : World) : Calls Tryd.prog 52 #[.string S] w (RetNum S.toList w) := by
  have HS := Lib.hid hs
  have DG := Lib.hid (fun (b : UInt8) w => rdigit_any b w)
  obtain ⟨n, hn⟩ : ∃ n, S.size = n := ⟨_, rfl⟩
  have HN := Lib.hid hn
  have hni : (S.size : Int) = (n : Int) := by omega
  clear hs hn
  go_enter Tryd.func52, Tryd.ntmps52
  go_wp2_with fail
  go_loopw [4, 5] (fun vw vi wr => ∃ wv i : Nat, vw = .int .i64 (wv : Int) ∧ vi = .int .i64 (i : Int) ∧ i ≤ n ∧ wv ≤ 8 ∧ Hid (nsteps 0 S.toList = (i + (nsteps wv (S.toList.drop i)).1, (nsteps wv (S.toList.drop i)).2)) ∧ w = wr) (fun _ vi _ => n - (intOf vi).toNat)
  case atStart => exact ⟨0, 0, rfl, rfl, Nat.zero_le _, by decide, (by show _ = _; rw [List.drop_zero, Nat.zero_add]), rfl⟩
  case round =>
    obtain ⟨wv, i, rfl, rfl, hin, hw8, HR, rfl⟩ := hrel
    by_cases hi : i < n
    · have e1 : (i : Int) < (n : Int) := by omega
      have e3 : (0 : Int) ≤ (i : Int) := by omega
      have e4 : (i : Int) ≤ 140737488351232 := by have := HS.out; have := HN.out; omega
      have hiS : i < S.size := by have := HN.out; omega
      have e2 : (i : Int) < (S.size : Int) := by omega
      have hb0 := byte_at S i hiS
      obtain ⟨b, hb⟩ : ∃ b, S.toList.getD i 0 = b := ⟨_, rfl⟩
      rw [hb] at hb0
      have hdr : S.toList.drop i = b :: S.toList.drop (i + 1) := by
        rw [List.drop_eq_getElem_cons (by rw [tl_size]; exact hiS), ← hb, List.getD, List.getElem?_eq_getElem (by rw [tl_size]; exact hiS)]; rfl
      rw [hdr] at HR
      obtain ⟨l, hl⟩ : ∃ l, S.toList.drop (i + 1) = l := ⟨_, rfl⟩
      rw [hl] at HR
      have HL := Lib.hid hl
      have HI := Lib.hid hi
      have DB := Lib.hid (fun w => DG.out b w)
      rw [← hb0] at DB
      obtain ⟨y, hy⟩ : ∃ y, (S[i]).toNat = y := ⟨_, rfl⟩
      rw [hy] at hb0 DB
      clear hb hdr hl hi hin
      rcases u8cls b with hc | hc | hc | hc | hc | hc | hc | hc
      · as_aux_lemma =>
        obtain rfl : y = 45 := by rw [hb0, hc]; rfl
        have hd : isDigit b = false := by rw [hc]; decide
        rw [hd] at DB
        have hnx : ∀ w, nextN w b = nextN w 45 := fun w => by rw [hc]
        clear hb0 hd
        rcases (by omega : wv = 0 ∨ wv = 1 ∨ wv = 2 ∨ wv = 3 ∨ wv = 4 ∨ wv = 5 ∨ wv = 6 ∨ wv = 7 ∨ wv = 8) with rfl | rfl | rfl | rfl | rfl | rfl | rfl | rfl | rfl
        · have HX : Hid (nsteps 0 S.toList = (i + 1 + (nsteps 1 (S.toList.drop (i + 1))).1, (nsteps 1 (S.toList.drop (i + 1))).2)) := by
            have h9 := HR.out
            rw [nsteps_some (x := 1) ((hnx 0).trans (by decide))] at h9
            rw [HL.out]
            show _ = _
            rw [h9]
            show (i + ((nsteps 1 l).1 + 1), _) = _
            rw [show i + ((nsteps 1 l).1 + 1) = i + 1 + (nsteps 1 l).1 by omega]
          clear hnx
          rw [show (((0 : Nat) : Int)) = (0 : Int) from rfl]
          go_wp2_with (go_at_call 62; refine (DB.out _).mono ?_; rintro e w2 ⟨rfl, rfl⟩)
          go_roundw
          case rel => exact ⟨1, i + 1, rfl, by go_num, by have := HI.out; omega, by decide, HX, (by first | rfl | trivial)⟩
          case measure => have h9 := HI.out; simp [intOf]; omega
        · have HX : Hid (nsteps 0 S.toList = (i, 1)) := by
            have h9 := HR.out
            rw [nsteps_none ((hnx 1).trans (by decide))] at h9
            exact h9
          clear hnx
          rw [show (((1 : Nat) : Int)) = (1 : Int) from rfl]
          go_wp2_with (go_at_call 62; refine (DB.out _).mono ?_; rintro e w2 ⟨rfl, rfl⟩)
          go_ret2
          exact ⟨by rw [HX.out]; rfl, rfl⟩
        · have HX : Hid (nsteps 0 S.toList = (i, 2)) := by
            have h9 := HR.out
            rw [nsteps_none ((hnx 2).trans (by decide))] at h9
            exact h9
          clear hnx
          rw [show (((2 : Nat) : Int)) = (2 : Int) from rfl]
          go_wp2_with (go_at_call 62; refine (DB.out _).mono ?_; rintro e w2 ⟨rfl, rfl⟩)
          go_ret2
          exact ⟨by rw [HX.out]; rfl, rfl⟩
        · have HX : Hid (nsteps 0 S.toList = (i, 3)) := by
            have h9 := HR.out
            rw [nsteps_none ((hnx 3).trans (by decide))] at h9
            exact h9
          clear hnx
          rw [show (((3 : Nat) : Int)) = (3 : Int) from rfl]
          go_wp2_with (go_at_call 62; refine (DB.out _).mono ?_; rintro e w2 ⟨rfl, rfl⟩)
          go_ret2
          exact ⟨by rw [HX.out]; rfl, rfl⟩
        · have HX : Hid (nsteps 0 S.toList = (i, 4)) := by
            have h9 := HR.out
            rw [nsteps_none ((hnx 4).trans (by decide))] at h9
            exact h9
          clear hnx
          rw [show (((4 : Nat) : Int)) = (4 : Int) from rfl]
          go_wp2_with (go_at_call 62; refine (DB.out _).mono ?_; rintro e w2 ⟨rfl, rfl⟩)
          go_ret2
          exact ⟨by rw [HX.out]; rfl, rfl⟩
        · have HX : Hid (nsteps 0 S.toList = (i, 5)) := by
            have h9 := HR.out
            rw [nsteps_none ((hnx 5).trans (by decide))] at h9
            exact h9
          clear hnx
          rw [show (((5 : Nat) : Int)) = (5 : Int) from rfl]
          go_wp2_with (go_at_call 62; refine (DB.out _).mono ?_; rintro e w2 ⟨rfl, rfl⟩)
          go_ret2
          exact ⟨by rw [HX.out]; rfl, rfl⟩
        · have HX : Hid (nsteps 0 S.toList = (i + 1 + (nsteps 7 (S.toList.drop (i + 1))).1, (nsteps 7 (S.toList.drop (i + 1))).2)) := by
            have h9 := HR.out
            rw [nsteps_some (x := 7) ((hnx 6).trans (by decide))] at h9
            rw [HL.out]
            show _ = _
            rw [h9]
            show (i + ((nsteps 7 l).1 + 1), _) = _
            rw [show i + ((nsteps 7 l).1 + 1) = i + 1 + (nsteps 7 l).1 by omega]
          clear hnx
          rw [show (((6 : Nat) : Int)) = (6 : Int) from rfl]
          go_wp2_with (go_at_call 62; refine (DB.out _).mono ?_; rintro e w2 ⟨rfl, rfl⟩)
          go_roundw
          case rel => exact ⟨7, i + 1, rfl, by go_num, by have := HI.out; omega, by decide, HX, (by first | rfl | trivial)⟩
          case measure => have h9 := HI.out; simp [intOf]; omega
        · have HX : Hid (nsteps 0 S.toList = (i, 7)) := by
            have h9 := HR.out
            rw [nsteps_none ((hnx 7).trans (by decide))] at h9
            exact h9
          clear hnx
          rw [show (((7 : Nat) : Int)) = (7 : Int) from rfl]
          go_wp2_with (go_at_call 62; refine (DB.out _).mono ?_; rintro e w2 ⟨rfl, rfl⟩)
          go_ret2
          exact ⟨by rw [HX.out]; rfl, rfl⟩
        · have HX : Hid (nsteps 0 S.toList = (i, 8)) := by
            have h9 := HR.out
            rw [nsteps_none ((hnx 8).trans (by decide))] at h9
            exact h9
          clear hnx
          rw [show (((8 : Nat) : Int)) = (8 : Int) from rfl]
          go_wp2_with (go_at_call 62; refine (DB.out _).mono ?_; rintro e w2 ⟨rfl, rfl⟩)
          go_ret2
          exact ⟨by rw [HX.out]; rfl, rfl⟩
      · as_aux_lemma =>
        obtain rfl : y = 43 := by rw [hb0, hc]; rfl
        have hd : isDigit b = false := by rw [hc]; decide
        rw [hd] at DB
        have hnx : ∀ w, nextN w b = nextN w 43 := fun w => by rw [hc]
        clear hb0 hd
        rcases (by omega : wv = 0 ∨ wv = 1 ∨ wv = 2 ∨ wv = 3 ∨ wv = 4 ∨ wv = 5 ∨ wv = 6 ∨ wv = 7 ∨ wv = 8) with rfl | rfl | rfl | rfl | rfl | rfl | rfl | rfl | rfl
        · have HX : Hid (nsteps 0 S.toList = (i, 0)) := by
            have h9 := HR.out
            rw [nsteps_none ((hnx 0).trans (by decide))] at h9
            exact h9
          clear hnx
          rw [show (((0 : Nat) : Int)) = (0 : Int) from rfl]
          go_wp2_with (go_at_call 62; refine (DB.out _).mono ?_; rintro e w2 ⟨rfl, rfl⟩)
          go_ret2
          exact ⟨by rw [HX.out]; rfl, rfl⟩
        · have HX : Hid (nsteps 0 S.toList = (i, 1)) := by
            have h9 := HR.out
            rw [nsteps_none ((hnx 1).trans (by decide))] at h9
            exact h9
          clear hnx
          rw [show (((1 : Nat) : Int)) = (1 : Int) from rfl]
          go_wp2_with (go_at_call 62; refine (DB.out _).mono ?_; rintro e w2 ⟨rfl, rfl⟩)
          go_ret2
          exact ⟨by rw [HX.out]; rfl, rfl⟩
        · have HX : Hid (nsteps 0 S.toList = (i, 2)) := by
            have h9 := HR.out
            rw [nsteps_none ((hnx 2).trans (by decide))] at h9
            exact h9
          clear hnx
          rw [show (((2 : Nat) : Int)) = (2 : Int) from rfl]
          go_wp2_with (go_at_call 62; refine (DB.out _).mono ?_; rintro e w2 ⟨rfl, rfl⟩)
          go_ret2
          exact ⟨by rw [HX.out]; rfl, rfl⟩
        · have HX : Hid (nsteps 0 S.toList = (i, 3)) := by
            have h9 := HR.out
            rw [nsteps_none ((hnx 3).trans (by decide))] at h9
            exact h9
          clear hnx
          rw [show (((3 : Nat) : Int)) = (3 : Int) from rfl]
          go_wp2_with (go_at_call 62; refine (DB.out _).mono ?_; rintro e w2 ⟨rfl, rfl⟩)
          go_ret2
          exact ⟨by rw [HX.out]; rfl, rfl⟩
        · have HX : Hid (nsteps 0 S.toList = (i, 4)) := by
            have h9 := HR.out
            rw [nsteps_none ((hnx 4).trans (by decide))] at h9
            exact h9
          clear hnx
          rw [show (((4 : Nat) : Int)) = (4 : Int) from rfl]
          go_wp2_with (go_at_call 62; refine (DB.out _).mono ?_; rintro e w2 ⟨rfl, rfl⟩)
          go_ret2
          exact ⟨by rw [HX.out]; rfl, rfl⟩
        · have HX : Hid (nsteps 0 S.toList = (i, 5)) := by
            have h9 := HR.out
            rw [nsteps_none ((hnx 5).trans (by decide))] at h9
            exact h9
          clear hnx
          rw [show (((5 : Nat) : Int)) = (5 : Int) from rfl]
          go_wp2_with (go_at_call 62; refine (DB.out _).mono ?_; rintro e w2 ⟨rfl, rfl⟩)
          go_ret2
          exact ⟨by rw [HX.out]; rfl, rfl⟩
        · have HX : Hid (nsteps 0 S.toList = (i + 1 + (nsteps 7 (S.toList.drop (i + 1))).1, (nsteps 7 (S.toList.drop (i + 1))).2)) := by
            have h9 := HR.out
            rw [nsteps_some (x := 7) ((hnx 6).trans (by decide))] at h9
            rw [HL.out]
            show _ = _
            rw [h9]
            show (i + ((nsteps 7 l).1 + 1), _) = _
            rw [show i + ((nsteps 7 l).1 + 1) = i + 1 + (nsteps 7 l).1 by omega]
          clear hnx
          rw [show (((6 : Nat) : Int)) = (6 : Int) from rfl]
          go_wp2_with (go_at_call 62; refine (DB.out _).mono ?_; rintro e w2 ⟨rfl, rfl⟩)
          go_roundw
          case rel => exact ⟨7, i + 1, rfl, by go_num, by have := HI.out; omega, by decide, HX, (by first | rfl | trivial)⟩
          case measure => have h9 := HI.out; simp [intOf]; omega
        · have HX : Hid (nsteps 0 S.toList = (i, 7)) := by
            have h9 := HR.out
            rw [nsteps_none ((hnx 7).trans (by decide))] at h9
            exact h9
          clear hnx
          rw [show (((7 : Nat) : Int)) = (7 : Int) from rfl]
          go_wp2_with (go_at_call 62; refine (DB.out _).mono ?_; rintro e w2 ⟨rfl, rfl⟩)
          go_ret2
          exact ⟨by rw [HX.out]; rfl, rfl⟩
        · have HX : Hid (nsteps 0 S.toList = (i, 8)) := by
            have h9 := HR.out
            rw [nsteps_none ((hnx 8).trans (by decide))] at h9
            exact h9
          clear hnx
          rw [show (((8 : Nat) : Int)) = (8 : Int) from rfl]
          go_wp2_with (go_at_call 62; refine (DB.out _).mono ?_; rintro e w2 ⟨rfl, rfl⟩)
          go_ret2
          exact ⟨by rw [HX.out]; rfl, rfl⟩
      · as_aux_lemma =>
        obtain rfl : y = 48 := by rw [hb0, hc]; rfl
        have hd : isDigit b = true := by rw [hc]; decide
        rw [hd] at DB
        have hnx : ∀ w, nextN w b = nextN w 48 := fun w => by rw [hc]
        clear hb0 hd
        rcases (by omega : wv = 0 ∨ wv = 1 ∨ wv = 2 ∨ wv = 3 ∨ wv = 4 ∨ wv = 5 ∨ wv = 6 ∨ wv = 7 ∨ wv = 8) with rfl | rfl | rfl | rfl | rfl | rfl | rfl | rfl | rfl
        · have HX : Hid (nsteps 0 S.toList = (i + 1 + (nsteps 2 (S.toList.drop (i + 1))).1, (nsteps 2 (S.toList.drop (i + 1))).2)) := by
            have h9 := HR.out
            rw [nsteps_some (x := 2) ((hnx 0).trans (by decide))] at h9
            rw [HL.out]
            show _ = _
            rw [h9]
            show (i + ((nsteps 2 l).1 + 1), _) = _
            rw [show i + ((nsteps 2 l).1 + 1) = i + 1 + (nsteps 2 l).1 by omega]
          clear hnx
          rw [show (((0 : Nat) : Int)) = (0 : Int) from rfl]
          go_wp2_with (go_at_call 62; refine (DB.out _).mono ?_; rintro e w2 ⟨rfl, rfl⟩)
          go_roundw
          case rel => exact ⟨2, i + 1, rfl, by go_num, by have := HI.out; omega, by decide, HX, (by first | rfl | trivial)⟩
          case measure => have h9 := HI.out; simp [intOf]; omega
        · have HX : Hid (nsteps 0 S.toList = (i + 1 + (nsteps 2 (S.toList.drop (i + 1))).1, (nsteps 2 (S.toList.drop (i + 1))).2)) := by
            have h9 := HR.out
            rw [nsteps_some (x := 2) ((hnx 1).trans (by decide))] at h9
            rw [HL.out]
            show _ = _
            rw [h9]
            show (i + ((nsteps 2 l).1 + 1), _) = _
            rw [show i + ((nsteps 2 l).1 + 1) = i + 1 + (nsteps 2 l).1 by omega]
          clear hnx
          rw [show (((1 : Nat) : Int)) = (1 : Int) from rfl]
          go_wp2_with (go_at_call 62; refine (DB.out _).mono ?_; rintro e w2 ⟨rfl, rfl⟩)
          go_roundw
          case rel => exact ⟨2, i + 1, rfl, by go_num, by have := HI.out; omega, by decide, HX, (by first | rfl | trivial)⟩
          case measure => have h9 := HI.out; simp [intOf]; omega
        · have HX : Hid (nsteps 0 S.toList = (i, 2)) := by
            have h9 := HR.out
            rw [nsteps_none ((hnx 2).trans (by decide))] at h9
            exact h9
          clear hnx
          rw [show (((2 : Nat) : Int)) = (2 : Int) from rfl]
          go_wp2_with (go_at_call 62; refine (DB.out _).mono ?_; rintro e w2 ⟨rfl, rfl⟩)
          go_ret2
          exact ⟨by rw [HX.out]; rfl, rfl⟩
        · have HX : Hid (nsteps 0 S.toList = (i + 1 + (nsteps 3 (S.toList.drop (i + 1))).1, (nsteps 3 (S.toList.drop (i + 1))).2)) := by
            have h9 := HR.out
            rw [nsteps_some (x := 3) ((hnx 3).trans (by decide))] at h9
            rw [HL.out]
            show _ = _
            rw [h9]
            show (i + ((nsteps 3 l).1 + 1), _) = _
            rw [show i + ((nsteps 3 l).1 + 1) = i + 1 + (nsteps 3 l).1 by omega]
          clear hnx
          rw [show (((3 : Nat) : Int)) = (3 : Int) from rfl]
          go_wp2_with (go_at_call 62; refine (DB.out _).mono ?_; rintro e w2 ⟨rfl, rfl⟩)
          go_roundw
          case rel => exact ⟨3, i + 1, rfl, by go_num, by have := HI.out; omega, by decide, HX, (by first | rfl | trivial)⟩
          case measure => have h9 := HI.out; simp [intOf]; omega
        · have HX : Hid (nsteps 0 S.toList = (i + 1 + (nsteps 5 (S.toList.drop (i + 1))).1, (nsteps 5 (S.toList.drop (i + 1))).2)) := by
            have h9 := HR.out
            rw [nsteps_some (x := 5) ((hnx 4).trans (by decide))] at h9
            rw [HL.out]
            show _ = _
            rw [h9]
            show (i + ((nsteps 5 l).1 + 1), _) = _
            rw [show i + ((nsteps 5 l).1 + 1) = i + 1 + (nsteps 5 l).1 by omega]
          clear hnx
          rw [show (((4 : Nat) : Int)) = (4 : Int) from rfl]
          go_wp2_with (go_at_call 62; refine (DB.out _).mono ?_; rintro e w2 ⟨rfl, rfl⟩)
          go_roundw
          case rel => exact ⟨5, i + 1, rfl, by go_num, by have := HI.out; omega, by decide, HX, (by first | rfl | trivial)⟩
          case measure => have h9 := HI.out; simp [intOf]; omega
        · have HX : Hid (nsteps 0 S.toList = (i + 1 + (nsteps 5 (S.toList.drop (i + 1))).1, (nsteps 5 (S.toList.drop (i + 1))).2)) := by
            have h9 := HR.out
            rw [nsteps_some (x := 5) ((hnx 5).trans (by decide))] at h9
            rw [HL.out]
            show _ = _
            rw [h9]
            show (i + ((nsteps 5 l).1 + 1), _) = _
            rw [show i + ((nsteps 5 l).1 + 1) = i + 1 + (nsteps 5 l).1 by omega]
          clear hnx
          rw [show (((5 : Nat) : Int)) = (5 : Int) from rfl]
          go_wp2_with (go_at_call 62; refine (DB.out _).mono ?_; rintro e w2 ⟨rfl, rfl⟩)
          go_roundw
          case rel => exact ⟨5, i + 1, rfl, by go_num, by have := HI.out; omega, by decide, HX, (by first | rfl | trivial)⟩
          case measure => have h9 := HI.out; simp [intOf]; omega
        · have HX : Hid (nsteps 0 S.toList = (i + 1 + (nsteps 8 (S.toList.drop (i + 1))).1, (nsteps 8 (S.toList.drop (i + 1))).2)) := by
            have h9 := HR.out
            rw [nsteps_some (x := 8) ((hnx 6).trans (by decide))] at h9
            rw [HL.out]
            show _ = _
            rw [h9]
            show (i + ((nsteps 8 l).1 + 1), _) = _
            rw [show i + ((nsteps 8 l).1 + 1) = i + 1 + (nsteps 8 l).1 by omega]
          clear hnx
          rw [show (((6 : Nat) : Int)) = (6 : Int) from rfl]
          go_wp2_with (go_at_call 62; refine (DB.out _).mono ?_; rintro e w2 ⟨rfl, rfl⟩)
          go_roundw
          case rel => exact ⟨8, i + 1, rfl, by go_num, by have := HI.out; omega, by decide, HX, (by first | rfl | trivial)⟩
          case measure => have h9 := HI.out; simp [intOf]; omega
        · have HX : Hid (nsteps 0 S.toList = (i + 1 + (nsteps 8 (S.toList.drop (i + 1))).1, (nsteps 8 (S.toList.drop (i + 1))).2)) := by
            have h9 := HR.out
            rw [nsteps_some (x := 8) ((hnx 7).trans (by decide))] at h9
            rw [HL.out]
            show _ = _
            rw [h9]
            show (i + ((nsteps 8 l).1 + 1), _) = _
            rw [show i + ((nsteps 8 l).1 + 1) = i + 1 + (nsteps 8 l).1 by omega]
          clear hnx
          rw [show (((7 : Nat) : Int)) = (7 : Int) from rfl]
          go_wp2_with (go_at_call 62; refine (DB.out _).mono ?_; rintro e w2 ⟨rfl, rfl⟩)
          go_roundw
          case rel => exact ⟨8, i + 1, rfl, by go_num, by have := HI.out; omega, by decide, HX, (by first | rfl | trivial)⟩
          case measure => have h9 := HI.out; simp [intOf]; omega
        · have HX : Hid (nsteps 0 S.toList = (i + 1 + (nsteps 8 (S.toList.drop (i + 1))).1, (nsteps 8 (S.toList.drop (i + 1))).2)) := by
            have h9 := HR.out
            rw [nsteps_some (x := 8) ((hnx 8).trans (by decide))] at h9
            rw [HL.out]
            show _ = _
            rw [h9]
            show (i + ((nsteps 8 l).1 + 1), _) = _
            rw [show i + ((nsteps 8 l).1 + 1) = i + 1 + (nsteps 8 l).1 by omega]
          clear hnx
          rw [show (((8 : Nat) : Int)) = (8 : Int) from rfl]
          go_wp2_with (go_at_call 62; refine (DB.out _).mono ?_; rintro e w2 ⟨rfl, rfl⟩)
          go_roundw
          case rel => exact ⟨8, i + 1, rfl, by go_num, by have := HI.out; omega, by decide, HX, (by first | rfl | trivial)⟩
          case measure => have h9 := HI.out; simp [intOf]; omega
      · as_aux_lemma =>
        obtain rfl : y = 46 := by rw [hb0, hc]; rfl
        have hd : isDigit b = false := by rw [hc]; decide
        rw [hd] at DB
        have hnx : ∀ w, nextN w b = nextN w 46 := fun w => by rw [hc]
        clear hb0 hd
        rcases (by omega : wv = 0 ∨ wv = 1 ∨ wv = 2 ∨ wv = 3 ∨ wv = 4 ∨ wv = 5 ∨ wv = 6 ∨ wv = 7 ∨ wv = 8) with rfl | rfl | rfl | rfl | rfl | rfl | rfl | rfl | rfl
        · have HX : Hid (nsteps 0 S.toList = (i, 0)) := by
            have h9 := HR.out
            rw [nsteps_none ((hnx 0).trans (by decide))] at h9
            exact h9
          clear hnx
          rw [show (((0 : Nat) : Int)) = (0 : Int) from rfl]
          go_wp2_with (go_at_call 62; refine (DB.out _).mono ?_; rintro e w2 ⟨rfl, rfl⟩)
          go_ret2
          exact ⟨by rw [HX.out]; rfl, rfl⟩
        · have HX : Hid (nsteps 0 S.toList = (i, 1)) := by
            have h9 := HR.out
            rw [nsteps_none ((hnx 1).trans (by decide))] at h9
            exact h9
          clear hnx
          rw [show (((1 : Nat) : Int)) = (1 : Int) from rfl]
          go_wp2_with (go_at_call 62; refine (DB.out _).mono ?_; rintro e w2 ⟨rfl, rfl⟩)
          go_ret2
          exact ⟨by rw [HX.out]; rfl, rfl⟩
        · have HX : Hid (nsteps 0 S.toList = (i + 1 + (nsteps 4 (S.toList.drop (i + 1))).1, (nsteps 4 (S.toList.drop (i + 1))).2)) := by
            have h9 := HR.out
            rw [nsteps_some (x := 4) ((hnx 2).trans (by decide))] at h9
            rw [HL.out]
            show _ = _
            rw [h9]
            show (i + ((nsteps 4 l).1 + 1), _) = _
            rw [show i + ((nsteps 4 l).1 + 1) = i + 1 + (nsteps 4 l).1 by omega]
          clear hnx
          rw [show (((2 : Nat) : Int)) = (2 : Int) from rfl]
          go_wp2_with (go_at_call 62; refine (DB.out _).mono ?_; rintro e w2 ⟨rfl, rfl⟩)
          go_roundw
          case rel => exact ⟨4, i + 1, rfl, by go_num, by have := HI.out; omega, by decide, HX, (by first | rfl | trivial)⟩
          case measure => have h9 := HI.out; simp [intOf]; omega
        · have HX : Hid (nsteps 0 S.toList = (i + 1 + (nsteps 4 (S.toList.drop (i + 1))).1, (nsteps 4 (S.toList.drop (i + 1))).2)) := by
            have h9 := HR.out
            rw [nsteps_some (x := 4) ((hnx 3).trans (by decide))] at h9
            rw [HL.out]
            show _ = _
            rw [h9]
            show (i + ((nsteps 4 l).1 + 1), _) = _
            rw [show i + ((nsteps 4 l).1 + 1) = i + 1 + (nsteps 4 l).1 by omega]
          clear hnx
          rw [show (((3 : Nat) : Int)) = (3 : Int) from rfl]
          go_wp2_with (go_at_call 62; refine (DB.out _).mono ?_; rintro e w2 ⟨rfl, rfl⟩)
          go_roundw
          case rel => exact ⟨4, i + 1, rfl, by go_num, by have := HI.out; omega, by decide, HX, (by first | rfl | trivial)⟩
          case measure => have h9 := HI.out; simp [intOf]; omega
        · have HX : Hid (nsteps 0 S.toList = (i, 4)) := by
            have h9 := HR.out
            rw [nsteps_none ((hnx 4).trans (by decide))] at h9
            exact h9
          clear hnx
          rw [show (((4 : Nat) : Int)) = (4 : Int) from rfl]
          go_wp2_with (go_at_call 62; refine (DB.out _).mono ?_; rintro e w2 ⟨rfl, rfl⟩)
          go_ret2
          exact ⟨by rw [HX.out]; rfl, rfl⟩
        · have HX : Hid (nsteps 0 S.toList = (i, 5)) := by
            have h9 := HR.out
            rw [nsteps_none ((hnx 5).trans (by decide))] at h9
            exact h9
          clear hnx
          rw [show (((5 : Nat) : Int)) = (5 : Int) from rfl]
          go_wp2_with (go_at_call 62; refine (DB.out _).mono ?_; rintro e w2 ⟨rfl, rfl⟩)
          go_ret2
          exact ⟨by rw [HX.out]; rfl, rfl⟩
        · have HX : Hid (nsteps 0 S.toList = (i, 6)) := by
            have h9 := HR.out
            rw [nsteps_none ((hnx 6).trans (by decide))] at h9
            exact h9
          clear hnx
          rw [show (((6 : Nat) : Int)) = (6 : Int) from rfl]
          go_wp2_with (go_at_call 62; refine (DB.out _).mono ?_; rintro e w2 ⟨rfl, rfl⟩)
          go_ret2
          exact ⟨by rw [HX.out]; rfl, rfl⟩
        · have HX : Hid (nsteps 0 S.toList = (i, 7)) := by
            have h9 := HR.out
            rw [nsteps_none ((hnx 7).trans (by decide))] at h9
            exact h9
          clear hnx
          rw [show (((7 : Nat) : Int)) = (7 : Int) from rfl]
          go_wp2_with (go_at_call 62; refine (DB.out _).mono ?_; rintro e w2 ⟨rfl, rfl⟩)
          go_ret2
          exact ⟨by rw [HX.out]; rfl, rfl⟩
        · have HX : Hid (nsteps 0 S.toList = (i, 8)) := by
            have h9 := HR.out
            rw [nsteps_none ((hnx 8).trans (by decide))] at h9
            exact h9
          clear hnx
          rw [show (((8 : Nat) : Int)) = (8 : Int) from rfl]
          go_wp2_with (go_at_call 62; refine (DB.out _).mono ?_; rintro e w2 ⟨rfl, rfl⟩)
          go_ret2
          exact ⟨by rw [HX.out]; rfl, rfl⟩
      · as_aux_lemma =>
        obtain rfl : y = 101 := by rw [hb0, hc]; rfl
        have hd : isDigit b = false := by rw [hc]; decide
        rw [hd] at DB
        have hnx : ∀ w, nextN w b = nextN w 101 := fun w => by rw [hc]
        clear hb0 hd
        rcases (by omega : wv = 0 ∨ wv = 1 ∨ wv = 2 ∨ wv = 3 ∨ wv = 4 ∨ wv = 5 ∨ wv = 6 ∨ wv = 7 ∨ wv = 8) with rfl | rfl | rfl | rfl | rfl | rfl | rfl | rfl | rfl
        · have HX : Hid (nsteps 0 S.toList = (i, 0)) := by
            have h9 := HR.out
            rw [nsteps_none ((hnx 0).trans (by decide))] at h9
            exact h9
          clear hnx
          rw [show (((0 : Nat) : Int)) = (0 : Int) from rfl]
          go_wp2_with (go_at_call 62; refine (DB.out _).mono ?_; rintro e w2 ⟨rfl, rfl⟩)
          go_ret2
          exact ⟨by rw [HX.out]; rfl, rfl⟩
        · have HX : Hid (nsteps 0 S.toList = (i, 1)) := by
            have h9 := HR.out
            rw [nsteps_none ((hnx 1).trans (by decide))] at h9
            exact h9
          clear hnx
          rw [show (((1 : Nat) : Int)) = (1 : Int) from rfl]
          go_wp2_with (go_at_call 62; refine (DB.out _).mono ?_; rintro e w2 ⟨rfl, rfl⟩)
          go_ret2
          exact ⟨by rw [HX.out]; rfl, rfl⟩
        · have HX : Hid (nsteps 0 S.toList = (i + 1 + (nsteps 6 (S.toList.drop (i + 1))).1, (nsteps 6 (S.toList.drop (i + 1))).2)) := by
            have h9 := HR.out
            rw [nsteps_some (x := 6) ((hnx 2).trans (by decide))] at h9
            rw [HL.out]
            show _ = _
            rw [h9]
            show (i + ((nsteps 6 l).1 + 1), _) = _
            rw [show i + ((nsteps 6 l).1 + 1) = i + 1 + (nsteps 6 l).1 by omega]
          clear hnx
          rw [show (((2 : Nat) : Int)) = (2 : Int) from rfl]
          go_wp2_with (go_at_call 62; refine (DB.out _).mono ?_; rintro e w2 ⟨rfl, rfl⟩)
          go_roundw
          case rel => exact ⟨6, i + 1, rfl, by go_num, by have := HI.out; omega, by decide, HX, (by first | rfl | trivial)⟩
          case measure => have h9 := HI.out; simp [intOf]; omega
        · have HX : Hid (nsteps 0 S.toList = (i + 1 + (nsteps 6 (S.toList.drop (i + 1))).1, (nsteps 6 (S.toList.drop (i + 1))).2)) := by
            have h9 := HR.out
            rw [nsteps_some (x := 6) ((hnx 3).trans (by decide))] at h9
            rw [HL.out]
            show _ = _
            rw [h9]
            show (i + ((nsteps 6 l).1 + 1), _) = _
            rw [show i + ((nsteps 6 l).1 + 1) = i + 1 + (nsteps 6 l).1 by omega]
          clear hnx
          rw [show (((3 : Nat) : Int)) = (3 : Int) from rfl]
          go_wp2_with (go_at_call 62; refine (DB.out _).mono ?_; rintro e w2 ⟨rfl, rfl⟩)
          go_roundw
          case rel => exact ⟨6, i + 1, rfl, by go_num, by have := HI.out; omega, by decide, HX, (by first | rfl | trivial)⟩
          case measure => have h9 := HI.out; simp [intOf]; omega
        · have HX : Hid (nsteps 0 S.toList = (i, 4)) := by
            have h9 := HR.out
            rw [nsteps_none ((hnx 4).trans (by decide))] at h9
            exact h9
          clear hnx
          rw [show (((4 : Nat) : Int)) = (4 : Int) from rfl]
          go_wp2_with (go_at_call 62; refine (DB.out _).mono ?_; rintro e w2 ⟨rfl, rfl⟩)
          go_ret2
          exact ⟨by rw [HX.out]; rfl, rfl⟩
        · have HX : Hid (nsteps 0 S.toList = (i + 1 + (nsteps 6 (S.toList.drop (i + 1))).1, (nsteps 6 (S.toList.drop (i + 1))).2)) := by
            have h9 := HR.out
            rw [nsteps_some (x := 6) ((hnx 5).trans (by decide))] at h9
            rw [HL.out]
            show _ = _
            rw [h9]
            show (i + ((nsteps 6 l).1 + 1), _) = _
            rw [show i + ((nsteps 6 l).1 + 1) = i + 1 + (nsteps 6 l).1 by omega]
          clear hnx
          rw [show (((5 : Nat) : Int)) = (5 : Int) from rfl]
          go_wp2_with (go_at_call 62; refine (DB.out _).mono ?_; rintro e w2 ⟨rfl, rfl⟩)
          go_roundw
          case rel => exact ⟨6, i + 1, rfl, by go_num, by have := HI.out; omega, by decide, HX, (by first | rfl | trivial)⟩
          case measure => have h9 := HI.out; simp [intOf]; omega
        · have HX : Hid (nsteps 0 S.toList = (i, 6)) := by
            have h9 := HR.out
            rw [nsteps_none ((hnx 6).trans (by decide))] at h9
            exact h9
          clear hnx
          rw [show (((6 : Nat) : Int)) = (6 : Int) from rfl]
          go_wp2_with (go_at_call 62; refine (DB.out _).mono ?_; rintro e w2 ⟨rfl, rfl⟩)
          go_ret2
          exact ⟨by rw [HX.out]; rfl, rfl⟩
        · have HX : Hid (nsteps 0 S.toList = (i, 7)) := by
            have h9 := HR.out
            rw [nsteps_none ((hnx 7).trans (by decide))] at h9
            exact h9
          clear hnx
          rw [show (((7 : Nat) : Int)) = (7 : Int) from rfl]
          go_wp2_with (go_at_call 62; refine (DB.out _).mono ?_; rintro e w2 ⟨rfl, rfl⟩)
          go_ret2
          exact ⟨by rw [HX.out]; rfl, rfl⟩
        · have HX : Hid (nsteps 0 S.toList = (i, 8)) := by
            have h9 := HR.out
            rw [nsteps_none ((hnx 8).trans (by decide))] at h9
            exact h9
          clear hnx
          rw [show (((8 : Nat) : Int)) = (8 : Int) from rfl]
          go_wp2_with (go_at_call 62; refine (DB.out _).mono ?_; rintro e w2 ⟨rfl, rfl⟩)
          go_ret2
          exact ⟨by rw [HX.out]; rfl, rfl⟩
      · as_aux_lemma =>
        obtain rfl : y = 69 := by rw [hb0, hc]; rfl
        have hd : isDigit b = false := by rw [hc]; decide
        rw [hd] at DB
        have hnx : ∀ w, nextN w b = nextN w 69 := fun w => by rw [hc]
        clear hb0 hd
        rcases (by omega : wv = 0 ∨ wv = 1 ∨ wv = 2 ∨ wv = 3 ∨ wv = 4 ∨ wv = 5 ∨ wv = 6 ∨ wv = 7 ∨ wv = 8) with rfl | rfl | rfl | rfl | rfl | rfl | rfl | rfl | rfl
        · have HX : Hid (nsteps 0 S.toList = (i, 0)) := by
            have h9 := HR.out
            rw [nsteps_none ((hnx 0).trans (by decide))] at h9
            exact h9
          clear hnx
          rw [show (((0 : Nat) : Int)) = (0 : Int) from rfl]
          go_wp2_with (go_at_call 62; refine (DB.out _).mono ?_; rintro e w2 ⟨rfl, rfl⟩)
          go_ret2
          exact ⟨by rw [HX.out]; rfl, rfl⟩
        · have HX : Hid (nsteps 0 S.toList = (i, 1)) := by
            have h9 := HR.out
            rw [nsteps_none ((hnx 1).trans (by decide))] at h9
            exact h9
          clear hnx
          rw [show (((1 : Nat) : Int)) = (1 : Int) from rfl]
          go_wp2_with (go_at_call 62; refine (DB.out _).mono ?_; rintro e w2 ⟨rfl, rfl⟩)
          go_ret2
          exact ⟨by rw [HX.out]; rfl, rfl⟩
        · have HX : Hid (nsteps 0 S.toList = (i + 1 + (nsteps 6 (S.toList.drop (i + 1))).1, (nsteps 6 (S.toList.drop (i + 1))).2)) := by
            have h9 := HR.out
            rw [nsteps_some (x := 6) ((hnx 2).trans (by decide))] at h9
            rw [HL.out]
            show _ = _
            rw [h9]
            show (i + ((nsteps 6 l).1 + 1), _) = _
            rw [show i + ((nsteps 6 l).1 + 1) = i + 1 + (nsteps 6 l).1 by omega]
          clear hnx
          rw [show (((2 : Nat) : Int)) = (2 : Int) from rfl]
          go_wp2_with (go_at_call 62; refine (DB.out _).mono ?_; rintro e w2 ⟨rfl, rfl⟩)
          go_roundw
          case rel => exact ⟨6, i + 1, rfl, by go_num, by have := HI.out; omega, by decide, HX, (by first | rfl | trivial)⟩
          case measure => have h9 := HI.out; simp [intOf]; omega
        · have HX : Hid (nsteps 0 S.toList = (i + 1 + (nsteps 6 (S.toList.drop (i + 1))).1, (nsteps 6 (S.toList.drop (i + 1))).2)) := by
            have h9 := HR.out
            rw [nsteps_some (x := 6) ((hnx 3).trans (by decide))] at h9
            rw [HL.out]
            show _ = _
            rw [h9]
            show (i + ((nsteps 6 l).1 + 1), _) = _
            rw [show i + ((nsteps 6 l).1 + 1) = i + 1 + (nsteps 6 l).1 by omega]
          clear hnx
          rw [show (((3 : Nat) : Int)) = (3 : Int) from rfl]
          go_wp2_with (go_at_call 62; refine (DB.out _).mono ?_; rintro e w2 ⟨rfl, rfl⟩)
          go_roundw
          case rel => exact ⟨6, i + 1, rfl, by go_num, by have := HI.out; omega, by decide, HX, (by first | rfl | trivial)⟩
          case measure => have h9 := HI.out; simp [intOf]; omega
        · have HX : Hid (nsteps 0 S.toList = (i, 4)) := by
            have h9 := HR.out
            rw [nsteps_none ((hnx 4).trans (by decide))] at h9
            exact h9
          clear hnx
          rw [show (((4 : Nat) : Int)) = (4 : Int) from rfl]
          go_wp2_with (go_at_call 62; refine (DB.out _).mono ?_; rintro e w2 ⟨rfl, rfl⟩)
          go_ret2
          exact ⟨by rw [HX.out]; rfl, rfl⟩
        · have HX : Hid (nsteps 0 S.toList = (i + 1 + (nsteps 6 (S.toList.drop (i + 1))).1, (nsteps 6 (S.toList.drop (i + 1))).2)) := by
            have h9 := HR.out
            rw [nsteps_some (x := 6) ((hnx 5).trans (by decide))] at h9
            rw [HL.out]
            show _ = _
            rw [h9]
            show (i + ((nsteps 6 l).1 + 1), _) = _
            rw [show i + ((nsteps 6 l).1 + 1) = i + 1 + (nsteps 6 l).1 by omega]
          clear hnx
          rw [show (((5 : Nat) : Int)) = (5 : Int) from rfl]
          go_wp2_with (go_at_call 62; refine (DB.out _).mono ?_; rintro e w2 ⟨rfl, rfl⟩)
          go_roundw
          case rel => exact ⟨6, i + 1, rfl, by go_num, by have := HI.out; omega, by decide, HX, (by first | rfl | trivial)⟩
          case measure => have h9 := HI.out; simp [intOf]; omega
        · have HX : Hid (nsteps 0 S.toList = (i, 6)) := by
            have h9 := HR.out
            rw [nsteps_none ((hnx 6).trans (by decide))] at h9
            exact h9
          clear hnx
          rw [show (((6 : Nat) : Int)) = (6 : Int) from rfl]
          go_wp2_with (go_at_call 62; refine (DB.out _).mono ?_; rintro e w2 ⟨rfl, rfl⟩)
          go_ret2
          exact ⟨by rw [HX.out]; rfl, rfl⟩
        · have HX : Hid (nsteps 0 S.toList = (i, 7)) := by
            have h9 := HR.out
            rw [nsteps_none ((hnx 7).trans (by decide))] at h9
            exact h9
          clear hnx
          rw [show (((7 : Nat) : Int)) = (7 : Int) from rfl]
          go_wp2_with (go_at_call 62; refine (DB.out _).mono ?_; rintro e w2 ⟨rfl, rfl⟩)
          go_ret2
          exact ⟨by rw [HX.out]; rfl, rfl⟩
        · have HX : Hid (nsteps 0 S.toList = (i, 8)) := by
            have h9 := HR.out
            rw [nsteps_none ((hnx 8).trans (by decide))] at h9
            exact h9
          clear hnx
          rw [show (((8 : Nat) : Int)) = (8 : Int) from rfl]
          go_wp2_with (go_at_call 62; refine (DB.out _).mono ?_; rintro e w2 ⟨rfl, rfl⟩)
          go_ret2
          exact ⟨by rw [HX.out]; rfl, rfl⟩
      · as_aux_lemma =>
        have hd : isDigit b = true := decide_eq_true (by omega)
        rw [hd] at DB
        have hnx := nextN_dig b hc
        rw [← hb0] at hc
        have f45 := eqF (n := y) (c := 45) (by omega)
        have f43 := eqF (n := y) (c := 43) (by omega)
        have f48 := eqF (n := y) (c := 48) (by omega)
        have f46 := eqF (n := y) (c := 46) (by omega)
        have f101 := eqF (n := y) (c := 101) (by omega)
        have f69 := eqF (n := y) (c := 69) (by omega)
        clear hb0 hd
        rcases (by omega : wv = 0 ∨ wv = 1 ∨ wv = 2 ∨ wv = 3 ∨ wv = 4 ∨ wv = 5 ∨ wv = 6 ∨ wv = 7 ∨ wv = 8) with rfl | rfl | rfl | rfl | rfl | rfl | rfl | rfl | rfl
        · have HX : Hid (nsteps 0 S.toList = (i + 1 + (nsteps 3 (S.toList.drop (i + 1))).1, (nsteps 3 (S.toList.drop (i + 1))).2)) := by
            have h9 := HR.out
            rw [nsteps_some (x := 3) (hnx.1)] at h9
            rw [HL.out]
            show _ = _
            rw [h9]
            show (i + ((nsteps 3 l).1 + 1), _) = _
            rw [show i + ((nsteps 3 l).1 + 1) = i + 1 + (nsteps 3 l).1 by omega]
          clear hnx hc
          rw [show (((0 : Nat) : Int)) = (0 : Int) from rfl]
          go_wp2_with (go_at_call 62; refine (DB.out _).mono ?_; rintro e w2 ⟨rfl, rfl⟩)
          go_roundw
          case rel => exact ⟨3, i + 1, rfl, by go_num, by have := HI.out; omega, by decide, HX, (by first | rfl | trivial)⟩
          case measure => have h9 := HI.out; simp [intOf]; omega
        · have HX : Hid (nsteps 0 S.toList = (i + 1 + (nsteps 3 (S.toList.drop (i + 1))).1, (nsteps 3 (S.toList.drop (i + 1))).2)) := by
            have h9 := HR.out
            rw [nsteps_some (x := 3) (hnx.2.1)] at h9
            rw [HL.out]
            show _ = _
            rw [h9]
            show (i + ((nsteps 3 l).1 + 1), _) = _
            rw [show i + ((nsteps 3 l).1 + 1) = i + 1 + (nsteps 3 l).1 by omega]
          clear hnx hc
          rw [show (((1 : Nat) : Int)) = (1 : Int) from rfl]
          go_wp2_with (go_at_call 62; refine (DB.out _).mono ?_; rintro e w2 ⟨rfl, rfl⟩)
          go_roundw
          case rel => exact ⟨3, i + 1, rfl, by go_num, by have := HI.out; omega, by decide, HX, (by first | rfl | trivial)⟩
          case measure => have h9 := HI.out; simp [intOf]; omega
        · have HX : Hid (nsteps 0 S.toList = (i, 2)) := by
            have h9 := HR.out
            rw [nsteps_none (hnx.2.2.1)] at h9
            exact h9
          clear hnx hc
          rw [show (((2 : Nat) : Int)) = (2 : Int) from rfl]
          go_wp2_with (go_at_call 62; refine (DB.out _).mono ?_; rintro e w2 ⟨rfl, rfl⟩)
          go_ret2
          exact ⟨by rw [HX.out]; rfl, rfl⟩
        · have HX : Hid (nsteps 0 S.toList = (i + 1 + (nsteps 3 (S.toList.drop (i + 1))).1, (nsteps 3 (S.toList.drop (i + 1))).2)) := by
            have h9 := HR.out
            rw [nsteps_some (x := 3) (hnx.2.2.2.1)] at h9
            rw [HL.out]
            show _ = _
            rw [h9]
            show (i + ((nsteps 3 l).1 + 1), _) = _
            rw [show i + ((nsteps 3 l).1 + 1) = i + 1 + (nsteps 3 l).1 by omega]
          clear hnx hc
          rw [show (((3 : Nat) : Int)) = (3 : Int) from rfl]
          go_wp2_with (go_at_call 62; refine (DB.out _).mono ?_; rintro e w2 ⟨rfl, rfl⟩)
          go_roundw
          case rel => exact ⟨3, i + 1, rfl, by go_num, by have := HI.out; omega, by decide, HX, (by first | rfl | trivial)⟩
          case measure => have h9 := HI.out; simp [intOf]; omega
        · have HX : Hid (nsteps 0 S.toList = (i + 1 + (nsteps 5 (S.toList.drop (i + 1))).1, (nsteps 5 (S.toList.drop (i + 1))).2)) := by
            have h9 := HR.out
            rw [nsteps_some (x := 5) (hnx.2.2.2.2.1)] at h9
            rw [HL.out]
            show _ = _
            rw [h9]
            show (i + ((nsteps 5 l).1 + 1), _) = _
            rw [show i + ((nsteps 5 l).1 + 1) = i + 1 + (nsteps 5 l).1 by omega]
          clear hnx hc
          rw [show (((4 : Nat) : Int)) = (4 : Int) from rfl]
          go_wp2_with (go_at_call 62; refine (DB.out _).mono ?_; rintro e w2 ⟨rfl, rfl⟩)
          go_roundw
          case rel => exact ⟨5, i + 1, rfl, by go_num, by have := HI.out; omega, by decide, HX, (by first | rfl | trivial)⟩
          case measure => have h9 := HI.out; simp [intOf]; omega
        · have HX : Hid (nsteps 0 S.toList = (i + 1 + (nsteps 5 (S.toList.drop (i + 1))).1, (nsteps 5 (S.toList.drop (i + 1))).2)) := by
            have h9 := HR.out
            rw [nsteps_some (x := 5) (hnx.2.2.2.2.2.1)] at h9
            rw [HL.out]
            show _ = _
            rw [h9]
            show (i + ((nsteps 5 l).1 + 1), _) = _
            rw [show i + ((nsteps 5 l).1 + 1) = i + 1 + (nsteps 5 l).1 by omega]
          clear hnx hc
          rw [show (((5 : Nat) : Int)) = (5 : Int) from rfl]
          go_wp2_with (go_at_call 62; refine (DB.out _).mono ?_; rintro e w2 ⟨rfl, rfl⟩)
          go_roundw
          case rel => exact ⟨5, i + 1, rfl, by go_num, by have := HI.out; omega, by decide, HX, (by first | rfl | trivial)⟩
          case measure => have h9 := HI.out; simp [intOf]; omega
        · have HX : Hid (nsteps 0 S.toList = (i + 1 + (nsteps 8 (S.toList.drop (i + 1))).1, (nsteps 8 (S.toList.drop (i + 1))).2)) := by
            have h9 := HR.out
            rw [nsteps_some (x := 8) (hnx.2.2.2.2.2.2.1)] at h9
            rw [HL.out]
            show _ = _
            rw [h9]
            show (i + ((nsteps 8 l).1 + 1), _) = _
            rw [show i + ((nsteps 8 l).1 + 1) = i + 1 + (nsteps 8 l).1 by omega]
          clear hnx hc
          rw [show (((6 : Nat) : Int)) = (6 : Int) from rfl]
          go_wp2_with (go_at_call 62; refine (DB.out _).mono ?_; rintro e w2 ⟨rfl, rfl⟩)
          go_roundw
          case rel => exact ⟨8, i + 1, rfl, by go_num, by have := HI.out; omega, by decide, HX, (by first | rfl | trivial)⟩
          case measure => have h9 := HI.out; simp [intOf]; omega
        · have HX : Hid (nsteps 0 S.toList = (i + 1 + (nsteps 8 (S.toList.drop (i + 1))).1, (nsteps 8 (S.toList.drop (i + 1))).2)) := by
            have h9 := HR.out
            rw [nsteps_some (x := 8) (hnx.2.2.2.2.2.2.2.1)] at h9
            rw [HL.out]
            show _ = _
            rw [h9]
            show (i + ((nsteps 8 l).1 + 1), _) = _
            rw [show i + ((nsteps 8 l).1 + 1) = i + 1 + (nsteps 8 l).1 by omega]
          clear hnx hc
          rw [show (((7 : Nat) : Int)) = (7 : Int) from rfl]
          go_wp2_with (go_at_call 62; refine (DB.out _).mono ?_; rintro e w2 ⟨rfl, rfl⟩)
          go_roundw
          case rel => exact ⟨8, i + 1, rfl, by go_num, by have := HI.out; omega, by decide, HX, (by first | rfl | trivial)⟩
          case measure => have h9 := HI.out; simp [intOf]; omega
        · have HX : Hid (nsteps 0 S.toList = (i + 1 + (nsteps 8 (S.toList.drop (i + 1))).1, (nsteps 8 (S.toList.drop (i + 1))).2)) := by
            have h9 := HR.out
            rw [nsteps_some (x := 8) (hnx.2.2.2.2.2.2.2.2)] at h9
            rw [HL.out]
            show _ = _
            rw [h9]
            show (i + ((nsteps 8 l).1 + 1), _) = _
            rw [show i + ((nsteps 8 l).1 + 1) = i + 1 + (nsteps 8 l).1 by omega]
          clear hnx hc
          rw [show (((8 : Nat) : Int)) = (8 : Int) from rfl]
          go_wp2_with (go_at_call 62; refine (DB.out _).mono ?_; rintro e w2 ⟨rfl, rfl⟩)
          go_roundw
          case rel => exact ⟨8, i + 1, rfl, by go_num, by have := HI.out; omega, by decide, HX, (by first | rfl | trivial)⟩
          case measure => have h9 := HI.out; simp [intOf]; omega
      · as_aux_lemma =>
        have hd : isDigit b = false := decide_eq_false (by omega)
        rw [hd] at DB
        have hnx := nextN_oth b hc
        rw [← hb0] at hc
        have f48 := eqF (n := y) (c := 48) (by omega)
        have f45 := eqF (n := y) (c := 45) (by omega)
        have f43 := eqF (n := y) (c := 43) (by omega)
        have f46 := eqF (n := y) (c := 46) (by omega)
        have f101 := eqF (n := y) (c := 101) (by omega)
        have f69 := eqF (n := y) (c := 69) (by omega)
        clear hb0 hd
        rcases (by omega : wv = 0 ∨ wv = 1 ∨ wv = 2 ∨ wv = 3 ∨ wv = 4 ∨ wv = 5 ∨ wv = 6 ∨ wv = 7 ∨ wv = 8) with rfl | rfl | rfl | rfl | rfl | rfl | rfl | rfl | rfl
        · have HX : Hid (nsteps 0 S.toList = (i, 0)) := by
            have h9 := HR.out
            rw [nsteps_none (hnx.1)] at h9
            exact h9
          clear hnx hc
          rw [show (((0 : Nat) : Int)) = (0 : Int) from rfl]
          go_wp2_with (go_at_call 62; refine (DB.out _).mono ?_; rintro e w2 ⟨rfl, rfl⟩)
          go_ret2
          exact ⟨by rw [HX.out]; rfl, rfl⟩
        · have HX : Hid (nsteps 0 S.toList = (i, 1)) := by
            have h9 := HR.out
            rw [nsteps_none (hnx.2.1)] at h9
            exact h9
          clear hnx hc
          rw [show (((1 : Nat) : Int)) = (1 : Int) from rfl]
          go_wp2_with (go_at_call 62; refine (DB.out _).mono ?_; rintro e w2 ⟨rfl, rfl⟩)
          go_ret2
          exact ⟨by rw [HX.out]; rfl, rfl⟩
        · have HX : Hid (nsteps 0 S.toList = (i, 2)) := by
            have h9 := HR.out
            rw [nsteps_none (hnx.2.2.1)] at h9
            exact h9
          clear hnx hc
          rw [show (((2 : Nat) : Int)) = (2 : Int) from rfl]
          go_wp2_with (go_at_call 62; refine (DB.out _).mono ?_; rintro e w2 ⟨rfl, rfl⟩)
          go_ret2
          exact ⟨by rw [HX.out]; rfl, rfl⟩
        · have HX : Hid (nsteps 0 S.toList = (i, 3)) := by
            have h9 := HR.out
            rw [nsteps_none (hnx.2.2.2.1)] at h9
            exact h9
          clear hnx hc
          rw [show (((3 : Nat) : Int)) = (3 : Int) from rfl]
          go_wp2_with (go_at_call 62; refine (DB.out _).mono ?_; rintro e w2 ⟨rfl, rfl⟩)
          go_ret2
          exact ⟨by rw [HX.out]; rfl, rfl⟩
        · have HX : Hid (nsteps 0 S.toList = (i, 4)) := by
            have h9 := HR.out
            rw [nsteps_none (hnx.2.2.2.2.1)] at h9
            exact h9
          clear hnx hc
          rw [show (((4 : Nat) : Int)) = (4 : Int) from rfl]
          go_wp2_with (go_at_call 62; refine (DB.out _).mono ?_; rintro e w2 ⟨rfl, rfl⟩)
          go_ret2
          exact ⟨by rw [HX.out]; rfl, rfl⟩
        · have HX : Hid (nsteps 0 S.toList = (i, 5)) := by
            have h9 := HR.out
            rw [nsteps_none (hnx.2.2.2.2.2.1)] at h9
            exact h9
          clear hnx hc
          rw [show (((5 : Nat) : Int)) = (5 : Int) from rfl]
          go_wp2_with (go_at_call 62; refine (DB.out _).mono ?_; rintro e w2 ⟨rfl, rfl⟩)
          go_ret2
          exact ⟨by rw [HX.out]; rfl, rfl⟩
        · have HX : Hid (nsteps 0 S.toList = (i, 6)) := by
            have h9 := HR.out
            rw [nsteps_none (hnx.2.2.2.2.2.2.1)] at h9
            exact h9
          clear hnx hc
          rw [show (((6 : Nat) : Int)) = (6 : Int) from rfl]
          go_wp2_with (go_at_call 62; refine (DB.out _).mono ?_; rintro e w2 ⟨rfl, rfl⟩)
          go_ret2
          exact ⟨by rw [HX.out]; rfl, rfl⟩
        · have HX : Hid (nsteps 0 S.toList = (i, 7)) := by
            have h9 := HR.out
            rw [nsteps_none (hnx.2.2.2.2.2.2.2.1)] at h9
            exact h9
          clear hnx hc
          rw [show (((7 : Nat) : Int)) = (7 : Int) from rfl]
          go_wp2_with (go_at_call 62; refine (DB.out _).mono ?_; rintro e w2 ⟨rfl, rfl⟩)
          go_ret2
          exact ⟨by rw [HX.out]; rfl, rfl⟩
        · have HX : Hid (nsteps 0 S.toList = (i, 8)) := by
            have h9 := HR.out
            rw [nsteps_none (hnx.2.2.2.2.2.2.2.2)] at h9
            exact h9
          clear hnx hc
          rw [show (((8 : Nat) : Int)) = (8 : Int) from rfl]
          go_wp2_with (go_at_call 62; refine (DB.out _).mono ?_; rintro e w2 ⟨rfl, rfl⟩)
          go_ret2
          exact ⟨by rw [HX.out]; rfl, rfl⟩
    · obtain rfl : i = n := by omega
      have hx : S.toList.drop i = [] := List.drop_eq_nil_of_le (by rw [tl_size, HN.out]; exact Nat.le_refl _)
      have HX : Hid (nsteps 0 S.toList = (i, wv)) := by
        have h9 := HR.out
        rw [hx] at h9
        exact h9
      have e1 : ¬ (i : Int) < (i : Int) := by omega
      clear hx hi hin
      rcases (by omega : wv = 0 ∨ wv = 1 ∨ wv = 2 ∨ wv = 3 ∨ wv = 4 ∨ wv = 5 ∨ wv = 6 ∨ wv = 7 ∨ wv = 8) with rfl | rfl | rfl | rfl | rfl | rfl | rfl | rfl | rfl
      all_goals
        first
          | rw [show (((0 : Nat) : Int)) = (0 : Int) from rfl]
          | skip
        go_wp2_with fail
        go_ret2
        exact ⟨by rw [HX.out]; rfl, rfl⟩
end Jr
end Go.Proofs.YtpaikjlcachabaaDoor
