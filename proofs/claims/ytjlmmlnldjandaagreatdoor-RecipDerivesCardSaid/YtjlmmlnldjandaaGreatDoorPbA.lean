/- The program's rounds; its key. -/
import Derived.Test.YtjlmmlnldjandaaGreatDoorPbP
import Derived.Test.YtjlmmlnldjandaaGreatDoorOctX
namespace Go.Proofs.YtjlmmlnldjandaaGreatDoor
open Go.RowKit
set_option linter.unusedVariables false
set_option linter.unusedSimpArgs false
def RetBk (B m : Nat) (kind : Int) (K l : List UInt8) (w : World) (e : Ending) (w' : World) : Prop := ∃ s : ByteArray, e = .returned (.string s) ∧ s.toList = l ∧ (∃ T, Mc w' B m kind K T) ∧ Below B w w'
set_option maxRecDepth 100000 in
set_option maxHeartbeats 6400000 in
theorem pblock_any (w : World) (B m : Nat) (kind : Int) (hk : Sh.known kind = true) (K : List UInt8) (T0 : List UInt8) (hM : Mc w B m kind K T0) (hB : 2 < B) (hT : Tb w) (t : ByteArray) (ht : t.size ≤ 1048576) (R : Nat) (hR : R ≤ 4096) :
    Calls Tryz.prog 70 #[.pointer (some ⟨m, 0, none⟩), .string t, .int .i64 (R : Int)] w (RetBk B m kind K (Pb.st kind K t.toList R).2 w) := by
  have HK := Lib.hid hk
  have HM := Lib.hid hM
  have HT := Lib.hid hT
  have HBB := Lib.hid hB
  have HTS := Lib.hid ht
  clear hk hM hT hB ht
  go_enter Tryz.func70, Tryz.ntmps70
  go_wp2_with fail
  go_loopw [1, 7, 10] (fun vt vs vi wr => ∃ (i : Nat) (u x : ByteArray), vt = .string u ∧ vs = .string x ∧ vi = .int .i64 (i : Int) ∧ i ≤ R ∧ u.toList = (Pb.st kind K t.toList i).1 ∧ x.toList = (Pb.st kind K t.toList i).2 ∧ (∃ T, Mc wr B m kind K T) ∧ Below B w wr ∧ Tb wr) (fun _ _ vi _ => R - (intOf vi).toNat)
  case atStart => exact ⟨0, _, _, rfl, rfl, rfl, Nat.zero_le _, rfl, tl_mk [], ⟨_, HM.out⟩, Below.refl _ _, HT.out⟩
  case round =>
    clear HM HT
    obtain ⟨i, u, x, rfl, rfl, rfl, hiR, hu, hx, ⟨T, hm⟩, hb, htb⟩ := hrel
    have HU := Lib.hid hu
    have HX := Lib.hid hx
    have HM := Lib.hid hm
    have HB := Lib.hid hb
    have HT := Lib.hid htb
    have hle := Pb.st_le kind HK.out K t.toList i
    rw [← hu, ← hx, tl_size, tl_size, tl_size] at hle
    have HLE := Lib.hid hle
    clear hu hx hm hb htb hle
    by_cases hlt : i < R
    · have hltI : (i : Int) < (R : Int) := by omega
      go_wp2_with fail
      refine (hagain_any _ B m kind HK.out _ _ HM.out).mono ?_
      rintro e w2 ⟨rfl, h2, hb2⟩
      have H2 := Lib.hid h2
      have HT2 := Lib.hid (HT.out.below hb2 HBB.out)
      have HB2 := Lib.hid (HB.out.trans hb2)
      clear h2 hb2
      go_wp2_with fail
      refine (hwrite_any _ B m kind HK.out _ [] u H2.out HBB.out HT2.out (by have := HLE.out; have := HTS.out; simp; omega)).mono ?_
      rintro e w3 ⟨rfl, h3, hb3⟩
      rw [List.nil_append] at h3
      have H3 := Lib.hid h3
      have HT3 := Lib.hid (HT2.out.below hb3 HBB.out)
      have HB3 := Lib.hid (HB2.out.trans hb3)
      clear h3 hb3
      go_wp2_with fail
      refine (hmacsum_any _ B m kind HK.out _ _ H3.out HBB.out HT3.out (by rw [tl_size]; have := HLE.out; have := HTS.out; omega)).mono ?_
      rintro e w4 ⟨y, rfl, hy, hb4⟩
      have HY := Lib.hid hy
      have H4 := Lib.hid (H3.out.below hb4)
      have HT4 := Lib.hid (HT3.out.below hb4 HT3.out.2.2)
      have HB4 : Hid (Below B w w4) := HB3.out.trans (hb4.mono (by have := H3.out.lt; omega))
      have hys : y.size ≤ 64 := by
        rw [← tl_size, hy, Hm.mac, sh_len kind HK.out]
        exact (Pb.outN_ge kind HK.out).2
      have HYS := Lib.hid hys
      clear hy hb4 hys
      by_cases hi0 : i = 0
      · subst hi0
        go_wp2_with fail
        go_roundw
        case rel => exact ⟨1, y, y, rfl, rfl, rfl, hlt, by rw [HY.out, HU.out]; rfl, by rw [HY.out, HU.out]; rfl, ⟨_, H4.out⟩, HB4.out, HT4.out⟩
        case measure => simp [intOf]; omega
      · have hiI : ((i : Int) == 0) = false := by rw [beq_eq_false_iff_ne]; omega
        go_wp2_with fail
        refine (xor_any x y _ (by have := HLE.out; omega) (by have := HYS.out; omega)).mono ?_
        rintro e w5 ⟨z, rfl, hz, hb5⟩
        have HZ := Lib.hid hz
        have H5 := Lib.hid (H4.out.below hb5)
        have HT5 := Lib.hid (HT4.out.below hb5 HT4.out.2.2)
        have HB5 : Hid (Below B w w5) := HB4.out.trans (hb5.mono (by have := H4.out.lt; omega))
        clear hz hb5
        go_wp2_with fail
        go_roundw
        case rel => exact ⟨i + 1, y, z, rfl, rfl, by go_num, hlt, by rw [HY.out, HU.out]; rfl, by rw [HZ.out, HX.out, HY.out, HU.out, Pb.st, if_neg hi0], ⟨_, H5.out⟩, HB5.out, HT5.out⟩
        case measure => simp [intOf]; omega
    · have hie : i = R := by omega
      subst hie
      have hltI : ¬ ((i : Int) < (i : Int)) := by omega
      go_wp2_with fail
      go_ret
      exact ⟨x, rfl, HX.out, ⟨T, HM.out⟩, HB.out⟩
/-- what may not be asked is refused -/
theorem pk_err (kind : Int) (s : Nat) (r n : Int) (c : Int) (h : Pb.err kind s r n = c) (hc : c ≠ 0) : c = 11 ∧ Sh.known kind = false ∨ Sh.known kind = true ∧ (c = 2 ∧ (r < 1 ∨ n < 1 ∨ 256 < n) ∨ c = 14 ∧ 1 ≤ r ∧ 1 ≤ n ∧ n ≤ 256 ∧ 4096 < r ∨ c = 4 ∧ 1 ≤ r ∧ 1 ≤ n ∧ n ≤ 256 ∧ r ≤ 4096 ∧ 1024 < s) := by
  unfold Pb.err at h
  split at h
  · rename_i hk
    exact .inl ⟨h.symm, hk⟩
  · rename_i hk
    have hk2 : Sh.known kind = true := by simpa using hk
    refine .inr ⟨hk2, ?_⟩
    split at h
    · rename_i h1
      exact .inl ⟨h.symm, h1⟩
    · split at h
      · exact .inr (.inl ⟨h.symm, by omega, by omega, by omega, by omega⟩)
      · split at h
        · exact .inr (.inr ⟨h.symm, by omega, by omega, by omega, by omega, by omega⟩)
        · exact absurd h.symm hc
def RetNoK (c : Int) (w : World) (e : Ending) (w' : World) : Prop := e = .returned (.tuple #[.string ByteArray.empty, .int .i64 c]) ∧ Below w.heap.size w w'
set_option maxRecDepth 100000 in
set_option maxHeartbeats 3200000 in
theorem pkey_kind (kind : Int) (hk : Sh.known kind = false) (K S : ByteArray) (r n : Int) (w : World) :
    Calls Tryz.prog 43 #[.int .i64 kind, .string K, .string S, .int .i64 r, .int .i64 n] w (RetNoK 11 w) := by
  have NW := Lib.hid (hnew_no kind hk K w)
  clear hk
  go_enter Tryz.func43, Tryz.ntmps43
  go_wp2_with fail
  refine NW.out.mono ?_
  rintro e w1 ⟨rfl, rfl⟩
  go_wp2_with fail
  go_ret2
  exact ⟨rfl, Below.refl _ _⟩
set_option maxRecDepth 100000 in
set_option maxHeartbeats 3200000 in
theorem pkey_no (kind : Int) (hk : Sh.known kind = true) (K S : ByteArray) (hK : K.size ≤ 281474976710656) (r n : Int) (c : Int) (w : World) (hT : Tb w)
    (h : c = 2 ∧ (r < 1 ∨ n < 1 ∨ 256 < n) ∨ c = 14 ∧ 1 ≤ r ∧ 1 ≤ n ∧ n ≤ 256 ∧ 4096 < r ∨ c = 4 ∧ 1 ≤ r ∧ 1 ≤ n ∧ n ≤ 256 ∧ r ≤ 4096 ∧ 1024 < S.size) :
    Calls Tryz.prog 43 #[.int .i64 kind, .string K, .string S, .int .i64 r, .int .i64 n] w (RetNoK c w) := by
  have NW := Lib.hid (hnew_any kind hk K hK w hT)
  clear hk hK hT
  rcases h with ⟨rfl, h⟩ | ⟨rfl, h1, h2, h3, h4⟩ | ⟨rfl, h1, h2, h3, h4, h5⟩
  · by_cases h1 : r < 1
    · go_enter Tryz.func43, Tryz.ntmps43
      go_wp2_with fail
      refine NW.out.mono ?_
      rintro e w1 ⟨m, rfl, _, hb⟩
      have HB := Lib.hid hb
      clear hb h
      go_wp2_with fail
      go_ret2
      exact ⟨rfl, HB.out⟩
    by_cases h2 : n < 1
    · go_enter Tryz.func43, Tryz.ntmps43
      go_wp2_with fail
      refine NW.out.mono ?_
      rintro e w1 ⟨m, rfl, _, hb⟩
      have HB := Lib.hid hb
      clear hb h
      go_wp2_with fail
      go_ret2
      exact ⟨rfl, HB.out⟩
    have h3 : 256 < n := by omega
    go_enter Tryz.func43, Tryz.ntmps43
    go_wp2_with fail
    refine NW.out.mono ?_
    rintro e w1 ⟨m, rfl, _, hb⟩
    have HB := Lib.hid hb
    clear hb h
    go_wp2_with fail
    go_ret2
    exact ⟨rfl, HB.out⟩
  · have h5 : ¬ r < 1 := by omega
    have h6 : ¬ n < 1 := by omega
    have h7 : ¬ 256 < n := by omega
    clear h1 h2 h3
    go_enter Tryz.func43, Tryz.ntmps43
    go_wp2_with fail
    refine NW.out.mono ?_
    rintro e w1 ⟨m, rfl, _, hb⟩
    have HB := Lib.hid hb
    clear hb
    go_wp2_with fail
    go_ret2
    exact ⟨rfl, HB.out⟩
  · have h6 : ¬ r < 1 := by omega
    have h7 : ¬ n < 1 := by omega
    have h8 : ¬ 256 < n := by omega
    have h9 : ¬ 4096 < r := by omega
    have h10 : (1024 : Int) < (S.size : Int) := by omega
    clear h1 h2 h3 h4 h5
    go_enter Tryz.func43, Tryz.ntmps43
    go_wp2_with fail
    refine NW.out.mono ?_
    rintro e w1 ⟨m, rfl, _, hb⟩
    have HB := Lib.hid hb
    clear hb
    go_wp2_with fail
    go_ret2
    exact ⟨rfl, HB.out⟩
set_option maxRecDepth 100000 in
set_option maxHeartbeats 6400000 in
theorem pkey_ok (kind : Int) (hk : Sh.known kind = true) (K S : ByteArray) (hK : K.size ≤ 281474976710656) (hS : S.size ≤ 1024) (R N : Nat) (hR : 1 ≤ R ∧ R ≤ 4096) (hN : 1 ≤ N ∧ N ≤ 256) (w : World) (hT : Tb w) :
    Calls Tryz.prog 43 #[.int .i64 kind, .string K, .string S, .int .i64 (R : Int), .int .i64 (N : Int)] w (RetSE (Pb.key kind K.toList S.toList R N) 0 w) := by
  have NW := Lib.hid (hnew_any kind hk K hK w hT)
  have HK := Lib.hid hk
  have HT := Lib.hid hT
  have HRN := Lib.hid (And.intro hR hN)
  have HSS := Lib.hid hS
  have h1 : ¬ ((R : Int) < 1) := by omega
  have h2 : ¬ ((N : Int) < 1) := by omega
  have h3 : ¬ (256 < (N : Int)) := by omega
  have h4 : ¬ (4096 < (R : Int)) := by omega
  have h5 : ¬ ((1024 : Int) < (S.size : Int)) := by omega
  clear hk hK hT hR hN hS
  go_enter Tryz.func43, Tryz.ntmps43
  go_wp2_with fail
  refine NW.out.mono ?_
  rintro e w1 ⟨m, rfl, hm, hb⟩
  have HM := Lib.hid hm
  have HB := Lib.hid hb
  have HT1 := Lib.hid (HT.out.below hb HT.out.2.2)
  clear hm hb
  go_wp2_with fail
  clear h1 h2 h3 h4 h5
  go_loopw [14, 15] (fun vo vi wr => ∃ (j : Nat) (o : ByteArray), vo = .string o ∧ vi = .int .u64 ((j + 1 : Nat) : Int) ∧ j ≤ 8 ∧ o.toList = Pb.out kind K.toList S.toList R j ∧ (∃ T, Mc wr w.heap.size m kind K.toList T) ∧ Below w.heap.size w wr ∧ Tb wr) (fun _ vi _ => 10 - (intOf vi).toNat)
  case atStart => exact ⟨0, _, rfl, rfl, Nat.zero_le _, tl_mk [], ⟨_, HM.out⟩, HB.out, HT1.out⟩
  case round =>
    clear HM HT1 HB NW
    obtain ⟨j, o, rfl, rfl, hj, ho, ⟨T, hm⟩, hb, htb⟩ := hrel
    have HO := Lib.hid ho
    have HM := Lib.hid hm
    have HB := Lib.hid hb
    have HTB := Lib.hid htb
    have hol := Pb.out_len kind HK.out K.toList S.toList R (by have := HRN.out; omega) j
    rw [← ho, tl_size] at hol
    have hoN := Pb.outN_ge kind HK.out
    have hos : o.size ≤ 512 ∧ 32 * j ≤ o.size := by
      rw [hol]
      refine ⟨?_, ?_⟩
      · exact Nat.le_trans (Nat.mul_le_mul hj hoN.2) (by decide)
      · rw [Nat.mul_comm]; exact Nat.mul_le_mul_left _ hoN.1
    clear ho hm hb htb hol hoN
    by_cases hlt : o.size < N
    · have hltI : (o.size : Int) < (N : Int) := by omega
      have hj8 : j < 8 := by have := HRN.out; omega
      have HJ := Lib.hid hj8
      have q3 : IntKind.u64.wrap ((j : Int) + 1 + 1) = (j : Int) + 1 + 1 := by simp [IntKind.wrap, IntKind.bits, IntKind.signed]; omega
      have HOS := Lib.hid hos
      clear hos hj hj8
      go_wp2_with fail
      refine (put_any (j + 1) 4 _ (by have := HJ.out; omega)).mono ?_
      rintro e w2 ⟨p, rfl, hp, hb2⟩
      have HP := Lib.hid hp
      have HM2 := Lib.hid (HM.out.below hb2)
      have HB2 : Hid (Below w.heap.size w w2) := HB.out.trans (hb2.mono HB.out.size)
      have HT2 := Lib.hid (HTB.out.below hb2 HTB.out.2.2)
      have hps : p.size ≤ 8 := by
        rw [← tl_size, hp, putL]
        split
        · rw [be_length]; decide
        · exact Nat.zero_le _
      have q1 : ¬ 9223372036854775807 < S.size + p.size := by have := HSS.out; omega
      have HPS := Lib.hid hps
      clear hp hb2 hps
      go_wp2_with fail
      refine (pblock_any _ w.heap.size m kind HK.out _ _ HM2.out HT.out.2.2 HT2.out (S ++ p) (by rw [ByteArray.size_append]; have := HSS.out; have := HPS.out; omega) R (by have := HRN.out; omega)).mono ?_
      rintro e w3 ⟨x, rfl, hx, ⟨T3, hm3⟩, hb3⟩
      rw [tl_cat, HP.out] at hx
      have hxs : x.size ≤ 64 := by rw [← tl_size, hx]; exact (Pb.st_le kind HK.out _ _ _).1
      have HX := Lib.hid hx
      have HM3 := Lib.hid hm3
      have HB3 : Hid (Below w.heap.size w w3) := HB2.out.trans hb3
      have HT3 := Lib.hid (HT.out.below HB3.out HT.out.2.2)
      have q2 : ¬ 9223372036854775807 < o.size + x.size := by have := HOS.out; omega
      clear hx hm3 hb3 hxs
      go_wp2_with fail
      go_roundw
      case rel => exact ⟨j + 1, o ++ x, rfl, by go_num, HJ.out, by rw [tl_cat, HO.out, HX.out, Pb.out], ⟨_, HM3.out⟩, HB3.out, HT3.out⟩
      case measure => have := HJ.out; simp [intOf]; omega
    · have hltI : ¬ ((o.size : Int) < (N : Int)) := by omega
      have hNo : N ≤ o.size := by omega
      have s1 : (N : Int) ≤ (o.size : Int) := by omega
      have s2 : (0 : Int) ≤ (N : Int) := by omega
      clear hos
      go_wp2_with fail
      go_ret2
      refine ret_se (m := o.toList.take N) (tl_ext0S _ _) ?_ rfl HB.out
      rw [HO.out]
      exact Pb.key_of _ _ _ _ _ _ hj (by rw [← HO.out, tl_size]; exact hNo)
theorem pkey_any (kind : Int) (K S : ByteArray) (hK : K.size ≤ 281474976710656) (r n : Int) (w : World) (hT : Tb w) :
    Calls Tryz.prog 43 #[.int .i64 kind, .string K, .string S, .int .i64 r, .int .i64 n] w (RetSE (Pb.keyT kind K.toList S.toList r n) (Pb.err kind S.size r n) w) := by
  obtain ⟨c, hc⟩ : ∃ c, Pb.err kind S.size r n = c := ⟨_, rfl⟩
  by_cases h0 : c = 0
  · subst h0
    obtain ⟨hk, h1, h2, h3, h4, h5⟩ := Pb.err_zero _ _ _ _ hc
    rw [Pb.keyT, tl_size, hc, if_pos rfl]
    have h := pkey_ok kind hk K S hK h5 r.toNat n.toNat (by omega) (by omega) w hT
    rwa [show ((r.toNat : Nat) : Int) = r by omega, show ((n.toNat : Nat) : Int) = n by omega] at h
  · rw [Pb.keyT, tl_size, hc, if_neg h0]
    have hno : ∀ e w', RetNoK c w e w' → RetSE [] c w e w' := fun e w' h => ⟨ByteArray.empty, h.1, tl_mk [], h.2⟩
    rcases pk_err _ _ _ _ c hc h0 with ⟨rfl, hk⟩ | ⟨hk, h⟩
    · exact (pkey_kind kind hk K S r n w).mono hno
    · exact (pkey_no kind hk K S hK r n c w hT h).mono hno
end Go.Proofs.YtjlmmlnldjandaaGreatDoor
