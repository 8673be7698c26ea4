/- The document's key. -/
import Derived.Test.YtjlmmlnldjandaaGreatDoorPbA
import Derived.Test.YtjlmmlnldjandaaGreatDoorOctX
namespace Go.Proofs.YtjlmmlnldjandaaGreatDoor
open Go.RowKit
set_option linter.unusedVariables false
set_option linter.unusedSimpArgs false
def RetI (c : Int) (w : World) (e : Ending) (w' : World) : Prop := e = .returned (.int .i64 c) ∧ w = w'
set_option maxRecDepth 100000 in
set_option maxHeartbeats 3200000 in
theorem rwrong_any (kind : Int) (S : ByteArray) (r n : Int) (w : World) :
    Calls Tryz.prog 71 #[.int .i64 kind, .string S, .int .i64 r, .int .i64 n] w (RetI (Pb.err kind S.size r n) w) := by
  have KN := known_any kind w
  obtain ⟨c, hc⟩ : ∃ c, Pb.err kind S.size r n = c := ⟨_, rfl⟩
  rw [hc]
  by_cases h0 : c = 0
  · subst h0
    obtain ⟨hk, h1, h2, h3, h4, h5⟩ := Pb.err_zero _ _ _ _ hc
    rw [hk] at KN
    have h6 : ¬ r < 1 := by omega
    have h7 : ¬ n < 1 := by omega
    have h8 : ¬ 256 < n := by omega
    have h9 : ¬ 4096 < r := by omega
    have h10 : ¬ (1024 : Int) < (S.size : Int) := by omega
    clear h1 h2 h3 h4 h5 hc hk
    go_enter Tryz.func71, Tryz.ntmps71
    go_wp2_with fail
    refine KN.mono ?_
    rintro e w1 ⟨rfl, rfl⟩
    go_wp2_with fail
    go_ret
    exact ⟨rfl, rfl⟩
  rcases pk_err _ _ _ _ c hc h0 with ⟨rfl, hk⟩ | ⟨hk, ⟨rfl, h⟩ | ⟨rfl, h1, h2, h3, h4⟩ | ⟨rfl, h1, h2, h3, h4, h5⟩⟩
  · rw [hk] at KN
    clear hk hc h0
    go_enter Tryz.func71, Tryz.ntmps71
    go_wp2_with fail
    refine KN.mono ?_
    rintro e w1 ⟨rfl, rfl⟩
    go_wp2_with fail
    go_ret
    exact ⟨rfl, rfl⟩
  · rw [hk] at KN
    clear hk hc h0
    by_cases h1 : r < 1
    · go_enter Tryz.func71, Tryz.ntmps71
      go_wp2_with fail
      refine KN.mono ?_
      rintro e w1 ⟨rfl, rfl⟩
      clear h
      go_wp2_with fail
      go_ret
      exact ⟨rfl, rfl⟩
    by_cases h2 : n < 1
    · go_enter Tryz.func71, Tryz.ntmps71
      go_wp2_with fail
      refine KN.mono ?_
      rintro e w1 ⟨rfl, rfl⟩
      clear h
      go_wp2_with fail
      go_ret
      exact ⟨rfl, rfl⟩
    have h3 : 256 < n := by omega
    clear h
    go_enter Tryz.func71, Tryz.ntmps71
    go_wp2_with fail
    refine KN.mono ?_
    rintro e w1 ⟨rfl, rfl⟩
    go_wp2_with fail
    go_ret
    exact ⟨rfl, rfl⟩
  · rw [hk] at KN
    have h5 : ¬ r < 1 := by omega
    have h6 : ¬ n < 1 := by omega
    have h7 : ¬ 256 < n := by omega
    clear h1 h2 h3 hk hc h0
    go_enter Tryz.func71, Tryz.ntmps71
    go_wp2_with fail
    refine KN.mono ?_
    rintro e w1 ⟨rfl, rfl⟩
    go_wp2_with fail
    go_ret
    exact ⟨rfl, rfl⟩
  · rw [hk] at KN
    have h6 : ¬ r < 1 := by omega
    have h7 : ¬ n < 1 := by omega
    have h8 : ¬ 256 < n := by omega
    have h9 : ¬ 4096 < r := by omega
    have h10 : (1024 : Int) < (S.size : Int) := by omega
    clear h1 h2 h3 h4 h5 hk hc h0
    go_enter Tryz.func71, Tryz.ntmps71
    go_wp2_with fail
    refine KN.mono ?_
    rintro e w1 ⟨rfl, rfl⟩
    go_wp2_with fail
    go_ret
    exact ⟨rfl, rfl⟩
set_option maxRecDepth 100000 in
set_option maxHeartbeats 3200000 in
theorem rkey_no (kind : Int) (K S : ByteArray) (r n : Int) (c : Int) (hc : Pb.err kind S.size r n = c) (h0 : c ≠ 0) (w : World) :
    Calls Tryz.prog 45 #[.int .i64 kind, .string K, .string S, .int .i64 r, .int .i64 n] w (RetNoK c w) := by
  have WR := rwrong_any kind S r n w
  rw [hc] at WR
  have e1 : (c != 0) = true := by rw [bne_iff_ne]; exact h0
  clear hc h0
  go_enter Tryz.func45, Tryz.ntmps45
  go_wp2_with fail
  refine WR.mono ?_
  rintro e w1 ⟨rfl, rfl⟩
  go_wp2_with fail
  go_ret2
  exact ⟨rfl, Below.refl _ _⟩
set_option maxRecDepth 100000 in
set_option maxHeartbeats 6400000 in
theorem rkey_ok (kind : Int) (hk : Sh.known kind = true) (K S : ByteArray) (hK : K.size ≤ 17592186044416) (hS : S.size ≤ 1024) (R N : Nat) (hR : 1 ≤ R ∧ R ≤ 4096) (hN : 1 ≤ N ∧ N ≤ 256) (hc : Pb.err kind S.size R N = 0) (w : World) :
    Calls Tryz.prog 45 #[.int .i64 kind, .string K, .string S, .int .i64 (R : Int), .int .i64 (N : Int)] w (RetSE (Pb.key kind K.toList S.toList R N) 0 w) := by
  have WR := rwrong_any kind S R N w
  rw [hc] at WR
  have HK := Lib.hid hk
  have HRN := Lib.hid (And.intro hR hN)
  have HSS := Lib.hid hS
  have HKS := Lib.hid hK
  clear hk hK hR hN hS hc
  go_enter Tryz.func45, Tryz.ntmps45
  go_wp2_with fail
  refine WR.mono ?_
  rintro e w1 ⟨rfl, rfl⟩
  clear WR
  go_wp2_with fail
  refine (make_any kind w HK.out).mono ?_
  rintro e w1 ⟨rfl, hru, hb⟩
  have HRU := Lib.hid hru
  have HB := Lib.hid hb
  clear hru hb
  go_wp2_with fail
  go_loopw [14, 15] (fun vo vi wr => ∃ (j : Nat) (o : ByteArray), vo = .string o ∧ vi = .int .u64 ((j + 1 : Nat) : Int) ∧ j ≤ 8 ∧ o.toList = Pb.out kind K.toList S.toList R j ∧ Ru wr w.heap.size kind (Sh.bits kind) ∧ Below w.heap.size w wr) (fun _ vi _ => 10 - (intOf vi).toNat)
  case atStart => exact ⟨0, _, rfl, rfl, Nat.zero_le _, tl_mk [], HRU.out, HB.out⟩
  case round =>
    clear HRU HB
    obtain ⟨j, o, rfl, rfl, hj, ho, hru, hb⟩ := hrel
    have HO := Lib.hid ho
    have HRU := Lib.hid hru
    have HB := Lib.hid hb
    have hol := Pb.out_len kind HK.out K.toList S.toList R (by have := HRN.out; omega) j
    rw [← ho, tl_size] at hol
    have hoN := Pb.outN_ge kind HK.out
    have hos : o.size ≤ 512 ∧ 32 * j ≤ o.size := by
      rw [hol]
      refine ⟨?_, ?_⟩
      · exact Nat.le_trans (Nat.mul_le_mul hj hoN.2) (by decide)
      · rw [Nat.mul_comm]; exact Nat.mul_le_mul_left _ hoN.1
    clear ho hru hb hol hoN
    by_cases hlt : o.size < N
    · have hltI : (o.size : Int) < (N : Int) := by omega
      have hj8 : j < 8 := by have := HRN.out; omega
      have HJ := Lib.hid hj8
      have q3 : IntKind.u64.wrap ((j : Int) + 1 + 1) = (j : Int) + 1 + 1 := by simp [IntKind.wrap, IntKind.bits, IntKind.signed]; omega
      have HOS := Lib.hid hos
      clear hos hj hj8
      go_wp2_with fail
      refine (rput_any (j + 1) 4 _ (by have := HJ.out; omega)).mono ?_
      rintro e w2 ⟨p, rfl, hp, hb2⟩
      have HP := Lib.hid hp
      have HRU2 := Lib.hid (HRU.out.below hb2 (Nat.le_refl _))
      have HB2 : Hid (Below w.heap.size w w2) := HB.out.trans (hb2.mono HB.out.size)
      have hps : p.size ≤ 8 := by
        rw [← tl_size, hp, putL]
        split
        · rw [be_length]; decide
        · exact Nat.zero_le _
      have q1 : ¬ 9223372036854775807 < S.size + p.size := by have := HSS.out; omega
      have HPS := Lib.hid hps
      clear hp hb2 hps
      go_wp2_with fail
      obtain ⟨t, ht⟩ : ∃ t, S ++ p = t := ⟨_, rfl⟩
      have htl : t.toList = S.toList ++ putL (j + 1) 4 := by rw [← ht, tl_cat, HP.out]
      have hts : t.size ≤ 1048576 := by rw [← ht, ByteArray.size_append]; have := HSS.out; have := HPS.out; omega
      have HTL := Lib.hid htl
      have HTS := Lib.hid hts
      rw [ht]
      clear ht htl hts
      refine (rwith_any w2 w.heap.size kind HK.out HRU2.out K t HKS.out (by have := HTS.out; omega)).mono ?_
      rintro e w3 ⟨u, rfl, hu, hb3⟩
      have HU := Lib.hid hu
      have HRU3 := Lib.hid (HRU2.out.below hb3 (Nat.le_refl _))
      have HB3 : Hid (Below w.heap.size w w3) := HB2.out.trans (hb3.mono HB2.out.size)
      clear hu hb3
      obtain ⟨wo, hwo⟩ : ∃ x, x = wr := ⟨_, rfl⟩
      subst hwo
      go_wp2_with fail
      go_loopw [18, 19, 20] (fun vu vx vk wr => ∃ (k : Nat) (u x : ByteArray), vu = .string u ∧ vx = .string x ∧ vk = .int .i64 (k : Int) ∧ 1 ≤ k ∧ k ≤ R ∧ u.toList = (Pb.st kind K.toList t.toList k).1 ∧ x.toList = (Pb.st kind K.toList t.toList k).2 ∧ Ru wr w.heap.size kind (Sh.bits kind) ∧ Below w.heap.size w wr) (fun _ _ vk _ => R - (intOf vk).toNat)
      case atStart => exact ⟨1, u, u, rfl, rfl, rfl, Nat.le_refl _, HRN.out.1.1, HU.out, HU.out, HRU3.out, HB3.out⟩
      case round =>
        clear HU HRU3 HB3
        obtain ⟨k, u, x, rfl, rfl, rfl, hk1, hkR, hu, hx, hru, hb⟩ := hrel
        have HU := Lib.hid hu
        have HX := Lib.hid hx
        have HRU4 := Lib.hid hru
        have HB4 := Lib.hid hb
        have hle := Pb.st_le kind HK.out K.toList t.toList k
        rw [← hu, ← hx, tl_size, tl_size, tl_size] at hle
        have HLE := Lib.hid hle
        clear hu hx hru hb hle
        by_cases hlk : k < R
        · have hlkI : (k : Int) < (R : Int) := by omega
          have hkb : k ≤ 4096 := by have := HRN.out; omega
          go_wp2_with fail
          refine (rwith_any _ w.heap.size kind HK.out HRU4.out K u HKS.out (by have := HTS.out; have := HLE.out; omega)).mono ?_
          rintro e w5 ⟨y, rfl, hy, hb5⟩
          have hys : y.size ≤ 64 := by
            rw [← tl_size, hy, Hm.mac, sh_len kind HK.out]
            exact (Pb.outN_ge kind HK.out).2
          have HYS := Lib.hid hys
          have HY := Lib.hid hy
          have HRU5 := Lib.hid (HRU4.out.below hb5 (Nat.le_refl _))
          have HB5 : Hid (Below w.heap.size w w5) := HB4.out.trans (hb5.mono HB4.out.size)
          clear hy hb5 hys
          go_wp2_with fail
          refine (rxor_any x y _ (by have := HLE.out; omega) (by have := HYS.out; omega)).mono ?_
          rintro e w6 ⟨z, rfl, hz, hb6⟩
          have HZ := Lib.hid hz
          have HRU6 := Lib.hid (HRU5.out.below hb6 (Nat.le_refl _))
          have HB6 : Hid (Below w.heap.size w w6) := HB5.out.trans (hb6.mono HB5.out.size)
          clear hz hb6
          go_wp2_with fail
          go_roundw
          case rel => exact ⟨k + 1, y, z, rfl, rfl, by go_num, by omega, hlk, by rw [HY.out, HU.out]; rfl, by rw [HZ.out, HX.out, HY.out, HU.out, Pb.st, if_neg (by omega)], HRU6.out, HB6.out⟩
          case measure => simp [intOf]; omega
        · have hke : k = R := by omega
          subst hke
          have hlkI : ¬ ((k : Int) < (k : Int)) := by omega
          have hxs : x.size ≤ 64 := HLE.out.1
          have q2 : ¬ 9223372036854775807 < o.size + x.size := by have := HOS.out; omega
          clear hxs
          go_wp2_with fail
          go_roundw
          case rel => exact ⟨j + 1, o ++ x, rfl, by go_num, HJ.out, by rw [tl_cat, HO.out, HX.out, Pb.out, HTL.out], HRU4.out, HB4.out⟩
          case measure => have := HJ.out; simp [intOf]; omega
    · have hltI : ¬ ((o.size : Int) < (N : Int)) := by omega
      have hNo : N ≤ o.size := by omega
      have s1 : (N : Int) ≤ (o.size : Int) := by omega
      have s2 : (0 : Int) ≤ (N : Int) := by omega
      clear hos
      go_wp2_with fail
      go_ret2
      refine ret_se (m := o.toList.take N) (tl_ext0S _ _) ?_ rfl HB.out
      rw [HO.out]
      exact Pb.key_of _ _ _ _ _ _ hj (by rw [← HO.out, tl_size]; exact hNo)
theorem rkey_any (kind : Int) (K S : ByteArray) (hK : K.size ≤ 17592186044416) (r n : Int) (w : World) :
    Calls Tryz.prog 45 #[.int .i64 kind, .string K, .string S, .int .i64 r, .int .i64 n] w (RetSE (Pb.keyT kind K.toList S.toList r n) (Pb.err kind S.size r n) w) := by
  obtain ⟨c, hc⟩ : ∃ c, Pb.err kind S.size r n = c := ⟨_, rfl⟩
  by_cases h0 : c = 0
  · subst h0
    obtain ⟨hk, h1, h2, h3, h4, h5⟩ := Pb.err_zero _ _ _ _ hc
    rw [Pb.keyT, tl_size, hc, if_pos rfl]
    have h := rkey_ok kind hk K S hK h5 r.toNat n.toNat (by omega) (by omega) (by rw [show ((r.toNat : Nat) : Int) = r by omega, show ((n.toNat : Nat) : Int) = n by omega]; exact hc) w
    rwa [show ((r.toNat : Nat) : Int) = r by omega, show ((n.toNat : Nat) : Int) = n by omega] at h
  · rw [Pb.keyT, tl_size, hc, if_neg h0]
    have hno : ∀ e w', RetNoK c w e w' → RetSE [] c w e w' := fun e w' h => ⟨ByteArray.empty, h.1, tl_mk [], h.2⟩
    exact (rkey_no kind K S r n c hc h0 w).mono hno
end Go.Proofs.YtjlmmlnldjandaaGreatDoor
