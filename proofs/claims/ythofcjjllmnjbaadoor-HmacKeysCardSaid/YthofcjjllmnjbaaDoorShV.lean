/- The walks of ShaSums, ShaSizes, ShaNil. -/
import Derived.Test.YthofcjjllmnjbaaDoorShU
namespace Go.Proofs.YthofcjjllmnjbaaDoor
open Go.RowKit
set_option linter.unusedVariables false
set_option linter.unusedSimpArgs false
theorem tl_ext0S (s : ByteArray) (b : Nat) : (s.extract 0 b).toList = s.toList.take b := by
  rw [Lib.toList_data, Lib.extract_data, ← Lib.toList_data, List.drop_zero, Nat.sub_zero]
theorem sh_len (kind : Int) (hk : Sh.known kind = true) (D : List UInt8) : (Sh.shL kind D).length = Sh.outN kind := by
  have h8 : (Sh.hs (Sh.bits kind) (Sh.kL (Sh.bits kind)) (Sh.hL kind) (Sh.padL (Sh.bits kind) D) ((Sh.padL (Sh.bits kind) D).length / (2 * Sh.bits kind))).length = 8 := (hs_ok _ _ _ _ (hL_ok kind).1 (hL_ok kind).2 _).1
  rw [Sh.shL, List.length_take, flat_len, h8]
  rcases known_ways kind with rfl | rfl | rfl | ⟨hk2, _⟩
  · rfl
  · rfl
  · rfl
  · rw [hk] at hk2
    cases hk2
set_option maxRecDepth 100000 in
set_option maxHeartbeats 3200000 in
theorem wakes3_any (w : World) (hT : Tb w) : Calls Tryd.prog 16 #[] w (RetT w) := by
  have HS := Lib.hid (shasum_any 256 ⟨#[97, 98, 99]⟩ w hT (by decide))
  clear hT
  go_enter Tryd.func16, Tryd.ntmps16
  go_wp2_with fail
  refine HS.out.mono ?_
  rintro e w1 ⟨s, rfl, hs, hb1⟩
  rw [show Sh.shE 256 = 0 from rfl]
  rw [show shaS 256 (⟨#[97, 98, 99]⟩ : ByteArray).toList = Sh.shL 256 [97, 98, 99] by rw [shaS, show Sh.known 256 = true from rfl, show (⟨#[97, 98, 99]⟩ : ByteArray).toList = [97, 98, 99] from tl_mk [97, 98, 99]]; rfl] at hs
  have hss : s.size = 32 := by rw [← tl_size, hs, sh_len 256 rfl]; rfl
  have h1 : ((s.size : Int) == 32) = true := by rw [beq_iff_eq]; omega
  have h3 : (4 : Int) ≤ (s.size : Int) := by omega
  have h4 : 4 ≤ s.size := by omega
  have hx : (s.extract 0 4).toList = (ByteArray.mk #[186, 120, 22, 191]).toList := by rw [tl_ext0S, hs, Sh.abc256]; exact (tl_mk [186, 120, 22, 191]).symm
  have h5 : ((s.extract 0 4).toList == (ByteArray.mk #[186, 120, 22, 191]).toList) = true := by rw [hx, beq_self_eq_true]
  have h6 : s.extract 0 4 = ByteArray.mk #[186, 120, 22, 191] := tl_inj hx
  clear hs hx hss HS
  go_wp2_with fail
  go_ret
  exact ⟨rfl, hb1⟩
set_option maxRecDepth 100000 in
set_option maxHeartbeats 3200000 in
theorem shaSums_walk (kind : Int) (s : ByteArray) (w : World) (hF : Tb w) : Calls Tryd.prog 3 #[.int .i64 kind, .string s] w (RetT w) := by
  have HF := Lib.hid hF
  clear hF
  obtain ⟨c, hc⟩ : ∃ c, Sh.shE kind = c := ⟨_, rfl⟩
  have HE := Lib.hid hc
  clear hc
  rcases Decidable.em ((1048576 : Int) < (s.size : Int)) with h1 | h1
  · go_enter Tryd.func3, Tryd.ntmps3
    go_wp2_with fail
    refine (wakes3_any _ HF.out).mono ?_
    rintro e w1 ⟨rfl, hb01⟩
    go_wp2_with fail
    go_ret
    exact ⟨rfl, hb01⟩
  · go_enter Tryd.func3, Tryd.ntmps3
    go_wp2_with fail
    refine (wakes3_any _ HF.out).mono ?_
    rintro e w1 ⟨rfl, hb01⟩
    have HF1 := Lib.hid (HF.out.below hb01 HF.out.2.2)
    go_wp2_with fail
    refine (shasum_any kind s _ HF1.out (by omega)).mono ?_
    rintro e w2 ⟨y, rfl, hy, hb2⟩
    rw [HE.out]
    have hb02 := below2 hb01 hb2
    have HY := Lib.hid hy
    clear hb01 hb2 hy
    go_wp2_with fail
    refine (rsumk_any kind s _ (by omega)).mono ?_
    rintro e w3 ⟨z, rfl, hz, hb3⟩
    rw [HE.out]
    obtain rfl : y = z := tl_inj (by rw [HY.out, hz]; rfl)
    have hb03 := below2 hb02 hb3
    clear hb02 hb3 hz
    go_wp2_with fail
    go_ret
    exact ⟨rfl, hb03⟩
set_option maxRecDepth 100000 in
set_option maxHeartbeats 3200000 in
theorem shaSizes_no (kind : Int) (hk : Sh.known kind = false) (h1 : kind ≠ 256) (h2 : kind ≠ 384) (h3 : kind ≠ 512) (w : World) (hF : Tb w) : Calls Tryd.prog 4 #[.int .i64 kind] w (RetT w) := by
  have HF := Lib.hid hF
  have HK := Lib.hid hk
  have hs := size_any kind w
  rw [show (RetSz kind w) = (fun e w' => e = .returned (.tuple #[.int .i64 0, .int .i64 0, .int .i64 11]) ∧ w = w') by funext e w'; rw [RetSz, szA, szB, if_neg h1, if_neg h1, if_neg h2, if_neg h2, if_neg h3, if_neg h3, Sh.shE, hk]; rfl] at hs
  have HS := Lib.hid hs
  clear hF hk h1 h2 h3 hs
  go_enter Tryd.func4, Tryd.ntmps4
  go_wp2_with fail
  refine HS.out.mono ?_
  rintro e w1 ⟨rfl, rfl⟩
  go_wp2_with fail
  refine (new_no kind HK.out _).mono ?_
  rintro e w1 ⟨rfl, rfl⟩
  go_wp2_with fail
  refine (wakes3_any _ HF.out).mono ?_
  rintro e w1 ⟨rfl, hb01⟩
  go_wp2_with fail
  refine (known_any kind _).mono ?_
  rintro e w2 ⟨rfl, rfl⟩
  rw [HK.out]
  go_wp2_with fail
  go_ret
  exact ⟨rfl, hb01⟩
set_option maxRecDepth 100000 in
set_option maxHeartbeats 3200000 in
theorem shaSizes256 (w : World) (hF : Tb w) : Calls Tryd.prog 4 #[.int .i64 256] w (RetT w) := by
  have HF := Lib.hid hF
  clear hF
  go_enter Tryd.func4, Tryd.ntmps4
  go_wp2_with fail
  refine (size_any 256 _).mono ?_
  rintro e w1 ⟨rfl, rfl⟩
  rw [show szA 256 = 32 from rfl, show szB 256 = 64 from rfl, show Sh.shE 256 = 0 from rfl]
  go_wp2_with fail
  refine (new_yes 256 rfl _ HF.out).mono ?_
  rintro e w1 ⟨rfl, h1, hb1⟩
  have H1 := Lib.hid h1
  have HF1 := Lib.hid (HF.out.below hb1 HF.out.2.2)
  clear h1
  go_wp2_with fail
  refine (wakes3_any _ HF1.out).mono ?_
  rintro e w2 ⟨rfl, hb2⟩
  have hb02 := hb1.trans (hb2.mono hb1.size)
  have H2 := Lib.hid (H1.out.below hb2 H1.out.lt)
  have HF2 := Lib.hid (HF.out.below hb02 HF.out.2.2)
  clear hb1 hb2 H1 HF1
  go_wp2_with fail
  refine (known_any 256 _).mono ?_
  rintro e w3 ⟨rfl, rfl⟩
  rw [show Sh.known 256 = true from rfl]
  go_wp2_with fail
  refine (make_any 256 _ rfl).mono ?_
  rintro e w3 ⟨rfl, hru, hb3⟩
  have hb03 := hb02.trans (hb3.mono hb02.size)
  have H3 := Lib.hid (H2.out.below hb3 H2.out.lt)
  have HF3 := Lib.hid (HF.out.below hb03 HF.out.2.2)
  have HRU := Lib.hid hru
  clear hru hb02 hb3 H2 HF2
  go_wp2_with fail
  refine (hsum_any _ w.heap.size 256 rfl [] H3.out HF3.out (by decide)).mono ?_
  rintro e w4 ⟨y, rfl, hy, hb4⟩
  have hys : y.size = 32 := by rw [← tl_size, hy, sh_len 256 rfl]; rfl
  have hrl := HRU.out.lt
  have hd := (HRU.out.below hb4 (Nat.le_refl _)).hd
  have c1 := hd.cell 1 _ rfl
  have c2 := hd.cell 2 _ rfl
  rw [show ((256 : Int) / 8) = 32 from rfl] at c1
  rw [show ((2 * Sh.bits 256 : Nat) : Int) = 64 from rfl] at c2
  have h1 : ((y.size : Int) == 32) = true := by rw [beq_iff_eq]; omega
  have hb04 := hb03.trans (hb4.mono hb03.size)
  have HB4 := Lib.hid hb04
  clear hy hd hb03 hb4 hys hrl hb04
  go_wp2_with fail
  go_ret
  exact ⟨rfl, HB4.out⟩
set_option maxRecDepth 100000 in
set_option maxHeartbeats 3200000 in
theorem shaSizes384 (w : World) (hF : Tb w) : Calls Tryd.prog 4 #[.int .i64 384] w (RetT w) := by
  have HF := Lib.hid hF
  clear hF
  go_enter Tryd.func4, Tryd.ntmps4
  go_wp2_with fail
  refine (size_any 384 _).mono ?_
  rintro e w1 ⟨rfl, rfl⟩
  rw [show szA 384 = 48 from rfl, show szB 384 = 128 from rfl, show Sh.shE 384 = 0 from rfl]
  go_wp2_with fail
  refine (new_yes 384 rfl _ HF.out).mono ?_
  rintro e w1 ⟨rfl, h1, hb1⟩
  have H1 := Lib.hid h1
  have HF1 := Lib.hid (HF.out.below hb1 HF.out.2.2)
  clear h1
  go_wp2_with fail
  refine (wakes3_any _ HF1.out).mono ?_
  rintro e w2 ⟨rfl, hb2⟩
  have hb02 := hb1.trans (hb2.mono hb1.size)
  have H2 := Lib.hid (H1.out.below hb2 H1.out.lt)
  have HF2 := Lib.hid (HF.out.below hb02 HF.out.2.2)
  clear hb1 hb2 H1 HF1
  go_wp2_with fail
  refine (known_any 384 _).mono ?_
  rintro e w3 ⟨rfl, rfl⟩
  rw [show Sh.known 384 = true from rfl]
  go_wp2_with fail
  refine (make_any 384 _ rfl).mono ?_
  rintro e w3 ⟨rfl, hru, hb3⟩
  have hb03 := hb02.trans (hb3.mono hb02.size)
  have H3 := Lib.hid (H2.out.below hb3 H2.out.lt)
  have HF3 := Lib.hid (HF.out.below hb03 HF.out.2.2)
  have HRU := Lib.hid hru
  clear hru hb02 hb3 H2 HF2
  go_wp2_with fail
  refine (hsum_any _ w.heap.size 384 rfl [] H3.out HF3.out (by decide)).mono ?_
  rintro e w4 ⟨y, rfl, hy, hb4⟩
  have hys : y.size = 48 := by rw [← tl_size, hy, sh_len 384 rfl]; rfl
  have hrl := HRU.out.lt
  have hd := (HRU.out.below hb4 (Nat.le_refl _)).hd
  have c1 := hd.cell 1 _ rfl
  have c2 := hd.cell 2 _ rfl
  rw [show ((384 : Int) / 8) = 48 from rfl] at c1
  rw [show ((2 * Sh.bits 384 : Nat) : Int) = 128 from rfl] at c2
  have h1 : ((y.size : Int) == 48) = true := by rw [beq_iff_eq]; omega
  have hb04 := hb03.trans (hb4.mono hb03.size)
  have HB4 := Lib.hid hb04
  clear hy hd hb03 hb4 hys hrl hb04
  go_wp2_with fail
  go_ret
  exact ⟨rfl, HB4.out⟩
set_option maxRecDepth 100000 in
set_option maxHeartbeats 3200000 in
theorem shaSizes512 (w : World) (hF : Tb w) : Calls Tryd.prog 4 #[.int .i64 512] w (RetT w) := by
  have HF := Lib.hid hF
  clear hF
  go_enter Tryd.func4, Tryd.ntmps4
  go_wp2_with fail
  refine (size_any 512 _).mono ?_
  rintro e w1 ⟨rfl, rfl⟩
  rw [show szA 512 = 64 from rfl, show szB 512 = 128 from rfl, show Sh.shE 512 = 0 from rfl]
  go_wp2_with fail
  refine (new_yes 512 rfl _ HF.out).mono ?_
  rintro e w1 ⟨rfl, h1, hb1⟩
  have H1 := Lib.hid h1
  have HF1 := Lib.hid (HF.out.below hb1 HF.out.2.2)
  clear h1
  go_wp2_with fail
  refine (wakes3_any _ HF1.out).mono ?_
  rintro e w2 ⟨rfl, hb2⟩
  have hb02 := hb1.trans (hb2.mono hb1.size)
  have H2 := Lib.hid (H1.out.below hb2 H1.out.lt)
  have HF2 := Lib.hid (HF.out.below hb02 HF.out.2.2)
  clear hb1 hb2 H1 HF1
  go_wp2_with fail
  refine (known_any 512 _).mono ?_
  rintro e w3 ⟨rfl, rfl⟩
  rw [show Sh.known 512 = true from rfl]
  go_wp2_with fail
  refine (make_any 512 _ rfl).mono ?_
  rintro e w3 ⟨rfl, hru, hb3⟩
  have hb03 := hb02.trans (hb3.mono hb02.size)
  have H3 := Lib.hid (H2.out.below hb3 H2.out.lt)
  have HF3 := Lib.hid (HF.out.below hb03 HF.out.2.2)
  have HRU := Lib.hid hru
  clear hru hb02 hb3 H2 HF2
  go_wp2_with fail
  refine (hsum_any _ w.heap.size 512 rfl [] H3.out HF3.out (by decide)).mono ?_
  rintro e w4 ⟨y, rfl, hy, hb4⟩
  have hys : y.size = 64 := by rw [← tl_size, hy, sh_len 512 rfl]; rfl
  have hrl := HRU.out.lt
  have hd := (HRU.out.below hb4 (Nat.le_refl _)).hd
  have c1 := hd.cell 1 _ rfl
  have c2 := hd.cell 2 _ rfl
  rw [show ((512 : Int) / 8) = 64 from rfl] at c1
  rw [show ((2 * Sh.bits 512 : Nat) : Int) = 128 from rfl] at c2
  have h1 : ((y.size : Int) == 64) = true := by rw [beq_iff_eq]; omega
  have hb04 := hb03.trans (hb4.mono hb03.size)
  have HB4 := Lib.hid hb04
  clear hy hd hb03 hb4 hys hrl hb04
  go_wp2_with fail
  go_ret
  exact ⟨rfl, HB4.out⟩
theorem shaSizes_walk (kind : Int) (w : World) (hF : Tb w) : Calls Tryd.prog 4 #[.int .i64 kind] w (RetT w) := by
  rcases known_ways kind with rfl | rfl | rfl | ⟨hk, h1, h2, h3⟩
  · exact shaSizes256 w hF
  · exact shaSizes384 w hF
  · exact shaSizes512 w hF
  · exact shaSizes_no kind hk h1 h2 h3 w hF
set_option maxRecDepth 100000 in
theorem hSum_nil (w : World) : Calls Tryd.prog 23 #[.pointer none] w (fun e w' => e = .returned (.tuple #[.string ByteArray.empty, .int .i64 1]) ∧ w = w') := by
  have NN := Lib.hid (none_nil w)
  go_enter Tryd.func23, Tryd.ntmps23
  go_wp2_with fail
  refine NN.out.mono ?_
  rintro e w1 ⟨rfl, rfl⟩
  go_wp2_with fail
  go_ret2
  exact ⟨rfl, rfl⟩
set_option maxRecDepth 100000 in
theorem hWrite_nil (s : ByteArray) (w : World) : Calls Tryd.prog 24 #[.pointer none, .string s] w (fun e w' => e = .returned (.int .i64 1) ∧ w = w') := by
  have NN := Lib.hid (none_nil w)
  go_enter Tryd.func24, Tryd.ntmps24
  go_wp2_with fail
  refine NN.out.mono ?_
  rintro e w1 ⟨rfl, rfl⟩
  go_wp2_with fail
  go_ret
  exact ⟨rfl, rfl⟩
set_option maxRecDepth 100000 in
theorem hCopy_nil (w : World) : Calls Tryd.prog 25 #[.pointer none] w (fun e w' => e = .returned (.pointer none) ∧ w = w') := by
  have NN := Lib.hid (none_nil w)
  go_enter Tryd.func25, Tryd.ntmps25
  go_wp2_with fail
  refine NN.out.mono ?_
  rintro e w1 ⟨rfl, rfl⟩
  go_wp2_with fail
  go_ret
  exact ⟨rfl, rfl⟩
set_option maxRecDepth 100000 in
theorem hSum_zero (g : Nat) (w : World) (h : w.cell? ⟨g, 0, none⟩ = some (.int .i64 0)) : Calls Tryd.prog 23 #[.pointer (some ⟨g, 0, none⟩)] w (fun e w' => e = .returned (.tuple #[.string ByteArray.empty, .int .i64 1]) ∧ w = w') := by
  have NN := Lib.hid (none_zero g w h)
  clear h
  go_enter Tryd.func23, Tryd.ntmps23
  go_wp2_with fail
  refine NN.out.mono ?_
  rintro e w1 ⟨rfl, rfl⟩
  go_wp2_with fail
  go_ret2
  exact ⟨rfl, rfl⟩
set_option maxRecDepth 100000 in
theorem hWrite_zero (g : Nat) (s : ByteArray) (w : World) (h : w.cell? ⟨g, 0, none⟩ = some (.int .i64 0)) : Calls Tryd.prog 24 #[.pointer (some ⟨g, 0, none⟩), .string s] w (fun e w' => e = .returned (.int .i64 1) ∧ w = w') := by
  have NN := Lib.hid (none_zero g w h)
  clear h
  go_enter Tryd.func24, Tryd.ntmps24
  go_wp2_with fail
  refine NN.out.mono ?_
  rintro e w1 ⟨rfl, rfl⟩
  go_wp2_with fail
  go_ret
  exact ⟨rfl, rfl⟩
set_option maxRecDepth 100000 in
theorem hCopy_zero (g : Nat) (w : World) (h : w.cell? ⟨g, 0, none⟩ = some (.int .i64 0)) : Calls Tryd.prog 25 #[.pointer (some ⟨g, 0, none⟩)] w (fun e w' => e = .returned (.pointer none) ∧ w = w') := by
  have NN := Lib.hid (none_zero g w h)
  clear h
  go_enter Tryd.func25, Tryd.ntmps25
  go_wp2_with fail
  refine NN.out.mono ?_
  rintro e w1 ⟨rfl, rfl⟩
  go_wp2_with fail
  go_ret
  exact ⟨rfl, rfl⟩
set_option maxRecDepth 100000 in
set_option maxHeartbeats 3200000 in
theorem shaNil_walk (s : ByteArray) (w : World) (hF : Tb w) : Calls Tryd.prog 7 #[.string s] w (RetT w) := by
  have HF := Lib.hid hF
  clear hF
  go_enter Tryd.func7, Tryd.ntmps7
  go_wp2_with fail
  have hA := At.ofAlloc w Tryd.zeroCells53 53
  rw [hash_zero] at hA
  have hc := hA.cell 0 (.int .i64 0) rfl
  have hlt : w.heap.size < (w.alloc (Obj.cells Tryd.zeroCells53 53)).heap.size := by simp
  have hb1 : Below w.heap.size w (w.alloc (Obj.cells Tryd.zeroCells53 53)) := (Below.refl _ _).alloc (Nat.le_refl _) _
  clear hA
  generalize w.alloc (Obj.cells Tryd.zeroCells53 53) = w1 at *
  have HF1 := Lib.hid (HF.out.below hb1 HF.out.2.2)
  rw [Nat.add_zero] at hc
  have HC := Lib.hid hc
  have HB1 := Lib.hid hb1
  clear hc hb1
  refine (hSum_nil _).mono ?_
  rintro e w2 ⟨rfl, rfl⟩
  go_wp2_with fail
  refine (hSum_zero _ _ HC.out).mono ?_
  rintro e w2 ⟨rfl, rfl⟩
  go_wp2_with fail
  refine (wakes3_any _ HF1.out).mono ?_
  rintro e w2 ⟨rfl, hb2⟩
  have HC2 := Lib.hid ((hb2.cell (p := ⟨w.heap.size, 0, none⟩) hlt).trans HC.out)
  have HB2 := Lib.hid (HB1.out.trans (hb2.mono HB1.out.size))
  clear hb2
  go_wp2_with fail
  refine (hWrite_nil s _).mono ?_
  rintro e w3 ⟨rfl, rfl⟩
  go_wp2_with fail
  refine (hWrite_zero _ s _ HC2.out).mono ?_
  rintro e w3 ⟨rfl, rfl⟩
  go_wp2_with fail
  refine (hCopy_nil _).mono ?_
  rintro e w3 ⟨rfl, rfl⟩
  go_wp2_with fail
  refine (hCopy_zero _ _ HC2.out).mono ?_
  rintro e w3 ⟨rfl, rfl⟩
  go_wp2_with fail
  go_ret
  exact ⟨rfl, HB2.out⟩
end Go.Proofs.YthofcjjllmnjbaaDoor
