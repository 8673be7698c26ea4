/- The contract of Expand. -/
import Derived.Test.YtkedoiikkjeadaaDoorAesB
import Derived.Test.YtkedoiikkjeadaaDoorRowA
namespace Go.Proofs.YtkedoiikkjeadaaDoor
open Go.RowKit
set_option linter.unusedVariables false
set_option linter.unusedSimpArgs false
theorem info38 : (Tryd.prog.info? 101).map (fun i => (i.zero, i.size, i.bytes)) = some (some (.int .u32 0), 1, 4) := by kernel_rfl
/-- a row of words and no error -/
def RetWs (l : List UInt32) (w : World) (e : Ending) (w' : World) : Prop := ∃ cap, e = .returned (.tuple #[.slice (some ⟨w.heap.size, 0, none⟩) l.length cap, .int .i64 0]) ∧ At w' w.heap.size 0 (wcells l) ∧ Below w.heap.size w w'
theorem estep_eq (n k : Nat) (l : List UInt32) (p : UInt8) (xd xe t : UInt32) (p' : UInt8) (hl : l.length = k) (hd : l.getD (l.length - 1) 0 = xd) (he : l.getD (l.length - n) 0 = xe) (ht : turned n k xd p = t) (hp : (if k % n = 0 then dbl p else p) = p') : estep n (l, p) = (l ++ [xe ^^^ t], p') := by
  subst hl ht hp
  simp only [estep]
  rw [hd, he]
set_option maxRecDepth 100000 in
theorem expand_bad (key : ByteArray) (w : World) (h1 : key.size ≠ 16) (h2 : key.size ≠ 24) (h3 : key.size ≠ 32) : Calls Tryd.prog 68 #[.string key] w (fun e w' => e = .returned (.tuple #[.slice none 0 0, .int .i64 3]) ∧ w = w') := by
  have e1 : ((key.size : Int) != 16) = true := by rw [bne_iff_ne]; omega
  have e2 : ((key.size : Int) != 24) = true := by rw [bne_iff_ne]; omega
  have e3 : ((key.size : Int) != 32) = true := by rw [bne_iff_ne]; omega
  go_enter Tryd.func68, Tryd.ntmps68
  go_wp2
  go_ret2
  exact ⟨rfl, rfl⟩
set_option maxRecDepth 100000 in
set_option maxHeartbeats 3200000 in
theorem expand_4 (key : ByteArray) (w : World) (hs : key.size = 16) :
    Calls Tryd.prog 68 #[.string key] w (RetWs (expW key.toList) w) := by
  have e1 : ((key.size : Int) != 16) = false := by rw [bne_eq_false_iff_eq]; omega
  obtain ⟨i0, hi, hz0, hz1, hz2⟩ := info_parts info38
  have hmax : 44 ≤ maxLen := by unfold maxLen; omega
  have hby : i0.bytes * (44) ≤ 281474976710656 := by rw [hz2]; omega
  have hd : (key.size : Int) / 4 = (4 : Int) := by omega
  have HF := Lib.hid (wcells_made (44))
  have HS := Lib.hid hs
  clear hs
  go_enter Tryd.func68, Tryd.ntmps68
  go_wp2_with (at_make; refine wpList_make_full _ rfl (.tmp 28) (.tmp 28) 97 rfl w.heap.size 101 i0 (.int .u32 0) 1 Tryd.underlying97 hi hz0 hz1 .i64 .i64 _ _ (44) rfl rfl rfl rfl hby hmax (Nat.le_refl _) ?_; intro w1 hown hgrow)
  have hown2 : At w1 w.heap.size 0 (wcells (keyL key.toList 0 ++ List.replicate (44 - (keyL key.toList 0).length) 0)) := by
    have := At.ofOwn hown
    rw [HF.out] at this
    exact this
  have hbel := (Below.refl w.heap.size w).grown hgrow (Nat.le_refl _) (by simp)
  have hsz := hgrow.size
  clear hgrow hown
  clear hmax hby HF
  go_loopw [31] (fun i wr => ∃ k : Nat, k ≤ 4 ∧ i = .int .i64 k ∧ At wr w.heap.size 0 (wcells (keyL key.toList k ++ List.replicate (44 - (keyL key.toList k).length) 0)) ∧ Below w.heap.size w wr) (fun i _ => 4 - (intOf i).toNat)
  case atStart => exact ⟨0, Nat.zero_le _, rfl, hown2, hbel⟩
  case round =>
    clear hown2 hbel hd e1 hsz hi hz0 hz1 hz2
    obtain ⟨k, hk, rfl, hown, hbel⟩ := hrel
    have HO := Lib.hid hown
    clear hown
    by_cases hlt : k < 4
    · have hks : 4 * k + 3 < key.size := by have := HS.out; omega
      obtain ⟨q0, q1, q2, q3, hq0, hq1, hq2, hq3⟩ : ∃ q0 q1 q2 q3 : Nat, q0 = 4 * k ∧ q1 = 4 * k + 1 ∧ q2 = 4 * k + 2 ∧ q3 = 4 * k + 3 := ⟨_, _, _, _, rfl, rfl, rfl, rfl⟩
      have hw0 : IntKind.i64.wrap (4 * (k : Int)) = (q0 : Int) := by rw [wrap_in _ (by omega) (by omega)]; omega
      have hw1 : IntKind.i64.wrap ((q0 : Int) + 1) = (q1 : Int) := by rw [wrap_in _ (by omega) (by omega)]; omega
      have hw2 : IntKind.i64.wrap ((q0 : Int) + 2) = (q2 : Int) := by rw [wrap_in _ (by omega) (by omega)]; omega
      have hw3 : IntKind.i64.wrap ((q0 : Int) + 3) = (q3 : Int) := by rw [wrap_in _ (by omega) (by omega)]; omega
      have hs0 : q0 < key.size := by omega
      have hs1 : q1 < key.size := by omega
      have hs2 : q2 < key.size := by omega
      have hs3 : q3 < key.size := by omega
      have HK : Hid (wd key[q0] key[q1] key[q2] key[q3] = keyW key.toList k) := by
        show _ = _
        rw [keyW, ← hq3, ← hq2, ← hq1, ← hq0, at0_tl _ _ hs0, at0_tl _ _ hs1, at0_tl _ _ hs2, at0_tl _ _ hs3]
      clear hq0 hq1 hq2 hq3 hks
      have hkN : k < 44 := by omega
      have hkI : (k : Int) < 44 := by omega
      go_wp2
      go_still_tail 23, (by kernel_rfl)
      still_call (still_w (word_any _ _ _ _ _))
      repeat still_step
      refine wpStill_nil ?_
      have hN2 : (keyL key.toList k).length + 1 ≤ 44 := by rw [keyL_length]; exact hkN
      have hcell := HO.out.w32 k (by simp; rw [keyL_length]; omega)
      have hfr := HO.out.froz k (by simp [wcells_length]; rw [keyL_length]; omega)
      rw [Nat.zero_add] at hcell hfr
      change wpList _ _ _ _ _ wr.drew
      go_wp2
      go_roundw
      case rel =>
        refine ⟨k + 1, by omega, by go_num, ?_, (hbel.drew.setCell (p := ⟨w.heap.size, k, none⟩) (Nat.le_refl _) _)⟩
        have h := HO.out.drew.w32set k (keyW key.toList k)
        have h2 := grow_set (keyL key.toList k) 0 (keyW key.toList k) 44 (by rw [keyL_length]; exact hkN)
        rw [keyL_length] at h2
        rw [keyL_length, h2, ← keyL_succ, Nat.zero_add] at h
        rw [HK.out]
        exact h
      case measure => simp [intOf]; omega
    · have hkn : 4 = k := by omega
      subst hkn
      go_wp2
      rw [show ((4 : Nat) : Int) = (4 : Int) from rfl]
      have hbel0 := hbel
      have HO0 := HO
      clear hbel HO hlt hk
      go_loopw [7, 8] (fun p i wq => ∃ k : Nat, ∃ s : List UInt32 × UInt8, 4 ≤ k ∧ k ≤ 44 ∧ s.1.length = k ∧ i = .int .i64 k ∧ p = .int .u8 (s.2.toNat : Int) ∧ erun 4 (44 - k) s = erun 4 (40) (keyL key.toList 4, 1) ∧ At wq w.heap.size 0 (wcells (s.1 ++ List.replicate (44 - s.1.length) 0)) ∧ Below w.heap.size w wq) (fun _ i _ => 44 - (intOf i).toNat)
      case atStart => exact ⟨4, (keyL key.toList 4, 1), Nat.le_refl _, by omega, keyL_length _ _, rfl, rfl, rfl, HO0.out, hbel0⟩
      case round =>
        clear hbel0 HO0
        obtain ⟨k, ⟨l, p⟩, hnk, hk, hl, rfl, rfl, hrun, hown, hbel⟩ := hrel
        have HO := Lib.hid hown
        have HR := Lib.hid hrun
        have HLL := Lib.hid hl
        clear hown hrun hl
        simp only at HO HR HLL
        by_cases hlt : k < 44
        · obtain ⟨d, hd⟩ : ∃ d : Nat, (k : Int) - 1 = (d : Int) := ⟨k - 1, by omega⟩
          obtain ⟨e, he⟩ : ∃ e : Nat, (k : Int) - (4 : Int) = (e : Int) := ⟨k - 4, by omega⟩
          have hdk : d < l.length := by have := HLL.out; omega
          have hek : e < l.length := by have := HLL.out; omega
          have hcd := HO.out.w32 d (by simp; omega)
          have hce := HO.out.w32 e (by simp; omega)
          have hck := HO.out.w32 k (by have := HLL.out; simp; omega)
          have hfr := HO.out.froz k (by have := HLL.out; simp [wcells_length]; omega)
          rw [Nat.zero_add] at hcd hce hck hfr
          obtain ⟨xd, hxd, hxd2⟩ : ∃ x : UInt32, (l ++ List.replicate (44 - l.length) 0).getD d 0 = x ∧ l.getD (l.length - 1) 0 = x := ⟨_, rfl, by have := HLL.out; rw [show l.length - 1 = d by omega]; simp only [List.getD]; rw [List.getElem?_append_left hdk]⟩
          obtain ⟨xe, hxe, hxe2⟩ : ∃ x : UInt32, (l ++ List.replicate (44 - l.length) 0).getD e 0 = x ∧ l.getD (l.length - 4) 0 = x := ⟨_, rfl, by have := HLL.out; rw [show l.length - 4 = e by omega]; simp only [List.getD]; rw [List.getElem?_append_left hek]⟩
          rw [hxd] at hcd
          rw [hxe] at hce
          have HXD := Lib.hid hxd2
          have HXE := Lib.hid hxe2
          have hdN : d < 44 := by have := HLL.out; omega
          have heN : e < 44 := by omega
          clear hxd hxd2 hxe hxe2 hdk hek
          by_cases hc1 : k % 4 = 0
          · have t1 : ((k : Int) % (4 : Int) == 0) = true := by rw [beq_iff_eq]; omega
            go_wp2_with fail
            refine (rotl32_any xd 8 _).mono ?_
            rw [show ((8 : Int) % 32).toNat = 8 by rfl]
            rintro e w' ⟨rfl, rfl⟩
            go_wp2_with fail
            refine (subWord_any (rotl32 xd 8) _).mono ?_
            rintro e w' ⟨rfl, rfl⟩
            obtain ⟨tt, htt, htt2⟩ : ∃ tt : UInt32, bits .xor .u32 ((wd (gsub (rw_ (rotl32 xd 8) 0)) (gsub (rw_ (rotl32 xd 8) 1)) (gsub (rw_ (rotl32 xd 8) 2)) (gsub (rw_ (rotl32 xd 8) 3))).toNat : Int) ((p.toNat : Int) * 16777216) = (tt.toNat : Int) ∧ turned 4 k xd p = tt := ⟨_, by rw [hi_val, u32x], by rw [turned, if_pos hc1]; rfl⟩
            have HT := Lib.hid htt2
            have hp8 := p.toNat_lt
            clear htt2
            go_wp2_with fail
            refine (double_any p _).mono ?_
            rintro e w' ⟨rfl, rfl⟩
            go_wp2_with fail
            go_roundw
            case rel =>
              have hstep : estep 4 (l, p) = (l ++ [xe ^^^ tt], dbl p) := estep_eq 4 k l p xd xe _ _ HLL.out HXD.out HXE.out HT.out (if_pos hc1)
              have hrun := HR.out
              rw [show 44 - k = (44 - (k + 1)) + 1 by omega, erun, hstep] at hrun
              refine ⟨k + 1, (l ++ [xe ^^^ tt], dbl p), by omega, by omega, by have := HLL.out; simp; omega, by go_num, rfl, hrun, ?_, hbel.setCell (p := ⟨w.heap.size, k, none⟩) (Nat.le_refl _) _⟩
              have h := HO.out.w32set k (xe ^^^ tt)
              have h2 := grow_set l 0 (xe ^^^ tt) 44 (by have := HLL.out; omega)
              rw [HLL.out] at h2
              rw [HLL.out, h2, Nat.zero_add] at h
              rw [u32x]
              exact h
            case measure => simp [intOf]; omega
          · have t1 : ((k : Int) % (4 : Int) == 0) = false := by rw [beq_eq_false_iff_ne]; omega
            go_wp2_with fail
            go_roundw
            case rel =>
              have hstep : estep 4 (l, p) = (l ++ [xe ^^^ xd], p) := estep_eq 4 k l p xd xe _ _ HLL.out HXD.out HXE.out (by rw [turned, if_neg hc1, if_neg (by omega)]) (if_neg hc1)
              have hrun := HR.out
              rw [show 44 - k = (44 - (k + 1)) + 1 by omega, erun, hstep] at hrun
              refine ⟨k + 1, (l ++ [xe ^^^ xd], p), by omega, by omega, by have := HLL.out; simp; omega, by go_num, rfl, hrun, ?_, hbel.setCell (p := ⟨w.heap.size, k, none⟩) (Nat.le_refl _) _⟩
              have h := HO.out.w32set k (xe ^^^ xd)
              have h2 := grow_set l 0 (xe ^^^ xd) 44 (by have := HLL.out; omega)
              rw [HLL.out] at h2
              rw [HLL.out, h2, Nat.zero_add] at h
              rw [u32x]
              exact h
            case measure => simp [intOf]; omega
        · have hkn : k = 44 := by omega
          subst hkn
          go_wp2
          go_ret2
          have hr := HR.out
          have hlen := HLL.out
          have hexp : expW key.toList = l := by
            have h4n : key.toList.length / 4 = 4 := by rw [tl_size]; have := HS.out; omega
            rw [expW, h4n, ← hr, Nat.sub_self]
            rfl
          refine ⟨44, by rw [hexp, hlen]; rfl, ?_, hbel⟩
          have h := HO.out
          rw [hlen, Nat.sub_self, List.replicate_zero, List.append_nil] at h
          rw [hexp]
          exact h
set_option maxRecDepth 100000 in
set_option maxHeartbeats 3200000 in
theorem expand_6 (key : ByteArray) (w : World) (hs : key.size = 24) :
    Calls Tryd.prog 68 #[.string key] w (RetWs (expW key.toList) w) := by
  have e1 : ((key.size : Int) != 16) = true := by rw [bne_iff_ne]; omega
  have e2 : ((key.size : Int) != 24) = false := by rw [bne_eq_false_iff_eq]; omega
  obtain ⟨i0, hi, hz0, hz1, hz2⟩ := info_parts info38
  have hmax : 52 ≤ maxLen := by unfold maxLen; omega
  have hby : i0.bytes * (52) ≤ 281474976710656 := by rw [hz2]; omega
  have hd : (key.size : Int) / 4 = (6 : Int) := by omega
  have HF := Lib.hid (wcells_made (52))
  have HS := Lib.hid hs
  clear hs
  go_enter Tryd.func68, Tryd.ntmps68
  go_wp2_with (at_make; refine wpList_make_full _ rfl (.tmp 28) (.tmp 28) 97 rfl w.heap.size 101 i0 (.int .u32 0) 1 Tryd.underlying97 hi hz0 hz1 .i64 .i64 _ _ (52) rfl rfl rfl rfl hby hmax (Nat.le_refl _) ?_; intro w1 hown hgrow)
  have hown2 : At w1 w.heap.size 0 (wcells (keyL key.toList 0 ++ List.replicate (52 - (keyL key.toList 0).length) 0)) := by
    have := At.ofOwn hown
    rw [HF.out] at this
    exact this
  have hbel := (Below.refl w.heap.size w).grown hgrow (Nat.le_refl _) (by simp)
  have hsz := hgrow.size
  clear hgrow hown
  clear hmax hby HF
  go_loopw [31] (fun i wr => ∃ k : Nat, k ≤ 6 ∧ i = .int .i64 k ∧ At wr w.heap.size 0 (wcells (keyL key.toList k ++ List.replicate (52 - (keyL key.toList k).length) 0)) ∧ Below w.heap.size w wr) (fun i _ => 6 - (intOf i).toNat)
  case atStart => exact ⟨0, Nat.zero_le _, rfl, hown2, hbel⟩
  case round =>
    clear hown2 hbel hd e1 e2 hsz hi hz0 hz1 hz2
    obtain ⟨k, hk, rfl, hown, hbel⟩ := hrel
    have HO := Lib.hid hown
    clear hown
    by_cases hlt : k < 6
    · have hks : 4 * k + 3 < key.size := by have := HS.out; omega
      obtain ⟨q0, q1, q2, q3, hq0, hq1, hq2, hq3⟩ : ∃ q0 q1 q2 q3 : Nat, q0 = 4 * k ∧ q1 = 4 * k + 1 ∧ q2 = 4 * k + 2 ∧ q3 = 4 * k + 3 := ⟨_, _, _, _, rfl, rfl, rfl, rfl⟩
      have hw0 : IntKind.i64.wrap (4 * (k : Int)) = (q0 : Int) := by rw [wrap_in _ (by omega) (by omega)]; omega
      have hw1 : IntKind.i64.wrap ((q0 : Int) + 1) = (q1 : Int) := by rw [wrap_in _ (by omega) (by omega)]; omega
      have hw2 : IntKind.i64.wrap ((q0 : Int) + 2) = (q2 : Int) := by rw [wrap_in _ (by omega) (by omega)]; omega
      have hw3 : IntKind.i64.wrap ((q0 : Int) + 3) = (q3 : Int) := by rw [wrap_in _ (by omega) (by omega)]; omega
      have hs0 : q0 < key.size := by omega
      have hs1 : q1 < key.size := by omega
      have hs2 : q2 < key.size := by omega
      have hs3 : q3 < key.size := by omega
      have HK : Hid (wd key[q0] key[q1] key[q2] key[q3] = keyW key.toList k) := by
        show _ = _
        rw [keyW, ← hq3, ← hq2, ← hq1, ← hq0, at0_tl _ _ hs0, at0_tl _ _ hs1, at0_tl _ _ hs2, at0_tl _ _ hs3]
      clear hq0 hq1 hq2 hq3 hks
      have hkN : k < 52 := by omega
      have hkI : (k : Int) < 52 := by omega
      go_wp2
      go_still_tail 23, (by kernel_rfl)
      still_call (still_w (word_any _ _ _ _ _))
      repeat still_step
      refine wpStill_nil ?_
      have hN2 : (keyL key.toList k).length + 1 ≤ 52 := by rw [keyL_length]; exact hkN
      have hcell := HO.out.w32 k (by simp; rw [keyL_length]; omega)
      have hfr := HO.out.froz k (by simp [wcells_length]; rw [keyL_length]; omega)
      rw [Nat.zero_add] at hcell hfr
      change wpList _ _ _ _ _ wr.drew
      go_wp2
      go_roundw
      case rel =>
        refine ⟨k + 1, by omega, by go_num, ?_, (hbel.drew.setCell (p := ⟨w.heap.size, k, none⟩) (Nat.le_refl _) _)⟩
        have h := HO.out.drew.w32set k (keyW key.toList k)
        have h2 := grow_set (keyL key.toList k) 0 (keyW key.toList k) 52 (by rw [keyL_length]; exact hkN)
        rw [keyL_length] at h2
        rw [keyL_length, h2, ← keyL_succ, Nat.zero_add] at h
        rw [HK.out]
        exact h
      case measure => simp [intOf]; omega
    · have hkn : 6 = k := by omega
      subst hkn
      go_wp2
      rw [show ((6 : Nat) : Int) = (6 : Int) from rfl]
      have hbel0 := hbel
      have HO0 := HO
      clear hbel HO hlt hk
      go_loopw [7, 8] (fun p i wq => ∃ k : Nat, ∃ s : List UInt32 × UInt8, 6 ≤ k ∧ k ≤ 52 ∧ s.1.length = k ∧ i = .int .i64 k ∧ p = .int .u8 (s.2.toNat : Int) ∧ erun 6 (52 - k) s = erun 6 (46) (keyL key.toList 6, 1) ∧ At wq w.heap.size 0 (wcells (s.1 ++ List.replicate (52 - s.1.length) 0)) ∧ Below w.heap.size w wq) (fun _ i _ => 52 - (intOf i).toNat)
      case atStart => exact ⟨6, (keyL key.toList 6, 1), Nat.le_refl _, by omega, keyL_length _ _, rfl, rfl, rfl, HO0.out, hbel0⟩
      case round =>
        clear hbel0 HO0
        obtain ⟨k, ⟨l, p⟩, hnk, hk, hl, rfl, rfl, hrun, hown, hbel⟩ := hrel
        have HO := Lib.hid hown
        have HR := Lib.hid hrun
        have HLL := Lib.hid hl
        clear hown hrun hl
        simp only at HO HR HLL
        by_cases hlt : k < 52
        · obtain ⟨d, hd⟩ : ∃ d : Nat, (k : Int) - 1 = (d : Int) := ⟨k - 1, by omega⟩
          obtain ⟨e, he⟩ : ∃ e : Nat, (k : Int) - (6 : Int) = (e : Int) := ⟨k - 6, by omega⟩
          have hdk : d < l.length := by have := HLL.out; omega
          have hek : e < l.length := by have := HLL.out; omega
          have hcd := HO.out.w32 d (by simp; omega)
          have hce := HO.out.w32 e (by simp; omega)
          have hck := HO.out.w32 k (by have := HLL.out; simp; omega)
          have hfr := HO.out.froz k (by have := HLL.out; simp [wcells_length]; omega)
          rw [Nat.zero_add] at hcd hce hck hfr
          obtain ⟨xd, hxd, hxd2⟩ : ∃ x : UInt32, (l ++ List.replicate (52 - l.length) 0).getD d 0 = x ∧ l.getD (l.length - 1) 0 = x := ⟨_, rfl, by have := HLL.out; rw [show l.length - 1 = d by omega]; simp only [List.getD]; rw [List.getElem?_append_left hdk]⟩
          obtain ⟨xe, hxe, hxe2⟩ : ∃ x : UInt32, (l ++ List.replicate (52 - l.length) 0).getD e 0 = x ∧ l.getD (l.length - 6) 0 = x := ⟨_, rfl, by have := HLL.out; rw [show l.length - 6 = e by omega]; simp only [List.getD]; rw [List.getElem?_append_left hek]⟩
          rw [hxd] at hcd
          rw [hxe] at hce
          have HXD := Lib.hid hxd2
          have HXE := Lib.hid hxe2
          have hdN : d < 52 := by have := HLL.out; omega
          have heN : e < 52 := by omega
          clear hxd hxd2 hxe hxe2 hdk hek
          by_cases hc1 : k % 6 = 0
          · have t1 : ((k : Int) % (6 : Int) == 0) = true := by rw [beq_iff_eq]; omega
            go_wp2_with fail
            refine (rotl32_any xd 8 _).mono ?_
            rw [show ((8 : Int) % 32).toNat = 8 by rfl]
            rintro e w' ⟨rfl, rfl⟩
            go_wp2_with fail
            refine (subWord_any (rotl32 xd 8) _).mono ?_
            rintro e w' ⟨rfl, rfl⟩
            obtain ⟨tt, htt, htt2⟩ : ∃ tt : UInt32, bits .xor .u32 ((wd (gsub (rw_ (rotl32 xd 8) 0)) (gsub (rw_ (rotl32 xd 8) 1)) (gsub (rw_ (rotl32 xd 8) 2)) (gsub (rw_ (rotl32 xd 8) 3))).toNat : Int) ((p.toNat : Int) * 16777216) = (tt.toNat : Int) ∧ turned 6 k xd p = tt := ⟨_, by rw [hi_val, u32x], by rw [turned, if_pos hc1]; rfl⟩
            have HT := Lib.hid htt2
            have hp8 := p.toNat_lt
            clear htt2
            go_wp2_with fail
            refine (double_any p _).mono ?_
            rintro e w' ⟨rfl, rfl⟩
            go_wp2_with fail
            go_roundw
            case rel =>
              have hstep : estep 6 (l, p) = (l ++ [xe ^^^ tt], dbl p) := estep_eq 6 k l p xd xe _ _ HLL.out HXD.out HXE.out HT.out (if_pos hc1)
              have hrun := HR.out
              rw [show 52 - k = (52 - (k + 1)) + 1 by omega, erun, hstep] at hrun
              refine ⟨k + 1, (l ++ [xe ^^^ tt], dbl p), by omega, by omega, by have := HLL.out; simp; omega, by go_num, rfl, hrun, ?_, hbel.setCell (p := ⟨w.heap.size, k, none⟩) (Nat.le_refl _) _⟩
              have h := HO.out.w32set k (xe ^^^ tt)
              have h2 := grow_set l 0 (xe ^^^ tt) 52 (by have := HLL.out; omega)
              rw [HLL.out] at h2
              rw [HLL.out, h2, Nat.zero_add] at h
              rw [u32x]
              exact h
            case measure => simp [intOf]; omega
          · have t1 : ((k : Int) % (6 : Int) == 0) = false := by rw [beq_eq_false_iff_ne]; omega
            go_wp2_with fail
            go_roundw
            case rel =>
              have hstep : estep 6 (l, p) = (l ++ [xe ^^^ xd], p) := estep_eq 6 k l p xd xe _ _ HLL.out HXD.out HXE.out (by rw [turned, if_neg hc1, if_neg (by omega)]) (if_neg hc1)
              have hrun := HR.out
              rw [show 52 - k = (52 - (k + 1)) + 1 by omega, erun, hstep] at hrun
              refine ⟨k + 1, (l ++ [xe ^^^ xd], p), by omega, by omega, by have := HLL.out; simp; omega, by go_num, rfl, hrun, ?_, hbel.setCell (p := ⟨w.heap.size, k, none⟩) (Nat.le_refl _) _⟩
              have h := HO.out.w32set k (xe ^^^ xd)
              have h2 := grow_set l 0 (xe ^^^ xd) 52 (by have := HLL.out; omega)
              rw [HLL.out] at h2
              rw [HLL.out, h2, Nat.zero_add] at h
              rw [u32x]
              exact h
            case measure => simp [intOf]; omega
        · have hkn : k = 52 := by omega
          subst hkn
          go_wp2
          go_ret2
          have hr := HR.out
          have hlen := HLL.out
          have hexp : expW key.toList = l := by
            have h4n : key.toList.length / 4 = 6 := by rw [tl_size]; have := HS.out; omega
            rw [expW, h4n, ← hr, Nat.sub_self]
            rfl
          refine ⟨52, by rw [hexp, hlen]; rfl, ?_, hbel⟩
          have h := HO.out
          rw [hlen, Nat.sub_self, List.replicate_zero, List.append_nil] at h
          rw [hexp]
          exact h
set_option maxRecDepth 100000 in
set_option maxHeartbeats 3200000 in
theorem expand_8 (key : ByteArray) (w : World) (hs : key.size = 32) :
    Calls Tryd.prog 68 #[.string key] w (RetWs (expW key.toList) w) := by
  have e1 : ((key.size : Int) != 16) = true := by rw [bne_iff_ne]; omega
  have e2 : ((key.size : Int) != 24) = true := by rw [bne_iff_ne]; omega
  have e3 : ((key.size : Int) != 32) = false := by rw [bne_eq_false_iff_eq]; omega
  obtain ⟨i0, hi, hz0, hz1, hz2⟩ := info_parts info38
  have hmax : 60 ≤ maxLen := by unfold maxLen; omega
  have hby : i0.bytes * (60) ≤ 281474976710656 := by rw [hz2]; omega
  have hd : (key.size : Int) / 4 = (8 : Int) := by omega
  have HF := Lib.hid (wcells_made (60))
  have HS := Lib.hid hs
  clear hs
  go_enter Tryd.func68, Tryd.ntmps68
  go_wp2_with (at_make; refine wpList_make_full _ rfl (.tmp 28) (.tmp 28) 97 rfl w.heap.size 101 i0 (.int .u32 0) 1 Tryd.underlying97 hi hz0 hz1 .i64 .i64 _ _ (60) rfl rfl rfl rfl hby hmax (Nat.le_refl _) ?_; intro w1 hown hgrow)
  have hown2 : At w1 w.heap.size 0 (wcells (keyL key.toList 0 ++ List.replicate (60 - (keyL key.toList 0).length) 0)) := by
    have := At.ofOwn hown
    rw [HF.out] at this
    exact this
  have hbel := (Below.refl w.heap.size w).grown hgrow (Nat.le_refl _) (by simp)
  have hsz := hgrow.size
  clear hgrow hown
  clear hmax hby HF
  go_loopw [31] (fun i wr => ∃ k : Nat, k ≤ 8 ∧ i = .int .i64 k ∧ At wr w.heap.size 0 (wcells (keyL key.toList k ++ List.replicate (60 - (keyL key.toList k).length) 0)) ∧ Below w.heap.size w wr) (fun i _ => 8 - (intOf i).toNat)
  case atStart => exact ⟨0, Nat.zero_le _, rfl, hown2, hbel⟩
  case round =>
    clear hown2 hbel hd e1 e2 e3 hsz hi hz0 hz1 hz2
    obtain ⟨k, hk, rfl, hown, hbel⟩ := hrel
    have HO := Lib.hid hown
    clear hown
    by_cases hlt : k < 8
    · have hks : 4 * k + 3 < key.size := by have := HS.out; omega
      obtain ⟨q0, q1, q2, q3, hq0, hq1, hq2, hq3⟩ : ∃ q0 q1 q2 q3 : Nat, q0 = 4 * k ∧ q1 = 4 * k + 1 ∧ q2 = 4 * k + 2 ∧ q3 = 4 * k + 3 := ⟨_, _, _, _, rfl, rfl, rfl, rfl⟩
      have hw0 : IntKind.i64.wrap (4 * (k : Int)) = (q0 : Int) := by rw [wrap_in _ (by omega) (by omega)]; omega
      have hw1 : IntKind.i64.wrap ((q0 : Int) + 1) = (q1 : Int) := by rw [wrap_in _ (by omega) (by omega)]; omega
      have hw2 : IntKind.i64.wrap ((q0 : Int) + 2) = (q2 : Int) := by rw [wrap_in _ (by omega) (by omega)]; omega
      have hw3 : IntKind.i64.wrap ((q0 : Int) + 3) = (q3 : Int) := by rw [wrap_in _ (by omega) (by omega)]; omega
      have hs0 : q0 < key.size := by omega
      have hs1 : q1 < key.size := by omega
      have hs2 : q2 < key.size := by omega
      have hs3 : q3 < key.size := by omega
      have HK : Hid (wd key[q0] key[q1] key[q2] key[q3] = keyW key.toList k) := by
        show _ = _
        rw [keyW, ← hq3, ← hq2, ← hq1, ← hq0, at0_tl _ _ hs0, at0_tl _ _ hs1, at0_tl _ _ hs2, at0_tl _ _ hs3]
      clear hq0 hq1 hq2 hq3 hks
      have hkN : k < 60 := by omega
      have hkI : (k : Int) < 60 := by omega
      go_wp2
      go_still_tail 23, (by kernel_rfl)
      still_call (still_w (word_any _ _ _ _ _))
      repeat still_step
      refine wpStill_nil ?_
      have hN2 : (keyL key.toList k).length + 1 ≤ 60 := by rw [keyL_length]; exact hkN
      have hcell := HO.out.w32 k (by simp; rw [keyL_length]; omega)
      have hfr := HO.out.froz k (by simp [wcells_length]; rw [keyL_length]; omega)
      rw [Nat.zero_add] at hcell hfr
      change wpList _ _ _ _ _ wr.drew
      go_wp2
      go_roundw
      case rel =>
        refine ⟨k + 1, by omega, by go_num, ?_, (hbel.drew.setCell (p := ⟨w.heap.size, k, none⟩) (Nat.le_refl _) _)⟩
        have h := HO.out.drew.w32set k (keyW key.toList k)
        have h2 := grow_set (keyL key.toList k) 0 (keyW key.toList k) 60 (by rw [keyL_length]; exact hkN)
        rw [keyL_length] at h2
        rw [keyL_length, h2, ← keyL_succ, Nat.zero_add] at h
        rw [HK.out]
        exact h
      case measure => simp [intOf]; omega
    · have hkn : 8 = k := by omega
      subst hkn
      go_wp2
      rw [show ((8 : Nat) : Int) = (8 : Int) from rfl]
      have hbel0 := hbel
      have HO0 := HO
      clear hbel HO hlt hk
      go_loopw [7, 8] (fun p i wq => ∃ k : Nat, ∃ s : List UInt32 × UInt8, 8 ≤ k ∧ k ≤ 60 ∧ s.1.length = k ∧ i = .int .i64 k ∧ p = .int .u8 (s.2.toNat : Int) ∧ erun 8 (60 - k) s = erun 8 (52) (keyL key.toList 8, 1) ∧ At wq w.heap.size 0 (wcells (s.1 ++ List.replicate (60 - s.1.length) 0)) ∧ Below w.heap.size w wq) (fun _ i _ => 60 - (intOf i).toNat)
      case atStart => exact ⟨8, (keyL key.toList 8, 1), Nat.le_refl _, by omega, keyL_length _ _, rfl, rfl, rfl, HO0.out, hbel0⟩
      case round =>
        clear hbel0 HO0
        obtain ⟨k, ⟨l, p⟩, hnk, hk, hl, rfl, rfl, hrun, hown, hbel⟩ := hrel
        have HO := Lib.hid hown
        have HR := Lib.hid hrun
        have HLL := Lib.hid hl
        clear hown hrun hl
        simp only at HO HR HLL
        by_cases hlt : k < 60
        · obtain ⟨d, hd⟩ : ∃ d : Nat, (k : Int) - 1 = (d : Int) := ⟨k - 1, by omega⟩
          obtain ⟨e, he⟩ : ∃ e : Nat, (k : Int) - (8 : Int) = (e : Int) := ⟨k - 8, by omega⟩
          have hdk : d < l.length := by have := HLL.out; omega
          have hek : e < l.length := by have := HLL.out; omega
          have hcd := HO.out.w32 d (by simp; omega)
          have hce := HO.out.w32 e (by simp; omega)
          have hck := HO.out.w32 k (by have := HLL.out; simp; omega)
          have hfr := HO.out.froz k (by have := HLL.out; simp [wcells_length]; omega)
          rw [Nat.zero_add] at hcd hce hck hfr
          obtain ⟨xd, hxd, hxd2⟩ : ∃ x : UInt32, (l ++ List.replicate (60 - l.length) 0).getD d 0 = x ∧ l.getD (l.length - 1) 0 = x := ⟨_, rfl, by have := HLL.out; rw [show l.length - 1 = d by omega]; simp only [List.getD]; rw [List.getElem?_append_left hdk]⟩
          obtain ⟨xe, hxe, hxe2⟩ : ∃ x : UInt32, (l ++ List.replicate (60 - l.length) 0).getD e 0 = x ∧ l.getD (l.length - 8) 0 = x := ⟨_, rfl, by have := HLL.out; rw [show l.length - 8 = e by omega]; simp only [List.getD]; rw [List.getElem?_append_left hek]⟩
          rw [hxd] at hcd
          rw [hxe] at hce
          have HXD := Lib.hid hxd2
          have HXE := Lib.hid hxe2
          have hdN : d < 60 := by have := HLL.out; omega
          have heN : e < 60 := by omega
          clear hxd hxd2 hxe hxe2 hdk hek
          by_cases hc1 : k % 8 = 0
          · have t1 : ((k : Int) % (8 : Int) == 0) = true := by rw [beq_iff_eq]; omega
            go_wp2_with fail
            refine (rotl32_any xd 8 _).mono ?_
            rw [show ((8 : Int) % 32).toNat = 8 by rfl]
            rintro e w' ⟨rfl, rfl⟩
            go_wp2_with fail
            refine (subWord_any (rotl32 xd 8) _).mono ?_
            rintro e w' ⟨rfl, rfl⟩
            obtain ⟨tt, htt, htt2⟩ : ∃ tt : UInt32, bits .xor .u32 ((wd (gsub (rw_ (rotl32 xd 8) 0)) (gsub (rw_ (rotl32 xd 8) 1)) (gsub (rw_ (rotl32 xd 8) 2)) (gsub (rw_ (rotl32 xd 8) 3))).toNat : Int) ((p.toNat : Int) * 16777216) = (tt.toNat : Int) ∧ turned 8 k xd p = tt := ⟨_, by rw [hi_val, u32x], by rw [turned, if_pos hc1]; rfl⟩
            have HT := Lib.hid htt2
            have hp8 := p.toNat_lt
            clear htt2
            go_wp2_with fail
            refine (double_any p _).mono ?_
            rintro e w' ⟨rfl, rfl⟩
            go_wp2_with fail
            go_roundw
            case rel =>
              have hstep : estep 8 (l, p) = (l ++ [xe ^^^ tt], dbl p) := estep_eq 8 k l p xd xe _ _ HLL.out HXD.out HXE.out HT.out (if_pos hc1)
              have hrun := HR.out
              rw [show 60 - k = (60 - (k + 1)) + 1 by omega, erun, hstep] at hrun
              refine ⟨k + 1, (l ++ [xe ^^^ tt], dbl p), by omega, by omega, by have := HLL.out; simp; omega, by go_num, rfl, hrun, ?_, hbel.setCell (p := ⟨w.heap.size, k, none⟩) (Nat.le_refl _) _⟩
              have h := HO.out.w32set k (xe ^^^ tt)
              have h2 := grow_set l 0 (xe ^^^ tt) 60 (by have := HLL.out; omega)
              rw [HLL.out] at h2
              rw [HLL.out, h2, Nat.zero_add] at h
              rw [u32x]
              exact h
            case measure => simp [intOf]; omega
          · have t1 : ((k : Int) % (8 : Int) == 0) = false := by rw [beq_eq_false_iff_ne]; omega
            by_cases hc4 : k % 8 = 4
            · have t4 : ((k : Int) % 8 == 4) = true := by rw [beq_iff_eq]; omega
              go_wp2_with fail
              refine (subWord_any xd _).mono ?_
              rintro e w' ⟨rfl, rfl⟩
              have hsub : wd (gsub (rw_ xd 0)) (gsub (rw_ xd 1)) (gsub (rw_ xd 2)) (gsub (rw_ xd 3)) = subW xd := rfl
              rw [hsub]
              clear hsub
              go_wp2_with fail
              go_roundw
              case rel =>
                have hstep : estep 8 (l, p) = (l ++ [xe ^^^ subW xd], p) := estep_eq 8 k l p xd xe _ _ HLL.out HXD.out HXE.out (by rw [turned, if_neg hc1, if_pos (by omega)]) (if_neg hc1)
                have hrun := HR.out
                rw [show 60 - k = (60 - (k + 1)) + 1 by omega, erun, hstep] at hrun
                refine ⟨k + 1, (l ++ [xe ^^^ subW xd], p), by omega, by omega, by have := HLL.out; simp; omega, by go_num, rfl, hrun, ?_, hbel.setCell (p := ⟨w.heap.size, k, none⟩) (Nat.le_refl _) _⟩
                have h := HO.out.w32set k (xe ^^^ subW xd)
                have h2 := grow_set l 0 (xe ^^^ subW xd) 60 (by have := HLL.out; omega)
                rw [HLL.out] at h2
                rw [HLL.out, h2, Nat.zero_add] at h
                rw [u32x]
                exact h
              case measure => simp [intOf]; omega
            · have t4 : ((k : Int) % 8 == 4) = false := by rw [beq_eq_false_iff_ne]; omega
              go_wp2_with fail
              go_roundw
              case rel =>
                have hstep : estep 8 (l, p) = (l ++ [xe ^^^ xd], p) := estep_eq 8 k l p xd xe _ _ HLL.out HXD.out HXE.out (by rw [turned, if_neg hc1, if_neg (by omega)]) (if_neg hc1)
                have hrun := HR.out
                rw [show 60 - k = (60 - (k + 1)) + 1 by omega, erun, hstep] at hrun
                refine ⟨k + 1, (l ++ [xe ^^^ xd], p), by omega, by omega, by have := HLL.out; simp; omega, by go_num, rfl, hrun, ?_, hbel.setCell (p := ⟨w.heap.size, k, none⟩) (Nat.le_refl _) _⟩
                have h := HO.out.w32set k (xe ^^^ xd)
                have h2 := grow_set l 0 (xe ^^^ xd) 60 (by have := HLL.out; omega)
                rw [HLL.out] at h2
                rw [HLL.out, h2, Nat.zero_add] at h
                rw [u32x]
                exact h
              case measure => simp [intOf]; omega
        · have hkn : k = 60 := by omega
          subst hkn
          go_wp2
          go_ret2
          have hr := HR.out
          have hlen := HLL.out
          have hexp : expW key.toList = l := by
            have h4n : key.toList.length / 4 = 8 := by rw [tl_size]; have := HS.out; omega
            rw [expW, h4n, ← hr, Nat.sub_self]
            rfl
          refine ⟨60, by rw [hexp, hlen]; rfl, ?_, hbel⟩
          have h := HO.out
          rw [hlen, Nat.sub_self, List.replicate_zero, List.append_nil] at h
          rw [hexp]
          exact h
theorem expand_any (key : ByteArray) (w : World) (h : key.size = 16 ∨ key.size = 24 ∨ key.size = 32) : Calls Tryd.prog 68 #[.string key] w (RetWs (expW key.toList) w) := by
  rcases h with h | h | h
  · exact expand_4 key w h
  · exact expand_6 key w h
  · exact expand_8 key w h
end Go.Proofs.YtkedoiikkjeadaaDoor
