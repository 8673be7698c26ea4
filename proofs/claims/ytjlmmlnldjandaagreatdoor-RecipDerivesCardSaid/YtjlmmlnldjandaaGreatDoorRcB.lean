/- The program's Lock and Unlock. -/
import Derived.Test.YtjlmmlnldjandaaGreatDoorRcA
namespace Go.Proofs.YtjlmmlnldjandaaGreatDoor
open Go.RowKit
set_option linter.unusedVariables false
set_option linter.unusedSimpArgs false
theorem lock_not {k v t f : Nat} {c : Int} (h : lockE k v t f = c) (h0 : c ≠ 0) : (wroE k v ≠ 0 ∧ c = wroE k v) ∨ (wroE k v = 0 ∧ fillE t ≠ 0 ∧ c = 6 ∧ fillE t = 6) ∨ (wroE k v = 0 ∧ fillE t = 0 ∧ f ≠ fillN t ∧ c = 2) := by
  unfold lockE at h
  split at h
  · rename_i hw
    split at h
    · rename_i hf
      split at h
      · exact absurd h.symm h0
      · rename_i hn
        exact .inr (.inr ⟨hw, hf, hn, h.symm⟩)
    · rename_i hf
      refine .inr (.inl ⟨hw, hf, h.symm, ?_⟩)
      unfold fillE at hf ⊢
      split
      · rename_i hh
        rw [if_pos hh] at hf
        exact absurd rfl hf
      · rfl
  · rename_i hw
    exact .inl ⟨hw, h.symm⟩
set_option maxRecDepth 100000 in
set_option maxHeartbeats 1600000 in
theorem rcLock_no (key iv text fill : ByteArray) (c : Int) (w : World) (hc : lockE key.size iv.size text.size fill.size = c) (h0 : c ≠ 0) : Calls Tryz.prog 40 #[.string key, .string iv, .string text, .string fill] w (RetSE [] c w) := by
  have MY := Lib.hid (fun w => rcmay_any key iv w)
  have FI := Lib.hid (fun w => rcFill_any (text.size : Int) w)
  rcases lock_not hc h0 with ⟨hw, rfl⟩ | ⟨hw, hf, rfl, hf2⟩ | ⟨hw, hf, hn, rfl⟩
  · obtain ⟨d, hd⟩ : ∃ d, wroE key.size iv.size = d := ⟨_, rfl⟩
    rw [hd] at hw MY ⊢
    have e1 : (d != 0) = true := by rw [bne_iff_ne]; exact hw
    clear hc h0 hw hd
    go_enter Tryz.func40, Tryz.ntmps40
    go_wp2_with fail
    refine (MY.out _).mono ?_
    rintro e w1 ⟨rfl, hb⟩
    go_wp2_with fail
    go_ret2
    exact ret_se (tl_mk []) rfl rfl hb
  · rw [hw] at MY
    unfold RetFl at FI
    rw [hf2] at FI
    clear hc h0 hw hf hf2
    go_enter Tryz.func40, Tryz.ntmps40
    go_wp2_with fail
    refine (MY.out _).mono ?_
    rintro e w1 ⟨rfl, hb⟩
    go_wp2_with fail
    refine (FI.out _).mono ?_
    rintro e w2 ⟨rfl, rfl⟩
    go_wp2_with fail
    go_ret2
    exact ret_se (tl_mk []) rfl rfl hb
  · rw [hw] at MY
    unfold RetFl at FI
    have hfv : fillV (text.size : Int) = (fillN text.size : Int) := by
      unfold fillE at hf
      split at hf
      · rename_i hh
        rw [fillV, if_pos hh]
        rfl
      · cases hf
    rw [hf, hfv] at FI
    obtain ⟨n, hn2⟩ : ∃ n, fillN text.size = n := ⟨_, rfl⟩
    rw [hn2] at FI hn
    have e1 : ((fill.size : Int) != (n : Int)) = true := by rw [bne_iff_ne]; omega
    clear hc h0 hw hf hfv hn hn2
    go_enter Tryz.func40, Tryz.ntmps40
    go_wp2_with fail
    refine (MY.out _).mono ?_
    rintro e w1 ⟨rfl, hb⟩
    go_wp2_with fail
    refine (FI.out _).mono ?_
    rintro e w2 ⟨rfl, rfl⟩
    go_wp2_with fail
    go_ret2
    exact ret_se (tl_mk []) rfl rfl hb
theorem fill_yes {t : Nat} (h3 : 3 ≤ t) (h : t ≤ 255) : fillE (t : Int) = 0 ∧ fillV (t : Int) = (fillN t : Int) := by
  rw [fillE, fillV, if_pos (by omega), if_pos (by omega)]
  exact ⟨rfl, rfl⟩
theorem cvb_byte (f : Nat) (hf : f < 256) (c : ByteArray) (hc : c = ⟨[UInt8.ofNat f].toArray⟩) : ∀ w' : World, (convert 54 9 (.slice (some ⟨w'.heap.size, 0, none⟩) 1 1)).run Tryz.prog (w'.alloc (Obj.cells #[.int .u8 (f : Int)] 5)) = .ok (.string c) (w'.alloc (Obj.cells #[.int .u8 (f : Int)] 5)) := fun w' => by
  have e9 : (f : Int) = ((UInt8.ofNat f).toNat : Int) := by simp; omega
  have hcv := convert_at (P := Tryz.prog) (cap := 1) (l := [UInt8.ofNat f]) (At.ofAlloc w' #[.int .u8 ((UInt8.ofNat f).toNat : Int)] 5) 54 9 5 1 rfl Tryz.underlying54 Tryz.underlying5 Tryz.underlying9
  rw [← hc, ← e9] at hcv
  exact hcv
theorem cvb_after (f : Nat) (hf : f < 256) (c : ByteArray) (hc : c = ⟨[UInt8.ofNat f].toArray⟩) {w w3 : World} (hb : Below (w.alloc (Obj.cells #[.int .u8 (f : Int)] 5)).drew.heap.size (w.alloc (Obj.cells #[.int .u8 (f : Int)] 5)).drew w3) :
    (convert 54 9 (.slice (some ⟨w.heap.size, 0, none⟩) 1 1)).run Tryz.prog w3 = .ok (.string c) w3 := by
  have e9 : (f : Int) = ((UInt8.ofNat f).toNat : Int) := by simp; omega
  have hA : At (w.alloc (Obj.cells #[.int .u8 (f : Int)] 5)).drew w.heap.size 0 (bcells [UInt8.ofNat f]) := by
    have h := At.ofAlloc w #[.int .u8 ((UInt8.ofNat f).toNat : Int)] 5
    rw [e9]
    exact h
  have hcv := convert_at (P := Tryz.prog) (cap := 1) (hA.below hb (by simp)) 54 9 5 1 rfl Tryz.underlying54 Tryz.underlying5 Tryz.underlying9
  rw [← hc] at hcv
  exact hcv
theorem cvb_byteD (f : Nat) (hf : f < 256) (c : ByteArray) (hc : c = ⟨[UInt8.ofNat f].toArray⟩) : ∀ w' : World, (convert 54 9 (.slice (some ⟨w'.heap.size, 0, none⟩) 1 1)).run Tryz.prog (w'.alloc (Obj.cells #[.int .u8 (f : Int)] 5)).drew = .ok (.string c) (w'.alloc (Obj.cells #[.int .u8 (f : Int)] 5)).drew := fun w' => cvb_byte f hf c hc w'.drew
/-- what was laid out, and its lengths -/
theorem lock_facts (K V : List UInt8) (text fill c x : ByteArray) (n : Nat) (hw : wroE K.length V.length = 0) (hn : text.size = n) (h3 : 3 ≤ n) (h255 : n ≤ 255) (hf : fill.size = fillN n) (hc : c.toList = [UInt8.ofNat n]) (hx : x.toList = xorL (text.toList.take 3) fffL) :
    (c ++ x ++ text ++ fill).toList = lockT text.toList fill.toList ∧ (c ++ x ++ text ++ fill).size = laidN n ∧ c.size = 1 ∧ x.size = 3 ∧ cbgE K.length V.length (cfit (c ++ x ++ text ++ fill).size) = 0 ∧ (chaL K V (lockT text.toList fill.toList)).length = laidN n := by
  have hl : (c ++ x ++ text ++ fill).toList = lockT text.toList fill.toList := by
    rw [tl_append, tl_append, tl_append, hc, hx, lockT, tl_size, hn]
    simp
  have hg := laidN_ge n
  have hs := fill_sum n
  have hsz : (c ++ x ++ text ++ fill).size = laidN n := by
    rw [← tl_size, hl, lockT_length _ _ (by rw [tl_size]; omega), tl_size, tl_size, hn, hf]
    exact hs
  have h272 := hg.2.2.2 h255
  have hcb : cbgE K.length V.length (cfit (laidN n)) = 0 := wro_cbg hw (by omega) (by omega)
  have hll : (lockT text.toList fill.toList).length = laidN n := by rw [← hl, tl_size, hsz]
  refine ⟨hl, hsz, by rw [← tl_size, hc]; rfl, ?_, by rw [hsz]; exact hcb, ?_⟩
  · rw [← tl_size, hx, xorL_len, List.length_take, tl_size, show fffL.length = 3 from rfl]
    omega
  · rw [(chain_back K V (lockT text.toList fill.toList) (by rw [hll]; exact hcb)).1, hll]
theorem last_facts (K : List UInt8) (k v : Nat) (s : ByteArray) (L : Nat) (hw : wroE k v = 0) (hs : s.size = L) (h : 32 ≤ L ∧ L % 16 = 0 ∧ L ≤ 272) : ∃ a z, a = L - 16 ∧ (s.size : Int) - 16 = (a : Int) ∧ IntKind.i64.wrap (a : Int) = (a : Int) ∧ (0 : Int) ≤ (a : Int) ∧ (a : Int) ≤ (s.size : Int) ∧ a ≤ s.size ∧ s.extract a s.size = z ∧ z.toList = lastB s.toList ∧ z.size = 16 ∧ cbgE k z.size (cfit s.size) = 0 := by
  refine ⟨L - 16, _, rfl, by omega, wrap_in _ (by omega) (by omega), by omega, by omega, by omega, rfl, ?_, ?_, ?_⟩
  · rw [tl_extE _ _ _ rfl, lastB, tl_size, hs]
  · rw [← tl_size, tl_extE _ _ _ rfl, List.length_drop, tl_size, hs]; omega
  · have hz : (s.extract (L - 16) s.size).size = 16 := by rw [← tl_size, tl_extE _ _ _ rfl, List.length_drop, tl_size, hs]; omega
    rw [hz, hs]
    exact wro_cbg (wro_key hw) (by omega) (by omega)
theorem xor_fff (T : List UInt8) : xorL T fffL = xorL (T.take 3) fffL := by
  have h := xorL_full T fffL 3 (.inr (Nat.le_refl _))
  rw [show fffL.take 3 = fffL from rfl] at h
  exact h.symm
set_option maxRecDepth 100000 in
set_option maxHeartbeats 6400000 in
theorem rcLock_ok (key iv text fill : ByteArray) (w : World) (hc : lockE key.size iv.size text.size fill.size = 0) : Calls Tryz.prog 40 #[.string key, .string iv, .string text, .string fill] w (RetSE (chaL key.toList (lastB (lockO key.toList iv.toList text.toList fill.toList)) (lockO key.toList iv.toList text.toList fill.toList)) 0 w) := by
  obtain ⟨hw, h3, h255, hf⟩ := lock_zero hc
  obtain ⟨n, hn⟩ : ∃ n, text.size = n := ⟨_, rfl⟩
  have MY := Lib.hid (fun w => rcmay_any key iv w)
  have FI := Lib.hid (fun w => rcFill_any (text.size : Int) w)
  have hfy := fill_yes h3 h255
  unfold RetFl at FI
  rw [hw] at MY
  rw [hfy.1, hfy.2, ← hf] at FI
  rw [hn] at h3 h255 hf
  have e1 : ((fill.size : Int) != (fill.size : Int)) = false := by rw [bne_eq_false_iff_eq]
  have e2 : IntKind.u8.wrap (n : Int) = (n : Int) := by simp [IntKind.wrap, IntKind.bits, IntKind.signed]; omega
  obtain ⟨c, hcc⟩ : ∃ c : ByteArray, c = ⟨[UInt8.ofNat n].toArray⟩ := ⟨_, rfl⟩
  have hn256 : n < 256 := by omega
  have hcv := cvb_byte n hn256 c hcc
  have hcvd := cvb_byteD n hn256 c hcc
  have hcl : c.toList = [UInt8.ofNat n] := by rw [hcc, tl_mk]
  have LF := Lib.hid (fun x hx => lock_facts key.toList iv.toList text fill c x n (by rw [tl_size, tl_size]; exact hw) hn h3 h255 hf hcl hx)
  have HN : Hid (text.size = n ∧ 3 ≤ n ∧ n ≤ 255 ∧ fill.size = fillN n ∧ c.size = 1) := ⟨hn, h3, h255, hf, by rw [hcc]; rfl⟩
  have HCC := Lib.hid hcc
  have HW := Lib.hid hw
  clear hc hw h3 h255 hf hfy hcc hcl
  rw [hn] at FI
  go_enter Tryz.func40, Tryz.ntmps40
  go_wp2_with fail
  refine (MY.out _).mono ?_
  rintro e w1 ⟨rfl, hb⟩
  have hb1 := hb
  go_wp2_with fail
  refine (FI.out _).mono ?_
  rintro e w2 ⟨rfl, rfl⟩
  go_wp2_with fail
  go_region_with ((go_at_call 64; refine (rccheck_any text (by have := HN.out; omega) _).mono ?_; rintro e w3 ⟨x, rfl, hx, hb3⟩; have hx2 : x.toList = xorL (text.toList.take 3) fffL := (hx); have HX := Lib.hid (LF.out x hx2); have hov1 : ¬ 9223372036854775807 < c.size + x.size := (by have h1 := HX.out.2.2.1; have h2 := HX.out.2.2.2.1; omega); have hov2 : ¬ 9223372036854775807 < c.size + x.size + text.size := (by have h1 := HX.out.2.2.1; have h2 := HX.out.2.2.2.1; have h3 := HN.out; omega); have hov3 : ¬ 9223372036854775807 < c.size + x.size + text.size + fill.size := (by have h1 := HX.out.2.2.1; have h2 := HX.out.2.2.2.1; have h3 := HN.out; have h4 := fill_sum n; have h5 := (laidN_ge n).2.2.2 h3.2.2.1; omega); (first | have hcv3 := cvb_after n hn256 c HCC.out hb3 | skip); clear hx hx2))
  all_goals
    clear hcv hcvd
    go_wp2_with fail
    refine (cChain_any key iv _ _).mono ?_
    rintro e w4 ⟨s, rfl, hs, hb4⟩
    have HS : Hid (s.toList = lockO key.toList iv.toList text.toList fill.toList) := by show _ = _; rw [hs, HX.out.1]; rfl
    have hss : s.size = laidN n := by rw [← tl_size, HS.out, lockO, HX.out.2.2.2.2.2]
    obtain ⟨a, z, ha, b1, b2, b3, b4, b5, hz, hzl, hzs, hcz⟩ := last_facts key.toList key.size iv.size s (laidN n) HW.out hss (by have h1 := laidN_ge n; have h2 := h1.2.2.2 HN.out.2.2.1; omega)
    have HZ := Lib.hid (And.intro hzl hcz)
    clear hs hss ha hzl hzs hcz
    go_wp2_with fail
    refine (cChain_any key z s _).mono ?_
    rintro e w5 ⟨u, rfl, hu, hb5⟩
    rw [HZ.out.1, HS.out] at hu
    rw [HZ.out.2]
    have HU := Lib.hid hu
    clear hu
    go_wp2_with fail
    go_ret2
  · exact ret_se HU.out rfl rfl (below2 (below2 (((hb1.alloc hb1.size _).drew).trans (hb3.mono (by have := hb1.size; simp; try omega))) hb4) hb5)
  · exact ret_se HU.out rfl rfl (below2 (below2 (((hb1.alloc hb1.size _).drew).trans (hb3.mono (by have := hb1.size; simp; try omega))) hb4) hb5)
  · exact ret_se HU.out rfl rfl (below2 (below2 ((hb1.drew.trans (hb3.mono hb1.size)).alloc (Nat.le_trans hb1.size hb3.size) _) hb4) hb5)
theorem rcLock_any (key iv text fill : ByteArray) (w : World) : Calls Tryz.prog 40 #[.string key, .string iv, .string text, .string fill] w (RetSE (lockL key.toList iv.toList text.toList fill.toList) (lockE key.size iv.size text.size fill.size) w) := by
  obtain ⟨c, hc⟩ : ∃ c, lockE key.size iv.size text.size fill.size = c := ⟨_, rfl⟩
  rw [lockL, tl_size, tl_size, tl_size, tl_size, hc]
  by_cases h0 : c = 0
  · rw [if_pos h0, h0]
    exact rcLock_ok key iv text fill w (hc.trans h0)
  · rw [if_neg h0]
    exact rcLock_no key iv text fill c w hc h0
end Go.Proofs.YtjlmmlnldjandaaGreatDoor
