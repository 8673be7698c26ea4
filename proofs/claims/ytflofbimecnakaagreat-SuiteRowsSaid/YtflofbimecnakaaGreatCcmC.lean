/- The contract of tag: the program's. -/
import Derived.Test.YtflofbimecnakaaGreatCcmB
namespace Go.Proofs.YtflofbimecnakaaGreat
open Go.RowKit
set_option linter.unusedVariables false
set_option linter.unusedSimpArgs false
theorem chS_last (K V T : List UInt8) (n : Nat) (h : 1 ≤ n) : (chS K V T n).drop (16 * n - 16) = chA K V T n := by
  obtain ⟨m, rfl⟩ : ∃ m, n = m + 1 := ⟨n - 1, by omega⟩
  have : (chS K V T m).length = 16 * (m + 1) - 16 := by rw [chS_length]; omega
  rw [chS, ← this, List.drop_left]
theorem cc_nil (T : List UInt8) (h : T.length = 0) : filM T = [] := by
  rw [List.eq_nil_of_length_eq_zero h]
  rfl
set_option maxRecDepth 100000 in
set_option maxHeartbeats 1600000 in
theorem cctag_any (key nonce aad text : ByteArray) (s : Nat) (w : World) (hk : key.size = 16 ∨ key.size = 24 ∨ key.size = 32) (h7 : 7 ≤ nonce.size) (h13 : nonce.size ≤ 13) (s4 : 4 ≤ s) (s16 : s ≤ 16) (ht : text.size ≤ 70000) (htv : nonce.size = 13 → text.size < 65536) (ha : aad.size ≤ 70000) :
    Calls Tryz.prog 163 #[.string key, .string nonce, .string aad, .string text, .int .i64 (s : Int)] w (RetS (ccTag key.toList nonce.toList aad.toList text.toList s) w) := by
  have hV : nonce.toList.length ≤ 13 := by rw [tl_size]; exact h13
  have hsp := ccX_split key.toList nonce.toList aad.toList text.toList s hV
  have hjt := fun X hX => ccJoin_tag key.toList nonce.toList X s hV hX s16 (by omega)
  have hmc := ccMac key.toList nonce.toList aad.toList text.size s hV
  have hhs : (ccHead nonce.toList aad.toList text.size s).length ≤ aad.size + 38 := by
    have h1 := ccFirst_length nonce.toList aad.toList text.size s hV
    have h2 := ccBes_size aad.toList
    rw [tl_size] at h2
    rw [ccHead, List.length_append, h1]
    omega
  have HSP := Lib.hid hsp
  have HJT := Lib.hid hjt
  have HMC := Lib.hid hmc
  have HHS := Lib.hid hhs
  have HTV := Lib.hid htv
  have k1 : (0 : Int) ≤ (s : Int) := by omega
  clear hsp hjt hmc hhs htv hV
  go_enter Tryz.func163, Tryz.ntmps163
  go_wp2_with fail
  refine (ccfirst_any nonce aad text s _ h7 h13 s4 s16 ht HTV.out ha).mono ?_
  rintro e w1 ⟨fi, rfl, hfi, hb1⟩
  have HFI := Lib.hid hfi
  clear hfi
  go_wp2_with fail
  refine (beside_any aad _ ha).mono ?_
  rintro e w2 ⟨be_, rfl, hbe, hb2⟩
  have hb12 := below2 hb1 hb2
  obtain ⟨hd, hhd⟩ : ∃ hd, fi ++ be_ = hd := ⟨_, rfl⟩
  have hhl : hd.toList = ccHead nonce.toList aad.toList text.size s := by rw [← hhd, tl_append, HFI.out, hbe]; rfl
  have hhz : hd.size ≤ 70100 := by rw [← tl_size, hhl]; have := HHS.out; omega
  have hsz : fi.size + be_.size = hd.size := by rw [← hhd, ByteArray.size_append]
  have hov : ¬ 9223372036854775807 < fi.size + be_.size := by omega
  have HHL := Lib.hid hhl
  clear hbe hb1 hb2 hhl hsz
  go_wp2_with fail
  refine (cMac_any key hd _).mono ?_
  rintro e w3 ⟨la, rfl, hla, hb3⟩
  have hE : macE key.size hd.size = 0 := by rw [macE_yes hk, if_pos (by omega)]
  rw [hE]
  have hll : la.toList = chA key.toList (zer 16) (ccHead nonce.toList aad.toList text.size s) ((ccHead nonce.toList aad.toList text.size s).length / 16) := by
    rw [hla, macR, tl_size, tl_size, hE, if_pos rfl, HHL.out, HMC.out]
  have hls : la.size = 16 := by rw [← tl_size, hll, chA_length _ _ _ (zer_length 16)]
  have hb13 := below2 hb12 hb3
  have HLL := Lib.hid hll
  clear hla hE hll hb12 hb3 hhd hov
  by_cases h0 : text.size = 0
  · have i1 : ¬ (0 : Int) < (text.size : Int) := by omega
    have hX : la.toList = ccX key.toList nonce.toList aad.toList text.toList s := by
      rw [HSP.out, cc_nil text.toList (by rw [tl_size]; exact h0), tl_size, HLL.out]
      rfl
    have k2 : (s : Int) ≤ (la.size : Int) := by omega
    have k3 : s ≤ la.size := by omega
    obtain ⟨pc, hpc⟩ : ∃ pc, la.extract 0 s = pc := ⟨_, rfl⟩
    have hpl : pc.toList = (ccX key.toList nonce.toList aad.toList text.toList s).take s := by rw [← hpc, tl_ext0, hX]
    have hps : pc.size ≤ 70000 := by rw [← tl_size, hpl, List.length_take]; omega
    have HPL := Lib.hid hpl
    clear hX hpl h0
    go_wp2_with fail
    refine (joined_any key nonce pc 0 _ hk h7 h13 hps (by decide)).mono ?_
    rintro e w4 ⟨t, rfl, htt, hb4⟩
    go_wp2_with fail
    go_ret
    exact ⟨t, rfl, by rw [htt, HPL.out, HJT.out _ (ccX_length _ _ _ _ _), ccTag], below2 hb13 hb4⟩
  · have i1 : (0 : Int) < (text.size : Int) := by omega
    obtain ⟨n, hn⟩ : ∃ n, (filM text.toList).length / 16 = n := ⟨_, rfl⟩
    have hfm := filM_mod text.toList
    have hfs := filM_size text.toList
    have hfg : text.size ≤ (filM text.toList).length := by rw [filM, List.length_append, tl_size]; omega
    rw [tl_size] at hfs
    have hn1 : 1 ≤ n := by omega
    have hF16 : (filM text.toList).length = 16 * n := by omega
    have hFz : (filM text.toList).length ≤ 70016 := by omega
    have HN := Lib.hid hn
    have HF16 := Lib.hid hF16
    have HFZ := Lib.hid hFz
    have HLS := Lib.hid hls
    clear hn hfm hfs hfg hF16 hFz h0
    go_wp2_with fail
    refine (filled_any text _ (by omega)).mono ?_
    rintro e w4 ⟨fl, rfl, hfl, hb4⟩
    have hfls : fl.size = 16 * n := by rw [← tl_size, hfl, HF16.out]
    have hb14 := below2 hb13 hb4
    have HFL := Lib.hid hfl
    have HFLS := Lib.hid hfls
    clear hfl hfls hb13 hb4
    go_wp2_with fail
    refine (cChain_any key la fl _).mono ?_
    rintro e w5 ⟨ch, rfl, hch, hb5⟩
    have hfit : cfit fl.size = true := by rw [cfit, decide_eq_true_iff, HFLS.out]; have := HFZ.out; rw [HF16.out] at this; omega
    have hE : cbgE key.size la.size (cfit fl.size) = 0 := by rw [hfit, cbgE, if_pos (keyOk_yes hk), if_pos HLS.out]; rfl
    rw [hE]
    have hchl : ch.toList = chS key.toList la.toList (filM text.toList) n := by
      rw [hch, chaL, tl_size, tl_size, tl_size, hE, if_pos rfl, HFLS.out, HFL.out, Nat.mul_div_cancel_left n (by decide : 0 < 16)]
    have hchs : ch.size = 16 * n := by rw [← tl_size, hchl, chS_length]
    have hb15 := below2 hb14 hb5
    obtain ⟨S, hS⟩ : ∃ S, S = 16 * n := ⟨_, rfl⟩
    obtain ⟨o, ho⟩ : ∃ o, o = S - 16 := ⟨_, rfl⟩
    have hcS : ch.size = S := by omega
    have j1 : (S : Int) - 16 = (o : Int) := by omega
    have j2 : IntKind.i64.wrap (o : Int) = (o : Int) := wrap_in _ (by omega) (by have := HFZ.out; have := HF16.out; omega)
    have j3 : (0 : Int) ≤ (o : Int) := by omega
    have j4 : (o : Int) ≤ (S : Int) := by omega
    have j5 : o ≤ S := by omega
    obtain ⟨l2, hl2⟩ : ∃ l2, ch.extract o S = l2 := ⟨_, rfl⟩
    have hX : l2.toList = ccX key.toList nonce.toList aad.toList text.toList s := by
      rw [← hl2, tl_extE _ _ _ hcS.symm, hchl, ho, hS, chS_last _ _ _ _ hn1, HSP.out, tl_size, HN.out, ← HLL.out]
    have hl2s : l2.size = 16 := by rw [← tl_size, hX, ccX_length]
    have k2 : (s : Int) ≤ (l2.size : Int) := by omega
    have k3 : s ≤ l2.size := by omega
    obtain ⟨pc, hpc⟩ : ∃ pc, l2.extract 0 s = pc := ⟨_, rfl⟩
    have hpl : pc.toList = (ccX key.toList nonce.toList aad.toList text.toList s).take s := by rw [← hpc, tl_ext0, hX]
    have hps : pc.size ≤ 70000 := by rw [← tl_size, hpl, List.length_take]; omega
    have HPL := Lib.hid hpl
    clear hch hfit hE hchl hchs hS ho hX hl2s hpl hb14 hb5 hls
    go_wp2_with fail
    refine (joined_any key nonce pc 0 _ hk h7 h13 hps (by decide)).mono ?_
    rintro e w6 ⟨t, rfl, htt, hb6⟩
    go_wp2_with fail
    go_ret
    exact ⟨t, rfl, by rw [htt, HPL.out, HJT.out _ (ccX_length _ _ _ _ _), ccTag], below2 hb15 hb6⟩
end Go.Proofs.YtflofbimecnakaaGreat
