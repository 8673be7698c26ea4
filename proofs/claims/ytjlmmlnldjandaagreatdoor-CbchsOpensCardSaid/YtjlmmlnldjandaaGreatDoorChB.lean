/- Sealing by a chain and a digest: the program's Tag, Seal, Open. -/
import Derived.Test.YtjlmmlnldjandaaGreatDoorChA
namespace Go.Proofs.YtjlmmlnldjandaaGreatDoor
open Go.RowKit
set_option linter.unusedVariables false
set_option linter.unusedSimpArgs false
def fitC (n : Nat) : Bool := decide (n ≤ 70016)
def fitT (n : Nat) : Bool := decide (n ≤ 70000)
def fitH (n m : Nat) : Bool := decide (16 + m ≤ n ∧ n ≤ 70016 + m ∧ (n - m) % 16 = 0)
def chTagL (K V A C : List UInt8) : List UInt8 := if chE K.length V.length A.length (fitC C.length) = 0 then chT K V A C else []
def chSea (K V A T : List UInt8) : List UInt8 := selL (K.drop (K.length / 2)) V T ++ chT K V A (selL (K.drop (K.length / 2)) V T)
def chSealL (K V A T : List UInt8) : List UInt8 := if chE K.length V.length A.length (fitT T.length) = 0 then chSea K V A T else []
def chCut (K T : List UInt8) : List UInt8 := T.take (T.length - K.length / 2)
def chOpE (K V A T : List UInt8) : Int := if T.drop (T.length - K.length / 2) = chT K V A (chCut K T) then (if opeE (K.drop (K.length / 2)) V (chCut K T) = 0 then 0 else 8) else 8
def chOpenE (K V A T : List UInt8) : Int := if chE K.length V.length A.length (fitH T.length (K.length / 2)) = 0 then chOpE K V A T else chE K.length V.length A.length (fitH T.length (K.length / 2))
def chOpenL (K V A T : List UInt8) : List UInt8 := if chOpenE K V A T = 0 then opeL (K.drop (K.length / 2)) V (chCut K T) else []
set_option maxRecDepth 100000 in
set_option maxHeartbeats 1600000 in
theorem chTag_any (key iv aad cipher : ByteArray) (w : World) (hT : Tb w) :
    Calls Tryz.prog 15 #[.string key, .string iv, .string aad, .string cipher] w (RetSE (chTagL key.toList iv.toList aad.toList cipher.toList) (chE key.size iv.size aad.size (fitC cipher.size)) w) := by
  obtain ⟨f, hf⟩ : ∃ f, fitC cipher.size = f := ⟨_, rfl⟩
  obtain ⟨c, hc⟩ : ∃ c, chE key.size iv.size aad.size f = c := ⟨_, rfl⟩
  have M := Lib.hid (fun w => chmay_any key iv aad f w)
  rw [chTagL, tl_size, tl_size, tl_size, tl_size, hf, hc]
  rw [hc] at M
  have e1 : ∀ b, decide ((cipher.size : Int) ≤ 70016) = b → f = b := fun b h => by
    rw [← h, ← hf, fitC]
    by_cases hh : cipher.size ≤ 70016
    · rw [decide_eq_true hh, decide_eq_true (show (cipher.size : Int) ≤ 70016 by omega)]
    · rw [decide_eq_false hh, decide_eq_false (show ¬ (cipher.size : Int) ≤ 70016 by omega)]
  have e2 : decide ((cipher.size : Int) ≤ 70016) = f := (e1 _ rfl).symm
  by_cases h0 : c = 0
  · rw [if_pos h0]
    subst h0
    obtain ⟨hk, hv, ha, hff⟩ := chE_zero hc
    have hcs : cipher.size ≤ 70016 := of_decide_eq_true (hf.trans hff)
    have TG := Lib.hid (chtag_any key iv aad cipher hk hv ha hcs w hT)
    clear hk hv ha hff hcs hf hc e1 hT
    go_enter Tryz.func15, Tryz.ntmps15
    go_wp2_with fail
    refine (M.out _).mono ?_
    rintro e w1 ⟨rfl, rfl⟩
    go_wp2_with fail
    refine TG.out.mono ?_
    rintro e w1 ⟨s, rfl, hs, hb⟩
    go_wp2_with fail
    go_ret2
    exact ⟨s, rfl, hs, hb⟩
  · rw [if_neg h0]
    have hcb : (c != 0) = true := by rw [bne_iff_ne]; exact h0
    clear hf hc e1 hT h0
    go_enter Tryz.func15, Tryz.ntmps15
    go_wp2_with fail
    refine (M.out _).mono ?_
    rintro e w1 ⟨rfl, rfl⟩
    go_wp2_with fail
    go_ret2
    exact ret_se (tl_mk []) rfl rfl (Below.refl _ _)
/-- the key's second half -/
theorem half_key (key : ByteArray) (m : Nat) (hm : key.size = 2 * m) (hm2 : m = 16 ∨ m = 24 ∨ m = 32) : ∃ kb, key.extract m key.size = kb ∧ kb.toList = key.toList.drop m ∧ (kb.size = 16 ∨ kb.size = 24 ∨ kb.size = 32) := by
  refine ⟨_, rfl, ?_, ?_⟩
  · rw [tl_extE _ _ _ rfl]
  · rw [← tl_size, tl_extE _ _ _ rfl, List.length_drop, tl_size]
    omega
theorem selL_size (K V T : List UInt8) (h : T.length ≤ 70000) : (selL K V T).length ≤ 70016 := by
  unfold selL
  split
  · rw [chS_length, ← padL_mod]
    have := padL_size T
    omega
  · exact Nat.zero_le _
set_option maxRecDepth 100000 in
set_option maxHeartbeats 3200000 in
theorem chSeal_any (key iv aad text : ByteArray) (w : World) (hT : Tb w) :
    Calls Tryz.prog 11 #[.string key, .string iv, .string aad, .string text] w (RetSE (chSealL key.toList iv.toList aad.toList text.toList) (chE key.size iv.size aad.size (fitT text.size)) w) := by
  obtain ⟨f, hf⟩ : ∃ f, fitT text.size = f := ⟨_, rfl⟩
  obtain ⟨c, hc⟩ : ∃ c, chE key.size iv.size aad.size f = c := ⟨_, rfl⟩
  have M := Lib.hid (fun w => chmay_any key iv aad f w)
  rw [chSealL, tl_size, tl_size, tl_size, tl_size, hf, hc]
  rw [hc] at M
  have e1 : ∀ b, decide ((text.size : Int) ≤ 70000) = b → f = b := fun b h => by
    rw [← h, ← hf, fitT]
    by_cases hh : text.size ≤ 70000
    · rw [decide_eq_true hh, decide_eq_true (show (text.size : Int) ≤ 70000 by omega)]
    · rw [decide_eq_false hh, decide_eq_false (show ¬ (text.size : Int) ≤ 70000 by omega)]
  have e2 : decide ((text.size : Int) ≤ 70000) = f := (e1 _ rfl).symm
  by_cases h0 : c = 0
  · rw [if_pos h0]
    subst h0
    obtain ⟨hk, hv, ha, hff⟩ := chE_zero hc
    have hts : text.size ≤ 70000 := of_decide_eq_true (hf.trans hff)
    obtain ⟨m, hm, hd, hm2⟩ := half_of hk
    obtain ⟨kb, hkb, hkl, hks⟩ := half_key key m hm hm2
    have TG := Lib.hid (fun cipher hcs w hT => chtag_any key iv aad cipher hk hv ha hcs w hT)
    have SL := Lib.hid (fun w => cSeal_any kb iv text w)
    have d1 : (key.size : Int).tdiv 2 = (m : Int) := by
      have h : (key.size : Int).tdiv 2 = ((key.size / 2 : Nat) : Int) := rfl
      rw [h, show key.size / 2 = m by omega]
    have d4 : IntKind.i64.wrap (m : Int) = (m : Int) := wrap_in _ (by omega) (by omega)
    have d5 : (0 : Int) ≤ (m : Int) := by omega
    have d2 : (m : Int) ≤ (key.size : Int) := by omega
    have d3 : m ≤ key.size := by omega
    have HT := Lib.hid hT
    have HTS := Lib.hid hts
    have HKL := Lib.hid hkl
    have HM2 : Hid (m ≤ 32) := by show _ ≤ _; omega
    have HD : Hid (key.toList.length / 2 = m) := by show _ = _; rw [tl_size]; exact hd
    clear hk hv ha hff hf hc e1 hT hts hkl hm hm2 hks
    go_enter Tryz.func11, Tryz.ntmps11
    go_wp2_with fail
    refine (M.out _).mono ?_
    rintro e w1 ⟨rfl, rfl⟩
    go_wp2_with fail
    refine (SL.out _).mono ?_
    rintro e w1 ⟨s, rfl, hs, hb⟩
    rw [HKL.out] at hs
    have hss : s.size ≤ 70016 := by
      rw [← tl_size, hs]
      exact selL_size _ _ _ (by rw [tl_size]; exact HTS.out)
    have HS := Lib.hid hs
    have HB := Lib.hid hb
    have HSS := Lib.hid hss
    clear hs hb hss
    go_wp2_with fail
    refine (TG.out s HSS.out _ (HT.out.below HB.out HT.out.2.2)).mono ?_
    rintro e w2 ⟨t, rfl, ht, hb2⟩
    have hts : t.size ≤ 70016 := by
      rw [← tl_size, ht, chT]
      refine Nat.le_trans (List.length_take_le _ _) ?_
      rw [HD.out]
      have := HM2.out
      omega
    have q1 : ¬ 9223372036854775807 < s.size + t.size := by have := HSS.out; omega
    have HT2 := Lib.hid ht
    clear ht hts
    go_wp2_with fail
    go_ret2
    refine ret_se (tl_cat _ _) ?_ rfl (below2 HB.out hb2)
    rw [HT2.out, HS.out, chSea, HD.out]
  · rw [if_neg h0]
    have hcb : (c != 0) = true := by rw [bne_iff_ne]; exact h0
    clear hf hc e1 hT h0
    go_enter Tryz.func11, Tryz.ntmps11
    go_wp2_with fail
    refine (M.out _).mono ?_
    rintro e w1 ⟨rfl, rfl⟩
    go_wp2_with fail
    go_ret2
    exact ret_se (tl_mk []) rfl rfl (Below.refl _ _)
set_option maxRecDepth 100000 in
set_option maxHeartbeats 3200000 in
theorem chOpen_no (key iv aad text : ByteArray) (sz : Nat) (hz : text.size ≤ 140737488351232) (hsz : sz ≤ 32) (c : Int) (w : World)
    (KD : Hid (∀ w, Calls Tryz.prog 27 #[.string key] w (fun e w' => (∃ a b, e = .returned (.tuple #[a, .int .i64 (sz : Int), b])) ∧ w = w')))
    (hc : chE key.size iv.size aad.size (fitH text.size sz) = c) (h0 : c ≠ 0) :
    Calls Tryz.prog 13 #[.string key, .string iv, .string aad, .string text] w (RetSE [] c w) := by
  have hcb : (c != 0) = true := by rw [bne_iff_ne]; exact h0
  by_cases h1 : 16 + sz ≤ text.size
  · obtain ⟨a, had⟩ : ∃ a, a = text.size - sz := ⟨_, rfl⟩
    have p1 : (text.size : Int) - (sz : Int) = (a : Int) := by omega
    have p2 : IntKind.i64.wrap (a : Int) = (a : Int) := wrap_in _ (by omega) (by omega)
    have p3 : (16 : Int) ≤ (a : Int) := by omega
    by_cases h2 : a ≤ 70016
    · have p4 : (a : Int) ≤ 70016 := by omega
      obtain ⟨r, hr⟩ : ∃ r, a % 16 = r := ⟨_, rfl⟩
      have e3 : (a : Int).tmod 16 = (r : Int) := tmod_nat a 16 r hr.symm
      have e4 : IntKind.i64.wrap (r : Int) = (r : Int) := wrap_in _ (by omega) (by omega)
      by_cases hr0 : r = 0
      · subst hr0
        have hf : fitH text.size sz = true := by rw [fitH, decide_eq_true_iff]; omega
        rw [hf] at hc
        have M := Lib.hid (fun w => chmay_any key iv aad true w)
        rw [hc] at M
        clear hf hr hc h0 h1 h2 had hz hsz
        go_enter Tryz.func13, Tryz.ntmps13
        go_wp2_with fail
        refine (KD.out _).mono ?_
        rintro e w1 ⟨⟨x, y, rfl⟩, rfl⟩
        go_wp2_with fail
        refine (M.out _).mono ?_
        rintro e w1 ⟨rfl, rfl⟩
        go_wp2_with fail
        go_ret2
        exact ret_se (tl_mk []) rfl rfl (Below.refl _ _)
      · have e6 : ((r : Int) == 0) = false := by rw [beq_eq_false_iff_ne]; omega
        have hf : fitH text.size sz = false := by rw [fitH, decide_eq_false_iff_not]; omega
        rw [hf] at hc
        have M := Lib.hid (fun w => chmay_any key iv aad false w)
        rw [hc] at M
        clear hf hr hc h0 h1 h2 had hz hsz hr0
        go_enter Tryz.func13, Tryz.ntmps13
        go_wp2_with fail
        refine (KD.out _).mono ?_
        rintro e w1 ⟨⟨x, y, rfl⟩, rfl⟩
        go_wp2_with fail
        refine (M.out _).mono ?_
        rintro e w1 ⟨rfl, rfl⟩
        go_wp2_with fail
        go_ret2
        exact ret_se (tl_mk []) rfl rfl (Below.refl _ _)
    · have p4 : ¬ (a : Int) ≤ 70016 := by omega
      have hf : fitH text.size sz = false := by rw [fitH, decide_eq_false_iff_not]; omega
      rw [hf] at hc
      have M := Lib.hid (fun w => chmay_any key iv aad false w)
      rw [hc] at M
      clear hf hc h0 h1 h2 had hz hsz
      go_enter Tryz.func13, Tryz.ntmps13
      go_wp2_with fail
      refine (KD.out _).mono ?_
      rintro e w1 ⟨⟨x, y, rfl⟩, rfl⟩
      go_wp2_with fail
      refine (M.out _).mono ?_
      rintro e w1 ⟨rfl, rfl⟩
      go_wp2_with fail
      go_ret2
      exact ret_se (tl_mk []) rfl rfl (Below.refl _ _)
  · obtain ⟨i, hi⟩ : ∃ i : Int, (text.size : Int) - (sz : Int) = i := ⟨_, rfl⟩
    have p2 : IntKind.i64.wrap i = i := by simp only [IntKind.wrap, IntKind.bits, IntKind.signed]; simp; omega
    have p3 : ¬ (16 : Int) ≤ i := by omega
    have hf : fitH text.size sz = false := by rw [fitH, decide_eq_false_iff_not]; omega
    rw [hf] at hc
    have M := Lib.hid (fun w => chmay_any key iv aad false w)
    rw [hc] at M
    clear hf hc h0 h1 hz hsz
    go_enter Tryz.func13, Tryz.ntmps13
    go_wp2_with fail
    refine (KD.out _).mono ?_
    rintro e w1 ⟨⟨x, y, rfl⟩, rfl⟩
    go_wp2_with fail
    refine (M.out _).mono ?_
    rintro e w1 ⟨rfl, rfl⟩
    go_wp2_with fail
    go_ret2
    exact ret_se (tl_mk []) rfl rfl (Below.refl _ _)
set_option maxRecDepth 100000 in
set_option maxHeartbeats 6400000 in
theorem chOpen_ok (key iv aad text : ByteArray) (m : Nat) (hm : key.size = 2 * m) (hm2 : m = 16 ∨ m = 24 ∨ m = 32) (hv : iv.size = 16) (ha : aad.size ≤ 70000) (h1 : 16 + m ≤ text.size) (h2 : text.size ≤ 70016 + m) (h3 : (text.size - m) % 16 = 0) (w : World) (hT : Tb w) :
    Calls Tryz.prog 13 #[.string key, .string iv, .string aad, .string text] w (RetSE (if chOpE key.toList iv.toList aad.toList text.toList = 0 then opeL (key.toList.drop m) iv.toList (text.toList.take (text.size - m)) else []) (chOpE key.toList iv.toList aad.toList text.toList) w) := by
  have hk : key.size = 32 ∨ key.size = 48 ∨ key.size = 64 := by omega
  obtain ⟨kb, hkb, hkl, hks⟩ := half_key key m hm hm2
  obtain ⟨a, had⟩ : ∃ a, a = text.size - m := ⟨_, rfl⟩
  have p1 : (text.size : Int) - (m : Int) = (a : Int) := by omega
  have p2 : IntKind.i64.wrap (a : Int) = (a : Int) := wrap_in _ (by omega) (by omega)
  have p3 : (16 : Int) ≤ (a : Int) := by omega
  have p4 : (a : Int) ≤ 70016 := by omega
  have e3 : (a : Int).tmod 16 = ((0 : Nat) : Int) := tmod_nat a 16 0 (by omega)
  have p5 : (a : Int) ≤ (text.size : Int) := by omega
  have p6 : a ≤ text.size := by omega
  have p7 : (0 : Int) ≤ (a : Int) := by omega
  have d1 : (key.size : Int).tdiv 2 = (m : Int) := by
    have h : (key.size : Int).tdiv 2 = ((key.size / 2 : Nat) : Int) := rfl
    rw [h, show key.size / 2 = m by omega]
  have d4 : IntKind.i64.wrap (m : Int) = (m : Int) := wrap_in _ (by omega) (by omega)
  have d5 : (0 : Int) ≤ (m : Int) := by omega
  have d2 : (m : Int) ≤ (key.size : Int) := by omega
  have d3 : m ≤ key.size := by omega
  obtain ⟨pc, hpc⟩ : ∃ pc, text.extract 0 a = pc := ⟨_, rfl⟩
  obtain ⟨tg, htg⟩ : ∃ tg, text.extract a text.size = tg := ⟨_, rfl⟩
  have hpl : pc.toList = text.toList.take a := by rw [← hpc, tl_ext0]
  have hps : pc.size ≤ 70016 := by rw [← tl_size, hpl, List.length_take, tl_size]; omega
  have htl : tg.toList = text.toList.drop a := by rw [← htg, tl_extE _ _ _ rfl]
  have htm : tg.size ≤ maxLen := by rw [← tl_size, htl, List.length_drop, tl_size]; unfold maxLen; omega
  have hf : fitH text.size m = true := by rw [fitH, decide_eq_true_iff]; omega
  have M := Lib.hid (fun w => chmay_any key iv aad true w)
  rw [show chE key.size iv.size aad.size true = 0 by rw [chE, if_pos hk, if_pos hv, if_pos ⟨ha, rfl⟩]] at M
  have KD := Lib.hid (fun w => chkind_yes key m _ rfl hm2 hm w)
  have TG := Lib.hid (fun w hT => chtag_any key iv aad pc hk hv ha hps w hT)
  have OP := Lib.hid (fun w => cOpen_any kb iv pc w)
  rw [hkl, hpl] at OP
  have HD : key.toList.length / 2 = m := by rw [tl_size, hm]; omega
  have hCut : chCut key.toList text.toList = text.toList.take a := by rw [chCut, HD, tl_size, ← had]
  obtain ⟨b, hb⟩ : ∃ b, (tg.toList == chT key.toList iv.toList aad.toList pc.toList) = b := ⟨_, rfl⟩
  obtain ⟨o, ho⟩ : ∃ o, opeE (key.toList.drop m) iv.toList (text.toList.take a) = o := ⟨_, rfl⟩
  have hE : chOpE key.toList iv.toList aad.toList text.toList = if b then (if o = 0 then 0 else 8) else 8 := by
    rw [chOpE, HD, hCut, ho, tl_size, ← had, ← htl, ← hpl]
    cases b
    · rw [if_neg (by rw [beq_eq_false_iff_ne] at hb; exact hb)]; rfl
    · rw [if_pos (by rw [beq_iff_eq] at hb; exact hb)]; rfl
  rw [ho] at OP
  rw [hE, ← had]
  have HB := Lib.hid hb
  have HT := Lib.hid hT
  have HTM := Lib.hid htm
  have hts : ∀ t : ByteArray, t.toList = chT key.toList iv.toList aad.toList pc.toList → t.size ≤ maxLen := fun t ht => by
    rw [← tl_size, ht, chT]
    refine Nat.le_trans (List.length_take_le _ _) ?_
    rw [HD]
    unfold maxLen
    omega
  have HTS := Lib.hid hts
  clear hk hkl hks had hv ha h1 h2 h3 hT hpl hps htl htm hf hm hm2 hb hE hCut HD hts
  cases b
  · show Calls _ _ _ _ (RetSE [] 8 w)
    go_enter Tryz.func13, Tryz.ntmps13
    go_wp2_with fail
    refine (KD.out _).mono ?_
    rintro e w1 ⟨rfl, rfl⟩
    go_wp2_with fail
    refine (M.out _).mono ?_
    rintro e w1 ⟨rfl, rfl⟩
    go_wp2_with fail
    go_region_with (first | (go_at_call 25; refine (TG.out w.drew HT.out).mono ?_; rintro e w1 ⟨t, rfl, ht, hb7⟩; have HTT := Lib.hid ht; have hb1 := (Below.refl w.heap.size w).drew.trans hb7; clear ht hb7) | (go_at_call 28; refine (same_any tg t _ HTM.out (HTS.out t HTT.out)).mono ?_; rintro e w2 ⟨rfl, n2, rfl⟩; rw [HTT.out, HB.out]))
    go_wp2_with fail
    go_ret2
    exact ret_se (tl_mk []) rfl rfl (below_drewN hb1 n2)
  · by_cases ho0 : o = 0
    · subst ho0
      show Calls _ _ _ _ (RetSE (opeL (key.toList.drop m) iv.toList (text.toList.take a)) 0 w)
      go_enter Tryz.func13, Tryz.ntmps13
      go_wp2_with fail
      refine (KD.out _).mono ?_
      rintro e w1 ⟨rfl, rfl⟩
      go_wp2_with fail
      refine (M.out _).mono ?_
      rintro e w1 ⟨rfl, rfl⟩
      go_wp2_with fail
      go_region_with (first | (go_at_call 25; refine (TG.out w.drew HT.out).mono ?_; rintro e w1 ⟨t, rfl, ht, hb7⟩; have HTT := Lib.hid ht; have hb1 := (Below.refl w.heap.size w).drew.trans hb7; clear ht hb7) | (go_at_call 28; refine (same_any tg t _ HTM.out (HTS.out t HTT.out)).mono ?_; rintro e w2 ⟨rfl, n2, rfl⟩; rw [HTT.out, HB.out]))
      go_wp2_with fail
      go_region_held3 (fun _ => True) (trivial) (first | (go_at_call 29; refine (OP.out _).mono ?_; rintro e w3 ⟨s, rfl, hs, hb3⟩))
      have HS := Lib.hid hs
      clear hs
      go_wp2_with fail
      go_ret2
      exact ret_se HS.out rfl rfl (below2 (below_drewN hb1 n2).drew hb3)
    · rw [if_pos rfl, if_neg ho0, if_neg (by decide)]
      have hob : (o != 0) = true := by rw [bne_iff_ne]; exact ho0
      clear ho0
      go_enter Tryz.func13, Tryz.ntmps13
      go_wp2_with fail
      refine (KD.out _).mono ?_
      rintro e w1 ⟨rfl, rfl⟩
      go_wp2_with fail
      refine (M.out _).mono ?_
      rintro e w1 ⟨rfl, rfl⟩
      go_wp2_with fail
      go_region_with (first | (go_at_call 25; refine (TG.out w.drew HT.out).mono ?_; rintro e w1 ⟨t, rfl, ht, hb7⟩; have HTT := Lib.hid ht; have hb1 := (Below.refl w.heap.size w).drew.trans hb7; clear ht hb7) | (go_at_call 28; refine (same_any tg t _ HTM.out (HTS.out t HTT.out)).mono ?_; rintro e w2 ⟨rfl, n2, rfl⟩; rw [HTT.out, HB.out]))
      go_wp2_with fail
      go_region_held3 (fun _ => True) (trivial) (first | (go_at_call 29; refine (OP.out _).mono ?_; rintro e w3 ⟨s, rfl, hs, hb3⟩))
      clear hs
      go_wp2_with fail
      go_ret2
      exact ret_se (tl_mk []) rfl rfl (below2 (below_drewN hb1 n2).drew hb3)
theorem chOpen_any (key iv aad text : ByteArray) (hz : text.size ≤ 140737488351232) (w : World) (hT : Tb w) :
    Calls Tryz.prog 13 #[.string key, .string iv, .string aad, .string text] w (RetSE (chOpenL key.toList iv.toList aad.toList text.toList) (chOpenE key.toList iv.toList aad.toList text.toList) w) := by
  obtain ⟨c, hc⟩ : ∃ c, chE key.size iv.size aad.size (fitH text.size (key.size / 2)) = c := ⟨_, rfl⟩
  rw [chOpenL, chOpenE, tl_size, tl_size, tl_size, tl_size, hc]
  by_cases h0 : c = 0
  · subst h0
    obtain ⟨hk, hv, ha, hff⟩ := chE_zero hc
    obtain ⟨m, hm, hd, hm2⟩ := half_of hk
    rw [hd] at hff
    have hf := of_decide_eq_true hff
    rw [if_pos rfl, chCut, tl_size, tl_size, hd]
    exact chOpen_ok key iv aad text m hm hm2 hv ha hf.1 hf.2.1 hf.2.2 w hT
  · rw [if_neg h0, if_neg h0]
    by_cases hk : key.size = 32 ∨ key.size = 48 ∨ key.size = 64
    · obtain ⟨m, hm, hd, hm2⟩ := half_of hk
      rw [hd] at hc
      exact chOpen_no key iv aad text m hz (by omega) c w (Lib.hid fun w => (chkind_yes key m _ rfl hm2 hm w).mono fun e w' h => ⟨⟨_, _, h.1⟩, h.2⟩) hc h0
    · have hc2 : chE key.size iv.size aad.size (fitH text.size 0) = c := by
        rw [chE, if_neg hk] at hc ⊢
        exact hc
      exact chOpen_no key iv aad text 0 hz (by omega) c w (Lib.hid fun w => (chkind_no key hk w).mono fun e w' h => ⟨⟨_, _, h.1⟩, h.2⟩) hc2 h0
end Go.Proofs.YtjlmmlnldjandaaGreatDoor
