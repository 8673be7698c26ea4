/- Seal, Open and Tag: the program's and the document's. -/
import Derived.Test.YtflofbimecnakaaGreatCcmG
import Derived.Test.YtflofbimecnakaaGreatCcmA
import Derived.Test.YtflofbimecnakaaGreatOctX
import Derived.IntWalk
namespace Go.Proofs.YtflofbimecnakaaGreat
open Go.RowKit
set_option linter.unusedVariables false
set_option linter.unusedSimpArgs false
theorem below_dN10 {B : Nat} {a w : World} (h : Below B a w) (n : Nat) : Below B a (w.drewN n) := ⟨h.os, h.tape, h.output, h.size, h.block⟩
/-- what comes out -/
def ccSealL (K V A T : List UInt8) (s : Int) : List UInt8 := if ccE K.length V.length A.length s (T.length : Int) = 0 then ccJoin K V T 1 ++ ccTag K V A T s.toNat else []
def ccTagL (K V A T : List UInt8) (s : Int) : List UInt8 := if ccE K.length V.length A.length s (T.length : Int) = 0 then ccTag K V A T s.toNat else []
def ccOp (K V T : List UInt8) (s : Int) : List UInt8 := ccJoin K V (T.take (T.length - s.toNat)) 1
def ccOpenE (K V A T : List UInt8) (s : Int) : Int :=
  if ccE K.length V.length A.length s ((T.length : Int) - s) = 0 then if ccTag K V A (ccOp K V T s) s.toNat = T.drop (T.length - s.toNat) then 0 else 8 else ccE K.length V.length A.length s ((T.length : Int) - s)
def ccOpenL (K V A T : List UInt8) (s : Int) : List UInt8 := if ccOpenE K V A T s = 0 then ccOp K V T s else []
set_option maxRecDepth 100000 in
set_option maxHeartbeats 1600000 in
theorem ccSeal_any (key nonce aad text : ByteArray) (s : Int) (w : World) (hz : text.size ≤ 140737488355328) : Calls Tryz.prog 160 #[.string key, .string nonce, .string aad, .string text, .int .i64 s] w (RetSE (ccSealL key.toList nonce.toList aad.toList text.toList s) (ccE key.size nonce.size aad.size s (text.size : Int)) w) := by
  obtain ⟨c, hc⟩ : ∃ c, ccE key.size nonce.size aad.size s (text.size : Int) = c := ⟨_, rfl⟩
  rw [ccSealL, tl_size, tl_size, tl_size, tl_size, hc]
  have HC := Lib.hid hc
  by_cases h0 : c = 0
  · rw [if_pos h0]
    subst h0
    obtain ⟨hk, h7, h13, s4, s16, sev, ha, hn0, hn7, hnv⟩ := ccE_zero hc
    obtain ⟨m, rfl⟩ := Int.eq_ofNat_of_zero_le (a := s) (by omega)
    rw [Int.toNat_natCast]
    have ht7 : text.size ≤ 70000 := by omega
    have htv : nonce.size = 13 → text.size < 65536 := fun h => by have := hnv h; omega
    have m4 : 4 ≤ m := by omega
    have m16 : m ≤ 16 := by omega
    have HTV := Lib.hid htv
    clear hc hnv htv
    go_enter Tryz.func160, Tryz.ntmps160
    go_wp2_with fail
    refine (ccmay_any key nonce aad (m : Int) (text.size : Int) _).mono ?_
    rintro e w0 ⟨rfl, rfl⟩
    rw [HC.out]
    go_wp2_with fail
    refine (joined_any key nonce text 1 _ hk h7 h13 ht7 (Nat.le_refl _)).mono ?_
    rintro e w1 ⟨x, rfl, hx, hb1⟩
    have hxs : x.size = text.size := by rw [← tl_size, hx, ccJoin, ctrL_length, tl_size]
    have HX := Lib.hid hx
    have HXS := Lib.hid hxs
    clear hx hxs
    go_wp2_with fail
    refine (cctag_any key nonce aad text m _ hk h7 h13 m4 m16 ht7 HTV.out ha).mono ?_
    rintro e w2 ⟨y, rfl, hy, hb2⟩
    have hys : y.size = m := by rw [← tl_size, hy, ccTag_length _ _ _ _ _ m16]
    have hov : ¬ 9223372036854775807 < x.size + y.size := by have := HXS.out; omega
    have HY := Lib.hid hy
    have hb12 := below2 hb1 hb2
    clear hy hys hb1 hb2
    go_wp2_with fail
    go_ret2
    exact ret_se (tl_append _ _) (by rw [HX.out, HY.out]) rfl hb12
  · rw [if_neg h0]
    have e1 : (c != 0) = true := by rw [bne_iff_ne]; exact h0
    clear hc h0
    go_enter Tryz.func160, Tryz.ntmps160
    go_wp2_with fail
    refine (ccmay_any key nonce aad s (text.size : Int) _).mono ?_
    rintro e w0 ⟨rfl, rfl⟩
    rw [HC.out]
    go_wp2_with fail
    go_ret2
    exact ret_se (tl_mk []) rfl rfl (Below.refl _ _)
theorem ccE_size {k v a : Nat} {s : Int} (n n' : Int) (h : s < 4 ∨ 16 < s ∨ s % 2 ≠ 0) : ccE k v a s n = ccE k v a s n' := by
  unfold ccE
  split
  · split
    · rfl
    · first | rfl | rw [if_pos h, if_pos h]
  · rfl
theorem ccE_none {k v a : Nat} {s : Int} (n : Int) (h : ccE k v a s 0 ≠ 0) : ccE k v a s n = ccE k v a s 0 := by
  by_cases hk : keyOk k = true
  · by_cases hv : v < 7 ∨ 13 < v
    · rw [ccE, ccE, if_pos hk, if_pos hv, if_pos hk, if_pos hv]
    · by_cases hs : s < 4 ∨ 16 < s ∨ s % 2 ≠ 0
      · exact ccE_size _ _ hs
      · by_cases ha : 70000 < a
        · rw [ccE, ccE, if_pos hk, if_neg hv, if_neg hs, if_pos (.inl ha), if_pos hk, if_neg hv, if_neg hs, if_pos (.inl ha)]
        · exfalso
          apply h
          have hf : ccFits v 0 = true := by rw [ccFits, decide_eq_true_iff]; omega
          rw [ccE, if_pos hk, if_neg hv, if_neg hs, if_neg (by rw [hf]; simp; omega)]
  · rw [ccE, ccE, if_neg hk, if_neg hk]
set_option maxRecDepth 100000 in
set_option maxHeartbeats 1600000 in
theorem ccOpen_no (key nonce aad text : ByteArray) (s c : Int) (w : World) (hz : text.size ≤ 140737488355328) (hc : ccE key.size nonce.size aad.size s ((text.size : Int) - s) = c) (h0 : c ≠ 0) : Calls Tryz.prog 159 #[.string key, .string nonce, .string aad, .string text, .int .i64 s] w (RetSE [] c w) := by
  have e1 : (c != 0) = true := by rw [bne_iff_ne]; exact h0
  obtain ⟨l, hl⟩ : ∃ l, IntKind.i64.wrap ((text.size : Int) - s) = l := ⟨_, rfl⟩
  have hl2 : wrap64 ((text.size : Int) - s) = l := by first | exact hl | (rw [← hl, IntKind.wrap_i64]; rfl) | (unfold wrap64; rw [← hl, IntKind.wrap_i64])
  have hcl : ccE key.size nonce.size aad.size s l = c := by
    by_cases hs : s < 4 ∨ 16 < s ∨ s % 2 ≠ 0
    · rw [← hc]; exact ccE_size _ _ hs
    · rw [← hl, IntWalk.i64_in _ ⟨by omega, by omega⟩, hc]
  have HC := Lib.hid hcl
  clear hc h0 hcl
  go_enter Tryz.func159, Tryz.ntmps159
  go_wp2_with fail
  refine (ccmay_any key nonce aad s l _).mono ?_
  rintro e w0 ⟨rfl, rfl⟩
  rw [HC.out]
  clear hl hl2
  go_wp2_with fail
  go_ret2
  exact ret_se (tl_mk []) rfl rfl (Below.refl _ _)
set_option maxRecDepth 100000 in
set_option maxHeartbeats 1600000 in
theorem ccOpen_ok (key nonce aad text : ByteArray) (m : Nat) (b : Bool) (w : World) (hz : text.size ≤ 140737488355328) (hc : ccE key.size nonce.size aad.size (m : Int) ((text.size : Int) - (m : Int)) = 0)
    (hb : (text.toList.drop (text.size - m) == ccTag key.toList nonce.toList aad.toList (ccOp key.toList nonce.toList text.toList (m : Int)) m) = b) :
    Calls Tryz.prog 159 #[.string key, .string nonce, .string aad, .string text, .int .i64 (m : Int)] w (RetSE (if b then ccOp key.toList nonce.toList text.toList (m : Int) else []) (if b then 0 else 8) w) := by
  obtain ⟨hk, h7, h13, s4, s16, sev, ha, hn0, hn7, hnv⟩ := ccE_zero hc
  obtain ⟨a, had⟩ : ∃ a, a = text.size - m := ⟨_, rfl⟩
  have q1 : (text.size : Int) - (m : Int) = (a : Int) := by omega
  have q2 : IntKind.i64.wrap (a : Int) = (a : Int) := wrap_in _ (by omega) (by omega)
  have q3 : (0 : Int) ≤ (a : Int) := by omega
  have q4 : (a : Int) ≤ (text.size : Int) := by omega
  have q5 : a ≤ text.size := by omega
  rw [q1] at hc
  have HC := Lib.hid hc
  have m4 : 4 ≤ m := by omega
  have m16 : m ≤ 16 := by omega
  obtain ⟨pc, hpc⟩ : ∃ pc, text.extract 0 a = pc := ⟨_, rfl⟩
  obtain ⟨tg, htg⟩ : ∃ tg, text.extract a text.size = tg := ⟨_, rfl⟩
  have hpl : pc.toList = text.toList.take a := by rw [← hpc, tl_ext0]
  have hps : pc.size ≤ 70000 := by rw [← tl_size, hpl, List.length_take, tl_size]; omega
  have hpa : pc.size = a := by rw [← tl_size, hpl, List.length_take, tl_size]; omega
  have htl : tg.toList = text.toList.drop a := by rw [← htg, tl_extE _ _ _ rfl]
  have htm : tg.size ≤ maxLen := by rw [← tl_size, htl, List.length_drop, tl_size]; unfold maxLen; omega
  have hop : ccJoin key.toList nonce.toList pc.toList 1 = ccOp key.toList nonce.toList text.toList (m : Int) := by rw [ccOp, hpl, tl_size, Int.toNat_natCast, had]
  have hb2 : (tg.toList == ccTag key.toList nonce.toList aad.toList (ccOp key.toList nonce.toList text.toList (m : Int)) m) = b := by rw [htl, had]; exact hb
  have hpv : nonce.size = 13 → pc.size < 65536 := fun h => by have := hnv h; omega
  have HOP := Lib.hid hop
  have HB2 := Lib.hid hb2
  have HPV := Lib.hid hpv
  have HPA := Lib.hid hpa
  have HTM := Lib.hid htm
  clear hc hnv hpl hpa htl htm hop hb hb2 hpv had sev
  cases b
  · show Calls _ _ _ _ (RetSE [] 8 w)
    go_enter Tryz.func159, Tryz.ntmps159
    go_wp2_with fail
    refine (ccmay_any key nonce aad (m : Int) (a : Int) _).mono ?_
    rintro e w0 ⟨rfl, rfl⟩
    rw [HC.out]
    go_wp2_with fail
    refine (joined_any key nonce pc 1 _ hk h7 h13 hps (Nat.le_refl _)).mono ?_
    rintro e w1 ⟨o, rfl, ho, hb1⟩
    have hos : o.size = pc.size := by rw [← tl_size, ho, ccJoin, ctrL_length, tl_size]
    have HOS : Hid (o.size ≤ 70000) := by show _ ≤ _; omega
    have HOV : Hid (nonce.size = 13 → o.size < 65536) := by show _ → _; rw [hos]; exact HPV.out
    have HO : Hid (o.toList = ccOp key.toList nonce.toList text.toList (m : Int)) := by show _ = _; rw [ho, HOP.out]
    clear ho hos
    go_wp2_with fail
    go_region_held3 (fun _ => True) (trivial) (first | (go_at_call 163; refine (cctag_any key nonce aad o m _ hk h7 h13 m4 m16 HOS.out HOV.out ha).mono ?_; rintro e w2 ⟨tt, rfl, htt, hb2⟩; have HTT := Lib.hid htt; have hts : tt.size ≤ maxLen := (by rw [← tl_size, htt, ccTag_length _ _ _ _ _ m16]; unfold maxLen; omega); have HTS := Lib.hid hts; clear htt hts) | (go_at_call 36; refine (same_any tg tt _ HTM.out HTS.out).mono ?_; rintro e w3 ⟨rfl, n3, rfl⟩; rw [HTT.out, HO.out, HB2.out]))
    have hb12 := hb1.trans (((Below.refl w1.heap.size w1).drew.trans hb2).mono hb1.size)
    clear hb1 hb2
    go_wp2_with fail
    go_ret2
    exact ret_se (tl_mk []) rfl rfl (below_dN10 hb12 _)
  · show Calls _ _ _ _ (RetSE (ccOp key.toList nonce.toList text.toList (m : Int)) 0 w)
    go_enter Tryz.func159, Tryz.ntmps159
    go_wp2_with fail
    refine (ccmay_any key nonce aad (m : Int) (a : Int) _).mono ?_
    rintro e w0 ⟨rfl, rfl⟩
    rw [HC.out]
    go_wp2_with fail
    refine (joined_any key nonce pc 1 _ hk h7 h13 hps (Nat.le_refl _)).mono ?_
    rintro e w1 ⟨o, rfl, ho, hb1⟩
    have hos : o.size = pc.size := by rw [← tl_size, ho, ccJoin, ctrL_length, tl_size]
    have HOS : Hid (o.size ≤ 70000) := by show _ ≤ _; omega
    have HOV : Hid (nonce.size = 13 → o.size < 65536) := by show _ → _; rw [hos]; exact HPV.out
    have HO : Hid (o.toList = ccOp key.toList nonce.toList text.toList (m : Int)) := by show _ = _; rw [ho, HOP.out]
    clear ho hos
    go_wp2_with fail
    go_region_held3 (fun _ => True) (trivial) (first | (go_at_call 163; refine (cctag_any key nonce aad o m _ hk h7 h13 m4 m16 HOS.out HOV.out ha).mono ?_; rintro e w2 ⟨tt, rfl, htt, hb2⟩; have HTT := Lib.hid htt; have hts : tt.size ≤ maxLen := (by rw [← tl_size, htt, ccTag_length _ _ _ _ _ m16]; unfold maxLen; omega); have HTS := Lib.hid hts; clear htt hts) | (go_at_call 36; refine (same_any tg tt _ HTM.out HTS.out).mono ?_; rintro e w3 ⟨rfl, n3, rfl⟩; rw [HTT.out, HO.out, HB2.out]))
    have hb12 := hb1.trans (((Below.refl w1.heap.size w1).drew.trans hb2).mono hb1.size)
    clear hb1 hb2
    go_wp2_with fail
    go_ret2
    exact ret_se HO.out rfl rfl (below_dN10 hb12 _)
theorem ccOpen_any (key nonce aad text : ByteArray) (s : Int) (w : World) (hz : text.size ≤ 140737488355328) : Calls Tryz.prog 159 #[.string key, .string nonce, .string aad, .string text, .int .i64 s] w (RetSE (ccOpenL key.toList nonce.toList aad.toList text.toList s) (ccOpenE key.toList nonce.toList aad.toList text.toList s) w) := by
  obtain ⟨c, hc⟩ : ∃ c, ccE key.size nonce.size aad.size s ((text.size : Int) - s) = c := ⟨_, rfl⟩
  rw [ccOpenL, ccOpenE, tl_size, tl_size, tl_size, tl_size, hc]
  by_cases h0 : c = 0
  · subst h0
    have hz' := ccE_zero hc
    obtain ⟨m, rfl⟩ := Int.eq_ofNat_of_zero_le (a := s) (by omega)
    rw [if_pos rfl, Int.toNat_natCast]
    obtain ⟨b, hb⟩ : ∃ b, (text.toList.drop (text.size - m) == ccTag key.toList nonce.toList aad.toList (ccOp key.toList nonce.toList text.toList (m : Int)) m) = b := ⟨_, rfl⟩
    have h := ccOpen_ok key nonce aad text m b w hz hc hb
    cases b
    · have hne : ¬ ccTag key.toList nonce.toList aad.toList (ccOp key.toList nonce.toList text.toList (m : Int)) m = text.toList.drop (text.size - m) := fun e => by rw [e, beq_self_eq_true] at hb; cases hb
      rw [if_neg hne, if_neg (by decide)]
      exact h
    · have he : ccTag key.toList nonce.toList aad.toList (ccOp key.toList nonce.toList text.toList (m : Int)) m = text.toList.drop (text.size - m) := (eq_of_beq hb).symm
      rw [if_pos he, if_pos rfl]
      exact h
  · rw [if_neg h0, if_neg h0]
    exact ccOpen_no key nonce aad text s c w hz hc h0
end Go.Proofs.YtflofbimecnakaaGreat
