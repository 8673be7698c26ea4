/- Joined by merge.py: CbcP CbcA CbcB CbcC CbcD CbcE CbcF CbcM CbcG CbcH CbcI CbcJ. -/
import Derived.Test.YtflofbimecnakaaGreatCtrX
import Derived.Test.YtflofbimecnakaaGreatAesQb
import Derived.Test.YtflofbimecnakaaGreatRowX
import Derived.Test.YtflofbimecnakaaGreatShf
namespace Go.Proofs.YtflofbimecnakaaGreat
open Go.RowKit
set_option linter.unusedVariables false
set_option linter.unusedSimpArgs false
def blkL (T : List UInt8) (i : Nat) : List UInt8 := (T.drop (16 * i)).take 16
theorem blkL_length (T : List UInt8) (i : Nat) (h : 16 * (i + 1) ≤ T.length) : (blkL T i).length = 16 := by
  rw [blkL, List.length_take, List.length_drop]
  omega
def chA (K V T : List UInt8) : Nat → List UInt8
  | 0 => V
  | i + 1 => encL K (xorL (blkL T i) (chA K V T i))
theorem chA_length (K V T : List UInt8) (h : V.length = 16) : ∀ i, (chA K V T i).length = 16
  | 0 => h
  | i + 1 => by rw [chA, encL_length]
def chS (K V T : List UInt8) : Nat → List UInt8
  | 0 => []
  | i + 1 => chS K V T i ++ chA K V T (i + 1)
theorem chS_length (K V T : List UInt8) : ∀ i, (chS K V T i).length = 16 * i
  | 0 => rfl
  | i + 1 => by rw [chS, List.length_append, chS_length K V T i, chA, encL_length]; omega
def pvL (V T : List UInt8) : Nat → List UInt8
  | 0 => V
  | i + 1 => blkL T i
theorem pvL_length (V T : List UInt8) (h : V.length = 16) : ∀ i, 16 * i ≤ T.length → (pvL V T i).length = 16
  | 0, _ => h
  | i + 1, hi => blkL_length T i hi
def unS (K V T : List UInt8) : Nat → List UInt8
  | 0 => []
  | i + 1 => unS K V T i ++ xorL (decL K (blkL T i)) (pvL V T i)
theorem unS_length (K V T : List UInt8) (h : V.length = 16) : ∀ i, 16 * i ≤ T.length → (unS K V T i).length = 16 * i
  | 0, _ => rfl
  | i + 1, hi => by rw [unS, List.length_append, unS_length K V T h i (by omega), xorL_length, decL_length, pvL_length V T h i (by omega)]; omega
theorem blk_chS (K V T : List UInt8) (i : Nat) : ∀ n, i < n → blkL (chS K V T n) i = chA K V T (i + 1)
  | 0, h => absurd h (Nat.not_lt_zero _)
  | n + 1, h => by
    by_cases hi : i = n
    · subst hi
      rw [blkL, chS, List.drop_append_of_le_length (by rw [chS_length]; exact Nat.le_refl _), List.drop_of_length_le (by rw [chS_length]; exact Nat.le_refl _), List.nil_append, List.take_of_length_le]
      rw [chA, encL_length]
      exact Nat.le_refl _
    · have ih := blk_chS K V T i n (by omega)
      rw [← ih, blkL, blkL, chS, List.drop_append_of_le_length (by rw [chS_length]; omega), List.take_append_of_le_length (by rw [List.length_drop, chS_length]; omega)]
theorem pv_chS (K V T : List UInt8) (n : Nat) : ∀ i, i ≤ n → pvL V (chS K V T n) i = chA K V T i
  | 0, _ => rfl
  | i + 1, h => blk_chS K V T i n h
theorem un_ch (K V T : List UInt8) (n : Nat) (hv : V.length = 16) (hT : T.length = 16 * n) : unS K V (chS K V T n) n = T := by
  have h : ∀ i, i ≤ n → unS K V (chS K V T n) i = T.take (16 * i) := by
    intro i
    induction i with
    | zero => intro _; simp [unS]
    | succ i ih =>
      intro hi
      have hb := blkL_length T i (by omega)
      have ha := chA_length K V T hv i
      rw [unS, ih (by omega), blk_chS K V T i n (by omega), pv_chS K V T n i (by omega), chA, dec_enc _ _ (by rw [xorL_length, hb, ha]; rfl), xorL_twice _ _ (by omega), blkL, Nat.mul_succ, List.take_add]
  rw [h n (Nat.le_refl _), List.take_of_length_le (by omega)]
def padN (n size : Nat) : Nat := size - n % size
theorem padN_pos (n size : Nat) (h : 1 ≤ size) : 1 ≤ padN n size ∧ padN n size ≤ size := by
  have := Nat.mod_lt n (y := size) (by omega)
  unfold padN
  omega
theorem padN_mod (n size : Nat) (h : 1 ≤ size) : (n + padN n size) % size = 0 := by
  have h1 := Nat.mod_lt n (y := size) (by omega)
  have h2 := Nat.div_add_mod n size
  have h3 : n + padN n size = size * (n / size + 1) := by rw [Nat.mul_add, Nat.mul_one]; unfold padN; omega
  rw [h3, Nat.mul_mod_right]
/-- the least number that fills up is the one -/
theorem padN_least (n size k : Nat) (h : 1 ≤ size) (h1 : 1 ≤ k) (hk : k < padN n size) : (n + k) % size ≠ 0 := by
  have h1' := Nat.mod_lt n (y := size) (by omega)
  have h4 : (n + k) % size = n % size + k := by
    rw [← Nat.mod_add_mod, Nat.mod_eq_of_lt]
    unfold padN at hk
    omega
  omega
theorem padN_back (m size n : Nat) (h : 1 ≤ size) (hm : m % size = 0) (h1 : 1 ≤ n) (hn : n ≤ size) (hnm : n ≤ m) : padN (m - n) size = n := by
  obtain ⟨q, hq⟩ : ∃ q, m = size * q := ⟨m / size, by have := Nat.div_add_mod m size; omega⟩
  have hq1 : 1 ≤ q := by
    rcases Nat.eq_zero_or_pos q with h0 | h0
    · rw [h0] at hq; omega
    · exact h0
  have e : m - n = (size - n) + size * (q - 1) := by
    have : size * q = size * (q - 1) + size := by rw [← Nat.mul_succ]; congr 1; omega
    omega
  rw [padN, e, Nat.add_mul_mod_self_left]
  rcases Nat.lt_or_ge n size with h2 | h2
  · rw [Nat.mod_eq_of_lt (by omega)]; omega
  · have : size - n = 0 := by omega
    rw [this, Nat.zero_mod]; omega
def filL (n : Nat) : List UInt8 := List.replicate n (UInt8.ofNat n)
def padL (S : List UInt8) (size : Nat) : List UInt8 := S ++ filL (padN S.length size)
def lastN (S : List UInt8) : Nat := (S.getD (S.length - 1) 0).toNat
def unpN (S : List UInt8) (size : Nat) : Bool := decide (1 ≤ lastN S ∧ lastN S ≤ size ∧ S.drop (S.length - lastN S) = filL (lastN S))
def unpE (S : List UInt8) (size : Nat) : Int := if S.length = 0 ∨ S.length % size ≠ 0 then 6 else if unpN S size then 0 else 7
def unpL (S : List UInt8) (size : Nat) : List UInt8 := if unpE S size = 0 then S.take (S.length - lastN S) else []
theorem filL_length (n : Nat) : (filL n).length = n := by simp [filL]
theorem lastN_pad (A : List UInt8) (n : Nat) (h1 : 1 ≤ n) (h2 : n ≤ 255) : lastN (A ++ filL n) = n := by
  have hl : (A ++ filL n).length - 1 = A.length + (n - 1) := by rw [List.length_append, filL_length]; omega
  rw [lastN, hl, List.getD_eq_getElem?_getD, List.getElem?_append_right (by omega), Nat.add_sub_cancel_left, filL, List.getElem?_replicate, if_pos (by omega)]
  simp
  omega
theorem pad_iff (S : List UInt8) (size n : Nat) (hs : 1 ≤ size) (hs2 : size ≤ 255) (hm : S.length % size = 0) (h1 : 1 ≤ n) (hn : n ≤ size) (hnl : n ≤ S.length) :
    padL (S.take (S.length - n)) size = S ↔ (lastN S = n ∧ S.drop (S.length - n) = filL n) := by
  have hp : padN (S.take (S.length - n)).length size = n := by
    rw [List.length_take, Nat.min_eq_left (by omega)]
    exact padN_back _ _ _ hs hm h1 hn hnl
  rw [padL, hp]
  constructor
  · intro h
    constructor
    · rw [← h]; exact lastN_pad _ _ h1 (by omega)
    · have h2 : S.take (S.length - n) ++ filL n = S.take (S.length - n) ++ S.drop (S.length - n) := by rw [h, List.take_append_drop]
      exact (List.append_cancel_left h2).symm
  · rintro ⟨_, h⟩
    rw [← h, List.take_append_drop]
theorem pad_back (S : List UInt8) (size : Nat) (hs : 1 ≤ size) (hs2 : size ≤ 255) : unpE (padL S size) size = 0 ∧ unpL (padL S size) size = S := by
  obtain ⟨h1, h2⟩ := padN_pos S.length size hs
  have hl : (padL S size).length = S.length + padN S.length size := by rw [padL, List.length_append, filL_length]
  have hn : lastN (padL S size) = padN S.length size := lastN_pad _ _ h1 (by omega)
  have hE : unpE (padL S size) size = 0 := by
    rw [unpE, if_neg (by rw [hl]; have := padN_mod S.length size hs; omega), if_pos]
    rw [unpN, decide_eq_true_iff, hn, hl]
    refine ⟨h1, h2, ?_⟩
    rw [Nat.add_sub_cancel, padL, List.drop_left]
  refine ⟨hE, ?_⟩
  rw [unpL, if_pos hE, hn, hl, Nat.add_sub_cancel, padL, List.take_left]
/-- the last block -/
def macL (K T : List UInt8) (n : Nat) : List UInt8 := chA K (List.replicate 16 0) T n
end Go.Proofs.YtflofbimecnakaaGreat
namespace Go.Proofs.YtflofbimecnakaaGreat
open Go.RowKit
set_option linter.unusedVariables false
set_option linter.unusedSimpArgs false
def cbgE (k n : Nat) (fits : Bool) : Int := if keyOk k then if n = 16 then if fits then 0 else 6 else 4 else 3
def RetNo (c : Int) (w : World) (e : Ending) (w' : World) : Prop := e = .returned (.tuple #[.pointer none, .int .i64 c]) ∧ Below w.heap.size w w'
set_option maxRecDepth 100000 in
theorem cbegin_ok (key iv : ByteArray) (w : World) (hk : key.size = 16 ∨ key.size = 24 ∨ key.size = 32) (hv : iv.size = 16) : Calls Tryz.prog 102 #[.string key, .string iv, .bool true] w (RetN key.toList w) := by
  have e1 : ((iv.size : Int) != 16) = false := by rw [bne_eq_false_iff_eq]; omega
  clear hv
  go_enter Tryz.func102, Tryz.ntmps102
  go_wp2_with fail
  refine (new_q key _ hk).mono ?_
  rintro e w1 ⟨g, hg, rfl, hQ, hb1⟩
  go_wp2_with fail
  go_ret2
  exact ⟨g, hg, rfl, hQ, hb1⟩
set_option maxRecDepth 100000 in
theorem cbegin_no (key iv : ByteArray) (fits : Bool) (c : Int) (w : World) (hc : cbgE key.size iv.size fits = c) (hc0 : c ≠ 0) : Calls Tryz.prog 102 #[.string key, .string iv, .bool fits] w (RetNo c w) := by
  rcases key_cases key with hk | ⟨h1, h2, h3⟩
  · rw [cbgE, if_pos (keyOk_yes hk)] at hc
    by_cases hv : iv.size = 16
    · rw [if_pos hv] at hc
      have e1 : ((iv.size : Int) != 16) = false := by rw [bne_eq_false_iff_eq]; omega
      clear hv
      cases fits
      · obtain rfl : 6 = c := hc
        go_enter Tryz.func102, Tryz.ntmps102
        go_wp2_with fail
        refine (new_q key _ hk).mono ?_
        rintro e w1 ⟨g, hg, rfl, hQ, hb1⟩
        go_wp2_with fail
        go_ret2
        exact ⟨rfl, hb1⟩
      · exact absurd hc.symm hc0
    · rw [if_neg hv] at hc
      obtain rfl : 4 = c := hc
      have e1 : ((iv.size : Int) != 16) = true := by rw [bne_iff_ne]; omega
      clear hv
      go_enter Tryz.func102, Tryz.ntmps102
      go_wp2_with fail
      refine (new_q key _ hk).mono ?_
      rintro e w1 ⟨g, hg, rfl, hQ, hb1⟩
      go_wp2_with fail
      go_ret2
      exact ⟨rfl, hb1⟩
  · rw [cbgE, keyOk_no h1 h2 h3] at hc
    obtain rfl : 3 = c := hc
    go_enter Tryz.func102, Tryz.ntmps102
    go_wp2_with fail
    refine (new_bad key _ h1 h2 h3).mono ?_
    rintro e w1 ⟨rfl, rfl⟩
    go_wp2_with fail
    go_ret2
    exact ⟨rfl, Below.refl _ _⟩
end Go.Proofs.YtflofbimecnakaaGreat
namespace Go.Proofs.YtflofbimecnakaaGreat
open Go.RowKit
set_option linter.unusedVariables false
set_option linter.unusedSimpArgs false
def zer (n : Nat) : List UInt8 := List.replicate n 0
theorem zer_length (n : Nat) : (zer n).length = n := by simp [zer]
theorem zer_add (n m : Nat) : zer (n + m) = zer n ++ zer m := by simp [zer, List.replicate_append_replicate]
set_option maxRecDepth 100000 in
set_option maxHeartbeats 1600000 in
theorem chain_any (w : World) (g n : Nat) (K : List UInt8) (iv text : ByteArray) (hQ : Ciq w g K) (hv : iv.size = 16) (ht : text.size = 16 * n) (hn : text.size ≤ 140737488351232) :
    Calls Tryz.prog 106 #[.pointer (some ⟨g, 0, none⟩), .string iv, .string text] w (RetS (chS K iv.toList text.toList n) w) := by
  obtain ⟨i0, hi, hz0, hz1, hz2⟩ := info_parts info5
  have hu8 : (Tryz.prog.info? 5).map (·.size) = some 1 := by rw [hi]; simp [hz1]
  have hmax : text.size ≤ maxLen := by unfold maxLen; omega
  have hby : i0.bytes * text.size ≤ 281474976710656 := by rw [hz2]; omega
  have HF := Lib.hid (bcells_made text.size)
  have HQ := Lib.hid hQ
  have HV := Lib.hid hv
  have HT := Lib.hid ht
  have hgl := hQ.lt
  clear hQ hv ht
  go_enter Tryz.func106, Tryz.ntmps106
  go_wp2_with (at_make; refine wpList_make_full _ rfl (.tmp 12) (.tmp 12) 123 rfl w.heap.size 5 i0 (.int .u8 0) 1 Tryz.underlying123 hi hz0 hz1 .i64 .i64 _ _ text.size rfl rfl rfl rfl hby hmax (Nat.le_refl _) ?_; intro w1 hown hgrow)
  rw [HF.out] at hown
  have hb1 := (Below.refl w.heap.size w).grown hgrow (Nat.le_refl _) (by simp)
  have hA1 := At.ofOwnN hown
  have hs1 : w.heap.size < w1.heap.size := (hown.lt w.heap.size rfl).2
  have HA1 := Lib.hid hA1
  clear hgrow hown hA1
  go_wp2_with fail
  obtain ⟨w2, hw2, hZ2, hb2, hs2⟩ := one_by w1
  rw [hw2]
  have hA2 := HA1.out.below hb2 hs1
  have hb02 := hb1.trans (hb2.mono hb1.size)
  have hQ2 := HQ.out.below hb02 hgl
  obtain ⟨b0, hb0⟩ : ∃ b0, w.heap.size = b0 := ⟨_, rfl⟩
  obtain ⟨b1, hb1'⟩ : ∃ b1, w1.heap.size = b1 := ⟨_, rfl⟩
  rw [hb1'] at hs1 hZ2 hs2 ⊢
  rw [hb0] at hgl hs1 hA2 ⊢
  have HB0 := Lib.hid hb0
  have HA2 := Lib.hid hA2
  have HZ2 := Lib.hid hZ2
  have HQ2 := Lib.hid hQ2
  have HS2 := Lib.hid hs2
  clear hw2 hb2 hb1 hs2 hA2 hZ2 hQ2 HA1 HQ hb0 hb1' HF
  have hstart : At w2 b0 0 (bcells (chS K iv.toList text.toList 0 ++ zer (16 * (n - 0)))) := by
    rw [chS, List.nil_append, Nat.sub_zero, ← HT.out]
    exact HA2.out
  have hb02' : Below b0 w w2 := by rw [← HB0.out]; exact hb02
  go_loopw [9, 10] (fun v a wr => ∃ i : Nat, ∃ s : ByteArray, i ≤ n ∧ v = .string s ∧ s.toList = chA K iv.toList text.toList i ∧ a = .int .i64 ((16 * i : Nat) : Int) ∧ At wr b0 0 (bcells (chS K iv.toList text.toList i ++ zer (16 * (n - i)))) ∧ (∃ bl : List UInt8, bl.length = 16 ∧ At wr b1 0 (bcells bl)) ∧ Ciq wr g K ∧ Below b0 w wr ∧ b1 < wr.heap.size) (fun _ a _ => text.size - (intOf a).toNat)
  case atStart => exact ⟨0, iv, Nat.zero_le _, rfl, rfl, rfl, hstart, ⟨_, zer_length 16, HZ2.out⟩, HQ2.out, hb02', by rw [HS2.out]; omega⟩
  case round =>
    clear hb02 hstart hb02' HA2 HZ2 HQ2 HS2
    obtain ⟨i, s, hin, rfl, hs, rfl, hA, ⟨bl, hbl, hB⟩, hQ, hbel, hsz⟩ := hrel
    obtain ⟨o, ho⟩ : ∃ o : Nat, 16 * i = o := ⟨_, rfl⟩
    rw [ho]
    have HA := Lib.hid hA
    have HB := Lib.hid hB
    have HBL := Lib.hid hbl
    have HQ := Lib.hid hQ
    have HS := Lib.hid hs
    have HI := Lib.hid hin
    have HO := Lib.hid ho
    by_cases hlt : o < text.size
    · have hltI : (o : Int) < (text.size : Int) := by omega
      have hi1 : i < n := by have := HT.out; omega
      have HI1 := Lib.hid hi1
      obtain ⟨e, he⟩ : ∃ e : Nat, e = o + 16 := ⟨_, rfl⟩
      have h16 : (o : Int) + 16 = (e : Int) := by omega
      have hw16 : IntKind.i64.wrap (e : Int) = (e : Int) := wrap_in _ (by omega) (by have := HT.out; omega)
      have hle16 : (e : Int) ≤ (text.size : Int) := by have := HT.out; omega
      have hle16n : e ≤ text.size := by have := HT.out; omega
      have hoo : (o : Int) ≤ (e : Int) := by omega
      have ho16 : o ≤ e := by omega
      have ho0 : (0 : Int) ≤ (o : Int) := by omega
      have ho160 : (0 : Int) ≤ (e : Int) := by omega
      have HE := Lib.hid he
      clear hA hB hbl hQ hs hin ho hi1 he
      have hexs : (text.extract o e).size ≤ 140737488351232 := by rw [← tl_size, tl_ext, List.length_take, HE.out]; omega
      have hss : s.size ≤ 140737488351232 := by rw [← tl_size, HS.out, chA_length _ _ _ (by rw [tl_size]; exact HV.out)]; decide
      have hblk : (text.extract o e).toList = blkL text.toList i := by rw [tl_ext, HE.out, ← HO.out, blkL]; congr 1; omega
      have HBK := Lib.hid hblk
      have HEX := Lib.hid hexs
      have HSS := Lib.hid hss
      have HBd : Hid (At wr.drew b1 0 (bcells bl)) := HB.out
      clear hexs hss hblk
      go_wp2_with fail
      go_region_held3 (fun _ => True) (trivial) (first | (refine step_copy_text rfl (.tmp 21) (.tmp 28) 123 9 rfl 5 Tryz.underlying123 hu8 b1 0 16 16 rfl x1 rfl (bcells bl) HB3.out 16 (by rw [HX1S.out]; rfl) (by rw [bcells_length]; exact HBL.out) ?_; intro w4 hw4) | (go_at_call 46; refine (xor_any (text.extract o e) s _ HEX.out HSS.out).mono ?_; rintro e w3 ⟨x1, rfl, hx1, hb3⟩; have HX1 := Lib.hid hx1; have HX1S : Hid (x1.size = 16) := (by show _ = _; rw [← tl_size, HX1.out, HBK.out, HS.out, xorL_length, chA_length _ _ _ (by rw [tl_size]; exact HV.out), blkL_length _ _ (by rw [tl_size]; have := HI1.out; have := HT.out; omega)]; rfl); have HB3 := Lib.hid (HBd.out.below hb3 hsz); clear hx1))
      have hmk : (⟨x1.toList.toArray⟩ : ByteArray) = x1 := tl_inj (tl_mk _)
      have htk : x1.toList.take 16 = x1.toList := List.take_of_length_le (by rw [tl_size, HX1S.out]; exact Nat.le_refl _)
      have hwc := hw4.out
      rw [htk] at hwc
      have hbw : Below b1 wr w4 := below_copy (((Below.refl _ _).drew.trans hb3).mono (Nat.le_of_lt hsz)) (Nat.le_refl _) hwc
      have hB4 : At w4 b1 0 (bcells x1.toList) := HB3.out.ofCopy (by rw [bcells_length, bcells_length, tl_size, HX1S.out, HBL.out]) hwc
      have hA4 := HA.out.below hbw hs1
      have hQ4 := HQ.out.below hbw (Nat.lt_trans hgl hs1)
      have hb4 := hbel.trans (hbw.mono (Nat.le_of_lt hs1))
      have hsz4 : b1 < w4.heap.size := Nat.lt_of_lt_of_le hsz hbw.size
      have hcv := convert_at (P := Tryz.prog) (cap := 16) hB4 123 9 5 16 (by rw [tl_size, HX1S.out]) Tryz.underlying123 Tryz.underlying5 Tryz.underlying9
      rw [hmk] at hcv
      have HA4 := Lib.hid hA4
      have HB4 := Lib.hid hB4
      have hoI : (o : Int) ≤ (text.size : Int) := by omega
      have hoN : o ≤ text.size := by omega
      clear hmk htk hwc hbw hB4 hA4 hw4 hb3 HB3 HBd HB HA HQ hbel HEX HSS hle16 hle16n hoo ho16
      go_wp2_with fail
      refine (enc_q x1 _ g K hQ4 HX1S.out).mono ?_
      rintro e2 w5 ⟨s2, rfl, hs2, hQ5, hb5⟩
      have hsz5 : b1 < w5.heap.size := Nat.lt_of_lt_of_le hsz4 hb5.size
      have hb05 := hb4.trans (hb5.mono (Nat.le_of_lt (Nat.lt_trans hs1 hsz4)))
      have hA5 := HA4.out.below hb5 (Nat.lt_trans hs1 hsz4)
      have hB5 := HB4.out.below hb5 hsz4
      have hze : zer (16 * (n - i)) = zer 16 ++ zer (16 * (n - (i + 1))) := by rw [← zer_add]; congr 1; have := HI1.out; omega
      rw [hze] at hA5
      have hlen : (chS K iv.toList text.toList i).length = o := by rw [chS_length, HO.out]
      have HM5 := Lib.hid (hA5.midOf hlen)
      have HA5 := Lib.hid hA5
      have HB5 := Lib.hid hB5
      have HQ5 := Lib.hid hQ5
      have HS2 := Lib.hid hs2
      have HSS2 : Hid (s2.size = 16) := by show _ = _; rw [← tl_size, hs2, encL_length]
      have HLN := Lib.hid hlen
      clear hcv hA5 hB5 hQ5 hs2 hlen hze HA4 HB4 hQ4 hb4
      have hcp := run_copy_text (P := Tryz.prog) 123 9 3 5 b0 o (text.size - o) (text.size - o) s2 (bcells (zer 16)) Tryz.underlying123 hu8 HM5.out 16 (by rw [HSS2.out]; have := HE.out; have := HT.out; have := HO.out; exact Nat.min_eq_left (by omega)) (by rw [bcells_length, zer_length])
      have htk2 : s2.toList.take 16 = s2.toList := List.take_of_length_le (by rw [tl_size, HSS2.out]; exact Nat.le_refl _)
      rw [htk2] at hcp
      generalize hw6 : w5.setCells b0 o (bcells s2.toList) = w6 at hcp
      have hA6 := HA5.out.midSet (X := s2.toList) HLN.out (by rw [zer_length, tl_size, HSS2.out]) hw6.symm
      have hbw6 : Below b0 w5 w6 := below_copy (Below.refl _ _) (Nat.le_refl _) hw6.symm
      have hB6 := HB5.out.byCopy hw6.symm (.inl (by omega))
      have hQ6 := HQ5.out.below hbw6 hgl
      have hb06 := hb05.trans hbw6
      have hsz6 : b1 < w6.heap.size := Nat.lt_of_lt_of_le hsz5 hbw6.size
      rw [← List.append_assoc] at hA6
      have hstep : chS K iv.toList text.toList i ++ s2.toList = chS K iv.toList text.toList (i + 1) := by rw [chS, chA, HS2.out, HX1.out, HBK.out, HS.out]
      rw [hstep] at hA6
      have HA6 := Lib.hid hA6
      have HB6 := Lib.hid hB6
      have HQ6 := Lib.hid hQ6
      clear hw6 hA6 hB6 hQ6 hbw6 hstep htk2 HA5 HB5 HQ5 HM5 hb05 hsz5
      go_wp2_with fail
      go_roundw
      case rel => exact ⟨i + 1, s2, HI1.out, rfl, by rw [chA, HS2.out, HX1.out, HBK.out, HS.out], by rw [show 16 * (i + 1) = e by rw [HE.out, ← HO.out]; omega], HA6.out, ⟨_, by rw [tl_size, HX1S.out], HB6.out⟩, HQ6.out, hb06, hsz6⟩
      case measure => have := HE.out; simp [intOf]; omega
    · have hin2 : i = n := by have := HT.out; have := HI.out; omega
      subst hin2
      have hA2 := HA.out
      rw [Nat.sub_self, Nat.mul_zero, show zer 0 = [] from rfl, List.append_nil] at hA2
      have hltI : ¬ (o : Int) < (text.size : Int) := by omega
      have hcv := convert_at (P := Tryz.prog) (cap := text.size) hA2 123 9 5 text.size (by rw [chS_length, HT.out]) Tryz.underlying123 Tryz.underlying5 Tryz.underlying9
      clear hA hB hbl hQ hs hin ho hA2 HA
      go_wp2_with fail
      go_ret
      exact ⟨_, rfl, tl_mk _, by rw [HB0.out]; exact hbel⟩
end Go.Proofs.YtflofbimecnakaaGreat
namespace Go.Proofs.YtflofbimecnakaaGreat
open Go.RowKit
set_option linter.unusedVariables false
set_option linter.unusedSimpArgs false
def RetSd (l : List UInt8) (K : List UInt8) (g : Nat) (w : World) (e : Ending) (w' : World) : Prop := ∃ s : ByteArray, e = .returned (.string s) ∧ s.toList = l ∧ Ciq w' g K ∧ Turn g 513 w w'
set_option maxRecDepth 100000 in
set_option maxHeartbeats 1600000 in
theorem unchain_any (w : World) (g n : Nat) (K : List UInt8) (iv text : ByteArray) (hQ : Ciq w g K) (hv : iv.size = 16) (ht : text.size = 16 * n) (hn : text.size ≤ 140737488351232) :
    Calls Tryz.prog 104 #[.pointer (some ⟨g, 0, none⟩), .string iv, .string text] w (RetSd (unS K iv.toList text.toList n) K g w) := by
  obtain ⟨i0, hi, hz0, hz1, hz2⟩ := info_parts info5
  have hu8 : (Tryz.prog.info? 5).map (·.size) = some 1 := by rw [hi]; simp [hz1]
  have hmax : text.size ≤ maxLen := by unfold maxLen; omega
  have hby : i0.bytes * text.size ≤ 281474976710656 := by rw [hz2]; omega
  have HF := Lib.hid (bcells_made text.size)
  have HQ := Lib.hid hQ
  have HV := Lib.hid hv
  have HT := Lib.hid ht
  have hgl := hQ.lt
  clear hQ hv ht
  go_enter Tryz.func104, Tryz.ntmps104
  go_wp2_with (at_make; refine wpList_make_full _ rfl (.tmp 14) (.tmp 14) 123 rfl w.heap.size 5 i0 (.int .u8 0) 1 Tryz.underlying123 hi hz0 hz1 .i64 .i64 _ _ text.size rfl rfl rfl rfl hby hmax (Nat.le_refl _) ?_; intro w1 hown hgrow)
  rw [HF.out] at hown
  have hb1 := (Below.refl w.heap.size w).grown hgrow (Nat.le_refl _) (by simp)
  have hA1 := At.ofOwnN hown
  have hs1 : w.heap.size < w1.heap.size := (hown.lt w.heap.size rfl).2
  have HA1 := Lib.hid hA1
  clear hgrow hown hA1
  go_wp2_with fail
  obtain ⟨w2, hw2, hZ2, hb2, hs2⟩ := one_by w1
  rw [hw2]
  have hA2 := HA1.out.below hb2 hs1
  have hb02 := hb1.trans (hb2.mono hb1.size)
  have hQ2 := HQ.out.below hb02 hgl
  obtain ⟨b0, hb0⟩ : ∃ b0, w.heap.size = b0 := ⟨_, rfl⟩
  obtain ⟨b1, hb1'⟩ : ∃ b1, w1.heap.size = b1 := ⟨_, rfl⟩
  rw [hb1'] at hs1 hZ2 hs2 ⊢
  rw [hb0] at hgl hs1 hA2 ⊢
  have HB0 := Lib.hid hb0
  have HA2 := Lib.hid hA2
  have HZ2 := Lib.hid hZ2
  have HQ2 := Lib.hid hQ2
  have HS2 := Lib.hid hs2
  clear hw2 hb2 hb1 hs2 hA2 hZ2 hQ2 HA1 HQ hb0 hb1' HF
  have hstart : At w2 b0 0 (bcells (unS K iv.toList text.toList 0 ++ zer (16 * (n - 0)))) := by
    rw [unS, List.nil_append, Nat.sub_zero, ← HT.out]
    exact HA2.out
  have hgw : g < w.heap.size := by rw [HB0.out]; exact hgl
  have hT02 : Turn g 513 w w2 := Turn.ofBelow hb02 hgw
  go_loopw [9, 10] (fun v a wr => ∃ i : Nat, ∃ s : ByteArray, i ≤ n ∧ v = .string s ∧ s.toList = pvL iv.toList text.toList i ∧ a = .int .i64 ((16 * i : Nat) : Int) ∧ At wr b0 0 (bcells (unS K iv.toList text.toList i ++ zer (16 * (n - i)))) ∧ (∃ bl : List UInt8, bl.length = 16 ∧ At wr b1 0 (bcells bl)) ∧ Ciq wr g K ∧ Turn g 513 w wr ∧ b1 < wr.heap.size) (fun _ a _ => text.size - (intOf a).toNat)
  case atStart => exact ⟨0, iv, Nat.zero_le _, rfl, rfl, rfl, hstart, ⟨_, zer_length 16, HZ2.out⟩, HQ2.out, hT02, by rw [HS2.out]; omega⟩
  case round =>
    clear hb02 hstart hT02 HA2 HZ2 HQ2 HS2
    obtain ⟨i, s, hin, rfl, hs, rfl, hA, ⟨bl, hbl, hB⟩, hQ, hbel, hsz⟩ := hrel
    obtain ⟨o, ho⟩ : ∃ o : Nat, 16 * i = o := ⟨_, rfl⟩
    rw [ho]
    have HA := Lib.hid hA
    have HB := Lib.hid hB
    have HBL := Lib.hid hbl
    have HQ := Lib.hid hQ
    have HS := Lib.hid hs
    have HI := Lib.hid hin
    have HO := Lib.hid ho
    by_cases hlt : o < text.size
    · have hltI : (o : Int) < (text.size : Int) := by omega
      have hi1 : i < n := by have := HT.out; omega
      have HI1 := Lib.hid hi1
      obtain ⟨e, he⟩ : ∃ e : Nat, e = o + 16 := ⟨_, rfl⟩
      have h16 : (o : Int) + 16 = (e : Int) := by omega
      have hw16 : IntKind.i64.wrap (e : Int) = (e : Int) := wrap_in _ (by omega) (by have := HT.out; omega)
      have hoI : (o : Int) ≤ (text.size : Int) := by omega
      have hoN : o ≤ text.size := by omega
      have hss0 : text.size ≤ text.size := Nat.le_refl _
      have ho0 : (0 : Int) ≤ (o : Int) := by omega
      have HE := Lib.hid he
      have hblk : ((text.extract o text.size).toList).take 16 = blkL text.toList i := by rw [tl_extE _ _ _ rfl, ← HO.out, blkL]
      have HEX : Hid (Nat.min (text.extract o text.size).size 16 = 16) := by show _ = _; rw [← tl_size, tl_extE _ _ _ rfl, List.length_drop, tl_size]; exact Nat.min_eq_right (by have := HT.out; have := HO.out; omega)
      have HBK := Lib.hid hblk
      have HBd : Hid (At wr.drew b1 0 (bcells bl)) := HB.out
      clear hA hB hbl hQ hs hin ho hi1 he hblk
      go_wp2_with fail
      go_region_law (refine step_copy_text rfl (.tmp 23) (.tmp 26) 123 9 rfl 5 Tryz.underlying123 hu8 b1 0 16 16 rfl (text.extract o text.size) rfl (bcells bl) HBd.out 16 HEX.out (by rw [bcells_length]; exact HBL.out) ?_; intro w3 hw3)
      have hwc := hw3.out
      rw [HBK.out] at hwc
      have hbl3 : (blkL text.toList i).length = 16 := blkL_length _ _ (by rw [tl_size]; have := HI1.out; have := HT.out; omega)
      have hbw : Below b1 wr w3 := below_copy (Below.refl _ _).drew (Nat.le_refl _) hwc
      have hB3 : At w3 b1 0 (bcells (blkL text.toList i)) := HBd.out.ofCopy (by rw [bcells_length, bcells_length, HBL.out, hbl3]) hwc
      have hA3 := HA.out.below hbw hs1
      have hQ3 := HQ.out.below hbw (Nat.lt_trans hgl hs1)
      have hT3 := hbel.step hbw (Nat.lt_trans hgl hs1) (by rw [HB0.out]; exact Nat.le_of_lt hs1)
      have hsz3 : b1 < w3.heap.size := Nat.lt_of_lt_of_le hsz hbw.size
      obtain ⟨c3, hc3⟩ : ∃ c : ByteArray, c = ⟨(blkL text.toList i).toArray⟩ := ⟨_, rfl⟩
      have hc3l : c3.toList = blkL text.toList i := by rw [hc3, tl_mk]
      have hc3s : c3.size = 16 := by rw [← tl_size, hc3l, hbl3]
      have hcv := convert_at (P := Tryz.prog) (cap := 16) hB3 123 9 5 16 hbl3 Tryz.underlying123 Tryz.underlying5 Tryz.underlying9
      rw [← hc3] at hcv
      have HA3 := Lib.hid hA3
      have HB3 := Lib.hid hB3
      have HC3 := Lib.hid hc3
      have HC3L := Lib.hid hc3l
      have HC3S := Lib.hid hc3s
      have HBL3 := Lib.hid hbl3
      clear hwc hbw hB3 hA3 hw3 HBd HB HA HQ hbel HEX hc3 hc3l hc3s hbl3
      go_wp2_with fail
      refine (dec_q c3 _ g K hQ3 HC3S.out).mono ?_
      rintro e2 w4 ⟨s1, rfl, hs1', hQ4, hT34⟩
      have hT4 := hT3.trans hT34
      have hA4 := HA3.out.turn hT34 (.inl (by omega))
      have hB4 := HB3.out.turn hT34 (.inl (by omega))
      have hsz4 : b1 < w4.heap.size := Nat.lt_of_lt_of_le hsz3 hT34.size
      have hze : zer (16 * (n - i)) = zer 16 ++ zer (16 * (n - (i + 1))) := by rw [← zer_add]; congr 1; have := HI1.out; omega
      rw [hze] at hA4
      have hlen : (unS K iv.toList text.toList i).length = o := by rw [unS_length _ _ _ (by rw [tl_size]; exact HV.out) _ (by rw [tl_size]; have := HI1.out; have := HT.out; omega), HO.out]
      have hs1s : s1.size = 16 := by rw [← tl_size, hs1', decL_length]
      have hs1z : s1.size ≤ 140737488351232 := by omega
      have hsz' : s.size = 16 := by rw [← tl_size, HS.out, pvL_length _ _ (by rw [tl_size]; exact HV.out) _ (by rw [tl_size]; have := HI1.out; have := HT.out; omega)]
      have hszz : s.size ≤ 140737488351232 := by omega
      have HA4 := Lib.hid hA4
      have HB4 := Lib.hid hB4
      have HQ4 := Lib.hid hQ4
      have HT4 := Lib.hid hT4
      have HS1 := Lib.hid hs1'
      have HS1S := Lib.hid hs1s
      have HS1Z := Lib.hid hs1z
      have HSZ' := Lib.hid hsz'
      have HSZZ := Lib.hid hszz
      have HLN := Lib.hid hlen
      have hAd : Hid (At w4.drew b0 0 (bcells (unS K iv.toList text.toList i ++ (zer 16 ++ zer (16 * (n - (i + 1))))))) := hA4
      clear hcv hA4 hB4 hQ4 hs1' hlen hze HA3 HB3 hQ3 hT3 hT34 hs1s hs1z hsz' hszz hT4
      go_wp2_with fail
      go_region_held3 (fun _ => True) (trivial) (first | (refine step_copy_text rfl (.tmp 37) (.tmp 40) 123 9 rfl 5 Tryz.underlying123 hu8 b0 o (text.size - o) (text.size - o) rfl x1 rfl (bcells (zer 16)) HM5.out 16 HMIN.out (by rw [bcells_length, zer_length]) ?_; intro w6 hw6) | (go_at_call 46; refine (xor_any s1 s _ HS1Z.out HSZZ.out).mono ?_; rintro e w5 ⟨x1, rfl, hx1, hb5⟩; have HX1 := Lib.hid hx1; have HX1S : Hid (x1.size = 16) := (by show _ = _; rw [← tl_size, HX1.out, xorL_length, tl_size, tl_size, HS1S.out, HSZ'.out]; rfl); have HA5 := Lib.hid (hAd.out.below hb5 (Nat.lt_trans hs1 hsz4)); have HM5 := Lib.hid (HA5.out.midOf HLN.out); have HMIN : Hid (Nat.min x1.size (text.size - o) = 16) := (by show _ = _; rw [HX1S.out]; have := HT.out; have := HO.out; exact Nat.min_eq_left (by omega)); clear hx1))
      have hwc6 := hw6.out
      have htk2 : x1.toList.take 16 = x1.toList := List.take_of_length_le (by rw [tl_size, HX1S.out]; exact Nat.le_refl _)
      rw [htk2] at hwc6
      have hA6 := HA5.out.midSet (X := x1.toList) HLN.out (by rw [zer_length, tl_size, HX1S.out]) hwc6
      have hb45 : Below b0 w4 w5 := (Below.refl _ _).drew.trans (hb5.mono (Nat.le_of_lt (Nat.lt_trans hs1 hsz4)))
      have hbw6 : Below b0 w4 w6 := below_copy hb45 (Nat.le_refl _) hwc6
      have hB5 : At w5 b1 0 (bcells (blkL text.toList i)) := (show At w4.drew b1 0 _ from HB4.out).below hb5 hsz4
      have hB6 := hB5.byCopy hwc6 (.inl (by omega))
      have hQ6 := HQ4.out.below hbw6 hgl
      have hT6 := HT4.out.step hbw6 hgl (by rw [HB0.out]; exact Nat.le_refl _)
      have hsz6 : b1 < w6.heap.size := Nat.lt_of_lt_of_le hsz4 hbw6.size
      rw [← List.append_assoc] at hA6
      have hstep : unS K iv.toList text.toList i ++ x1.toList = unS K iv.toList text.toList (i + 1) := by rw [unS, HX1.out, HS1.out, HC3L.out, HS.out]
      rw [hstep] at hA6
      have hcv := convert_at (P := Tryz.prog) (cap := 16) hB6 123 9 5 16 HBL3.out Tryz.underlying123 Tryz.underlying5 Tryz.underlying9
      rw [← HC3.out] at hcv
      have HA6 := Lib.hid hA6
      have HB6 := Lib.hid hB6
      have HQ6 := Lib.hid hQ6
      have HT6 := Lib.hid hT6
      clear hw6 hwc6 hA6 hB6 hQ6 hbw6 hstep htk2 HA5 HB4 HQ4 HM5 hsz4 hb45 hB5 hT6 hb5 HA4 hAd HT4
      go_wp2_with fail
      go_roundw
      case rel => exact ⟨i + 1, c3, HI1.out, rfl, by rw [pvL, HC3L.out], by rw [show 16 * (i + 1) = e by rw [HE.out, ← HO.out]; omega], HA6.out, ⟨_, HBL3.out, HB6.out⟩, HQ6.out, HT6.out, hsz6⟩
      case measure => have := HE.out; simp [intOf]; omega
    · have hin2 : i = n := by have := HT.out; have := HI.out; omega
      subst hin2
      have hA2 := HA.out
      rw [Nat.sub_self, Nat.mul_zero, show zer 0 = [] from rfl, List.append_nil] at hA2
      have hltI : ¬ (o : Int) < (text.size : Int) := by omega
      have hcv := convert_at (P := Tryz.prog) (cap := text.size) hA2 123 9 5 text.size (by rw [unS_length _ _ _ (by rw [tl_size]; exact HV.out) _ (by rw [tl_size, HT.out]; exact Nat.le_refl _), HT.out]) Tryz.underlying123 Tryz.underlying5 Tryz.underlying9
      clear hA hB hbl hQ hs hin ho hA2 HA
      go_wp2_with fail
      go_ret
      exact ⟨_, rfl, tl_mk _, HQ.out, hbel⟩
end Go.Proofs.YtflofbimecnakaaGreat
namespace Go.Proofs.YtflofbimecnakaaGreat
open Go.RowKit
set_option linter.unusedVariables false
set_option linter.unusedSimpArgs false
theorem repeatL_one_byte (b : UInt8) : ∀ n, Lib.repeatL [b] n = List.replicate n b
  | 0 => rfl
  | n + 1 => by rw [Lib.repeatL_add, repeatL_one_byte b n, Lib.repeatL_one, List.replicate_succ']
theorem rep_any (s : ByteArray) (b : UInt8) (n : Nat) (w : World) (hs : s.toList = [b]) (hn : n ≤ 140737488355328) : Calls Tryz.prog 41 #[.string s, .int .i64 (n : Int)] w (RetS (List.replicate n b) w) := by
  have h1 : s.size = 1 := by rw [← tl_size, hs]; rfl
  refine (Sstrings_Repeat s n w (by omega) (by rw [h1, Nat.one_mul]; exact hn)).mono ?_
  rintro e w' ⟨rfl, hb⟩
  refine ⟨_, rfl, ?_, hb⟩
  rw [tl_mk, ← Lib.toList_data, hs, repeatL_one_byte]
set_option maxRecDepth 100000 in
theorem clone_any (s : ByteArray) (w : World) (hs : s.size ≤ 140737488355328) : Calls Tryz.prog 110 #[.string s] w (RetS s.toList w) := by
  go_enter Tryz.func110, Tryz.ntmps110
  go_wp2_with fail
  refine (Sstringslite_Clone s _ (by omega)).mono ?_
  rintro e w1 ⟨rfl, hb⟩
  go_wp2_with fail
  go_ret
  exact ⟨_, rfl, rfl, hb⟩
set_option maxRecDepth 100000 in
set_option maxHeartbeats 800000 in
theorem pad_bad (s : ByteArray) (size : Int) (w : World) (h : size < 1 ∨ 255 < size) : Calls Tryz.prog 105 #[.string s, .int .i64 size] w (RetSE [] 2 w) := by
  by_cases h1 : size < 1
  · clear h
    go_enter Tryz.func105, Tryz.ntmps105
    go_wp2_with fail
    go_ret2
    exact ret_se (tl_mk []) rfl rfl (Below.refl _ _)
  · have h2 : 255 < size := by omega
    clear h
    go_enter Tryz.func105, Tryz.ntmps105
    go_wp2_with fail
    go_ret2
    exact ret_se (tl_mk []) rfl rfl (Below.refl _ _)
set_option maxRecDepth 100000 in
set_option maxHeartbeats 800000 in
theorem pad_ok (s : ByteArray) (size : Nat) (w : World) (h1 : 1 ≤ size) (h2 : size ≤ 255) (hs : s.size ≤ 140737488355000) : Calls Tryz.prog 105 #[.string s, .int .i64 (size : Int)] w (RetSE (padL s.toList size) 0 w) := by
  obtain ⟨k, hk⟩ : ∃ k, padN s.size size = k := ⟨_, rfl⟩
  obtain ⟨r, hr⟩ : ∃ r, s.size % size = r := ⟨_, rfl⟩
  have hkk := padN_pos s.size size h1
  rw [hk] at hkk
  have hrk : size - r = k := by rw [← hk, padN, hr]
  have hrl : r < size := by rw [← hr]; exact Nat.mod_lt _ (by omega)
  have e1 : ¬ (size : Int) < 1 := by omega
  have e2 : ¬ (255 : Int) < (size : Int) := by omega
  have e3 : (s.size : Int).tmod (size : Int) = (r : Int) := by rw [← hr]; rfl
  have e4 : IntKind.i64.wrap (r : Int) = (r : Int) := wrap_in _ (by omega) (by omega)
  have e5 : (size : Int) - (r : Int) = (k : Int) := by omega
  have e6 : IntKind.i64.wrap (k : Int) = (k : Int) := wrap_in _ (by omega) (by omega)
  have e7 : IntKind.u8.wrap (k : Int) = (k : Int) := by simp [IntKind.wrap, IntKind.bits, IntKind.signed]; omega
  have e8 : (size : Int) ≠ 0 := by omega
  have e9 : (k : Int) = ((UInt8.ofNat k).toNat : Int) := by simp; omega
  obtain ⟨c, hc⟩ : ∃ c : ByteArray, c = ⟨[UInt8.ofNat k].toArray⟩ := ⟨_, rfl⟩
  have hcl : c.toList = [UInt8.ofNat k] := by rw [hc, tl_mk]
  have hcv := convert_at (P := Tryz.prog) (cap := 1) (l := [UInt8.ofNat k]) (At.ofAlloc w #[.int .u8 ((UInt8.ofNat k).toNat : Int)] 5) 123 9 5 1 rfl Tryz.underlying123 Tryz.underlying5 Tryz.underlying9
  rw [← hc, ← e9] at hcv
  have HC := Lib.hid hcl
  clear hc hcl
  have HK := Lib.hid hk
  have HKK := Lib.hid hkk
  have H9 := Lib.hid e9
  clear hk hr hrk hrl hkk e9
  go_enter Tryz.func105, Tryz.ntmps105
  go_wp2_with fail
  refine (rep_any c (UInt8.ofNat k) k _ HC.out (by have := HKK.out; omega)).mono ?_
  rintro e w1 ⟨x, rfl, hx, hb⟩
  have hxs : x.size = k := by rw [← tl_size, hx, List.length_replicate]
  have hno : ¬ 9223372036854775807 < s.size + x.size := by have := HKK.out; omega
  have HX := Lib.hid hx
  clear hx hxs hcv
  go_wp2_with fail
  go_ret2
  refine ret_se (tl_append _ _) ?_ rfl (((Below.refl _ _).alloc (Nat.le_refl _) _).trans (hb.mono (by simp)))
  rw [HX.out, padL, tl_size, HK.out, filL]
end Go.Proofs.YtflofbimecnakaaGreat
namespace Go.Proofs.YtflofbimecnakaaGreat
open Go.RowKit
set_option linter.unusedVariables false
set_option linter.unusedSimpArgs false
set_option maxRecDepth 100000 in
set_option maxHeartbeats 800000 in
theorem unpad_bad (s : ByteArray) (size : Int) (w : World) (h : size < 1 ∨ 255 < size) : Calls Tryz.prog 103 #[.string s, .int .i64 size] w (RetSE [] 2 w) := by
  by_cases h1 : size < 1
  · clear h
    go_enter Tryz.func103, Tryz.ntmps103
    go_wp2_with fail
    go_ret2
    exact ret_se (tl_mk []) rfl rfl (Below.refl _ _)
  · have h2 : 255 < size := by omega
    clear h
    go_enter Tryz.func103, Tryz.ntmps103
    go_wp2_with fail
    go_ret2
    exact ret_se (tl_mk []) rfl rfl (Below.refl _ _)
theorem unpE_6 {S : List UInt8} {size : Nat} (h : S.length = 0 ∨ S.length % size ≠ 0) : unpE S size = 6 := by rw [unpE, if_pos h]
theorem unpL_no {S : List UInt8} {size : Nat} {c : Int} (h : unpE S size = c) (hc : c ≠ 0) : unpL S size = [] := by rw [unpL, if_neg (by rw [h]; exact hc)]
theorem unpE_7 {S : List UInt8} {size : Nat} (h : ¬ (S.length = 0 ∨ S.length % size ≠ 0)) (hn : unpN S size = false) : unpE S size = 7 := by rw [unpE, if_neg h, hn]; rfl
theorem unpE_0 {S : List UInt8} {size : Nat} (h : ¬ (S.length = 0 ∨ S.length % size ≠ 0)) (hn : unpN S size = true) : unpE S size = 0 := by rw [unpE, if_neg h, hn]; rfl
set_option maxRecDepth 100000 in
set_option maxHeartbeats 1600000 in
theorem unpad_ok (s : ByteArray) (size : Nat) (w : World) (h1 : 1 ≤ size) (h2 : size ≤ 255) (hs : s.size ≤ 140737488355000) : Calls Tryz.prog 103 #[.string s, .int .i64 (size : Int)] w (RetSE (unpL s.toList size) (unpE s.toList size) w) := by
  obtain ⟨r, hr⟩ : ∃ r, s.size % size = r := ⟨_, rfl⟩
  have e1 : ¬ (size : Int) < 1 := by omega
  have e2 : ¬ (255 : Int) < (size : Int) := by omega
  have e3 : (s.size : Int).tmod (size : Int) = (r : Int) := by rw [← hr]; rfl
  have e4 : IntKind.i64.wrap (r : Int) = (r : Int) := wrap_in _ (by omega) (by have := Nat.mod_lt s.size (y := size) (by omega); omega)
  have e8 : (size : Int) ≠ 0 := by omega
  by_cases h0 : s.size = 0
  · have hE : unpE s.toList size = 6 := unpE_6 (.inl (by rw [tl_size]; exact h0))
    rw [unpL_no hE (by decide), hE]
    have e5 : ((s.size : Int) == 0) = true := by rw [beq_iff_eq]; omega
    clear h0 hE hr
    go_enter Tryz.func103, Tryz.ntmps103
    go_wp2_with fail
    go_ret2
    exact ret_se (tl_mk []) rfl rfl (Below.refl _ _)
  · have e5 : ((s.size : Int) == 0) = false := by rw [beq_eq_false_iff_ne]; omega
    by_cases hr0 : r = 0
    · subst hr0
      have hN : ¬ (s.toList.length = 0 ∨ s.toList.length % size ≠ 0) := by rw [tl_size]; omega
      have e6 : (((0 : Nat) : Int) != 0) = false := rfl
      obtain ⟨l1, hl1⟩ : ∃ l1, l1 = s.size - 1 := ⟨_, rfl⟩
      have e7 : (s.size : Int) - 1 = (l1 : Int) := by omega
      have e9 : IntKind.i64.wrap (l1 : Int) = (l1 : Int) := wrap_in _ (by omega) (by omega)
      have hl : l1 < s.size := by omega
      have hlI : (l1 : Int) < (s.size : Int) := by omega
      have hl0 : (0 : Int) ≤ (l1 : Int) := by omega
      obtain ⟨n, hn⟩ : ∃ n, s[l1].toNat = n := ⟨_, rfl⟩
      have hn255 : n < 256 := by rw [← hn]; exact s[l1].toNat_lt
      have hlast : lastN s.toList = n := by rw [lastN, tl_size, ← hl1, ← hn]; congr 1; exact at0_tl s l1 hl
      have e10 : IntKind.i64.wrap (n : Int) = (n : Int) := wrap_in _ (by omega) (by omega)
      have HN := Lib.hid hN
      have HL := Lib.hid hlast
      have H0 := Lib.hid h0
      have HR := Lib.hid hr
      clear hN hlast h0 hr hl1
      by_cases hz : n = 0
      · have hE : unpE s.toList size = 7 := unpE_7 HN.out (by rw [unpN, HL.out]; simp; omega)
        rw [unpL_no hE (by decide), hE]
        subst hz
        clear hE
        go_enter Tryz.func103, Tryz.ntmps103
        go_wp2_with fail
        go_ret2
        exact ret_se (tl_mk []) rfl rfl (Below.refl _ _)
      · have e11 : ((n : Int) == 0) = false := by rw [beq_eq_false_iff_ne]; omega
        by_cases hg : size < n
        · have hE : unpE s.toList size = 7 := unpE_7 HN.out (by rw [unpN, HL.out]; simp; omega)
          rw [unpL_no hE (by decide), hE]
          have e12 : (size : Int) < (n : Int) := by omega
          clear hE
          go_enter Tryz.func103, Tryz.ntmps103
          go_wp2_with fail
          go_ret2
          exact ret_se (tl_mk []) rfl rfl (Below.refl _ _)
        · have e12 : ¬ (size : Int) < (n : Int) := by omega
          have hsn : n ≤ s.size := by
            have h3 := HR.out
            have := Nat.le_of_dvd (by have := H0.out; omega) (Nat.dvd_of_mod_eq_zero h3)
            omega
          obtain ⟨rr, hrr⟩ : ∃ rr, rr = s.size - n := ⟨_, rfl⟩
          have e13 : (s.size : Int) - (n : Int) = (rr : Int) := by omega
          have e14 : IntKind.i64.wrap (rr : Int) = (rr : Int) := wrap_in _ (by omega) (by omega)
          have HRR := Lib.hid hrr
          have HSN := Lib.hid hsn
          have HZ := Lib.hid hz
          have HG := Lib.hid hg
          clear hrr hsn hz hg
          go_enter Tryz.func103, Tryz.ntmps103
          go_wp2_with fail
          go_loopw [43] (fun v wr => ∃ i : Nat, i ≤ n ∧ v = .int .i64 (i : Int) ∧ (∀ j, j < i → s.toList[rr + j]? = some (UInt8.ofNat n)) ∧ w = wr) (fun v _ => n - (intOf v).toNat)
          case atStart => exact ⟨0, Nat.zero_le _, rfl, fun j hj => absurd hj (Nat.not_lt_zero _), rfl⟩
          case round =>
            obtain ⟨i, hi, rfl, hall, rfl⟩ := hrel
            have HALL := Lib.hid hall
            clear hall
            by_cases hlt : i < n
            · have hltI : (i : Int) < (n : Int) := by omega
              obtain ⟨q, hq⟩ : ∃ q, q = rr + i := ⟨_, rfl⟩
              have hqs : q < s.size := by have := HRR.out; have := HSN.out; omega
              have hqsI : (q : Int) < (s.size : Int) := by omega
              have hq0 : (0 : Int) ≤ (q : Int) := by omega
              have hqe : (rr : Int) + (i : Int) = (q : Int) := by omega
              have hqw : IntKind.i64.wrap (q : Int) = (q : Int) := wrap_in _ (by omega) (by omega)
              obtain ⟨m, hm⟩ : ∃ m, s[q].toNat = m := ⟨_, rfl⟩
              have hm255 : m < 256 := by rw [← hm]; exact s[q].toNat_lt
              have hmw : IntKind.i64.wrap (m : Int) = (m : Int) := wrap_in _ (by omega) (by omega)
              have hget : s.toList[q]? = some (UInt8.ofNat m) := by rw [tl_get s q hqs, ← hm, UInt8.ofNat_toNat]
              have HGET := Lib.hid hget
              have HQ := Lib.hid hq
              clear hq hget
              by_cases hmn : m = n
              · have hb : ((m : Int) != (n : Int)) = false := by rw [bne_eq_false_iff_eq]; omega
                have HMN := Lib.hid hmn
                have hiw : IntKind.i64.wrap ((i : Int) + 1) = (i : Int) + 1 := wrap_in _ (by omega) (by omega)
                clear hmn
                go_wp2_with fail
                go_roundw
                case rel =>
                  refine ⟨i + 1, hlt, by go_num, fun j hj => ?_, by trivial⟩
                  by_cases hji : j < i
                  · exact HALL.out j hji
                  · have hj2 : j = i := by omega
                    subst hj2
                    rw [← HQ.out, HGET.out, HMN.out]
                case measure => simp [intOf]; omega
              · have hb : ((m : Int) != (n : Int)) = true := by rw [bne_iff_ne]; omega
                have hE : unpE s.toList size = 7 := by
                  refine unpE_7 HN.out ?_
                  rw [unpN, HL.out, tl_size, ← HRR.out]
                  refine decide_eq_false fun h => hmn ?_
                  have h3 : (s.toList.drop rr)[i]? = (filL n)[i]? := by rw [h.2.2]
                  rw [List.getElem?_drop, ← HQ.out, HGET.out, filL, List.getElem?_replicate, if_pos hlt] at h3
                  have h4 := congrArg UInt8.toNat (Option.some.inj h3)
                  simp at h4
                  omega
                rw [unpL_no hE (by decide), hE]
                clear hmn hE
                go_wp2_with fail
                go_ret2
                exact ret_se (tl_mk []) rfl rfl (Below.refl _ _)
            · have hin : i = n := by omega
              have hltI : ¬ (i : Int) < (n : Int) := by omega
              have hN : unpN s.toList size = true := by
                rw [unpN, HL.out, tl_size, ← HRR.out]
                refine decide_eq_true ⟨by have := HZ.out; omega, by have := HG.out; omega, ?_⟩
                apply List.ext_getElem?
                intro j
                rw [List.getElem?_drop, filL, List.getElem?_replicate]
                by_cases hj : j < n
                · rw [if_pos hj]; exact HALL.out j (by omega)
                · rw [if_neg hj]; exact List.getElem?_eq_none (by rw [tl_size]; have := HRR.out; have := HSN.out; omega)
              have hE := unpE_0 HN.out hN
              have hL : unpL s.toList size = s.toList.take rr := by rw [unpL, if_pos hE, HL.out, tl_size, HRR.out]
              rw [hL, hE]
              have hr1 : rr ≤ s.size := by have := HRR.out; omega
              have hr1I : (rr : Int) ≤ (s.size : Int) := by omega
              have hr0 : (0 : Int) ≤ (rr : Int) := by omega
              have hex : (s.extract 0 rr).size ≤ 140737488355328 := by rw [← tl_size, tl_ext0, List.length_take, tl_size]; omega
              have HEX := Lib.hid hex
              have HE0 := Lib.hid hE
              have HL0 := Lib.hid hL
              clear hN hE hL hex
              go_wp2_with fail
              refine (clone_any _ _ HEX.out).mono ?_
              rintro e w1 ⟨x, rfl, hx, hb⟩
              go_wp2_with fail
              go_ret2
              exact ret_se hx (by first | exact tl_ext0 _ _ | (rw [HL0.out]; exact tl_ext0 _ _)) (by first | rfl | exact HE0.out.symm) hb
    · have hE : unpE s.toList size = 6 := unpE_6 (.inr (by rw [tl_size, hr]; exact hr0))
      rw [unpL_no hE (by decide), hE]
      have e6 : ((r : Int) != 0) = true := by rw [bne_iff_ne]; omega
      clear h0 hE hr hr0
      go_enter Tryz.func103, Tryz.ntmps103
      go_wp2_with fail
      go_ret2
      exact ret_se (tl_mk []) rfl rfl (Below.refl _ _)
end Go.Proofs.YtflofbimecnakaaGreat
namespace Go.Proofs.YtflofbimecnakaaGreat
open Go.RowKit
set_option linter.unusedVariables false
set_option linter.unusedSimpArgs false
theorem cbg_false {k n : Nat} : cbgE k n false ≠ 0 := by
  unfold cbgE
  split
  · split <;> simp
  · simp
theorem cbg_true {k n : Nat} (h : cbgE k n true = 0) : (k = 16 ∨ k = 24 ∨ k = 32) ∧ n = 16 := by
  unfold cbgE at h
  split at h
  · rename_i hk
    split at h
    · rename_i hn; exact ⟨by simpa [keyOk] using hk, hn⟩
    · cases h
  · cases h
def cfit (n : Nat) : Bool := decide (n % 16 = 0 ∧ n ≤ 70016)
def cfitS (n : Nat) : Bool := decide (n ≤ 70000)
def cfitO (n : Nat) : Bool := decide (0 < n ∧ n % 16 = 0 ∧ n ≤ 70016)
def chaL (K V T : List UInt8) : List UInt8 := if cbgE K.length V.length (cfit T.length) = 0 then chS K V T (T.length / 16) else []
def uchL (K V T : List UInt8) : List UInt8 := if cbgE K.length V.length (cfit T.length) = 0 then unS K V T (T.length / 16) else []
def selL (K V T : List UInt8) : List UInt8 := if cbgE K.length V.length (cfitS T.length) = 0 then chS K V (padL T 16) ((padL T 16).length / 16) else []
def opeX (K V T : List UInt8) : List UInt8 := unS K V T (T.length / 16)
def opeE (K V T : List UInt8) : Int := if cbgE K.length V.length (cfitO T.length) = 0 then unpE (opeX K V T) 16 else cbgE K.length V.length (cfitO T.length)
def opeL (K V T : List UInt8) : List UInt8 := if cbgE K.length V.length (cfitO T.length) = 0 then unpL (opeX K V T) 16 else []
set_option maxRecDepth 100000 in
set_option maxHeartbeats 1600000 in
theorem cChain_no (key iv text : ByteArray) (w : World) (c : Int) (hc : cbgE key.size iv.size (cfit text.size) = c) (hc0 : c ≠ 0) : Calls Tryz.prog 168 #[.string key, .string iv, .string text] w (RetSE [] c w) := by
  obtain ⟨r, hr⟩ : ∃ r, text.size % 16 = r := ⟨_, rfl⟩
  have e3 : (text.size : Int).tmod 16 = (r : Int) := tmod_nat text.size 16 r hr.symm
  have e4 : IntKind.i64.wrap (r : Int) = (r : Int) := wrap_in _ (by omega) (by omega)
  have hcb : (c != 0) = true := by rw [bne_iff_ne]; exact hc0
  have hcb2 : (c == 0) = false := by rw [beq_eq_false_iff_ne]; exact hc0
  by_cases hr0 : r = 0
  · subst hr0
    have e6 : (((0 : Nat) : Int) == 0) = true := rfl
    by_cases hm : text.size ≤ 70016
    · have e7 : (text.size : Int) ≤ 70016 := by omega
      have hf : cfit text.size = true := by rw [cfit, decide_eq_true_iff]; exact ⟨hr, hm⟩
      rw [hf] at hc
      have HC := Lib.hid hc
      clear hf hr hm hc
      go_enter Tryz.func168, Tryz.ntmps168
      go_wp2_with fail
      refine (cbegin_no key iv true c _ HC.out hc0).mono ?_
      rintro e w1 ⟨rfl, hb1⟩
      go_wp2_with fail
      go_ret2
      exact ret_se (tl_mk []) rfl rfl hb1
    · have e7 : ¬ (text.size : Int) ≤ 70016 := by omega
      have hf : cfit text.size = false := by rw [cfit, decide_eq_false_iff_not]; omega
      rw [hf] at hc
      have HC := Lib.hid hc
      clear hf hr hm hc
      go_enter Tryz.func168, Tryz.ntmps168
      go_wp2_with fail
      refine (cbegin_no key iv false c _ HC.out hc0).mono ?_
      rintro e w1 ⟨rfl, hb1⟩
      go_wp2_with fail
      go_ret2
      exact ret_se (tl_mk []) rfl rfl hb1
  · have e6 : ((r : Int) == 0) = false := by rw [beq_eq_false_iff_ne]; omega
    have hf : cfit text.size = false := by rw [cfit, decide_eq_false_iff_not]; omega
    rw [hf] at hc
    have HC := Lib.hid hc
    clear hf hr hr0 hc
    go_enter Tryz.func168, Tryz.ntmps168
    go_wp2_with fail
    refine (cbegin_no key iv false c _ HC.out hc0).mono ?_
    rintro e w1 ⟨rfl, hb1⟩
    go_wp2_with fail
    go_ret2
    exact ret_se (tl_mk []) rfl rfl hb1
set_option maxRecDepth 100000 in
set_option maxHeartbeats 1600000 in
theorem cSeal_no (key iv text : ByteArray) (w : World) (c : Int) (hc : cbgE key.size iv.size (cfitS text.size) = c) (hc0 : c ≠ 0) : Calls Tryz.prog 100 #[.string key, .string iv, .string text] w (RetSE [] c w) := by
  have hcb : (c != 0) = true := by rw [bne_iff_ne]; exact hc0
  have hcb2 : (c == 0) = false := by rw [beq_eq_false_iff_ne]; exact hc0
  by_cases hm : text.size ≤ 70000
  · have e7 : (text.size : Int) ≤ 70000 := by omega
    have hf : cfitS text.size = true := by rw [cfitS, decide_eq_true_iff]; exact hm
    rw [hf] at hc
    have HC := Lib.hid hc
    clear hf hm hc
    go_enter Tryz.func100, Tryz.ntmps100
    go_wp2_with fail
    refine (cbegin_no key iv true c _ HC.out hc0).mono ?_
    rintro e w1 ⟨rfl, hb1⟩
    go_wp2_with fail
    go_ret2
    exact ret_se (tl_mk []) rfl rfl hb1
  · have e7 : ¬ (text.size : Int) ≤ 70000 := by omega
    have hf : cfitS text.size = false := by rw [cfitS, decide_eq_false_iff_not]; exact hm
    rw [hf] at hc
    have HC := Lib.hid hc
    clear hf hm hc
    go_enter Tryz.func100, Tryz.ntmps100
    go_wp2_with fail
    refine (cbegin_no key iv false c _ HC.out hc0).mono ?_
    rintro e w1 ⟨rfl, hb1⟩
    go_wp2_with fail
    go_ret2
    exact ret_se (tl_mk []) rfl rfl hb1
set_option maxRecDepth 100000 in
set_option maxHeartbeats 1600000 in
theorem cOpen_no (key iv text : ByteArray) (w : World) (c : Int) (hc : cbgE key.size iv.size (cfitO text.size) = c) (hc0 : c ≠ 0) : Calls Tryz.prog 99 #[.string key, .string iv, .string text] w (RetSE [] c w) := by
  obtain ⟨r, hr⟩ : ∃ r, text.size % 16 = r := ⟨_, rfl⟩
  have e3 : (text.size : Int).tmod 16 = (r : Int) := tmod_nat text.size 16 r hr.symm
  have e4 : IntKind.i64.wrap (r : Int) = (r : Int) := wrap_in _ (by omega) (by omega)
  have hcb : (c != 0) = true := by rw [bne_iff_ne]; exact hc0
  have hcb2 : (c == 0) = false := by rw [beq_eq_false_iff_ne]; exact hc0
  by_cases h0 : text.size = 0
  · have e5 : ¬ (0 : Int) < (text.size : Int) := by omega
    have hf : cfitO text.size = false := by rw [cfitO, decide_eq_false_iff_not]; omega
    rw [hf] at hc
    have HC := Lib.hid hc
    clear hf hr h0 hc e3 e4
    go_enter Tryz.func99, Tryz.ntmps99
    go_wp2_with fail
    refine (cbegin_no key iv false c _ HC.out hc0).mono ?_
    rintro e w1 ⟨rfl, hb1⟩
    go_wp2_with fail
    go_ret2
    exact ret_se (tl_mk []) rfl rfl hb1
  · have e5 : (0 : Int) < (text.size : Int) := by omega
    by_cases hr0 : r = 0
    · subst hr0
      have e6 : (((0 : Nat) : Int) == 0) = true := rfl
      by_cases hm : text.size ≤ 70016
      · have e7 : (text.size : Int) ≤ 70016 := by omega
        have hf : cfitO text.size = true := by rw [cfitO, decide_eq_true_iff]; omega
        rw [hf] at hc
        have HC := Lib.hid hc
        clear hf hr hm hc h0
        go_enter Tryz.func99, Tryz.ntmps99
        go_wp2_with fail
        refine (cbegin_no key iv true c _ HC.out hc0).mono ?_
        rintro e w1 ⟨rfl, hb1⟩
        go_wp2_with fail
        go_ret2
        exact ret_se (tl_mk []) rfl rfl hb1
      · have e7 : ¬ (text.size : Int) ≤ 70016 := by omega
        have hf : cfitO text.size = false := by rw [cfitO, decide_eq_false_iff_not]; omega
        rw [hf] at hc
        have HC := Lib.hid hc
        clear hf hr hm hc h0
        go_enter Tryz.func99, Tryz.ntmps99
        go_wp2_with fail
        refine (cbegin_no key iv false c _ HC.out hc0).mono ?_
        rintro e w1 ⟨rfl, hb1⟩
        go_wp2_with fail
        go_ret2
        exact ret_se (tl_mk []) rfl rfl hb1
    · have e6 : ((r : Int) == 0) = false := by rw [beq_eq_false_iff_ne]; omega
      have hf : cfitO text.size = false := by rw [cfitO, decide_eq_false_iff_not]; omega
      rw [hf] at hc
      have HC := Lib.hid hc
      clear hf hr hr0 hc h0
      go_enter Tryz.func99, Tryz.ntmps99
      go_wp2_with fail
      refine (cbegin_no key iv false c _ HC.out hc0).mono ?_
      rintro e w1 ⟨rfl, hb1⟩
      go_wp2_with fail
      go_ret2
      exact ret_se (tl_mk []) rfl rfl hb1
set_option maxRecDepth 100000 in
set_option maxHeartbeats 1600000 in
theorem cChain_ok (key iv text : ByteArray) (w : World) (hk : key.size = 16 ∨ key.size = 24 ∨ key.size = 32) (hv : iv.size = 16) (hm : text.size % 16 = 0) (hf : text.size ≤ 70016) : Calls Tryz.prog 168 #[.string key, .string iv, .string text] w (RetSE (chS key.toList iv.toList text.toList (text.size / 16)) 0 w) := by
  obtain ⟨n, hn⟩ : ∃ n, text.size / 16 = n := ⟨_, rfl⟩
  have ht : text.size = 16 * n := by omega
  have e3 : (text.size : Int).tmod 16 = 0 := tmod_nat text.size 16 0 (by omega)
  have e7 : (text.size : Int) ≤ 70016 := by omega
  have HV := Lib.hid hv
  have HN := Lib.hid hn
  have HT := Lib.hid ht
  have hz : Hid (text.size ≤ 140737488351232) := by show _ ≤ _; omega
  rw [hn]
  clear hv hn ht hm hf
  go_enter Tryz.func168, Tryz.ntmps168
  go_wp2_with fail
  refine (cbegin_ok key iv _ hk HV.out).mono ?_
  rintro e w1 ⟨g, hg, rfl, hQ, hb1⟩
  go_wp2_with fail
  refine (chain_any _ g n _ iv text hQ HV.out HT.out hz.out).mono ?_
  rintro e w2 ⟨s, rfl, hs, hb2⟩
  go_wp2_with fail
  go_ret2
  exact ret_se hs rfl rfl (below2 hb1 hb2)
set_option maxRecDepth 100000 in
set_option maxHeartbeats 1600000 in
theorem cOpen_ok (key iv text : ByteArray) (w : World) (hk : key.size = 16 ∨ key.size = 24 ∨ key.size = 32) (hv : iv.size = 16) (h0 : text.size ≠ 0) (hm : text.size % 16 = 0) (hf : text.size ≤ 70016) : Calls Tryz.prog 99 #[.string key, .string iv, .string text] w (RetSE (unpL (unS key.toList iv.toList text.toList (text.size / 16)) 16) (unpE (unS key.toList iv.toList text.toList (text.size / 16)) 16) w) := by
  have e5 : (0 : Int) < (text.size : Int) := by omega
  obtain ⟨n, hn⟩ : ∃ n, text.size / 16 = n := ⟨_, rfl⟩
  have ht : text.size = 16 * n := by omega
  have e3 : (text.size : Int).tmod 16 = 0 := tmod_nat text.size 16 0 (by omega)
  have e7 : (text.size : Int) ≤ 70016 := by omega
  have HV := Lib.hid hv
  have HN := Lib.hid hn
  have HT := Lib.hid ht
  have hz : Hid (text.size ≤ 140737488351232) := by show _ ≤ _; omega
  rw [hn]
  clear hv hn ht hm hf
  clear h0
  go_enter Tryz.func99, Tryz.ntmps99
  go_wp2_with fail
  refine (cbegin_ok key iv _ hk HV.out).mono ?_
  rintro e w1 ⟨g, hg, rfl, hQ, hb1⟩
  go_wp2_with fail
  have hgl := hQ.lt
  refine (unchain_any _ g n _ iv text hQ HV.out HT.out hz.out).mono ?_
  rintro e w2 ⟨s, rfl, hs, hQ2, hT2⟩
  have hb2 := hb1.trans (hT2.toBelow hgl hg)
  have hss : s.size ≤ 140737488355000 := by rw [← tl_size, hs, unS_length _ _ _ (by rw [tl_size]; exact HV.out) _ (by rw [tl_size, HT.out]; exact Nat.le_refl _)]; have := HT.out; have := hz.out; omega
  rw [← hs]
  have HS := Lib.hid hs
  clear hs hT2
  go_wp2_with fail
  refine (unpad_ok s 16 _ (by decide) (by decide) hss).mono ?_
  rintro e w3 ⟨t, rfl, ht, hb3⟩
  go_wp2_with fail
  go_ret2
  exact ret_se ht (by first | rfl | rw [HS.out]) (by first | rfl | rw [HS.out]) (hb2.trans (hb3.mono hb2.size))
set_option maxRecDepth 100000 in
set_option maxHeartbeats 1600000 in
theorem cSeal_ok (key iv text : ByteArray) (w : World) (hk : key.size = 16 ∨ key.size = 24 ∨ key.size = 32) (hv : iv.size = 16) (hf : text.size ≤ 70000) : Calls Tryz.prog 100 #[.string key, .string iv, .string text] w (RetSE (chS key.toList iv.toList (padL text.toList 16) ((padL text.toList 16).length / 16)) 0 w) := by
  have e7 : (text.size : Int) ≤ 70000 := by omega
  have HV := Lib.hid hv
  have HF := Lib.hid hf
  clear hv hf
  go_enter Tryz.func100, Tryz.ntmps100
  go_wp2_with fail
  refine (cbegin_ok key iv _ hk HV.out).mono ?_
  rintro e w1 ⟨g, hg, rfl, hQ, hb1⟩
  go_wp2_with fail
  refine (pad_ok text 16 _ (by decide) (by decide) (by have := HF.out; omega)).mono ?_
  rintro e w2 ⟨p, rfl, hp, hb2⟩
  have hps : p.size = (padL text.toList 16).length := by rw [← tl_size, hp]
  have hpl : (padL text.toList 16).length = text.size + padN text.size 16 := by rw [padL, List.length_append, filL_length, tl_size]
  have hpm := padN_mod text.size 16 (by decide)
  have hpn := padN_pos text.size 16 (by decide)
  rw [← hpl, ← hps] at hpm
  have hp16 : Hid (p.size = 16 * (p.size / 16)) := by show _ = _; omega
  have hpz : Hid (p.size ≤ 140737488351232) := by show _ ≤ _; have := HF.out; omega
  have HP := Lib.hid hp
  have HPS := Lib.hid hps
  have hQ2 := hQ.below hb2 hQ.lt
  rw [← hps]
  clear hp hps hpl hpm hpn
  go_wp2_with fail
  refine (chain_any _ g (p.size / 16) _ iv p hQ2 HV.out hp16.out hpz.out).mono ?_
  rintro e w3 ⟨s, rfl, hs, hb3⟩
  rw [HP.out] at hs
  have hb13 := (hb1.trans (hb2.mono hb1.size))
  go_wp2_with fail
  go_ret2
  exact ret_se hs (by first | rfl | rw [HPS.out]) rfl (hb13.trans (hb3.mono hb13.size))
theorem cChain_any (key iv text : ByteArray) (w : World) : Calls Tryz.prog 168 #[.string key, .string iv, .string text] w (RetSE (chaL key.toList iv.toList text.toList) (cbgE key.size iv.size (cfit text.size)) w) := by
  obtain ⟨c, hc⟩ : ∃ c, cbgE key.size iv.size (cfit text.size) = c := ⟨_, rfl⟩
  rw [chaL, tl_size, tl_size, tl_size, hc]
  by_cases hc0 : c = 0
  · rw [if_pos hc0, hc0]
    rw [hc0] at hc
    cases hf : cfit text.size
    · rw [hf] at hc; exact absurd hc cbg_false
    · rw [hf] at hc
      obtain ⟨hk, hv⟩ := cbg_true hc
      have hd := of_decide_eq_true hf
      exact cChain_ok key iv text w hk hv hd.1 hd.2
  · rw [if_neg hc0]
    exact cChain_no key iv text w c hc hc0
theorem cSeal_any (key iv text : ByteArray) (w : World) : Calls Tryz.prog 100 #[.string key, .string iv, .string text] w (RetSE (selL key.toList iv.toList text.toList) (cbgE key.size iv.size (cfitS text.size)) w) := by
  obtain ⟨c, hc⟩ : ∃ c, cbgE key.size iv.size (cfitS text.size) = c := ⟨_, rfl⟩
  rw [selL, tl_size, tl_size, tl_size, hc]
  by_cases hc0 : c = 0
  · rw [if_pos hc0, hc0]
    rw [hc0] at hc
    cases hf : cfitS text.size
    · rw [hf] at hc; exact absurd hc cbg_false
    · rw [hf] at hc
      obtain ⟨hk, hv⟩ := cbg_true hc
      have hd := of_decide_eq_true hf
      exact cSeal_ok key iv text w hk hv hd
  · rw [if_neg hc0]
    exact cSeal_no key iv text w c hc hc0
theorem cOpen_any (key iv text : ByteArray) (w : World) : Calls Tryz.prog 99 #[.string key, .string iv, .string text] w (RetSE (opeL key.toList iv.toList text.toList) (opeE key.toList iv.toList text.toList) w) := by
  obtain ⟨c, hc⟩ : ∃ c, cbgE key.size iv.size (cfitO text.size) = c := ⟨_, rfl⟩
  rw [opeL, opeE, opeX, tl_size, tl_size, tl_size, hc]
  by_cases hc0 : c = 0
  · rw [if_pos hc0, if_pos hc0]
    rw [hc0] at hc
    cases hf : cfitO text.size
    · rw [hf] at hc; exact absurd hc cbg_false
    · rw [hf] at hc
      obtain ⟨hk, hv⟩ := cbg_true hc
      have hd := of_decide_eq_true hf
      exact cOpen_ok key iv text w hk hv (by omega) hd.2.1 hd.2.2
  · rw [if_neg hc0, if_neg hc0]
    exact cOpen_no key iv text w c hc hc0
end Go.Proofs.YtflofbimecnakaaGreat
namespace Go.Proofs.YtflofbimecnakaaGreat
open Go.RowKit
set_option linter.unusedVariables false
set_option linter.unusedSimpArgs false
theorem padL_mod (T : List UInt8) : (padL T 16).length = 16 * ((padL T 16).length / 16) := by
  have h := padN_mod T.length 16 (by decide)
  have hl : (padL T 16).length = T.length + padN T.length 16 := by rw [padL, List.length_append, filL_length]
  omega
theorem padL_size (T : List UInt8) : T.length < (padL T 16).length ∧ (padL T 16).length ≤ T.length + 16 := by
  have h := padN_pos T.length 16 (by decide)
  have hl : (padL T 16).length = T.length + padN T.length 16 := by rw [padL, List.length_append, filL_length]
  omega
theorem cbg_fit {k n : Nat} {b c : Bool} (h : cbgE k n b = 0) (hc : c = true) : cbgE k n c = 0 := by
  have hb : b = true := by
    cases b
    · exact absurd h cbg_false
    · rfl
  rw [hc]; rw [hb] at h; exact h
theorem cbg_b {k n : Nat} {b : Bool} (h : cbgE k n b = 0) : b = true := by
  cases b
  · exact absurd h cbg_false
  · rfl
theorem selL_length (K V T : List UInt8) (h : cbgE K.length V.length (cfitS T.length) = 0) : (selL K V T).length = (padL T 16).length := by
  rw [selL, if_pos h, chS_length]
  exact (padL_mod T).symm
theorem seal_open (K V T : List UInt8) (h : cbgE K.length V.length (cfitS T.length) = 0) : opeE K V (selL K V T) = 0 ∧ opeL K V (selL K V T) = T := by
  have hl := selL_length K V T h
  have hT := of_decide_eq_true (cbg_b h)
  have hm := padL_mod T
  have hz := padL_size T
  have hf : cfitO (selL K V T).length = true := by rw [cfitO, decide_eq_true_iff, hl]; omega
  have hg := cbg_fit h hf
  have hv : V.length = 16 := by rw [cbg_b h] at h; exact (cbg_true h).2
  have hX : opeX K V (selL K V T) = padL T 16 := by
    rw [opeX, hl, selL, if_pos h]
    exact un_ch K V (padL T 16) _ hv hm
  have hp := pad_back T 16 (by decide) (by decide)
  rw [opeE, opeL, if_pos hg, if_pos hg, hX]
  exact hp
theorem chain_back (K V T : List UInt8) (h : cbgE K.length V.length (cfit T.length) = 0) : (chaL K V T).length = T.length ∧ uchL K V (chaL K V T) = T := by
  have hT := of_decide_eq_true (cbg_b h)
  have hv : V.length = 16 := by rw [cbg_b h] at h; exact (cbg_true h).2
  have hm : T.length = 16 * (T.length / 16) := by omega
  have hl : (chaL K V T).length = T.length := by rw [chaL, if_pos h, chS_length]; exact hm.symm
  refine ⟨hl, ?_⟩
  rw [uchL, hl, if_pos h, chaL, if_pos h]
  exact un_ch K V T _ hv hm
end Go.Proofs.YtflofbimecnakaaGreat
namespace Go.Proofs.YtflofbimecnakaaGreat
open Go.RowKit
set_option linter.unusedVariables false
set_option linter.unusedSimpArgs false
theorem pad_abc : (padL [97, 98, 99] 16).length = 16 := by decide
end Go.Proofs.YtflofbimecnakaaGreat
namespace Go.Proofs.YtflofbimecnakaaGreat
open Go.RowKit
set_option linter.unusedVariables false
set_option linter.unusedSimpArgs false
end Go.Proofs.YtflofbimecnakaaGreat
namespace Go.Proofs.YtflofbimecnakaaGreat
open Go.RowKit
set_option linter.unusedVariables false
set_option linter.unusedSimpArgs false
end Go.Proofs.YtflofbimecnakaaGreat
namespace Go.Proofs.YtflofbimecnakaaGreat
open Go.RowKit
set_option linter.unusedVariables false
set_option linter.unusedSimpArgs false
end Go.Proofs.YtflofbimecnakaaGreat
