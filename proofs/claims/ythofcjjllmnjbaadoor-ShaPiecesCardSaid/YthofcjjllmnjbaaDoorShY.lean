/- The walk of ShaPieces. -/
import Derived.Test.YthofcjjllmnjbaaDoorShV
namespace Go.Proofs.YthofcjjllmnjbaaDoor
open Go.RowKit
set_option linter.unusedVariables false
set_option linter.unusedSimpArgs false
/-- a slice of texts that came in -/
structure TextsS (W : World) (ad : Option Addr) (len : Nat) (ss : List ByteArray) : Prop where
  at_ : 0 < len → ∃ b off, ad = some ⟨b, off, none⟩ ∧ b < W.heap.size ∧ ∀ j, j < len → W.cell? ⟨b, off + j, none⟩ = some (.string (ss.getD j ByteArray.empty))
  small : ∀ j, j < len → (ss.getD j ByteArray.empty).size ≤ maxLen
set_option maxRecDepth 100000 in
set_option maxHeartbeats 3200000 in
theorem shaPieces_no (kind : Int) (hk : Sh.known kind = false) (ad : Option Addr) (len cap : Nat) (W : World) (hF : Tb W) :
    Calls Tryd.prog 5 #[.int .i64 kind, .slice ad len cap] W (RetT W) := by
  have HF := Lib.hid hF
  have HK := Lib.hid hk
  clear hF hk
  go_enter Tryd.func5, Tryd.ntmps5
  go_wp2_with fail
  refine (new_no kind HK.out _).mono ?_
  rintro e w2 ⟨rfl, rfl⟩
  go_wp2_with fail
  refine (wakes3_any _ HF.out).mono ?_
  rintro e w2 ⟨rfl, hb2⟩
  go_wp2_with fail
  refine (known_any kind _).mono ?_
  rintro e w3 ⟨rfl, rfl⟩
  rw [HK.out]
  go_wp2_with fail
  go_ret
  exact ⟨rfl, hb2⟩
set_option maxRecDepth 100000 in
set_option maxHeartbeats 3200000 in
theorem shaPieces_many (kind : Int) (hk : Sh.known kind = true) (ad : Option Addr) (len cap : Nat) (hl : 1000 < len) (W : World) (hF : Tb W) :
    Calls Tryd.prog 5 #[.int .i64 kind, .slice ad len cap] W (RetT W) := by
  have HF := Lib.hid hF
  have HK := Lib.hid hk
  have hlI : (1000 : Int) < (len : Int) := by omega
  clear hF hk
  go_enter Tryd.func5, Tryd.ntmps5
  go_wp2_with fail
  refine (new_yes kind HK.out _ HF.out).mono ?_
  rintro e w2 ⟨rfl, _, hb2⟩
  have HF2 := Lib.hid (HF.out.below hb2 HF.out.2.2)
  have HB2 := Lib.hid hb2
  clear hb2
  go_wp2_with fail
  refine (wakes3_any _ HF2.out).mono ?_
  rintro e w3 ⟨rfl, hb3⟩
  have HB3 := Lib.hid (HB2.out.trans (hb3.mono HB2.out.size))
  clear hb3
  go_wp2_with fail
  go_ret
  exact ⟨rfl, HB3.out⟩
set_option maxRecDepth 100000 in
set_option maxHeartbeats 6400000 in
theorem shaPieces_ok (kind : Int) (hk : Sh.known kind = true) (ad : Option Addr) (len cap : Nat) (ss : List ByteArray) (hl : len ≤ 1000) (W : World) (hT : TextsS W ad len ss) (hF : Tb W) :
    Calls Tryd.prog 5 #[.int .i64 kind, .slice ad len cap] W (RetT W) := by
  have HF := Lib.hid hF
  have HK := Lib.hid hk
  have HT := Lib.hid hT
  have hE : Sh.shE kind = 0 := by rw [Sh.shE, hk]; rfl
  have HE := Lib.hid hE
  have hlI : ¬ (1000 : Int) < (len : Int) := by omega
  have h1W : 1 < W.heap.size := hF.2.2
  clear hF hk hT hE
  go_enter Tryd.func5, Tryd.ntmps5
  go_wp2_with fail
  refine (new_yes kind HK.out _ HF.out).mono ?_
  rintro e w2 ⟨rfl, hh, hb2⟩
  obtain ⟨g, hg⟩ : ∃ g, W.heap.size = g := ⟨_, rfl⟩
  rw [hg] at hh ⊢
  have HG := Lib.hid hg
  have HF2 := Lib.hid (HF.out.below hb2 HF.out.2.2)
  have H2 := Lib.hid hh
  have HB2 := Lib.hid hb2
  rw [hg] at h1W
  clear hb2 hh hg
  go_wp2_with fail
  refine (wakes3_any _ HF2.out).mono ?_
  rintro e w3 ⟨rfl, hb3⟩
  have HB3 := Lib.hid (HB2.out.trans (hb3.mono HB2.out.size))
  have HF3 := Lib.hid (HF2.out.below hb3 HF2.out.2.2)
  have H3 := Lib.hid (H2.out.below hb3 H2.out.lt)
  clear hb3 HB2 HF2 H2
  go_wp2_with fail
  go_loopw [7, 36] (fun va vi wr => ∃ (i : Nat) (all : ByteArray), va = .string all ∧ vi = .int .i64 (i : Int) ∧ i ≤ len ∧ all.size ≤ 10000 ∧ Hst wr g kind (Sh.bits kind) all.toList ∧ Below W.heap.size W wr ∧ Tb wr) (fun _ vi _ => len - (intOf vi).toNat)
  case atStart => exact ⟨0, _, rfl, rfl, Nat.zero_le _, Nat.zero_le _, by rw [show (ByteArray.mk #[]).toList = [] from tl_mk []]; exact H3.out, HB3.out, HF3.out⟩
  case round =>
    clear HB3 HF3 H3
    obtain ⟨i, all, rfl, rfl, hil, has, hh, hbel, htb⟩ := hrel
    have HH := Lib.hid hh
    have HBE := Lib.hid hbel
    have HTB := Lib.hid htb
    clear hh htb
    by_cases hlt : i < len
    · have hltI : (i : Int) < (len : Int) := by omega
      obtain ⟨b, off, rfl, hbW, hcells⟩ := HT.out.at_ (by omega)
      obtain ⟨li, hli⟩ : ∃ li, ss.getD i ByteArray.empty = li := ⟨_, rfl⟩
      have hci : wr.cell? ⟨b, off + i, none⟩ = some (.string li) := by rw [← hli, ← hcells i hlt]; exact hbel.cell (p := ⟨b, off + i, none⟩) hbW
      have hi0 : (0 : Int) ≤ (i : Int) := by omega
      clear hbel
      by_cases ha5 : all.size ≤ 5000
      · have ha : ¬ (5000 : Int) < (all.size : Int) := by omega
        by_cases hl5 : li.size ≤ 5000
        · have hb : ¬ (5000 : Int) < (li.size : Int) := by omega
          have q1 : ¬ 9223372036854775807 < all.size + li.size := by omega
          have hcj : ∀ w4, Below W.heap.size W w4 → w4.cell? ⟨b, off + i, none⟩ = some (.string li) := fun w4 h4 => by rw [← hli, ← hcells i hlt]; exact h4.cell (p := ⟨b, off + i, none⟩) hbW
          have HCJ := Lib.hid hcj
          clear hcells hcj hli
          go_wp2_with fail
          refine (write_any _ g kind HK.out all.toList li HH.out HTB.out h1W (by rw [tl_size]; omega)).mono ?_
          rintro e w4 ⟨rfl, hh, hc4⟩
          have H4 := Lib.hid hh
          have HT4 := Lib.hid (HTB.out.chg hc4 h1W)
          have hb4 := HBE.out.trans (hc4.toBelow (B := W.heap.size) (by rw [HG.out]; exact Nat.le_refl _) HBE.out.size)
          have hci4 := HCJ.out w4 hb4
          have HB4 := Lib.hid hb4
          clear hh hc4 hb4 hci
          go_wp2_with fail
          refine (hsum_any _ g kind HK.out _ H4.out HT4.out (by rw [List.length_append, tl_size, tl_size]; omega)).mono ?_
          rintro e w5 ⟨y, rfl, _, hb5⟩
          have H5 : Hid (Hst w5 g kind (Sh.bits kind) (all ++ li).toList) := by rw [tl_cat]; exact H4.out.below hb5 H4.out.lt
          have HT5 := Lib.hid (HT4.out.below hb5 HT4.out.2.2)
          have HB5 := Lib.hid (HB4.out.trans (hb5.mono HB4.out.size))
          have hs2 : (all ++ li).size ≤ 10000 := by rw [ByteArray.size_append]; omega
          clear hb5
          go_wp2_with fail
          go_roundw
          case rel => exact ⟨i + 1, all ++ li, rfl, by go_num, hlt, hs2, H5.out, HB5.out, HT5.out⟩
          case measure => first | (simp [intOf]; done) | (simp [intOf]; omega)
        · have hb : (5000 : Int) < (li.size : Int) := by omega
          clear hcells hli
          go_wp2_with fail
          go_ret
          exact ⟨rfl, HBE.out⟩
      · have ha : (5000 : Int) < (all.size : Int) := by omega
        clear hcells hli
        go_wp2_with fail
        go_ret
        exact ⟨rfl, HBE.out⟩
    · have hge : ¬ (i : Int) < (len : Int) := by omega
      clear hbel
      go_wp2_with fail
      refine (hsum_any _ g kind HK.out _ HH.out HTB.out (by rw [tl_size]; omega)).mono ?_
      rintro e w4 ⟨y, rfl, hy, hb4⟩
      have HY := Lib.hid hy
      have HB4 := Lib.hid (HBE.out.trans (hb4.mono HBE.out.size))
      clear hy hb4
      go_wp2_with fail
      refine (rsumk_any kind all _ (by omega)).mono ?_
      rintro e w5 ⟨z, rfl, hz, hb5⟩
      rw [HE.out]
      obtain rfl : y = z := tl_inj (by rw [HY.out, hz, shR, HK.out]; rfl)
      have HB5 := Lib.hid (HB4.out.trans (hb5.mono HB4.out.size))
      clear hz hb5
      go_wp2_with fail
      go_ret
      exact ⟨rfl, HB5.out⟩
theorem shaPieces_walk (kind : Int) (ad : Option Addr) (len cap : Nat) (ss : List ByteArray) (W : World) (hT : TextsS W ad len ss) (hF : Tb W) :
    Calls Tryd.prog 5 #[.int .i64 kind, .slice ad len cap] W (RetT W) := by
  cases hk : Sh.known kind
  · exact shaPieces_no kind hk ad len cap W hF
  · by_cases hl : len ≤ 1000
    · exact shaPieces_ok kind hk ad len cap ss hl W hT hF
    · exact shaPieces_many kind hk ad len cap (by omega) W hF
end Go.Proofs.YthofcjjllmnjbaaDoor
