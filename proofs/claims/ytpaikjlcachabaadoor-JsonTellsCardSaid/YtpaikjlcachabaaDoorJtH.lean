/- package token: a string in memory: digits. -/
import Derived.Test.YtpaikjlcachabaaDoorJtG
namespace Go.Proofs.YtpaikjlcachabaaDoor
open Go.RowKit
set_option linter.unusedVariables false
set_option linter.unusedSimpArgs false
namespace Js
open Dr (Rs Lm has lack)
theorem pow16 (l : Nat) (h : 1 ≤ l) (n v : Nat) (hn : n < 16 ^ (4 - l)) (hl : l ≤ 4) (hv : v < 16) : n < 4096 ∧ 16 * n + v < 16 ^ (4 - (l - 1)) ∧ 16 * n + v < 65536 := by
  obtain rfl | rfl | rfl | rfl : l = 1 ∨ l = 2 ∨ l = 3 ∨ l = 4 := by omega
  all_goals
    simp at hn ⊢
    omega
theorem i32n_or16 (x v : Nat) (hx : x < 4096) (hv : v < 16) : bits .or .i32 ((x : Int) * 16) (v : Int) = ((16 * x + v : Nat) : Int) := by
  have h1 : 16 * x ||| v = 16 * x + v := (Nat.two_pow_add_eq_or_of_lt (i := 4) hv x).symm
  rw [show ((x : Int) * 16) = ((16 * x : Nat) : Int) by omega]
  show IntKind.i32.wrap ((BitVec.ofInt 32 ((16 * x : Nat) : Int) ||| BitVec.ofInt 32 (v : Int)).toNat : Nat) = _
  rw [BitVec.toNat_or, BitVec.toNat_ofInt, BitVec.toNat_ofInt, show (((16 * x : Nat) : Int) % ((2 ^ 32 : Nat) : Int)).toNat = 16 * x by omega, show ((v : Int) % ((2 ^ 32 : Nat) : Int)).toNat = v by omega, h1]
  rw [IntKind.wrap_i32]
  omega
theorem StrRet.any {h : Nat} {s s' : Ss} {r : Sr} {w w' : World} {e : Ending} (hr : r ≠ .done) (k : StrRet h s r w e w') : StrRet h s' r w e w' := by
  cases r with
  | more s2 => exact k
  | done => exact absurd rfl hr
  | bad => exact k
theorem StrRet.trans {h : Nat} {s : Ss} {r : Sr} {w w2 w' : World} {e : Ending} (hb : Tk h w w2) (k : StrRet h s r w2 e w') : StrRet h s r w e w' := by
  cases r with
  | more s2 => exact ⟨k.1, k.2.1, hb.trans k.2.2.out⟩
  | done => exact ⟨k.1, k.2.1, hb.trans k.2.2.out⟩
  | bad => exact ⟨k.1, hb.trans k.2.out⟩
theorem StrRet.form {h : Nat} {s : Ss} {r : Sr} {w w' : World} {e : Ending} (k : StrRet h s r w e w') : ∃ x : Int, e = .returned (.int .i64 x) := by
  cases r with
  | more s2 => exact ⟨0, k.1⟩
  | done => exact ⟨1, k.1⟩
  | bad => exact ⟨3, k.1⟩
theorem numbered_ne (t : List UInt8) (n hf : Nat) : numbered t n hf ≠ .done := by
  rw [numbered]
  repeat' split
  all_goals (intro h; cases h)
theorem numbered_any (h : Nat) (s : Ss) (vT : Value) (left : Int) (n hf : Nat) (low high : Int) (t : List UInt8) (w : World) (hn : n < 65536) (hh : hf = 0 ∨ (55296 ≤ hf ∧ hf ≤ 56319)) (ht : t.length ≤ 140737488351232) (m : Sx w h 2 vT left (n : Int) (hf : Int) low high t) :
    Calls Tryd.prog 97 #[.pointer (some ⟨h, 0, none⟩)] w (StrRet h s (numbered t n hf) w) := by
  rcases hh with rfl | hh
  · exact (numbered_one h vT left n low high t w hn ht m).mono fun e w' k => k.any (numbered_ne _ _ _)
  · exact (numbered_two h vT left n hf low high t w hn hh ht m).mono fun e w' k => k.any (numbered_ne _ _ _)
set_option maxRecDepth 100000 in
set_option maxHeartbeats 3200000 in
theorem digit_any (h : Nat) (l num hf : Nat) (t : List UInt8) (b : UInt8) (w : World) (ht : t.length ≤ 140737488351232) (m : StrM w h ⟨.hex l num hf, t⟩) (hk : okM (.hex l num hf)) :
    Calls Tryd.prog 87 #[.pointer (some ⟨h, 0, none⟩), .int .u8 (b.toNat : Int)] w (StrRet h ⟨.hex l num hf, t⟩ ((⟨.hex l num hf, t⟩ : Ss).take b) w) := by
  obtain ⟨wh, vT, left, num', half, low, high, hx, hw, hle, hnu, hh⟩ := m
  obtain rfl : wh = 2 := hw
  obtain rfl : left = (l : Int) := hle
  obtain rfl : num' = (num : Int) := hnu
  obtain rfl : half = (hf : Int) := hh
  have HM := Lib.hid hx
  have c2 := hx.at0.cell 2 _ rfl
  have c3 := hx.at0.cell 3 _ rfl
  have f2 := hx.at0.froz 2 (by show 2 < 7; decide)
  have f3 := hx.at0.froz 3 (by show 3 < 7; decide)
  have HT := Lib.hid ht
  obtain ⟨hl1, hl4, hnm, hhf⟩ := hk
  have hlt := b.toNat_lt
  obtain ⟨n, hn⟩ : ∃ n, b.toNat = n := ⟨_, rfl⟩
  have HR : (⟨.hex l num hf, t⟩ : Ss).take b = (match hexOf b with | none => Sr.bad | some v => if 0 < l - 1 then Sr.more ⟨.hex (l - 1) (16 * num + v) hf, t⟩ else numbered t (16 * num + v) hf) := rfl
  obtain ⟨s, hs⟩ : ∃ s, (⟨.hex l num hf, t⟩ : Ss) = s := ⟨_, rfl⟩
  rw [hs] at HR ⊢
  rw [HR, hexOf, hn]
  rw [hn] at hlt
  clear hs HR hx ht
  by_cases g1 : 48 ≤ n ∧ n ≤ 57
  · rw [if_pos g1]
    dsimp only
    obtain ⟨v0, hv0⟩ : ∃ v, n - 48 = v := ⟨_, rfl⟩
    have k1 : (n : Int) - 48 = (v0 : Int) := by omega
    obtain ⟨v, hv⟩ : ∃ v, v0 = v := ⟨_, rfl⟩
    rw [hv0]
    obtain rfl := hv
    have hp := pow16 l hl1 num v0 hnm hl4 (by omega)
    have k3 := i32n_or16 num v0 hp.1 (by omega)
    obtain ⟨y, hy⟩ : ∃ y, 16 * num + v0 = y := ⟨_, rfl⟩
    rw [hy] at k3 hp ⊢
    have hp3 := hp.2.2
    have hp0 := hp.1
    have HM2 : Hid (Sx ((w.setCell ⟨h, 3, none⟩ (.int .i32 (y : Int))).setCell ⟨h, 2, none⟩ (.int .i64 ((l : Int) - 1))) h 2 vT ((l : Int) - 1) (y : Int) (hf : Int) low high t) := Lib.hid ((HM.out.set (num' := (y : Int)) 3 _ rfl).set (left' := (l : Int) - 1) 2 _ rfl)
    have HB2 : Hid (Tk h w ((w.setCell ⟨h, 3, none⟩ (.int .i32 (y : Int))).setCell ⟨h, 2, none⟩ (.int .i64 ((l : Int) - 1)))) := Lib.hid (((Tk.refl h w).setCell (p := ⟨h, 3, none⟩) (Nat.le_refl h) _).setCell (p := ⟨h, 2, none⟩) (Nat.le_refl h) _)
    have NU := Lib.hid (numbered_any h s vT ((l : Int) - 1) y hf low high t _ hp3 hhf HT.out HM2.out)
    by_cases hl2 : 0 < l - 1
    · have e5 : (0 : Int) < (l : Int) - 1 := by omega
      have e6 : ((l : Int) - 1) = ((l - 1 : Nat) : Int) := by omega
      have HE := Lib.hid e6
      rw [if_pos hl2]
      have d1 : (48 : Int) ≤ n := by omega
      have d2 : (n : Int) ≤ 57 := by omega
      clear hn hp hp3 hhf hnm e6 hl2 hy NU hlt
      go_enter Tryd.func87, Tryd.ntmps87
      go_wp2_with fail
      go_ret
      exact ⟨rfl, ⟨_, _, _, _, _, _, _, HM2.out, rfl, HE.out, rfl, rfl⟩, HB2.out⟩
    · have e5 : ¬ (0 : Int) < (l : Int) - 1 := by omega
      rw [if_neg hl2]
      have d1 : (48 : Int) ≤ n := by omega
      have d2 : (n : Int) ≤ 57 := by omega
      clear hn hp hp3 hhf hnm hl2 hy hlt
      go_enter Tryd.func87, Tryd.ntmps87
      go_wp2_with (go_at_call 97; refine NU.out.mono ?_; rintro e w3 hk3; obtain ⟨x3, rfl⟩ := hk3.form; have HK3 := Lib.hid hk3; clear hk3)
      go_ret
      exact StrRet.trans HB2.out HK3.out
  rw [if_neg g1]
  by_cases g2 : 97 ≤ n ∧ n ≤ 102
  · rw [if_pos g2]
    dsimp only
    obtain ⟨v0, hv0⟩ : ∃ v, n - 97 = v := ⟨_, rfl⟩
    have k1 : (n : Int) - 97 = (v0 : Int) := by omega
    obtain ⟨v, hv⟩ : ∃ v, v0 + 10 = v := ⟨_, rfl⟩
    have k2 : (v0 : Int) + 10 = (v : Int) := by omega
    rw [hv0, hv]
    have hp := pow16 l hl1 num v hnm hl4 (by omega)
    have k3 := i32n_or16 num v hp.1 (by omega)
    obtain ⟨y, hy⟩ : ∃ y, 16 * num + v = y := ⟨_, rfl⟩
    rw [hy] at k3 hp ⊢
    have hp3 := hp.2.2
    have hp0 := hp.1
    have HM2 : Hid (Sx ((w.setCell ⟨h, 3, none⟩ (.int .i32 (y : Int))).setCell ⟨h, 2, none⟩ (.int .i64 ((l : Int) - 1))) h 2 vT ((l : Int) - 1) (y : Int) (hf : Int) low high t) := Lib.hid ((HM.out.set (num' := (y : Int)) 3 _ rfl).set (left' := (l : Int) - 1) 2 _ rfl)
    have HB2 : Hid (Tk h w ((w.setCell ⟨h, 3, none⟩ (.int .i32 (y : Int))).setCell ⟨h, 2, none⟩ (.int .i64 ((l : Int) - 1)))) := Lib.hid (((Tk.refl h w).setCell (p := ⟨h, 3, none⟩) (Nat.le_refl h) _).setCell (p := ⟨h, 2, none⟩) (Nat.le_refl h) _)
    have NU := Lib.hid (numbered_any h s vT ((l : Int) - 1) y hf low high t _ hp3 hhf HT.out HM2.out)
    by_cases hl2 : 0 < l - 1
    · have e5 : (0 : Int) < (l : Int) - 1 := by omega
      have e6 : ((l : Int) - 1) = ((l - 1 : Nat) : Int) := by omega
      have HE := Lib.hid e6
      rw [if_pos hl2]
      have d1 : (48 : Int) ≤ n := by omega
      have d2 : ¬ (n : Int) ≤ 57 := by omega
      have d3 : (97 : Int) ≤ n := by omega
      have d4 : (n : Int) ≤ 102 := by omega
      clear hn hp hp3 hhf hnm e6 hl2 hy NU hlt
      go_enter Tryd.func87, Tryd.ntmps87
      go_wp2_with fail
      go_ret
      exact ⟨rfl, ⟨_, _, _, _, _, _, _, HM2.out, rfl, HE.out, rfl, rfl⟩, HB2.out⟩
    · have e5 : ¬ (0 : Int) < (l : Int) - 1 := by omega
      rw [if_neg hl2]
      have d1 : (48 : Int) ≤ n := by omega
      have d2 : ¬ (n : Int) ≤ 57 := by omega
      have d3 : (97 : Int) ≤ n := by omega
      have d4 : (n : Int) ≤ 102 := by omega
      clear hn hp hp3 hhf hnm hl2 hy hlt
      go_enter Tryd.func87, Tryd.ntmps87
      go_wp2_with (go_at_call 97; refine NU.out.mono ?_; rintro e w3 hk3; obtain ⟨x3, rfl⟩ := hk3.form; have HK3 := Lib.hid hk3; clear hk3)
      go_ret
      exact StrRet.trans HB2.out HK3.out
  rw [if_neg g2]
  by_cases g3 : 65 ≤ n ∧ n ≤ 70
  · rw [if_pos g3]
    dsimp only
    obtain ⟨v0, hv0⟩ : ∃ v, n - 65 = v := ⟨_, rfl⟩
    have k1 : (n : Int) - 65 = (v0 : Int) := by omega
    obtain ⟨v, hv⟩ : ∃ v, v0 + 10 = v := ⟨_, rfl⟩
    have k2 : (v0 : Int) + 10 = (v : Int) := by omega
    rw [hv0, hv]
    have hp := pow16 l hl1 num v hnm hl4 (by omega)
    have k3 := i32n_or16 num v hp.1 (by omega)
    obtain ⟨y, hy⟩ : ∃ y, 16 * num + v = y := ⟨_, rfl⟩
    rw [hy] at k3 hp ⊢
    have hp3 := hp.2.2
    have hp0 := hp.1
    have HM2 : Hid (Sx ((w.setCell ⟨h, 3, none⟩ (.int .i32 (y : Int))).setCell ⟨h, 2, none⟩ (.int .i64 ((l : Int) - 1))) h 2 vT ((l : Int) - 1) (y : Int) (hf : Int) low high t) := Lib.hid ((HM.out.set (num' := (y : Int)) 3 _ rfl).set (left' := (l : Int) - 1) 2 _ rfl)
    have HB2 : Hid (Tk h w ((w.setCell ⟨h, 3, none⟩ (.int .i32 (y : Int))).setCell ⟨h, 2, none⟩ (.int .i64 ((l : Int) - 1)))) := Lib.hid (((Tk.refl h w).setCell (p := ⟨h, 3, none⟩) (Nat.le_refl h) _).setCell (p := ⟨h, 2, none⟩) (Nat.le_refl h) _)
    have NU := Lib.hid (numbered_any h s vT ((l : Int) - 1) y hf low high t _ hp3 hhf HT.out HM2.out)
    by_cases hl2 : 0 < l - 1
    · have e5 : (0 : Int) < (l : Int) - 1 := by omega
      have e6 : ((l : Int) - 1) = ((l - 1 : Nat) : Int) := by omega
      have HE := Lib.hid e6
      rw [if_pos hl2]
      have d1 : (48 : Int) ≤ n := by omega
      have d2 : ¬ (n : Int) ≤ 57 := by omega
      have d3 : ¬ (97 : Int) ≤ n := by omega
      have d5 : (65 : Int) ≤ n := by omega
      have d6 : (n : Int) ≤ 70 := by omega
      clear hn hp hp3 hhf hnm e6 hl2 hy NU hlt
      go_enter Tryd.func87, Tryd.ntmps87
      go_wp2_with fail
      go_ret
      exact ⟨rfl, ⟨_, _, _, _, _, _, _, HM2.out, rfl, HE.out, rfl, rfl⟩, HB2.out⟩
    · have e5 : ¬ (0 : Int) < (l : Int) - 1 := by omega
      rw [if_neg hl2]
      have d1 : (48 : Int) ≤ n := by omega
      have d2 : ¬ (n : Int) ≤ 57 := by omega
      have d3 : ¬ (97 : Int) ≤ n := by omega
      have d5 : (65 : Int) ≤ n := by omega
      have d6 : (n : Int) ≤ 70 := by omega
      clear hn hp hp3 hhf hnm hl2 hy hlt
      go_enter Tryd.func87, Tryd.ntmps87
      go_wp2_with (go_at_call 97; refine NU.out.mono ?_; rintro e w3 hk3; obtain ⟨x3, rfl⟩ := hk3.form; have HK3 := Lib.hid hk3; clear hk3)
      go_ret
      exact StrRet.trans HB2.out HK3.out
  rw [if_neg g3]
  dsimp only
  by_cases b9 : n < 48
  · have d0 : ¬ (48 : Int) ≤ n := by omega
    have d1 : ¬ (97 : Int) ≤ n := by omega
    have d2 : ¬ (65 : Int) ≤ n := by omega
    clear hn hhf hnm hlt
    clear g1 g2 g3
    go_enter Tryd.func87, Tryd.ntmps87
    go_wp2_with fail
    go_ret
    exact ⟨rfl, Tk.refl h w⟩
  by_cases b10 : n < 65
  · have d0 : (48 : Int) ≤ n := by omega
    have d1 : ¬ (n : Int) ≤ 57 := by omega
    have d2 : ¬ (97 : Int) ≤ n := by omega
    have d3 : ¬ (65 : Int) ≤ n := by omega
    clear hn hhf hnm hlt
    clear g1 g2 g3
    go_enter Tryd.func87, Tryd.ntmps87
    go_wp2_with fail
    go_ret
    exact ⟨rfl, Tk.refl h w⟩
  by_cases b11 : n < 97
  · have d0 : (48 : Int) ≤ n := by omega
    have d1 : ¬ (n : Int) ≤ 57 := by omega
    have d2 : ¬ (97 : Int) ≤ n := by omega
    have d3 : (65 : Int) ≤ n := by omega
    have d4 : ¬ (n : Int) ≤ 70 := by omega
    clear hn hhf hnm hlt
    clear g1 g2 g3
    go_enter Tryd.func87, Tryd.ntmps87
    go_wp2_with fail
    go_ret
    exact ⟨rfl, Tk.refl h w⟩
  have d0 : (48 : Int) ≤ n := by omega
  have d1 : ¬ (n : Int) ≤ 57 := by omega
  have d2 : (97 : Int) ≤ n := by omega
  have d3 : ¬ (n : Int) ≤ 102 := by omega
  have d4 : (65 : Int) ≤ n := by omega
  have d5 : ¬ (n : Int) ≤ 70 := by omega
  clear hn hhf hnm hlt
  clear g1 g2 g3
  go_enter Tryd.func87, Tryd.ntmps87
  go_wp2_with fail
  go_ret
  exact ⟨rfl, Tk.refl h w⟩
end Js
end Go.Proofs.YtpaikjlcachabaaDoor
