/- package token: a string in memory: any byte. -/
import Derived.Test.YtpaikjlcachabaaDoorJtH
namespace Go.Proofs.YtpaikjlcachabaaDoor
open Go.RowKit
set_option linter.unusedVariables false
set_option linter.unusedSimpArgs false
namespace Js
open Dr (Rs Lm has lack)
set_option maxRecDepth 100000 in
set_option maxHeartbeats 1600000 in
theorem plain_any (h : Nat) (t : List UInt8) (b : UInt8) (w : World) (ht : t.length ≤ 140737488351232) (m : StrM w h ⟨.plain, t⟩) :
    Calls Tryd.prog 85 #[.pointer (some ⟨h, 0, none⟩), .int .u8 (b.toNat : Int)] w (StrRet h ⟨.plain, t⟩ ((⟨.plain, t⟩ : Ss).take b) w) := by
  have HS := Lib.hid m
  obtain ⟨wh, vT, left, num, half, low, high, hx, hw, hh⟩ := m
  obtain rfl : wh = 0 := hw
  obtain rfl : half = 0 := hh
  have HX := Lib.hid hx
  have c0 := hx.at0.cell 0 _ rfl
  have f0 := hx.at0.froz 0 (by show 0 < 7; decide)
  have HR : (⟨.plain, t⟩ : Ss).take b = (if b = 34 then Sr.done else if b.toNat < 32 then .bad else if b = 92 then .more ⟨.esc, t⟩ else if b.toNat < 128 then .more ⟨.plain, t ++ [b]⟩ else if sgLeft b = 0 then .bad else .more ⟨.more (sgLeft b) (sgLow b) (sgHigh b), t ++ [b]⟩) := rfl
  rw [HR]
  clear HR
  by_cases h34 : b = 34
  · subst h34
    rw [if_pos rfl]
    clear hx ht
    go_enter Tryd.func85, Tryd.ntmps85
    go_wp2_with fail
    go_ret
    exact ⟨rfl, HS, Tk.refl h w⟩
  rw [if_neg h34]
  by_cases h92 : b = 92
  · subst h92
    rw [if_neg (by decide), if_pos rfl]
    clear hx ht
    go_enter Tryd.func85, Tryd.ntmps85
    go_wp2_with fail
    go_ret
    exact ⟨rfl, ⟨_, _, _, _, _, _, _, HX.out.set (wh' := 1) 0 _ rfl, rfl, rfl⟩, (Tk.refl h w).setCell (p := ⟨h, 0, none⟩) (Nat.le_refl h) _⟩
  have k34 : b.toNat ≠ 34 := fun e => h34 (UInt8.toNat_inj.1 e)
  have k92 : b.toNat ≠ 92 := fun e => h92 (UInt8.toNat_inj.1 e)
  have TL := Lib.hid (tell_any h _ _ _ _ _ _ _ t b w ht hx)
  by_cases h32 : b.toNat < 32
  · rw [if_pos h32]
    obtain ⟨n, hn⟩ : ∃ n, b.toNat = n := ⟨_, rfl⟩
    rw [hn] at k34 k92 h32 ⊢
    have e1 := eqF (n := n) (c := 34) (by omega)
    have e2 : (n : Int) < 32 := by omega
    clear hx ht k34 k92 h32 hn TL
    go_enter Tryd.func85, Tryd.ntmps85
    go_wp2_with fail
    go_ret
    exact ⟨rfl, Tk.refl h w⟩
  rw [if_neg h32, if_neg h92]
  by_cases h128 : b.toNat < 128
  · rw [if_pos h128]
    obtain ⟨n, hn⟩ : ∃ n, b.toNat = n := ⟨_, rfl⟩
    rw [hn] at k34 k92 h32 h128 TL ⊢
    have e1 := eqF (n := n) (c := 34) (by omega)
    have e2 : ¬ (n : Int) < 32 := by omega
    have e3 := eqF (n := n) (c := 92) (by omega)
    have e4 : (n : Int) < 128 := by omega
    clear hx ht k34 k92 h32 h128 hn
    go_enter Tryd.func85, Tryd.ntmps85
    go_wp2_with (go_at_call 95; refine TL.out.mono ?_; rintro e w1 ⟨rfl, ⟨vT', hx1⟩, hb1⟩)
    go_ret
    exact ⟨rfl, ⟨_, _, _, _, _, _, _, hx1.out, rfl, rfl⟩, hb1⟩
  rw [if_neg h128]
  have SG := Lib.hid (sign_any h _ _ _ _ _ _ _ t b w (by omega) ht hx)
  obtain ⟨q, hq⟩ : ∃ q, (if sgLeft b = 0 then Sr.bad else .more ⟨.more (sgLeft b) (sgLow b) (sgHigh b), t ++ [b]⟩) = q := ⟨_, rfl⟩
  have HQ := Lib.hid hq
  rw [hq]
  obtain ⟨n, hn⟩ : ∃ n, b.toNat = n := ⟨_, rfl⟩
  rw [hn] at k34 k92 h32 h128 SG ⊢
  have e1 := eqF (n := n) (c := 34) (by omega)
  have e2 : ¬ (n : Int) < 32 := by omega
  have e3 := eqF (n := n) (c := 92) (by omega)
  have e4 : ¬ (n : Int) < 128 := by omega
  clear hx ht k34 k92 h32 h128 hn hq TL
  go_enter Tryd.func85, Tryd.ntmps85
  go_wp2_with (go_at_call 96; refine SG.out.mono ?_; rintro e w1 (⟨hs, rfl, hb1⟩ | ⟨hs, rfl, ⟨vT', hx1⟩, hb1⟩))
  · go_ret
    have h9 := HQ.out
    rw [if_pos hs] at h9
    subst h9
    exact ⟨rfl, hb1⟩
  · go_wp2_with fail
    go_ret
    have h9 := HQ.out
    rw [if_neg hs] at h9
    subst h9
    exact ⟨rfl, ⟨_, _, _, _, _, _, _, hx1.out, rfl, rfl, rfl, rfl, rfl⟩, hb1⟩
end Js
end Go.Proofs.YtpaikjlcachabaaDoor
