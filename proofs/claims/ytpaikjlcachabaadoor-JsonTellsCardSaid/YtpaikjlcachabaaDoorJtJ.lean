/- package token: a string in memory: Take, whole; a word in memory. -/
import Derived.Test.YtpaikjlcachabaaDoorJtI
namespace Go.Proofs.YtpaikjlcachabaaDoor
open Go.RowKit
set_option linter.unusedVariables false
set_option linter.unusedSimpArgs false
namespace Js
open Dr (Rs Lm has lack)
theorem sgLeft_le' (a : UInt8) : sgLeft a ≤ 3 := by
  rw [sgLeft]
  repeat' split
  all_goals omega
theorem numbered_ok (t : List UInt8) (n half : Nat) (s' : Ss) (h : numbered t n half = .more s') : okM s'.m := by
  rw [numbered] at h
  split at h
  · cases h
  · split at h
    · rename_i h2
      cases h
      exact h2
    · split at h
      · cases h; exact trivial
      · cases h; exact trivial
theorem take_ok (s : Ss) (b : UInt8) (s' : Ss) (hk : okM s.m) (h : s.take b = .more s') : okM s'.m := by
  obtain ⟨m, t⟩ := s
  rw [Ss.take] at h
  cases m with
  | plain =>
    dsimp only at h
    repeat' split at h
    all_goals first | (cases h; exact trivial) | (cases h; done) | skip
    rename_i h5
    cases h
    have := sgLeft_le' b
    exact ⟨by omega, this⟩
  | esc =>
    dsimp only at h
    repeat' split at h
    all_goals first | (cases h; exact trivial) | (cases h; exact ⟨by decide, by decide, by decide, .inl rfl⟩) | (cases h; done)
  | hex l num half =>
    dsimp only at h
    obtain ⟨h1, h2, h3, h4⟩ := hk
    split at h
    · cases h
    · rename_i v hv
      split at h
      · rename_i hl
        cases h
        have hv16 : v < 16 := by
          rw [hexOf] at hv
          repeat' split at hv
          all_goals first | (cases hv; omega) | cases hv
        exact ⟨by omega, by omega, (pow16 l h1 num v h3 h2 hv16).2.1, h4⟩
      · exact numbered_ok _ _ _ _ h
  | slash half =>
    dsimp only at h
    split at h
    · cases h; exact hk
    · cases h
  | mark half =>
    dsimp only at h
    split at h
    · cases h; exact ⟨by decide, by decide, by decide, .inr hk⟩
    · cases h
  | more left low high =>
    dsimp only at h
    have h1 : 1 ≤ left ∧ left ≤ 3 := hk
    repeat' split at h
    all_goals first | (cases h; exact trivial) | (cases h; exact ⟨by omega, by omega⟩) | (cases h; done)
set_option maxRecDepth 100000 in
set_option maxHeartbeats 1600000 in
theorem take_any (h : Nat) (s : Ss) (b : UInt8) (w : World) (ht : s.t.length ≤ 140737488351232) (m : StrM w h s) (hk : okM s.m) :
    Calls Tryd.prog 74 #[.pointer (some ⟨h, 0, none⟩), .int .u8 (b.toNat : Int)] w (StrRet h s (s.take b) w) := by
  obtain ⟨sm, t⟩ := s
  cases sm with
  | plain =>
    have C := Lib.hid (plain_any h t b w ht m)
    obtain ⟨wh, vT, left, num, half, low, high, hx, hw, -⟩ := m
    obtain rfl : wh = 0 := hw
    have c0 := hx.at0.cell 0 _ rfl
    obtain ⟨q, hq⟩ : ∃ q, (⟨.plain, t⟩ : Ss).take b = q := ⟨_, rfl⟩
    rw [hq] at C ⊢
    obtain ⟨n, hn⟩ : ∃ n, b.toNat = n := ⟨_, rfl⟩
    rw [hn] at C ⊢
    clear hn hq hx hk ht
    go_enter Tryd.func74, Tryd.ntmps74
    go_wp2_with (go_at_call 85; refine C.out.mono ?_; rintro e w3 hk3; obtain ⟨x3, rfl⟩ := hk3.form; have HK3 := Lib.hid hk3; clear hk3)
    go_ret
    exact HK3.out
  | esc =>
    have C := Lib.hid (escaped_any h t b w ht m)
    obtain ⟨wh, vT, left, num, half, low, high, hx, hw, -⟩ := m
    obtain rfl : wh = 1 := hw
    have c0 := hx.at0.cell 0 _ rfl
    obtain ⟨q, hq⟩ : ∃ q, (⟨.esc, t⟩ : Ss).take b = q := ⟨_, rfl⟩
    rw [hq] at C ⊢
    obtain ⟨n, hn⟩ : ∃ n, b.toNat = n := ⟨_, rfl⟩
    rw [hn] at C ⊢
    clear hn hq hx hk ht
    go_enter Tryd.func74, Tryd.ntmps74
    go_wp2_with (go_at_call 86; refine C.out.mono ?_; rintro e w3 hk3; obtain ⟨x3, rfl⟩ := hk3.form; have HK3 := Lib.hid hk3; clear hk3)
    go_ret
    exact HK3.out
  | hex l nu hf =>
    have C := Lib.hid (digit_any h l nu hf t b w ht m hk)
    obtain ⟨wh, vT, left, num, half, low, high, hx, hw, -⟩ := m
    obtain rfl : wh = 2 := hw
    have c0 := hx.at0.cell 0 _ rfl
    obtain ⟨q, hq⟩ : ∃ q, (⟨.hex l nu hf, t⟩ : Ss).take b = q := ⟨_, rfl⟩
    rw [hq] at C ⊢
    obtain ⟨n, hn⟩ : ∃ n, b.toNat = n := ⟨_, rfl⟩
    rw [hn] at C ⊢
    clear hn hq hx hk ht
    go_enter Tryd.func74, Tryd.ntmps74
    go_wp2_with (go_at_call 87; refine C.out.mono ?_; rintro e w3 hk3; obtain ⟨x3, rfl⟩ := hk3.form; have HK3 := Lib.hid hk3; clear hk3)
    go_ret
    exact HK3.out
  | slash hf =>
    obtain ⟨wh, vT, left, num, half, low, high, hx, hw, hh⟩ := m
    obtain rfl : wh = 3 := hw
    have C := Lib.hid (follow_any h _ _ _ _ _ _ _ t b 92 4 w hx)
    have c0 := hx.at0.cell 0 _ rfl
    have HH := Lib.hid hh
    obtain ⟨q, hq⟩ : ∃ q, (⟨.slash hf, t⟩ : Ss).take b = q := ⟨_, rfl⟩
    have HQ : Hid ((if b = 92 then Sr.more ⟨.mark hf, t⟩ else .bad) = q) := hq
    rw [hq]
    obtain ⟨n, hn⟩ : ∃ n, b.toNat = n := ⟨_, rfl⟩
    rw [hn] at C ⊢
    rw [show ((92 : UInt8).toNat : Int) = 92 from rfl] at C
    clear hn hq hx hk ht hh
    go_enter Tryd.func74, Tryd.ntmps74
    go_wp2_with (go_at_call 88; refine C.out.mono ?_; rintro e w3 (⟨he, rfl, hx3, hb3⟩ | ⟨he, rfl, rfl⟩))
    · go_ret
      have h9 := HQ.out
      rw [if_pos he] at h9
      subst h9
      exact ⟨rfl, ⟨_, _, _, _, _, _, _, hx3.out, rfl, HH.out⟩, hb3⟩
    · go_wp2_with fail
      go_ret
      have h9 := HQ.out
      rw [if_neg he] at h9
      subst h9
      exact ⟨rfl, Tk.refl h _⟩
  | mark hf =>
    obtain ⟨wh, vT, left, num, half, low, high, hx, hw, hh⟩ := m
    obtain rfl : wh = 4 := hw
    have BG := Lib.hid (begin_any h _ _ _ _ _ _ _ t w hx)
    have C := Lib.hid (fun (w2 : World) (hx2 : Sx w2 h 4 vT 4 0 half low high t) => follow_any h _ _ _ _ _ _ _ t b 117 2 w2 hx2)
    have c0 := hx.at0.cell 0 _ rfl
    have HH := Lib.hid hh
    obtain ⟨q, hq⟩ : ∃ q, (⟨.mark hf, t⟩ : Ss).take b = q := ⟨_, rfl⟩
    have HQ : Hid ((if b = 117 then Sr.more ⟨.hex 4 0 hf, t⟩ else .bad) = q) := hq
    rw [hq]
    obtain ⟨n, hn⟩ : ∃ n, b.toNat = n := ⟨_, rfl⟩
    rw [hn] at C ⊢
    rw [show ((117 : UInt8).toNat : Int) = 117 from rfl] at C
    clear hn hq hx hk ht hh
    go_enter Tryd.func74, Tryd.ntmps74
    go_wp2_with (first | (go_at_call 89; refine BG.out.mono ?_; rintro e w2 ⟨rfl, hx2, hb2⟩) | (go_at_call 88; refine (C.out _ hx2.out).mono ?_; rintro e w3 (⟨he, rfl, hx3, hb3⟩ | ⟨he, rfl, rfl⟩)))
    · go_ret
      have h9 := HQ.out
      rw [if_pos he] at h9
      subst h9
      exact ⟨rfl, ⟨_, _, _, _, _, _, _, hx3.out, rfl, rfl, rfl, HH.out⟩, hb2.out.trans hb3.out⟩
    · go_wp2_with fail
      go_ret
      have h9 := HQ.out
      rw [if_neg he] at h9
      subst h9
      exact ⟨rfl, hb2⟩
  | more l lo hi =>
    obtain ⟨wh, vT, left, num, half, low, high, hx, hw, hle, hlo, hhi, hh⟩ := m
    obtain rfl : wh = 5 := hw
    obtain rfl : left = (l : Int) := hle
    obtain rfl : low = (lo : Int) := hlo
    obtain rfl : high = (hi : Int) := hhi
    have C := Lib.hid (further_any h 5 vT l lo hi num half t b w hk.1 hk.2 ht hx)
    have c0 := hx.at0.cell 0 _ rfl
    have HH := Lib.hid hh
    obtain ⟨q, hq⟩ : ∃ q, (⟨.more l lo hi, t⟩ : Ss).take b = q := ⟨_, rfl⟩
    have HQ : Hid ((if b.toNat < lo ∨ hi < b.toNat then Sr.bad else if l - 1 = 0 then .more ⟨.plain, t ++ [b]⟩ else .more ⟨.more (l - 1) 128 191, t ++ [b]⟩) = q) := hq
    rw [hq]
    obtain ⟨n, hn⟩ : ∃ n, b.toNat = n := ⟨_, rfl⟩
    have HN := Lib.hid hn
    rw [hn] at C ⊢
    clear hn hq hx hk ht hh
    go_enter Tryd.func74, Tryd.ntmps74
    go_wp2_with (go_at_call 90; refine C.out.mono ?_; rintro e w3 (⟨he, rfl, rfl⟩ | ⟨he, rfl, ⟨vT', hx3⟩, hb3⟩))
    · go_ret
      have h9 := HQ.out
      rw [if_pos he] at h9
      subst h9
      exact ⟨rfl, Tk.refl h _⟩
    · go_wp2_with fail
      go_ret
      have h9 := HQ.out
      rw [if_neg he] at h9
      by_cases hl : l - 1 = 0
      · rw [if_pos hl] at h9
        subst h9
        have h8 := hx3.out
        rw [if_pos hl] at h8
        exact ⟨rfl, ⟨_, _, _, _, _, _, _, h8, rfl, HH.out⟩, hb3⟩
      · rw [if_neg hl] at h9
        subst h9
        have h8 := hx3.out
        rw [if_neg hl] at h8
        exact ⟨rfl, ⟨_, _, _, _, _, _, _, h8, rfl, rfl, rfl, rfl, HH.out⟩, hb3⟩
end Js
end Go.Proofs.YtpaikjlcachabaaDoor
