/- package token: a string in memory: a sign told by two numbers. -/
import Derived.Test.YtpaikjlcachabaaDoorJtF
namespace Go.Proofs.YtpaikjlcachabaaDoor
open Go.RowKit
set_option linter.unusedVariables false
set_option linter.unusedSimpArgs false
namespace Js
open Dr (Rs Lm has lack)
set_option maxRecDepth 100000 in
set_option maxHeartbeats 1600000 in
theorem numbered_two (h : Nat) (vT : Value) (left : Int) (n hf : Nat) (low high : Int) (t : List UInt8) (w : World) (hn : n < 65536) (hh : 55296 ≤ hf ∧ hf ≤ 56319) (ht : t.length ≤ 140737488351232) (m : Sx w h 2 vT left (n : Int) (hf : Int) low high t) :
    Calls Tryd.prog 97 #[.pointer (some ⟨h, 0, none⟩)] w (StrRet h ⟨.hex 1 0 hf, t⟩ (numbered t n hf) w) := by
  have HM := Lib.hid m
  have hx0 : Hid (w.ownsRow (h + 1) 5 1 vT t.length (bcells t)) := m.text
  have c0 := m.at0.cell 0 _ rfl
  have c1 := m.at0.cell 1 _ rfl
  have c3 := m.at0.cell 3 _ rfl
  have c4 := m.at0.cell 4 _ rfl
  have f0 := m.at0.froz 0 (by show 0 < 7; decide)
  have f1 := m.at0.froz 1 (by show 1 < 7; decide)
  have f3 := m.at0.froz 3 (by show 3 < 7; decide)
  have f4 := m.at0.froz 4 (by show 4 < 7; decide)
  have hlt := m.lt
  have HSZ := Lib.hid hlt
  have HT := Lib.hid ht
  have z1 := eqF (n := hf) (c := 0) (by omega)
  have z2 : ¬ (hf : Int) = 0 := by omega
  have z3 : ((hf : Int) != 0) = true := by rw [bne_iff_ne]; exact z2
  have hne : (hf ≠ 0) := by omega
  by_cases h1 : 56320 ≤ n ∧ n ≤ 57343
  · rw [numbered, decide_eq_true h1, decide_eq_true hne, if_neg (by decide), if_neg (by omega), if_pos h1]
    have e1 : (56320 : Int) ≤ n := by omega
    have e2 : (n : Int) ≤ 57343 := by omega
    have e5 : (55296 : Int) ≤ n := by omega
    have e4 : ¬ (n : Int) ≤ 56319 := by omega
    have a1 : (55296 : Int) ≤ hf := by omega
    have a2 : (hf : Int) ≤ 56319 := by omega
    obtain ⟨x, hx⟩ : ∃ x, n + 65536 + (hf - 55296) * 1024 - 56320 = x := ⟨_, rfl⟩
    have hxi : (n : Int) + (65536 + ((hf : Int) - 55296) * 1024 - 56320) = (x : Int) := by omega
    have hx1 : ¬ (55296 ≤ x ∧ x ≤ 57343) := by omega
    have hx2 : x ≤ 1114111 := by omega
    rw [hx]
    clear h1 hn ht hlt m hne hh hx
    go_enter Tryd.func97, Tryd.ntmps97
    go_wp2_with fail
    go_region
    all_goals
      go_wp2_with fail
      have HM2 : Hid (Sx (World.drew ((w.setCell ⟨h, 3, none⟩ (.int .i32 (x : Int))).setCell ⟨h, 4, none⟩ (.int .i32 0))) h 2 vT left (x : Int) 0 low high t) := by
        have h9 := (HM.out.set (num' := (x : Int)) 3 (.int .i32 (x : Int)) rfl).set (half' := 0) 4 (.int .i32 0) rfl
        exact ⟨h9.at0.drewN 1, own_drewN h9.text 1⟩
      have HB2 : Hid (Tk h w (World.drew ((w.setCell ⟨h, 3, none⟩ (.int .i32 (x : Int))).setCell ⟨h, 4, none⟩ (.int .i32 0)))) := Lib.hid ((((Tk.refl h w).setCell (p := ⟨h, 3, none⟩) (Nat.le_refl h) _).setCell (p := ⟨h, 4, none⟩) (Nat.le_refl h) _).drew)
      clear c0 c1 c3 c4 f0 f1 f3 f4
      generalize World.drew ((w.setCell ⟨h, 3, none⟩ (.int .i32 (x : Int))).setCell ⟨h, 4, none⟩ (.int .i32 0)) = w2 at HM2 HB2 ⊢
      have c0 := HM2.out.at0.cell 0 _ rfl
      have c1 := HM2.out.at0.cell 1 _ rfl
      have c3 := HM2.out.at0.cell 3 _ rfl
      have f0 := HM2.out.at0.froz 0 (by show 0 < 7; decide)
      have f1 := HM2.out.at0.froz 1 (by show 1 < 7; decide)
      have AR := Lib.hid (fun q => arune_any h vT t x (w2.drewN q) hx1 hx2 HT.out HM2.out.lt (own_drewN HM2.out.text q))
      obtain ⟨u, hu⟩ : ∃ u, t ++ enc8 x = u := ⟨_, rfl⟩
      rw [hu] at AR
      have HUU := Lib.hid hu
      clear hu hx1 hx2 hxi
      go_region_with ((go_at_call 99; refine (AR.out _).mono ?_; rintro e w3 ⟨a3, cp3, rfl, ho3, hb3, hA3⟩; have HA3 : Hid (At w3 h 0 (scells 2 vT left (x : Int) 0 low high)) := Lib.hid (hA3.out _ (HM2.out.at0.drewN _)); have HB3 : Hid (Tk h w w3) := Lib.hid (HB2.out.trans ((tk_drewN h w2 _).trans hb3.out)); have g1 := HA3.out.cell 1 _ rfl; have gf1 := HA3.out.froz 1 (by show 1 < 7; decide); have g0 := HA3.out.cell 0 _ rfl; have gf0 := HA3.out.froz 0 (by show 0 < 7; decide); clear hb3 hA3))
      all_goals
        go_wp2_with fail
        go_ret
        have hu := HUU.out
        subst hu
        exact ⟨rfl, ⟨_, _, _, _, _, _, _, ⟨(HA3.out.set 1 _).set 0 _, ownsRow_setCell_below (ownsRow_setCell_below ho3.out (Nat.lt_succ_self h) _) (Nat.lt_succ_self h) _⟩, rfl, rfl⟩, (HB3.out.setCell (p := ⟨h, 1, none⟩) (Nat.le_refl h) _).setCell (p := ⟨h, 0, none⟩) (Nat.le_refl h) _⟩
  · rw [numbered, decide_eq_false h1, decide_eq_true hne, if_pos (by decide)]
    by_cases h2 : n < 56320
    · have e1 : ¬ (56320 : Int) ≤ n := by omega
      clear h1 hn ht hlt m hne hh h2
      go_enter Tryd.func97, Tryd.ntmps97
      go_wp2_with fail
      go_ret
      exact ⟨rfl, Tk.refl h w⟩
    · have e1 : (56320 : Int) ≤ n := by omega
      have e2 : ¬ (n : Int) ≤ 57343 := by omega
      clear h1 hn ht hlt m hne hh h2
      go_enter Tryd.func97, Tryd.ntmps97
      go_wp2_with fail
      go_ret
      exact ⟨rfl, Tk.refl h w⟩
end Js
end Go.Proofs.YtpaikjlcachabaaDoor
