/- package token: a string in memory: within a sign, behind a backslash. -/
import Derived.Test.YtpaikjlcachabaaDoorJtD
namespace Go.Proofs.YtpaikjlcachabaaDoor
open Go.RowKit
set_option linter.unusedVariables false
set_option linter.unusedSimpArgs false
namespace Js
open Dr (Rs Lm has lack)
def FurRet (h : Nat) (wh : Int) (l lo hi : Nat) (num half : Int) (t : List UInt8) (b : UInt8) (w : World) (e : Ending) (w' : World) : Prop :=
  ((b.toNat < lo ∨ hi < b.toNat) ∧ e = .returned (.int .i64 3) ∧ w = w') ∨ (¬ (b.toNat < lo ∨ hi < b.toNat) ∧ e = .returned (.int .i64 0) ∧ (∃ vT', Hid (Sx w' h (if l - 1 = 0 then 0 else wh) vT' ((l - 1 : Nat) : Int) num half 128 191 (t ++ [b]))) ∧ Hid (Tk h w w'))
set_option maxRecDepth 100000 in
set_option maxHeartbeats 1600000 in
theorem further_any (h : Nat) (wh : Int) (vT : Value) (l lo hi : Nat) (num half : Int) (t : List UInt8) (b : UInt8) (w : World) (hl1 : 1 ≤ l) (hl3 : l ≤ 3) (ht : t.length ≤ 140737488351232) (m : Sx w h wh vT (l : Int) num half (lo : Int) (hi : Int) t) :
    Calls Tryd.prog 90 #[.pointer (some ⟨h, 0, none⟩), .int .u8 (b.toNat : Int)] w (FurRet h wh l lo hi num half t b w) := by
  have HM := Lib.hid m
  have HT := Lib.hid ht
  obtain ⟨i5, hi5, hq5⟩ := Option.map_eq_some_iff.1 info5
  simp only [Prod.mk.injEq] at hq5
  obtain ⟨hz0, hz1, hz2⟩ := hq5
  obtain ⟨k, hk⟩ : ∃ k, t.length = k := ⟨_, rfl⟩
  have HK := Lib.hid hk
  have hx0 : Hid (w.ownsRow (h + 1) 5 1 vT k (bcells t)) := by rw [← hk]; exact HM.out.text
  obtain ⟨aT, cT, rfl, -⟩ := own_form hx0.out
  have c0 := HM.out.at0.cell 0 _ rfl
  have c1 := HM.out.at0.cell 1 _ rfl
  have c2 := HM.out.at0.cell 2 _ rfl
  have c5 := HM.out.at0.cell 5 _ rfl
  have c6 := HM.out.at0.cell 6 _ rfl
  have f0 := HM.out.at0.froz 0 (by show 0 < 7; decide)
  have f1 := HM.out.at0.froz 1 (by show 1 < 7; decide)
  have f2 := HM.out.at0.froz 2 (by show 2 < 7; decide)
  have f5 := HM.out.at0.froz 5 (by show 5 < 7; decide)
  have f6 := HM.out.at0.froz 6 (by show 6 < 7; decide)
  have HSZ : Hid (h < w.heap.size) := HM.out.lt
  clear hk m ht
  obtain ⟨n, hn⟩ : ∃ n, b.toNat = n := ⟨_, rfl⟩
  have HN := Lib.hid hn
  have hlt := b.toNat_lt
  rw [hn] at hlt ⊢
  clear hn
  by_cases h1 : n < lo
  · have z1 : (n : Int) < (lo : Int) := by omega
    have H1 := Lib.hid h1
    clear h1
    go_enter Tryd.func90, Tryd.ntmps90
    go_wp2_with fail
    go_ret
    exact .inl ⟨.inl (by rw [HN.out]; exact H1.out), rfl, rfl⟩
  by_cases h2 : hi < n
  · have z1 : ¬ (n : Int) < (lo : Int) := by omega
    have z2 : (hi : Int) < (n : Int) := by omega
    have H1 := Lib.hid h2
    clear h1 h2
    go_enter Tryd.func90, Tryd.ntmps90
    go_wp2_with fail
    go_ret
    exact .inl ⟨.inr (by rw [HN.out]; exact H1.out), rfl, rfl⟩
  have z1 : ¬ (n : Int) < (lo : Int) := by omega
  have z2 : ¬ (hi : Int) < (n : Int) := by omega
  have H1 : Hid (¬ (n < lo ∨ hi < n)) := fun h => by omega
  clear h1 h2
  rcases (show l = 1 ∨ l = 2 ∨ l = 3 by omega) with rfl | rfl | rfl
  · clear hl1 hl3
    go_enter Tryd.func90, Tryd.ntmps90
    go_wp2_with (at_builtin; (refine wpList_append_u8 rfl (.tmp 29) (.tmp 31) 66 rfl (h + 1) 5 i5 Tryd.underlying66 hi5 hz0 hz1 hz2 (.slice aT k cT) k t rfl (((ownsRow_setCell_below (ownsRow_setCell_below hx0.out (Nat.lt_succ_self h) _) (Nat.lt_succ_self h) _)).alloc _) _ 1 1 [b] rfl rfl (cells_one (by rw [HN.out]; exact cell_new (by simp [World.setCell]) _ _)) (by have := HT.out; have := HK.out; omega) (by have := HSZ.out; simp [World.setCell]; omega) ?_; intro v' w4 hown4 hgrow4; obtain ⟨a4, c4', hv4, -⟩ := own_form hown4; subst hv4; have hAt4 := At.grown ((((HM.out.at0.set 5 _).set 6 _)).alloc _) hgrow4 (by have := HSZ.out; simp [World.setCell]; omega) (fun e => by have := (hx0.out.lt h e).1; omega); have HR4 := Lib.hid hAt4; have HO4 := Lib.hid hown4; have HB4 := Lib.hid ((Tk.alloc ((((Tk.refl h w).setCell (p := ⟨h, 5, none⟩) (Nat.le_refl h) _).setCell (p := ⟨h, 6, none⟩) (Nat.le_refl h) _)) (by have := HSZ.out; simp [World.setCell]; omega) _).grown hgrow4 (by have := HSZ.out; simp [World.setCell]; omega) (u8_at hx0.out (Nat.lt_succ_self h))); clear c0 c1 c2 c5 c6 f0 f1 f2 f5 f6; have f0 := hAt4.froz 0 (by show 0 < 7; decide); have c40 := hAt4.cell 0 _ rfl; have f1 := hAt4.froz 1 (by show 1 < 7; decide); have c41 := hAt4.cell 1 _ rfl; have f2 := hAt4.froz 2 (by show 2 < 7; decide); have c42 := hAt4.cell 2 _ rfl; clear hAt4 hgrow4 hown4))
    go_ret
    refine .inr ⟨by rw [HN.out]; exact H1.out, rfl, ⟨.slice a4 (k + 1) c4', ⟨?_, ?_⟩⟩, ((HB4.out.setCell (p := ⟨h, 1, none⟩) (Nat.le_refl h) _).setCell (p := ⟨h, 2, none⟩) (Nat.le_refl h) _).setCell (p := ⟨h, 0, none⟩) (Nat.le_refl h) _⟩
    · exact ((HR4.out.set 1 _).set 2 _).set 0 _
    · rw [List.length_append, HK.out]
      exact ownsRow_setCell_below (ownsRow_setCell_below (ownsRow_setCell_below HO4.out (Nat.lt_succ_self h) _) (Nat.lt_succ_self h) _) (Nat.lt_succ_self h) _
  · clear hl1 hl3
    go_enter Tryd.func90, Tryd.ntmps90
    go_wp2_with (at_builtin; (refine wpList_append_u8 rfl (.tmp 29) (.tmp 31) 66 rfl (h + 1) 5 i5 Tryd.underlying66 hi5 hz0 hz1 hz2 (.slice aT k cT) k t rfl (((ownsRow_setCell_below (ownsRow_setCell_below hx0.out (Nat.lt_succ_self h) _) (Nat.lt_succ_self h) _)).alloc _) _ 1 1 [b] rfl rfl (cells_one (by rw [HN.out]; exact cell_new (by simp [World.setCell]) _ _)) (by have := HT.out; have := HK.out; omega) (by have := HSZ.out; simp [World.setCell]; omega) ?_; intro v' w4 hown4 hgrow4; obtain ⟨a4, c4', hv4, -⟩ := own_form hown4; subst hv4; have hAt4 := At.grown ((((HM.out.at0.set 5 _).set 6 _)).alloc _) hgrow4 (by have := HSZ.out; simp [World.setCell]; omega) (fun e => by have := (hx0.out.lt h e).1; omega); have HR4 := Lib.hid hAt4; have HO4 := Lib.hid hown4; have HB4 := Lib.hid ((Tk.alloc ((((Tk.refl h w).setCell (p := ⟨h, 5, none⟩) (Nat.le_refl h) _).setCell (p := ⟨h, 6, none⟩) (Nat.le_refl h) _)) (by have := HSZ.out; simp [World.setCell]; omega) _).grown hgrow4 (by have := HSZ.out; simp [World.setCell]; omega) (u8_at hx0.out (Nat.lt_succ_self h))); clear c0 c1 c2 c5 c6 f0 f1 f2 f5 f6; have f0 := hAt4.froz 0 (by show 0 < 7; decide); have c40 := hAt4.cell 0 _ rfl; have f1 := hAt4.froz 1 (by show 1 < 7; decide); have c41 := hAt4.cell 1 _ rfl; have f2 := hAt4.froz 2 (by show 2 < 7; decide); have c42 := hAt4.cell 2 _ rfl; clear hAt4 hgrow4 hown4))
    go_ret
    refine .inr ⟨by rw [HN.out]; exact H1.out, rfl, ⟨.slice a4 (k + 1) c4', ⟨?_, ?_⟩⟩, (HB4.out.setCell (p := ⟨h, 1, none⟩) (Nat.le_refl h) _).setCell (p := ⟨h, 2, none⟩) (Nat.le_refl h) _⟩
    · exact (HR4.out.set 1 _).set 2 _
    · rw [List.length_append, HK.out]
      exact ownsRow_setCell_below (ownsRow_setCell_below HO4.out (Nat.lt_succ_self h) _) (Nat.lt_succ_self h) _
  · clear hl1 hl3
    go_enter Tryd.func90, Tryd.ntmps90
    go_wp2_with (at_builtin; (refine wpList_append_u8 rfl (.tmp 29) (.tmp 31) 66 rfl (h + 1) 5 i5 Tryd.underlying66 hi5 hz0 hz1 hz2 (.slice aT k cT) k t rfl (((ownsRow_setCell_below (ownsRow_setCell_below hx0.out (Nat.lt_succ_self h) _) (Nat.lt_succ_self h) _)).alloc _) _ 1 1 [b] rfl rfl (cells_one (by rw [HN.out]; exact cell_new (by simp [World.setCell]) _ _)) (by have := HT.out; have := HK.out; omega) (by have := HSZ.out; simp [World.setCell]; omega) ?_; intro v' w4 hown4 hgrow4; obtain ⟨a4, c4', hv4, -⟩ := own_form hown4; subst hv4; have hAt4 := At.grown ((((HM.out.at0.set 5 _).set 6 _)).alloc _) hgrow4 (by have := HSZ.out; simp [World.setCell]; omega) (fun e => by have := (hx0.out.lt h e).1; omega); have HR4 := Lib.hid hAt4; have HO4 := Lib.hid hown4; have HB4 := Lib.hid ((Tk.alloc ((((Tk.refl h w).setCell (p := ⟨h, 5, none⟩) (Nat.le_refl h) _).setCell (p := ⟨h, 6, none⟩) (Nat.le_refl h) _)) (by have := HSZ.out; simp [World.setCell]; omega) _).grown hgrow4 (by have := HSZ.out; simp [World.setCell]; omega) (u8_at hx0.out (Nat.lt_succ_self h))); clear c0 c1 c2 c5 c6 f0 f1 f2 f5 f6; have f0 := hAt4.froz 0 (by show 0 < 7; decide); have c40 := hAt4.cell 0 _ rfl; have f1 := hAt4.froz 1 (by show 1 < 7; decide); have c41 := hAt4.cell 1 _ rfl; have f2 := hAt4.froz 2 (by show 2 < 7; decide); have c42 := hAt4.cell 2 _ rfl; clear hAt4 hgrow4 hown4))
    go_ret
    refine .inr ⟨by rw [HN.out]; exact H1.out, rfl, ⟨.slice a4 (k + 1) c4', ⟨?_, ?_⟩⟩, (HB4.out.setCell (p := ⟨h, 1, none⟩) (Nat.le_refl h) _).setCell (p := ⟨h, 2, none⟩) (Nat.le_refl h) _⟩
    · exact (HR4.out.set 1 _).set 2 _
    · rw [List.length_append, HK.out]
      exact ownsRow_setCell_below (ownsRow_setCell_below HO4.out (Nat.lt_succ_self h) _) (Nat.lt_succ_self h) _
theorem StrM.lt {w : World} {h : Nat} {s : Ss} (m : StrM w h s) : h < w.heap.size := by
  obtain ⟨_, _, _, _, _, _, _, hx, _⟩ := m
  exact hx.lt
set_option maxRecDepth 100000 in
set_option maxHeartbeats 1600000 in
theorem escaped_any (h : Nat) (t : List UInt8) (b : UInt8) (w : World) (ht : t.length ≤ 140737488351232) (m : StrM w h ⟨.esc, t⟩) :
    Calls Tryd.prog 86 #[.pointer (some ⟨h, 0, none⟩), .int .u8 (b.toNat : Int)] w (StrRet h ⟨.esc, t⟩ ((⟨.esc, t⟩ : Ss).take b) w) := by
  obtain ⟨wh, vT, left, num, half, low, high, hx, hw, hh⟩ := m
  obtain rfl : wh = 1 := hw
  obtain rfl : half = 0 := hh
  have HX := Lib.hid hx
  have TL := Lib.hid (fun c => tell_any h _ _ _ _ _ _ _ t c w ht hx)
  have BG := Lib.hid (begin_any h _ _ _ _ _ _ _ t w hx)
  clear hx ht
  by_cases h34 : b = 34
  · subst h34
    go_enter Tryd.func86, Tryd.ntmps86
    go_wp2_with (go_at_call 95; refine (TL.out 34).mono ?_; rintro e w1 ⟨rfl, ⟨vT', hx1⟩, hb1⟩)
    go_ret
    exact ⟨rfl, ⟨_, _, _, _, _, _, _, hx1.out, rfl, rfl⟩, hb1⟩
  by_cases h92 : b = 92
  · subst h92
    go_enter Tryd.func86, Tryd.ntmps86
    go_wp2_with (go_at_call 95; refine (TL.out 92).mono ?_; rintro e w1 ⟨rfl, ⟨vT', hx1⟩, hb1⟩)
    go_ret
    exact ⟨rfl, ⟨_, _, _, _, _, _, _, hx1.out, rfl, rfl⟩, hb1⟩
  by_cases h47 : b = 47
  · subst h47
    go_enter Tryd.func86, Tryd.ntmps86
    go_wp2_with (go_at_call 95; refine (TL.out 47).mono ?_; rintro e w1 ⟨rfl, ⟨vT', hx1⟩, hb1⟩)
    go_ret
    exact ⟨rfl, ⟨_, _, _, _, _, _, _, hx1.out, rfl, rfl⟩, hb1⟩
  by_cases h98 : b = 98
  · subst h98
    go_enter Tryd.func86, Tryd.ntmps86
    go_wp2_with (go_at_call 95; refine (TL.out 8).mono ?_; rintro e w1 ⟨rfl, ⟨vT', hx1⟩, hb1⟩)
    go_ret
    exact ⟨rfl, ⟨_, _, _, _, _, _, _, hx1.out, rfl, rfl⟩, hb1⟩
  by_cases h102 : b = 102
  · subst h102
    go_enter Tryd.func86, Tryd.ntmps86
    go_wp2_with (go_at_call 95; refine (TL.out 12).mono ?_; rintro e w1 ⟨rfl, ⟨vT', hx1⟩, hb1⟩)
    go_ret
    exact ⟨rfl, ⟨_, _, _, _, _, _, _, hx1.out, rfl, rfl⟩, hb1⟩
  by_cases h110 : b = 110
  · subst h110
    go_enter Tryd.func86, Tryd.ntmps86
    go_wp2_with (go_at_call 95; refine (TL.out 10).mono ?_; rintro e w1 ⟨rfl, ⟨vT', hx1⟩, hb1⟩)
    go_ret
    exact ⟨rfl, ⟨_, _, _, _, _, _, _, hx1.out, rfl, rfl⟩, hb1⟩
  by_cases h114 : b = 114
  · subst h114
    go_enter Tryd.func86, Tryd.ntmps86
    go_wp2_with (go_at_call 95; refine (TL.out 13).mono ?_; rintro e w1 ⟨rfl, ⟨vT', hx1⟩, hb1⟩)
    go_ret
    exact ⟨rfl, ⟨_, _, _, _, _, _, _, hx1.out, rfl, rfl⟩, hb1⟩
  by_cases h116 : b = 116
  · subst h116
    go_enter Tryd.func86, Tryd.ntmps86
    go_wp2_with (go_at_call 95; refine (TL.out 9).mono ?_; rintro e w1 ⟨rfl, ⟨vT', hx1⟩, hb1⟩)
    go_ret
    exact ⟨rfl, ⟨_, _, _, _, _, _, _, hx1.out, rfl, rfl⟩, hb1⟩
  by_cases h117 : b = 117
  · subst h117
    go_enter Tryd.func86, Tryd.ntmps86
    go_wp2_with (go_at_call 89; refine BG.out.mono ?_; rintro e w1 ⟨rfl, hx1, hb1⟩; have c0 := hx1.out.at0.cell 0 _ rfl; have f0 := hx1.out.at0.froz 0 (by show 0 < 7; decide))
    go_ret
    exact ⟨rfl, ⟨_, _, _, _, _, _, _, hx1.out.set (wh' := 2) 0 _ rfl, rfl, rfl, rfl, rfl⟩, hb1.out.setCell (p := ⟨h, 0, none⟩) (Nat.le_refl h) _⟩
  have hr : (⟨.esc, t⟩ : Ss).take b = .bad := by
    show (match escOf b with | some c => Sr.more ⟨.plain, t ++ [c]⟩ | none => if b = 117 then Sr.more ⟨.hex 4 0 0, t⟩ else .bad) = _
    rw [show escOf b = none by rw [escOf, if_neg (by rintro (h | h | h) <;> first | exact h34 h | exact h92 h | exact h47 h), if_neg h98, if_neg h102, if_neg h110, if_neg h114, if_neg h116]]
    dsimp only
    rw [if_neg h117]
  rw [hr]
  have q : ∀ c : UInt8, b ≠ c → b.toNat ≠ c.toNat := fun c h e => h (UInt8.toNat_inj.1 e)
  have k34 : b.toNat ≠ 34 := q 34 h34
  have k92 : b.toNat ≠ 92 := q 92 h92
  have k47 : b.toNat ≠ 47 := q 47 h47
  have k98 : b.toNat ≠ 98 := q 98 h98
  have k102 : b.toNat ≠ 102 := q 102 h102
  have k110 : b.toNat ≠ 110 := q 110 h110
  have k114 : b.toNat ≠ 114 := q 114 h114
  have k116 : b.toNat ≠ 116 := q 116 h116
  have k117 : b.toNat ≠ 117 := q 117 h117
  obtain ⟨n, hn⟩ : ∃ n, b.toNat = n := ⟨_, rfl⟩
  clear q
  rw [hn] at k34 k92 k47 k98 k102 k110 k114 k116 k117 ⊢
  have e34 := eqF (n := n) (c := 34) (by omega)
  have e92 := eqF (n := n) (c := 92) (by omega)
  have e47 := eqF (n := n) (c := 47) (by omega)
  have e98 := eqF (n := n) (c := 98) (by omega)
  have e102 := eqF (n := n) (c := 102) (by omega)
  have e110 := eqF (n := n) (c := 110) (by omega)
  have e114 := eqF (n := n) (c := 114) (by omega)
  have e116 := eqF (n := n) (c := 116) (by omega)
  have e117 := eqF (n := n) (c := 117) (by omega)
  clear hn hr h34 h92 h47 h98 h102 h110 h114 h116 h117 k34 k92 k47 k98 k102 k110 k114 k116 k117
  go_enter Tryd.func86, Tryd.ntmps86
  go_wp2_with fail
  go_ret
  exact ⟨rfl, Tk.refl h w⟩
end Js
end Go.Proofs.YtpaikjlcachabaaDoor
