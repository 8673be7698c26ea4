/- package token: a string in memory: signs of more than one byte. -/
import Derived.Test.YtpaikjlcachabaaDoorJtC
namespace Go.Proofs.YtpaikjlcachabaaDoor
open Go.RowKit
set_option linter.unusedVariables false
set_option linter.unusedSimpArgs false
namespace Js
open Dr (Rs Lm has lack)
/-- what a string's cells say of where it is -/
def MM (m : Sm) (wh left num half low high : Int) : Prop :=
  match m with
  | .plain => wh = 0 ∧ half = 0
  | .esc => wh = 1 ∧ half = 0
  | .hex l n hf => wh = 2 ∧ left = (l : Int) ∧ num = (n : Int) ∧ half = (hf : Int)
  | .slash hf => wh = 3 ∧ half = (hf : Int)
  | .mark hf => wh = 4 ∧ half = (hf : Int)
  | .more l lo hi => wh = 5 ∧ left = (l : Int) ∧ low = (lo : Int) ∧ high = (hi : Int) ∧ half = 0
def okM : Sm → Prop
  | .hex l n hf => 1 ≤ l ∧ l ≤ 4 ∧ n < 16 ^ (4 - l) ∧ (hf = 0 ∨ (55296 ≤ hf ∧ hf ≤ 56319))
  | .slash hf => 55296 ≤ hf ∧ hf ≤ 56319
  | .mark hf => 55296 ≤ hf ∧ hf ≤ 56319
  | .more l lo hi => 1 ≤ l ∧ l ≤ 3
  | _ => True
/-- a string in memory -/
def StrM (w : World) (h : Nat) (s : Ss) : Prop := ∃ wh vT left num half low high, Sx w h wh vT left num half low high s.t ∧ MM s.m wh left num half low high
def StrRet (h : Nat) (s : Ss) (r : Sr) (w : World) (e : Ending) (w' : World) : Prop :=
  match r with
  | .more s' => e = .returned (.int .i64 0) ∧ Hid (StrM w' h s') ∧ Hid (Tk h w w')
  | .done => e = .returned (.int .i64 1) ∧ Hid (StrM w' h s) ∧ Hid (Tk h w w')
  | .bad => e = .returned (.int .i64 3) ∧ Hid (Tk h w w')
set_option maxRecDepth 100000 in
set_option maxHeartbeats 1600000 in
theorem sign_any (h : Nat) (wh : Int) (vT : Value) (left num half low high : Int) (t : List UInt8) (b : UInt8) (w : World) (hb : 128 ≤ b.toNat) (ht : t.length ≤ 140737488351232) (m : Sx w h wh vT left num half low high t) :
    Calls Tryd.prog 96 #[.pointer (some ⟨h, 0, none⟩), .int .u8 (b.toNat : Int)] w (fun e w' => (sgLeft b = 0 ∧ e = .returned (.int .i64 3) ∧ Hid (Tk h w w')) ∨ (sgLeft b ≠ 0 ∧ e = .returned (.int .i64 0) ∧ (∃ vT', Hid (Sx w' h 5 vT' (sgLeft b : Int) num half (sgLow b : Int) (sgHigh b : Int) (t ++ [b]))) ∧ Hid (Tk h w w'))) := by
  have HM := Lib.hid m
  have HT := Lib.hid ht
  obtain ⟨i5, hi5, hq5⟩ := Option.map_eq_some_iff.1 info5
  simp only [Prod.mk.injEq] at hq5
  obtain ⟨hz0, hz1, hz2⟩ := hq5
  obtain ⟨k, hk⟩ : ∃ k, t.length = k := ⟨_, rfl⟩
  have HK := Lib.hid hk
  have hx0 : Hid (w.ownsRow (h + 1) 5 1 vT k (bcells t)) := by rw [← hk]; exact HM.out.text
  obtain ⟨aT, cT, rfl, -⟩ := own_form hx0.out
  have c0 := HM.out.at0.cell 0 _ rfl
  have c1 := HM.out.at0.cell 1 _ rfl
  have c2 := HM.out.at0.cell 2 _ rfl
  have c5 := HM.out.at0.cell 5 _ rfl
  have c6 := HM.out.at0.cell 6 _ rfl
  have f0 := HM.out.at0.froz 0 (by show 0 < 7; decide)
  have f1 := HM.out.at0.froz 1 (by show 1 < 7; decide)
  have f2 := HM.out.at0.froz 2 (by show 2 < 7; decide)
  have f5 := HM.out.at0.froz 5 (by show 5 < 7; decide)
  have f6 := HM.out.at0.froz 6 (by show 6 < 7; decide)
  have HSZ : Hid (h < w.heap.size) := HM.out.lt
  clear hk m ht
  have hs := sg_cases b hb
  have hlt := b.toNat_lt
  obtain ⟨n, hn⟩ : ∃ n, b.toNat = n := ⟨_, rfl⟩
  have HN := Lib.hid hn
  rw [hn] at hs hb hlt ⊢
  clear hn
  have e224 : n ≠ 224 → ((n : Int) == 224) = false := fun h => eqF (by omega)
  have e237 : n ≠ 237 → ((n : Int) == 237) = false := fun h => eqF (by omega)
  have e240 : n ≠ 240 → ((n : Int) == 240) = false := fun h => eqF (by omega)
  have e244 : n ≠ 244 → ((n : Int) == 244) = false := fun h => eqF (by omega)
  rcases hs with ⟨q, s0⟩ | ⟨q1, q2, s0, s1, s2⟩ | ⟨q, s0, s1, s2⟩ | ⟨q, s0, s1, s2⟩ | ⟨q1, q2, q3, s0, s1, s2⟩ | ⟨q, s0, s1, s2⟩ | ⟨q, s0, s1, s2⟩ | ⟨q1, q2, s0, s1, s2⟩
  · have S0 := Lib.hid s0
    clear s0 e224 e237 e240 e244
    rcases q with q | q
    · have z1 : ¬ (194 : Int) ≤ n := by omega
      have z2 : ¬ (224 : Int) ≤ n := by omega
      have z3 : ¬ (240 : Int) ≤ n := by omega
      clear q hb hlt
      go_enter Tryd.func96, Tryd.ntmps96
      go_wp2_with fail
      go_ret
      exact .inl ⟨S0.out, rfl, ((Tk.refl h w).setCell (p := ⟨h, 5, none⟩) (Nat.le_refl h) _).setCell (p := ⟨h, 6, none⟩) (Nat.le_refl h) _⟩
    · have z1 : (194 : Int) ≤ n := by omega
      have z2 : (224 : Int) ≤ n := by omega
      have z3 : (240 : Int) ≤ n := by omega
      have z4 : ¬ (n : Int) ≤ 223 := by omega
      have z5 : ¬ (n : Int) ≤ 239 := by omega
      have z6 : ¬ (n : Int) ≤ 244 := by omega
      clear q hb hlt
      go_enter Tryd.func96, Tryd.ntmps96
      go_wp2_with fail
      go_ret
      exact .inl ⟨S0.out, rfl, ((Tk.refl h w).setCell (p := ⟨h, 5, none⟩) (Nat.le_refl h) _).setCell (p := ⟨h, 6, none⟩) (Nat.le_refl h) _⟩
  · have S0 := Lib.hid (And.intro s0 (And.intro s1 s2))
    have d1 := e224 (by omega)
    have d2 := e237 (by omega)
    have d3 := e240 (by omega)
    have d4 := e244 (by omega)
    have g194 : (194 : Int) ≤ n := by omega
    have g224 : ¬ (224 : Int) ≤ n := by omega
    have g240 : ¬ (240 : Int) ≤ n := by omega
    have l223 : (n : Int) ≤ 223 := by omega
    have l239 : (n : Int) ≤ 239 := by omega
    have l244 : (n : Int) ≤ 244 := by omega
    clear s0 s1 s2 e224 e237 e240 e244 hb hlt
    clear q1 q2
    go_enter Tryd.func96, Tryd.ntmps96
    go_wp2_with (at_builtin; go_loud (refine wpList_append_u8 rfl (.tmp 66) (.tmp 68) 66 rfl (h + 1) 5 i5 Tryd.underlying66 hi5 hz0 hz1 hz2 (.slice aT k cT) k t rfl (((ownsRow_setCell_below (ownsRow_setCell_below (ownsRow_setCell_below hx0.out (Nat.lt_succ_self h) _) (Nat.lt_succ_self h) _) (Nat.lt_succ_self h) _)).alloc _) _ 1 1 [b] rfl rfl (cells_one (by rw [HN.out]; exact cell_new (by simp [World.setCell]) _ _)) (by have := HT.out; have := HK.out; omega) (by have := HSZ.out; simp [World.setCell]; omega) ?_; intro v' w4 hown4 hgrow4; obtain ⟨a4, c4', hv4, -⟩ := own_form hown4; subst hv4; have hAt4 := At.grown (((((HM.out.at0.set 5 _).set 6 _).set 2 _)).alloc _) hgrow4 (by have := HSZ.out; simp [World.setCell]; omega) (fun e => by have := (hx0.out.lt h e).1; omega); have HR4 := Lib.hid hAt4; have HO4 := Lib.hid hown4; have HB4 := Lib.hid ((Tk.alloc (((((Tk.refl h w).setCell (p := ⟨h, 5, none⟩) (Nat.le_refl h) _).setCell (p := ⟨h, 6, none⟩) (Nat.le_refl h) _).setCell (p := ⟨h, 2, none⟩) (Nat.le_refl h) _)) (by have := HSZ.out; simp [World.setCell]; omega) _).grown hgrow4 (by have := HSZ.out; simp [World.setCell]; omega) (u8_at hx0.out (Nat.lt_succ_self h))); clear c0 c1 c2 c5 c6 f0 f1 f2 f5 f6; have f0 := hAt4.froz 0 (by show 0 < 7; decide); have c40 := hAt4.cell 0 _ rfl; have f1 := hAt4.froz 1 (by show 1 < 7; decide); have c41 := hAt4.cell 1 _ rfl; have f2 := hAt4.froz 2 (by show 2 < 7; decide); have c42 := hAt4.cell 2 _ rfl; clear hAt4 hgrow4 hown4))
    go_ret
    refine .inr ⟨by rw [S0.out.1]; decide, rfl, ⟨.slice a4 (k + 1) c4', ⟨?_, ?_⟩⟩, (HB4.out.setCell (p := ⟨h, 1, none⟩) (Nat.le_refl h) _).setCell (p := ⟨h, 0, none⟩) (Nat.le_refl h) _⟩
    · rw [S0.out.1, S0.out.2.1, S0.out.2.2]
      exact (HR4.out.set 1 _).set 0 _
    · rw [List.length_append, HK.out]
      exact ownsRow_setCell_below (ownsRow_setCell_below HO4.out (Nat.lt_succ_self h) _) (Nat.lt_succ_self h) _
  · have S0 := Lib.hid (And.intro s0 (And.intro s1 s2))
    subst q
    clear s0 s1 s2 e224 e237 e240 e244 hb hlt
    go_enter Tryd.func96, Tryd.ntmps96
    go_wp2_with (at_builtin; go_loud (refine wpList_append_u8 rfl (.tmp 66) (.tmp 68) 66 rfl (h + 1) 5 i5 Tryd.underlying66 hi5 hz0 hz1 hz2 (.slice aT k cT) k t rfl (((ownsRow_setCell_below (ownsRow_setCell_below (ownsRow_setCell_below (ownsRow_setCell_below hx0.out (Nat.lt_succ_self h) _) (Nat.lt_succ_self h) _) (Nat.lt_succ_self h) _) (Nat.lt_succ_self h) _)).alloc _) _ 1 1 [b] rfl rfl (cells_one (by rw [HN.out]; exact cell_new (by simp [World.setCell]) _ _)) (by have := HT.out; have := HK.out; omega) (by have := HSZ.out; simp [World.setCell]; omega) ?_; intro v' w4 hown4 hgrow4; obtain ⟨a4, c4', hv4, -⟩ := own_form hown4; subst hv4; have hAt4 := At.grown ((((((HM.out.at0.set 5 _).set 6 _).set 2 _).set 5 _)).alloc _) hgrow4 (by have := HSZ.out; simp [World.setCell]; omega) (fun e => by have := (hx0.out.lt h e).1; omega); have HR4 := Lib.hid hAt4; have HO4 := Lib.hid hown4; have HB4 := Lib.hid ((Tk.alloc ((((((Tk.refl h w).setCell (p := ⟨h, 5, none⟩) (Nat.le_refl h) _).setCell (p := ⟨h, 6, none⟩) (Nat.le_refl h) _).setCell (p := ⟨h, 2, none⟩) (Nat.le_refl h) _).setCell (p := ⟨h, 5, none⟩) (Nat.le_refl h) _)) (by have := HSZ.out; simp [World.setCell]; omega) _).grown hgrow4 (by have := HSZ.out; simp [World.setCell]; omega) (u8_at hx0.out (Nat.lt_succ_self h))); clear c0 c1 c2 c5 c6 f0 f1 f2 f5 f6; have f0 := hAt4.froz 0 (by show 0 < 7; decide); have c40 := hAt4.cell 0 _ rfl; have f1 := hAt4.froz 1 (by show 1 < 7; decide); have c41 := hAt4.cell 1 _ rfl; have f2 := hAt4.froz 2 (by show 2 < 7; decide); have c42 := hAt4.cell 2 _ rfl; clear hAt4 hgrow4 hown4))
    go_ret
    refine .inr ⟨by rw [S0.out.1]; decide, rfl, ⟨.slice a4 (k + 1) c4', ⟨?_, ?_⟩⟩, (HB4.out.setCell (p := ⟨h, 1, none⟩) (Nat.le_refl h) _).setCell (p := ⟨h, 0, none⟩) (Nat.le_refl h) _⟩
    · rw [S0.out.1, S0.out.2.1, S0.out.2.2]
      exact (HR4.out.set 1 _).set 0 _
    · rw [List.length_append, HK.out]
      exact ownsRow_setCell_below (ownsRow_setCell_below HO4.out (Nat.lt_succ_self h) _) (Nat.lt_succ_self h) _
  · have S0 := Lib.hid (And.intro s0 (And.intro s1 s2))
    subst q
    clear s0 s1 s2 e224 e237 e240 e244 hb hlt
    go_enter Tryd.func96, Tryd.ntmps96
    go_wp2_with (at_builtin; go_loud (refine wpList_append_u8 rfl (.tmp 66) (.tmp 68) 66 rfl (h + 1) 5 i5 Tryd.underlying66 hi5 hz0 hz1 hz2 (.slice aT k cT) k t rfl (((ownsRow_setCell_below (ownsRow_setCell_below (ownsRow_setCell_below (ownsRow_setCell_below hx0.out (Nat.lt_succ_self h) _) (Nat.lt_succ_self h) _) (Nat.lt_succ_self h) _) (Nat.lt_succ_self h) _)).alloc _) _ 1 1 [b] rfl rfl (cells_one (by rw [HN.out]; exact cell_new (by simp [World.setCell]) _ _)) (by have := HT.out; have := HK.out; omega) (by have := HSZ.out; simp [World.setCell]; omega) ?_; intro v' w4 hown4 hgrow4; obtain ⟨a4, c4', hv4, -⟩ := own_form hown4; subst hv4; have hAt4 := At.grown ((((((HM.out.at0.set 5 _).set 6 _).set 2 _).set 6 _)).alloc _) hgrow4 (by have := HSZ.out; simp [World.setCell]; omega) (fun e => by have := (hx0.out.lt h e).1; omega); have HR4 := Lib.hid hAt4; have HO4 := Lib.hid hown4; have HB4 := Lib.hid ((Tk.alloc ((((((Tk.refl h w).setCell (p := ⟨h, 5, none⟩) (Nat.le_refl h) _).setCell (p := ⟨h, 6, none⟩) (Nat.le_refl h) _).setCell (p := ⟨h, 2, none⟩) (Nat.le_refl h) _).setCell (p := ⟨h, 6, none⟩) (Nat.le_refl h) _)) (by have := HSZ.out; simp [World.setCell]; omega) _).grown hgrow4 (by have := HSZ.out; simp [World.setCell]; omega) (u8_at hx0.out (Nat.lt_succ_self h))); clear c0 c1 c2 c5 c6 f0 f1 f2 f5 f6; have f0 := hAt4.froz 0 (by show 0 < 7; decide); have c40 := hAt4.cell 0 _ rfl; have f1 := hAt4.froz 1 (by show 1 < 7; decide); have c41 := hAt4.cell 1 _ rfl; have f2 := hAt4.froz 2 (by show 2 < 7; decide); have c42 := hAt4.cell 2 _ rfl; clear hAt4 hgrow4 hown4))
    go_ret
    refine .inr ⟨by rw [S0.out.1]; decide, rfl, ⟨.slice a4 (k + 1) c4', ⟨?_, ?_⟩⟩, (HB4.out.setCell (p := ⟨h, 1, none⟩) (Nat.le_refl h) _).setCell (p := ⟨h, 0, none⟩) (Nat.le_refl h) _⟩
    · rw [S0.out.1, S0.out.2.1, S0.out.2.2]
      exact (HR4.out.set 1 _).set 0 _
    · rw [List.length_append, HK.out]
      exact ownsRow_setCell_below (ownsRow_setCell_below HO4.out (Nat.lt_succ_self h) _) (Nat.lt_succ_self h) _
  · have S0 := Lib.hid (And.intro s0 (And.intro s1 s2))
    have d1 := e224 (by omega)
    have d2 := e237 (by omega)
    have d3 := e240 (by omega)
    have d4 := e244 (by omega)
    have g194 : (194 : Int) ≤ n := by omega
    have g224 : (224 : Int) ≤ n := by omega
    have g240 : ¬ (240 : Int) ≤ n := by omega
    have l223 : ¬ (n : Int) ≤ 223 := by omega
    have l239 : (n : Int) ≤ 239 := by omega
    have l244 : (n : Int) ≤ 244 := by omega
    clear s0 s1 s2 e224 e237 e240 e244 hb hlt
    clear q1 q2 q3
    go_enter Tryd.func96, Tryd.ntmps96
    go_wp2_with (at_builtin; go_loud (refine wpList_append_u8 rfl (.tmp 66) (.tmp 68) 66 rfl (h + 1) 5 i5 Tryd.underlying66 hi5 hz0 hz1 hz2 (.slice aT k cT) k t rfl (((ownsRow_setCell_below (ownsRow_setCell_below (ownsRow_setCell_below hx0.out (Nat.lt_succ_self h) _) (Nat.lt_succ_self h) _) (Nat.lt_succ_self h) _)).alloc _) _ 1 1 [b] rfl rfl (cells_one (by rw [HN.out]; exact cell_new (by simp [World.setCell]) _ _)) (by have := HT.out; have := HK.out; omega) (by have := HSZ.out; simp [World.setCell]; omega) ?_; intro v' w4 hown4 hgrow4; obtain ⟨a4, c4', hv4, -⟩ := own_form hown4; subst hv4; have hAt4 := At.grown (((((HM.out.at0.set 5 _).set 6 _).set 2 _)).alloc _) hgrow4 (by have := HSZ.out; simp [World.setCell]; omega) (fun e => by have := (hx0.out.lt h e).1; omega); have HR4 := Lib.hid hAt4; have HO4 := Lib.hid hown4; have HB4 := Lib.hid ((Tk.alloc (((((Tk.refl h w).setCell (p := ⟨h, 5, none⟩) (Nat.le_refl h) _).setCell (p := ⟨h, 6, none⟩) (Nat.le_refl h) _).setCell (p := ⟨h, 2, none⟩) (Nat.le_refl h) _)) (by have := HSZ.out; simp [World.setCell]; omega) _).grown hgrow4 (by have := HSZ.out; simp [World.setCell]; omega) (u8_at hx0.out (Nat.lt_succ_self h))); clear c0 c1 c2 c5 c6 f0 f1 f2 f5 f6; have f0 := hAt4.froz 0 (by show 0 < 7; decide); have c40 := hAt4.cell 0 _ rfl; have f1 := hAt4.froz 1 (by show 1 < 7; decide); have c41 := hAt4.cell 1 _ rfl; have f2 := hAt4.froz 2 (by show 2 < 7; decide); have c42 := hAt4.cell 2 _ rfl; clear hAt4 hgrow4 hown4))
    go_ret
    refine .inr ⟨by rw [S0.out.1]; decide, rfl, ⟨.slice a4 (k + 1) c4', ⟨?_, ?_⟩⟩, (HB4.out.setCell (p := ⟨h, 1, none⟩) (Nat.le_refl h) _).setCell (p := ⟨h, 0, none⟩) (Nat.le_refl h) _⟩
    · rw [S0.out.1, S0.out.2.1, S0.out.2.2]
      exact (HR4.out.set 1 _).set 0 _
    · rw [List.length_append, HK.out]
      exact ownsRow_setCell_below (ownsRow_setCell_below HO4.out (Nat.lt_succ_self h) _) (Nat.lt_succ_self h) _
  · have S0 := Lib.hid (And.intro s0 (And.intro s1 s2))
    subst q
    clear s0 s1 s2 e224 e237 e240 e244 hb hlt
    go_enter Tryd.func96, Tryd.ntmps96
    go_wp2_with (at_builtin; go_loud (refine wpList_append_u8 rfl (.tmp 66) (.tmp 68) 66 rfl (h + 1) 5 i5 Tryd.underlying66 hi5 hz0 hz1 hz2 (.slice aT k cT) k t rfl (((ownsRow_setCell_below (ownsRow_setCell_below (ownsRow_setCell_below (ownsRow_setCell_below hx0.out (Nat.lt_succ_self h) _) (Nat.lt_succ_self h) _) (Nat.lt_succ_self h) _) (Nat.lt_succ_self h) _)).alloc _) _ 1 1 [b] rfl rfl (cells_one (by rw [HN.out]; exact cell_new (by simp [World.setCell]) _ _)) (by have := HT.out; have := HK.out; omega) (by have := HSZ.out; simp [World.setCell]; omega) ?_; intro v' w4 hown4 hgrow4; obtain ⟨a4, c4', hv4, -⟩ := own_form hown4; subst hv4; have hAt4 := At.grown ((((((HM.out.at0.set 5 _).set 6 _).set 2 _).set 5 _)).alloc _) hgrow4 (by have := HSZ.out; simp [World.setCell]; omega) (fun e => by have := (hx0.out.lt h e).1; omega); have HR4 := Lib.hid hAt4; have HO4 := Lib.hid hown4; have HB4 := Lib.hid ((Tk.alloc ((((((Tk.refl h w).setCell (p := ⟨h, 5, none⟩) (Nat.le_refl h) _).setCell (p := ⟨h, 6, none⟩) (Nat.le_refl h) _).setCell (p := ⟨h, 2, none⟩) (Nat.le_refl h) _).setCell (p := ⟨h, 5, none⟩) (Nat.le_refl h) _)) (by have := HSZ.out; simp [World.setCell]; omega) _).grown hgrow4 (by have := HSZ.out; simp [World.setCell]; omega) (u8_at hx0.out (Nat.lt_succ_self h))); clear c0 c1 c2 c5 c6 f0 f1 f2 f5 f6; have f0 := hAt4.froz 0 (by show 0 < 7; decide); have c40 := hAt4.cell 0 _ rfl; have f1 := hAt4.froz 1 (by show 1 < 7; decide); have c41 := hAt4.cell 1 _ rfl; have f2 := hAt4.froz 2 (by show 2 < 7; decide); have c42 := hAt4.cell 2 _ rfl; clear hAt4 hgrow4 hown4))
    go_ret
    refine .inr ⟨by rw [S0.out.1]; decide, rfl, ⟨.slice a4 (k + 1) c4', ⟨?_, ?_⟩⟩, (HB4.out.setCell (p := ⟨h, 1, none⟩) (Nat.le_refl h) _).setCell (p := ⟨h, 0, none⟩) (Nat.le_refl h) _⟩
    · rw [S0.out.1, S0.out.2.1, S0.out.2.2]
      exact (HR4.out.set 1 _).set 0 _
    · rw [List.length_append, HK.out]
      exact ownsRow_setCell_below (ownsRow_setCell_below HO4.out (Nat.lt_succ_self h) _) (Nat.lt_succ_self h) _
  · have S0 := Lib.hid (And.intro s0 (And.intro s1 s2))
    subst q
    clear s0 s1 s2 e224 e237 e240 e244 hb hlt
    go_enter Tryd.func96, Tryd.ntmps96
    go_wp2_with (at_builtin; go_loud (refine wpList_append_u8 rfl (.tmp 66) (.tmp 68) 66 rfl (h + 1) 5 i5 Tryd.underlying66 hi5 hz0 hz1 hz2 (.slice aT k cT) k t rfl (((ownsRow_setCell_below (ownsRow_setCell_below (ownsRow_setCell_below (ownsRow_setCell_below hx0.out (Nat.lt_succ_self h) _) (Nat.lt_succ_self h) _) (Nat.lt_succ_self h) _) (Nat.lt_succ_self h) _)).alloc _) _ 1 1 [b] rfl rfl (cells_one (by rw [HN.out]; exact cell_new (by simp [World.setCell]) _ _)) (by have := HT.out; have := HK.out; omega) (by have := HSZ.out; simp [World.setCell]; omega) ?_; intro v' w4 hown4 hgrow4; obtain ⟨a4, c4', hv4, -⟩ := own_form hown4; subst hv4; have hAt4 := At.grown ((((((HM.out.at0.set 5 _).set 6 _).set 2 _).set 6 _)).alloc _) hgrow4 (by have := HSZ.out; simp [World.setCell]; omega) (fun e => by have := (hx0.out.lt h e).1; omega); have HR4 := Lib.hid hAt4; have HO4 := Lib.hid hown4; have HB4 := Lib.hid ((Tk.alloc ((((((Tk.refl h w).setCell (p := ⟨h, 5, none⟩) (Nat.le_refl h) _).setCell (p := ⟨h, 6, none⟩) (Nat.le_refl h) _).setCell (p := ⟨h, 2, none⟩) (Nat.le_refl h) _).setCell (p := ⟨h, 6, none⟩) (Nat.le_refl h) _)) (by have := HSZ.out; simp [World.setCell]; omega) _).grown hgrow4 (by have := HSZ.out; simp [World.setCell]; omega) (u8_at hx0.out (Nat.lt_succ_self h))); clear c0 c1 c2 c5 c6 f0 f1 f2 f5 f6; have f0 := hAt4.froz 0 (by show 0 < 7; decide); have c40 := hAt4.cell 0 _ rfl; have f1 := hAt4.froz 1 (by show 1 < 7; decide); have c41 := hAt4.cell 1 _ rfl; have f2 := hAt4.froz 2 (by show 2 < 7; decide); have c42 := hAt4.cell 2 _ rfl; clear hAt4 hgrow4 hown4))
    go_ret
    refine .inr ⟨by rw [S0.out.1]; decide, rfl, ⟨.slice a4 (k + 1) c4', ⟨?_, ?_⟩⟩, (HB4.out.setCell (p := ⟨h, 1, none⟩) (Nat.le_refl h) _).setCell (p := ⟨h, 0, none⟩) (Nat.le_refl h) _⟩
    · rw [S0.out.1, S0.out.2.1, S0.out.2.2]
      exact (HR4.out.set 1 _).set 0 _
    · rw [List.length_append, HK.out]
      exact ownsRow_setCell_below (ownsRow_setCell_below HO4.out (Nat.lt_succ_self h) _) (Nat.lt_succ_self h) _
  · have S0 := Lib.hid (And.intro s0 (And.intro s1 s2))
    have d1 := e224 (by omega)
    have d2 := e237 (by omega)
    have d3 := e240 (by omega)
    have d4 := e244 (by omega)
    have g194 : (194 : Int) ≤ n := by omega
    have g224 : (224 : Int) ≤ n := by omega
    have g240 : (240 : Int) ≤ n := by omega
    have l223 : ¬ (n : Int) ≤ 223 := by omega
    have l239 : ¬ (n : Int) ≤ 239 := by omega
    have l244 : (n : Int) ≤ 244 := by omega
    clear s0 s1 s2 e224 e237 e240 e244 hb hlt
    clear q1 q2
    go_enter Tryd.func96, Tryd.ntmps96
    go_wp2_with (at_builtin; go_loud (refine wpList_append_u8 rfl (.tmp 66) (.tmp 68) 66 rfl (h + 1) 5 i5 Tryd.underlying66 hi5 hz0 hz1 hz2 (.slice aT k cT) k t rfl (((ownsRow_setCell_below (ownsRow_setCell_below (ownsRow_setCell_below hx0.out (Nat.lt_succ_self h) _) (Nat.lt_succ_self h) _) (Nat.lt_succ_self h) _)).alloc _) _ 1 1 [b] rfl rfl (cells_one (by rw [HN.out]; exact cell_new (by simp [World.setCell]) _ _)) (by have := HT.out; have := HK.out; omega) (by have := HSZ.out; simp [World.setCell]; omega) ?_; intro v' w4 hown4 hgrow4; obtain ⟨a4, c4', hv4, -⟩ := own_form hown4; subst hv4; have hAt4 := At.grown (((((HM.out.at0.set 5 _).set 6 _).set 2 _)).alloc _) hgrow4 (by have := HSZ.out; simp [World.setCell]; omega) (fun e => by have := (hx0.out.lt h e).1; omega); have HR4 := Lib.hid hAt4; have HO4 := Lib.hid hown4; have HB4 := Lib.hid ((Tk.alloc (((((Tk.refl h w).setCell (p := ⟨h, 5, none⟩) (Nat.le_refl h) _).setCell (p := ⟨h, 6, none⟩) (Nat.le_refl h) _).setCell (p := ⟨h, 2, none⟩) (Nat.le_refl h) _)) (by have := HSZ.out; simp [World.setCell]; omega) _).grown hgrow4 (by have := HSZ.out; simp [World.setCell]; omega) (u8_at hx0.out (Nat.lt_succ_self h))); clear c0 c1 c2 c5 c6 f0 f1 f2 f5 f6; have f0 := hAt4.froz 0 (by show 0 < 7; decide); have c40 := hAt4.cell 0 _ rfl; have f1 := hAt4.froz 1 (by show 1 < 7; decide); have c41 := hAt4.cell 1 _ rfl; have f2 := hAt4.froz 2 (by show 2 < 7; decide); have c42 := hAt4.cell 2 _ rfl; clear hAt4 hgrow4 hown4))
    go_ret
    refine .inr ⟨by rw [S0.out.1]; decide, rfl, ⟨.slice a4 (k + 1) c4', ⟨?_, ?_⟩⟩, (HB4.out.setCell (p := ⟨h, 1, none⟩) (Nat.le_refl h) _).setCell (p := ⟨h, 0, none⟩) (Nat.le_refl h) _⟩
    · rw [S0.out.1, S0.out.2.1, S0.out.2.2]
      exact (HR4.out.set 1 _).set 0 _
    · rw [List.length_append, HK.out]
      exact ownsRow_setCell_below (ownsRow_setCell_below HO4.out (Nat.lt_succ_self h) _) (Nat.lt_succ_self h) _
end Js
end Go.Proofs.YtpaikjlcachabaaDoor
