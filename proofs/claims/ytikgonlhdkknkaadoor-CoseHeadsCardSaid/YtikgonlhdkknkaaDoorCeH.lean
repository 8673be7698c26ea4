/- cose.message's methods cipher and name. -/
import Derived.Test.YtikgonlhdkknkaaDoorCuA
import Derived.Test.YtikgonlhdkknkaaDoorCuB
namespace Go.Proofs.YtikgonlhdkknkaaDoor
open Go.RowKit
set_option linter.unusedVariables false
set_option linter.unusedSimpArgs false
namespace Ce
open Co (Am Ra up rcells rv)
theorem eqN (w : World) : (binOp BinOp.eql 46 (.slice none 0 0) (.slice none 0 0)).run Tryd.prog w = .ok (.bool true) w := by kernel_rfl
theorem eqS (g o n c : Nat) (w : World) : (binOp BinOp.eql 46 (.slice (some ⟨g, o, none⟩) n c) (.slice none 0 0)).run Tryd.prog w = .ok (.bool false) w := by kernel_rfl
theorem neN (w : World) : (binOp BinOp.neq 46 (.slice none 0 0) (.slice none 0 0)).run Tryd.prog w = .ok (.bool false) w := by kernel_rfl
theorem neS (g o n c : Nat) (w : World) : (binOp BinOp.neq 46 (.slice (some ⟨g, o, none⟩) n c) (.slice none 0 0)).run Tryd.prog w = .ok (.bool true) w := by kernel_rfl
/-- the sixteen cells of a message -/
def mcells (F A : Int) (vT : Value) (h lo aa iv ci tg : ByteArray) (d i b r : Int) (vp vl vs : Value) : List Value :=
  [.int .i64 F, .int .i64 A, vT, .string h, .string lo, .string aa, .string iv, .string ci, .string tg, .int .i64 d, .int .i64 i, .int .i64 b, .int .i64 r, vp, vl, vs]
section
variable (g : Nat) (w : World) (F A : Int) (vT : Value) (h lo aa iv ci tg : ByteArray) (d i b r : Int) (vp vl vs : Value)
abbrev Mm := At w g 0 (mcells F A vT h lo aa iv ci tg d i b r vp vl vs)
end
set_option maxRecDepth 100000 in
set_option maxHeartbeats 1600000 in
theorem ccipher_any (g : Nat) (w : World) (F A : Int) (vT : Value) (h lo aa iv ci tg : ByteArray) (d i b r : Int) (vp vl vs : Value) (ps : List (Am × Am))
    (hM : Mm g w F A vT h lo aa iv ci tg d i b r vp vl vs) (hg : g < w.heap.size) (hp : Px g w vs ps) (hl : ps.length ≤ 100000) (hF : F = 5 ∨ F = 6) :
    Calls Tryd.prog 25 #[.pointer (some ⟨g, 0, none⟩)] w (fun e w' => e = .returned (.int .i64 (algP F ps).1) ∧ Bg g w w' ∧ ∃ A', Mm g w' F A' vT h lo aa iv ci tg d i b r vp vl vs ∧ ((algP F ps).1 = 0 → A' = (algP F ps).2)) := by
  have HM := Lib.hid hM
  have HG := Lib.hid hg
  have HFF := Lib.hid hF
  obtain ⟨E, hE⟩ : ∃ E, algP F ps = E := ⟨_, rfl⟩
  rw [hE]
  have HE := Lib.hid hE
  have FD := Lib.hid (cfind_any g g 1 vs ps w (by have := hM.cell 15 _ rfl; rwa [Nat.zero_add] at this) hp hl)
  have FO := Lib.hid (fun n w => formatOf_any n w)
  clear hp hl hE hM hg hF
  have qN := eqN
  have qS := eqS
  go_enter Tryd.func25, Tryd.ntmps25
  go_wp2_with fail
  refine FD.out.mono ?_
  rintro e w1 ⟨hn, hs, hb1⟩
  have HM1 := Lib.hid (HM.out.below hb1 HG.out)
  have HB1 : Hid (Bg g w w1) := Bg.of hb1
  have HG1 : Hid (g < w1.heap.size) := Nat.lt_of_lt_of_le HG.out hb1.size
  have HE2 := HE.out
  rw [algP] at HE2
  cases hf : find 1 ps with
  | none =>
    rw [hf] at HE2
    simp only at HE2
    rw [hn hf]
    clear hn hs hb1 hf
    go_wp2_with fail
    go_ret
    exact ⟨by rw [← HE2]; rfl, HB1.out, A, HM1.out, fun h => by rw [← HE2] at h; cases h⟩
  | some v =>
    rw [hf] at HE2
    simp only at HE2
    obtain ⟨v1, P, rfl, hW, hP, hv⟩ := hs v hf
    obtain ⟨gp, op, cp, rfl, hl1, hc1, hA1, hg1, hne1⟩ := hW
    have hx := At.headA hA1 0 (List.length_pos_iff.2 hP)
    rw [show P.getD 0 ⟨0, 0, []⟩ = v from by rw [← hv]; cases P <;> rfl] at hx
    obtain ⟨pl, hpl⟩ : ∃ n, P.length = n := ⟨_, rfl⟩
    have hpl0 : 0 < pl := by rw [← hpl]; exact List.length_pos_iff.2 hP
    rw [hpl] at hl1 ⊢
    have HN0 := Lib.hid (And.intro hx (And.intro hg1 hne1))
    have n0 := hx.cell 0 _ rfl
    have n1 := hx.cell 1 _ rfl
    rw [Nat.zero_mul, Nat.add_zero] at n0 n1
    try rw [Nat.add_zero] at n0
    obtain ⟨kd, hkd⟩ : ∃ t, v.kind = t := ⟨_, rfl⟩
    obtain ⟨nm, hnm⟩ : ∃ t, v.num = t := ⟨_, rfl⟩
    rw [hkd] at n0 HE2
    rw [hnm] at n1 HE2
    clear hn hs hb1 hf hx hA1 hg1 hne1 hv hP hpl hkd hnm hc1 hl1
    by_cases hk : kd = 0
    case neg =>
      rw [if_pos (.inl hk)] at HE2
      have f0 : ¬ (kd : Int) = 0 := by omega
      have f0b : ((kd : Int) != 0) = true := by simp; omega
      clear hk
      go_wp2_with fail
      go_ret
      exact ⟨by rw [← HE2]; rfl, HB1.out, A, HM1.out, fun h => by rw [← HE2] at h; cases h⟩
    case pos =>
    subst hk
    by_cases hn2 : 255 < nm
    · rw [if_pos (.inr hn2)] at HE2
      have f1 : (255 : Int) < (nm : Int) := by omega
      clear hn2
      go_wp2_with fail
      go_ret
      exact ⟨by rw [← HE2]; rfl, HB1.out, A, HM1.out, fun h => by rw [← HE2] at h; cases h⟩
    · rw [if_neg (by omega)] at HE2
      have f1 : ¬ (255 : Int) < (nm : Int) := by omega
      have e1 : IntKind.i64.wrap (nm : Int) = (nm : Int) := Co.wrap_fit nm (by unfold maxLen; omega)
      have m0 := HM1.out.cell 0 _ rfl
      have m1 := HM1.out.cell 1 _ rfl
      have z1 := HM1.out.froz 1 (by simp [mcells])
      rw [Nat.zero_add] at m0 m1 z1
      have HM2 := Lib.hid (HM1.out.set 1 (.int .i64 (nm : Int)))
      have HB2 := Lib.hid (HB1.out.set 1 (.int .i64 (nm : Int)))
      have p0 := HM2.out.cell 0 _ rfl
      have p1 := HM2.out.cell 1 _ rfl
      have y1 := HM2.out.froz 1 (by simp [mcells])
      rw [Nat.zero_add] at p0 p1 y1
      have HS2 : Hid (g < (w1.setCell ⟨g, 1, none⟩ (.int .i64 (nm : Int))).heap.size) := by show _ < _; rw [World.size_setCell]; exact HG1.out
      rcases HFF.out with rfl | rfl
      · have h5 : ((nm : Int) + if (5 : Int) = 6 then 100 else 0) = (nm : Int) := by simp
        rw [h5] at HE2
        clear hn2 h5
        obtain ⟨fx, hfx⟩ : ∃ f, fmtOf ((nm : Int)) = f := ⟨_, rfl⟩
        have FO2 := Lib.hid (fun w => FO.out ((nm : Int)) w)
        rw [hfx] at HE2 FO2
        clear hfx
        go_upto_region 9 with fail
        obtain ⟨w2, hw2⟩ : ∃ x, w1.setCell ⟨g, 1, none⟩ (.int .i64 (nm : Int)) = x := ⟨_, rfl⟩
        rw [hw2] at HM2 HB2 HS2 ⊢
        clear hw2 m0 m1 z1 p0 p1 y1
        have p0 := HM2.out.cell 0 _ rfl
        have p1 := HM2.out.cell 1 _ rfl
        rw [Nat.zero_add] at p0 p1
        have HC2 := Lib.hid (And.intro p0 p1)
        by_cases hfF : fx = 5
        · subst hfF
          rw [if_neg (by simp)] at HE2
          have HE3 := Lib.hid HE2
          clear HE2
          go_region_held3 (fun w' => w'.cell? ⟨g, 0, none⟩ = some (.int .i64 5) ∧ w'.cell? ⟨g, 1, none⟩ = some (.int .i64 ((nm : Int)))) (first | exact HC3.out | exact HC2.out) (first | (go_at_call 28; refine (FO2.out _).mono ?_; rintro e w3 ⟨rfl, hb3⟩; have HM3 := Lib.hid ((HM2.out.drewN 1).below hb3 HS2.out); have HB3 := Lib.hid ((HB2.out.drew).trans (Bg.of (g := g) hb3)); have HC3 : Hid (w3.cell? ⟨g, 0, none⟩ = some (.int .i64 5) ∧ w3.cell? ⟨g, 1, none⟩ = some (.int .i64 ((nm : Int)))) := (by have h9 := HM3.out.cell 0 _ rfl; have h8 := HM3.out.cell 1 _ rfl; rw [Nat.zero_add] at h9 h8; exact ⟨h9, h8⟩); clear hb3))
          all_goals
            go_wp2_with fail
            go_ret
            exact ⟨by rw [← HE3.out]; rfl, HB3.out, _, HM3.out, fun _ => by rw [← HE3.out]⟩
        · rw [if_pos hfF] at HE2
          have HE3 := Lib.hid HE2
          have f9 : (fx != 5) = true := by simpa using hfF
          clear HE2
          go_region_held3 (fun w' => w'.cell? ⟨g, 0, none⟩ = some (.int .i64 5) ∧ w'.cell? ⟨g, 1, none⟩ = some (.int .i64 ((nm : Int)))) (first | exact HC3.out | exact HC2.out) (first | (go_at_call 28; refine (FO2.out _).mono ?_; rintro e w3 ⟨rfl, hb3⟩; have HM3 := Lib.hid ((HM2.out.drewN 1).below hb3 HS2.out); have HB3 := Lib.hid ((HB2.out.drew).trans (Bg.of (g := g) hb3)); have HC3 : Hid (w3.cell? ⟨g, 0, none⟩ = some (.int .i64 5) ∧ w3.cell? ⟨g, 1, none⟩ = some (.int .i64 ((nm : Int)))) := (by have h9 := HM3.out.cell 0 _ rfl; have h8 := HM3.out.cell 1 _ rfl; rw [Nat.zero_add] at h9 h8; exact ⟨h9, h8⟩); clear hb3))
          all_goals
            go_wp2_with fail
            go_ret
            exact ⟨by rw [← HE3.out]; rfl, HB3.out, _, HM3.out, fun h => by rw [← HE3.out] at h; cases h⟩
      · have h5 : ((nm : Int) + if (6 : Int) = 6 then 100 else 0) = (nm : Int) + 100 := by simp
        rw [h5] at HE2
        have e2 : IntKind.i64.wrap ((nm : Int) + 100) = (nm : Int) + 100 := by have := Co.wrap_fit (nm + 100) (by unfold maxLen; omega); push_cast at this; exact this
        replace HM2 := Lib.hid (HM2.out.set 1 (.int .i64 ((nm : Int) + 100)))
        replace HB2 := Lib.hid (HB2.out.set 1 (.int .i64 ((nm : Int) + 100)))
        replace HS2 : Hid (g < ((w1.setCell ⟨g, 1, none⟩ (.int .i64 (nm : Int))).setCell ⟨g, 1, none⟩ (.int .i64 ((nm : Int) + 100))).heap.size) := by show _ < _; rw [World.size_setCell]; exact HS2.out
        clear hn2 h5
        obtain ⟨fx, hfx⟩ : ∃ f, fmtOf ((nm : Int) + 100) = f := ⟨_, rfl⟩
        have FO2 := Lib.hid (fun w => FO.out ((nm : Int) + 100) w)
        rw [hfx] at HE2 FO2
        clear hfx
        go_upto_region 9 with fail
        obtain ⟨w2, hw2⟩ : ∃ x, (w1.setCell ⟨g, 1, none⟩ (.int .i64 (nm : Int))).setCell ⟨g, 1, none⟩ (.int .i64 ((nm : Int) + 100)) = x := ⟨_, rfl⟩
        rw [hw2] at HM2 HB2 HS2 ⊢
        clear hw2 m0 m1 z1 p0 p1 y1
        have p0 := HM2.out.cell 0 _ rfl
        have p1 := HM2.out.cell 1 _ rfl
        rw [Nat.zero_add] at p0 p1
        have HC2 := Lib.hid (And.intro p0 p1)
        by_cases hfF : fx = 6
        · subst hfF
          rw [if_neg (by simp)] at HE2
          have HE3 := Lib.hid HE2
          clear HE2
          go_region_held3 (fun w' => w'.cell? ⟨g, 0, none⟩ = some (.int .i64 6) ∧ w'.cell? ⟨g, 1, none⟩ = some (.int .i64 ((nm : Int) + 100))) (first | exact HC3.out | exact HC2.out) (first | (go_at_call 28; refine (FO2.out _).mono ?_; rintro e w3 ⟨rfl, hb3⟩; have HM3 := Lib.hid ((HM2.out.drewN 1).below hb3 HS2.out); have HB3 := Lib.hid ((HB2.out.drew).trans (Bg.of (g := g) hb3)); have HC3 : Hid (w3.cell? ⟨g, 0, none⟩ = some (.int .i64 6) ∧ w3.cell? ⟨g, 1, none⟩ = some (.int .i64 ((nm : Int) + 100))) := (by have h9 := HM3.out.cell 0 _ rfl; have h8 := HM3.out.cell 1 _ rfl; rw [Nat.zero_add] at h9 h8; exact ⟨h9, h8⟩); clear hb3))
          all_goals
            go_wp2_with fail
            go_ret
            exact ⟨by rw [← HE3.out]; rfl, HB3.out, _, HM3.out, fun _ => by rw [← HE3.out]⟩
        · rw [if_pos hfF] at HE2
          have HE3 := Lib.hid HE2
          have f9 : (fx != 6) = true := by simpa using hfF
          clear HE2
          go_region_held3 (fun w' => w'.cell? ⟨g, 0, none⟩ = some (.int .i64 6) ∧ w'.cell? ⟨g, 1, none⟩ = some (.int .i64 ((nm : Int) + 100))) (first | exact HC3.out | exact HC2.out) (first | (go_at_call 28; refine (FO2.out _).mono ?_; rintro e w3 ⟨rfl, hb3⟩; have HM3 := Lib.hid ((HM2.out.drewN 1).below hb3 HS2.out); have HB3 := Lib.hid ((HB2.out.drew).trans (Bg.of (g := g) hb3)); have HC3 : Hid (w3.cell? ⟨g, 0, none⟩ = some (.int .i64 6) ∧ w3.cell? ⟨g, 1, none⟩ = some (.int .i64 ((nm : Int) + 100))) := (by have h9 := HM3.out.cell 0 _ rfl; have h8 := HM3.out.cell 1 _ rfl; rw [Nat.zero_add] at h9 h8; exact ⟨h9, h8⟩); clear hb3))
          all_goals
            go_wp2_with fail
            go_ret
            exact ⟨by rw [← HE3.out]; rfl, HB3.out, _, HM3.out, fun h => by rw [← HE3.out] at h; cases h⟩
end Ce
end Go.Proofs.YtikgonlhdkknkaaDoor
