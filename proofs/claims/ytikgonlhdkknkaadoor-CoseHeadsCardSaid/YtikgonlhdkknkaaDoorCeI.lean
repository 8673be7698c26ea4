/- cose.message's method name. -/
import Derived.Test.YtikgonlhdkknkaaDoorCeT
import Derived.Test.YtikgonlhdkknkaaDoorCeH
namespace Go.Proofs.YtikgonlhdkknkaaDoor
open Go.RowKit
set_option linter.unusedVariables false
set_option linter.unusedSimpArgs false
namespace Ce
open Co (Am Ra up rcells rv)
set_option maxRecDepth 100000 in
set_option maxHeartbeats 1600000 in
theorem cname_any (g : Nat) (w : World) (F A : Int) (vT : Value) (h lo aa iv ci tg : ByteArray) (d i b r : Int) (vp vl vs : Value) (ps : List (Am × Am))
    (hM : Mm g w F A vT h lo aa iv ci tg d i b r vp vl vs) (hg : g < w.heap.size) (hp : Px g w vs ps) (hl : ps.length ≤ 100000) :
    Calls Tryd.prog 26 #[.pointer (some ⟨g, 0, none⟩)] w (fun e w' => e = .returned (.int .i64 (nameP ps).1) ∧ Bg g w w' ∧ ((nameP ps).1 = 0 → ∃ gx, w.heap.size ≤ gx ∧ Mm g w' F A (.slice (some ⟨gx, 0, none⟩) 1 1) h lo aa iv ci tg d i b r vp vl vs ∧ Tx g w' (.slice (some ⟨gx, 0, none⟩) 1 1) [⟨1, 0, 0, (nameP ps).2, [], [], 0, [], []⟩])) := by
  have HM := Lib.hid hM
  have HG := Lib.hid hg
  obtain ⟨E, hE⟩ : ∃ E, nameP ps = E := ⟨_, rfl⟩
  rw [hE]
  have HE := Lib.hid hE
  obtain ⟨B, hB⟩ : ∃ B, w.heap.size = B := ⟨_, rfl⟩
  have HBB := Lib.hid hB
  have FD := Lib.hid (fun (w' : World) h1 h2 => cfind_any g B 4 vs ps w' h1 h2 hl)
  have HP := Lib.hid hp
  have hA0 := At.ofAlloc w #[.int .i64 1, .int .i64 0, .int .i64 0, .string ⟨#[]⟩, .string ⟨#[]⟩, .string ⟨#[]⟩, .int .i64 0, .string ⟨#[]⟩, .string ⟨#[]⟩] 63
  have hB0 : Bg g w (w.alloc (Obj.cells #[.int .i64 1, .int .i64 0, .int .i64 0, .string ⟨#[]⟩, .string ⟨#[]⟩, .string ⟨#[]⟩, .int .i64 0, .string ⟨#[]⟩, .string ⟨#[]⟩] 63)) := (Bg.refl _ _).alloc _
  have hBL : Below w.heap.size w (w.alloc (Obj.cells #[.int .i64 1, .int .i64 0, .int .i64 0, .string ⟨#[]⟩, .string ⟨#[]⟩, .string ⟨#[]⟩, .int .i64 0, .string ⟨#[]⟩, .string ⟨#[]⟩] 63)) := (Below.refl _ _).alloc (Nat.le_refl _) _
  have hM0 := hM.alloc (Obj.cells #[.int .i64 1, .int .i64 0, .int .i64 0, .string ⟨#[]⟩, .string ⟨#[]⟩, .string ⟨#[]⟩, .int .i64 0, .string ⟨#[]⟩, .string ⟨#[]⟩] 63)
  have qN := neN
  have qS := neS
  clear hp hl hE hM hg
  go_enter Tryd.func26, Tryd.ntmps26
  go_wp2_with fail
  rw [hB] at hA0
  try rw [hB]
  clear hB
  obtain ⟨w0, hw0⟩ : ∃ x, w.alloc (Obj.cells #[.int .i64 1, .int .i64 0, .int .i64 0, .string ⟨#[]⟩, .string ⟨#[]⟩, .string ⟨#[]⟩, .int .i64 0, .string ⟨#[]⟩, .string ⟨#[]⟩] 63) = x := ⟨_, rfl⟩
  have HS0 : Hid (w0.heap.size = B + 1) := by show _ = _; rw [← hw0, ← HBB.out]; simp
  rw [hw0] at hA0 hB0 hBL hM0
  rw [hw0]
  have HA0 := Lib.hid hA0
  have HB0 := Lib.hid hB0
  have HBL := Lib.hid hBL
  clear hBL
  clear hw0 hA0 hB0
  have HGB : Hid (g < B) := by show g < B; rw [← HBB.out]; exact HG.out
  have HM0 : Hid (Mm g w0 F A vT h lo aa iv ci tg d i b r vp vl vs) := hM0
  clear hM0
  have HP0 : Hid (Px B w0 vs ps) := (HP.out.far (by rw [HBB.out]; exact Nat.le_refl _)).bg (Bg.of HBL.out)
  refine (FD.out _ (by have := HM0.out.cell 15 _ rfl; rwa [Nat.zero_add] at this) HP0.out).mono ?_
  rintro e w1 ⟨hn, hs, hb1⟩
  have HM1 := Lib.hid (HM0.out.below hb1 (by rw [HS0.out]; have := HGB.out; omega))
  have HA1 := Lib.hid (HA0.out.below hb1 (by rw [HS0.out]; omega))
  have HB1 : Hid (Bg g w w1) := HB0.out.trans (Bg.of hb1)
  have HS1 : Hid (B + 1 ≤ w1.heap.size) := by show _ ≤ _; rw [← HS0.out]; exact hb1.size
  have HE2 := HE.out
  rw [nameP] at HE2
  have FIN : ∀ (wa : World) (nm : ByteArray), Mm g wa F A vT h lo aa iv ci tg d i b r vp vl vs → B + 1 ≤ wa.heap.size →
      Mm g ((wa.alloc (Obj.cells #[.int .i64 1, .int .i64 0, .int .i64 0, .string nm, .string ⟨#[]⟩, .string ⟨#[]⟩, .int .i64 0, .string ⟨#[]⟩, .string ⟨#[]⟩] 63)).setCell ⟨g, 2, none⟩ (.slice (some ⟨wa.heap.size, 0, none⟩) 1 1)) F A (.slice (some ⟨wa.heap.size, 0, none⟩) 1 1) h lo aa iv ci tg d i b r vp vl vs ∧
      Tx g ((wa.alloc (Obj.cells #[.int .i64 1, .int .i64 0, .int .i64 0, .string nm, .string ⟨#[]⟩, .string ⟨#[]⟩, .int .i64 0, .string ⟨#[]⟩, .string ⟨#[]⟩] 63)).setCell ⟨g, 2, none⟩ (.slice (some ⟨wa.heap.size, 0, none⟩) 1 1)) (.slice (some ⟨wa.heap.size, 0, none⟩) 1 1) [⟨1, 0, 0, nm.toList, [], [], 0, [], []⟩] := fun wa nm hM hs => by
    have hgB := HGB.out
    refine ⟨(hM.alloc _).set 2 _, ⟨_, 1, rfl, fun _ => ⟨wa.heap.size, 0, rfl, ?_, by rw [World.size_setCell, World.size_alloc]; omega, by omega⟩⟩⟩
    rw [show rpcells [(⟨1, 0, 0, nm.toList, [], [], 0, [], []⟩ : Rp)] = [.int .i64 1, .int .i64 0, .int .i64 0, .string nm, .string ⟨#[]⟩, .string ⟨#[]⟩, .int .i64 0, .string ⟨#[]⟩, .string ⟨#[]⟩] from by
      show [_, _, _, _, _, _, _, _, _] = _
      rw [bs_of]; rfl]
    exact (At.ofAlloc wa #[.int .i64 1, .int .i64 0, .int .i64 0, .string nm, .string ⟨#[]⟩, .string ⟨#[]⟩, .int .i64 0, .string ⟨#[]⟩, .string ⟨#[]⟩] 63).other g 2 _ (Or.inl (by omega))
  have FINH := Lib.hid FIN
  clear FIN
  cases hf : find 4 ps with
  | none =>
    rw [hf] at HE2
    simp only at HE2
    rw [hn hf]
    clear hn hs hb1 hf
    have c0 := HA1.out.cell 0 _ rfl
    have c1 := HA1.out.cell 1 _ rfl
    have c2 := HA1.out.cell 2 _ rfl
    have c3 := HA1.out.cell 3 _ rfl
    have c4 := HA1.out.cell 4 _ rfl
    have c5 := HA1.out.cell 5 _ rfl
    have c6 := HA1.out.cell 6 _ rfl
    have c7 := HA1.out.cell 7 _ rfl
    have c8 := HA1.out.cell 8 _ rfl
    rw [Nat.zero_add] at c0 c1 c2 c3 c4 c5 c6 c7 c8
    have z2 := fun ob => (HM1.out.alloc ob).froz 2 (by simp [mcells])
    have d2 := fun ob => (HM1.out.alloc ob).cell 2 _ rfl
    rw [Nat.zero_add] at z2 d2
    have HR := Lib.hid (FINH.out w1 ⟨#[]⟩ HM1.out HS1.out)
    have HBR := Lib.hid ((HB1.out.alloc (Obj.cells #[.int .i64 1, .int .i64 0, .int .i64 0, .string ⟨#[]⟩, .string ⟨#[]⟩, .string ⟨#[]⟩, .int .i64 0, .string ⟨#[]⟩, .string ⟨#[]⟩] 63)).set 2 (.slice (some ⟨w1.heap.size, 0, none⟩) 1 1))
    go_wp2_with fail
    go_ret
    exact ⟨by rw [← HE2]; rfl, HBR.out, fun _ => ⟨_, (by rw [HBB.out]; have := HS1.out; omega), HR.out.1, by rw [← HE2]; have h9 := HR.out.2; rw [show (⟨#[]⟩ : ByteArray).toList = [] from tl_mk []] at h9; exact h9⟩⟩
  | some v =>
    rw [hf] at HE2
    simp only at HE2
    obtain ⟨v1, P, rfl, hW, hP, hv⟩ := hs v hf
    obtain ⟨gp, op, cp, rfl, hl1, hc1, hA1, hg1, hne1⟩ := hW
    have hx := At.headA hA1 0 (List.length_pos_iff.2 hP)
    rw [show P.getD 0 ⟨0, 0, []⟩ = v from by rw [← hv]; cases P <;> rfl] at hx
    obtain ⟨pl, hpl⟩ : ∃ n, P.length = n := ⟨_, rfl⟩
    have hpl0 : 0 < pl := by rw [← hpl]; exact List.length_pos_iff.2 hP
    rw [hpl] at hl1 ⊢
    obtain ⟨kd, hkd⟩ : ∃ t, v.kind = t := ⟨_, rfl⟩
    obtain ⟨tx, htx⟩ : ∃ b : ByteArray, (⟨v.text.toArray⟩ : ByteArray) = b := ⟨_, rfl⟩
    have htl : v.text = tx.toList := by rw [← htx, tl_mk]
    have hts : v.text.length = tx.size := by rw [htl, tl_size]
    rw [hkd, htx] at hx
    rw [hkd, hts] at HE2
    have hXB := Lib.hid (And.intro hx (And.intro hg1 hne1))
    have n0 := hx.cell 0 _ rfl
    have n2 := hx.cell 2 _ rfl
    rw [Nat.zero_mul, Nat.add_zero] at n0 n2
    try rw [Nat.add_zero] at n0
    have a3 := HA1.out.cell 3 _ rfl
    have y3 := HA1.out.froz 3 (by simp)
    rw [Nat.zero_add] at a3 y3
    have HA2 : Hid (At (w1.setCell ⟨B, 3, none⟩ (.string tx)) B 0 [.int .i64 1, .int .i64 0, .int .i64 0, .string tx, .string ⟨#[]⟩, .string ⟨#[]⟩, .int .i64 0, .string ⟨#[]⟩, .string ⟨#[]⟩]) := HA1.out.set 3 (.string tx)
    have HM2 : Hid (Mm g (w1.setCell ⟨B, 3, none⟩ (.string tx)) F A vT h lo aa iv ci tg d i b r vp vl vs) := HM1.out.other B 3 _ (Or.inl (by have := HGB.out; omega))
    have HB2 : Hid (Bg g w (w1.setCell ⟨B, 3, none⟩ (.string tx))) := HB1.out.setUp (by rw [HBB.out]; exact Nat.le_refl _) 3 _
    have n0' := (hx.other B 3 (.string tx) (Or.inl (Ne.symm hne1))).cell 0 _ rfl
    rw [Nat.zero_mul, Nat.add_zero] at n0'
    try rw [Nat.add_zero] at n0'
    by_cases hk : kd = 2
    case neg =>
      rw [if_pos (.inl hk)] at HE2
      have f0b : ((kd : Int) != 2) = true := by simp; omega
      have HE3 := Lib.hid HE2
      clear hk HE2 hn hs hf hx hA1 hv hP hpl hkd htx htl hts hc1 hl1 hg1 hb1
      go_wp2_with fail
      go_ret
      exact ⟨by rw [← HE3.out]; rfl, HB2.out, fun h => by rw [← HE3.out] at h; cases h⟩
    case pos =>
    subst hk
    obtain ⟨z, hz⟩ : ∃ z, tx.size = z := ⟨_, rfl⟩
    rw [hz] at HE2
    have a3' := HA2.out.cell 3 _ rfl
    rw [Nat.zero_add] at a3'
    by_cases h1 : z < 1
    · rw [if_pos (.inr (.inl h1))] at HE2
      have f1 : (z : Int) < 1 := by omega
      have HE3 := Lib.hid HE2
      clear h1 HE2 hn hs hf hx hA1 hv hP hpl hkd htx htl hts hc1 hl1 hg1 hb1
      go_wp2_with fail
      go_ret
      exact ⟨by rw [← HE3.out]; rfl, HB2.out, fun h => by rw [← HE3.out] at h; cases h⟩
    · have f1 : ¬ (z : Int) < 1 := by omega
      by_cases h2 : 128 < z
      · rw [if_pos (.inr (.inr h2))] at HE2
        have f2 : (128 : Int) < (z : Int) := by omega
        have HE3 := Lib.hid HE2
        clear h1 h2 HE2 hn hs hf hx hA1 hv hP hpl hkd htx htl hts hc1 hl1 hg1 hb1
        go_wp2_with fail
        go_ret
        exact ⟨by rw [← HE3.out]; rfl, HB2.out, fun h => by rw [← HE3.out] at h; cases h⟩
      · rw [if_neg (by simp; omega), htl] at HE2
        have f2 : ¬ (128 : Int) < (z : Int) := by omega
        have HE3 := Lib.hid HE2
        have HS2 : Hid (B + 1 ≤ (w1.setCell ⟨B, 3, none⟩ (.string tx)).heap.size) := by show _ ≤ _; rw [World.size_setCell]; exact HS1.out
        have k0 := HA2.out.cell 0 _ rfl
        have k1 := HA2.out.cell 1 _ rfl
        have k2 := HA2.out.cell 2 _ rfl
        have k3 := HA2.out.cell 3 _ rfl
        have k4 := HA2.out.cell 4 _ rfl
        have k5 := HA2.out.cell 5 _ rfl
        have k6 := HA2.out.cell 6 _ rfl
        have k7 := HA2.out.cell 7 _ rfl
        have k8 := HA2.out.cell 8 _ rfl
        rw [Nat.zero_add] at k0 k1 k2 k3 k4 k5 k6 k7 k8
        have z2 := fun ob => (HM2.out.alloc ob).froz 2 (by simp [mcells])
        have d2 := fun ob => (HM2.out.alloc ob).cell 2 _ rfl
        rw [Nat.zero_add] at z2 d2
        have HR := Lib.hid (FINH.out _ tx HM2.out HS2.out)
        have HBR := Lib.hid ((HB2.out.alloc (Obj.cells #[.int .i64 1, .int .i64 0, .int .i64 0, .string tx, .string ⟨#[]⟩, .string ⟨#[]⟩, .int .i64 0, .string ⟨#[]⟩, .string ⟨#[]⟩] 63)).set 2 (.slice (some ⟨(w1.setCell ⟨B, 3, none⟩ (.string tx)).heap.size, 0, none⟩) 1 1))
        rw [World.size_setCell] at HR HBR
        clear h1 h2 HE2 hn hs hf hx hA1 hv hP hpl hkd htx htl hts hc1 hl1 hg1 hb1
        go_wp2_with fail
        go_ret
        exact ⟨by rw [← HE3.out]; rfl, HBR.out, fun _ => ⟨_, (by rw [HBB.out]; have := HS1.out; omega), HR.out.1, by rw [← HE3.out]; exact HR.out.2⟩⟩
end Ce
end Go.Proofs.YtikgonlhdkknkaaDoor
