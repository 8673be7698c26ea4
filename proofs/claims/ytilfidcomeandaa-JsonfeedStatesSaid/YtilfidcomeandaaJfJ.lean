/- A feed of values in memory: Write. -/
import Derived.Test.YtilfidcomeandaaJfI
import Derived.Test.YtilfidcomeandaaJsM
import Derived.Deep.LoopGhost
namespace Go.Proofs.Ytilfidcomeandaa
open Go.RowKit
set_option linter.unusedVariables false
set_option linter.unusedSimpArgs false
namespace Jf
open Js
open Dr (Rs Lm has lack)
theorem grown_of_below {w w' : World} (hb : Below w.heap.size w w') : w.grownBy w' none := ⟨hb.os, hb.tape, hb.output, hb.size, fun k hk _ => hb.block k hk⟩
section
variable {w w' : World} {g β : Nat} {L : Lm} {ro : Int} {k : Nat} {l : List Vl} {G : List Fr} {B : List (Option Nat)} {hd : Hd} {vV vS vH : Value} {nx : Nat} {nm : Bool} {a e pl : Int}
theorem Jm.below (h : Jm w g β L ro k l G B hd vV vS vH nx nm a e pl) (hb : Below w.heap.size w w') : Jm w' g β L ro k l G B hd vV vS vH nx nm a e pl :=
  have hg := grown_of_below hb
  ⟨h.at0.below hb h.lt, own_below h.vals hb (Nat.le_refl _), own_below h.stack hb (Nat.le_refl _), h.maps.kept hg (fun _ _ _ _ => by simp), h.hand.kept hg (fun q hq => by cases hq), h.gb, Nat.le_trans h.bs hb.size⟩
end
/-- a feed in memory -/
def FM (w : World) (g β : Nat) (L : Lm) (ro : Int) : Fs → Prop
  | .run s k => FmS w g β L ro s k
  | .dead e q n k => DeadM w g β L ro e q n k
theorem FM.below {w w' : World} {g β : Nat} {L : Lm} {ro : Int} {f : Fs} (h : FM w g β L ro f) (hb : Below w.heap.size w w') : FM w' g β L ro f := by
  cases f with
  | run s k =>
    obtain ⟨B, vV, vS, vH, a, h, h2⟩ := h
    exact ⟨B, vV, vS, vH, a, h.below hb, h2⟩
  | dead e q n k =>
    obtain ⟨vV, c, cap, nx, vH, nm, a, hA, h1, h2⟩ := h
    exact ⟨vV, c, cap, nx, vH, nm, a, hA.below hb (by omega), h1, Nat.le_trans h2 hb.size⟩
theorem FM.drewN {w : World} {g β : Nat} {L : Lm} {ro : Int} {f : Fs} (h : FM w g β L ro f) (n : Nat) : FM (w.drewN n) g β L ro f := h.below ⟨rfl, rfl, rfl, Nat.le_refl _, fun _ _ => rfl⟩
/-- a feed's cells, whatever it came to -/
theorem FM.cells {w : World} {g β : Nat} {L : Lm} {ro : Int} {f : Fs} (h : FM w g β L ro f) : ∃ vV c cap nx vH nm a pl, At w g 0 (jc L ro f.taken vV (.slice c f.frames cap) nx vH nm a f.e pl) ∧ g < β ∧ β ≤ w.heap.size ∧ ∀ e q n k, f = .dead e q n k → pl = (q : Int) := by
  cases f with
  | run s k =>
    obtain ⟨B, vV, vS, vH, a, h, h2⟩ := h
    obtain ⟨aS, cS, rfl, -⟩ := own_form h.stack
    exact ⟨_, _, _, _, _, _, _, _, h.at0, h.gb, h.bs, fun _ _ _ _ e => by cases e⟩
  | dead e q n k =>
    obtain ⟨vV, c, cap, nx, vH, nm, a, hA, h1, h2⟩ := h
    exact ⟨_, _, _, _, _, _, _, _, hA, h1, h2, fun _ _ _ _ e => by cases e; rfl⟩
def RW (f : Fs) (g β : Nat) (L : Lm) (ro : Int) (w : World) (e : Ending) (w' : World) : Prop := e = .returned (.int .i64 f.e) ∧ Hid (FM w' g β L ro f) ∧ Hid (Bx g β w w')
theorem RW.of {R f : Fs} {x : Int} {g β : Nat} {L : Lm} {ro : Int} {w w' : World} (hR : Hid (R = f)) (hx : Hid (f.e = x)) (h : Hid (FM w' g β L ro f)) (hb : Hid (Bx g β w w')) : RW R g β L ro w (.returned (.int .i64 x)) w' := by
  rw [hR.out, ← hx.out]
  exact ⟨rfl, h, hb⟩
theorem getd_drop {S : List UInt8} {q : Nat} (h : q < S.length) : S.drop q = S.getD q 0 :: S.drop (q + 1) := by
  rw [List.getD, List.getElem?_eq_getElem h, Option.getD_some, List.drop_eq_getElem_cons h]
theorem snoc_take {A : List UInt8} {p : Nat} (h : p < A.length) : A.take p ++ [A.getD p 0] = A.take (p + 1) := by
  rw [List.getD, List.getElem?_eq_getElem h, Option.getD_some, List.take_append_getElem]
set_option maxRecDepth 100000 in
set_option maxHeartbeats 6400000 in
theorem write_any (w : World) (g β : Nat) (L : Lm) (ro : Int) (f : Fs) (h : FM w g β L ro f) (hi : FInv L f) (hL : Lok L) (s : ByteArray) (hs : s.size ≤ 140737488351232) :
    Calls Try.prog 11 #[.pointer (some ⟨g, 0, none⟩), .string s] w (RW (f.write L s.toList) g β L ro w) := by
  obtain ⟨vV0, cc0, cap0, nx0, vH0, nm0, a0, pl0, hA0, hgb, hbs0, -⟩ := h.cells
  obtain ⟨R, hR⟩ : ∃ R, f.write L s.toList = R := ⟨_, rfl⟩
  rw [hR]
  obtain ⟨n, hn⟩ : ∃ n, s.size = n := ⟨_, rfl⟩
  have hsl : s.toList.length = n := by rw [tl_size, hn]
  have NO := Lib.hid (fnone_any w g _ L.depth hA0 hL.p)
  have HL := Lib.hid hL
  have HR := Lib.hid hR
  have HI := Lib.hid hi
  rw [hn] at hs
  have HN := Lib.hid (And.intro hn (And.intro hsl hs))
  have HST : Hid (FM w g β L ro (f.write L (s.toList.take 0))) := h
  clear h hL hR hs hsl hn hA0 hi hbs0
  go_enter Try.func11, Try.ntmps11
  go_wp2_with fail
  refine NO.out.mono ?_
  rintro e w1 ⟨rfl, rfl⟩
  go_wp2_with fail
  rw [HN.out.1]
  go_loopw [5, 10] (fun v5 v10 wr => ∃ (i : Nat), v10 = .int .i64 (i : Int) ∧ i ≤ n ∧ Hid (FM wr g β L ro (f.write L (s.toList.take i))) ∧ Hid (Bx g β w wr)) (fun _ v10 _ => n - (intOf v10).toNat)
  case atStart => exact ⟨0, rfl, Nat.zero_le _, HST, Bx.refl' _ _ _⟩
  case round =>
    obtain ⟨i, rfl, hi, HF, HB⟩ := hrel
    clear HST
    have HFI : Hid (FInv L (f.write L (s.toList.take i))) := HI.out.write _
    obtain ⟨F, hF⟩ : ∃ F, f.write L (s.toList.take i) = F := ⟨_, rfl⟩
    rw [hF] at HF HFI
    have HRF : Hid (F.write L (s.toList.drop i) = R) := by
      show _ = R
      rw [← HR.out, ← hF, ← write_app, List.take_append_drop]
    have HFE := Lib.hid hF
    clear hF
    by_cases hin : i < n
    · have e1 : (i : Int) < (n : Int) := by omega
      have e1n : i < n := hin
      have e9 : (i : Int) ≤ 140737488351232 := by have h8 := HN.out.2.2; omega
      have HII : Hid (i < n) := hin
      cases F with
      | dead ee q nn k =>
        have hne : ee ≠ 0 := by rcases HFI.out.1 with h | h <;> omega
        have x1 : (ee == 0) = false := by rw [beq_eq_false_iff_ne]; exact hne
        have x2 : (ee != 0) = true := by rw [bne_iff_ne]; exact hne
        have HR2 : Hid (R = .dead ee q nn k) := by show R = _; rw [← HRF.out, write_dead]
        have c11 : wr.cell? ⟨g, 11, none⟩ = some (.int .i64 ee) := by obtain ⟨vV, c, cap, nx, vH, nm, a, hA, h1, h2⟩ := HF.out; have h9 := hA.cell 11 _ rfl; rw [Nat.zero_add] at h9; exact h9
        clear hne hin hi e1n
        go_wp2_with fail
        first | go_quiet (fail) | skip
        go_wp2_with fail
        go_ret
        exact RW.of HR2 rfl (HF.out.drewN _) (HB.out.trans (bx_drewN g β _ _))
      | run st k =>
        have HS : Hid (FmS wr g β L ro st k) := HF
        obtain ⟨x, hx⟩ : ∃ x, s.toList.getD i 0 = x := ⟨_, rfl⟩
        obtain ⟨c2, c4, c11⟩ : wr.cell? ⟨g, 2, none⟩ = some (.int .i64 (L.bytes : Int)) ∧ wr.cell? ⟨g, 4, none⟩ = some (.int .i64 (k : Int)) ∧ wr.cell? ⟨g, 11, none⟩ = some (.int .i64 0) := by
          obtain ⟨B, vV, vS, vH, a, h, h2⟩ := HS.out
          have h9 := h.at0.cell 2 _ rfl
          have h8 := h.at0.cell 4 _ rfl
          have h7 := h.at0.cell 11 _ rfl
          rw [Nat.zero_add] at h9 h8 h7
          exact ⟨h9, h8, h7⟩
        by_cases hlim : L.bytes ≤ k
        · have x2 : (L.bytes : Int) ≤ (k : Int) := by omega
          have HR2 : Hid (R = .dead 10 L.bytes st.G.length k) := by
            show R = _
            rw [← HRF.out, getd_drop (by rw [HN.out.2.1]; exact hin)]
            show ((Fs.run st k).byte L _).write L _ = _
            rw [Fs.byte, if_pos hlim, write_dead]
          have FA := Lib.hid (fun q => ffault_any (wr.drewN q) g β L ro st k (HS.out.drewN q) 10 L.bytes (L.bytes : Int) rfl)
          clear hlim hin hi hx e1n
          go_wp2_with fail
          go_quiet (fail)
          go_wp2_with fail
          refine (FA.out _).mono ?_
          rintro e w4 ⟨rfl, hF4, hB4⟩
          have c114 : w4.cell? ⟨g, 11, none⟩ = some (.int .i64 10) := by obtain ⟨vV, c, cap, nx, vH, nm, a, hA, h1, h2⟩ := hF4.out; have h9 := hA.cell 11 _ rfl; rw [Nat.zero_add] at h9; exact h9
          go_wp2_with fail
          go_ret
          exact RW.of HR2 rfl hF4 (HB.out.trans ((bx_drewN g β _ _).trans hB4.out))
        · have x2 : ¬ (L.bytes : Int) ≤ (k : Int) := by omega
          have x3 : decide ((L.bytes : Int) ≤ (k : Int)) = false := decide_eq_false x2
          have x6 : decide (L.bytes ≤ k) = false := decide_eq_false hlim
          have hsz : i < s.size := by rw [HN.out.1]; exact hin
          have hsx : s[i] = x := by
            rw [← hx, Lib.toList_data, List.getD, List.getElem?_eq_getElem (by simpa using hsz)]
            rfl
          obtain ⟨b, hb⟩ : ∃ b, x.toNat = b := ⟨_, rfl⟩
          have hsb : (s[i].toNat : Int) = (b : Int) := by rw [hsx, hb]
          have hkb : k < 262144 := by have := HL.out.b; omega
          obtain ⟨z, hz⟩ : ∃ z, k + 1 = z := ⟨_, rfl⟩
          have x7 : (k : Int) + 1 = (z : Int) := by omega
          have x8 : IntKind.i64.wrap (z : Int) = (z : Int) := wrap_fit z (by unfold maxLen; omega)
          have HTX := Lib.hid (And.intro hx (And.intro hb (And.intro hz (And.intro hkb (And.intro hlim hin)))))
          have f4 : wr.frozen? ⟨g, 4, none⟩ = false := by
            obtain ⟨B, vV, vS, vH, a, h, h2⟩ := HS.out
            have h9 := h.at0.froz 4 (by show 4 < 13; decide)
            rw [Nat.zero_add] at h9
            exact h9
          have HS4 : Hid (∀ q, FmS ((wr.drewN q).setCell ⟨g, 4, none⟩ (.int .i64 (z : Int))) g β L ro st z) := fun q => by
            obtain ⟨B, vV, vS, vH, a, h, h2⟩ := HS.out
            exact ⟨B, vV, vS, vH, a, (h.drewN q).set 4 (.int .i64 (z : Int)) (k' := z) rfl, h2⟩
          have TK := Lib.hid (fun q => ftake_any _ g β L ro st z (HS4.out q) k HFI.out.1 (by omega) (by omega) HL.out.i HL.out.d x b hb)
          have HNX : Hid (∀ o, st.act L x k = o → f.write L (s.toList.take (i + 1)) = (match o with | .go s' => Fs.run s' z | .fl e q => .dead e q st.G.length z)) := by
            intro o ho
            rw [← snoc_take (A := s.toList) (p := i) (by rw [HN.out.2.1]; exact hin), write_app, HFE.out, hx]
            show (Fs.run st k).byte L x = _
            rw [Fs.byte, if_neg hlim, ho, hz]
            cases o <;> rfl
          clear hlim hin hi hx hsx hb hz hkb
          go_wp2_with fail
          go_quiet (fail)
          go_wp2_with fail
          refine (TK.out _).mono ?_
          rintro e w5 ⟨rfl, hB5, hF5⟩
          have HB5 : Hid (Bx g β w w5) := (HB.out.trans ((bx_drewN g β _ _).setG _)).trans hB5.out
          obtain ⟨o, ho⟩ : ∃ o, st.act L x k = o := ⟨_, rfl⟩
          have HF5 : Hid (FM w5 g β L ro (f.write L (s.toList.take (i + 1)))) := by
            rw [HNX.out o ho]
            rw [ho] at hF5
            cases o with
            | go s' => exact hF5
            | fl e q => exact hF5
          clear hF5 ho hB5
          go_wp2_with fail
          go_roundw
          case rel => exact ⟨i + 1, by go_num, HII.out, HF5, HB5⟩
          case measure => have h9 := HII.out; simp [intOf]; omega
    · have HR2 : Hid (R = F) := by
        have h9 : i = n := by omega
        show R = _
        rw [← HRF.out, List.drop_eq_nil_of_le (by rw [HN.out.2.1]; omega)]
        rfl
      have e1 : ¬ (i : Int) < (n : Int) := by omega
      obtain ⟨ee, hee⟩ : ∃ e, F.e = e := ⟨_, rfl⟩
      have HEE := Lib.hid hee
      have c11 : wr.cell? ⟨g, 11, none⟩ = some (.int .i64 ee) := by
        obtain ⟨vV, c, cap, nx, vH, nm, a, pl, hA, h1, h2, -⟩ := HF.out.cells
        have h9 := hA.cell 11 _ rfl
        rw [Nat.zero_add, hee] at h9
        exact h9
      clear hee hin hi
      go_wp2_with fail
      go_ret
      exact RW.of HR2 HEE HF HB
end Jf
end Go.Proofs.Ytilfidcomeandaa
