/- Joined by merge.py: DvA DvB DvC DvD. -/
import Derived.Test.YteglahkgnggmgaaDoorDrL
namespace Go.Proofs.YteglahkgnggmgaaDoor
open Go.RowKit
set_option linter.unusedVariables false
set_option linter.unusedSimpArgs false
open Dr
/-- the document's reader, cell by cell -/
def rfc (s : ByteArray) (L : Lm) (ro : Int) (vo : Value) (er : Int) (pl tk fr : Nat) (en : Bool) : List Value :=
  [.string s, .int .i64 (L.depth : Int), .int .i64 (L.items : Int), .int .i64 (L.bytes : Int), .int .i64 ro, vo, .int .i64 er, .int .i64 (pl : Int), .int .i64 (tk : Int), .int .i64 (fr : Int), .bool en]
structure Rf (w : World) (g : Nat) (s : ByteArray) (L : Lm) (ro : Int) (O : List Nd) (vo : Value) (er : Int) (pl tk fr : Nat) (en : Bool) : Prop where
  at0 : At w g 0 (rfc s L ro vo er pl tk fr en)
  out : w.ownsRow (g + 1) 63 3 vo O.length (ncells O)
  lt : g < w.heap.size
section
variable {w w' : World} {g : Nat} {s : ByteArray} {L : Lm} {ro : Int} {O : List Nd} {vo : Value} {er : Int} {pl tk fr : Nat} {en : Bool}
theorem Rf.drewN (h : Rf w g s L ro O vo er pl tk fr en) (k : Nat) : Rf (w.drewN k) g s L ro O vo er pl tk fr en := ⟨h.at0.drewN k, own_drewN h.out k, h.lt⟩
theorem Rf.setC (h : Rf w g s L ro O vo er pl tk fr en) (k : Nat) (v : Value) {er' : Int} {pl' tk' fr' : Nat} {en' : Bool} (he : (rfc s L ro vo er pl tk fr en).set k v = rfc s L ro vo er' pl' tk' fr' en') : Rf (w.setCell ⟨g, k, none⟩ v) g s L ro O vo er' pl' tk' fr' en' :=
  ⟨by have h1 := h.at0.set k v; rw [he, Nat.zero_add] at h1; exact h1, ownsRow_setCell_below h.out (Nat.lt_succ_self g) _, by rw [show (w.setCell ⟨g, k, none⟩ v).heap.size = w.heap.size by simp [World.setCell]]; exact h.lt⟩
theorem Rf.below (h : Rf w g s L ro O vo er pl tk fr en) (hb : Below w.heap.size w w') : Rf w' g s L ro O vo er pl tk fr en :=
  ⟨h.at0.below hb h.lt, own_below h.out hb (Nat.le_refl _), Nat.lt_of_lt_of_le h.lt hb.size⟩
theorem Rf.alloc (h : Rf w g s L ro O vo er pl tk fr en) (o : Obj) : Rf (w.alloc o) g s L ro O vo er pl tk fr en :=
  ⟨h.at0.alloc o, h.out.alloc o, by simp; have := h.lt; omega⟩
end
/-- the reader goes on -/
def Rok (w : World) (g : Nat) (s : ByteArray) (L : Lm) (ro : Int) (O : List Nd) (fr : Nat) : Prop := ∃ vo tk, Rf w g s L ro O vo 0 0 tk fr false
/-- the reader has a fault -/
def Rno (w : World) (g : Nat) (s : ByteArray) (L : Lm) (ro : Int) (c : Int) (q : Nat) (b : Bool) : Prop := ∃ O vo tk fr, Rf w g s L ro O vo c q tk fr b
theorem Rok.drewN {w : World} {g : Nat} {s : ByteArray} {L : Lm} {ro : Int} {O : List Nd} {fr : Nat} (h : Rok w g s L ro O fr) (k : Nat) : Rok (w.drewN k) g s L ro O fr := by
  obtain ⟨vo, tk, h⟩ := h
  exact ⟨vo, tk, h.drewN k⟩
theorem Rok.below {w w' : World} {g : Nat} {s : ByteArray} {L : Lm} {ro : Int} {O : List Nd} {fr : Nat} (h : Rok w g s L ro O fr) (hb : Below w.heap.size w w') : Rok w' g s L ro O fr := by
  obtain ⟨vo, tk, h⟩ := h
  exact ⟨vo, tk, h.below hb⟩
theorem Rok.lt {w : World} {g : Nat} {s : ByteArray} {L : Lm} {ro : Int} {O : List Nd} {fr : Nat} (h : Rok w g s L ro O fr) : g < w.heap.size := by
  obtain ⟨vo, tk, h⟩ := h
  exact h.lt
/-- the answers: all is well; or a fault -/
def Yes (v : Value) (g : Nat) (s : ByteArray) (L : Lm) (ro : Int) (O : List Nd) (fr : Nat) (w : World) (e : Ending) (w' : World) : Prop := e = .returned v ∧ Hid (Rok w' g s L ro O fr) ∧ Hid (Below g w w')
def Nay (v : Value) (g : Nat) (s : ByteArray) (L : Lm) (ro : Int) (c : Int) (q : Nat) (b : Bool) (w : World) (e : Ending) (w' : World) : Prop := e = .returned v ∧ Hid (Rno w' g s L ro c q b) ∧ Hid (Below g w w')
set_option maxRecDepth 100000 in
theorem dtake_any {w : World} {g : Nat} {s : ByteArray} {L : Lm} {ro : Int} {O : List Nd} {vo : Value} {tk fr : Nat} (h : Rf w g s L ro O vo 0 0 tk fr false) (z : Int) (a : Nat) (hz : (a : Int) = z) :
    Calls Tryd.prog 71 #[.pointer (some ⟨g, 0, none⟩), .int .i64 z] w (fun e w' => e = .returned (.tuple #[]) ∧ (∃ tk', Hid (Rf w' g s L ro O vo 0 0 tk' fr false)) ∧ Hid (Below g w w')) := by
  subst hz
  have HR := Lib.hid h
  have h8 := h.at0.cell 8 _ rfl
  have f8 := h.at0.froz 8 (Nat.le_of_ble_eq_true rfl)
  rw [Nat.zero_add] at h8 f8
  clear h
  by_cases h1 : tk < a
  · have e1 : (tk : Int) < (a : Int) := by omega
    clear h1
    go_enter Tryd.func71, Tryd.ntmps71
    go_wp2_with fail
    go_end0
    exact ⟨rfl, ⟨a, HR.out.setC 8 _ rfl⟩, (Below.refl g w).setCell (Nat.le_refl _) _⟩
  · have e1 : ¬ (tk : Int) < (a : Int) := by omega
    clear h1
    go_enter Tryd.func71, Tryd.ntmps71
    go_wp2_with fail
    go_end0
    exact ⟨rfl, ⟨tk, HR.out⟩, Below.refl g w⟩
set_option maxRecDepth 100000 in
theorem dfault_any {w : World} {g : Nat} {s : ByteArray} {L : Lm} {ro : Int} {O : List Nd} {vo : Value} {tk fr : Nat} {en : Bool} (h : Rf w g s L ro O vo 0 0 tk fr en) (z c : Int) (q : Nat) (hz : (q : Int) = z) :
    Calls Tryd.prog 52 #[.pointer (some ⟨g, 0, none⟩), .int .i64 z, .int .i64 c] w (Nay (.bool false) g s L ro c q en w) := by
  subst hz
  have HR := Lib.hid h
  have h6 := h.at0.cell 6 _ rfl
  have f6 := h.at0.froz 6 (Nat.le_of_ble_eq_true rfl)
  have h7 := h.at0.cell 7 _ rfl
  have f7 := h.at0.froz 7 (Nat.le_of_ble_eq_true rfl)
  rw [Nat.zero_add] at h6 f6 h7 f7
  clear h
  go_enter Tryd.func52, Tryd.ntmps52
  go_wp2_with fail
  go_ret
  exact ⟨rfl, ⟨O, vo, tk, fr, (HR.out.setC 6 (.int .i64 c) (er' := c) rfl).setC 7 _ rfl⟩, ((Below.refl g w).setCell (Nat.le_refl _) _).setCell (Nat.le_refl _) _⟩
set_option maxRecDepth 100000 in
set_option maxHeartbeats 800000 in
theorem dwant_yes {w : World} {g : Nat} {s : ByteArray} {L : Lm} {ro : Int} {O : List Nd} {fr : Nat} (h : Rok w g s L ro O fr) (z : Int) (p : Nat) (hz : (p : Int) = z) (h1 : p < s.size) (h2 : p < L.bytes) (hs : s.size ≤ 140737488351232) :
    Calls Tryd.prog 51 #[.pointer (some ⟨g, 0, none⟩), .int .i64 z] w (Yes (.bool true) g s L ro O fr w) := by
  subst hz
  obtain ⟨vo, tk, h⟩ := h
  have HR := Lib.hid h
  have TK := Lib.hid (dtake_any h ((p : Int) + 1) (p + 1) (by omega))
  have h0 := h.at0.cell 0 _ rfl
  have h3 := h.at0.cell 3 _ rfl
  rw [Nat.zero_add] at h0 h3
  have e1 : (p : Int) < (s.size : Int) := by omega
  have e2 : (p : Int) < (L.bytes : Int) := by omega
  have e3 : (p : Int) ≤ 140737488351232 := by omega
  clear h h1 h2 hs
  go_enter Tryd.func51, Tryd.ntmps51
  go_wp2_with (first | (go_at_call 71; refine TK.out.mono ?_; rintro e w1 ⟨rfl, ⟨tk', HR1⟩, HB1⟩))
  go_ret
  exact ⟨rfl, ⟨vo, tk', HR1.out⟩, HB1⟩
set_option maxRecDepth 100000 in
set_option maxHeartbeats 800000 in
theorem dwant_no {w : World} {g : Nat} {s : ByteArray} {L : Lm} {ro : Int} {O : List Nd} {fr : Nat} (h : Rok w g s L ro O fr) (z : Int) (p : Nat) (hz : (p : Int) = z) (h1 : ¬ (p < s.size ∧ p < L.bytes)) :
    Calls Tryd.prog 51 #[.pointer (some ⟨g, 0, none⟩), .int .i64 z] w (Nay (.bool false) g s L ro (lackE s.toList L) (lackP s.toList L) (decide (s.toList.length ≤ L.bytes)) w) := by
  subst hz
  rw [lackE, lackP, tl_size]
  obtain ⟨vo, tk, h⟩ := h
  have HR := Lib.hid h
  have TK := Lib.hid (fun w' (b : Nat) (h' : Rf w' g s L ro O vo 0 0 tk fr false) => dtake_any h' (b : Int) b rfl)
  have h0 := h.at0.cell 0 _ rfl
  have h3 := h.at0.cell 3 _ rfl
  rw [Nat.zero_add] at h0 h3
  obtain ⟨b, hb⟩ : ∃ n, L.bytes = n := ⟨_, rfl⟩
  rw [hb] at h1
  rw [hb]
  rw [hb] at h3
  have HN := Lib.hid (hb)
  clear h hb
  have h0q : ∀ k, (w.drewN k).cell? ⟨g, 0, none⟩ = some (.string s) := fun _ => h0
  by_cases h2 : b < s.size
  · have e4 : (b : Int) < (s.size : Int) := by omega
    rw [if_pos h2, if_pos h2, decide_eq_false (by omega)]
    by_cases h4 : p < s.size
    · have e1 : (p : Int) < (s.size : Int) := by omega
      have e2 : ¬ (p : Int) < (b : Int) := by omega
      clear h1 h2 h4
      go_enter Tryd.func51, Tryd.ntmps51
      go_wp2_with fail
      go_quiet (fail)
      go_wp2_with (first
        | (go_at_call 71; refine (TK.out _ b (HR.out.drewN _)).mono ?_; rintro e w1 ⟨rfl, ⟨tk1, HR1⟩, HB1⟩; have g0 := HR1.out.at0.cell 0 _ rfl; have g3 := HR1.out.at0.cell 3 _ rfl; have f10 := HR1.out.at0.froz 10 (Nat.le_of_ble_eq_true rfl); have g10 := HR1.out.at0.cell 10 _ rfl; rw [Nat.zero_add] at g0 g3 f10 g10; rw [HN.out] at g3)
        | (go_at_call 52; refine (dfault_any HR1.out _ _ b rfl).mono ?_; rintro e w2 ⟨rfl, HR2, HB2⟩))
      go_ret
      exact ⟨rfl, HR2, ((below_drewN _ _ _).trans HB1.out).trans HB2.out⟩
    · have e1 : ¬ (p : Int) < (s.size : Int) := by omega
      clear h1 h2 h4
      go_enter Tryd.func51, Tryd.ntmps51
      go_wp2_with fail
      go_quiet (fail)
      go_wp2_with (first
        | (go_at_call 71; refine (TK.out _ b (HR.out.drewN _)).mono ?_; rintro e w1 ⟨rfl, ⟨tk1, HR1⟩, HB1⟩; have g0 := HR1.out.at0.cell 0 _ rfl; have g3 := HR1.out.at0.cell 3 _ rfl; have f10 := HR1.out.at0.froz 10 (Nat.le_of_ble_eq_true rfl); have g10 := HR1.out.at0.cell 10 _ rfl; rw [Nat.zero_add] at g0 g3 f10 g10; rw [HN.out] at g3)
        | (go_at_call 52; refine (dfault_any HR1.out _ _ b rfl).mono ?_; rintro e w2 ⟨rfl, HR2, HB2⟩))
      go_ret
      exact ⟨rfl, HR2, ((below_drewN _ _ _).trans HB1.out).trans HB2.out⟩
  · have e4 : ¬ (b : Int) < (s.size : Int) := by omega
    rw [if_neg h2, if_neg h2, decide_eq_true (by omega)]
    have e1 : ¬ (p : Int) < (s.size : Int) := by omega
    clear h1 h2
    go_enter Tryd.func51, Tryd.ntmps51
    go_wp2_with fail
    go_quiet (fail)
    go_wp2_with (first
      | (go_at_call 71; refine (TK.out _ s.size (HR.out.drewN _)).mono ?_; rintro e w1 ⟨rfl, ⟨tk1, HR1⟩, HB1⟩; have g0 := HR1.out.at0.cell 0 _ rfl; have g3 := HR1.out.at0.cell 3 _ rfl; have f10 := HR1.out.at0.froz 10 (Nat.le_of_ble_eq_true rfl); have g10 := HR1.out.at0.cell 10 _ rfl; rw [Nat.zero_add] at g0 g3 f10 g10; rw [HN.out] at g3)
      | (go_at_call 52; refine (dfault_any (HR1.out.setC 10 (.bool true) (en' := true) rfl) _ _ s.size rfl).mono ?_; rintro e w2 ⟨rfl, HR2, HB2⟩))
    go_ret
    exact ⟨rfl, HR2, (((below_drewN _ _ _).trans HB1.out).setCell (p := ⟨g, 10, none⟩) (Nat.le_refl _) _).trans HB2.out⟩
end Go.Proofs.YteglahkgnggmgaaDoor
namespace Go.Proofs.YteglahkgnggmgaaDoor
open Go.RowKit
set_option linter.unusedVariables false
set_option linter.unusedSimpArgs false
open Dr
def DLen (r : Rs (Nat × Nat)) (g : Nat) (s : ByteArray) (L : Lm) (ro : Int) (O : List Nd) (fr : Nat) (w : World) (e : Ending) (w' : World) : Prop :=
  match r with
  | .ok (n, q) => Yes (.tuple #[.int .i64 (n : Int), .int .i64 (q : Int), .bool true]) g s L ro O fr w e w'
  | .no c q b => Nay (.tuple #[.int .i64 0, .int .i64 0, .bool false]) g s L ro c q b w e w'
theorem dlack_eq {α : Type} (s : ByteArray) (L : Lm) : (lack s.toList L : Rs α) = .no (lackE s.toList L) (lackP s.toList L) (decide (s.toList.length ≤ L.bytes)) := rfl
theorem dfault_ok {w : World} {g : Nat} {s : ByteArray} {L : Lm} {ro : Int} {O : List Nd} {fr : Nat} (h : Rok w g s L ro O fr) (z c : Int) (q : Nat) (hz : (q : Int) = z) :
    Calls Tryd.prog 52 #[.pointer (some ⟨g, 0, none⟩), .int .i64 z, .int .i64 c] w (Nay (.bool false) g s L ro c q false w) := by
  obtain ⟨vo, tk, h⟩ := h
  exact dfault_any h z c q hz
theorem Rok.txt {w : World} {g : Nat} {s : ByteArray} {L : Lm} {ro : Int} {O : List Nd} {fr : Nat} (h : Rok w g s L ro O fr) : w.cell? ⟨g, 0, none⟩ = some (.string s) := by
  obtain ⟨vo, tk, h⟩ := h
  have h0 := h.at0.cell 0 _ rfl
  rw [Nat.zero_add] at h0
  exact h0
set_option maxRecDepth 100000 in
set_option maxHeartbeats 1600000 in
theorem dlength_any {w : World} {g : Nat} {s : ByteArray} {L : Lm} {ro : Int} {O : List Nd} {fr : Nat} (h : Rok w g s L ro O fr) (z : Int) (p : Nat) (hz : (p : Int) = z) (hs : s.size ≤ 140737488351232) (hp : p ≤ s.size) :
    Calls Tryd.prog 68 #[.pointer (some ⟨g, 0, none⟩), .int .i64 z] w (DLen (lenR s.toList L p) g s L ro O fr w) := by
  subst hz
  obtain ⟨R, hR⟩ : ∃ R, lenR s.toList L p = R := ⟨_, rfl⟩
  rw [hR]
  have hp9 : (p : Int) ≤ 140737488351232 := by omega
  by_cases h1 : p < s.size ∧ p < L.bytes
  · have hh := has_yes s L p h1
    have W := Lib.hid (dwant_yes h (p : Int) p rfl h1.1 h1.2 hs)
    obtain ⟨b, hb⟩ : ∃ b, (s.toList.getD p 0).toNat = b := ⟨_, rfl⟩
    have hat : at0S s.toList p = b := hb
    have hb2 : b < 256 := by rw [← hb]; exact (s.toList.getD p 0).toNat_lt
    have e1 : (p : Int) < (s.size : Int) := by omega
    have hlt : p < s.size := h1.1
    have hsp : s[p].toNat = b := by rw [← tl_getD s p hlt]; exact hb
    have hwb : IntKind.i64.wrap (b : Int) = (b : Int) := wrap_fit b (by unfold maxLen; omega)
    by_cases h2 : b < 128
    · obtain rfl : R = .ok (b, p + 1) := by rw [← hR]; exact lenR_short hh hat h2
      have e2 : (b : Int) < 128 := by omega
      clear hR h hh hat h1 h2 hs hp
      go_enter Tryd.func68, Tryd.ntmps68
      go_wp2_with (first | (go_at_call 51; refine W.out.mono ?_; rintro e w1 ⟨rfl, HR1, HB1⟩; have g0 := HR1.out.txt) | (go_at_call 52; refine (dfault_ok HR1.out _ _ p rfl).mono ?_; rintro e w2 ⟨rfl, HR2, HB2⟩))
      go_ret3
      exact ⟨rfl, HR1, HB1⟩
    · have e2 : ¬ (b : Int) < 128 := by omega
      by_cases h3 : b = 128
      · subst h3
        obtain rfl : R = .no 9 p false := by rw [← hR]; exact lenR_bad hh hat h2 (.inl rfl)
        clear hR h hh hat h1 h2 hs hp
        go_enter Tryd.func68, Tryd.ntmps68
        go_wp2_with (first | (go_at_call 51; refine W.out.mono ?_; rintro e w1 ⟨rfl, HR1, HB1⟩; have g0 := HR1.out.txt) | (go_at_call 52; refine (dfault_ok HR1.out _ _ p rfl).mono ?_; rintro e w2 ⟨rfl, HR2, HB2⟩))
        go_ret3
        exact ⟨rfl, HR2, HB1.out.trans HB2.out⟩
      · by_cases h4 : 132 < b
        · obtain rfl : R = .no 9 p false := by rw [← hR]; exact lenR_bad hh hat h2 (.inr h4)
          have e4 : (132 : Int) < (b : Int) := by omega
          have e5 : ¬ (b : Int) = 128 := by omega
          clear hR h hh hat h1 h2 h3 h4 hs hp
          go_enter Tryd.func68, Tryd.ntmps68
          go_wp2_with (first | (go_at_call 51; refine W.out.mono ?_; rintro e w1 ⟨rfl, HR1, HB1⟩; have g0 := HR1.out.txt) | (go_at_call 52; refine (dfault_ok HR1.out _ _ p rfl).mono ?_; rintro e w2 ⟨rfl, HR2, HB2⟩))
          go_ret3
          exact ⟨rfl, HR2, HB1.out.trans HB2.out⟩
        · have e4 : ¬ (132 : Int) < (b : Int) := by omega
          have e5 : ¬ (b : Int) = 128 := by omega
          have e5b : ((b : Int) == 128) = false := by rw [beq_eq_false_iff_ne]; exact e5
          have e4b : decide ((132 : Int) < (b : Int)) = false := decide_eq_false e4
          obtain ⟨k, hk⟩ : ∃ k, b - 128 = k := ⟨_, rfl⟩
          have ek : (b : Int) - 128 = (k : Int) := by omega
          have HK := Lib.hid (And.intro hk (And.intro h2 (And.intro (show ¬ (b = 128 ∨ 132 < b) by omega) (show 1 ≤ k ∧ k ≤ 4 by omega))))
          have HH := Lib.hid (And.intro hh (And.intro hat hR))
          have HS := Lib.hid (And.intro hs hlt)
          clear hR h hh hat h1 h2 h3 h4 hs hp hk
          go_enter Tryd.func68, Tryd.ntmps68
          go_wp2_with (first | (go_at_call 51; refine W.out.mono ?_; rintro e w1 ⟨rfl, HR1, HB1⟩; have g0 := HR1.out.txt) | (go_at_call 52; refine (dfault_ok HR1.out _ _ p rfl).mono ?_; rintro e w2 ⟨rfl, HR2, HB2⟩))
          go_loopw [8, 9] (fun vn vi wr => ∃ i n : Nat, vi = .int .i64 ((i + 1 : Nat) : Int) ∧ vn = .int .i64 (n : Int) ∧ i ≤ k ∧ lenB s.toList L p i = .ok n ∧ Hid (Rok wr g s L ro O fr) ∧ Hid (Below g w wr)) (fun _ vi _ => k + 1 - (intOf vi).toNat)
          case atStart => exact ⟨0, 0, rfl, rfl, Nat.zero_le _, rfl, HR1, HB1⟩
          case round =>
            obtain ⟨i, n, rfl, rfl, hi, hB, HR2, HB2⟩ := hrel
            have g2 := HR2.out.txt
            have HBi := Lib.hid hB
            have hn := lenB_lt _ _ _ _ _ hB
            have hk4 : k ≤ 4 := HK.out.2.2.2.2
            have hn2 : n < 18014398509481984 := Nat.lt_of_lt_of_le hn (Nat.le_trans (Nat.pow_le_pow_right (by decide) (show i ≤ 4 by omega)) (by decide))
            have ei9 : IntKind.i64.wrap ((i + 1 : Nat) : Int) = ((i + 1 : Nat) : Int) := wrap_fit (i + 1) (by unfold maxLen; omega)
            by_cases hik : i < k
            · have e6 : (i : Int) + 1 ≤ (k : Int) := by omega
              by_cases h5 : p + i + 1 < s.size ∧ p + i + 1 < L.bytes
              · have hlt2 : p + (i + 1) < s.size := h5.1
                have hh2 := has_yes s L (p + i + 1) h5
                obtain ⟨d, hd⟩ : ∃ d, (s.toList.getD (p + i + 1) 0).toNat = d := ⟨_, rfl⟩
                have hat2 : at0S s.toList (p + i + 1) = d := hd
                have hd2 : d < 256 := by rw [← hd]; exact (s.toList.getD (p + i + 1) 0).toNat_lt
                have hsd : s[p + (i + 1)].toNat = d := by rw [← tl_getD s _ hlt2]; exact hd
                have hwd : IntKind.i64.wrap (d : Int) = (d : Int) := wrap_fit d (by unfold maxLen; omega)
                have W2 := Lib.hid (dwant_yes HR2.out ((p : Int) + ((i : Int) + 1)) (p + i + 1) (by omega) h5.1 h5.2 HS.out.1)
                have e7 : (p : Int) + ((i : Int) + 1) < (s.size : Int) := by omega
                by_cases h6 : i = 0 ∧ d = 0
                · obtain ⟨rfl, rfl⟩ := h6
                  obtain rfl : R = .no 9 (p + 1) false := by
                    rw [← HH.out.2.2]
                    refine lenR_no HH.out.1 HH.out.2.1 HK.out.2.1 HK.out.2.2.1 (lenB_no_le (lenB_zero hh2 hat2) ?_)
                    have := HK.out.1; omega
                  clear h5 hh2 hat2 hd2 hn hn2 hB hk4 hik hi
                  go_wp2_with (first | (go_at_call 51; refine W2.out.mono ?_; rintro e w3 ⟨rfl, HR3, HB3⟩; have g3 := HR3.out.txt) | (go_at_call 52; refine (dfault_ok HR3.out _ _ (p + 1) (by first | rfl | omega)).mono ?_; rintro e w4 ⟨rfl, HR4, HB4⟩))
                  go_ret3
                  exact ⟨rfl, HR4, (HB2.out.trans HB3.out).trans HB4.out⟩
                · have HN := Lib.hid (lenB_next HBi.out hh2 hat2 h6)
                  obtain ⟨m, hm⟩ : ∃ m, 256 * n + d = m := ⟨_, rfl⟩
                  obtain ⟨y, hy⟩ : ∃ y, 256 * n = y := ⟨_, rfl⟩
                  rw [hm] at HN
                  have e10 : 256 * (n : Int) = (y : Int) := by omega
                  have e11 : (y : Int) + (d : Int) = (m : Int) := by omega
                  have e12 : IntKind.i64.wrap (y : Int) = (y : Int) := wrap_fit y (by unfold maxLen; omega)
                  have e13 : IntKind.i64.wrap (m : Int) = (m : Int) := wrap_fit m (by unfold maxLen; omega)
                  have hcase : (i = 0 ∧ ¬ d = 0) ∨ (∃ j, i = j + 1) := by
                    cases i with
                    | zero => exact .inl ⟨rfl, fun h => h6 ⟨rfl, h⟩⟩
                    | succ j => exact .inr ⟨j, rfl⟩
                  clear h5 hh2 hat2 hn hn2 hB h6 hm hy
                  rcases hcase with ⟨rfl, h7⟩ | ⟨j, rfl⟩
                  · have e14 : ((d : Int) == 0) = false := by rw [beq_eq_false_iff_ne]; omega
                    go_wp2_with (first | (go_at_call 51; refine W2.out.mono ?_; rintro e w3 ⟨rfl, HR3, HB3⟩; have g3 := HR3.out.txt))
                    go_roundw
                    case rel => exact ⟨0 + 1, m, rfl, rfl, by omega, HN.out, HR3, HB2.out.trans HB3.out⟩
                    case measure => simp [intOf]; omega
                  · have e14 : (((j + 1 + 1 : Nat) : Int) == 1) = false := by rw [beq_eq_false_iff_ne]; omega
                    go_wp2_with (first | (go_at_call 51; refine W2.out.mono ?_; rintro e w3 ⟨rfl, HR3, HB3⟩; have g3 := HR3.out.txt))
                    go_roundw
                    case rel => exact ⟨j + 1 + 1, m, by go_num, rfl, by omega, HN.out, HR3, HB2.out.trans HB3.out⟩
                    case measure => simp [intOf]; omega
              · obtain rfl : R = lack s.toList L := by
                  have h7 := lenB_lack HBi.out (has_no s L (p + i + 1) h5)
                  rw [dlack_eq] at h7 ⊢
                  rw [← HH.out.2.2]
                  refine lenR_no HH.out.1 HH.out.2.1 HK.out.2.1 HK.out.2.2.1 (lenB_no_le h7 ?_)
                  have := HK.out.1; omega
                have W2 := Lib.hid (dwant_no HR2.out ((p : Int) + ((i : Int) + 1)) (p + i + 1) (by omega) h5)
                rw [dlack_eq]
                clear h5 hn hn2 hB hk4 hik hi
                go_wp2_with (first | (go_at_call 51; refine W2.out.mono ?_; rintro e w3 ⟨rfl, HR3, HB3⟩))
                go_ret3
                exact ⟨rfl, HR3, HB2.out.trans HB3.out⟩
            · obtain rfl : i = k := by omega
              have e6 : ¬ ((i + 1 : Nat) : Int) ≤ (i : Int) := by omega
              by_cases h8 : n < 128
              · have e8 : (n : Int) < 128 := by omega
                obtain rfl : R = .no 9 (p + i) false := by
                  rw [← HH.out.2.2, ← HK.out.1]
                  refine lenR_small HH.out.1 HH.out.2.1 HK.out.2.1 HK.out.2.2.1 (n := n) ?_ h8
                  rw [HK.out.1]; exact HBi.out
                have e9 : (p : Int) + (b : Int) - 128 = ((p + i : Nat) : Int) := by omega
                clear h8 hi hn hn2 hB hk4 hik
                go_wp2_with (first | (go_at_call 52; refine (dfault_ok HR2.out _ _ (p + i) (by first | rfl | omega)).mono ?_; rintro e w3 ⟨rfl, HR3, HB3⟩))
                go_ret3
                exact ⟨rfl, HR3, HB2.out.trans HB3.out⟩
              · have e8 : ¬ (n : Int) < 128 := by omega
                obtain rfl : R = .ok (n, p + i + 1) := by
                  rw [← HH.out.2.2, ← HK.out.1]
                  refine lenR_long HH.out.1 HH.out.2.1 HK.out.2.1 HK.out.2.2.1 (n := n) ?_ h8
                  rw [HK.out.1]; exact HBi.out
                have e9 : (p : Int) + (b : Int) - 127 = ((p + i + 1 : Nat) : Int) := by omega
                clear h8 hi hn hn2 hB hk4 hik
                go_wp2_with fail
                go_ret3
                exact ⟨rfl, HR2, HB2⟩
  · obtain rfl : R = lack s.toList L := by rw [← hR]; exact lenR_lack (has_no s L p h1)
    have W := Lib.hid (dwant_no h (p : Int) p rfl h1)
    rw [dlack_eq]
    clear hR h h1 hs hp
    go_enter Tryd.func68, Tryd.ntmps68
    go_wp2_with (first | (go_at_call 51; refine W.out.mono ?_; rintro e w1 ⟨rfl, HR1, HB1⟩))
    go_ret3
    exact ⟨rfl, HR1, HB1⟩
end Go.Proofs.YteglahkgnggmgaaDoor
namespace Go.Proofs.YteglahkgnggmgaaDoor
open Go.RowKit
set_option linter.unusedVariables false
set_option linter.unusedSimpArgs false
open Dr
/-- the code in the first i bytes behind the first -/
def cdS (l : List UInt8) (c : Nat) : Nat → Nat
  | 0 => c
  | i + 1 => 64 * cdS l c i + (l.getD (i + 1) 0).toNat - 128
def contB (l : List UInt8) (i : Nat) : Bool := decide (128 ≤ (l.getD i 0).toNat ∧ (l.getD i 0).toNat ≤ 191)
def conts (l : List UInt8) : Nat → Bool
  | 0 => true
  | i + 1 => conts l i && contB l (i + 1)
def leastN (n : Nat) : Nat := if n = 2 then 128 else if n = 3 then 2048 else 65536
/-- a sign of so many bytes -/
def utfM (l : List UInt8) (n c : Nat) : Nat :=
  if l.length < n then 0 else if conts l (n - 1) = false then 0
  else if cdS l c (n - 1) < leastN n ∨ 1114111 < cdS l c (n - 1) ∨ (55296 ≤ cdS l c (n - 1) ∧ cdS l c (n - 1) < 57344) then 0 else n
/-- how many bytes the sign at the beginning has -/
def utfP (l : List UInt8) : Nat :=
  if l = [] then 0 else if (l.getD 0 0).toNat < 128 then 1
  else if 192 ≤ (l.getD 0 0).toNat ∧ (l.getD 0 0).toNat < 224 then utfM l 2 ((l.getD 0 0).toNat - 192)
  else if 224 ≤ (l.getD 0 0).toNat ∧ (l.getD 0 0).toNat < 240 then utfM l 3 ((l.getD 0 0).toNat - 224)
  else if 240 ≤ (l.getD 0 0).toNat ∧ (l.getD 0 0).toNat < 248 then utfM l 4 ((l.getD 0 0).toNat - 240)
  else 0
set_option maxRecDepth 100000 in
theorem cdS_lt (l : List UInt8) (c : Nat) : ∀ i, conts l i = true → cdS l c i < (c + 1) * 64 ^ i
  | 0, _ => by rw [Nat.pow_zero, Nat.mul_one]; exact Nat.lt_succ_self c
  | i + 1, h => by
    rw [conts, Bool.and_eq_true] at h
    have h1 := cdS_lt l c i h.1
    have h2 : 128 ≤ (l.getD (i + 1) 0).toNat ∧ (l.getD (i + 1) 0).toNat ≤ 191 := of_decide_eq_true h.2
    obtain ⟨y, hy⟩ : ∃ y, (c + 1) * 64 ^ i = y := ⟨_, rfl⟩
    obtain ⟨x, hx⟩ : ∃ x, (l.getD (i + 1) 0).toNat = x := ⟨_, rfl⟩
    rw [hy] at h1
    rw [hx] at h2
    show 64 * cdS l c i + (l.getD (i + 1) 0).toNat - 128 < _
    rw [Nat.pow_succ, ← Nat.mul_assoc, hy, hx]
    omega
theorem conts_le (l : List UInt8) : ∀ {i j : Nat}, i ≤ j → conts l i = false → conts l j = false
  | i, 0, h, hf => by obtain rfl : i = 0 := by omega
                      exact hf
  | i, j + 1, h, hf => by
    by_cases h1 : i = j + 1
    · rw [← h1]; exact hf
    · rw [conts, conts_le l (show i ≤ j by omega) hf]; rfl
theorem utfM_short {l : List UInt8} {n c : Nat} (h : l.length < n) : utfM l n c = 0 := by rw [utfM, if_pos h]
theorem utfM_cont {l : List UInt8} {n c i : Nat} (h : ¬ l.length < n) (hi : i ≤ n - 1) (hc : conts l i = false) : utfM l n c = 0 := by rw [utfM, if_neg h, if_pos (conts_le l hi hc)]
theorem utfM_code {l : List UInt8} {n c m : Nat} (h : ¬ l.length < n) (hc : conts l (n - 1) = true) (hm : cdS l c (n - 1) = m) : utfM l n c = if m < leastN n ∨ 1114111 < m ∨ (55296 ≤ m ∧ m < 57344) then 0 else n := by
  rw [utfM, if_neg h, if_neg (by rw [hc]; decide), hm]
theorem utfM2 {l : List UInt8} {n b1 c : Nat} (hn : l.length = n) (h1 : (l.getD 1 0).toNat = b1) : utfM l 2 c = if n < 2 ∨ b1 < 128 ∨ 191 < b1 ∨ 64 * c + b1 - 128 < 128 ∨ 1114111 < 64 * c + b1 - 128 ∨ (55296 ≤ 64 * c + b1 - 128 ∧ 64 * c + b1 - 128 < 57344) then 0 else 2 := by
  have e1 : conts l 1 = decide (128 ≤ b1 ∧ b1 ≤ 191) := by rw [← h1]; rfl
  have e2 : cdS l c 1 = 64 * c + b1 - 128 := by rw [← h1]; rfl
  rw [utfM, hn, show (2 - 1 : Nat) = 1 from rfl, e1, e2, show leastN 2 = 128 from rfl]
  obtain ⟨m, hm⟩ : ∃ m, 64 * c + b1 - 128 = m := ⟨_, rfl⟩
  rw [hm]
  by_cases q1 : n < 2
  · rw [if_pos q1, if_pos (.inl q1)]
  · rw [if_neg q1]
    by_cases q2 : 128 ≤ b1 ∧ b1 ≤ 191
    · rw [decide_eq_true q2, if_neg (by decide)]
      by_cases q3 : m < 128 ∨ 1114111 < m ∨ (55296 ≤ m ∧ m < 57344)
      · rw [if_pos q3, if_pos (by omega)]
      · rw [if_neg q3, if_neg (by omega)]
    · rw [decide_eq_false q2, if_pos rfl, if_pos (by omega)]
theorem utfM3 {l : List UInt8} {n b1 b2 c : Nat} (hn : l.length = n) (h1 : (l.getD 1 0).toNat = b1) (h2 : (l.getD 2 0).toNat = b2) : utfM l 3 c = if n < 3 ∨ b1 < 128 ∨ 191 < b1 ∨ b2 < 128 ∨ 191 < b2 ∨ 64 * (64 * c + b1 - 128) + b2 - 128 < 2048 ∨ 1114111 < 64 * (64 * c + b1 - 128) + b2 - 128 ∨ (55296 ≤ 64 * (64 * c + b1 - 128) + b2 - 128 ∧ 64 * (64 * c + b1 - 128) + b2 - 128 < 57344) then 0 else 3 := by
  have e1 : conts l 2 = (decide (128 ≤ b1 ∧ b1 ≤ 191) && decide (128 ≤ b2 ∧ b2 ≤ 191)) := by rw [← h1, ← h2]; rfl
  have e2 : cdS l c 2 = 64 * (64 * c + b1 - 128) + b2 - 128 := by rw [← h1, ← h2]; rfl
  rw [utfM, hn, show (3 - 1 : Nat) = 2 from rfl, e1, e2, show leastN 3 = 2048 from rfl, ← Bool.decide_and]
  obtain ⟨m, hm⟩ : ∃ m, 64 * (64 * c + b1 - 128) + b2 - 128 = m := ⟨_, rfl⟩
  rw [hm]
  by_cases q1 : n < 3
  · rw [if_pos q1, if_pos (.inl q1)]
  · rw [if_neg q1]
    by_cases q2 : (128 ≤ b1 ∧ b1 ≤ 191) ∧ (128 ≤ b2 ∧ b2 ≤ 191)
    · rw [decide_eq_true q2, if_neg (by decide)]
      by_cases q3 : m < 2048 ∨ 1114111 < m ∨ (55296 ≤ m ∧ m < 57344)
      · rw [if_pos q3, if_pos (by omega)]
      · rw [if_neg q3, if_neg (by omega)]
    · rw [decide_eq_false q2, if_pos rfl, if_pos (by omega)]
theorem utfM4 {l : List UInt8} {n b1 b2 b3 c : Nat} (hn : l.length = n) (h1 : (l.getD 1 0).toNat = b1) (h2 : (l.getD 2 0).toNat = b2) (h3 : (l.getD 3 0).toNat = b3) : utfM l 4 c = if n < 4 ∨ b1 < 128 ∨ 191 < b1 ∨ b2 < 128 ∨ 191 < b2 ∨ b3 < 128 ∨ 191 < b3 ∨ 64 * (64 * (64 * c + b1 - 128) + b2 - 128) + b3 - 128 < 65536 ∨ 1114111 < 64 * (64 * (64 * c + b1 - 128) + b2 - 128) + b3 - 128 ∨ (55296 ≤ 64 * (64 * (64 * c + b1 - 128) + b2 - 128) + b3 - 128 ∧ 64 * (64 * (64 * c + b1 - 128) + b2 - 128) + b3 - 128 < 57344) then 0 else 4 := by
  have e1 : conts l 3 = ((decide (128 ≤ b1 ∧ b1 ≤ 191) && decide (128 ≤ b2 ∧ b2 ≤ 191)) && decide (128 ≤ b3 ∧ b3 ≤ 191)) := by rw [← h1, ← h2, ← h3]; rfl
  have e2 : cdS l c 3 = 64 * (64 * (64 * c + b1 - 128) + b2 - 128) + b3 - 128 := by rw [← h1, ← h2, ← h3]; rfl
  rw [utfM, hn, show (4 - 1 : Nat) = 3 from rfl, e1, e2, show leastN 4 = 65536 from rfl, ← Bool.decide_and, ← Bool.decide_and]
  obtain ⟨m, hm⟩ : ∃ m, 64 * (64 * (64 * c + b1 - 128) + b2 - 128) + b3 - 128 = m := ⟨_, rfl⟩
  rw [hm]
  by_cases q1 : n < 4
  · rw [if_pos q1, if_pos (.inl q1)]
  · rw [if_neg q1]
    by_cases q2 : ((128 ≤ b1 ∧ b1 ≤ 191) ∧ (128 ≤ b2 ∧ b2 ≤ 191)) ∧ (128 ≤ b3 ∧ b3 ≤ 191)
    · rw [decide_eq_true q2, if_neg (by decide)]
      by_cases q3 : m < 65536 ∨ 1114111 < m ∨ (55296 ≤ m ∧ m < 57344)
      · rw [if_pos q3, if_pos (by omega)]
      · rw [if_neg q3, if_neg (by omega)]
    · rw [decide_eq_false q2, if_pos rfl, if_pos (by omega)]
theorem ck_eq {P Q : Prop} [Decidable P] [Decidable Q] (k : Nat) (h : P ↔ Q) : (if P then 0 else k) = (match (if Q then none else some k : Option Nat) with | none => 0 | some k => k) := by
  by_cases hq : Q
  · rw [if_pos hq, if_pos (h.2 hq)]
  · rw [if_neg hq, if_neg (fun hp => hq (h.1 hp))]
/-- the table's words of a first byte -/
theorem first_cases (b : Nat) (h : 128 ≤ b) (h2 : b < 256) : 
    ((b < 194 ∨ 244 < b) ∧ Lib.firstT b % 8 = 1) ∨
    (194 ≤ b ∧ b < 224 ∧ Lib.firstT b % 8 = 2 ∧ Lib.accLo (Lib.firstT b / 16) = 128 ∧ Lib.accHi (Lib.firstT b / 16) = 191) ∨
    (b = 224 ∧ Lib.firstT b % 8 = 3 ∧ Lib.accLo (Lib.firstT b / 16) = 160 ∧ Lib.accHi (Lib.firstT b / 16) = 191) ∨
    (224 < b ∧ b < 240 ∧ b ≠ 237 ∧ Lib.firstT b % 8 = 3 ∧ Lib.accLo (Lib.firstT b / 16) = 128 ∧ Lib.accHi (Lib.firstT b / 16) = 191) ∨
    (b = 237 ∧ Lib.firstT b % 8 = 3 ∧ Lib.accLo (Lib.firstT b / 16) = 128 ∧ Lib.accHi (Lib.firstT b / 16) = 159) ∨
    (b = 240 ∧ Lib.firstT b % 8 = 4 ∧ Lib.accLo (Lib.firstT b / 16) = 144 ∧ Lib.accHi (Lib.firstT b / 16) = 191) ∨
    (240 < b ∧ b < 244 ∧ Lib.firstT b % 8 = 4 ∧ Lib.accLo (Lib.firstT b / 16) = 128 ∧ Lib.accHi (Lib.firstT b / 16) = 191) ∨
    (b = 244 ∧ Lib.firstT b % 8 = 4 ∧ Lib.accLo (Lib.firstT b / 16) = 128 ∧ Lib.accHi (Lib.firstT b / 16) = 143) := by
  have : ∀ i : Fin 256, 128 ≤ i.val → (((i.val < 194 ∨ 244 < i.val) ∧ Lib.firstT i.val % 8 = 1) ∨
    (194 ≤ i.val ∧ i.val < 224 ∧ Lib.firstT i.val % 8 = 2 ∧ Lib.accLo (Lib.firstT i.val / 16) = 128 ∧ Lib.accHi (Lib.firstT i.val / 16) = 191) ∨
    (i.val = 224 ∧ Lib.firstT i.val % 8 = 3 ∧ Lib.accLo (Lib.firstT i.val / 16) = 160 ∧ Lib.accHi (Lib.firstT i.val / 16) = 191) ∨
    (224 < i.val ∧ i.val < 240 ∧ i.val ≠ 237 ∧ Lib.firstT i.val % 8 = 3 ∧ Lib.accLo (Lib.firstT i.val / 16) = 128 ∧ Lib.accHi (Lib.firstT i.val / 16) = 191) ∨
    (i.val = 237 ∧ Lib.firstT i.val % 8 = 3 ∧ Lib.accLo (Lib.firstT i.val / 16) = 128 ∧ Lib.accHi (Lib.firstT i.val / 16) = 159) ∨
    (i.val = 240 ∧ Lib.firstT i.val % 8 = 4 ∧ Lib.accLo (Lib.firstT i.val / 16) = 144 ∧ Lib.accHi (Lib.firstT i.val / 16) = 191) ∨
    (240 < i.val ∧ i.val < 244 ∧ Lib.firstT i.val % 8 = 4 ∧ Lib.accLo (Lib.firstT i.val / 16) = 128 ∧ Lib.accHi (Lib.firstT i.val / 16) = 191) ∨
    (i.val = 244 ∧ Lib.firstT i.val % 8 = 4 ∧ Lib.accLo (Lib.firstT i.val / 16) = 128 ∧ Lib.accHi (Lib.firstT i.val / 16) = 143)) := by decide +kernel
  exact this ⟨b, h2⟩ h
theorem validD_utf (l : List UInt8) (hne : l ≠ []) : Lib.validD l = if utfP l = 0 then false else Lib.validD (l.drop (utfP l)) := by
  by_cases h0 : (l.getD 0 0).toNat < 128
  · rw [show utfP l = 1 by rw [utfP, if_neg hne, if_pos h0], if_neg (by decide)]
    cases l with
    | nil => exact absurd rfl hne
    | cons b t => exact Lib.validD_cons b t h0
  · have hl : 0 < l.length := List.length_pos_iff.2 hne
    rw [Lib.validD_lead l hne (by omega)]
    obtain ⟨n, hn⟩ : ∃ n, l.length = n := ⟨_, rfl⟩
    obtain ⟨b0, h00⟩ : ∃ n, (l.getD 0 0).toNat = n := ⟨_, rfl⟩
    obtain ⟨b1, h01⟩ : ∃ n, (l.getD 1 0).toNat = n := ⟨_, rfl⟩
    obtain ⟨b2, h02⟩ : ∃ n, (l.getD 2 0).toNat = n := ⟨_, rfl⟩
    obtain ⟨b3, h03⟩ : ∃ n, (l.getD 3 0).toNat = n := ⟨_, rfl⟩
    have k0 : b0 < 256 := by rw [← h00]; exact (l.getD 0 0).toNat_lt
    have hU : utfP l = (match Lib.checkN n b1 b2 b3 (Lib.firstT b0 % 8) (Lib.accLo (Lib.firstT b0 / 16)) (Lib.accHi (Lib.firstT b0 / 16)) with
      | none => 0
      | some k => k) := by
      rw [utfP, if_neg hne, if_neg h0, utfM2 hn h01, utfM3 hn h01 h02, utfM4 hn h01 h02 h03, h00]
      rw [h00] at h0
      rcases first_cases b0 (by omega) k0 with ⟨h1, h2⟩ | ⟨h1, h1b, h2, h3, h4⟩ | ⟨h1, h2, h3, h4⟩ | ⟨h1, h1b, h1c, h2, h3, h4⟩ | ⟨h1, h2, h3, h4⟩ | ⟨h1, h2, h3, h4⟩ | ⟨h1, h1b, h2, h3, h4⟩ | ⟨h1, h2, h3, h4⟩
      · rw [h2, Lib.checkN, if_neg (show ¬ (1 : Nat) = 2 by decide), if_neg (show ¬ (1 : Nat) = 3 by decide), if_neg (show ¬ (1 : Nat) = 4 by decide)]
        show _ = 0
        by_cases c1 : 192 ≤ b0 ∧ b0 < 224
        · rw [if_pos c1]
          by_cases c2 : n < 2 ∨ b1 < 128 ∨ 191 < b1
          · rw [if_pos (by omega)]
          · rw [if_pos (by omega)]
        · rw [if_neg c1, if_neg (by omega)]
          by_cases c3 : 240 ≤ b0 ∧ b0 < 248
          · rw [if_pos c3]
            by_cases c2 : n < 4 ∨ b1 < 128 ∨ 191 < b1 ∨ b2 < 128 ∨ 191 < b2 ∨ b3 < 128 ∨ 191 < b3
            · rw [if_pos (by omega)]
            · rw [if_pos (by omega)]
          · rw [if_neg c3]
      · rw [h2, h3, h4, Lib.checkN, if_pos (show (2 : Nat) = 2 from rfl), if_pos (show 192 ≤ b0 ∧ b0 < 224 by omega)]
        exact ck_eq 2 (by omega)
      · rw [h2, h3, h4, Lib.checkN, if_neg (show ¬ (3 : Nat) = 2 by decide), if_pos (show (3 : Nat) = 3 from rfl), if_neg (show ¬ (192 ≤ b0 ∧ b0 < 224) by omega), if_pos (show 224 ≤ b0 ∧ b0 < 240 by omega)]
        exact ck_eq 3 (by omega)
      · rw [h2, h3, h4, Lib.checkN, if_neg (show ¬ (3 : Nat) = 2 by decide), if_pos (show (3 : Nat) = 3 from rfl), if_neg (show ¬ (192 ≤ b0 ∧ b0 < 224) by omega), if_pos (show 224 ≤ b0 ∧ b0 < 240 by omega)]
        exact ck_eq 3 (by omega)
      · rw [h2, h3, h4, Lib.checkN, if_neg (show ¬ (3 : Nat) = 2 by decide), if_pos (show (3 : Nat) = 3 from rfl), if_neg (show ¬ (192 ≤ b0 ∧ b0 < 224) by omega), if_pos (show 224 ≤ b0 ∧ b0 < 240 by omega)]
        exact ck_eq 3 (by omega)
      · rw [h2, h3, h4, Lib.checkN, if_neg (show ¬ (4 : Nat) = 2 by decide), if_neg (show ¬ (4 : Nat) = 3 by decide), if_pos (show (4 : Nat) = 4 from rfl), if_neg (show ¬ (192 ≤ b0 ∧ b0 < 224) by omega), if_neg (show ¬ (224 ≤ b0 ∧ b0 < 240) by omega), if_pos (show 240 ≤ b0 ∧ b0 < 248 by omega)]
        exact ck_eq 4 (by omega)
      · rw [h2, h3, h4, Lib.checkN, if_neg (show ¬ (4 : Nat) = 2 by decide), if_neg (show ¬ (4 : Nat) = 3 by decide), if_pos (show (4 : Nat) = 4 from rfl), if_neg (show ¬ (192 ≤ b0 ∧ b0 < 224) by omega), if_neg (show ¬ (224 ≤ b0 ∧ b0 < 240) by omega), if_pos (show 240 ≤ b0 ∧ b0 < 248 by omega)]
        exact ck_eq 4 (by omega)
      · rw [h2, h3, h4, Lib.checkN, if_neg (show ¬ (4 : Nat) = 2 by decide), if_neg (show ¬ (4 : Nat) = 3 by decide), if_pos (show (4 : Nat) = 4 from rfl), if_neg (show ¬ (192 ≤ b0 ∧ b0 < 224) by omega), if_neg (show ¬ (224 ≤ b0 ∧ b0 < 240) by omega), if_pos (show 240 ≤ b0 ∧ b0 < 248 by omega)]
        exact ck_eq 4 (by omega)
    rw [hn, h00, h01, h02, h03, hU]
    cases hc : Lib.checkN n b1 b2 b3 (Lib.firstT b0 % 8) (Lib.accLo (Lib.firstT b0 / 16)) (Lib.accHi (Lib.firstT b0 / 16)) with
    | none => rfl
    | some k =>
      dsimp only
      rw [if_neg]
      unfold Lib.checkN at hc
      repeat' split at hc
      all_goals first | (cases hc; decide) | cases hc
def RetI (n : Nat) (w : World) (e : Ending) (w' : World) : Prop := e = .returned (.int .i64 (n : Int)) ∧ Below w.heap.size w w'
set_option maxRecDepth 100000 in
set_option maxHeartbeats 1600000 in
theorem utf_2 (s : ByteArray) (b : Nat) (hb : (s.toList.getD 0 0).toNat = b) (h0 : 0 < s.size) (h1 : 192 ≤ b) (h2 : b < 224) (w : World) : Calls Tryd.prog 77 #[.string s] w (RetI (utfM s.toList 2 (b - 192)) w) := by
  obtain ⟨R, hR⟩ : ∃ R, utfM s.toList 2 (b - 192) = R := ⟨_, rfl⟩
  rw [hR]
  have hsp : (s[0]'h0).toNat = b := by rw [← tl_getD s 0 h0]; exact hb
  have hwb : IntKind.i64.wrap (b : Int) = (b : Int) := wrap_fit b (by unfold maxLen; omega)
  have e0 : ¬ (s.size : Int) = 0 := by omega
  have e1 : ¬ (b : Int) < 128 := by omega
  have c0 : (192 : Int) ≤ (b : Int) := by omega
  have c1 : (b : Int) < 224 := by omega
  obtain ⟨c, hc⟩ : ∃ c, b - 192 = c := ⟨_, rfl⟩
  have ec : (b : Int) - 192 = (c : Int) := by omega
  have hc2 : c < 32 := by omega
  rw [hc] at hR
  by_cases h3 : s.size < 2
  · have e3 : (s.size : Int) < 2 := by omega
    obtain rfl : R = 0 := by rw [← hR]; exact utfM_short (by rw [tl_size]; exact h3)
    clear hR hb h1 h2 hc h3 hc2
    go_enter Tryd.func77, Tryd.ntmps77
    go_wp2_with fail
    go_ret
    exact ⟨rfl, Below.refl _ _⟩
  · have e3 : ¬ (s.size : Int) < 2 := by omega
    have HR := Lib.hid (And.intro hR (And.intro h3 hc2))
    clear hR hb h1 h2 hc hc2
    go_enter Tryd.func77, Tryd.ntmps77
    go_wp2_with fail
    go_loop [4, 6] (fun vc vi => ∃ i m : Nat, vi = .int .i64 ((i + 1 : Nat) : Int) ∧ vc = .int .i64 (m : Int) ∧ i ≤ 1 ∧ conts s.toList i = true ∧ cdS s.toList c i = m) (fun _ vi => 2 - (intOf vi).toNat)
    case atStart => exact ⟨0, c, rfl, rfl, by omega, rfl, rfl⟩
    case round =>
      obtain ⟨i, m, rfl, rfl, hi, hco, hcd⟩ := hrel
      have hm : m < 32 * 64 ^ i := by
        have h4 := cdS_lt s.toList c i hco
        rw [hcd] at h4
        exact Nat.lt_of_lt_of_le h4 (Nat.mul_le_mul_right _ HR.out.2.2)
      have hm2 : m < 8388608 := Nat.lt_of_lt_of_le hm (Nat.le_trans (Nat.mul_le_mul_left 32 (Nat.pow_le_pow_right (by decide) (show i ≤ 3 by omega))) (by decide))
      by_cases hin : i < 1
      · have hlt : i + 1 < s.size := by omega
        obtain ⟨d, hd⟩ : ∃ d, (s.toList.getD (i + 1) 0).toNat = d := ⟨_, rfl⟩
        have hd2 : d < 256 := by rw [← hd]; exact (s.toList.getD (i + 1) 0).toNat_lt
        have hsd : s[i + 1].toNat = d := by rw [← tl_getD s _ hlt]; exact hd
        have hwd : IntKind.i64.wrap (d : Int) = (d : Int) := wrap_fit d (by unfold maxLen; omega)
        have e6 : ((i + 1 : Nat) : Int) < 2 := by omega
        have hct : contB s.toList (i + 1) = decide (128 ≤ d ∧ d ≤ 191) := by rw [contB, hd]
        by_cases h5 : 128 ≤ d ∧ d ≤ 191
        · have e7 : ¬ (d : Int) < 128 := by omega
          have e8 : ¬ (191 : Int) < (d : Int) := by omega
          have e7b : decide ((d : Int) < 128) = false := decide_eq_false e7
          have e8b : decide ((191 : Int) < (d : Int)) = false := decide_eq_false e8
          obtain ⟨y, hy⟩ : ∃ y, 64 * m = y := ⟨_, rfl⟩
          obtain ⟨z, hz⟩ : ∃ z, y + d = z := ⟨_, rfl⟩
          obtain ⟨x, hx⟩ : ∃ x, z - 128 = x := ⟨_, rfl⟩
          have e9 : 64 * (m : Int) = (y : Int) := by omega
          have e10 : (y : Int) + (d : Int) = (z : Int) := by omega
          have e11 : (z : Int) - 128 = (x : Int) := by omega
          have e12 : IntKind.i64.wrap (y : Int) = (y : Int) := wrap_fit y (by unfold maxLen; omega)
          have e13 : IntKind.i64.wrap (z : Int) = (z : Int) := wrap_fit z (by unfold maxLen; omega)
          have e14 : IntKind.i64.wrap (x : Int) = (x : Int) := wrap_fit x (by unfold maxLen; omega)
          have HN : Hid (conts s.toList (i + 1) = true ∧ cdS s.toList c (i + 1) = x) := by
            refine ⟨by rw [conts, hco, hct, decide_eq_true h5]; rfl, ?_⟩
            show 64 * cdS s.toList c i + (s.toList.getD (i + 1) 0).toNat - 128 = x
            rw [hcd, hd, hy, hz, hx]
          have HI := Lib.hid hin
          clear h5 hct hd hd2 hm hm2 hco hcd hi hy hz hx hin
          go_wp2_with fail
          go_round
          case rel => exact ⟨i + 1, x, by go_num, rfl, by have := HI.out; omega, HN.out.1, HN.out.2⟩
          case measure => have := HI.out; simp [intOf]; omega
        · obtain rfl : R = 0 := by
            rw [← HR.out.1]
            exact utfM_cont (i := i + 1) (by rw [tl_size]; exact h3) (by omega) (by rw [conts, hct, decide_eq_false h5]; exact Bool.and_false _)
          by_cases h6 : d < 128
          · have e7 : (d : Int) < 128 := by omega
            clear h5 hct hd hd2 hm hm2 hco hcd hi hin h6
            go_wp2_with fail
            go_ret
            exact ⟨rfl, Below.refl _ _⟩
          · have e7 : ¬ (d : Int) < 128 := by omega
            have e8 : (191 : Int) < (d : Int) := by omega
            clear h5 hct hd hd2 hm hm2 hco hcd hi hin h6
            go_wp2_with fail
            go_ret
            exact ⟨rfl, Below.refl _ _⟩
      · obtain rfl : i = 1 := by omega
        have hmx := utfM_code (n := 2) (by rw [tl_size]; exact h3) hco hcd
        rw [HR.out.1, show leastN 2 = 128 from rfl] at hmx
        have HB : Hid (Below w.heap.size w (w.alloc (Obj.cells #[.int .i64 0, .int .i64 0, .int .i64 128, .int .i64 2048, .int .i64 65536] 128))) := (Below.refl _ _).alloc (Nat.le_refl _) _
        clear hm hm2 hco hcd hi hin
        by_cases h5 : m < 128
        · have e5 : (m : Int) < 128 := by omega
          rw [if_pos (.inl h5)] at hmx
          subst hmx
          clear h5
          go_wp2_with fail
          go_ret
          exact ⟨rfl, HB.out⟩
        · have e5 : ¬ (m : Int) < 128 := by omega
          have e5b : decide ((m : Int) < 128) = false := decide_eq_false e5
          by_cases h6 : 1114111 < m
          · have e6 : (1114111 : Int) < (m : Int) := by omega
            rw [if_pos (.inr (.inl h6))] at hmx
            subst hmx
            clear h5 h6
            go_wp2_with fail
            go_ret
            exact ⟨rfl, HB.out⟩
          · have e6 : ¬ (1114111 : Int) < (m : Int) := by omega
            have e6b : decide ((1114111 : Int) < (m : Int)) = false := decide_eq_false e6
            by_cases h7 : 55296 ≤ m
            · have e7 : (55296 : Int) ≤ (m : Int) := by omega
              by_cases h8 : m < 57344
              · have e8 : (m : Int) < 57344 := by omega
                rw [if_pos (.inr (.inr ⟨h7, h8⟩))] at hmx
                subst hmx
                clear h5 h6 h7 h8
                go_wp2_with fail
                go_ret
                exact ⟨rfl, HB.out⟩
              · have e8 : ¬ (m : Int) < 57344 := by omega
                have e8b : decide ((m : Int) < 57344) = false := decide_eq_false e8
                rw [if_neg (by omega)] at hmx
                subst hmx
                clear h5 h6 h7 h8
                go_wp2_with fail
                go_ret
                exact ⟨rfl, HB.out⟩
            · have e7 : ¬ (55296 : Int) ≤ (m : Int) := by omega
              have e7b : decide ((55296 : Int) ≤ (m : Int)) = false := decide_eq_false e7
              rw [if_neg (by omega)] at hmx
              subst hmx
              clear h5 h6 h7
              go_wp2_with fail
              go_ret
              exact ⟨rfl, HB.out⟩
set_option maxRecDepth 100000 in
set_option maxHeartbeats 1600000 in
theorem utf_3 (s : ByteArray) (b : Nat) (hb : (s.toList.getD 0 0).toNat = b) (h0 : 0 < s.size) (h1 : 224 ≤ b) (h2 : b < 240) (w : World) : Calls Tryd.prog 77 #[.string s] w (RetI (utfM s.toList 3 (b - 224)) w) := by
  obtain ⟨R, hR⟩ : ∃ R, utfM s.toList 3 (b - 224) = R := ⟨_, rfl⟩
  rw [hR]
  have hsp : (s[0]'h0).toNat = b := by rw [← tl_getD s 0 h0]; exact hb
  have hwb : IntKind.i64.wrap (b : Int) = (b : Int) := wrap_fit b (by unfold maxLen; omega)
  have e0 : ¬ (s.size : Int) = 0 := by omega
  have e1 : ¬ (b : Int) < 128 := by omega
  have c0 : ¬ (b : Int) < 224 := by omega
  have c1 : (192 : Int) ≤ (b : Int) := by omega
  have c2 : (224 : Int) ≤ (b : Int) := by omega
  have c3 : (b : Int) < 240 := by omega
  obtain ⟨c, hc⟩ : ∃ c, b - 224 = c := ⟨_, rfl⟩
  have ec : (b : Int) - 224 = (c : Int) := by omega
  have hc2 : c < 32 := by omega
  rw [hc] at hR
  by_cases h3 : s.size < 3
  · have e3 : (s.size : Int) < 3 := by omega
    obtain rfl : R = 0 := by rw [← hR]; exact utfM_short (by rw [tl_size]; exact h3)
    clear hR hb h1 h2 hc h3 hc2
    go_enter Tryd.func77, Tryd.ntmps77
    go_wp2_with fail
    go_ret
    exact ⟨rfl, Below.refl _ _⟩
  · have e3 : ¬ (s.size : Int) < 3 := by omega
    have HR := Lib.hid (And.intro hR (And.intro h3 hc2))
    clear hR hb h1 h2 hc hc2
    go_enter Tryd.func77, Tryd.ntmps77
    go_wp2_with fail
    go_loop [4, 6] (fun vc vi => ∃ i m : Nat, vi = .int .i64 ((i + 1 : Nat) : Int) ∧ vc = .int .i64 (m : Int) ∧ i ≤ 2 ∧ conts s.toList i = true ∧ cdS s.toList c i = m) (fun _ vi => 3 - (intOf vi).toNat)
    case atStart => exact ⟨0, c, rfl, rfl, by omega, rfl, rfl⟩
    case round =>
      obtain ⟨i, m, rfl, rfl, hi, hco, hcd⟩ := hrel
      have hm : m < 32 * 64 ^ i := by
        have h4 := cdS_lt s.toList c i hco
        rw [hcd] at h4
        exact Nat.lt_of_lt_of_le h4 (Nat.mul_le_mul_right _ HR.out.2.2)
      have hm2 : m < 8388608 := Nat.lt_of_lt_of_le hm (Nat.le_trans (Nat.mul_le_mul_left 32 (Nat.pow_le_pow_right (by decide) (show i ≤ 3 by omega))) (by decide))
      by_cases hin : i < 2
      · have hlt : i + 1 < s.size := by omega
        obtain ⟨d, hd⟩ : ∃ d, (s.toList.getD (i + 1) 0).toNat = d := ⟨_, rfl⟩
        have hd2 : d < 256 := by rw [← hd]; exact (s.toList.getD (i + 1) 0).toNat_lt
        have hsd : s[i + 1].toNat = d := by rw [← tl_getD s _ hlt]; exact hd
        have hwd : IntKind.i64.wrap (d : Int) = (d : Int) := wrap_fit d (by unfold maxLen; omega)
        have e6 : ((i + 1 : Nat) : Int) < 3 := by omega
        have hct : contB s.toList (i + 1) = decide (128 ≤ d ∧ d ≤ 191) := by rw [contB, hd]
        by_cases h5 : 128 ≤ d ∧ d ≤ 191
        · have e7 : ¬ (d : Int) < 128 := by omega
          have e8 : ¬ (191 : Int) < (d : Int) := by omega
          have e7b : decide ((d : Int) < 128) = false := decide_eq_false e7
          have e8b : decide ((191 : Int) < (d : Int)) = false := decide_eq_false e8
          obtain ⟨y, hy⟩ : ∃ y, 64 * m = y := ⟨_, rfl⟩
          obtain ⟨z, hz⟩ : ∃ z, y + d = z := ⟨_, rfl⟩
          obtain ⟨x, hx⟩ : ∃ x, z - 128 = x := ⟨_, rfl⟩
          have e9 : 64 * (m : Int) = (y : Int) := by omega
          have e10 : (y : Int) + (d : Int) = (z : Int) := by omega
          have e11 : (z : Int) - 128 = (x : Int) := by omega
          have e12 : IntKind.i64.wrap (y : Int) = (y : Int) := wrap_fit y (by unfold maxLen; omega)
          have e13 : IntKind.i64.wrap (z : Int) = (z : Int) := wrap_fit z (by unfold maxLen; omega)
          have e14 : IntKind.i64.wrap (x : Int) = (x : Int) := wrap_fit x (by unfold maxLen; omega)
          have HN : Hid (conts s.toList (i + 1) = true ∧ cdS s.toList c (i + 1) = x) := by
            refine ⟨by rw [conts, hco, hct, decide_eq_true h5]; rfl, ?_⟩
            show 64 * cdS s.toList c i + (s.toList.getD (i + 1) 0).toNat - 128 = x
            rw [hcd, hd, hy, hz, hx]
          have HI := Lib.hid hin
          clear h5 hct hd hd2 hm hm2 hco hcd hi hy hz hx hin
          go_wp2_with fail
          go_round
          case rel => exact ⟨i + 1, x, by go_num, rfl, by have := HI.out; omega, HN.out.1, HN.out.2⟩
          case measure => have := HI.out; simp [intOf]; omega
        · obtain rfl : R = 0 := by
            rw [← HR.out.1]
            exact utfM_cont (i := i + 1) (by rw [tl_size]; exact h3) (by omega) (by rw [conts, hct, decide_eq_false h5]; exact Bool.and_false _)
          by_cases h6 : d < 128
          · have e7 : (d : Int) < 128 := by omega
            clear h5 hct hd hd2 hm hm2 hco hcd hi hin h6
            go_wp2_with fail
            go_ret
            exact ⟨rfl, Below.refl _ _⟩
          · have e7 : ¬ (d : Int) < 128 := by omega
            have e8 : (191 : Int) < (d : Int) := by omega
            clear h5 hct hd hd2 hm hm2 hco hcd hi hin h6
            go_wp2_with fail
            go_ret
            exact ⟨rfl, Below.refl _ _⟩
      · obtain rfl : i = 2 := by omega
        have hmx := utfM_code (n := 3) (by rw [tl_size]; exact h3) hco hcd
        rw [HR.out.1, show leastN 3 = 2048 from rfl] at hmx
        have HB : Hid (Below w.heap.size w (w.alloc (Obj.cells #[.int .i64 0, .int .i64 0, .int .i64 128, .int .i64 2048, .int .i64 65536] 128))) := (Below.refl _ _).alloc (Nat.le_refl _) _
        clear hm hm2 hco hcd hi hin
        by_cases h5 : m < 2048
        · have e5 : (m : Int) < 2048 := by omega
          rw [if_pos (.inl h5)] at hmx
          subst hmx
          clear h5
          go_wp2_with fail
          go_ret
          exact ⟨rfl, HB.out⟩
        · have e5 : ¬ (m : Int) < 2048 := by omega
          have e5b : decide ((m : Int) < 2048) = false := decide_eq_false e5
          by_cases h6 : 1114111 < m
          · have e6 : (1114111 : Int) < (m : Int) := by omega
            rw [if_pos (.inr (.inl h6))] at hmx
            subst hmx
            clear h5 h6
            go_wp2_with fail
            go_ret
            exact ⟨rfl, HB.out⟩
          · have e6 : ¬ (1114111 : Int) < (m : Int) := by omega
            have e6b : decide ((1114111 : Int) < (m : Int)) = false := decide_eq_false e6
            by_cases h7 : 55296 ≤ m
            · have e7 : (55296 : Int) ≤ (m : Int) := by omega
              by_cases h8 : m < 57344
              · have e8 : (m : Int) < 57344 := by omega
                rw [if_pos (.inr (.inr ⟨h7, h8⟩))] at hmx
                subst hmx
                clear h5 h6 h7 h8
                go_wp2_with fail
                go_ret
                exact ⟨rfl, HB.out⟩
              · have e8 : ¬ (m : Int) < 57344 := by omega
                have e8b : decide ((m : Int) < 57344) = false := decide_eq_false e8
                rw [if_neg (by omega)] at hmx
                subst hmx
                clear h5 h6 h7 h8
                go_wp2_with fail
                go_ret
                exact ⟨rfl, HB.out⟩
            · have e7 : ¬ (55296 : Int) ≤ (m : Int) := by omega
              have e7b : decide ((55296 : Int) ≤ (m : Int)) = false := decide_eq_false e7
              rw [if_neg (by omega)] at hmx
              subst hmx
              clear h5 h6 h7
              go_wp2_with fail
              go_ret
              exact ⟨rfl, HB.out⟩
set_option maxRecDepth 100000 in
set_option maxHeartbeats 1600000 in
theorem utf_4 (s : ByteArray) (b : Nat) (hb : (s.toList.getD 0 0).toNat = b) (h0 : 0 < s.size) (h1 : 240 ≤ b) (h2 : b < 248) (w : World) : Calls Tryd.prog 77 #[.string s] w (RetI (utfM s.toList 4 (b - 240)) w) := by
  obtain ⟨R, hR⟩ : ∃ R, utfM s.toList 4 (b - 240) = R := ⟨_, rfl⟩
  rw [hR]
  have hsp : (s[0]'h0).toNat = b := by rw [← tl_getD s 0 h0]; exact hb
  have hwb : IntKind.i64.wrap (b : Int) = (b : Int) := wrap_fit b (by unfold maxLen; omega)
  have e0 : ¬ (s.size : Int) = 0 := by omega
  have e1 : ¬ (b : Int) < 128 := by omega
  have c0 : ¬ (b : Int) < 224 := by omega
  have c1 : (192 : Int) ≤ (b : Int) := by omega
  have c2 : (224 : Int) ≤ (b : Int) := by omega
  have c3 : ¬ (b : Int) < 240 := by omega
  have c4 : (240 : Int) ≤ (b : Int) := by omega
  have c5 : (b : Int) < 248 := by omega
  obtain ⟨c, hc⟩ : ∃ c, b - 240 = c := ⟨_, rfl⟩
  have ec : (b : Int) - 240 = (c : Int) := by omega
  have hc2 : c < 32 := by omega
  rw [hc] at hR
  by_cases h3 : s.size < 4
  · have e3 : (s.size : Int) < 4 := by omega
    obtain rfl : R = 0 := by rw [← hR]; exact utfM_short (by rw [tl_size]; exact h3)
    clear hR hb h1 h2 hc h3 hc2
    go_enter Tryd.func77, Tryd.ntmps77
    go_wp2_with fail
    go_ret
    exact ⟨rfl, Below.refl _ _⟩
  · have e3 : ¬ (s.size : Int) < 4 := by omega
    have HR := Lib.hid (And.intro hR (And.intro h3 hc2))
    clear hR hb h1 h2 hc hc2
    go_enter Tryd.func77, Tryd.ntmps77
    go_wp2_with fail
    go_loop [4, 6] (fun vc vi => ∃ i m : Nat, vi = .int .i64 ((i + 1 : Nat) : Int) ∧ vc = .int .i64 (m : Int) ∧ i ≤ 3 ∧ conts s.toList i = true ∧ cdS s.toList c i = m) (fun _ vi => 4 - (intOf vi).toNat)
    case atStart => exact ⟨0, c, rfl, rfl, by omega, rfl, rfl⟩
    case round =>
      obtain ⟨i, m, rfl, rfl, hi, hco, hcd⟩ := hrel
      have hm : m < 32 * 64 ^ i := by
        have h4 := cdS_lt s.toList c i hco
        rw [hcd] at h4
        exact Nat.lt_of_lt_of_le h4 (Nat.mul_le_mul_right _ HR.out.2.2)
      have hm2 : m < 8388608 := Nat.lt_of_lt_of_le hm (Nat.le_trans (Nat.mul_le_mul_left 32 (Nat.pow_le_pow_right (by decide) (show i ≤ 3 by omega))) (by decide))
      by_cases hin : i < 3
      · have hlt : i + 1 < s.size := by omega
        obtain ⟨d, hd⟩ : ∃ d, (s.toList.getD (i + 1) 0).toNat = d := ⟨_, rfl⟩
        have hd2 : d < 256 := by rw [← hd]; exact (s.toList.getD (i + 1) 0).toNat_lt
        have hsd : s[i + 1].toNat = d := by rw [← tl_getD s _ hlt]; exact hd
        have hwd : IntKind.i64.wrap (d : Int) = (d : Int) := wrap_fit d (by unfold maxLen; omega)
        have e6 : ((i + 1 : Nat) : Int) < 4 := by omega
        have hct : contB s.toList (i + 1) = decide (128 ≤ d ∧ d ≤ 191) := by rw [contB, hd]
        by_cases h5 : 128 ≤ d ∧ d ≤ 191
        · have e7 : ¬ (d : Int) < 128 := by omega
          have e8 : ¬ (191 : Int) < (d : Int) := by omega
          have e7b : decide ((d : Int) < 128) = false := decide_eq_false e7
          have e8b : decide ((191 : Int) < (d : Int)) = false := decide_eq_false e8
          obtain ⟨y, hy⟩ : ∃ y, 64 * m = y := ⟨_, rfl⟩
          obtain ⟨z, hz⟩ : ∃ z, y + d = z := ⟨_, rfl⟩
          obtain ⟨x, hx⟩ : ∃ x, z - 128 = x := ⟨_, rfl⟩
          have e9 : 64 * (m : Int) = (y : Int) := by omega
          have e10 : (y : Int) + (d : Int) = (z : Int) := by omega
          have e11 : (z : Int) - 128 = (x : Int) := by omega
          have e12 : IntKind.i64.wrap (y : Int) = (y : Int) := wrap_fit y (by unfold maxLen; omega)
          have e13 : IntKind.i64.wrap (z : Int) = (z : Int) := wrap_fit z (by unfold maxLen; omega)
          have e14 : IntKind.i64.wrap (x : Int) = (x : Int) := wrap_fit x (by unfold maxLen; omega)
          have HN : Hid (conts s.toList (i + 1) = true ∧ cdS s.toList c (i + 1) = x) := by
            refine ⟨by rw [conts, hco, hct, decide_eq_true h5]; rfl, ?_⟩
            show 64 * cdS s.toList c i + (s.toList.getD (i + 1) 0).toNat - 128 = x
            rw [hcd, hd, hy, hz, hx]
          have HI := Lib.hid hin
          clear h5 hct hd hd2 hm hm2 hco hcd hi hy hz hx hin
          go_wp2_with fail
          go_round
          case rel => exact ⟨i + 1, x, by go_num, rfl, by have := HI.out; omega, HN.out.1, HN.out.2⟩
          case measure => have := HI.out; simp [intOf]; omega
        · obtain rfl : R = 0 := by
            rw [← HR.out.1]
            exact utfM_cont (i := i + 1) (by rw [tl_size]; exact h3) (by omega) (by rw [conts, hct, decide_eq_false h5]; exact Bool.and_false _)
          by_cases h6 : d < 128
          · have e7 : (d : Int) < 128 := by omega
            clear h5 hct hd hd2 hm hm2 hco hcd hi hin h6
            go_wp2_with fail
            go_ret
            exact ⟨rfl, Below.refl _ _⟩
          · have e7 : ¬ (d : Int) < 128 := by omega
            have e8 : (191 : Int) < (d : Int) := by omega
            clear h5 hct hd hd2 hm hm2 hco hcd hi hin h6
            go_wp2_with fail
            go_ret
            exact ⟨rfl, Below.refl _ _⟩
      · obtain rfl : i = 3 := by omega
        have hmx := utfM_code (n := 4) (by rw [tl_size]; exact h3) hco hcd
        rw [HR.out.1, show leastN 4 = 65536 from rfl] at hmx
        have HB : Hid (Below w.heap.size w (w.alloc (Obj.cells #[.int .i64 0, .int .i64 0, .int .i64 128, .int .i64 2048, .int .i64 65536] 128))) := (Below.refl _ _).alloc (Nat.le_refl _) _
        clear hm hm2 hco hcd hi hin
        by_cases h5 : m < 65536
        · have e5 : (m : Int) < 65536 := by omega
          rw [if_pos (.inl h5)] at hmx
          subst hmx
          clear h5
          go_wp2_with fail
          go_ret
          exact ⟨rfl, HB.out⟩
        · have e5 : ¬ (m : Int) < 65536 := by omega
          have e5b : decide ((m : Int) < 65536) = false := decide_eq_false e5
          by_cases h6 : 1114111 < m
          · have e6 : (1114111 : Int) < (m : Int) := by omega
            rw [if_pos (.inr (.inl h6))] at hmx
            subst hmx
            clear h5 h6
            go_wp2_with fail
            go_ret
            exact ⟨rfl, HB.out⟩
          · have e6 : ¬ (1114111 : Int) < (m : Int) := by omega
            have e6b : decide ((1114111 : Int) < (m : Int)) = false := decide_eq_false e6
            by_cases h7 : 55296 ≤ m
            · have e7 : (55296 : Int) ≤ (m : Int) := by omega
              by_cases h8 : m < 57344
              · exact absurd h8 (by omega)
              · have e8 : ¬ (m : Int) < 57344 := by omega
                have e8b : decide ((m : Int) < 57344) = false := decide_eq_false e8
                rw [if_neg (by omega)] at hmx
                subst hmx
                clear h5 h6 h7 h8
                go_wp2_with fail
                go_ret
                exact ⟨rfl, HB.out⟩
            · exact absurd h7 (by omega)
set_option maxRecDepth 100000 in
set_option maxHeartbeats 1600000 in
theorem utf_any (s : ByteArray) (w : World) : Calls Tryd.prog 77 #[.string s] w (RetI (utfP s.toList) w) := by
  by_cases hs : s.size = 0
  · have e0 : (s.size : Int) = 0 := by omega
    have hn : s.toList = [] := by rw [← List.length_eq_zero_iff, tl_size]; exact hs
    rw [utfP, if_pos hn]
    clear hn hs
    go_enter Tryd.func77, Tryd.ntmps77
    go_wp2_with fail
    go_ret
    exact ⟨rfl, Below.refl _ _⟩
  · have hn : ¬ s.toList = [] := by rw [← List.length_eq_zero_iff, tl_size]; exact hs
    have h0 : 0 < s.size := by omega
    obtain ⟨b, hb⟩ : ∃ b, (s.toList.getD 0 0).toNat = b := ⟨_, rfl⟩
    have hb2 : b < 256 := by rw [← hb]; exact (s.toList.getD 0 0).toNat_lt
    have hsp : (s[0]'h0).toNat = b := by rw [← tl_getD s 0 h0]; exact hb
    have hwb : IntKind.i64.wrap (b : Int) = (b : Int) := wrap_fit b (by unfold maxLen; omega)
    have e0 : ¬ (s.size : Int) = 0 := by omega
    rw [utfP, if_neg hn, hb]
    by_cases h1 : b < 128
    · have e1 : (b : Int) < 128 := by omega
      rw [if_pos h1]
      clear hb h1 hs hn hb2
      go_enter Tryd.func77, Tryd.ntmps77
      go_wp2_with fail
      go_ret
      exact ⟨rfl, Below.refl _ _⟩
    · rw [if_neg h1]
      by_cases h2 : 192 ≤ b ∧ b < 224
      · rw [if_pos h2]; exact utf_2 s b hb h0 h2.1 h2.2 w
      · rw [if_neg h2]
        by_cases h3 : 224 ≤ b ∧ b < 240
        · rw [if_pos h3]; exact utf_3 s b hb h0 h3.1 h3.2 w
        · rw [if_neg h3]
          by_cases h4 : 240 ≤ b ∧ b < 248
          · rw [if_pos h4]; exact utf_4 s b hb h0 h4.1 h4.2 w
          · rw [if_neg h4]
            have e1 : ¬ (b : Int) < 128 := by omega
            by_cases h5 : b < 192
            · have e2 : ¬ (192 : Int) ≤ (b : Int) := by omega
              have e3 : ¬ (224 : Int) ≤ (b : Int) := by omega
              have e4 : ¬ (240 : Int) ≤ (b : Int) := by omega
              have e2b : decide ((192 : Int) ≤ (b : Int)) = false := decide_eq_false e2
              have e3b : decide ((224 : Int) ≤ (b : Int)) = false := decide_eq_false e3
              have e4b : decide ((240 : Int) ≤ (b : Int)) = false := decide_eq_false e4
              clear hb h1 hs hn hb2 h2 h3 h4 h5
              go_enter Tryd.func77, Tryd.ntmps77
              go_wp2_with fail
              go_ret
              exact ⟨rfl, Below.refl _ _⟩
            · have e2 : (192 : Int) ≤ (b : Int) := by omega
              have e3 : (224 : Int) ≤ (b : Int) := by omega
              have e4 : (240 : Int) ≤ (b : Int) := by omega
              have e5 : ¬ (b : Int) < 224 := by omega
              have e6 : ¬ (b : Int) < 240 := by omega
              have e7 : ¬ (b : Int) < 248 := by omega
              have e5b : decide ((b : Int) < 224) = false := decide_eq_false e5
              have e6b : decide ((b : Int) < 240) = false := decide_eq_false e6
              have e7b : decide ((b : Int) < 248) = false := decide_eq_false e7
              clear hb h1 hs hn hb2 h2 h3 h4 h5
              go_enter Tryd.func77, Tryd.ntmps77
              go_wp2_with fail
              go_ret
              exact ⟨rfl, Below.refl _ _⟩
theorem utfP_le (l : List UInt8) : utfP l ≤ l.length := by
  unfold utfP utfM
  repeat' split
  all_goals first | omega | (rename_i h _; exact Nat.succ_le_of_lt (List.length_pos_iff.2 h))
set_option maxRecDepth 100000 in
set_option maxHeartbeats 1600000 in
theorem text_any (s : ByteArray) (w : World) (hz : s.size ≤ 140737488351232) : Calls Tryd.prog 60 #[.string s] w (RetBb2 (Lib.validD s.toList) w) := by
  obtain ⟨R, hR⟩ : ∃ R, Lib.validD s.toList = R := ⟨_, rfl⟩
  rw [hR]
  have HR := Lib.hid hR
  have HZ := Lib.hid hz
  clear hR
  go_enter Tryd.func60, Tryd.ntmps60
  go_wp2_with fail
  go_loopw [3] (fun va wr => ∃ a : Nat, va = .int .i64 (a : Int) ∧ a ≤ s.size ∧ Hid (Lib.validD (s.toList.drop a) = R) ∧ Hid (Below w.heap.size w wr)) (fun va _ => s.size - (intOf va).toNat)
  case atStart => exact ⟨0, rfl, Nat.zero_le _, HR.out, Below.refl _ _⟩
  case round =>
    obtain ⟨a, rfl, ha, HV, HB⟩ := hrel
    by_cases h1 : a < s.size
    · have e1 : (a : Int) < (s.size : Int) := by omega
      have hne : s.toList.drop a ≠ [] := by
        intro h
        have := congrArg List.length h
        rw [List.length_drop, tl_size] at this
        simp at this
        omega
      obtain ⟨u, hu⟩ : ∃ u, s.extract a s.size = u := ⟨_, rfl⟩
      have hul : u.toList = s.toList.drop a := by rw [← hu, tl_extract, List.take_of_length_le (by rw [List.length_drop, tl_size]; exact Nat.le_refl _)]
      have U := Lib.hid (fun w' => utf_any u w')
      have hst := validD_utf _ hne
      rw [← hul] at hst
      have hle := utfP_le u.toList
      rw [hul, List.length_drop, tl_size] at hle
      rw [← hul] at hle
      obtain ⟨n, hn⟩ : ∃ n, utfP u.toList = n := ⟨_, rfl⟩
      rw [hn] at U hst hle
      have HA := Lib.hid (And.intro ha h1)
      have hV2 := HV.out
      rw [← hul] at hV2
      rw [hV2] at hst
      by_cases h2 : n = 0
      · subst h2
        rw [if_pos rfl] at hst
        obtain rfl : R = false := hst
        clear hne hle hn h1 ha
        go_wp2_with (first | (go_at_call 77; refine (U.out _).mono ?_; rintro e w1 ⟨rfl, hb1⟩))
        go_ret
        exact ⟨rfl, HB.out.trans (hb1.mono HB.out.size)⟩
      · rw [if_neg h2] at hst
        have e2 : ¬ (n : Int) = 0 := by omega
        obtain ⟨b, hb⟩ : ∃ b, a + n = b := ⟨_, rfl⟩
        have e3 : (a : Int) + (n : Int) = (b : Int) := by omega
        have e4 : IntKind.i64.wrap (b : Int) = (b : Int) := wrap_fit b (by unfold maxLen; omega)
        have HN : Hid (b ≤ s.size ∧ a < b ∧ Lib.validD (s.toList.drop b) = R) := ⟨by omega, by omega, by rw [hst, hul, List.drop_drop, hb]⟩
        clear hst hne hle hn h1 ha h2 hb
        go_wp2_with (first | (go_at_call 77; refine (U.out _).mono ?_; rintro e w1 ⟨rfl, hb1⟩; have HB1 : Hid (Below w.heap.size w w1) := HB.out.trans (hb1.mono HB.out.size); clear hb1))
        go_roundw
        case rel => exact ⟨b, rfl, HN.out.1, HN.out.2.2, HB1⟩
        case measure => have h1 := HN.out.1; have h2 := HN.out.2.1; simp [intOf]; omega
    · obtain rfl : a = s.size := by omega
      have e1 : ¬ (s.size : Int) < (s.size : Int) := by omega
      have hV2 := HV.out
      rw [List.drop_of_length_le (by rw [tl_size]; exact Nat.le_refl _)] at hV2
      obtain rfl : R = true := by rw [← hV2]; rfl
      clear hV2
      go_wp2_with fail
      go_ret
      exact ⟨rfl, HB.out⟩
end Go.Proofs.YteglahkgnggmgaaDoor
namespace Go.Proofs.YteglahkgnggmgaaDoor
open Go.RowKit
set_option linter.unusedVariables false
set_option linter.unusedSimpArgs false
open Dr
theorem bit_next (x i : Nat) (h : x % 2 ^ i = 0) (hb : x / 2 ^ i % 2 = 0) : x % 2 ^ (i + 1) = 0 := by
  rw [Nat.pow_succ, Nat.mod_mul, h, hb]
  rfl
theorem bit_stop (x i a : Nat) (h : i < a) (hb : x / 2 ^ i % 2 = 1) : ¬ x % 2 ^ a = 0 := fun h0 => by
  obtain ⟨k, rfl⟩ : ∃ k, a = i + 1 + k := ⟨a - i - 1, by omega⟩
  have h1 : x % 2 ^ (i + 1) = 0 := by
    have h2 : x % 2 ^ (i + 1 + k) % 2 ^ (i + 1) = x % 2 ^ (i + 1) := Nat.mod_mod_of_dvd x (Nat.pow_dvd_pow 2 (Nat.le_add_right _ _))
    rw [← h2, h0, Nat.zero_mod]
  rw [Nat.pow_succ, Nat.mod_mul, hb] at h1
  have h3 : 0 < 2 ^ i := Nat.pow_pos (by decide)
  omega
set_option maxRecDepth 100000 in
set_option maxHeartbeats 1600000 in
theorem rbody_1 (s : ByteArray) (w : World) : Calls Tryd.prog 38 #[.int .u8 1, .string s] w (RetBb2 (bodyN 1 s.toList) w) := by
  rw [show bodyN 1 s.toList = decide (s.toList = [0] ∨ s.toList = [255]) from rfl]
  by_cases h1 : s.size = 1
  · have hlt : 0 < s.size := by omega
    obtain ⟨b, hb⟩ : ∃ b, (s[0]'hlt).toNat = b := ⟨_, rfl⟩
    have hl : s.toList = [s[0]'hlt] := by
      have h2 : s.toList.length = 1 := by rw [tl_size]; exact h1
      have h3 := tl_getD s 0 hlt
      match hs : s.toList, h2 with
      | [x], _ => rw [hs] at h3; rw [← h3]; rfl
    have hb2 : b < 256 := by rw [← hb]; exact (s[0]'hlt).toNat_lt
    have e1 : (s.size : Int) = 1 := by omega
    have hz : (s.toList = [0] ∨ s.toList = [255]) ↔ (b = 0 ∨ b = 255) := by
      rw [hl]
      constructor
      · rintro (h | h)
        · left; have h4 : s[0]'hlt = 0 := by simpa using h
          rw [← hb, h4]; rfl
        · right; have h4 : s[0]'hlt = 255 := by simpa using h
          rw [← hb, h4]; rfl
      · rintro (h | h)
        · left; have h4 : s[0]'hlt = 0 := by rw [← UInt8.toNat_inj, hb, h]; rfl
          rw [h4]
        · right; have h4 : s[0]'hlt = 255 := by rw [← UInt8.toNat_inj, hb, h]; rfl
          rw [h4]
    have hq : decide (s.toList = [0] ∨ s.toList = [255]) = decide (b = 0 ∨ b = 255) := decide_eq_decide.2 hz
    rw [hq]
    clear hz hl hq
    by_cases h2 : b = 0
    · subst h2
      rw [decide_eq_true (.inl rfl)]
      clear hb2 h1
      go_enter Tryd.func38, Tryd.ntmps38
      go_wp2_with fail
      go_ret
      exact ⟨rfl, Below.refl _ _⟩
    · have e2 : ((b : Int) == 0) = false := by rw [beq_eq_false_iff_ne]; omega
      by_cases h3 : b = 255
      · subst h3
        rw [decide_eq_true (.inr rfl)]
        clear hb2 h1 h2
        go_enter Tryd.func38, Tryd.ntmps38
        go_wp2_with fail
        go_ret
        exact ⟨rfl, Below.refl _ _⟩
      · have e3 : ((b : Int) == 255) = false := by rw [beq_eq_false_iff_ne]; omega
        rw [decide_eq_false (by omega)]
        clear hb2 h1 h2 h3
        go_enter Tryd.func38, Tryd.ntmps38
        go_wp2_with fail
        go_ret
        exact ⟨rfl, Below.refl _ _⟩
  · have e1 : ¬ (s.size : Int) = 1 := by omega
    have e1b : ((s.size : Int) == 1) = false := by rw [beq_eq_false_iff_ne]; exact e1
    rw [decide_eq_false (by
      rintro (h | h)
      · have := congrArg List.length h; rw [tl_size] at this; exact h1 this
      · have := congrArg List.length h; rw [tl_size] at this; exact h1 this)]
    clear h1
    go_enter Tryd.func38, Tryd.ntmps38
    go_wp2_with fail
    go_ret
    exact ⟨rfl, Below.refl _ _⟩
set_option maxRecDepth 100000 in
set_option maxHeartbeats 1600000 in
theorem rbody_2 (s : ByteArray) (hz : s.size ≤ 140737488351232) (w : World) : Calls Tryd.prog 38 #[.int .u8 2, .string s] w (RetBb2 (bodyN 2 s.toList) w) := by
  rw [show bodyN 2 s.toList = numOk s.toList from rfl]
  by_cases h0 : s.size = 0
  · obtain rfl := nil_of s h0
    rw [show numOk ByteArray.empty.toList = false by rw [tl_empty]; decide]
    clear h0 hz
    go_enter Tryd.func38, Tryd.ntmps38
    go_wp2_with fail
    go_ret
    exact ⟨rfl, Below.refl _ _⟩
  by_cases h1 : s.size = 1
  · rw [numOk_one s h1]
    have e1 : (s.size : Int) = 1 := by omega
    clear h0 h1 hz
    go_enter Tryd.func38, Tryd.ntmps38
    go_wp2_with fail
    go_ret
    exact ⟨rfl, Below.refl _ _⟩
  have h2 : 2 ≤ s.size := by omega
  have hlt0 : 0 < s.size := by omega
  have hlt1 : 1 < s.size := by omega
  obtain ⟨a, ha⟩ : ∃ a, (s[0]'hlt0).toNat = a := ⟨_, rfl⟩
  obtain ⟨b, hb⟩ : ∃ b, (s[1]'hlt1).toNat = b := ⟨_, rfl⟩
  have ha2 : a < 256 := by rw [← ha]; exact (s[0]'hlt0).toNat_lt
  have hb2 : b < 256 := by rw [← hb]; exact (s[1]'hlt1).toNat_lt
  rw [numOk_many s h2 a b ha hb]
  have e1 : ¬ (s.size : Int) < 2 := by omega
  have w1 : IntKind.i64.wrap (a : Int) = (a : Int) := wrap_fit a (by unfold maxLen; omega)
  have w2 : IntKind.i64.wrap (b : Int) = (b : Int) := wrap_fit b (by unfold maxLen; omega)
  obtain ⟨y, hy⟩ : ∃ y, a * 2 = y := ⟨_, rfl⟩
  obtain ⟨z, hz⟩ : ∃ z, b / 128 = z := ⟨_, rfl⟩
  obtain ⟨x, hx⟩ : ∃ x, y + z = x := ⟨_, rfl⟩
  have e2 : (a : Int) * 2 = (y : Int) := by omega
  have e3 : (b : Int) / 128 = (z : Int) := by omega
  have e4 : (y : Int) + (z : Int) = (x : Int) := by omega
  have w3 : IntKind.i64.wrap (y : Int) = (y : Int) := wrap_fit y (by unfold maxLen; omega)
  have w4 : IntKind.i64.wrap (z : Int) = (z : Int) := wrap_fit z (by unfold maxLen; omega)
  have w5 : IntKind.i64.wrap (x : Int) = (x : Int) := wrap_fit x (by unfold maxLen; omega)
  have hq : decide (¬ (a = 0 ∧ b < 128) ∧ ¬ (a = 255 ∧ 128 ≤ b)) = decide (¬ x = 0 ∧ ¬ x = 511) := decide_eq_decide.2 (by omega)
  rw [hq]
  clear hq h0 h1 h2 ha2 hb2 hy hz hx
  by_cases h3 : x = 0
  · subst h3
    rw [decide_eq_false (by omega)]
    go_enter Tryd.func38, Tryd.ntmps38
    go_wp2_with fail
    go_quiet (fail)
    go_wp2_with fail
    go_ret
    exact ⟨rfl, below_drewN _ _ _⟩
  · have e5 : ((x : Int) == 0) = false := by rw [beq_eq_false_iff_ne]; omega
    have e5n : ¬ (x : Int) = 0 := by omega
    by_cases h4 : x = 511
    · subst h4
      rw [decide_eq_false (by omega)]
      clear h3
      go_enter Tryd.func38, Tryd.ntmps38
      go_wp2_with fail
      go_quiet (fail)
      go_wp2_with fail
      go_ret
      exact ⟨rfl, below_drewN _ _ _⟩
    · have e6 : ((x : Int) == 511) = false := by rw [beq_eq_false_iff_ne]; omega
      have e6n : ¬ (x : Int) = 511 := by omega
      rw [decide_eq_true (by omega)]
      have f : ((x : Int) != 0 && (x : Int) != 511) = true := by simp [bne, e5, e6]
      have HF := Lib.hid f
      clear h3 h4 f
      go_enter Tryd.func38, Tryd.ntmps38
      go_wp2_with fail
      go_quiet (fail)
      go_wp2_with fail
      go_ret
      exact ⟨congrArg (fun b => Ending.returned (.bool b)) HF.out, below_drewN _ _ _⟩
set_option maxRecDepth 100000 in
set_option maxHeartbeats 1600000 in
theorem rbody_3 (s : ByteArray) (hz : s.size ≤ 140737488351232) (w : World) : Calls Tryd.prog 38 #[.int .u8 3, .string s] w (RetBb2 (bodyN 3 s.toList) w) := by
  rw [show bodyN 3 s.toList = bitsOk s.toList from rfl]
  by_cases h0 : s.size = 0
  · obtain rfl := nil_of s h0
    rw [show bitsOk ByteArray.empty.toList = false by rw [tl_empty]; decide]
    clear h0 hz
    go_enter Tryd.func38, Tryd.ntmps38
    go_wp2_with fail
    go_ret
    exact ⟨rfl, Below.refl _ _⟩
  have hlt0 : 0 < s.size := by omega
  obtain ⟨a, ha⟩ : ∃ a, (s[0]'hlt0).toNat = a := ⟨_, rfl⟩
  have ha2 : a < 256 := by rw [← ha]; exact (s[0]'hlt0).toNat_lt
  have w1 : IntKind.i64.wrap (a : Int) = (a : Int) := wrap_fit a (by unfold maxLen; omega)
  by_cases h1 : s.size = 1
  · have e1 : (s.size : Int) = 1 := by omega
    by_cases h2 : a = 0
    · subst h2
      rw [bits_one s hlt0 0 ha (by omega) h1, decide_eq_true rfl]
      clear h0 h1 hz ha2
      go_enter Tryd.func38, Tryd.ntmps38
      go_wp2_with fail
      go_ret
      exact ⟨rfl, Below.refl _ _⟩
    · have e2 : ((a : Int) == 0) = false := by rw [beq_eq_false_iff_ne]; omega
      have hF : bitsOk s.toList = false := by
        by_cases h7 : 7 < a
        · exact bits_gt s hlt0 a ha h7
        · rw [bits_one s hlt0 a ha h7 h1, decide_eq_false h2]
      rw [hF]
      clear h0 h1 hz ha2 h2
      go_enter Tryd.func38, Tryd.ntmps38
      go_wp2_with fail
      go_ret
      exact ⟨rfl, Below.refl _ _⟩
  · have e1 : ¬ (s.size : Int) < 2 := by omega
    by_cases h7 : 7 < a
    · rw [bits_gt s hlt0 a ha h7]
      have e2 : (7 : Int) < (a : Int) := by omega
      clear h0 h1 hz ha2 h7
      go_enter Tryd.func38, Tryd.ntmps38
      go_wp2_with fail
      go_ret
      exact ⟨rfl, Below.refl _ _⟩
    · have e2 : ¬ (7 : Int) < (a : Int) := by omega
      obtain ⟨m, hm⟩ : ∃ m, s.size - 1 = m := ⟨_, rfl⟩
      have em : (s.size : Int) - 1 = (m : Int) := by omega
      have w2 : IntKind.i64.wrap (m : Int) = (m : Int) := wrap_fit m (by unfold maxLen; omega)
      have hlt1 : m < s.size := by omega
      obtain ⟨x, hx⟩ : ∃ x, (s[m]'hlt1).toNat = x := ⟨_, rfl⟩
      have hx2 : x < 256 := by rw [← hx]; exact (s[m]'hlt1).toNat_lt
      obtain ⟨R, hR⟩ : ∃ R, decide (x % 2 ^ a = 0) = R := ⟨_, rfl⟩
      rw [bits_many s hlt0 a ha h7 h1 m hm hlt1 x _ hx rfl, hR]
      have HR := Lib.hid (And.intro hR (And.intro hx2 h7))
      clear hR h0 h1 hz ha2 h7 hm hx2
      go_enter Tryd.func38, Tryd.ntmps38
      go_wp2_with fail
      go_loop [7] (fun vi => ∃ i : Nat, vi = .int .i64 (i : Int) ∧ i ≤ a ∧ x % 2 ^ i = 0) (fun vi => a - (intOf vi).toNat)
      case atStart => exact ⟨0, rfl, Nat.zero_le _, by rw [Nat.pow_zero, Nat.mod_one]⟩
      case round =>
        obtain ⟨i, rfl, hi, hxi⟩ := hrel
        by_cases hia : i < a
        · have e5 : (i : Int) < (a : Int) := by omega
          have HI := Lib.hid (And.intro hia hxi)
          have hi8 : i < 7 := by have := HR.out.2.2; omega
          clear hia hxi hi
          rcases (by omega : i = 0 ∨ i = 1 ∨ i = 2 ∨ i = 3 ∨ i = 4 ∨ i = 5 ∨ i = 6) with rfl | rfl | rfl | rfl | rfl | rfl | rfl
          · clear hi8
            by_cases hb : x % 2 = 1
            · have f : ((x : Int) % 2 == 1) = true := by rw [beq_iff_eq]; omega
              obtain rfl : R = false := by rw [← HR.out.1]; exact decide_eq_false (bit_stop x 0 a HI.out.1 (by rw [Nat.pow_zero, Nat.div_one]; exact hb))
              clear hb
              go_wp2_with fail
              go_ret
              exact ⟨rfl, Below.refl _ _⟩
            · have f : ((x : Int) % 2 == 1) = false := by rw [beq_eq_false_iff_ne]; omega
              have HN := Lib.hid (bit_next x 0 HI.out.2 (by rw [Nat.pow_zero, Nat.div_one]; omega))
              clear hb
              go_wp2_with fail
              go_round
              case rel => exact ⟨1, rfl, HI.out.1, HN.out⟩
              case measure => have := HI.out.1; simp [intOf]; omega
          · clear hi8
            by_cases hb : x / 2 % 2 = 1
            · have f : ((x : Int) / 2 % 2 == 1) = true := by rw [beq_iff_eq]; omega
              obtain rfl : R = false := by rw [← HR.out.1]; exact decide_eq_false (bit_stop x 1 a HI.out.1 hb)
              clear hb
              go_wp2_with fail
              go_ret
              exact ⟨rfl, Below.refl _ _⟩
            · have f : ((x : Int) / 2 % 2 == 1) = false := by rw [beq_eq_false_iff_ne]; omega
              have HN := Lib.hid (bit_next x 1 HI.out.2 (show x / 2 ^ 1 % 2 = 0 by show x / 2 % 2 = 0; omega))
              clear hb
              go_wp2_with fail
              go_round
              case rel => exact ⟨2, rfl, HI.out.1, HN.out⟩
              case measure => have := HI.out.1; simp [intOf]; omega
          · clear hi8
            by_cases hb : x / 4 % 2 = 1
            · have f : ((x : Int) / 4 % 2 == 1) = true := by rw [beq_iff_eq]; omega
              obtain rfl : R = false := by rw [← HR.out.1]; exact decide_eq_false (bit_stop x 2 a HI.out.1 hb)
              clear hb
              go_wp2_with fail
              go_ret
              exact ⟨rfl, Below.refl _ _⟩
            · have f : ((x : Int) / 4 % 2 == 1) = false := by rw [beq_eq_false_iff_ne]; omega
              have HN := Lib.hid (bit_next x 2 HI.out.2 (show x / 2 ^ 2 % 2 = 0 by show x / 4 % 2 = 0; omega))
              clear hb
              go_wp2_with fail
              go_round
              case rel => exact ⟨3, rfl, HI.out.1, HN.out⟩
              case measure => have := HI.out.1; simp [intOf]; omega
          · clear hi8
            by_cases hb : x / 8 % 2 = 1
            · have f : ((x : Int) / 8 % 2 == 1) = true := by rw [beq_iff_eq]; omega
              obtain rfl : R = false := by rw [← HR.out.1]; exact decide_eq_false (bit_stop x 3 a HI.out.1 hb)
              clear hb
              go_wp2_with fail
              go_ret
              exact ⟨rfl, Below.refl _ _⟩
            · have f : ((x : Int) / 8 % 2 == 1) = false := by rw [beq_eq_false_iff_ne]; omega
              have HN := Lib.hid (bit_next x 3 HI.out.2 (show x / 2 ^ 3 % 2 = 0 by show x / 8 % 2 = 0; omega))
              clear hb
              go_wp2_with fail
              go_round
              case rel => exact ⟨4, rfl, HI.out.1, HN.out⟩
              case measure => have := HI.out.1; simp [intOf]; omega
          · clear hi8
            by_cases hb : x / 16 % 2 = 1
            · have f : ((x : Int) / 16 % 2 == 1) = true := by rw [beq_iff_eq]; omega
              obtain rfl : R = false := by rw [← HR.out.1]; exact decide_eq_false (bit_stop x 4 a HI.out.1 hb)
              clear hb
              go_wp2_with fail
              go_ret
              exact ⟨rfl, Below.refl _ _⟩
            · have f : ((x : Int) / 16 % 2 == 1) = false := by rw [beq_eq_false_iff_ne]; omega
              have HN := Lib.hid (bit_next x 4 HI.out.2 (show x / 2 ^ 4 % 2 = 0 by show x / 16 % 2 = 0; omega))
              clear hb
              go_wp2_with fail
              go_round
              case rel => exact ⟨5, rfl, HI.out.1, HN.out⟩
              case measure => have := HI.out.1; simp [intOf]; omega
          · clear hi8
            by_cases hb : x / 32 % 2 = 1
            · have f : ((x : Int) / 32 % 2 == 1) = true := by rw [beq_iff_eq]; omega
              obtain rfl : R = false := by rw [← HR.out.1]; exact decide_eq_false (bit_stop x 5 a HI.out.1 hb)
              clear hb
              go_wp2_with fail
              go_ret
              exact ⟨rfl, Below.refl _ _⟩
            · have f : ((x : Int) / 32 % 2 == 1) = false := by rw [beq_eq_false_iff_ne]; omega
              have HN := Lib.hid (bit_next x 5 HI.out.2 (show x / 2 ^ 5 % 2 = 0 by show x / 32 % 2 = 0; omega))
              clear hb
              go_wp2_with fail
              go_round
              case rel => exact ⟨6, rfl, HI.out.1, HN.out⟩
              case measure => have := HI.out.1; simp [intOf]; omega
          · clear hi8
            by_cases hb : x / 64 % 2 = 1
            · have f : ((x : Int) / 64 % 2 == 1) = true := by rw [beq_iff_eq]; omega
              obtain rfl : R = false := by rw [← HR.out.1]; exact decide_eq_false (bit_stop x 6 a HI.out.1 hb)
              clear hb
              go_wp2_with fail
              go_ret
              exact ⟨rfl, Below.refl _ _⟩
            · have f : ((x : Int) / 64 % 2 == 1) = false := by rw [beq_eq_false_iff_ne]; omega
              have HN := Lib.hid (bit_next x 6 HI.out.2 (show x / 2 ^ 6 % 2 = 0 by show x / 64 % 2 = 0; omega))
              clear hb
              go_wp2_with fail
              go_round
              case rel => exact ⟨7, rfl, HI.out.1, HN.out⟩
              case measure => have := HI.out.1; simp [intOf]; omega
        · obtain rfl : i = a := by omega
          have e5 : ¬ (i : Int) < (i : Int) := by omega
          obtain rfl : R = true := by rw [← HR.out.1]; exact decide_eq_true hxi
          clear hia hi hxi
          go_wp2_with fail
          go_ret
          exact ⟨rfl, Below.refl _ _⟩
set_option maxRecDepth 100000 in
set_option maxHeartbeats 1600000 in
theorem rbody_6 (s : ByteArray) (hz : s.size ≤ 140737488351232) (w : World) : Calls Tryd.prog 38 #[.int .u8 6, .string s] w (RetBb2 (bodyN 6 s.toList) w) := by
  rw [show bodyN 6 s.toList = typeOk s.toList from rfl]
  obtain ⟨n, hn⟩ : ∃ n, s.size = n := ⟨_, rfl⟩
  obtain ⟨R, hR⟩ : ∃ R, typeGo true s.toList = R := ⟨_, rfl⟩
  rw [typeOk_of s n hn, hR]
  have HR := Lib.hid hR
  have HN := Lib.hid hn
  have HZ := Lib.hid hz
  clear hR hz
  go_enter Tryd.func38, Tryd.ntmps38
  go_wp2_with fail
  go_loop [8, 9] (fun vb vi => ∃ (b : Bool) (i : Nat), vb = .bool b ∧ vi = .int .i64 (i : Int) ∧ i ≤ n ∧ typeGo b (s.toList.drop i) = R) (fun _ vi => n - (intOf vi).toNat)
  case atStart => exact ⟨true, 0, rfl, rfl, Nat.zero_le _, HR.out⟩
  case round =>
    obtain ⟨b, i, rfl, rfl, hi, hT⟩ := hrel
    have HT := Lib.hid hT
    clear hT
    by_cases hin : i < n
    · have hlt : i < s.size := by omega
      have e1 : (i : Int) < (n : Int) := by omega
      obtain ⟨x, hx⟩ : ∃ x, (s[i]'hlt).toNat = x := ⟨_, rfl⟩
      have hd : typeGo b (s.toList.drop i) = if b = true ∧ x = 128 then false else typeGo (decide (x < 128)) (s.toList.drop (i + 1)) := by
        rw [← List.getElem_cons_drop (h := by rw [tl_size]; exact hlt), typeGo]
        have : (s.toList[i]'(by rw [tl_size]; exact hlt)).toNat = x := by
          have h2 := tl_getD s i hlt
          rw [List.getD, List.getElem?_eq_getElem (by rw [tl_size]; exact hlt)] at h2
          rw [← hx, ← h2]; rfl
        rw [this]
      have HD := Lib.hid hd
      have HI := Lib.hid (show ∃ k, n = i + 1 + k from ⟨n - i - 1, by omega⟩)
      have e9 : (i : Int) ≤ 140737488351232 := by have := HZ.out; omega
      clear hd
      by_cases h1 : b = true ∧ x = 128
      · obtain ⟨rfl, rfl⟩ := h1
        have HF : Hid (R = false) := by rw [← HT.out, HD.out, if_pos ⟨rfl, rfl⟩]; rfl
        clear hin hi
        go_wp2_with fail
        go_ret
        exact ⟨by rw [HF.out, Bool.and_false]; rfl, Below.refl _ _⟩
      · by_cases h2 : x < 128
        · have f1 : (x : Int) < 128 := by omega
          have HF : Hid (typeGo true (s.toList.drop (i + 1)) = R) := by rw [← HT.out, HD.out, if_neg h1, decide_eq_true h2]; rfl
          have f3 : ((x : Int) == 128) = false := by rw [beq_eq_false_iff_ne]; omega
          cases b
          all_goals
            clear hin hi h1 h2
            go_wp2_with fail
            go_round
            case rel => exact ⟨true, i + 1, rfl, by go_num, by obtain ⟨k, hk⟩ := HI.out; omega, HF.out⟩
            case measure => obtain ⟨k, hk⟩ := HI.out; simp [intOf]; omega
        · have f1 : ¬ (x : Int) < 128 := by omega
          have f2 : decide ((x : Int) < 128) = false := decide_eq_false f1
          have HF : Hid (typeGo false (s.toList.drop (i + 1)) = R) := by rw [← HT.out, HD.out, if_neg h1, decide_eq_false h2]; rfl
          cases b
          · clear hin hi h1 h2
            go_wp2_with fail
            go_round
            case rel => exact ⟨false, i + 1, rfl, by go_num, by obtain ⟨k, hk⟩ := HI.out; omega, HF.out⟩
            case measure => obtain ⟨k, hk⟩ := HI.out; simp [intOf]; omega
          · have f3 : ((x : Int) == 128) = false := by
              have hne : x ≠ 128 := fun h => h1 ⟨rfl, h⟩
              rw [beq_eq_false_iff_ne]; omega
            clear hin hi h1 h2
            go_wp2_with fail
            go_round
            case rel => exact ⟨false, i + 1, rfl, by go_num, by obtain ⟨k, hk⟩ := HI.out; omega, HF.out⟩
            case measure => obtain ⟨k, hk⟩ := HI.out; simp [intOf]; omega
    · obtain rfl : i = n := by omega
      have e1 : ¬ (i : Int) < (i : Int) := by omega
      have HF : Hid (R = b) := by rw [← HT.out, List.drop_eq_nil_of_le (by rw [tl_size]; omega)]; rfl
      by_cases h0 : 0 < i
      · have e2 : (0 : Int) < (i : Int) := by omega
        clear hin hi
        go_wp2_with fail
        go_ret
        exact ⟨by rw [HF.out]; rfl, Below.refl _ _⟩
      · obtain rfl : i = 0 := by omega
        clear hin hi
        go_wp2_with fail
        go_ret
        exact ⟨rfl, Below.refl _ _⟩
set_option maxRecDepth 100000 in
set_option maxHeartbeats 1600000 in
theorem rbody_any (t : Nat) (ht : t < 256) (s : ByteArray) (hz : s.size ≤ 140737488351232) (w : World) : Calls Tryd.prog 38 #[.int .u8 (t : Int), .string s] w (RetBb2 (bodyN t s.toList) w) := by
  by_cases h1 : t = 1
  · subst h1; exact rbody_1 s w
  by_cases h2 : t = 2
  · subst h2; exact rbody_2 s hz w
  by_cases h3 : t = 3
  · subst h3; exact rbody_3 s hz w
  by_cases h5 : t = 5
  · subst h5
    by_cases h0 : s.size = 0
    · have e0 : (s.size : Int) = 0 := by omega
      rw [show bodyN 5 s.toList = true from decide_eq_true (by rw [← List.length_eq_zero_iff, tl_size]; exact h0)]
      clear ht h1 h2 h3 h0 hz
      go_enter Tryd.func38, Tryd.ntmps38
      go_wp2_with fail
      go_ret
      exact ⟨rfl, Below.refl _ _⟩
    · have e0 : ((s.size : Int) == 0) = false := by rw [beq_eq_false_iff_ne]; omega
      rw [show bodyN 5 s.toList = false from decide_eq_false (by rw [← List.length_eq_zero_iff, tl_size]; exact h0)]
      clear ht h1 h2 h3 h0 hz
      go_enter Tryd.func38, Tryd.ntmps38
      go_wp2_with fail
      go_ret
      exact ⟨rfl, Below.refl _ _⟩
  by_cases h6 : t = 6
  · subst h6; exact rbody_6 s hz w
  by_cases h7 : t = 12
  · subst h7
    rw [show bodyN 12 s.toList = Lib.validD s.toList from rfl]
    have TX := Lib.hid (text_any s w hz)
    clear ht h1 h2 h3 h5 h6 hz
    go_enter Tryd.func38, Tryd.ntmps38
    go_wp2_with (first | (go_at_call 60; refine TX.out.mono ?_; rintro e w1 ⟨rfl, hb1⟩))
    go_ret
    exact ⟨rfl, hb1⟩
  · rw [bodyN, if_neg h1, if_neg h2, if_neg h3, if_neg h5, if_neg h6, if_neg h7]
    have e1 : ¬ (t : Int) = 1 := by omega
    have e2 : ¬ (t : Int) = 2 := by omega
    have e3 : ¬ (t : Int) = 3 := by omega
    have e5 : ¬ (t : Int) = 5 := by omega
    have e6 : ¬ (t : Int) = 6 := by omega
    have e7 : ¬ (t : Int) = 12 := by omega
    clear ht h1 h2 h3 h5 h6 h7 hz
    go_enter Tryd.func38, Tryd.ntmps38
    go_wp2_with fail
    go_ret
    exact ⟨rfl, Below.refl _ _⟩
end Go.Proofs.YteglahkgnggmgaaDoor
