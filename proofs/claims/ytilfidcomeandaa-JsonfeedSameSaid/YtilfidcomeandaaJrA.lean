/- The document's reader in memory, with what it took: Take, Want, fault. -/
import Derived.Test.YtilfidcomeandaaJsV
namespace Go.Proofs.Ytilfidcomeandaa
open Go.RowKit
set_option linter.unusedVariables false
set_option linter.unusedSimpArgs false
namespace Jr
open Js
open Dr (Rs Lm has lack lackE lackP)


/-- the document's reader, cell by cell -/
theorem gtl_getD (s : ByteArray) (k : Nat) (h : k < s.size) : s.toList.getD k 0 = s[k] := by rw [List.getD, tl_get s k h]; rfl
def rgc (s : ByteArray) (L : Lm) (ro : Int) (vo : Value) (er : Int) (pl tk fr : Nat) (en : Bool) : List Value :=
  [.string s, .int .i64 (L.depth : Int), .int .i64 (L.items : Int), .int .i64 (L.bytes : Int), .int .i64 ro, .slice none 0 0, .int .i64 er, .int .i64 (pl : Int), .int .i64 (tk : Int), .int .i64 (fr : Int), .bool en, vo]
structure Rg (w : World) (g : Nat) (s : ByteArray) (L : Lm) (ro : Int) (O : List Vl) (vo : Value) (er : Int) (pl tk fr : Nat) (en : Bool) : Prop where
  at0 : At w g 0 (rgc s L ro vo er pl tk fr en)
  out : w.ownsRow (g + 1) 62 3 vo O.length (vcells O)
  lt : g < w.heap.size
section
variable {w w' : World} {g : Nat} {s : ByteArray} {L : Lm} {ro : Int} {O : List Vl} {vo : Value} {er : Int} {pl tk fr : Nat} {en : Bool}
theorem Rg.drewN (h : Rg w g s L ro O vo er pl tk fr en) (k : Nat) : Rg (w.drewN k) g s L ro O vo er pl tk fr en := ⟨h.at0.drewN k, own_drewN h.out k, h.lt⟩
theorem Rg.setC (h : Rg w g s L ro O vo er pl tk fr en) (k : Nat) (v : Value) {er' : Int} {pl' tk' fr' : Nat} {en' : Bool} (he : (rgc s L ro vo er pl tk fr en).set k v = rgc s L ro vo er' pl' tk' fr' en') : Rg (w.setCell ⟨g, k, none⟩ v) g s L ro O vo er' pl' tk' fr' en' :=
  ⟨by have h1 := h.at0.set k v; rw [he, Nat.zero_add] at h1; exact h1, ownsRow_setCell_below h.out (Nat.lt_succ_self g) _, by rw [show (w.setCell ⟨g, k, none⟩ v).heap.size = w.heap.size by simp [World.setCell]]; exact h.lt⟩
theorem Rg.below (h : Rg w g s L ro O vo er pl tk fr en) (hb : Below w.heap.size w w') : Rg w' g s L ro O vo er pl tk fr en :=
  ⟨h.at0.below hb h.lt, own_below h.out hb (Nat.le_refl _), Nat.lt_of_lt_of_le h.lt hb.size⟩
theorem Rg.alloc (h : Rg w g s L ro O vo er pl tk fr en) (o : Obj) : Rg (w.alloc o) g s L ro O vo er pl tk fr en :=
  ⟨h.at0.alloc o, h.out.alloc o, by simp; have := h.lt; omega⟩
end
/-- the reader goes on -/
def Gok (w : World) (g : Nat) (s : ByteArray) (L : Lm) (ro : Int) (O : List Vl) (fr tk : Nat) : Prop := (∃ vo, Rg w g s L ro O vo 0 0 tk fr false) ∧ tk ≤ L.bytes ∧ tk ≤ s.size
/-- the reader has a fault -/
def Gno (w : World) (g : Nat) (s : ByteArray) (L : Lm) (ro : Int) (c : Int) (q : Nat) (b : Bool) (tk fr : Nat) : Prop := ∃ O vo, Rg w g s L ro O vo c q tk fr b
theorem Gok.drewN {w : World} {g : Nat} {s : ByteArray} {L : Lm} {ro : Int} {O : List Vl} {fr tk : Nat} (h : Gok w g s L ro O fr tk) (k : Nat) : Gok (w.drewN k) g s L ro O fr tk := by
  obtain ⟨⟨vo, h⟩, h1⟩ := h
  exact ⟨⟨vo, h.drewN k⟩, h1⟩
theorem Gok.below {w w' : World} {g : Nat} {s : ByteArray} {L : Lm} {ro : Int} {O : List Vl} {fr tk : Nat} (h : Gok w g s L ro O fr tk) (hb : Below w.heap.size w w') : Gok w' g s L ro O fr tk := by
  obtain ⟨⟨vo, h⟩, h1⟩ := h
  exact ⟨⟨vo, h.below hb⟩, h1⟩
theorem Gok.lt {w : World} {g : Nat} {s : ByteArray} {L : Lm} {ro : Int} {O : List Vl} {fr tk : Nat} (h : Gok w g s L ro O fr tk) : g < w.heap.size := by
  obtain ⟨⟨vo, h⟩, -⟩ := h
  exact h.lt
/-- the answers: all is well; or a fault -/
def GYes (v : Value) (g : Nat) (s : ByteArray) (L : Lm) (ro : Int) (O : List Vl) (fr tk : Nat) (w : World) (e : Ending) (w' : World) : Prop := e = .returned v ∧ Hid (Gok w' g s L ro O fr tk) ∧ Hid (Below g w w')
def GNay (v : Value) (g : Nat) (s : ByteArray) (L : Lm) (ro : Int) (c : Int) (q : Nat) (b : Bool) (tk fr : Nat) (w : World) (e : Ending) (w' : World) : Prop := e = .returned v ∧ Hid (Gno w' g s L ro c q b tk fr) ∧ Hid (Below g w w')
set_option maxRecDepth 100000 in
theorem gtake_any {w : World} {g : Nat} {s : ByteArray} {L : Lm} {ro : Int} {O : List Vl} {vo : Value} {tk fr : Nat} (h : Rg w g s L ro O vo 0 0 tk fr false) (z : Int) (a : Nat) (hta : tk ≤ a) (hz : (a : Int) = z) :
    Calls Try.prog 62 #[.pointer (some ⟨g, 0, none⟩), .int .i64 z] w (fun e w' => e = .returned (.tuple #[]) ∧ Hid (Rg w' g s L ro O vo 0 0 a fr false) ∧ Hid (Below g w w')) := by
  subst hz
  have HR := Lib.hid h
  have h8 := h.at0.cell 8 _ rfl
  have f8 := h.at0.froz 8 (Nat.le_of_ble_eq_true rfl)
  rw [Nat.zero_add] at h8 f8
  clear h
  by_cases h1 : tk < a
  · have e1 : (tk : Int) < (a : Int) := by omega
    clear h1 hta
    go_enter Try.func62, Try.ntmps62
    go_wp2_with fail
    go_end0
    exact ⟨rfl, HR.out.setC 8 _ rfl, (Below.refl g w).setCell (Nat.le_refl _) _⟩
  · have e1 : ¬ (tk : Int) < (a : Int) := by omega
    have HTA : Hid (tk = a) := by show tk = a; omega
    clear h1 hta
    go_enter Try.func62, Try.ntmps62
    go_wp2_with fail
    go_end0
    exact ⟨rfl, by rw [← HTA.out]; exact HR, Below.refl g w⟩
set_option maxRecDepth 100000 in
theorem gfault_any {w : World} {g : Nat} {s : ByteArray} {L : Lm} {ro : Int} {O : List Vl} {vo : Value} {tk fr : Nat} {en : Bool} (h : Rg w g s L ro O vo 0 0 tk fr en) (z c : Int) (q : Nat) (hz : (q : Int) = z) :
    Calls Try.prog 63 #[.pointer (some ⟨g, 0, none⟩), .int .i64 z, .int .i64 c] w (GNay (.bool false) g s L ro c q en tk fr w) := by
  subst hz
  have HR := Lib.hid h
  have h6 := h.at0.cell 6 _ rfl
  have f6 := h.at0.froz 6 (Nat.le_of_ble_eq_true rfl)
  have h7 := h.at0.cell 7 _ rfl
  have f7 := h.at0.froz 7 (Nat.le_of_ble_eq_true rfl)
  rw [Nat.zero_add] at h6 f6 h7 f7
  clear h
  go_enter Try.func63, Try.ntmps63
  go_wp2_with fail
  go_ret
  exact ⟨rfl, ⟨O, vo, (HR.out.setC 6 (.int .i64 c) (er' := c) rfl).setC 7 _ rfl⟩, ((Below.refl g w).setCell (Nat.le_refl _) _).setCell (Nat.le_refl _) _⟩
set_option maxRecDepth 100000 in
set_option maxHeartbeats 800000 in
theorem gwant_yes {w : World} {g : Nat} {s : ByteArray} {L : Lm} {ro : Int} {O : List Vl} {fr tk : Nat} (h : Gok w g s L ro O fr tk) (z : Int) (p : Nat) (hz : (p : Int) = z) (h1 : p < s.size) (h2 : p < L.bytes) (hs : s.size ≤ 140737488351232) (htk : tk ≤ p + 1) :
    Calls Try.prog 38 #[.pointer (some ⟨g, 0, none⟩), .int .i64 z] w (GYes (.bool true) g s L ro O fr (p + 1) w) := by
  subst hz
  obtain ⟨⟨vo, h⟩, -⟩ := h
  have HPP : Hid (p + 1 ≤ L.bytes ∧ p + 1 ≤ s.size) := ⟨h2, h1⟩
  have HR := Lib.hid h
  have TK := Lib.hid (gtake_any h ((p : Int) + 1) (p + 1) htk (by omega))
  have h0 := h.at0.cell 0 _ rfl
  have h3 := h.at0.cell 3 _ rfl
  rw [Nat.zero_add] at h0 h3
  have e1 : (p : Int) < (s.size : Int) := by omega
  have e2 : (p : Int) < (L.bytes : Int) := by omega
  have e3 : (p : Int) ≤ 140737488351232 := by omega
  clear h h1 h2 hs htk
  go_enter Try.func38, Try.ntmps38
  go_wp2_with (first | (go_at_call 62; refine TK.out.mono ?_; rintro e w1 ⟨rfl, HR1, HB1⟩))
  go_ret
  exact ⟨rfl, ⟨⟨vo, HR1.out⟩, HPP.out⟩, HB1⟩
set_option maxRecDepth 100000 in
set_option maxHeartbeats 800000 in
theorem gwant_no {w : World} {g : Nat} {s : ByteArray} {L : Lm} {ro : Int} {O : List Vl} {fr tk : Nat} (h : Gok w g s L ro O fr tk) (z : Int) (p : Nat) (hz : (p : Int) = z) (h1 : ¬ (p < s.size ∧ p < L.bytes)) :
    Calls Try.prog 38 #[.pointer (some ⟨g, 0, none⟩), .int .i64 z] w (GNay (.bool false) g s L ro (lackE s.toList L) (lackP s.toList L) (decide (s.toList.length ≤ L.bytes)) (lackK s.toList L) fr w) := by
  subst hz
  rw [lackE, lackP, lackK, tl_size]
  obtain ⟨⟨vo, h⟩, htb, hts⟩ := h
  have HR := Lib.hid h
  have TK := Lib.hid (fun w' (b : Nat) (hb : tk ≤ b) (h' : Rg w' g s L ro O vo 0 0 tk fr false) => gtake_any h' (b : Int) b hb rfl)
  have h0 := h.at0.cell 0 _ rfl
  have h3 := h.at0.cell 3 _ rfl
  rw [Nat.zero_add] at h0 h3
  obtain ⟨b, hb⟩ : ∃ n, L.bytes = n := ⟨_, rfl⟩
  rw [hb] at h1 htb
  rw [hb]
  rw [hb] at h3
  have HTB : Hid (tk ≤ b ∧ tk ≤ s.size) := ⟨htb, hts⟩
  have HN := Lib.hid (hb)
  clear h hb htb hts
  have h0q : ∀ k, (w.drewN k).cell? ⟨g, 0, none⟩ = some (.string s) := fun _ => h0
  by_cases h2 : b < s.size
  · have e4 : (b : Int) < (s.size : Int) := by omega
    rw [if_pos h2, if_pos h2, decide_eq_false (by omega)]
    by_cases h4 : p < s.size
    · have e1 : (p : Int) < (s.size : Int) := by omega
      have e2 : ¬ (p : Int) < (b : Int) := by omega
      clear h1 h2 h4
      go_enter Try.func38, Try.ntmps38
      go_wp2_with fail
      go_quiet (fail)
      go_wp2_with (first
        | (go_at_call 62; refine (TK.out _ b HTB.out.1 (HR.out.drewN _)).mono ?_; rintro e w1 ⟨rfl, HR1, HB1⟩; have g0 := HR1.out.at0.cell 0 _ rfl; have g3 := HR1.out.at0.cell 3 _ rfl; have f10 := HR1.out.at0.froz 10 (Nat.le_of_ble_eq_true rfl); have g10 := HR1.out.at0.cell 10 _ rfl; rw [Nat.zero_add] at g0 g3 f10 g10; rw [HN.out] at g3)
        | (go_at_call 63; refine (gfault_any HR1.out _ _ b rfl).mono ?_; rintro e w2 ⟨rfl, HR2, HB2⟩))
      go_ret
      exact ⟨rfl, HR2, ((Js.below_drewN _ _ _).trans HB1.out).trans HB2.out⟩
    · have e1 : ¬ (p : Int) < (s.size : Int) := by omega
      clear h1 h2 h4
      go_enter Try.func38, Try.ntmps38
      go_wp2_with fail
      go_quiet (fail)
      go_wp2_with (first
        | (go_at_call 62; refine (TK.out _ b HTB.out.1 (HR.out.drewN _)).mono ?_; rintro e w1 ⟨rfl, HR1, HB1⟩; have g0 := HR1.out.at0.cell 0 _ rfl; have g3 := HR1.out.at0.cell 3 _ rfl; have f10 := HR1.out.at0.froz 10 (Nat.le_of_ble_eq_true rfl); have g10 := HR1.out.at0.cell 10 _ rfl; rw [Nat.zero_add] at g0 g3 f10 g10; rw [HN.out] at g3)
        | (go_at_call 63; refine (gfault_any HR1.out _ _ b rfl).mono ?_; rintro e w2 ⟨rfl, HR2, HB2⟩))
      go_ret
      exact ⟨rfl, HR2, ((Js.below_drewN _ _ _).trans HB1.out).trans HB2.out⟩
  · have e4 : ¬ (b : Int) < (s.size : Int) := by omega
    rw [if_neg h2, if_neg h2, decide_eq_true (by omega)]
    have e1 : ¬ (p : Int) < (s.size : Int) := by omega
    clear h1 h2
    go_enter Try.func38, Try.ntmps38
    go_wp2_with fail
    go_quiet (fail)
    go_wp2_with (first
      | (go_at_call 62; refine (TK.out _ s.size HTB.out.2 (HR.out.drewN _)).mono ?_; rintro e w1 ⟨rfl, HR1, HB1⟩; have g0 := HR1.out.at0.cell 0 _ rfl; have g3 := HR1.out.at0.cell 3 _ rfl; have f10 := HR1.out.at0.froz 10 (Nat.le_of_ble_eq_true rfl); have g10 := HR1.out.at0.cell 10 _ rfl; rw [Nat.zero_add] at g0 g3 f10 g10; rw [HN.out] at g3)
      | (go_at_call 63; refine (gfault_any (HR1.out.setC 10 (.bool true) (en' := true) rfl) _ _ s.size rfl).mono ?_; rintro e w2 ⟨rfl, HR2, HB2⟩))
    go_ret
    exact ⟨rfl, HR2, (((Js.below_drewN _ _ _).trans HB1.out).setCell (p := ⟨g, 10, none⟩) (Nat.le_refl _) _).trans HB2.out⟩
theorem glack_eq {α : Type} (s : ByteArray) (L : Lm) : (lack s.toList L : Rs α) = .no (lackE s.toList L) (lackP s.toList L) (decide (s.toList.length ≤ L.bytes)) := rfl
theorem gfault_ok {w : World} {g : Nat} {s : ByteArray} {L : Lm} {ro : Int} {O : List Vl} {fr tk : Nat} (h : Gok w g s L ro O fr tk) (z c : Int) (q : Nat) (hz : (q : Int) = z) :
    Calls Try.prog 63 #[.pointer (some ⟨g, 0, none⟩), .int .i64 z, .int .i64 c] w (GNay (.bool false) g s L ro c q false tk fr w) := by
  obtain ⟨⟨vo, h⟩, -⟩ := h
  exact gfault_any h z c q hz
theorem Gok.txt {w : World} {g : Nat} {s : ByteArray} {L : Lm} {ro : Int} {O : List Vl} {fr tk : Nat} (h : Gok w g s L ro O fr tk) : w.cell? ⟨g, 0, none⟩ = some (.string s) := by
  obtain ⟨⟨vo, h⟩, -⟩ := h
  have h0 := h.at0.cell 0 _ rfl
  rw [Nat.zero_add] at h0
  exact h0
set_option maxRecDepth 100000 in
theorem gfault16_any {w : World} {g : Nat} {s : ByteArray} {L : Lm} {ro : Int} {O : List Vl} {vo : Value} {tk fr : Nat} {en : Bool} (h : Rg w g s L ro O vo 0 0 tk fr en) (z c : Int) (q : Nat) (hz : (q : Int) = z) :
    Calls Try.prog 40 #[.pointer (some ⟨g, 0, none⟩), .int .i64 z, .int .i64 c] w (GNay (.bool false) g s L ro c q en tk fr w) := by
  subst hz
  have HR := Lib.hid h
  have h6 := h.at0.cell 6 _ rfl
  have f6 := h.at0.froz 6 (Nat.le_of_ble_eq_true rfl)
  have h7 := h.at0.cell 7 _ rfl
  have f7 := h.at0.froz 7 (Nat.le_of_ble_eq_true rfl)
  rw [Nat.zero_add] at h6 f6 h7 f7
  clear h
  go_enter Try.func40, Try.ntmps40
  go_wp2_with fail
  go_ret
  exact ⟨rfl, ⟨O, vo, (HR.out.setC 6 (.int .i64 c) (er' := c) rfl).setC 7 _ rfl⟩, ((Below.refl g w).setCell (Nat.le_refl _) _).setCell (Nat.le_refl _) _⟩
theorem gfault16_ok {w : World} {g : Nat} {s : ByteArray} {L : Lm} {ro : Int} {O : List Vl} {fr tk : Nat} (h : Gok w g s L ro O fr tk) (z c : Int) (q : Nat) (hz : (q : Int) = z) :
    Calls Try.prog 40 #[.pointer (some ⟨g, 0, none⟩), .int .i64 z, .int .i64 c] w (GNay (.bool false) g s L ro c q false tk fr w) := by
  obtain ⟨⟨vo, h⟩, -⟩ := h
  exact gfault16_any h z c q hz
def RetV (v : Value) (w : World) (e : Ending) (w' : World) : Prop := e = .returned v ∧ w = w'
set_option maxRecDepth 100000 in
theorem rblank_any (b : UInt8) (w : World) : Calls Try.prog 39 #[.int .u8 (b.toNat : Int)] w (RetV (.bool (Js.blank b)) w) := by
  by_cases h1 : b = 32
  · subst h1
    go_enter Try.func39, Try.ntmps39
    go_wp2_with fail
    go_ret
    exact ⟨rfl, rfl⟩
  by_cases h2 : b = 9
  · subst h2
    go_enter Try.func39, Try.ntmps39
    go_wp2_with fail
    go_ret
    exact ⟨rfl, rfl⟩
  by_cases h3 : b = 10
  · subst h3
    go_enter Try.func39, Try.ntmps39
    go_wp2_with fail
    go_ret
    exact ⟨rfl, rfl⟩
  by_cases h4 : b = 13
  · subst h4
    go_enter Try.func39, Try.ntmps39
    go_wp2_with fail
    go_ret
    exact ⟨rfl, rfl⟩
  rw [show Js.blank b = false from decide_eq_false (fun h => by rcases h with h | h | h | h; exact h1 h; exact h2 h; exact h3 h; exact h4 h)]
  have q : ∀ c : UInt8, b ≠ c → b.toNat ≠ c.toNat := fun c h e => h (UInt8.toNat_inj.1 e)
  have k1 : b.toNat ≠ 32 := q 32 h1
  have k2 : b.toNat ≠ 9 := q 9 h2
  have k3 : b.toNat ≠ 10 := q 10 h3
  have k4 : b.toNat ≠ 13 := q 13 h4
  obtain ⟨n, hn⟩ : ∃ n, b.toNat = n := ⟨_, rfl⟩
  rw [hn] at k1 k2 k3 k4 ⊢
  have e1 := eqF (n := n) (c := 32) (by omega)
  have e2 := eqF (n := n) (c := 9) (by omega)
  have e3 := eqF (n := n) (c := 10) (by omega)
  have e4 := eqF (n := n) (c := 13) (by omega)
  clear hn q h1 h2 h3 h4 k1 k2 k3 k4
  go_enter Try.func39, Try.ntmps39
  go_wp2_with fail
  go_ret
  exact ⟨rfl, rfl⟩
set_option maxRecDepth 100000 in
theorem rdigit_any (b : UInt8) (w : World) : Calls Try.prog 56 #[.int .u8 (b.toNat : Int)] w (RetV (.bool (isDigit b)) w) := by
  rw [isDigit]
  obtain ⟨n, hn⟩ : ∃ n, b.toNat = n := ⟨_, rfl⟩
  rw [hn]
  clear hn
  by_cases h1 : 48 ≤ n
  · have e1 : (48 : Int) ≤ n := by omega
    by_cases h2 : n ≤ 57
    · have e2 : (n : Int) ≤ 57 := by omega
      rw [decide_eq_true ⟨h1, h2⟩]
      clear h1 h2
      go_enter Try.func56, Try.ntmps56
      go_wp2_with fail
      go_ret
      exact ⟨rfl, rfl⟩
    · have e2 : ¬ (n : Int) ≤ 57 := by omega
      rw [decide_eq_false (fun h => h2 h.2)]
      clear h1 h2
      go_enter Try.func56, Try.ntmps56
      go_wp2_with fail
      go_ret
      exact ⟨rfl, rfl⟩
  · have e1 : ¬ (48 : Int) ≤ n := by omega
    rw [decide_eq_false (fun h => h1 h.1)]
    clear h1
    go_enter Try.func56, Try.ntmps56
    go_wp2_with fail
    go_ret
    exact ⟨rfl, rfl⟩
end Jr
end Go.Proofs.Ytilfidcomeandaa
