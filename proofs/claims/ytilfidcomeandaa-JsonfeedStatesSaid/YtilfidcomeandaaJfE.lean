/- A feed of values in memory: a name begins, a value begins. -/
import Derived.Test.YtilfidcomeandaaJfD
namespace Go.Proofs.Ytilfidcomeandaa
open Go.RowKit
set_option linter.unusedVariables false
set_option linter.unusedSimpArgs false
namespace Jf
open Js
open Dr (Rs Lm has lack)
def freshS : Obj := Obj.cells #[.int .i64 0, .slice none 0 0, .int .i64 0, .int .i32 0, .int .i32 0, .int .u8 0, .int .u8 0] 111
def freshN : Obj := Obj.cells #[.int .i64 0, .slice none 0 0] 104
def freshW (r : List UInt8) : Obj := Obj.cells #[.string (str r)] 120
theorem notT_new (w : World) (c : Array Value) (e : TypeId) (h1 : e ≠ 62) (h2 : e ≠ 94) : NotT (w.alloc (Obj.cells c e)) w.heap.size := by
  constructor
  · intro cur hc
    rw [(MapKept.heap_alloc w _).1] at hc
    injection hc with hc
    injection hc with _ hc
    exact h1 hc
  · intro cur hc
    rw [(MapKept.heap_alloc w _).1] at hc
    injection hc with hc
    injection hc with _ hc
    exact h2 hc
theorem hand_newS (w : World) (β : Nat) (hb : β ≤ w.heap.size) : HandM (w.alloc freshS) β (.str s0) (.iface 91 (.pointer (some ⟨w.heap.size, 0, none⟩))) :=
  ⟨w.heap.size, rfl, ⟨0, .slice none 0 0, 0, 0, 0, 0, 0, ⟨At.ofAlloc w #[.int .i64 0, .slice none 0 0, .int .i64 0, .int .i32 0, .int .i32 0, .int .u8 0, .int .u8 0] 111, World.ownsRow_nil _ _ _ _⟩, rfl, rfl⟩, hb, notT_new _ _ _ (by decide) (by decide)⟩
theorem hand_newW (w : World) (β : Nat) (r : List UInt8) (hb : β ≤ w.heap.size) : HandM (w.alloc (freshW r)) β (.word r) (.iface 114 (.pointer (some ⟨w.heap.size, 0, none⟩))) :=
  ⟨w.heap.size, rfl, At.ofAlloc w #[.string (str r)] 120, hb, notT_new _ _ _ (by decide) (by decide)⟩
section
variable (w : World) (g β : Nat) (L : Lm) (ro : Int) (s : St) (k : Nat)
theorem FmB.alloc {w : World} {g β : Nat} {L : Lm} {ro : Int} {s : St} {k : Nat} {B : List (Option Nat)} (h : FmB w g β L ro s k B) (o : Obj) : FmB (w.alloc o) g β L ro s k B := by
  obtain ⟨vV, vS, vH, a, h4, hn⟩ := h
  exact ⟨vV, vS, vH, a, h4.alloc o, hn⟩
theorem FmB.new {w : World} {g β : Nat} {L : Lm} {ro : Int} {s : St} {k : Nat} {B : List (Option Nat)} (h : FmB w g β L ro s k B) : some w.heap.size ∉ B := by
  obtain ⟨vV, vS, vH, a, h4, hn⟩ := h
  intro hb
  have := (h4.maps.ge _ hb).2
  omega
theorem u8lit (b : UInt8) (t : Nat) (ht : b.toNat = t) (c : Nat) (hc : c < 256) : b = UInt8.ofNat c ↔ t = c := by
  constructor
  · intro e; rw [← ht, e]; simp; omega
  · intro e; rw [← e, ← ht]; simp
/-- what begin and hold ask -/
structure Bd (L : Lm) (s : St) : Prop where
  hL : L.items ≤ 4096
  hl : s.G.length ≤ 1000
  hkd : ∀ f ∈ s.G, f.n ≤ 1000000
set_option maxRecDepth 100000 in
set_option maxHeartbeats 3200000 in
theorem fname_any (h : FmS w g β L ro s k) (p : Nat) (hp : k = p + 1) (hk : k ≤ 262144) (hB : Bd L s) (b : UInt8) (t : Nat) (ht : b.toNat = t) :
    Calls Try.prog 54 #[.pointer (some ⟨g, 0, none⟩), .int .u8 (t : Int)] w (RO (s.name L b p) s.G.length g β L ro k w) := by
  have hg := h.facts
  have hgb := hg.1
  have hgs := hg.2.1
  obtain ⟨R, hR⟩ : ∃ R, s.name L b p = R := ⟨_, rfl⟩
  rw [hR]
  rw [St.name] at hR
  have hb := u8lit b t ht
  by_cases h34 : t = 34
  · subst h34
    rw [if_pos (show b = 34 from (hb 34 (by decide)).2 rfl)] at hR
    obtain ⟨B, vV, vS, vH, a, h4, hn⟩ := h
    have c4 := h4.at0.cell 4 _ rfl
    have c9 := h4.at0.cell 9 _ rfl
    have f9 := h4.at0.froz 9 (by show 9 < 13; decide)
    have c10 := h4.at0.cell 10 _ rfl
    have f10 := h4.at0.froz 10 (by show 10 < 13; decide)
    have e1 : (k : Int) - 1 = (p : Int) := by omega
    have e2 : IntKind.i64.wrap (p : Int) = (p : Int) := wrap_fit p (by unfold maxLen; omega)
    have h5 := (h4.set 10 (.int .i64 (p : Int)) (a' := (p : Int)) rfl).set 9 (.bool true) (nm' := true) rfl
    have HS : Hid (FmB (((w.setCell ⟨g, 10, none⟩ (.int .i64 (p : Int))).setCell ⟨g, 9, none⟩ (.bool true)).alloc freshS) g β L ro { s with named := some p } k B) := ⟨vV, vS, vH, p, h5.alloc freshS, fun x hx => by cases hx; rfl⟩
    have HSZ : Hid (((w.setCell ⟨g, 10, none⟩ (.int .i64 (p : Int))).setCell ⟨g, 9, none⟩ (.bool true)).heap.size = w.heap.size) := by show _ = _; rw [set_size, set_size]
    have HH := hand_newS ((w.setCell ⟨g, 10, none⟩ (.int .i64 (p : Int))).setCell ⟨g, 9, none⟩ (.bool true)) β h5.bs
    have BE := Lib.hid (fbegin_any _ g β L ro { s with named := some p } k B HS.out 4 (.str s0) _ HH (by simp) p hp hk hB.hL hB.hl hB.hkd)
    rw [HSZ.out] at BE
    have HBX : Hid (Bx g β w (((w.setCell ⟨g, 10, none⟩ (.int .i64 (p : Int))).setCell ⟨g, 9, none⟩ (.bool true)).alloc freshS)) := (((Bx.refl' g β w).setG _).setG _).alloc h5.bs _
    have hR2 : (({ s with named := some p } : St).add L p (.go (({ s with named := some p } : St).begin 4 (.str s0)))) = R := hR
    rw [hR2] at BE
    clear h4 hn h5 HH HS hg hR hR2 hb ht hp hk hB
    go_enter Try.func54, Try.ntmps54
    go_wp2_with fail
    refine BE.out.mono ?_
    rintro e w4 ⟨rfl, hB4, hF4⟩
    go_wp2_with fail
    first | go_end0 | refine bodyPost_ret (results_none rfl _ _ _) rfl ?_
    exact ⟨rfl, HBX.out.trans hB4.out, hF4⟩
  · have WR := Lib.hid (fwrong_any w g β L ro s k h p hp hk)
    rw [if_neg (show ¬ b = 34 from fun e => h34 ((hb 34 (by decide)).1 e))] at hR
    have HR : Hid (R = .fl 9 p) := hR.symm
    have e5 := eqF (n := t) (c := 34) (by omega)
    have e6 : ((t : Int) != 34) = true := by rw [bne, e5]; rfl
    clear h hp hk hR hb ht hB
    go_enter Try.func54, Try.ntmps54
    go_wp2_with fail
    refine WR.out.mono ?_
    rintro e w4 ⟨rfl, hF4, hB4⟩
    go_wp2_with fail
    first | go_end0 | refine bodyPost_ret (results_none rfl _ _ _) rfl ?_
    exact RO.fl HR ⟨rfl, hF4, hB4⟩
end
end Jf
end Go.Proofs.Ytilfidcomeandaa
