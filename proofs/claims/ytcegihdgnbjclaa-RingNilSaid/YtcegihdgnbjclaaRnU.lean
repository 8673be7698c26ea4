/- Keys by their names: Once, whole; the names that were made once. -/
import Derived.Test.YtcegihdgnbjclaaRnT
namespace Go.Proofs.Ytcegihdgnbjclaa
open Go.RowKit Go.Maps Go.Sort
open Go.Proofs (encStr)
set_option linter.unusedVariables false
set_option linter.unusedSimpArgs false
namespace Rn
theorem own_mono2 {w : World} {base base' e size n : Nat} {v : Value} {xs : List Value} (h : w.ownsRow base e size v n xs) (hb : base' ≤ base) : w.ownsRow base' e size v n xs := by
  obtain ⟨hl, h⟩ := h
  refine ⟨hl, h.imp id ?_⟩
  rintro ⟨g, cap, cur, h1, h2, h3⟩
  exact ⟨g, cap, cur, h1, Nat.le_trans hb h2, h3⟩
def RetSlow (w : World) (r b : Nat) (L : List En) (e : Ending) (w' : World) : Prop :=
  e = .returned (.tuple #[]) ∧ ∃ v, Hid (At w' r 0 [.map (some b), .int .u32 1, .int .i32 0, .int .u32 0, v]) ∧ Hid (w'.ownsRow w.heap.size 9 1 v L.length ((srt L).map encStr)) ∧ Hid (Kp (fun k => k = r) w w')
set_option maxRecDepth 100000 in
set_option maxHeartbeats 3200000 in
theorem slow_any (w : World) (pl r b : Nat) (ps : List Nat) (L : List En) (hp : w.cell? ⟨pl, 0, none⟩ = some (.pointer (some ⟨r, 0, none⟩))) (hpr : pl ≠ r)
    (hA : At w r 0 [.map (some b), .int .u32 0, .int .i32 0, .int .u32 0, .slice none 0 0]) (hM : Pm w b ps L) (hnd : (names L).Nodup) (hL : L.length ≤ 64) :
    Calls Try.prog 35 #[.pointer (some ⟨r, 1, none⟩), .func (.func 30) #[] #[.pointer (some ⟨pl, 0, none⟩)]] w (RetSlow w r b L) := by
  have c1 := hA.cell 1 _ rfl
  have c2 := hA.cell 2 _ rfl
  have f2 := hA.froz 2 (by show 2 < 5; decide)
  rw [Nat.zero_add] at c1 c2 f2
  have hA1 : At (w.setCell ⟨r, 2, none⟩ (.int .i32 1)) r 0 [.map (some b), .int .u32 0, .int .i32 1, .int .u32 0, .slice none 0 0] := by have h9 := hA.set 2 (.int .i32 1); rw [Nat.zero_add] at h9; exact h9
  have c1' := hA1.cell 1 _ rfl
  rw [Nat.zero_add] at c1'
  have hl := run_call_load (P := Try.prog) Try.func38 (by kernel_rfl) (by kernel_rfl) (by kernel_rfl) .u32 (by kernel_rfl) (w := w.setCell ⟨r, 2, none⟩ (.int .i32 1)) (a := ⟨r, 1, none⟩) (x := 0) c1'
  have hK1 : Kp (fun k => k = r) w (w.setCell ⟨r, 2, none⟩ (.int .i32 1)) := (Kp.refl _ w).set ⟨r, 2, none⟩ _ (fun _ => rfl)
  have hp1 := hK1.cell hp (fun h => hpr h)
  have hbr := hM.ne_at hA
  have CL := Lib.hid (clos_any (w.setCell ⟨r, 2, none⟩ (.int .i32 1)) pl r b ps L hp1 hpr hA1 (hM.same (heap_set_ne w _ _ b (fun e => hbr e.symm))) hnd hL)
  have HK1 := Lib.hid hK1
  have hnot : ∀ (x : Bool) (w : World), (Op.unary .not (.bool x)).run Try.prog w = .ok (.bool (!x)) w := fun _ _ => rfl
  clear hA1 hK1 hp1 hA hM hnd hL c1 c1' hbr
  go_enter_defers Try.func35, Try.ntmps35
  go_wp2_with (go_at_call 39; refine (lock_free ⟨r, 2, none⟩ _ (by go_simp) (by go_simp)).mono ?_; rintro e w' ⟨rfl, rfl⟩)
  go_wp2_with (first | (go_at_call 30; refine (CL.out).mono ?_; rintro e w' ⟨rfl, v, HA, HO, HK⟩) | go_in)
  have d1 := HA.out.cell 1 _ rfl
  have z1 := HA.out.froz 1 (by show 1 < 5; decide)
  have hA3 : At ((w'.drew.setCell ⟨r, 1, none⟩ (.int .u32 1))) r 0 [.map (some b), .int .u32 1, .int .i32 1, .int .u32 0, v] := by have h9 := (HA.out.drew).set 1 (.int .u32 1); rw [Nat.zero_add] at h9; exact h9
  have d2 := hA3.cell 2 _ rfl
  have z2 := hA3.froz 2 (by show 2 < 5; decide)
  have hA4 : At ((w'.drew.setCell ⟨r, 1, none⟩ (.int .u32 1)).setCell ⟨r, 2, none⟩ (.int .i32 0)) r 0 [.map (some b), .int .u32 1, .int .i32 0, .int .u32 0, v] := by have h9 := hA3.set 2 (.int .i32 0); rw [Nat.zero_add] at h9; exact h9
  rw [Nat.zero_add] at d1 z1 d2 z2
  refine leaves_cons (f := 41) (args := #[.pointer (some ⟨r, 1, none⟩), .bool true]) (by simp) (by simp [go_sem]) ?_
  refine (store_deferred ⟨r, 1, none⟩ (.int .u32 0) _ _ d1 z1).mono ?_
  rintro e u' w'' ⟨rfl, rfl, rfl⟩
  refine leaves_cons (f := 40) (args := #[.pointer (some ⟨r, 2, none⟩)]) (by simp [settle]) (by simp [go_sem]) ?_
  refine (unlock_deferred ⟨r, 2, none⟩ _ _ d2 z2).mono ?_
  rintro e u' w'' ⟨rfl, rfl, rfl⟩
  have hRET : RetSlow w r b L (.returned (.tuple #[])) ((w'.drew.setCell ⟨r, 1, none⟩ (.int .u32 1)).setCell ⟨r, 2, none⟩ (.int .i32 0)) := by
    refine ⟨rfl, v, hA4, ?_, ?_⟩
    · have hlt := fun k hk => HO.out.lt k hk
      have hr : r < w.heap.size := by
        have h9 := (HA.out.lt (by simp))
        have h8 := f2
        unfold World.frozen? at h8
        refine Classical.byContradiction fun hn => ?_
        unfold World.cell? at c2
        rw [Array.getElem?_eq_none (by show w.heap.size ≤ r; omega)] at c2
        cases c2
      show World.ownsRow _ _ _ _ _ _ _
      have h7 := HO.out
      rw [World.size_setCell] at h7
      exact own_set (own_set (own_drewN h7 1) _ _ (fun k hk e => by have h8 := (h7.lt k hk).1; have : r = k := e; omega)) _ _ (fun k hk e => by have h8 := (h7.lt k hk).1; have : r = k := e; omega)
    · exact (((HK1.out.trans HK.out).drewN 1).set ⟨r, 1, none⟩ _ (fun _ => rfl)).set ⟨r, 2, none⟩ _ (fun _ => rfl)
  simp [Leaves, settle, results, Try.results35]
  exact hRET
set_option maxRecDepth 100000 in
set_option maxHeartbeats 3200000 in
theorem do_first (w : World) (pl r b : Nat) (ps : List Nat) (L : List En) (hp : w.cell? ⟨pl, 0, none⟩ = some (.pointer (some ⟨r, 0, none⟩))) (hpr : pl ≠ r)
    (hA : At w r 0 [.map (some b), .int .u32 0, .int .i32 0, .int .u32 0, .slice none 0 0]) (hM : Pm w b ps L) (hnd : (names L).Nodup) (hL : L.length ≤ 64) :
    Calls Try.prog 29 #[.pointer (some ⟨r, 1, none⟩), .func (.func 30) #[] #[.pointer (some ⟨pl, 0, none⟩)]] w (RetSlow w r b L) := by
  have c1 := hA.cell 1 _ rfl
  rw [Nat.zero_add] at c1
  have hl := run_call_load (P := Try.prog) Try.func38 (by kernel_rfl) (by kernel_rfl) (by kernel_rfl) .u32 (by kernel_rfl) (w := w) (a := ⟨r, 1, none⟩) (x := 0) c1
  have hnot : ∀ (x : Bool) (w : World), (Op.unary .not (.bool x)).run Try.prog w = .ok (.bool (!x)) w := fun _ _ => rfl
  have SL := Lib.hid (slow_any w pl r b ps L hp hpr hA hM hnd hL)
  clear hA hM hnd hL hp c1
  go_enter Try.func29, Try.ntmps29
  go_wp2_with (first | (go_at_call 35; refine (SL.out).mono ?_; rintro e w' ⟨rfl, h⟩) | go_in)
  go_end0
  exact ⟨rfl, h⟩
set_option maxRecDepth 100000 in
theorem do_done (a : Addr) (fv : Value) (w : World) (h0 : w.cell? a = some (.int .u32 1)) :
    Calls Try.prog 29 #[.pointer (some a), fv] w fun e w' => e = .returned (.tuple #[]) ∧ w' = w := by
  have hl := run_call_load (P := Try.prog) Try.func38 (by kernel_rfl) (by kernel_rfl) (by kernel_rfl) .u32 (by kernel_rfl) h0
  have hnot : ∀ (x : Bool) (w : World), (Op.unary .not (.bool x)).run Try.prog w = .ok (.bool (!x)) w := fun _ _ => rfl
  go_enter Try.func29, Try.ntmps29
  go_wp2
  go_end0
  exact ⟨rfl, rfl⟩
/-- the names, made once -/
def RetOrd (w : World) (B r b : Nat) (ps : List Nat) (v0 : Value) (L : List En) (C : List Nat) (e : Ending) (w' : World) : Prop :=
  ∃ v, e = .returned v ∧ Rg w' B r b ps v true L C ∧ Kp (fun k => k = r) w w' ∧ (v = v0 ∨ ∀ k, v.ownBlock = some k → w.heap.size ≤ k)
set_option maxRecDepth 100000 in
set_option maxHeartbeats 3200000 in
theorem ordered_any (w : World) (B r b : Nat) (ps : List Nat) (v : Value) (dn : Bool) (L : List En) (C : List Nat) (hR : Rg w B r b ps v dn L C) (hB : B ≤ w.heap.size) :
    Calls Try.prog 25 #[.pointer (some ⟨r, 0, none⟩)] w (RetOrd w B r b ps v L C) := by
  have hmf : ∀ (fn : Fn) (first cap : Array Value) (w : World), (Instr.makeFunc fn first cap).run Try.prog w = .ok (.func fn first cap) w := fun _ _ _ _ => rfl
  have hR0 := Lib.hid hR
  have hrs := hR.at0.lt (by simp)
  have hR1 : Rg (w.alloc (.cells #[.pointer (some ⟨r, 0, none⟩)] 23)) B r b ps v dn L C := hR.same (fun k hk => Below.heap_alloc _ _ _ (hR.lt k hk))
  have hp := (At.ofAlloc w #[Value.pointer (some ⟨r, 0, none⟩)] 23).cell 0 _ rfl
  rw [Nat.zero_add] at hp
  have hpr : w.heap.size ≠ r := by omega
  have hK1 : Kp (fun k => k = r) w (w.alloc (.cells #[.pointer (some ⟨r, 0, none⟩)] 23)) := (Kp.refl _ w).alloc _
  have HX := Lib.hid (And.intro hR1 (And.intro hK1 (And.intro hpr (And.intro hrs hB))))
  have HP := Lib.hid hp
  cases dn with
  | true =>
    have c1 := hR1.at0.cell 1 _ rfl
    rw [Nat.zero_add] at c1
    have c4 := hR1.at0.cell 4 _ rfl
    rw [Nat.zero_add] at c4
    have DD := Lib.hid (do_done ⟨r, 1, none⟩ (.func (.func 30) #[] #[.pointer (some ⟨w.heap.size, 0, none⟩)]) _ c1)
    clear hR hR1 hK1 hpr hrs hB c1
    go_enter Try.func25, Try.ntmps25
    go_wp2_with (go_at_call 29; refine (DD.out).mono ?_; rintro e w' ⟨rfl, rfl⟩)
    go_ret
    exact ⟨v, rfl, HX.out.1, HX.out.2.1, .inl rfl⟩
  | false =>
    have hv := hR1.no rfl
    subst hv
    have DD := Lib.hid (do_first (w.alloc (.cells #[.pointer (some ⟨r, 0, none⟩)] 23)) w.heap.size r b ps L hp hpr hR1.at0 hR1.mp hR1.nd hR1.len)
    clear hR hR1 hK1 hpr hrs hB
    go_enter Try.func25, Try.ntmps25
    go_wp2_with (go_at_call 29; refine (DD.out).mono ?_; rintro e w' ⟨rfl, v, HA, HO, HK⟩; have hp2 := HK.out.cell HP.out (fun h => HX.out.2.2.1 h); have c4 := HA.out.cell 4 _ rfl; rw [Nat.zero_add] at c4)
    go_ret
    obtain ⟨hR1, hK1, hpr, hrs, hB⟩ := HX.out
    have hO := HO.out
    have hlo : ∀ k, v.ownBlock = some k → (w.alloc (.cells #[.pointer (some ⟨r, 0, none⟩)] 23)).heap.size ≤ k := fun k hk => (hO.lt k hk).1
    have hold : ∀ k, k < w.heap.size → some k ≠ v.ownBlock := fun k hk e => by have h9 := hlo k e.symm; simp at h9; omega
    refine ⟨v, rfl, ?_, hK1.trans HK.out, .inr (fun k hk => by have h9 := hlo k hk; simp at h9; omega)⟩
    have hkeep : ∀ k, k ≠ r → Rb r b ps (.slice none 0 0) k → w'.heap[k]? = (w.alloc (.cells #[.pointer (some ⟨r, 0, none⟩)] 23)).heap[k]? := fun k hk hb => HK.out.keep k (hR1.lt k hb) hk
    have hlt : ∀ k, Rb r b ps (.slice none 0 0) k → k < w.heap.size := fun k hk => hR0.out.lt k hk
    exact { at0 := HA.out, mp := hR1.mp.same (hkeep b (hR1.mp.ne_at hR1.at0) (.inr (.inl rfl))), pl := hR1.pl, cl := hR1.cl, pa := fun i p hp => at_same (hR1.pa i p hp) (hkeep p (fun e => hR1.rp (e ▸ List.mem_of_getElem? hp)) (.inr (.inr (.inl (List.mem_of_getElem? hp))))), nd := hR1.nd, pn := hR1.pn, rp := hR1.rp, len := hR1.len, ge := hR1.ge, ow := fun _ => ⟨own_mono2 hO (by simp; omega), hold r (hlt r (.inl rfl)), fun p hp => hold p (hlt p (.inr (.inr (.inl hp))))⟩, no := fun h => by cases h }
end Rn
end Go.Proofs.Ytcegihdgnbjclaa
