/- A feed of values in memory: begin, hold. -/
import Derived.Test.YtilfidcomeandaaJfC
import Derived.Deep.RegionLaw
namespace Go.Proofs.Ytilfidcomeandaa
open Go.RowKit
set_option linter.unusedVariables false
set_option linter.unusedSimpArgs false
namespace Jf
open Js
open Dr (Rs Lm has lack)
theorem infoBg : (Try.prog.info? 94).map (fun i => (i.zero, i.size, i.bytes)) = some (some (.agg #[.int .i64 0, .map none]), 2, 16) := by kernel_rfl
def bv (i : Nat) (b : Option Nat) : List Value := [.int .i64 (i : Int), .map b]
theorem bv_one (i : Nat) (b : Option Nat) : ∀ u ∈ bv i b, u.oneCell' = true := by
  intro u hu
  simp only [bv, List.mem_cons, List.not_mem_nil, or_false] at hu
  rcases hu with rfl | rfl <;> rfl
section
variable {w : World} {ops : Array Oper} {o : Oper} {a : Act}
theorem step_append_bg {K : Act → World → Prop} {Q : Exit → Act → World → Prop} {E : Prop} (hgd : o.guard = none) (s x : Operand)
    (ho : o.op = .call { callee := .builtin .append, args := #[s, x], argTypes := #[44, 44] })
    (base : Nat) (v : Value) (n : Nat) (C : List Value) (hs : a.eval s = v) (hown : w.ownsRow base 94 2 v n C)
    (g c : Nat) (i : Nat) (b : Option Nat) (hx : a.eval x = .slice (some ⟨g, 0, none⟩) 1 c) (hcell : ∀ j u, (bv i b)[j]? = some u → w.cell? ((⟨g, 0, none⟩ : Addr).add j) = some u)
    (hn : n ≤ 1000000) (hbase : base ≤ w.heap.size)
    (h : ∀ v' w', w'.ownsRow base 94 2 v' (n + 1) (C ++ bv i b) → w.grownBy w' v.ownBlock → K (a.put o.dst v') w') :
    if Region.wanted o (yielded ops a.tmps) = true then Oper.wp Try.prog o a w K Q else E := by
  obtain ⟨i0, hi, hq⟩ := Option.map_eq_some_iff.1 infoBg
  simp only [Prod.mk.injEq] at hq
  refine step_append_gen hgd s x 44 ho base 94 i0 _ 2 16 Try.underlying44 hi hq.1 hq.2.1 hq.2.2 rfl (by decide) v n C hs hown g 1 c (bv i b) hx rfl hcell (bv_one i b) (by unfold maxLen; omega) (by omega) hbase ?_
  intro v' w' h1 h2
  exact h v' w' h1 h2
end
section
variable (w : World) (g β : Nat) (L : Lm) (ro : Int) (s : St) (k : Nat) (B : List (Option Nat))
theorem HandM.form {w : World} {β : Nat} {hd : Hd} {v : Value} (h : HandM w β hd v) (hne : hd ≠ .none) : ∃ T b, v = .iface T (.pointer (some ⟨b, 0, none⟩)) := by
  cases hd with
  | none => exact absurd rfl hne
  | word r => obtain ⟨a, rfl, _⟩ := h; exact ⟨_, _, rfl⟩
  | num wv t => obtain ⟨a, vT, rfl, _⟩ := h; exact ⟨_, _, rfl⟩
  | str x => obtain ⟨a, rfl, _⟩ := h; exact ⟨_, _, rfl⟩
/-- the maps of what is begun, one more -/
theorem Ms.push {w : World} {β : Nat} {G : List Fr} {B : List (Option Nat)} (h : Ms w β G B) (c : List Vl) (o : Option (List (List UInt8))) (mb : Option Nat) (hob : (o = none ∧ mb = none) ∨ (o = some [] ∧ ∃ b, mb = some b ∧ NamesM w b [] ∧ β ≤ b ∧ some b ∉ B)) : Ms w β (⟨c, 0, o⟩ :: G) (mb :: B) := by
  rcases hob with ⟨rfl, rfl⟩ | ⟨rfl, b, rfl, hm, hb, hne⟩
  · exact .arr h rfl
  · exact .obj h rfl hm hb hne
set_option maxRecDepth 100000 in
set_option maxHeartbeats 1600000 in
theorem fbegin_any (h : FmB w g β L ro s k B) (kind : Int) (hd : Hd) (v : Value) (hH : HandM w β hd v) (hne : hd ≠ .none) (p : Nat) (hp : k = p + 1) (hk : k ≤ 262144) (hL : L.items ≤ 4096) (hl : s.G.length ≤ 1000) (hkd : ∀ f ∈ s.G, f.n ≤ 1000000) :
    Calls Try.prog 71 #[.pointer (some ⟨g, 0, none⟩), .int .i64 kind, v] w (RO (s.add L p (.go (s.begin kind hd))) s.G.length g β L ro k w) := by
  have hg := FmS.facts ⟨B, h⟩
  have hgb := hg.1
  obtain ⟨T, b, rfl⟩ := hH.form hne
  obtain ⟨R, hR⟩ : ∃ R, s.add L p (.go (s.begin kind hd)) = R := ⟨_, rfl⟩
  rw [hR]
  rw [St.add] at hR
  by_cases hi : L.items ≤ s.size
  · have AD := Lib.hid (fadd_no w g β L ro s k ⟨B, h⟩ kind p hp hk hi)
    have HR : Hid (R = .fl 10 p) := by show R = _; rw [← hR, if_pos hi]
    clear h hp hk hR hi hH hL hl hkd
    go_enter Try.func71, Try.ntmps71
    go_wp2_with fail
    refine AD.out.mono ?_
    rintro e w4 ⟨rfl, hF4, hB4⟩
    go_wp2_with fail
    first | go_end0 | refine bodyPost_ret (results_none rfl _ _ _) rfl ?_
    exact RO.fl HR ⟨rfl, hF4, hB4⟩
  · have AD := Lib.hid (fadd_yes w g β L ro s k B h kind (by omega) hL hl hkd)
    have HR : Hid (R = .go (s.begin kind hd)) := by show R = _; rw [← hR, if_neg hi]
    have HH := Lib.hid hH
    clear h hp hk hR hi hH hL hl hkd
    go_enter Try.func71, Try.ntmps71
    go_wp2_with fail
    refine AD.out.mono ?_
    rintro e w4 ⟨rfl, hF4, hB4, hK4⟩
    obtain ⟨vV, vS, vH, a, h4, hn⟩ := hF4.out
    have HN := Lib.hid hn
    have f8 := h4.at0.froz 8 (by show 8 < 13; decide)
    have c8 := h4.at0.cell 8 _ rfl
    have HS := Lib.hid (h4.setHand (hK4.out.hand _ _ HH.out))
    clear h4 hn hF4
    go_wp2_with fail
    first | go_end0 | refine bodyPost_ret (results_none rfl _ _ _) rfl ?_
    exact RO.go HR ⟨rfl, ⟨B, _, _, _, a, HS.out, HN.out⟩, hB4.out.setG _⟩
set_option maxRecDepth 100000 in
set_option maxHeartbeats 6400000 in
theorem fhold_any (h : FmB w g β L ro s k B) (o : Option (List (List UInt8))) (mb : Option Nat) (hob : (o = none ∧ mb = none) ∨ (o = some [] ∧ ∃ b, mb = some b ∧ NamesM w b [] ∧ β ≤ b ∧ some b ∉ B))
    (kind nx : Int) (hkd0 : kind = if o.isSome then 6 else 5) (hnx : nx = if o.isSome then 3 else 1) (p : Nat) (hp : k = p + 1) (hk : k ≤ 262144) (hL : L.items ≤ 4096) (hl : s.G.length ≤ 1000) (hkd : ∀ f ∈ s.G, f.n ≤ 1000000) :
    Calls Try.prog 72 #[.pointer (some ⟨g, 0, none⟩), .int .i64 kind, .int .i64 nx, .map mb] w (RO (s.add L p (if L.depth ≤ s.G.length then .fl 10 p else .go (s.hold o))) s.G.length g β L ro k w) := by
  have hg := FmS.facts ⟨B, h⟩
  have hgb := hg.1
  have hgs := hg.2.1
  obtain ⟨R, hR⟩ : ∃ R, s.add L p (if L.depth ≤ s.G.length then .fl 10 p else .go (s.hold o)) = R := ⟨_, rfl⟩
  rw [hR]
  rw [St.add] at hR
  obtain ⟨n, hn0⟩ : ∃ n, s.G.length = n := ⟨_, rfl⟩
  have c0 : w.cell? ⟨g, 0, none⟩ = some (.int .i64 (L.depth : Int)) := by obtain ⟨vV, vS, vH, a, h4, hn⟩ := h; have := h4.at0.cell 0 _ rfl; rw [Nat.zero_add] at this; exact this
  obtain ⟨aS, cS, c6⟩ : ∃ aS cS, w.cell? ⟨g, 6, none⟩ = some (.slice aS n cS) := by
    obtain ⟨vV, vS, vH, a, h4, hn⟩ := h
    obtain ⟨aS, cS, rfl, -⟩ := own_form h4.stack
    have := h4.at0.cell 6 _ rfl
    rw [Nat.zero_add, hn0] at this
    exact ⟨_, _, this⟩
  by_cases hd : L.depth ≤ n
  · have FA := Lib.hid (fun n => ffault_any (w.drewN n) g β L ro s k (FmS.drewN ⟨B, h⟩ n) 10 p (p : Int) rfl)
    have HR : Hid (R = .fl 10 p) := by show R = _; rw [← hR, hn0, if_pos hd]; split <;> rfl
    have c4 : w.cell? ⟨g, 4, none⟩ = some (.int .i64 (k : Int)) := by obtain ⟨vV, vS, vH, a, h4, hn⟩ := h; have := h4.at0.cell 4 _ rfl; rw [Nat.zero_add] at this; exact this
    have e0 : (L.depth : Int) ≤ (n : Int) := by omega
    have e1 : (k : Int) - 1 = (p : Int) := by omega
    have e2 : IntKind.i64.wrap (p : Int) = (p : Int) := wrap_fit p (by unfold maxLen; omega)
    clear h hp hk hR hL hl hkd hob hkd0 hnx hg hd
    go_enter Try.func72, Try.ntmps72
    go_wp2_with fail
    go_quiet (fail)
    go_wp2_with fail
    refine (FA.out _).mono ?_
    rintro e w4 ⟨rfl, hF4, hB4⟩
    go_wp2_with fail
    first | go_end0 | refine bodyPost_ret (results_none rfl _ _ _) rfl ?_
    exact RO.fl HR ⟨rfl, hF4, (bx_drewN g β w _).trans hB4.out⟩
  rw [hn0, if_neg hd] at hR
  have e0 : ¬ (L.depth : Int) ≤ (n : Int) := by omega
  by_cases hi : L.items ≤ s.size
  · have AD := Lib.hid (fun q => fadd_no (w.drewN q) g β L ro s k (FmS.drewN ⟨B, h⟩ q) kind p hp hk hi)
    have HR : Hid (R = .fl 10 p) := by show R = _; rw [← hR, if_pos hi]
    clear h hp hk hR hi hL hl hkd hob hkd0 hnx hg hd
    go_enter Try.func72, Try.ntmps72
    go_wp2_with fail
    go_quiet (fail)
    go_wp2_with fail
    refine (AD.out _).mono ?_
    rintro e w4 ⟨rfl, hF4, hB4⟩
    go_wp2_with fail
    first | go_end0 | refine bodyPost_ret (results_none rfl _ _ _) rfl ?_
    exact RO.fl HR ⟨rfl, hF4, (bx_drewN g β w _).trans hB4.out⟩
  · have hB : ∀ q, FmB (w.drewN q) g β L ro s k B := fun q => by obtain ⟨vV, vS, vH, a, h4, hn⟩ := h; exact ⟨vV, vS, vH, a, h4.drewN q, hn⟩
    have AD := Lib.hid (fun q => fadd_yes (w.drewN q) g β L ro s k B (hB q) kind (by omega) hL hl hkd)
    have HR : Hid (R = .go (s.hold o)) := by show R = _; rw [← hR, if_neg hi]
    obtain ⟨m, hm⟩ : ∃ m, (flat (bump s.G) s.cur).length = m := ⟨_, rfl⟩
    have hm2 : m ≤ 4096 := by rw [← hm, flat_bump_length]; rw [St.size] at hi; omega
    have e1 : (m : Int) + 1 - 1 = (m : Int) := by omega
    have e2 : IntKind.i64.wrap (m : Int) = (m : Int) := wrap_fit m (by unfold maxLen; omega)
    have HX : Hid ((flat (added s kind).G (added s kind).cur).length = m + 1 ∧ (bump s.G).length = n ∧ n ≤ 1000 ∧ (flat (bump s.G) s.cur).length = m ∧ flat (s.hold o).G (s.hold o).cur = flat (added s kind).G (added s kind).cur) := by
      refine ⟨?_, by rw [bump_length, hn0], by omega, hm, ?_⟩
      · show (flat (bump s.G) (s.cur ++ [_])).length = _
        rw [flat_app, List.length_append, hm]; rfl
      · show flat (⟨s.cur, 0, o⟩ :: bump s.G) [] = flat (bump s.G) (s.cur ++ [⟨kind, 0, []⟩])
        rw [flat_app, flat_cons, Js.hold, holdK, ← hkd0]
        rfl
    have HO := Lib.hid hob
    have HNX : Hid (nx = (((s.hold o).nx : Nat) : Int)) := by
      rw [hnx]
      show _ = (((if o.isSome then 3 else 1 : Nat)) : Int)
      cases o <;> rfl
    have HG2 := Lib.hid hg.2.2
    clear h hp hk hR hi hL hl hkd hob hkd0 hnx hg hd hB hm hm2 hn0
    go_enter Try.func72, Try.ntmps72
    go_wp2_with fail
    go_quiet (fail)
    go_wp2_with fail
    refine (AD.out _).mono ?_
    rintro e w4 ⟨rfl, hF4, hB4, hK4⟩
    obtain ⟨vV, vS, vH, a, h4, hn⟩ := hF4.out
    have HN := Lib.hid hn
    have HOB : Hid ((o = none ∧ mb = none) ∨ (o = some [] ∧ ∃ b, mb = some b ∧ NamesM w4 b [] ∧ β ≤ b ∧ some b ∉ B)) := by
      rcases HO.out with h1 | ⟨h1, b, h2, h3, h5⟩
      · exact .inl h1
      · exact .inr ⟨h1, b, h2, hK4.out.names _ _ (h3.same rfl), h5⟩
    have HB4 : Hid (Bx g β w w4) := (bx_drewN g β w _).trans hB4.out
    obtain ⟨aV, cV, rfl, -⟩ := own_form h4.vals
    have H4 := Lib.hid h4
    have HST : Hid (w4.ownsRow β 94 2 vS n (gcells (bump s.G) B)) := by have h8 := h4.stack; rw [show (added s kind).G.length = n from HX.out.2.1] at h8; exact h8
    have HSD : Hid (∀ ob : Obj, ((World.drew w4).alloc ob).ownsRow β 94 2 vS n (gcells (bump s.G) B)) := Lib.hid (fun ob => (own_drewN HST.out 1).alloc ob)
    have d5 := h4.at0.cell 5 _ rfl
    rw [HX.out.1] at d5
    have d6 := h4.at0.cell 6 _ rfl
    have d6a : ∀ ob : Obj, (w4.alloc ob).cell? ⟨g, 0 + 6, none⟩ = some vS := fun ob => (h4.alloc ob).at0.cell 6 _ rfl
    have d5a : ∀ ob : Obj, (w4.alloc ob).cell? ⟨g, 0 + 5, none⟩ = some (.slice aV (m + 1) cV) := fun ob => by rw [← HX.out.1]; exact (h4.alloc ob).at0.cell 5 _ rfl
    clear hB4 hn hF4 h4 c0 c6
    go_wp2_with fail
    go_region_law (first
      | (refine step_append_bg rfl (.tmp 33) (.tmp 42) rfl β vS n (gcells (bump s.G) B) rfl (HSD.out _) _ 1 m mb rfl (at_cellsW rfl (At.ofAlloc _ #[Value.int .i64 (m : Int), Value.map mb] 94)) (by have := HX.out.2.2.1; omega) (by have := H4.out.bs; simp; omega) ?_; intro v5 w5 hown5 hgrow5; obtain ⟨a5, c5', hv5, -⟩ := own_form hown5; subst hv5; have hJ := (H4.out.drewN 1).alloc (Obj.cells #[Value.int .i64 (m : Int), Value.map mb] 94); have hAt5 := At.grown hJ.at0 hgrow5 hJ.lt (fun e => by have := (HST.out.lt g e).1; have := H4.out.gb; omega); have hf65 := hAt5.froz 6 (by show 6 < 13; decide); have hc65 := hAt5.cell 6 _ rfl; have hf75 := hAt5.froz 7 (by show 7 < 13; decide); have hc75 := hAt5.cell 7 _ rfl; have HW5 := Lib.hid hown5; have HGR := Lib.hid hgrow5; have HJ := Lib.hid hJ; clear hAt5 hgrow5 hown5 hJ))
    all_goals
      go_wp2_with fail
      first | go_end0 | refine bodyPost_ret (results_none rfl _ _ _) rfl ?_
      have h7 := HNX.out
      subst h7
      have hOB : (o = none ∧ mb = none) ∨ (o = some [] ∧ ∃ b, mb = some b ∧ NamesM ((w4.drewN 1).alloc (Obj.cells #[Value.int .i64 (m : Int), Value.map mb] 94)) b [] ∧ β ≤ b ∧ some b ∉ B) := by
        rcases HOB.out with h1 | ⟨h1, b, h2, h3, h5⟩
        · exact .inl h1
        · exact .inr ⟨h1, b, h2, (h3.kept (World.grownBy_alloc w4 _ none) (by simp)).same rfl, h5⟩
      have hM := (Ms.push HJ.out.maps s.cur o mb hOB).kept HGR.out (fun b xs hb hm => hm.ne_row HJ.out.stack)
      have hW : w5.ownsRow β 94 2 (.slice a5 (n + 1) c5') (⟨s.cur, 0, o⟩ :: bump s.G : List Fr).length (gcells (⟨s.cur, 0, o⟩ :: bump s.G) (mb :: B)) := by
        rw [List.length_cons, HX.out.2.1, gcells_cons]
        rw [show (flat (bump s.G) s.cur).length = m from HX.out.2.2.2.1]
        exact HW5.out
      have h8 := (HJ.out.growS HGR.out hW hM).set 7 (.int .i64 (((s.hold o).nx : Nat) : Int)) (nx' := (s.hold o).nx) rfl
      rw [← HX.out.2.2.2.2] at h8
      exact RO.go HR ⟨rfl, ⟨mb :: B, _, _, _, a, h8, HN.out⟩, ((((HB4.out.alloc H4.out.bs (Obj.cells #[Value.int .i64 (m : Int), Value.map mb] 94)).trans (bx_drewN g β _ 1)).grown (row := vS.ownBlock) HGR.out (by have := H4.out.bs; simp; omega) (fun q hq => (HST.out.lt q hq).1)).setG _).setG _⟩
end
end Jf
end Go.Proofs.Ytilfidcomeandaa
