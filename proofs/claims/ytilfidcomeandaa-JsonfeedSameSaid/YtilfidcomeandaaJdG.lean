/- json's reader in memory: an array or an object begins. -/
import Derived.Test.YtilfidcomeandaaJdC
namespace Go.Proofs.Ytilfidcomeandaa
open Go.RowKit
set_option linter.unusedVariables false
set_option linter.unusedSimpArgs false
namespace Jd
open Js
open Dr (Rs Lm has lack)
theorem infoBg : (Try.prog.info? 106).map (fun i => (i.zero, i.size, i.bytes)) = some (some (.agg #[.int .i64 0, .map none]), 2, 16) := by kernel_rfl
def bv (i : Nat) (b : Option Nat) : List Value := [.int .i64 (i : Int), .map b]
theorem bv_one (i : Nat) (b : Option Nat) : ∀ u ∈ bv i b, u.oneCell' = true := by
  intro u hu
  simp only [bv, List.mem_cons, List.not_mem_nil, or_false] at hu
  rcases hu with rfl | rfl <;> rfl
section
variable {w : World} {ops : Array Oper} {o : Oper} {a : Act}
theorem step_append_bg {K : Act → World → Prop} {Q : Exit → Act → World → Prop} {E : Prop} (hgd : o.guard = none) (s x : Operand)
    (ho : o.op = .call { callee := .builtin .append, args := #[s, x], argTypes := #[68, 68] })
    (base : Nat) (v : Value) (n : Nat) (C : List Value) (hs : a.eval s = v) (hown : w.ownsRow base 106 2 v n C)
    (g c : Nat) (i : Nat) (b : Option Nat) (hx : a.eval x = .slice (some ⟨g, 0, none⟩) 1 c) (hcell : ∀ j u, (bv i b)[j]? = some u → w.cell? ((⟨g, 0, none⟩ : Addr).add j) = some u)
    (hn : n ≤ 1000000) (hbase : base ≤ w.heap.size)
    (h : ∀ v' w', w'.ownsRow base 106 2 v' (n + 1) (C ++ bv i b) → w.grownBy w' v.ownBlock → K (a.put o.dst v') w') :
    if Region.wanted o (yielded ops a.tmps) = true then Oper.wp Try.prog o a w K Q else E := by
  obtain ⟨i0, hi, hq⟩ := Option.map_eq_some_iff.1 infoBg
  simp only [Prod.mk.injEq] at hq
  refine step_append_gen hgd s x 68 ho base 106 i0 _ 2 16 Try.underlying68 hi hq.1 hq.2.1 hq.2.2 rfl (by decide) v n C hs hown g 1 c (bv i b) hx rfl hcell (bv_one i b) (by unfold maxLen; omega) (by omega) hbase ?_
  intro v' w' h1 h2
  exact h v' w' h1 h2
end
/-- the maps of what is begun, one more -/
theorem Ms.push {w : World} {β : Nat} {G : List Fr} {B : List (Option Nat)} (h : Ms w β G B) (c : List Vl) (o : Option (List (List UInt8))) (mb : Option Nat) (hob : (o = none ∧ mb = none) ∨ (o = some [] ∧ ∃ b, mb = some b ∧ NamesM w b [] ∧ β ≤ b ∧ some b ∉ B)) : Ms w β (⟨c, 0, o⟩ :: G) (mb :: B) := by
  rcases hob with ⟨rfl, rfl⟩ | ⟨rfl, b, rfl, hm, hb, hne⟩
  · exact .arr h rfl
  · exact .obj h rfl hm hb hne
def bbox (mb : Option Nat) : Obj := Obj.cells #[.int .i64 0, .map mb] 106
/-- a block of somebody else's is stored to -/
theorem Jd.setBox {w : World} {g : Nat} {s : ByteArray} {L : Lm} {ro : Int} {p nx : Nat} {l : List Vl} {G : List Fr} {B : List (Option Nat)} {vV vS : Value} (h : Jd w g s L ro p nx l G B vV vS) (T j : Nat) (u : Value) {c : Value} {cs : List Value} (hg : T ≠ g) (hV : vV.ownBlock ≠ some T) (hS : vS.ownBlock ≠ some T) (hA : At w T 0 (c :: cs)) : Jd (w.setCell ⟨T, j, none⟩ u) g s L ro p nx l G B vV vS :=
  ⟨h.at0.other T _ u (Or.inl hg), ownsRow_setCell_other h.vals hV u, ownsRow_setCell_other h.stack hS u, h.maps.kept (grown_set w ⟨T, j, none⟩ u) (fun b xs _ hm => by rintro ⟨⟩; exact hm.ne_at hA rfl)⟩
section
variable (w : World) (g : Nat) (s : ByteArray) (L : Lm) (ro : Int) (st : St) (p : Nat) (B : List (Option Nat))
set_option maxRecDepth 100000 in
set_option maxHeartbeats 6400000 in
theorem dbegin_any (h : JdB w g s L ro st.nx st.cur st.G p B) (hE : Env s L) (hh : has s.toList L p = true) (o : Option (List (List UInt8))) (mb : Option Nat) (hob : (o = none ∧ mb = none) ∨ (o = some [] ∧ ∃ b, mb = some b ∧ NamesM w b [] ∧ g + 1 ≤ b ∧ some b ∉ B))
    (kind z : Int) (hkd0 : kind = if o.isSome then 6 else 5) (hz : z = (((st.hold o).nx : Nat) : Int)) (hl : st.G.length ≤ 1000) (hkd : ∀ f ∈ st.G, f.n ≤ 1000000) :
    Calls Try.prog 68 #[.pointer (some ⟨g, 0, none⟩), .int .i64 kind, .agg #[.int .i64 0, .map mb], .int .i64 z] w (RA (st.add L p (if L.depth ≤ st.G.length then .fl 10 p else .go (st.hold o))) p g s L ro w) := by
  obtain ⟨R, hR⟩ : ∃ R, st.add L p (if L.depth ≤ st.G.length then .fl 10 p else .go (st.hold o)) = R := ⟨_, rfl⟩
  rw [hR]
  rw [St.add] at hR
  have hgl := h.lt
  have hA : JdB (w.alloc (bbox mb)) g s L ro st.nx st.cur st.G p B := h.alloc _
  have PL := Lib.hid (place_ok (w.alloc (bbox mb)) g s L.bytes p hA.tx.1)
  have HBX : Hid (Below g w (w.alloc (bbox mb))) := (Below.refl g w).alloc (Nat.le_of_lt h.lt) _
  by_cases hi : L.items ≤ st.size
  · have AD := Lib.hid (dadd_no (w.alloc (bbox mb)) g s L ro st.nx st.cur st.G p B hA kind hi)
    have HR : Hid (R = .fl 10 p) := by show R = _; rw [← hR, if_pos hi]
    clear h hE hh hob hkd0 hz hl hkd hR hi hA hgl
    go_enter Try.func68, Try.ntmps68
    go_wp2_with fail
    rw [show w.alloc (Obj.cells #[.int .i64 0, .map mb] 106) = w.alloc (bbox mb) from rfl]
    generalize w.alloc (bbox mb) = w1 at *
    refine PL.out.mono ?_
    rintro e w2 ⟨rfl, rfl⟩
    go_wp2_with fail
    refine AD.out.mono ?_
    rintro e w2 ⟨rfl, hb⟩
    go_wp2_with fail
    exact ⟨rfl, RA.fl HR rfl (HBX.out.trans hb)⟩
  have AD := Lib.hid (dadd_yes (w.alloc (bbox mb)) g s L ro st.nx st.cur st.G p B hA kind (by rw [St.size] at hi; omega) hE.i hl hkd)
  obtain ⟨n, hn0⟩ : ∃ n, st.G.length = n := ⟨_, rfl⟩
  rw [if_neg hi, hn0] at hR
  by_cases hd : L.depth ≤ n
  · have HR : Hid (R = .fl 10 p) := by show R = _; rw [← hR, if_pos hd]
    have FA := Lib.hid (fun w => fail_at 10 p g w)
    have HN : Hid ((bump st.G).length = n) := by show _ = _; rw [bump_length, hn0]
    have e0 : (L.depth : Int) ≤ (n : Int) := by omega
    clear h hE hh hob hkd0 hz hl hkd hR hi hA hgl hn0 hd
    go_enter Try.func68, Try.ntmps68
    go_wp2_with fail
    rw [show w.alloc (Obj.cells #[.int .i64 0, .map mb] 106) = w.alloc (bbox mb) from rfl]
    generalize w.alloc (bbox mb) = w1 at *
    refine PL.out.mono ?_
    rintro e w2 ⟨rfl, rfl⟩
    go_wp2_with fail
    refine AD.out.mono ?_
    rintro e w4 ⟨rfl, hF4, hB4, hK4, h94⟩
    obtain ⟨vV, vS, h4⟩ := hF4.out
    obtain ⟨aS, cS, rfl, -⟩ := own_form h4.stack
    have c3 := h4.at0.cell 3 _ rfl
    have c9 := h4.at0.cell 9 _ rfl
    rw [HN.out] at c9
    clear hF4 hK4 h94 h4
    go_wp2_with fail
    go_quiet (fail)
    go_wp2_with fail
    refine (FA.out _).mono ?_
    rintro e w5 ⟨rfl, hb⟩
    go_wp2_with fail
    exact ⟨rfl, RA.fl HR rfl (((HBX.out.trans hB4.out).trans (below_drewN g _ _)).trans hb)⟩
  rw [if_neg hd] at hR
  have e0 : ¬ (L.depth : Int) ≤ (n : Int) := by omega
  have HR : Hid (R = .go (st.hold o)) := hR.symm
  obtain ⟨m, hm⟩ : ∃ m, (flat (bump st.G) st.cur).length = m := ⟨_, rfl⟩
  have hm2 : m ≤ 4096 := by have := hE.i; rw [← hm, flat_bump_length]; rw [St.size] at hi; omega
  have e1 : (m : Int) + 1 - 1 = (m : Int) := by omega
  have e2 : IntKind.i64.wrap (m : Int) = (m : Int) := wrap_fit m (by unfold maxLen; omega)
  have HX : Hid ((flat (bump st.G) (st.cur ++ [⟨kind, 0, []⟩])).length = m + 1 ∧ (bump st.G).length = n ∧ n ≤ 1000 ∧ (flat (bump st.G) st.cur).length = m ∧ flat (st.hold o).G (st.hold o).cur = flat (bump st.G) (st.cur ++ [⟨kind, 0, []⟩])) := by
    refine ⟨?_, by rw [bump_length, hn0], by omega, hm, ?_⟩
    · rw [flat_app, List.length_append, hm]; rfl
    · show flat (⟨st.cur, 0, o⟩ :: bump st.G) [] = flat (bump st.G) (st.cur ++ [⟨kind, 0, []⟩])
      rw [flat_app, flat_cons, Js.hold, holdK, ← hkd0]
      rfl
  have HO : Hid ((o = none ∧ mb = none) ∨ (o = some [] ∧ ∃ b, mb = some b ∧ NamesM (w.alloc (bbox mb)) b [] ∧ g + 1 ≤ b ∧ some b ∉ B)) := by
    rcases hob with h1 | ⟨h1, b, h2, h3, h5⟩
    · exact .inl h1
    · exact .inr ⟨h1, b, h2, h3.kept (World.grownBy_alloc w _ none) (by simp), h5⟩
  have HZ := Lib.hid hz
  have HE := Lib.hid (And.intro hE hh)
  obtain ⟨T, hT⟩ : ∃ T, w.heap.size = T := ⟨_, rfl⟩
  have HTX : Hid (At (w.alloc (bbox mb)) T 0 [.int .i64 0, .map mb]) := by rw [← hT]; exact At.ofAlloc w #[.int .i64 0, .map mb] 106
  have HNV : Hid (NotV (w.alloc (bbox mb)) T) := by
    intro cur hc
    rw [← hT, (MapKept.heap_alloc w _).1] at hc
    injection hc with hc
    injection hc with _ hc
    exact val_ne_begun hc.symm
  obtain ⟨vV0, vS0, h0⟩ := h
  have HG1 : Hid (∃ c cs, At (w.alloc (bbox mb)) g 0 (c :: cs)) := ⟨_, _, (h0.alloc (bbox mb)).at0⟩
  have HS0 : Hid ((w.alloc (bbox mb)).cell? ⟨g, 9, none⟩ = some vS0 ∧ vS0.ownBlock ≠ some T ∧ T ≠ g ∧ T < (w.alloc (bbox mb)).heap.size ∧ g < (w.alloc (bbox mb)).heap.size) := by
    refine ⟨?_, fun e => ?_, by omega, by rw [← hT]; simp, by simp; omega⟩
    · have := (h0.alloc (bbox mb)).at0.cell 9 _ rfl
      rw [Nat.zero_add] at this
      exact this
    · have := (h0.stack.lt T e).2
      omega
  have HTG : Hid (g < T) := by show g < T; omega
  clear h0 hE hh hob hkd0 hz hl hkd hR hi hA hgl hd hn0 hm hm2
  go_enter Try.func68, Try.ntmps68
  go_wp2_with fail
  try rw [hT]
  clear hT
  rw [show w.alloc (Obj.cells #[.int .i64 0, .map mb] 106) = w.alloc (bbox mb) from rfl]
  generalize w.alloc (bbox mb) = w1 at *
  refine PL.out.mono ?_
  rintro e w2 ⟨rfl, rfl⟩
  go_wp2_with fail
  refine AD.out.mono ?_
  rintro e w4 ⟨rfl, hF4, hB4, hK4, h94⟩
  obtain ⟨vV, vS, h4⟩ := hF4.out
  have hvS : vS0 = vS := by
    have h1 := h4.at0.cell 9 _ rfl
    rw [Nat.zero_add, h94.out, HS0.out.1] at h1
    injection h1
  subst hvS
  have HT4 : Hid (At w4 T 0 [.int .i64 0, .map mb]) := hK4.out.at HS0.out.2.2.1 HNV.out HTX.out
  have hN4 : NotV w4 T := hK4.out.notV HS0.out.2.2.2.1 HS0.out.2.2.1 HNV.out
  have HVT : Hid (vV.ownBlock ≠ some T) := fun e => by obtain ⟨cur, hc⟩ := row_ty h4.vals e; exact hN4 _ hc
  have HOB : Hid ((o = none ∧ mb = none) ∨ (o = some [] ∧ ∃ b, mb = some b ∧ NamesM w4 b [] ∧ g + 1 ≤ b ∧ some b ∉ B)) := by
    obtain ⟨c, cs, hg1⟩ := HG1.out
    rcases HO.out with h1 | ⟨h1, b, h2, h3, h5⟩
    · exact .inl h1
    · exact .inr ⟨h1, b, h2, hK4.out.names h3 hg1, h5⟩
  obtain ⟨aV, cV, rfl, -⟩ := own_form h4.vals
  obtain ⟨aS, cS, rfl, -⟩ := own_form h4.stack
  have H4 := Lib.hid h4
  have c3 := h4.at0.cell 3 _ rfl
  have c8 := h4.at0.cell 8 _ rfl
  have c9 := h4.at0.cell 9 _ rfl
  rw [HX.out.2.1] at c9
  rw [HX.out.1] at c8
  have t0 := HT4.out.cell 0 _ rfl
  have ft0 := HT4.out.froz 0 (by simp)
  have HB4 : Hid (Below g w w4) := HBX.out.trans hB4.out
  clear hF4 hK4 h94 h4 hB4 hN4 PL AD HNV HTX HO HG1 HBX
  go_wp2_with fail
  go_quiet (fail)
  go_upto_region 6 with fail
  have H5 : Hid (Jd ((w4.drewN nq).setCell ⟨T, 0, none⟩ (.int .i64 (m : Int))) g s L ro p st.nx (flat (bump st.G) (st.cur ++ [⟨kind, 0, []⟩])) (bump st.G) B (.slice aV (flat (bump st.G) (st.cur ++ [⟨kind, 0, []⟩])).length cV) (.slice aS (bump st.G).length cS)) := (H4.out.drewN nq).setBox T 0 _ HS0.out.2.2.1 HVT.out HS0.out.2.1 (HT4.out.drewN nq)
  have HT5 : Hid (At ((w4.drewN nq).setCell ⟨T, 0, none⟩ (.int .i64 (m : Int))) T 0 [.int .i64 (m : Int), .map mb]) := by
    have h1 := (HT4.out.drewN nq).set 0 (.int .i64 (m : Int))
    rw [Nat.zero_add] at h1
    exact h1
  have HB5 : Hid (Below g w ((w4.drewN nq).setCell ⟨T, 0, none⟩ (.int .i64 (m : Int)))) := (HB4.out.trans (below_drewN g w4 nq)).setCell (p := ⟨T, 0, none⟩) (by show g ≤ T; have := HTG.out; omega) _
  have HOB5 : Hid ((o = none ∧ mb = none) ∨ (o = some [] ∧ ∃ b, mb = some b ∧ NamesM ((w4.drewN nq).setCell ⟨T, 0, none⟩ (.int .i64 (m : Int))) b [] ∧ g + 1 ≤ b ∧ some b ∉ B)) := by
    rcases HOB.out with h1 | ⟨h1, b, h2, h3, h5⟩
    · exact .inl h1
    · have h6 : NamesM (w4.drewN nq) b [] := h3.same rfl
      exact .inr ⟨h1, b, h2, h6.kept (grown_set (w4.drewN nq) ⟨T, 0, none⟩ _) (by rintro ⟨⟩; exact h3.ne_at HT4.out rfl), h5⟩
  generalize (w4.drewN nq).setCell ⟨T, 0, none⟩ (.int .i64 (m : Int)) = w5 at H5 HT5 HB5 HOB5 ⊢
  rw [HX.out.1, HX.out.2.1] at H5
  clear t0 ft0 c3 c8 c9 H4 HT4 HB4 HOB HVT HS0
  obtain ⟨vS, hvS⟩ : ∃ v, Value.slice aS n cS = v := ⟨_, rfl⟩
  rw [hvS] at H5
  try rw [hvS]
  clear hvS
  have HST : Hid (w5.ownsRow (g + 1) 106 2 vS n (gcells (bump st.G) B)) := by have h8 := H5.out.stack; rw [HX.out.2.1] at h8; exact h8
  have HSD : Hid (∀ ob : Obj, ((World.drew w5).alloc ob).ownsRow (g + 1) 106 2 vS n (gcells (bump st.G) B)) := Lib.hid (fun ob => (own_drewN HST.out 1).alloc ob)
  have c9 := H5.out.at0.cell 9 _ rfl
  have d9 : ∀ ob : Obj, (w5.alloc ob).cell? ⟨g, 0 + 9, none⟩ = some vS := fun ob => (H5.out.alloc ob).at0.cell 9 _ rfl
  have k0 := HT5.out.cell 0 _ rfl
  have k1 := HT5.out.cell 1 _ rfl
  go_wp2_with fail
  go_region_law (first
    | (refine step_append_bg rfl (.tmp 41) (.tmp 43) rfl (g + 1) vS n (gcells (bump st.G) B) rfl (HSD.out _) _ 1 m mb rfl (at_cellsW rfl (At.ofAlloc _ #[Value.int .i64 (m : Int), Value.map mb] 106)) (by have := HX.out.2.2.1; omega) (by have := H5.out.lt; simp; omega) ?_; intro v6 w6 hown6 hgrow6; obtain ⟨a6, c6', hv6, -⟩ := own_form hown6; subst hv6; have hJ := (H5.out.drewN 1).alloc (Obj.cells #[Value.int .i64 (m : Int), Value.map mb] 106); have hAt6 := At.grown hJ.at0 hgrow6 hJ.lt (fun e => by have := (HST.out.lt g e).1; omega); have hf96 := hAt6.froz 9 (by show 9 < 10; decide); have hc96 := hAt6.cell 9 _ rfl; have HW6 := Lib.hid hown6; have HGR := Lib.hid hgrow6; have HJ := Lib.hid hJ; clear hAt6 hgrow6 hown6 hJ))
  all_goals
    have hOB : (o = none ∧ mb = none) ∨ (o = some [] ∧ ∃ b, mb = some b ∧ NamesM ((w5.drewN 1).alloc (Obj.cells #[Value.int .i64 (m : Int), Value.map mb] 106)) b [] ∧ g + 1 ≤ b ∧ some b ∉ B) := by
      rcases HOB5.out with h1 | ⟨h1, b, h2, h3, h5⟩
      · exact .inl h1
      · exact .inr ⟨h1, b, h2, (h3.kept (World.grownBy_alloc w5 _ none) (by simp)).same rfl, h5⟩
    have hM := (Ms.push HJ.out.maps st.cur o mb hOB).kept HGR.out (fun b xs hb hm => hm.ne_row HJ.out.stack)
    have hW : w6.ownsRow (g + 1) 106 2 (.slice a6 (n + 1) c6') (⟨st.cur, 0, o⟩ :: bump st.G : List Fr).length (gcells (⟨st.cur, 0, o⟩ :: bump st.G) (mb :: B)) := by
      rw [List.length_cons, HX.out.2.1, gcells_cons]
      rw [show (flat (bump st.G) st.cur).length = m from HX.out.2.2.2.1]
      exact HW6.out
    have h8 := HJ.out.growS HGR.out hW hM
    rw [← HX.out.2.2.2.2] at h8
    have HB8 := (((HB5.out.trans (below_drewN g w5 1)).alloc (Nat.le_of_lt H5.out.lt) (Obj.cells #[Value.int .i64 (m : Int), Value.map mb] 106)).grown (row := vS.ownBlock) HGR.out (by have := H5.out.lt; simp; omega) (fun q hq => by have := (HST.out.lt q hq).1; omega)).setCell (p := ⟨g, 9, none⟩) (Nat.le_refl g) (.slice a6 (n + 1) c6')
    have NX := Lib.hid (nextB_yes _ g s L ro p (cur := (st.hold o).cur) (G := (st.hold o).G) ⟨_, _, h8⟩ HE.out.1 HE.out.2 _ rfl)
    clear h8 hM hW hOB
    go_wp2_with fail
    refine NX.out.mono ?_
    rintro e w7 ⟨rfl, hF7, hB7, -⟩
    obtain ⟨vV7, vS7, h7⟩ := hF7.out
    have f7 := h7.at0.froz 7 (by show 7 < 10; decide)
    have c7 := h7.at0.cell 7 _ rfl
    have HJ9 := Lib.hid (h7.set 7 (.int .i64 z) (nx' := (st.hold o).nx) (by rw [HZ.out]; rfl))
    have HB9 := Lib.hid ((HB8.trans hB7.out).setCell (p := ⟨g, 7, none⟩) (Nat.le_refl g) (.int .i64 z))
    clear h7 hF7 hB7 HB8
    go_wp2_with fail
    first | go_end0 | refine bodyPost_ret (results_none rfl _ _ _) rfl ?_
    exact RA.go HR ⟨_, _, _, HJ9.out⟩ HB9
end
end Jd
end Go.Proofs.Ytilfidcomeandaa
