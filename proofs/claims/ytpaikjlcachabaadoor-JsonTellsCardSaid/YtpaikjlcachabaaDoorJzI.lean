/- Joined by merge.py: JdG JdH JdI. -/
import Derived.Test.YtpaikjlcachabaaDoorJzH
import Derived.Test.YtpaikjlcachabaaDoorJdF
namespace Go.Proofs.YtpaikjlcachabaaDoor
open Go.RowKit
set_option linter.unusedVariables false
set_option linter.unusedSimpArgs false
namespace Jd
open Js
open Dr (Rs Lm has lack)
theorem infoBg : (Tryd.prog.info? 99).map (fun i => (i.zero, i.size, i.bytes)) = some (some (.agg #[.int .i64 0, .map none]), 2, 16) := by kernel_rfl
def bv (i : Nat) (b : Option Nat) : List Value := [.int .i64 (i : Int), .map b]
theorem bv_one (i : Nat) (b : Option Nat) : ∀ u ∈ bv i b, u.oneCell' = true := by
  intro u hu
  simp only [bv, List.mem_cons, List.not_mem_nil, or_false] at hu
  rcases hu with rfl | rfl <;> rfl
section
variable {w : World} {ops : Array Oper} {o : Oper} {a : Act}
theorem step_append_bg {K : Act → World → Prop} {Q : Exit → Act → World → Prop} {E : Prop} (hgd : o.guard = none) (s x : Operand)
    (ho : o.op = .call { callee := .builtin .append, args := #[s, x], argTypes := #[48, 48] })
    (base : Nat) (v : Value) (n : Nat) (C : List Value) (hs : a.eval s = v) (hown : w.ownsRow base 99 2 v n C)
    (g c : Nat) (i : Nat) (b : Option Nat) (hx : a.eval x = .slice (some ⟨g, 0, none⟩) 1 c) (hcell : ∀ j u, (bv i b)[j]? = some u → w.cell? ((⟨g, 0, none⟩ : Addr).add j) = some u)
    (hn : n ≤ 1000000) (hbase : base ≤ w.heap.size)
    (h : ∀ v' w', w'.ownsRow base 99 2 v' (n + 1) (C ++ bv i b) → w.grownBy w' v.ownBlock → K (a.put o.dst v') w') :
    if Region.wanted o (yielded ops a.tmps) = true then Oper.wp Tryd.prog o a w K Q else E := by
  obtain ⟨i0, hi, hq⟩ := Option.map_eq_some_iff.1 infoBg
  simp only [Prod.mk.injEq] at hq
  refine step_append_gen hgd s x 48 ho base 99 i0 _ 2 16 Tryd.underlying48 hi hq.1 hq.2.1 hq.2.2 rfl (by decide) v n C hs hown g 1 c (bv i b) hx rfl hcell (bv_one i b) (by unfold maxLen; omega) (by omega) hbase ?_
  intro v' w' h1 h2
  exact h v' w' h1 h2
end
/-- the maps of what is begun, one more -/
theorem Ms.push {w : World} {β : Nat} {G : List Fr} {B : List (Option Nat)} (h : Ms w β G B) (c : List Vl) (o : Option (List (List UInt8))) (mb : Option Nat) (hob : (o = none ∧ mb = none) ∨ (o = some [] ∧ ∃ b, mb = some b ∧ NamesM w b [] ∧ β ≤ b ∧ some b ∉ B)) : Ms w β (⟨c, 0, o⟩ :: G) (mb :: B) := by
  rcases hob with ⟨rfl, rfl⟩ | ⟨rfl, b, rfl, hm, hb, hne⟩
  · exact .arr h rfl
  · exact .obj h rfl hm hb hne
def bbox (mb : Option Nat) : Obj := Obj.cells #[.int .i64 0, .map mb] 99
/-- a block of somebody else's is stored to -/
theorem Jd.setBox {w : World} {g : Nat} {s : ByteArray} {L : Lm} {ro : Int} {p nx : Nat} {l : List Vl} {G : List Fr} {B : List (Option Nat)} {vV vS : Value} (h : Jd w g s L ro p nx l G B vV vS) (T j : Nat) (u : Value) {c : Value} {cs : List Value} (hg : T ≠ g) (hV : vV.ownBlock ≠ some T) (hS : vS.ownBlock ≠ some T) (hA : At w T 0 (c :: cs)) : Jd (w.setCell ⟨T, j, none⟩ u) g s L ro p nx l G B vV vS :=
  ⟨h.at0.other T _ u (Or.inl hg), ownsRow_setCell_other h.vals hV u, ownsRow_setCell_other h.stack hS u, h.maps.kept (grown_set w ⟨T, j, none⟩ u) (fun b xs _ hm => by rintro ⟨⟩; exact hm.ne_at hA rfl)⟩
section
variable (w : World) (g : Nat) (s : ByteArray) (L : Lm) (ro : Int) (st : St) (p : Nat) (B : List (Option Nat))
set_option maxRecDepth 100000 in
set_option maxHeartbeats 6400000 in
theorem dbegin_any (h : JdB w g s L ro st.nx st.cur st.G p B) (hE : Env s L) (hh : has s.toList L p = true) (o : Option (List (List UInt8))) (mb : Option Nat) (hob : (o = none ∧ mb = none) ∨ (o = some [] ∧ ∃ b, mb = some b ∧ NamesM w b [] ∧ g + 1 ≤ b ∧ some b ∉ B))
    (kind z : Int) (hkd0 : kind = if o.isSome then 6 else 5) (hz : z = (((st.hold o).nx : Nat) : Int)) (hl : st.G.length ≤ 1000) (hkd : ∀ f ∈ st.G, f.n ≤ 1000000) :
    Calls Tryd.prog 59 #[.pointer (some ⟨g, 0, none⟩), .int .i64 kind, .agg #[.int .i64 0, .map mb], .int .i64 z] w (RA (st.add L p (if L.depth ≤ st.G.length then .fl 10 p else .go (st.hold o))) p g s L ro w) := by
  obtain ⟨R, hR⟩ : ∃ R, st.add L p (if L.depth ≤ st.G.length then .fl 10 p else .go (st.hold o)) = R := ⟨_, rfl⟩
  rw [hR]
  rw [St.add] at hR
  have hgl := h.lt
  have hA : JdB (w.alloc (bbox mb)) g s L ro st.nx st.cur st.G p B := h.alloc _
  have PL := Lib.hid (place_ok (w.alloc (bbox mb)) g s L.bytes p hA.tx.1)
  have HBX : Hid (Below g w (w.alloc (bbox mb))) := (Below.refl g w).alloc (Nat.le_of_lt h.lt) _
  by_cases hi : L.items ≤ st.size
  · have AD := Lib.hid (dadd_no (w.alloc (bbox mb)) g s L ro st.nx st.cur st.G p B hA kind hi)
    have HR : Hid (R = .fl 10 p) := by show R = _; rw [← hR, if_pos hi]
    clear h hE hh hob hkd0 hz hl hkd hR hi hA hgl
    go_enter Tryd.func59, Tryd.ntmps59
    go_wp2_with fail
    rw [show w.alloc (Obj.cells #[.int .i64 0, .map mb] 99) = w.alloc (bbox mb) from rfl]
    generalize w.alloc (bbox mb) = w1 at *
    refine PL.out.mono ?_
    rintro e w2 ⟨rfl, rfl⟩
    go_wp2_with fail
    refine AD.out.mono ?_
    rintro e w2 ⟨rfl, hb⟩
    go_wp2_with fail
    exact ⟨rfl, RA.fl HR rfl (HBX.out.trans hb)⟩
  have AD := Lib.hid (dadd_yes (w.alloc (bbox mb)) g s L ro st.nx st.cur st.G p B hA kind (by rw [St.size] at hi; omega) hE.i hl hkd)
  obtain ⟨n, hn0⟩ : ∃ n, st.G.length = n := ⟨_, rfl⟩
  rw [if_neg hi, hn0] at hR
  by_cases hd : L.depth ≤ n
  · have HR : Hid (R = .fl 10 p) := by show R = _; rw [← hR, if_pos hd]
    have FA := Lib.hid (fun w => fail_at 10 p g w)
    have HN : Hid ((bump st.G).length = n) := by show _ = _; rw [bump_length, hn0]
    have e0 : (L.depth : Int) ≤ (n : Int) := by omega
    clear h hE hh hob hkd0 hz hl hkd hR hi hA hgl hn0 hd
    go_enter Tryd.func59, Tryd.ntmps59
    go_wp2_with fail
    rw [show w.alloc (Obj.cells #[.int .i64 0, .map mb] 99) = w.alloc (bbox mb) from rfl]
    generalize w.alloc (bbox mb) = w1 at *
    refine PL.out.mono ?_
    rintro e w2 ⟨rfl, rfl⟩
    go_wp2_with fail
    refine AD.out.mono ?_
    rintro e w4 ⟨rfl, hF4, hB4, hK4, h94⟩
    obtain ⟨vV, vS, h4⟩ := hF4.out
    obtain ⟨aS, cS, rfl, -⟩ := own_form h4.stack
    have c3 := h4.at0.cell 3 _ rfl
    have c9 := h4.at0.cell 9 _ rfl
    rw [HN.out] at c9
    clear hF4 hK4 h94 h4
    go_wp2_with fail
    go_quiet (fail)
    go_wp2_with fail
    refine (FA.out _).mono ?_
    rintro e w5 ⟨rfl, hb⟩
    go_wp2_with fail
    exact ⟨rfl, RA.fl HR rfl (((HBX.out.trans hB4.out).trans (below_drewN g _ _)).trans hb)⟩
  rw [if_neg hd] at hR
  have e0 : ¬ (L.depth : Int) ≤ (n : Int) := by omega
  have HR : Hid (R = .go (st.hold o)) := hR.symm
  obtain ⟨m, hm⟩ : ∃ m, (flat (bump st.G) st.cur).length = m := ⟨_, rfl⟩
  have hm2 : m ≤ 4096 := by have := hE.i; rw [← hm, flat_bump_length]; rw [St.size] at hi; omega
  have e1 : (m : Int) + 1 - 1 = (m : Int) := by omega
  have e2 : IntKind.i64.wrap (m : Int) = (m : Int) := wrap_fit m (by unfold maxLen; omega)
  have HX : Hid ((flat (bump st.G) (st.cur ++ [⟨kind, 0, []⟩])).length = m + 1 ∧ (bump st.G).length = n ∧ n ≤ 1000 ∧ (flat (bump st.G) st.cur).length = m ∧ flat (st.hold o).G (st.hold o).cur = flat (bump st.G) (st.cur ++ [⟨kind, 0, []⟩])) := by
    refine ⟨?_, by rw [bump_length, hn0], by omega, hm, ?_⟩
    · rw [flat_app, List.length_append, hm]; rfl
    · show flat (⟨st.cur, 0, o⟩ :: bump st.G) [] = flat (bump st.G) (st.cur ++ [⟨kind, 0, []⟩])
      rw [flat_app, flat_cons, Js.hold, holdK, ← hkd0]
      rfl
  have HO : Hid ((o = none ∧ mb = none) ∨ (o = some [] ∧ ∃ b, mb = some b ∧ NamesM (w.alloc (bbox mb)) b [] ∧ g + 1 ≤ b ∧ some b ∉ B)) := by
    rcases hob with h1 | ⟨h1, b, h2, h3, h5⟩
    · exact .inl h1
    · exact .inr ⟨h1, b, h2, h3.kept (World.grownBy_alloc w _ none) (by simp), h5⟩
  have HZ := Lib.hid hz
  have HE := Lib.hid (And.intro hE hh)
  obtain ⟨T, hT⟩ : ∃ T, w.heap.size = T := ⟨_, rfl⟩
  have HTX : Hid (At (w.alloc (bbox mb)) T 0 [.int .i64 0, .map mb]) := by rw [← hT]; exact At.ofAlloc w #[.int .i64 0, .map mb] 99
  have HNV : Hid (NotV (w.alloc (bbox mb)) T) := by
    intro cur hc
    rw [← hT, (MapKept.heap_alloc w _).1] at hc
    injection hc with hc
    injection hc with _ hc
    exact val_ne_begun hc.symm
  obtain ⟨vV0, vS0, h0⟩ := h
  have HG1 : Hid (∃ c cs, At (w.alloc (bbox mb)) g 0 (c :: cs)) := ⟨_, _, (h0.alloc (bbox mb)).at0⟩
  have HS0 : Hid ((w.alloc (bbox mb)).cell? ⟨g, 9, none⟩ = some vS0 ∧ vS0.ownBlock ≠ some T ∧ T ≠ g ∧ T < (w.alloc (bbox mb)).heap.size ∧ g < (w.alloc (bbox mb)).heap.size) := by
    refine ⟨?_, fun e => ?_, by omega, by rw [← hT]; simp, by simp; omega⟩
    · have := (h0.alloc (bbox mb)).at0.cell 9 _ rfl
      rw [Nat.zero_add] at this
      exact this
    · have := (h0.stack.lt T e).2
      omega
  have HTG : Hid (g < T) := by show g < T; omega
  clear h0 hE hh hob hkd0 hz hl hkd hR hi hA hgl hd hn0 hm hm2
  go_enter Tryd.func59, Tryd.ntmps59
  go_wp2_with fail
  try rw [hT]
  clear hT
  rw [show w.alloc (Obj.cells #[.int .i64 0, .map mb] 99) = w.alloc (bbox mb) from rfl]
  generalize w.alloc (bbox mb) = w1 at *
  refine PL.out.mono ?_
  rintro e w2 ⟨rfl, rfl⟩
  go_wp2_with fail
  refine AD.out.mono ?_
  rintro e w4 ⟨rfl, hF4, hB4, hK4, h94⟩
  obtain ⟨vV, vS, h4⟩ := hF4.out
  have hvS : vS0 = vS := by
    have h1 := h4.at0.cell 9 _ rfl
    rw [Nat.zero_add, h94.out, HS0.out.1] at h1
    injection h1
  subst hvS
  have HT4 : Hid (At w4 T 0 [.int .i64 0, .map mb]) := hK4.out.at HS0.out.2.2.1 HNV.out HTX.out
  have hN4 : NotV w4 T := hK4.out.notV HS0.out.2.2.2.1 HS0.out.2.2.1 HNV.out
  have HVT : Hid (vV.ownBlock ≠ some T) := fun e => by obtain ⟨cur, hc⟩ := row_ty h4.vals e; exact hN4 _ hc
  have HOB : Hid ((o = none ∧ mb = none) ∨ (o = some [] ∧ ∃ b, mb = some b ∧ NamesM w4 b [] ∧ g + 1 ≤ b ∧ some b ∉ B)) := by
    obtain ⟨c, cs, hg1⟩ := HG1.out
    rcases HO.out with h1 | ⟨h1, b, h2, h3, h5⟩
    · exact .inl h1
    · exact .inr ⟨h1, b, h2, hK4.out.names h3 hg1, h5⟩
  obtain ⟨aV, cV, rfl, -⟩ := own_form h4.vals
  obtain ⟨aS, cS, rfl, -⟩ := own_form h4.stack
  have H4 := Lib.hid h4
  have c3 := h4.at0.cell 3 _ rfl
  have c8 := h4.at0.cell 8 _ rfl
  have c9 := h4.at0.cell 9 _ rfl
  rw [HX.out.2.1] at c9
  rw [HX.out.1] at c8
  have t0 := HT4.out.cell 0 _ rfl
  have ft0 := HT4.out.froz 0 (by simp)
  have HB4 : Hid (Below g w w4) := HBX.out.trans hB4.out
  clear hF4 hK4 h94 h4 hB4 hN4 PL AD HNV HTX HO HG1 HBX
  go_wp2_with fail
  go_quiet (fail)
  go_upto_region 6 with fail
  have H5 : Hid (Jd ((w4.drewN nq).setCell ⟨T, 0, none⟩ (.int .i64 (m : Int))) g s L ro p st.nx (flat (bump st.G) (st.cur ++ [⟨kind, 0, []⟩])) (bump st.G) B (.slice aV (flat (bump st.G) (st.cur ++ [⟨kind, 0, []⟩])).length cV) (.slice aS (bump st.G).length cS)) := (H4.out.drewN nq).setBox T 0 _ HS0.out.2.2.1 HVT.out HS0.out.2.1 (HT4.out.drewN nq)
  have HT5 : Hid (At ((w4.drewN nq).setCell ⟨T, 0, none⟩ (.int .i64 (m : Int))) T 0 [.int .i64 (m : Int), .map mb]) := by
    have h1 := (HT4.out.drewN nq).set 0 (.int .i64 (m : Int))
    rw [Nat.zero_add] at h1
    exact h1
  have HB5 : Hid (Below g w ((w4.drewN nq).setCell ⟨T, 0, none⟩ (.int .i64 (m : Int)))) := (HB4.out.trans (below_drewN g w4 nq)).setCell (p := ⟨T, 0, none⟩) (by show g ≤ T; have := HTG.out; omega) _
  have HOB5 : Hid ((o = none ∧ mb = none) ∨ (o = some [] ∧ ∃ b, mb = some b ∧ NamesM ((w4.drewN nq).setCell ⟨T, 0, none⟩ (.int .i64 (m : Int))) b [] ∧ g + 1 ≤ b ∧ some b ∉ B)) := by
    rcases HOB.out with h1 | ⟨h1, b, h2, h3, h5⟩
    · exact .inl h1
    · have h6 : NamesM (w4.drewN nq) b [] := h3.same rfl
      exact .inr ⟨h1, b, h2, h6.kept (grown_set (w4.drewN nq) ⟨T, 0, none⟩ _) (by rintro ⟨⟩; exact h3.ne_at HT4.out rfl), h5⟩
  generalize (w4.drewN nq).setCell ⟨T, 0, none⟩ (.int .i64 (m : Int)) = w5 at H5 HT5 HB5 HOB5 ⊢
  rw [HX.out.1, HX.out.2.1] at H5
  clear t0 ft0 c3 c8 c9 H4 HT4 HB4 HOB HVT HS0
  obtain ⟨vS, hvS⟩ : ∃ v, Value.slice aS n cS = v := ⟨_, rfl⟩
  rw [hvS] at H5
  try rw [hvS]
  clear hvS
  have HST : Hid (w5.ownsRow (g + 1) 99 2 vS n (gcells (bump st.G) B)) := by have h8 := H5.out.stack; rw [HX.out.2.1] at h8; exact h8
  have HSD : Hid (∀ ob : Obj, ((World.drew w5).alloc ob).ownsRow (g + 1) 99 2 vS n (gcells (bump st.G) B)) := Lib.hid (fun ob => (own_drewN HST.out 1).alloc ob)
  have c9 := H5.out.at0.cell 9 _ rfl
  have d9 : ∀ ob : Obj, (w5.alloc ob).cell? ⟨g, 0 + 9, none⟩ = some vS := fun ob => (H5.out.alloc ob).at0.cell 9 _ rfl
  have k0 := HT5.out.cell 0 _ rfl
  have k1 := HT5.out.cell 1 _ rfl
  go_wp2_with fail
  go_region_law (first
    | (refine step_append_bg rfl (.tmp 41) (.tmp 43) rfl (g + 1) vS n (gcells (bump st.G) B) rfl (HSD.out _) _ 1 m mb rfl (at_cellsW rfl (At.ofAlloc _ #[Value.int .i64 (m : Int), Value.map mb] 99)) (by have := HX.out.2.2.1; omega) (by have := H5.out.lt; simp; omega) ?_; intro v6 w6 hown6 hgrow6; obtain ⟨a6, c6', hv6, -⟩ := own_form hown6; subst hv6; have hJ := (H5.out.drewN 1).alloc (Obj.cells #[Value.int .i64 (m : Int), Value.map mb] 99); have hAt6 := At.grown hJ.at0 hgrow6 hJ.lt (fun e => by have := (HST.out.lt g e).1; omega); have hf96 := hAt6.froz 9 (by show 9 < 10; decide); have hc96 := hAt6.cell 9 _ rfl; have HW6 := Lib.hid hown6; have HGR := Lib.hid hgrow6; have HJ := Lib.hid hJ; clear hAt6 hgrow6 hown6 hJ))
  all_goals
    have hOB : (o = none ∧ mb = none) ∨ (o = some [] ∧ ∃ b, mb = some b ∧ NamesM ((w5.drewN 1).alloc (Obj.cells #[Value.int .i64 (m : Int), Value.map mb] 99)) b [] ∧ g + 1 ≤ b ∧ some b ∉ B) := by
      rcases HOB5.out with h1 | ⟨h1, b, h2, h3, h5⟩
      · exact .inl h1
      · exact .inr ⟨h1, b, h2, (h3.kept (World.grownBy_alloc w5 _ none) (by simp)).same rfl, h5⟩
    have hM := (Ms.push HJ.out.maps st.cur o mb hOB).kept HGR.out (fun b xs hb hm => hm.ne_row HJ.out.stack)
    have hW : w6.ownsRow (g + 1) 99 2 (.slice a6 (n + 1) c6') (⟨st.cur, 0, o⟩ :: bump st.G : List Fr).length (gcells (⟨st.cur, 0, o⟩ :: bump st.G) (mb :: B)) := by
      rw [List.length_cons, HX.out.2.1, gcells_cons]
      rw [show (flat (bump st.G) st.cur).length = m from HX.out.2.2.2.1]
      exact HW6.out
    have h8 := HJ.out.growS HGR.out hW hM
    rw [← HX.out.2.2.2.2] at h8
    have HB8 := (((HB5.out.trans (below_drewN g w5 1)).alloc (Nat.le_of_lt H5.out.lt) (Obj.cells #[Value.int .i64 (m : Int), Value.map mb] 99)).grown (row := vS.ownBlock) HGR.out (by have := H5.out.lt; simp; omega) (fun q hq => by have := (HST.out.lt q hq).1; omega)).setCell (p := ⟨g, 9, none⟩) (Nat.le_refl g) (.slice a6 (n + 1) c6')
    have NX := Lib.hid (nextB_yes _ g s L ro p (cur := (st.hold o).cur) (G := (st.hold o).G) ⟨_, _, h8⟩ HE.out.1 HE.out.2 _ rfl)
    clear h8 hM hW hOB
    go_wp2_with fail
    refine NX.out.mono ?_
    rintro e w7 ⟨rfl, hF7, hB7, -⟩
    obtain ⟨vV7, vS7, h7⟩ := hF7.out
    have f7 := h7.at0.froz 7 (by show 7 < 10; decide)
    have c7 := h7.at0.cell 7 _ rfl
    have HJ9 := Lib.hid (h7.set 7 (.int .i64 z) (nx' := (st.hold o).nx) (by rw [HZ.out]; rfl))
    have HB9 := Lib.hid ((HB8.trans hB7.out).setCell (p := ⟨g, 7, none⟩) (Nat.le_refl g) (.int .i64 z))
    clear h7 hF7 hB7 HB8
    go_wp2_with fail
    first | go_end0 | refine bodyPost_ret (results_none rfl _ _ _) rfl ?_
    exact RA.go HR ⟨_, _, _, HJ9.out⟩ HB9
end
end Jd
end Go.Proofs.YtpaikjlcachabaaDoor
namespace Go.Proofs.YtpaikjlcachabaaDoor
open Go.RowKit
set_option linter.unusedVariables false
set_option linter.unusedSimpArgs false
namespace Jd
open Js
open Dr (Rs Lm has lack)
open Jr (Cl sx wx)
/-- a byte that is taken at once -/
theorem RA.step {o : Out} {st : St} {p g : Nat} {s : ByteArray} {L : Lm} {ro : Int} {w w' : World} {e : Ending} {b : UInt8} (hI : Inv L st p) (hh : has s.toList L p = true) (hx : s.toList.getD p 0 = b) (ha : st.act L b p = o) (hn : ∀ st', o = .go st' → st'.hand = .none) (h : RA o p g s L ro w e w') : RStep st p g s L ro w e w' := by
  have hlt := has_lt hh
  rw [tl_size] at hlt
  cases o with
  | go st' =>
    obtain ⟨rfl, h2, h3⟩ := h
    exact .inl ⟨st', p + 1, by omega, by omega, by omega, hn st' rfl, hI.act ha, cl_go hh hx ha, rfl, h2, h3⟩
  | fl c q =>
    obtain ⟨rfl, h2⟩ := h
    exact .inr ⟨c, q, false, _, _, fl_at hh hx ha, rfl, h2⟩
theorem endStr_none {st : St} (x : List UInt8) (h : st.named = none) : st.endStr x = .go ({ st with cur := withText x st.cur } : St).ended := by
  obtain ⟨nx, hd, nm, cur, G⟩ := st
  cases h
  rfl
theorem str_end {st : St} {L : Lm} {x : Ss} {b : UInt8} {q : Nat} (hx : x.take b = .done) : (sx st x.m x.t).act L b q = (sx st x.m x.t).endStr x.t := by
  show (match (⟨x.m, x.t⟩ : Ss).take b with | .more y => Out.go { sx st x.m x.t with hand := .str y } | .bad => .fl 9 q | .done => (sx st x.m x.t).endStr x.t) = _
  rw [show (⟨x.m, x.t⟩ : Ss) = x from rfl, hx]
section
variable (w : World) (g : Nat) (s : ByteArray) (L : Lm) (ro : Int) (st : St) (p : Nat) (B : List (Option Nat))
set_option maxRecDepth 100000 in
set_option maxHeartbeats 3200000 in
theorem dvalue_str (h : JdB w g s L ro st.nx st.cur st.G p B) (hE : Env s L) (hI : Inv L st p) (hsh : st.hand = .none) (hnm : st.named = none) (hh : has s.toList L p = true) (b : UInt8) (hx : s.toList.getD p 0 = b)
    (ha : st.act L b p = st.add L p (.go (st.begin 4 (.str s0)))) :
    Calls Tryd.prog 40 #[.pointer (some ⟨g, 0, none⟩), .int .u8 34] w (RStep st p g s L ro w) := by
  have hkd : ∀ f ∈ st.G, f.n ≤ 1000000 := fun f hf => by have := hI.kids f hf; have := (has_lt hh).2; have := hE.b; omega
  have hl : st.G.length ≤ 1000 := by have := hI.deep; have := hE.d; omega
  have hlt := has_lt hh
  rw [tl_size] at hlt
  rw [St.add] at ha
  by_cases hi : L.items ≤ st.size
  · have AD := Lib.hid (dadd_no w g s L ro st.nx st.cur st.G p B h 4 hi)
    rw [if_pos hi] at ha
    have HR : Hid (RunsT s.toList L st p (.no 10 p false) (p + 1) st.G.length) := fl_at hh hx ha
    clear h hE hI hsh hh hx ha hkd hl hi hnm hlt
    go_enter Tryd.func40, Tryd.ntmps40
    go_wp2_with fail
    refine AD.out.mono ?_
    rintro e w1 ⟨rfl, hb⟩
    go_wp2_with fail
    exact ⟨rfl, .inr ⟨_, _, _, _, _, HR.out, rfl, hb⟩⟩
  rw [if_neg hi] at ha
  have AD := Lib.hid (dadd_yes w g s L ro st.nx st.cur st.G p B h 4 (by rw [St.size] at hi; omega) hE.i hl hkd)
  obtain ⟨st1, hst1⟩ : ∃ x, st.begin 4 (.str s0) = x := ⟨_, rfl⟩
  have hI1 : Inv L st1 (p + 1) := hI.act (by rw [ha, hst1])
  have hC1 : Cl s.toList L st1 (p + 1) st p := cl_go hh hx (by rw [ha, hst1])
  have hc1 : st1.cur ≠ [] := by rw [← hst1]; simp [St.begin]
  have hw1 : sx st1 .plain [] = st1 := by rw [← hst1]; rfl
  have hnm1 : st1.named = none := by rw [← hst1]; exact hnm
  have hH1 : st1.hand = .str s0 := by rw [← hst1]; rfl
  have hAD : ∀ {e : Ending} {w' : World}, RAdd 4 st.nx st.cur st.G p g s L ro B w e w' → e = .returned (.tuple #[]) ∧ Hid (JdB w' g s L ro st1.nx st1.cur st1.G p B) ∧ Hid (Below g w w') := by
    rintro e w' ⟨h1, h2, h3, -⟩
    rw [← hst1]
    exact ⟨h1, h2, h3⟩
  have HAD := Lib.hid (fun (e : Ending) (w' : World) => @hAD e w')
  have hsz1 : (flat st1.G st1.cur).length ≤ 1000000 := by have h1 : (flat st1.G st1.cur).length ≤ L.items := hI1.size; have := hE.i; omega
  have DT := Lib.hid (fun (w : World) (h : JdB w g s L ro st1.nx st1.cur st1.G p B) => dtext_any w g s L ro st1 p B h hE hh hc1 hsz1)
  have EN := Lib.hid (fun (w : World) (q : Nat) (x : Ss) (h : JdB w g s L ro st1.nx (withText x.t st1.cur) st1.G (q + 1) B) => dended_any w g s L ro { sx st1 x.m x.t with cur := withText x.t st1.cur } (q + 1) ⟨B, h⟩ (by have h1 : st1.G.length ≤ L.depth := hI1.deep; have := hE.d; show st1.G.length ≤ 1000; omega))
  have HRE : Hid (∀ (x : Ss) (q : Nat), p < q → has s.toList L q = true → x.take (s.toList.getD q 0) = .done → (okM x.m ∧ x.t.length ≤ 4 * q) → Cl s.toList L (sx st1 x.m x.t) q (sx st1 .plain []) (p + 1) →
      Inv L ({ sx st1 x.m x.t with cur := withText x.t st1.cur } : St).ended (q + 1) ∧ Cl s.toList L ({ sx st1 x.m x.t with cur := withText x.t st1.cur } : St).ended (q + 1) st p ∧ q + 1 ≤ s.size ∧ q + 1 ≤ L.bytes) := by
    intro x q hpq hq hxt hok hcl
    have hact : (sx st1 x.m x.t).act L (s.toList.getD q 0) q = .go ({ sx st1 x.m x.t with cur := withText x.t st1.cur } : St).ended := by
      rw [str_end hxt, endStr_none _ (show (sx st1 x.m x.t).named = none from hnm1)]
      rfl
    have hI2 : Inv L (sx st1 x.m x.t) q := Inv.hands (hd := .str ⟨x.m, x.t⟩) hI1 (by omega) (by rw [hH1]; simp) (by simp) (fun y hy => ⟨_, rfl⟩) hok
    have hq2 := has_lt hq
    rw [tl_size] at hq2
    refine ⟨hI2.act hact, ?_, by omega, by omega⟩
    rw [hw1] at hcl
    exact Cl.trans (Cl.trans (cl_go hq rfl hact) hcl) hC1
  have HFL : Hid (∀ c q b t k, RunsT s.toList L (sx st1 .plain []) (p + 1) (.no c q b) t k → RunsT s.toList L st p (.no c q b) t k) := by
    intro c q b t k h
    rw [hw1] at h
    exact hC1 _ _ _ h
  clear h hE hI hsh hh hx ha hkd hl hi hst1 hI1 hC1 hw1 hAD hlt hc1 hsz1 hnm hnm1 hH1
  go_enter Tryd.func40, Tryd.ntmps40
  go_wp2_with fail
  refine AD.out.mono ?_
  intro e w1 hAD1
  obtain ⟨rfl, hF1, hB1⟩ := HAD.out e w1 hAD1
  clear hAD1
  go_wp2_with fail
  refine (DT.out w1 hF1.out).mono ?_
  rintro e w2 (⟨x, q, hpq, hq, hxt, hok, hcl, rfl, hF2, hB2⟩ | ⟨c, q, b2, t2, k2, hrun, rfl, hB2⟩)
  · obtain ⟨hI3, hC3, hs3, hb3⟩ := HRE.out x q hpq hq hxt hok hcl
    have HI3 := Lib.hid hI3
    have HC3 := Lib.hid hC3
    have HS3 := Lib.hid (And.intro hpq (And.intro hs3 hb3))
    have EN2 := Lib.hid (EN.out w2 q x hF2.out)
    clear hpq hq hxt hok hcl hI3 hC3 hs3 hb3
    go_wp2_with fail
    refine EN2.out.mono ?_
    rintro e w4 ⟨rfl, hF4, hB4⟩
    go_wp2_with fail
    first | go_end0 | refine bodyPost_ret (results_none rfl _ _ _) rfl ?_
    exact .inl ⟨_, q + 1, by have := HS3.out.1; omega, HS3.out.2.1, HS3.out.2.2, rfl, HI3.out, HC3.out, rfl, hF4, (hB1.out.trans hB2.out).trans hB4.out⟩
  · have HR := Lib.hid (HFL.out _ _ _ _ _ hrun)
    clear hrun
    go_wp2_with fail
    exact ⟨rfl, .inr ⟨_, _, _, _, _, HR.out, rfl, hB1.out.trans hB2⟩⟩
set_option maxRecDepth 100000 in
set_option maxHeartbeats 1600000 in
theorem dname_bad (h : JdB w g s L ro st.nx st.cur st.G p B) (hh : has s.toList L p = true) (b : UInt8) (hx : s.toList.getD p 0 = b) (t : Nat) (hc : t ≠ 34) (ha : st.act L b p = .fl 9 p) :
    Calls Tryd.prog 39 #[.pointer (some ⟨g, 0, none⟩), .int .u8 (t : Int)] w (RStep st p g s L ro w) := by
  have HR : Hid (RunsT s.toList L st p (.no 9 p false) (p + 1) st.G.length) := fl_at hh hx ha
  have PL := Lib.hid (place_ok w g s L.bytes p h.tx.1)
  have FA := Lib.hid (fun w => fail_at 9 p g w)
  have e5 := eqF (n := t) (c := 34) (by omega)
  have e6 : ((t : Int) != 34) = true := by rw [bne, e5]; rfl
  clear h hh hx ha hc
  go_enter Tryd.func39, Tryd.ntmps39
  go_wp2_with fail
  refine PL.out.mono ?_
  rintro e w1 ⟨rfl, rfl⟩
  go_wp2_with fail
  refine (FA.out _).mono ?_
  rintro e w1 ⟨rfl, hb⟩
  go_wp2_with fail
  exact ⟨rfl, .inr ⟨_, _, _, _, _, HR.out, rfl, hb⟩⟩
set_option maxRecDepth 100000 in
set_option maxHeartbeats 6400000 in
theorem dname_yes (h : JdB w g s L ro st.nx st.cur st.G p B) (hE : Env s L) (hI : Inv L st p) (hsh : st.hand = .none) (hO : isObj st.G) (hh : has s.toList L p = true) (b : UInt8) (hx : s.toList.getD p 0 = b)
    (ha : st.act L b p = st.add L p (.go { st.begin 4 (.str s0) with named := some p })) :
    Calls Tryd.prog 39 #[.pointer (some ⟨g, 0, none⟩), .int .u8 34] w (RStep st p g s L ro w) := by
  have hkd : ∀ f ∈ st.G, f.n ≤ 1000000 := fun f hf => by have := hI.kids f hf; have := (has_lt hh).2; have := hE.b; omega
  have hl : st.G.length ≤ 1000 := by have := hI.deep; have := hE.d; omega
  have hlt := has_lt hh
  rw [tl_size] at hlt
  have PL := Lib.hid (place_ok w g s L.bytes p h.tx.1)
  obtain ⟨f, G, xs, hG, hfo⟩ := hO
  have hxs : xs.length ≤ p := hI.names f (by rw [hG]; simp) xs hfo
  obtain ⟨n, hn0⟩ : ∃ n, G.length = n := ⟨_, rfl⟩
  have hn1 : n ≤ 1000 := by rw [hG] at hl; simp at hl; omega
  obtain ⟨bM, B', q0, cap0, hB, c9, d1, hgq⟩ : ∃ bM B' q0 cap0, B = some bM :: B' ∧ w.cell? ⟨g, 0 + 9, none⟩ = some (.slice (some ⟨q0, 0, none⟩) (n + 1) cap0) ∧ w.cell? ⟨q0, n * 2 + 1, none⟩ = some (.map (some bM)) ∧ n + 1 ≤ cap0 := by
    obtain ⟨vV, vS, h4⟩ := h
    rw [hG] at h4
    have hm := h4.maps
    obtain ⟨bM, B', rfl⟩ : ∃ bM B', B = some bM :: B' := by
      cases hm with
      | arr _ ho => rw [hfo] at ho; cases ho
      | obj _ _ _ _ _ => exact ⟨_, _, rfl⟩
    obtain ⟨q, cap, rfl, hcap, hq, hAt⟩ := h4.top
    have c9 := h4.at0.cell 9 _ rfl
    rw [hn0] at c9 hcap hAt
    exact ⟨bM, B', q, cap, rfl, c9, hAt.cell 1 _ rfl, hcap⟩
  have e1 : (n : Int) + 1 - 1 = (n : Int) := by omega
  have e2 : IntKind.i64.wrap (n : Int) = (n : Int) := wrap_fit n (by unfold maxLen; omega)
  have e3 : (n : Int) < (n : Int) + 1 := by omega
  rw [St.add] at ha
  by_cases hi : L.items ≤ st.size
  · have AD := Lib.hid (fun k => dadd_no (w.drewN k) g s L ro st.nx st.cur st.G p B (h.drewN k) 4 hi)
    rw [if_pos hi] at ha
    have HR : Hid (RunsT s.toList L st p (.no 10 p false) (p + 1) st.G.length) := fl_at hh hx ha
    clear h hE hI hsh hh hx ha hkd hl hi hlt hG hfo hxs hn0 hn1 hB
    go_enter Tryd.func39, Tryd.ntmps39
    go_wp2_with fail
    refine PL.out.mono ?_
    rintro e w1 ⟨rfl, rfl⟩
    go_wp2_with fail
    go_quiet (fail)
    go_wp2_with fail
    refine (AD.out _).mono ?_
    rintro e w1 ⟨rfl, hb⟩
    go_wp2_with fail
    exact ⟨rfl, .inr ⟨_, _, _, _, _, HR.out, rfl, (below_drewN g w _).trans hb⟩⟩
  rw [if_neg hi] at ha
  have AD := Lib.hid (fun k => dadd_yes (w.drewN k) g s L ro st.nx st.cur st.G p B (h.drewN k) 4 (by rw [St.size] at hi; omega) hE.i hl hkd)
  obtain ⟨st1, hst1⟩ : ∃ x : St, { st.begin 4 (.str s0) with named := some p } = x := ⟨_, rfl⟩
  have hI1 : Inv L st1 (p + 1) := hI.act (by rw [ha, hst1])
  have hC1 : Cl s.toList L st1 (p + 1) st p := cl_go hh hx (by rw [ha, hst1])
  have hc1 : st1.cur ≠ [] := by rw [← hst1]; simp [St.begin]
  have hw1 : sx st1 .plain [] = st1 := by rw [← hst1]; rfl
  have hnm1 : st1.named = some p := by rw [← hst1]
  have hH1 : st1.hand = .str s0 := by rw [← hst1]; rfl
  have hG1 : st1.G = ({ f with n := f.n + 1 } : Fr) :: G := by rw [← hst1]; show bump st.G = _; rw [hG]; rfl
  have hAD : ∀ {e : Ending} {w w' : World}, RAdd 4 st.nx st.cur st.G p g s L ro B w e w' → e = .returned (.tuple #[]) ∧ Hid (JdB w' g s L ro st1.nx st1.cur st1.G p B) ∧ Hid (Below g w w') := by
    rintro e w w' ⟨h1, h2, h3, -⟩
    rw [← hst1]
    exact ⟨h1, h2, h3⟩
  have HAD := Lib.hid (fun (e : Ending) (w w' : World) => @hAD e w w')
  have hsz1 : (flat st1.G st1.cur).length ≤ L.items := hI1.size
  have hit := hE.i
  have DT := Lib.hid (fun (w : World) (h : JdB w g s L ro st1.nx st1.cur st1.G p B) => dtext_any w g s L ro st1 p B h hE hh hc1 (by omega))
  have FA := Lib.hid (fun w => fail_at 9 p g w)
  have HRT : Hid (∀ (x : Ss) (q : Nat), p < q → has s.toList L q = true → x.take (s.toList.getD q 0) = .done → (okM x.m ∧ x.t.length ≤ 4 * q) → Cl s.toList L (sx st1 x.m x.t) q (sx st1 .plain []) (p + 1) → x.t ∈ xs → ∃ t k, RunsT s.toList L st p (.no 9 p false) t k) := by
    intro x q hpq hq hxt hok hcl hin
    have hact : (sx st1 x.m x.t).act L (s.toList.getD q 0) q = .fl 9 p := by
      rw [str_end hxt, St.endStr, show (sx st1 x.m x.t).named = some p from hnm1]
      show (if x.t ∈ (sx st1 x.m x.t).names then Out.fl 9 p else _) = _
      rw [if_pos]
      show x.t ∈ (match st1.G with | [] => [] | f :: _ => f.o.getD [])
      rw [hG1]
      show x.t ∈ f.o.getD []
      rw [hfo]
      exact hin
    rw [hw1] at hcl
    exact ⟨_, _, hC1 _ _ _ (hcl _ _ _ (fl_at hq rfl hact))⟩
  have HRE : Hid (∀ (x : Ss) (q : Nat), p < q → has s.toList L q = true → x.take (s.toList.getD q 0) = .done → (okM x.m ∧ x.t.length ≤ 4 * q) → Cl s.toList L (sx st1 x.m x.t) q (sx st1 .plain []) (p + 1) → x.t ∉ xs →
      Inv L ({ sx st1 x.m x.t with cur := withText x.t st1.cur, hand := .none, named := none, nx := 4, G := addName x.t st1.G } : St) (q + 1) ∧ Cl s.toList L ({ sx st1 x.m x.t with cur := withText x.t st1.cur, hand := .none, named := none, nx := 4, G := addName x.t st1.G } : St) (q + 1) st p ∧ q + 1 ≤ s.size ∧ q + 1 ≤ L.bytes) := by
    intro x q hpq hq hxt hok hcl hin
    have hact : (sx st1 x.m x.t).act L (s.toList.getD q 0) q = .go ({ sx st1 x.m x.t with cur := withText x.t st1.cur, hand := .none, named := none, nx := 4, G := addName x.t st1.G } : St) := by
      rw [str_end hxt, St.endStr, show (sx st1 x.m x.t).named = some p from hnm1]
      show (if x.t ∈ (sx st1 x.m x.t).names then Out.fl 9 p else _) = _
      rw [if_neg]
      · rfl
      show ¬ x.t ∈ (match st1.G with | [] => [] | f :: _ => f.o.getD [])
      rw [hG1]
      show ¬ x.t ∈ f.o.getD []
      rw [hfo]
      exact hin
    have hI2 : Inv L (sx st1 x.m x.t) q := Inv.hands (hd := .str ⟨x.m, x.t⟩) hI1 (by omega) (by rw [hH1]; simp) (by simp) (fun y hy => ⟨_, rfl⟩) hok
    have hq2 := has_lt hq
    rw [tl_size] at hq2
    refine ⟨hI2.act hact, ?_, by omega, by omega⟩
    rw [hw1] at hcl
    exact Cl.trans (Cl.trans (cl_go hq rfl hact) hcl) hC1
  have HFL : Hid (∀ c q b t k, RunsT s.toList L (sx st1 .plain []) (p + 1) (.no c q b) t k → RunsT s.toList L st p (.no c q b) t k) := by
    intro c q b t k h
    rw [hw1] at h
    exact hC1 _ _ _ h
  -- the names, and the list's length, behind the text
  have HNM : Hid (∀ (w : World) (q : Nat) (x : Ss), JdB w g s L ro st1.nx (withText x.t st1.cur) st1.G (q + 1) B → ∃ aV cV m, NamesM w bM xs ∧ g + 1 ≤ bM ∧ w.cell? ⟨g, 0 + 8, none⟩ = some (.slice aV (m + 1) cV) ∧ m ≤ 1000000 ∧ g < w.heap.size ∧
      (∀ w', NamesM w' bM (xs ++ [x.t]) → w.grownBy w' (some bM) → JdB w' g s L ro st1.nx (withText x.t st1.cur) (addName x.t st1.G) (q + 1) B)) := by
    rintro w q x ⟨vV, vS, h5⟩
    have hlen : (flat st1.G (withText x.t st1.cur)).length = (flat st1.G st1.cur).length := flat_length _ _ _ (withText_length _ _)
    have hpos := last_pos (G := st1.G) hc1
    obtain ⟨m, hm⟩ : ∃ m, (flat st1.G st1.cur).length = m + 1 := ⟨(flat st1.G st1.cur).length - 1, by omega⟩
    obtain ⟨aV, cV, rfl, -⟩ := own_form h5.vals
    have c8 := h5.at0.cell 8 _ rfl
    rw [hlen, hm] at c8
    have hlt5 := h5.lt
    have hmp := h5.maps
    rw [hG1, hB] at hmp
    cases hmp with
    | obj _ ho hmm hbb _ =>
      have ho2 : f.o = some _ := ho
      rw [hfo] at ho2
      obtain rfl := Option.some.inj ho2
      refine ⟨aV, cV, m, hmm, hbb, c8, by omega, hlt5, fun w' hw' hg' => ?_⟩
      have h6 := h5
      rw [hG1, hB] at h6
      have h7 := h6.name hg' hw' hfo
      have hfl : flat (addName x.t (({ f with n := f.n + 1 } : Fr) :: G)) (withText x.t st1.cur) = flat (({ f with n := f.n + 1 } : Fr) :: G) (withText x.t st1.cur) := addName_flat _ _ (.inl ⟨({ f with n := f.n + 1 } : Fr), G, xs, rfl, hfo⟩) _
      rw [← hfl, ← hG1, ← hB] at h7
      exact ⟨_, _, h7⟩
  have HLB : Hid (L.bytes ≤ 262144) := hE.b
  have HXL : Hid (xs.length ≤ 1000000) := by show _ ≤ _; have := hE.b; omega
  have HBM : Hid (B = some bM :: B') := hB
  clear h hE hI hsh hh hx ha hkd hl hi hst1 hI1 hC1 hw1 hAD hlt hc1 hsz1 hnm1 hH1 hit hG hfo hxs hn0 hn1 hB hG1
  go_enter Tryd.func39, Tryd.ntmps39
  go_wp2_with fail
  refine PL.out.mono ?_
  rintro e w1 ⟨rfl, rfl⟩
  go_wp2_with fail
  go_quiet (fail)
  go_wp2_with fail
  refine (AD.out _).mono ?_
  intro e w1 hAD1
  obtain ⟨rfl, hF1, hB1⟩ := HAD.out e _ w1 hAD1
  have HB1 : Hid (Below g w w1) := (below_drewN g w _).trans hB1.out
  clear hAD1 hB1 c9 d1
  go_wp2_with fail
  refine (DT.out w1 hF1.out).mono ?_
  rintro e w2 (⟨x, q, hpq, hq, hxt, hok, hcl, rfl, hF2, hB2⟩ | ⟨c, q, b2, t2, k2, hrun, rfl, hB2⟩)
  · obtain ⟨X, hX⟩ : ∃ X : ByteArray, X = ⟨x.t.toArray⟩ := ⟨_, rfl⟩
    obtain ⟨aV, cV, m, hNM, hbM, c8, hm, hgl, hput⟩ := HNM.out w2 q x hF2.out
    have hXs : X.size ≤ 140737488351232 := by
      rw [hX]
      show x.t.toArray.size ≤ _
      have h1 := hok.2
      have h2 := (has_lt hq).2
      have h3 := HLB.out
      simp
      omega
    have hXt : X.data.toList = x.t := by rw [hX]
    have HXX : Hid (X.size ≤ 140737488351232 ∧ X.data.toList = x.t) := ⟨hXs, hXt⟩
    have HN2 := Lib.hid hNM
    have HBM2 : Hid (g + 1 ≤ bM ∧ m ≤ 1000000 ∧ g < w2.heap.size) := ⟨hbM, hm, hgl⟩
    have HPU := Lib.hid hput
    have e4 : (m : Int) + 1 - 1 = (m : Int) := by omega
    have e5 : IntKind.i64.wrap (m : Int) = (m : Int) := wrap_fit m (by unfold maxLen; omega)
    rw [← hX]
    by_cases hin : x.t ∈ xs
    · obtain ⟨t3, k3, hr3⟩ := HRT.out x q hpq hq hxt hok hcl hin
      have HR := Lib.hid hr3
      have htd : decide (X.data.toList ∈ xs) = true := by rw [hXt]; exact decide_eq_true hin
      clear hpq hq hxt hok hcl hin hr3 hNM hbM hm hgl hput hX hXs hXt
      go_wp2_with (first | (at_lookup; refine wpList_name_there rfl _ _ rfl bM xs rfl HN2.out X rfl HXX.out.1 ?_; intro c; rw [htd]))
      refine (FA.out _).mono ?_
      rintro e w3 ⟨rfl, hb⟩
      go_wp2_with fail
      exact ⟨rfl, .inr ⟨_, _, _, _, _, HR.out, rfl, (HB1.out.trans hB2.out).trans hb⟩⟩
    · obtain ⟨hI3, hC3, hs3, hb3⟩ := HRE.out x q hpq hq hxt hok hcl hin
      have HI3 := Lib.hid hI3
      have HC3 := Lib.hid hC3
      have HS3 := Lib.hid (And.intro hpq (And.intro hs3 hb3))
      have htd : decide (X.data.toList ∈ xs) = false := by rw [hXt]; exact decide_eq_false hin
      clear hpq hq hxt hok hcl hin hI3 hC3 hs3 hb3 hNM hbM hm hgl hput hX hXs hXt
      go_wp2_with (first | (at_lookup; refine wpList_name_there rfl _ _ rfl bM xs rfl HN2.out X rfl HXX.out.1 ?_; intro c; rw [htd]) | (refine wpList_name_put rfl (.tmp 44) (.tmp 45) (.tmp 51) rfl bM xs rfl HN2.out HXL.out X rfl HXX.out.1 m rfl HBM2.out.2.1 ?_; intro w3 hNM3 hgr3; rw [HXX.out.2] at hNM3; obtain ⟨vV3, vS3, h3⟩ := HPU.out w3 hNM3 hgr3; have c7 := h3.at0.cell 7 _ rfl; have f7 := h3.at0.froz 7 (by show 7 < 10; decide); have HJ3 := Lib.hid (h3.set 7 (.int .i64 4) (nx' := 4) rfl); have HG3 := Lib.hid hgr3; clear hNM3 hgr3 h3))
      first | go_end0 | refine bodyPost_ret (results_none rfl _ _ _) rfl ?_
      refine .inl ⟨_, q + 1, by have := HS3.out.1; omega, HS3.out.2.1, HS3.out.2.2, rfl, HI3.out, HC3.out, rfl, ⟨B, vV3, vS3, HJ3.out⟩, ?_⟩
      exact ((HB1.out.trans hB2.out).grown (row := some bM) HG3.out (Nat.le_of_lt HBM2.out.2.2) (fun q hq => by cases hq; have := HBM2.out.1; omega)).setCell (p := ⟨g, 7, none⟩) (Nat.le_refl g) _
  · have HR := Lib.hid (HFL.out _ _ _ _ _ hrun)
    clear hrun
    go_wp2_with fail
    exact ⟨rfl, .inr ⟨_, _, _, _, _, HR.out, rfl, HB1.out.trans hB2⟩⟩
end
end Jd
end Go.Proofs.YtpaikjlcachabaaDoor
namespace Go.Proofs.YtpaikjlcachabaaDoor
open Go.RowKit
set_option linter.unusedVariables false
set_option linter.unusedSimpArgs false
namespace Jd
open Js
open Dr (Rs Lm has lack)
open Jr (Cl sx wx)
theorem nextN0 (b : UInt8) (t : Nat) (ht : b.toNat = t) : nextN 0 b = if t = 45 then some 1 else if t = 48 then some 2 else if 48 ≤ t ∧ t ≤ 57 then some 3 else none := by
  have h45 := u8lit b t ht 45 (by decide)
  have h48 := u8lit b t ht 48 (by decide)
  have hd : isDigit b = decide (48 ≤ t ∧ t ≤ 57) := by rw [isDigit, ht]
  show (if b = 45 then some 1 else if b = 48 then some 2 else if isDigit b = true then some 3 else none) = _
  rw [hd]
  by_cases e1 : t = 45
  · rw [if_pos (show b = 45 from h45.2 e1), if_pos e1]
  rw [if_neg (show ¬ b = 45 from fun e => e1 (h45.1 e)), if_neg e1]
  by_cases e2 : t = 48
  · rw [if_pos (show b = 48 from h48.2 e2), if_pos e2]
  rw [if_neg (show ¬ b = 48 from fun e => e2 (h48.1 e)), if_neg e2]
  by_cases e3 : 48 ≤ t ∧ t ≤ 57
  · rw [if_pos (decide_eq_true e3), if_pos e3]
  · rw [if_neg (by rw [decide_eq_false e3]; decide), if_neg e3]
theorem nextN0_some (b : UInt8) (t : Nat) (ht : b.toNat = t) (h : t = 45 ∨ (48 ≤ t ∧ t ≤ 57)) : ∃ y, nextN 0 b = some y := by
  rw [nextN0 b t ht]
  by_cases e1 : t = 45
  · rw [if_pos e1]; exact ⟨_, rfl⟩
  rw [if_neg e1]
  by_cases e2 : t = 48
  · rw [if_pos e2]; exact ⟨_, rfl⟩
  rw [if_neg e2, if_pos (by omega)]
  exact ⟨_, rfl⟩
theorem JdB.new {w : World} {g : Nat} {s : ByteArray} {L : Lm} {ro : Int} {nx : Nat} {cur : List Vl} {G : List Fr} {p : Nat} {B : List (Option Nat)} (h : JdB w g s L ro nx cur G p B) : some w.heap.size ∉ B := by
  obtain ⟨vV, vS, h4⟩ := h
  intro hb
  have := (h4.maps.ge _ hb).2
  omega
/-- what was done ahead of it -/
theorem RStep.back {st0 st : St} {p0 p g : Nat} {s : ByteArray} {L : Lm} {ro : Int} {w0 w w' : World} {e : Ending} (hc : Cl s.toList L st p st0 p0) (hp : p0 ≤ p) (hb : Below g w0 w) (h : RStep st p g s L ro w e w') : RStep st0 p0 g s L ro w0 e w' := by
  rcases h with ⟨st', p', h1, h2, h3, h4, h5, h6, h7, h8, h9⟩ | ⟨c, q, b, t, k, h1, h2, h3⟩
  · exact .inl ⟨st', p', by omega, h2, h3, h4, h5, Cl.trans h6 hc, h7, h8, hb.trans h9.out⟩
  · exact .inr ⟨c, q, b, t, k, hc _ _ _ h1, h2, hb.trans h3⟩
theorem add_hand {L : Lm} {st st' : St} {p : Nat} {o : Option (List (List UInt8))} (hs : st.hand = .none) (h : st.add L p (if L.depth ≤ st.G.length then .fl 10 p else .go (st.hold o)) = .go st') : st'.hand = .none := by
  rw [St.add] at h
  split at h
  · cases h
  split at h
  · cases h
  cases h
  exact hs
section
variable (w : World) (g : Nat) (s : ByteArray) (L : Lm) (ro : Int) (st : St) (p : Nat) (B : List (Option Nat))
set_option maxRecDepth 100000 in
set_option maxHeartbeats 3200000 in
theorem dvalue_obj (h : JdB w g s L ro st.nx st.cur st.G p B) (hE : Env s L) (hI : Inv L st p) (hsh : st.hand = .none) (hh : has s.toList L p = true) (b : UInt8) (hx : s.toList.getD p 0 = b)
    (ha : st.act L b p = st.add L p (if L.depth ≤ st.G.length then .fl 10 p else .go (st.hold (some [])))) :
    Calls Tryd.prog 40 #[.pointer (some ⟨g, 0, none⟩), .int .u8 123] w (RStep st p g s L ro w) := by
  have hkd : ∀ f ∈ st.G, f.n ≤ 1000000 := fun f hf => by have := hI.kids f hf; have := (has_lt hh).2; have := hE.b; omega
  have hl : st.G.length ≤ 1000 := by have := hI.deep; have := hE.d; omega
  have HO := Lib.hid (dbegin_any (w.alloc (.map #[] 0)) g s L ro st p B (h.alloc _) hE hh (some []) (some w.heap.size) (.inr ⟨rfl, w.heap.size, rfl, NamesM.made w, h.lt, h.new⟩) 6 3 rfl rfl hl hkd)
  have HBX : Hid (Below g w (w.alloc (.map #[] 0))) := (Below.refl g w).alloc (Nat.le_of_lt h.lt) _
  have hnh : ∀ st', st.add L p (if L.depth ≤ st.G.length then .fl 10 p else .go (st.hold (some []))) = .go st' → st'.hand = .none := fun st' h => add_hand hsh h
  have hmm := @run_makeMap Tryd.prog
  obtain ⟨R, hR⟩ : ∃ R, st.add L p (if L.depth ≤ st.G.length then .fl 10 p else .go (st.hold (some []))) = R := ⟨_, rfl⟩
  rw [hR] at HO ha hnh
  have HS : Hid (∀ e w', RA R p g s L ro (w.alloc (.map #[] 0)) e w' → RStep st p g s L ro w e w') := fun e w' h => RStep.back (Jr.Cl.refl _ _ _ _) (Nat.le_refl _) HBX.out (RA.step hI hh hx ha hnh h)
  clear h hE hI hsh hh hx ha hkd hl hR hnh HBX
  go_enter Tryd.func40, Tryd.ntmps40
  go_wp2_with fail
  refine HO.out.mono ?_
  intro e w4 hR4
  have HS4 := Lib.hid (HS.out e w4 hR4)
  cases R with
  | fl c q =>
    obtain ⟨rfl, hb⟩ := hR4
    go_wp2_with fail
    exact ⟨rfl, HS4.out⟩
  | go st2 =>
    obtain ⟨rfl, hF, hb⟩ := hR4
    go_wp2_with fail
    first | go_end0 | refine bodyPost_ret (results_none rfl _ _ _) rfl ?_
    exact HS4.out
set_option maxRecDepth 100000 in
set_option maxHeartbeats 3200000 in
theorem dvalue_arr (h : JdB w g s L ro st.nx st.cur st.G p B) (hE : Env s L) (hI : Inv L st p) (hsh : st.hand = .none) (hh : has s.toList L p = true) (b : UInt8) (hx : s.toList.getD p 0 = b)
    (ha : st.act L b p = st.add L p (if L.depth ≤ st.G.length then .fl 10 p else .go (st.hold none))) :
    Calls Tryd.prog 40 #[.pointer (some ⟨g, 0, none⟩), .int .u8 91] w (RStep st p g s L ro w) := by
  have hkd : ∀ f ∈ st.G, f.n ≤ 1000000 := fun f hf => by have := hI.kids f hf; have := (has_lt hh).2; have := hE.b; omega
  have hl : st.G.length ≤ 1000 := by have := hI.deep; have := hE.d; omega
  have HO := Lib.hid (dbegin_any (w) g s L ro st p B h hE hh none none (.inl ⟨rfl, rfl⟩) 5 1 rfl rfl hl hkd)
  have HBX : Hid (Below g w (w)) := Below.refl g w
  have hnh : ∀ st', st.add L p (if L.depth ≤ st.G.length then .fl 10 p else .go (st.hold none)) = .go st' → st'.hand = .none := fun st' h => add_hand hsh h
  obtain ⟨R, hR⟩ : ∃ R, st.add L p (if L.depth ≤ st.G.length then .fl 10 p else .go (st.hold none)) = R := ⟨_, rfl⟩
  rw [hR] at HO ha hnh
  have HS : Hid (∀ e w', RA R p g s L ro (w) e w' → RStep st p g s L ro w e w') := fun e w' h => RStep.back (Jr.Cl.refl _ _ _ _) (Nat.le_refl _) HBX.out (RA.step hI hh hx ha hnh h)
  clear h hE hI hsh hh hx ha hkd hl hR hnh HBX
  go_enter Tryd.func40, Tryd.ntmps40
  go_wp2_with fail
  refine HO.out.mono ?_
  intro e w4 hR4
  have HS4 := Lib.hid (HS.out e w4 hR4)
  cases R with
  | fl c q =>
    obtain ⟨rfl, hb⟩ := hR4
    go_wp2_with fail
    exact ⟨rfl, HS4.out⟩
  | go st2 =>
    obtain ⟨rfl, hF, hb⟩ := hR4
    go_wp2_with fail
    first | go_end0 | refine bodyPost_ret (results_none rfl _ _ _) rfl ?_
    exact HS4.out
set_option maxRecDepth 100000 in
set_option maxHeartbeats 3200000 in
theorem dvalue_w116 (h : JdB w g s L ro st.nx st.cur st.G p B) (hE : Env s L) (hI : Inv L st p) (hsh : st.hand = .none) (hh : has s.toList L p = true) (b : UInt8) (hx : s.toList.getD p 0 = b) (hbc : b = 116)
    (ha : st.act L b p = st.add L p (.go (st.begin 2 (.word [114, 117, 101])))) :
    Calls Tryd.prog 40 #[.pointer (some ⟨g, 0, none⟩), .int .u8 116] w (RStep st p g s L ro w) := by
  have hkd : ∀ f ∈ st.G, f.n ≤ 1000000 := fun f hf => by have := hI.kids f hf; have := (has_lt hh).2; have := hE.b; omega
  have hl : st.G.length ≤ 1000 := by have := hI.deep; have := hE.d; omega
  subst hbc
  have CT := Lib.hid (dword_any w g s L ro st p B h hE hI hsh 116 [114, 117, 101] (by decide) hh hx 2 ha)
  clear h hE hI hsh hh hx ha hkd hl
  go_enter Tryd.func40, Tryd.ntmps40
  go_wp2_with fail
  refine CT.out.mono ?_
  rintro e w4 hS
  have HS := Lib.hid hS
  rcases hS with ⟨st', p', h1, h2, h3, h4, h5, h6, rfl, h8, h9⟩ | ⟨c, q, b2, t2, k2, h1, rfl, h3⟩
  · clear h1 h2 h3 h4 h5 h6 h8 h9
    go_wp2_with fail
    first | go_end0 | refine bodyPost_ret (results_none rfl _ _ _) rfl ?_
    exact HS.out
  · clear h1 h3
    go_wp2_with fail
    exact ⟨rfl, HS.out⟩
set_option maxRecDepth 100000 in
set_option maxHeartbeats 3200000 in
theorem dvalue_w102 (h : JdB w g s L ro st.nx st.cur st.G p B) (hE : Env s L) (hI : Inv L st p) (hsh : st.hand = .none) (hh : has s.toList L p = true) (b : UInt8) (hx : s.toList.getD p 0 = b) (hbc : b = 102)
    (ha : st.act L b p = st.add L p (.go (st.begin 1 (.word [97, 108, 115, 101])))) :
    Calls Tryd.prog 40 #[.pointer (some ⟨g, 0, none⟩), .int .u8 102] w (RStep st p g s L ro w) := by
  have hkd : ∀ f ∈ st.G, f.n ≤ 1000000 := fun f hf => by have := hI.kids f hf; have := (has_lt hh).2; have := hE.b; omega
  have hl : st.G.length ≤ 1000 := by have := hI.deep; have := hE.d; omega
  subst hbc
  have CT := Lib.hid (dword_any w g s L ro st p B h hE hI hsh 102 [97, 108, 115, 101] (by decide) hh hx 1 ha)
  clear h hE hI hsh hh hx ha hkd hl
  go_enter Tryd.func40, Tryd.ntmps40
  go_wp2_with fail
  refine CT.out.mono ?_
  rintro e w4 hS
  have HS := Lib.hid hS
  rcases hS with ⟨st', p', h1, h2, h3, h4, h5, h6, rfl, h8, h9⟩ | ⟨c, q, b2, t2, k2, h1, rfl, h3⟩
  · clear h1 h2 h3 h4 h5 h6 h8 h9
    go_wp2_with fail
    first | go_end0 | refine bodyPost_ret (results_none rfl _ _ _) rfl ?_
    exact HS.out
  · clear h1 h3
    go_wp2_with fail
    exact ⟨rfl, HS.out⟩
set_option maxRecDepth 100000 in
set_option maxHeartbeats 3200000 in
theorem dvalue_w110 (h : JdB w g s L ro st.nx st.cur st.G p B) (hE : Env s L) (hI : Inv L st p) (hsh : st.hand = .none) (hh : has s.toList L p = true) (b : UInt8) (hx : s.toList.getD p 0 = b) (hbc : b = 110)
    (ha : st.act L b p = st.add L p (.go (st.begin 0 (.word [117, 108, 108])))) :
    Calls Tryd.prog 40 #[.pointer (some ⟨g, 0, none⟩), .int .u8 110] w (RStep st p g s L ro w) := by
  have hkd : ∀ f ∈ st.G, f.n ≤ 1000000 := fun f hf => by have := hI.kids f hf; have := (has_lt hh).2; have := hE.b; omega
  have hl : st.G.length ≤ 1000 := by have := hI.deep; have := hE.d; omega
  subst hbc
  have CT := Lib.hid (dword_any w g s L ro st p B h hE hI hsh 110 [117, 108, 108] (by decide) hh hx 0 ha)
  clear h hE hI hsh hh hx ha hkd hl
  go_enter Tryd.func40, Tryd.ntmps40
  go_wp2_with fail
  refine CT.out.mono ?_
  rintro e w4 hS
  have HS := Lib.hid hS
  rcases hS with ⟨st', p', h1, h2, h3, h4, h5, h6, rfl, h8, h9⟩ | ⟨c, q, b2, t2, k2, h1, rfl, h3⟩
  · clear h1 h2 h3 h4 h5 h6 h8 h9
    go_wp2_with fail
    first | go_end0 | refine bodyPost_ret (results_none rfl _ _ _) rfl ?_
    exact HS.out
  · clear h1 h3
    go_wp2_with fail
    exact ⟨rfl, HS.out⟩
set_option maxRecDepth 100000 in
set_option maxHeartbeats 3200000 in
theorem dvalue_num45 (h : JdB w g s L ro st.nx st.cur st.G p B) (hE : Env s L) (hI : Inv L st p) (hsh : st.hand = .none) (hh : has s.toList L p = true) (b : UInt8) (hx : s.toList.getD p 0 = b) (y : Nat) (hy : nextN 0 b = some y)
    (ha : st.act L b p = st.add L p (.go (st.begin 3 (.num y [b])))) :
    Calls Tryd.prog 40 #[.pointer (some ⟨g, 0, none⟩), .int .u8 45] w (RStep st p g s L ro w) := by
  have hkd : ∀ f ∈ st.G, f.n ≤ 1000000 := fun f hf => by have := hI.kids f hf; have := (has_lt hh).2; have := hE.b; omega
  have hl : st.G.length ≤ 1000 := by have := hI.deep; have := hE.d; omega
  have CT := Lib.hid (dnumber_any w g s L ro st p B h hE hI hsh b y hy hh hx ha)
  clear h hE hI hsh hh hx ha hkd hl hy
  go_enter Tryd.func40, Tryd.ntmps40
  go_wp2_with fail
  refine CT.out.mono ?_
  rintro e w4 hS
  have HS := Lib.hid hS
  rcases hS with ⟨st', p', h1, h2, h3, h4, h5, h6, rfl, h8, h9⟩ | ⟨c, q, b2, t2, k2, h1, rfl, h3⟩
  · clear h1 h2 h3 h4 h5 h6 h8 h9
    go_wp2_with fail
    first | go_end0 | refine bodyPost_ret (results_none rfl _ _ _) rfl ?_
    exact HS.out
  · clear h1 h3
    go_wp2_with fail
    exact ⟨rfl, HS.out⟩
set_option maxRecDepth 100000 in
set_option maxHeartbeats 3200000 in
theorem dvalue_dig (h : JdB w g s L ro st.nx st.cur st.G p B) (hE : Env s L) (hI : Inv L st p) (hsh : st.hand = .none) (hh : has s.toList L p = true) (b : UInt8) (hx : s.toList.getD p 0 = b) (y : Nat) (hy : nextN 0 b = some y) (t : Nat) (hc : 48 ≤ t ∧ t ≤ 57)
    (ha : st.act L b p = st.add L p (.go (st.begin 3 (.num y [b])))) :
    Calls Tryd.prog 40 #[.pointer (some ⟨g, 0, none⟩), .int .u8 (t : Int)] w (RStep st p g s L ro w) := by
  have hkd : ∀ f ∈ st.G, f.n ≤ 1000000 := fun f hf => by have := hI.kids f hf; have := (has_lt hh).2; have := hE.b; omega
  have hl : st.G.length ≤ 1000 := by have := hI.deep; have := hE.d; omega
  have CT := Lib.hid (dnumber_any w g s L ro st p B h hE hI hsh b y hy hh hx ha)
  have e45 := eqF (n := t) (c := 45) (by omega)
  have e48 : (48 : Int) ≤ (t : Int) := by omega
  have e57 : (t : Int) ≤ 57 := by omega
  have e34 := eqF (n := t) (c := 34) (by omega)
  have e123 := eqF (n := t) (c := 123) (by omega)
  have e91 := eqF (n := t) (c := 91) (by omega)
  have e116 := eqF (n := t) (c := 116) (by omega)
  have e102 := eqF (n := t) (c := 102) (by omega)
  have e110 := eqF (n := t) (c := 110) (by omega)
  clear h hE hI hsh hh hx ha hkd hl hy
  go_enter Tryd.func40, Tryd.ntmps40
  go_wp2_with fail
  refine CT.out.mono ?_
  rintro e w4 hS
  have HS := Lib.hid hS
  rcases hS with ⟨st', p', h1, h2, h3, h4, h5, h6, rfl, h8, h9⟩ | ⟨c, q, b2, t2, k2, h1, rfl, h3⟩
  · clear h1 h2 h3 h4 h5 h6 h8 h9
    go_wp2_with fail
    first | go_end0 | refine bodyPost_ret (results_none rfl _ _ _) rfl ?_
    exact HS.out
  · clear h1 h3
    go_wp2_with fail
    exact ⟨rfl, HS.out⟩
set_option maxRecDepth 100000 in
set_option maxHeartbeats 3200000 in
theorem dvalue_lo (h : JdB w g s L ro st.nx st.cur st.G p B) (hE : Env s L) (hI : Inv L st p) (hsh : st.hand = .none) (hh : has s.toList L p = true) (b : UInt8) (hx : s.toList.getD p 0 = b) (t : Nat) (hc : t ≠ 34 ∧ t ≠ 45 ∧ t < 48)
    (ha : st.act L b p = .fl 9 p) :
    Calls Tryd.prog 40 #[.pointer (some ⟨g, 0, none⟩), .int .u8 (t : Int)] w (RStep st p g s L ro w) := by
  have hkd : ∀ f ∈ st.G, f.n ≤ 1000000 := fun f hf => by have := hI.kids f hf; have := (has_lt hh).2; have := hE.b; omega
  have hl : st.G.length ≤ 1000 := by have := hI.deep; have := hE.d; omega
  have HR : Hid (RunsT s.toList L st p (.no 9 p false) (p + 1) st.G.length) := fl_at hh hx ha
  have PL := Lib.hid (place_ok w g s L.bytes p h.tx.1)
  have FA := Lib.hid (fun w => fail_at 9 p g w)
  have e45 := eqF (n := t) (c := 45) (by omega)
  have e48 : ¬ (48 : Int) ≤ (t : Int) := by omega
  have e48b : decide ((48 : Int) ≤ (t : Int)) = false := decide_eq_false e48
  have e34 := eqF (n := t) (c := 34) (by omega)
  have e123 := eqF (n := t) (c := 123) (by omega)
  have e91 := eqF (n := t) (c := 91) (by omega)
  have e116 := eqF (n := t) (c := 116) (by omega)
  have e102 := eqF (n := t) (c := 102) (by omega)
  have e110 := eqF (n := t) (c := 110) (by omega)
  clear h hE hI hsh hh hx ha hkd hl
  go_enter Tryd.func40, Tryd.ntmps40
  go_wp2_with fail
  refine PL.out.mono ?_
  rintro e w1 ⟨rfl, rfl⟩
  go_wp2_with fail
  refine (FA.out _).mono ?_
  rintro e w1 ⟨rfl, hb⟩
  go_wp2_with fail
  exact ⟨rfl, .inr ⟨_, _, _, _, _, HR.out, rfl, hb⟩⟩
set_option maxRecDepth 100000 in
set_option maxHeartbeats 3200000 in
theorem dvalue_hi (h : JdB w g s L ro st.nx st.cur st.G p B) (hE : Env s L) (hI : Inv L st p) (hsh : st.hand = .none) (hh : has s.toList L p = true) (b : UInt8) (hx : s.toList.getD p 0 = b) (t : Nat) (hc : 57 < t ∧ t ≠ 123 ∧ t ≠ 91 ∧ t ≠ 116 ∧ t ≠ 102 ∧ t ≠ 110)
    (ha : st.act L b p = .fl 9 p) :
    Calls Tryd.prog 40 #[.pointer (some ⟨g, 0, none⟩), .int .u8 (t : Int)] w (RStep st p g s L ro w) := by
  have hkd : ∀ f ∈ st.G, f.n ≤ 1000000 := fun f hf => by have := hI.kids f hf; have := (has_lt hh).2; have := hE.b; omega
  have hl : st.G.length ≤ 1000 := by have := hI.deep; have := hE.d; omega
  have HR : Hid (RunsT s.toList L st p (.no 9 p false) (p + 1) st.G.length) := fl_at hh hx ha
  have PL := Lib.hid (place_ok w g s L.bytes p h.tx.1)
  have FA := Lib.hid (fun w => fail_at 9 p g w)
  have e45 := eqF (n := t) (c := 45) (by omega)
  have e48 : (48 : Int) ≤ (t : Int) := by omega
  have e57 : ¬ (t : Int) ≤ 57 := by omega
  have e57b : decide ((t : Int) ≤ 57) = false := decide_eq_false e57
  have e34 := eqF (n := t) (c := 34) (by omega)
  have e123 := eqF (n := t) (c := 123) (by omega)
  have e91 := eqF (n := t) (c := 91) (by omega)
  have e116 := eqF (n := t) (c := 116) (by omega)
  have e102 := eqF (n := t) (c := 102) (by omega)
  have e110 := eqF (n := t) (c := 110) (by omega)
  clear h hE hI hsh hh hx ha hkd hl
  go_enter Tryd.func40, Tryd.ntmps40
  go_wp2_with fail
  refine PL.out.mono ?_
  rintro e w1 ⟨rfl, rfl⟩
  go_wp2_with fail
  refine (FA.out _).mono ?_
  rintro e w1 ⟨rfl, hb⟩
  go_wp2_with fail
  exact ⟨rfl, .inr ⟨_, _, _, _, _, HR.out, rfl, hb⟩⟩
theorem dvalue_any (h : JdS w g s L ro st p) (hE : Env s L) (hI : Inv L st p) (hsh : st.hand = .none) (hh : has s.toList L p = true) (b : UInt8) (hx : s.toList.getD p 0 = b) (t : Nat) (ht : b.toNat = t) (ha : st.act L b p = st.value L b p) :
    Calls Tryd.prog 40 #[.pointer (some ⟨g, 0, none⟩), .int .u8 (t : Int)] w (RStep st p g s L ro w) := by
  obtain ⟨B, h⟩ := h
  have hb := u8lit b t ht
  have hnm : st.named = none := (hI.nx0 hsh).2
  rw [St.value] at ha
  by_cases h34 : t = 34
  · subst h34
    have hbc : b = 34 := (hb 34 (by decide)).2 rfl
    rw [if_pos hbc] at ha
    exact dvalue_str w g s L ro st p B h hE hI hsh hnm hh b hx ha
  by_cases h123 : t = 123
  · subst h123
    rw [if_neg (show ¬ b = 34 from fun e => absurd ((hb 34 (by decide)).1 e) (by decide))] at ha
    have hbc : b = 123 := (hb 123 (by decide)).2 rfl
    rw [if_pos hbc] at ha
    exact dvalue_obj w g s L ro st p B h hE hI hsh hh b hx ha
  by_cases h91 : t = 91
  · subst h91
    rw [if_neg (show ¬ b = 34 from fun e => absurd ((hb 34 (by decide)).1 e) (by decide))] at ha
    rw [if_neg (show ¬ b = 123 from fun e => absurd ((hb 123 (by decide)).1 e) (by decide))] at ha
    have hbc : b = 91 := (hb 91 (by decide)).2 rfl
    rw [if_pos hbc] at ha
    exact dvalue_arr w g s L ro st p B h hE hI hsh hh b hx ha
  by_cases h116 : t = 116
  · subst h116
    rw [if_neg (show ¬ b = 34 from fun e => absurd ((hb 34 (by decide)).1 e) (by decide))] at ha
    rw [if_neg (show ¬ b = 123 from fun e => absurd ((hb 123 (by decide)).1 e) (by decide))] at ha
    rw [if_neg (show ¬ b = 91 from fun e => absurd ((hb 91 (by decide)).1 e) (by decide))] at ha
    have hbc : b = 116 := (hb 116 (by decide)).2 rfl
    rw [if_pos hbc] at ha
    exact dvalue_w116 w g s L ro st p B h hE hI hsh hh b hx (by assumption) ha
  by_cases h102 : t = 102
  · subst h102
    rw [if_neg (show ¬ b = 34 from fun e => absurd ((hb 34 (by decide)).1 e) (by decide))] at ha
    rw [if_neg (show ¬ b = 123 from fun e => absurd ((hb 123 (by decide)).1 e) (by decide))] at ha
    rw [if_neg (show ¬ b = 91 from fun e => absurd ((hb 91 (by decide)).1 e) (by decide))] at ha
    rw [if_neg (show ¬ b = 116 from fun e => absurd ((hb 116 (by decide)).1 e) (by decide))] at ha
    have hbc : b = 102 := (hb 102 (by decide)).2 rfl
    rw [if_pos hbc] at ha
    exact dvalue_w102 w g s L ro st p B h hE hI hsh hh b hx (by assumption) ha
  by_cases h110 : t = 110
  · subst h110
    rw [if_neg (show ¬ b = 34 from fun e => absurd ((hb 34 (by decide)).1 e) (by decide))] at ha
    rw [if_neg (show ¬ b = 123 from fun e => absurd ((hb 123 (by decide)).1 e) (by decide))] at ha
    rw [if_neg (show ¬ b = 91 from fun e => absurd ((hb 91 (by decide)).1 e) (by decide))] at ha
    rw [if_neg (show ¬ b = 116 from fun e => absurd ((hb 116 (by decide)).1 e) (by decide))] at ha
    rw [if_neg (show ¬ b = 102 from fun e => absurd ((hb 102 (by decide)).1 e) (by decide))] at ha
    have hbc : b = 110 := (hb 110 (by decide)).2 rfl
    rw [if_pos hbc] at ha
    exact dvalue_w110 w g s L ro st p B h hE hI hsh hh b hx (by assumption) ha
  rw [if_neg (show ¬ b = 34 from fun e => h34 ((hb 34 (by decide)).1 e))] at ha
  rw [if_neg (show ¬ b = 123 from fun e => h123 ((hb 123 (by decide)).1 e))] at ha
  rw [if_neg (show ¬ b = 91 from fun e => h91 ((hb 91 (by decide)).1 e))] at ha
  rw [if_neg (show ¬ b = 116 from fun e => h116 ((hb 116 (by decide)).1 e))] at ha
  rw [if_neg (show ¬ b = 102 from fun e => h102 ((hb 102 (by decide)).1 e))] at ha
  rw [if_neg (show ¬ b = 110 from fun e => h110 ((hb 110 (by decide)).1 e))] at ha
  by_cases h45 : t = 45
  · subst h45
    obtain ⟨y, hy⟩ := nextN0_some b _ ht (.inl rfl)
    rw [hy] at ha
    exact dvalue_num45 w g s L ro st p B h hE hI hsh hh b hx y hy ha
  by_cases h8 : 48 ≤ t ∧ t ≤ 57
  · obtain ⟨y, hy⟩ := nextN0_some b _ ht (.inr h8)
    rw [hy] at ha
    exact dvalue_dig w g s L ro st p B h hE hI hsh hh b hx y hy t h8 ha
  have hy : nextN 0 b = none := by rw [nextN0 b t ht, if_neg h45, if_neg (by omega), if_neg h8]
  rw [hy] at ha
  by_cases h9 : t < 48
  · exact dvalue_lo w g s L ro st p B h hE hI hsh hh b hx t ⟨h34, h45, h9⟩ ha
  · exact dvalue_hi w g s L ro st p B h hE hI hsh hh b hx t ⟨by omega, h123, h91, h116, h102, h110⟩ ha
theorem dname_any (h : JdS w g s L ro st p) (hE : Env s L) (hI : Inv L st p) (hsh : st.hand = .none) (hO : isObj st.G) (hh : has s.toList L p = true) (b : UInt8) (hx : s.toList.getD p 0 = b) (t : Nat) (ht : b.toNat = t) (ha : st.act L b p = st.name L b p) :
    Calls Tryd.prog 39 #[.pointer (some ⟨g, 0, none⟩), .int .u8 (t : Int)] w (RStep st p g s L ro w) := by
  obtain ⟨B, h⟩ := h
  have hb := u8lit b t ht
  rw [St.name] at ha
  by_cases h34 : t = 34
  · subst h34
    rw [if_pos (show b = 34 from (hb 34 (by decide)).2 rfl)] at ha
    exact dname_yes w g s L ro st p B h hE hI hsh hO hh b hx ha
  · rw [if_neg (show ¬ b = 34 from fun e => h34 ((hb 34 (by decide)).1 e))] at ha
    exact dname_bad w g s L ro st p B h hh b hx t h34 ha
end
end Jd
end Go.Proofs.YtpaikjlcachabaaDoor
