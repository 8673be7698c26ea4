/- json's reader in memory: goOn, add. -/
import Derived.Test.YtilfidcomeandaaJdB
import Derived.BigRegion
import Derived.Deep.RegionLaw
namespace Go.Proofs.Ytilfidcomeandaa
open Go.RowKit
set_option linter.unusedVariables false
set_option linter.unusedSimpArgs false
namespace Jd
open Js
open Dr (Rs Lm has lack)
open Jr (Cl sx wx)
section
variable (w : World) (g : Nat) (s : ByteArray) (L : Lm) (ro : Int) (st : St) (p : Nat)
set_option maxRecDepth 100000 in
set_option maxHeartbeats 3200000 in
theorem dgoOn_any (h : JdS w g s L ro st p) (hE : Env s L) (hh : has s.toList L p = true) (hG : st.G ≠ []) (hl : st.G.length ≤ 1000) (b : UInt8) (t : Nat) (ht : b.toNat = t) :
    Calls Try.prog 45 #[.pointer (some ⟨g, 0, none⟩), .int .u8 (t : Int)] w (RA (st.goOn b p) p g s L ro w) := by
  obtain ⟨R, hR⟩ : ∃ R, st.goOn b p = R := ⟨_, rfl⟩
  rw [hR]
  rw [St.goOn] at hR
  obtain ⟨f, G, hG'⟩ : ∃ t G, st.G = t :: G := by cases hG' : st.G with | nil => exact absurd hG' hG | cons t G => exact ⟨t, G, rfl⟩
  have hb : ∀ c : Nat, c < 256 → (b = UInt8.ofNat c ↔ t = c) := fun c hc => by
    constructor
    · intro e; rw [← ht, e]; simp; omega
    · intro e; rw [← e, ← ht]; simp
  have CL := Lib.hid (fun n => dend_any (w.drewN n) g s L ro st p (h.drewN n) hE hh hG hl)
  have PA := Lib.hid (fun n r nx => dpass_any (w.drewN n) g s L ro st p (h.drewN n) hE hh r nx (nx : Int) rfl)
  have hobj : st.object = f.o.isSome := by rw [St.object, hG']
  rw [hobj] at hR
  obtain ⟨B, vV, vS, h⟩ := h
  rw [hG'] at h
  have hB0 := h.maps.length
  obtain ⟨bm, B, rfl⟩ : ∃ b B', B = b :: B' := by cases B with | nil => cases hB0 | cons b B => exact ⟨b, B, rfl⟩
  have hbo : bm.isSome = f.o.isSome := by
    cases h.maps with
    | arr _ ho => rw [ho]; rfl
    | obj _ ho _ _ _ => rw [ho]; rfl
  obtain ⟨q, cap, rfl, hcap, hq, hAt⟩ := h.top
  obtain ⟨n, hn0⟩ : ∃ n, G.length = n := ⟨_, rfl⟩
  have c6 := h.at0.cell 9 _ rfl
  rw [hn0] at c6 hcap hAt
  have d1 := hAt.cell 1 _ rfl
  rw [hG'] at hl
  have e1 : (n : Int) + 1 - 1 = (n : Int) := by omega
  have e2 : IntKind.i64.wrap (n : Int) = (n : Int) := wrap_fit n (by unfold maxLen; simp at hl; omega)
  have e3 : (n : Int) < (n : Int) + 1 := by omega
  have QN : ∀ (w : World) (r : Option Nat), (binOp .neq 92 (.map r) (.map none)).run Try.prog w = .ok (.bool (!r.isNone)) w := fun w r => run_neq_map_nil w _ _ _ r Try.underlying92
  have hbn : (!bm.isNone) = f.o.isSome := by rw [← hbo]; cases bm <;> rfl
  obtain ⟨o, ho⟩ : ∃ o, f.o.isSome = o := ⟨_, rfl⟩
  rw [ho] at hbn hR
  clear h hAt hn0 hG hG' hl hB0 hbo ho hobj hh
  cases o with
  | true =>
    rw [if_pos rfl] at hR
    by_cases h125 : t = 125
    · have HR : Hid (R = .go st.close) := by show R = _; rw [← hR, if_pos (show b = 125 from (hb 125 (by decide)).2 h125)]
      subst h125
      clear hR hb ht
      go_enter Try.func45, Try.ntmps45
      go_wp2_with fail
      go_quiet (fail)
      go_wp2_with fail
      refine (CL.out _).mono ?_
      rintro e w4 ⟨rfl, hF4, hB4⟩
      go_wp2_with fail
      first | go_end0 | refine bodyPost_ret (results_none rfl _ _ _) rfl ?_
      exact RA.go HR hF4 ((below_drewN g w _).trans hB4.out)
    · have HR : Hid (R = st.pass (decide (b = 44)) 2 p) := by show R = _; rw [← hR, if_neg (show ¬ b = 125 from fun e => h125 ((hb 125 (by decide)).1 e))]
      have e5 := eqF (n := t) (c := 125) (by omega)
      have h44 : decide (b = 44) = decide (t = 44) := decide_eq_decide.2 (show b = 44 ↔ t = 44 from hb 44 (by decide))
      rw [h44] at HR
      have h45 : ((t : Int) == 44) = decide (t = 44) := by rw [Bool.eq_iff_iff, beq_iff_eq, decide_eq_true_iff]; omega
      generalize decide (t = 44) = r at *
      clear hR hb ht h44 h125
      go_enter Try.func45, Try.ntmps45
      go_wp2_with fail
      go_quiet (fail)
      go_wp2_with fail
      refine (PA.out _ r 2).mono ?_
      intro e w4 hR4
      rw [← HR.out] at hR4
      have HB0 : Hid (Below g w (w.drewN nq)) := below_drewN g w _
      cases R with
      | fl c q =>
        obtain ⟨rfl, hB4⟩ := hR4
        go_wp2_with fail
        exact ⟨rfl, rfl, HB0.out.trans hB4⟩
      | go st2 =>
        obtain ⟨rfl, hF4, hB4⟩ := hR4
        go_wp2_with fail
        first | go_end0 | refine bodyPost_ret (results_none rfl _ _ _) rfl ?_
        exact ⟨rfl, hF4, HB0.out.trans hB4.out⟩
  | false =>
    rw [if_neg (by decide)] at hR
    by_cases h93 : t = 93
    · have HR : Hid (R = .go st.close) := by show R = _; rw [← hR, if_pos (show b = 93 from (hb 93 (by decide)).2 h93)]
      subst h93
      clear hR hb ht
      go_enter Try.func45, Try.ntmps45
      go_wp2_with fail
      go_quiet (fail)
      go_wp2_with fail
      refine (CL.out _).mono ?_
      rintro e w4 ⟨rfl, hF4, hB4⟩
      go_wp2_with fail
      first | go_end0 | refine bodyPost_ret (results_none rfl _ _ _) rfl ?_
      exact RA.go HR hF4 ((below_drewN g w _).trans hB4.out)
    · have HR : Hid (R = st.pass (decide (b = 44)) 0 p) := by show R = _; rw [← hR, if_neg (show ¬ b = 93 from fun e => h93 ((hb 93 (by decide)).1 e))]
      have e5 := eqF (n := t) (c := 93) (by omega)
      have h44 : decide (b = 44) = decide (t = 44) := decide_eq_decide.2 (show b = 44 ↔ t = 44 from hb 44 (by decide))
      rw [h44] at HR
      have h45 : ((t : Int) == 44) = decide (t = 44) := by rw [Bool.eq_iff_iff, beq_iff_eq, decide_eq_true_iff]; omega
      generalize decide (t = 44) = r at *
      clear hR hb ht h44 h93
      go_enter Try.func45, Try.ntmps45
      go_wp2_with fail
      go_quiet (fail)
      go_wp2_with fail
      refine (PA.out _ r 0).mono ?_
      intro e w4 hR4
      rw [← HR.out] at hR4
      have HB0 : Hid (Below g w (w.drewN nq)) := below_drewN g w _
      cases R with
      | fl c q =>
        obtain ⟨rfl, hB4⟩ := hR4
        go_wp2_with fail
        exact ⟨rfl, rfl, HB0.out.trans hB4⟩
      | go st2 =>
        obtain ⟨rfl, hF4, hB4⟩ := hR4
        go_wp2_with fail
        first | go_end0 | refine bodyPost_ret (results_none rfl _ _ _) rfl ?_
        exact ⟨rfl, hF4, HB0.out.trans hB4.out⟩
end
/-- a block that is no row of values -/
def NotV (w : World) (a : Nat) : Prop := ∀ cur, w.heap[a]? ≠ some (.cells cur 62 (0, 0))
theorem NotV.same {w w' : World} {a : Nat} (h : NotV w a) (hs : w'.heap[a]? = w.heap[a]?) : NotV w' a := fun cur => by rw [hs]; exact h cur
/-- blocks that are neither the reader's own nor rows of values are as they were -/
structure Kq (g : Nat) (w w' : World) : Prop where
  size : w.heap.size ≤ w'.heap.size
  block : ∀ a, a < w.heap.size → a ≠ g → NotV w a → w'.heap[a]? = w.heap[a]?
theorem Kq.refl (g : Nat) (w : World) : Kq g w w := ⟨Nat.le_refl _, fun _ _ _ _ => rfl⟩
theorem Kq.trans {g : Nat} {a b c : World} (h : Kq g a b) (k : Kq g b c) : Kq g a c := ⟨Nat.le_trans h.size k.size, fun i hi hg hn => by
  have h1 := h.block i hi hg hn
  exact (k.block i (Nat.lt_of_lt_of_le hi h.size) hg (hn.same h1)).trans h1⟩
theorem Kq.drewN (g : Nat) (w : World) (k : Nat) : Kq g w (w.drewN k) := ⟨Nat.le_refl _, fun _ _ _ _ => rfl⟩
theorem Kq.alloc (g : Nat) (w : World) (o : Obj) : Kq g w (w.alloc o) := ⟨by simp, fun a ha _ _ => Below.heap_alloc _ _ _ ha⟩
theorem Kq.setG (g : Nat) (w : World) (o : Nat) (u : Value) : Kq g w (w.setCell ⟨g, o, none⟩ u) := ⟨by simp [World.setCell], fun a _ hg _ => Below.heap_setCell _ _ _ _ (by show a ≠ g; exact hg)⟩
theorem row_ty {w : World} {B e z n : Nat} {v : Value} {xs : List Value} (h : w.ownsRow B e z v n xs) {q : Nat} (hq : v.ownBlock = some q) : ∃ cur, w.heap[q]? = some (.cells cur e (0, 0)) := by
  rcases h.2 with ⟨rfl, _⟩ | ⟨b, cap, cur, rfl, _, h2, _⟩
  · cases hq
  · obtain rfl : b = q := by simpa [Value.ownBlock] using hq
    exact ⟨cur, h2⟩
theorem Kq.grown {g : Nat} {w w' : World} {row : Option Nat} (hg : w.grownBy w' row) (hr : ∀ q, row = some q → q = g ∨ ¬ NotV w q) : Kq g w w' := ⟨hg.size, fun a ha hag hn => hg.block a ha (fun e => by
  rcases hr a e.symm with h | h
  · exact hag h
  · exact h hn)⟩
theorem Kq.names {g : Nat} {w w' : World} {b : Nat} {xs : List (List UInt8)} {c : Value} {cs : List Value} (h : Kq g w w') (hm : NamesM w b xs) (hA : At w g 0 (c :: cs)) : NamesM w' b xs := by
  refine hm.same (h.block b hm.lt (hm.ne_at hA) ?_)
  obtain ⟨es, ck, hb⟩ := hm.obj
  exact fun cur e => by rw [hb] at e; cases e
theorem Kq.at {g a : Nat} {w w' : World} {c : Value} {cs : List Value} (h : Kq g w w') (hg : a ≠ g) (hn : NotV w a) (hA : At w a 0 (c :: cs)) : At w' a 0 (c :: cs) := fun j u hu => by
  have h1 := h.block a (hA.lt (by simp)) hg hn
  obtain ⟨h2, h3⟩ := hA j u hu
  exact ⟨(World.cell?_of_block h1).trans h2, (World.frozen?_of_block h1).trans h3⟩
theorem Kq.notV {g a : Nat} {w w' : World} (h : Kq g w w') (hl : a < w.heap.size) (hg : a ≠ g) (hn : NotV w a) : NotV w' a := hn.same (h.block a hl hg hn)
theorem jf_kids (t : Fr) (G : List Fr) (cur : List Vl) : (flat (t :: G) cur).modify (flat G t.b).length (fun v => { v with kids := v.kids + 1 }) = flat (bump (t :: G)) cur := by
  rw [flat_cons, bump, flat_cons]
  have h : ∀ (a : List Vl) (x : Vl) (b : List Vl) (y : Vl → Vl), (a ++ x :: b).modify a.length y = a ++ y x :: b := by
    intro a x b y
    induction a with
    | nil => rfl
    | cons z a ih => rw [List.cons_append, List.length_cons, List.modify_succ_cons, ih]; rfl
  rw [h]
  rfl
theorem jf_at (t : Fr) (G : List Fr) (cur : List Vl) : (flat (t :: G) cur).getD (flat G t.b).length v0 = Js.hold t := by
  rw [flat_cons, List.getD, List.getElem?_append_right (Nat.le_refl _), Nat.sub_self]; rfl
section
variable {w : World} {ops : Array Oper} {o : Oper} {a : Act}
theorem step_append_vl {K : Act → World → Prop} {Q : Exit → Act → World → Prop} {E : Prop} (hgd : o.guard = none) (s x : Operand)
    (ho : o.op = .call { callee := .builtin .append, args := #[s, x], argTypes := #[32, 32] })
    (base : Nat) (v : Value) (n : Nat) (l : List Vl) (hs : a.eval s = v) (hown : w.ownsRow base 62 3 v n (vcells l))
    (g c : Nat) (y : Vl) (hx : a.eval x = .slice (some ⟨g, 0, none⟩) 1 c) (hcell : ∀ j u, (vv y)[j]? = some u → w.cell? ((⟨g, 0, none⟩ : Addr).add j) = some u)
    (hn : n ≤ 1000000) (hbase : base ≤ w.heap.size)
    (h : ∀ v' w', w'.ownsRow base 62 3 v' (n + 1) (vcells (l ++ [y])) → w.grownBy w' v.ownBlock → K (a.put o.dst v') w') :
    if Region.wanted o (yielded ops a.tmps) = true then Oper.wp Try.prog o a w K Q else E := by
  obtain ⟨i0, hi, hq⟩ := Option.map_eq_some_iff.1 infoVl
  simp only [Prod.mk.injEq] at hq
  refine step_append_gen hgd s x 32 ho base 62 i0 _ 3 32 Try.underlying32 hi hq.1 hq.2.1 hq.2.2 rfl (by decide) v n (vcells l) hs hown g 1 c (vv y) hx rfl hcell (vv_one y) (by unfold maxLen; omega) (by omega) hbase ?_
  intro v' w' h1 h2
  exact h v' w' (by rw [vcells_append]; simpa [vcells] using h1) h2
end
def box (kind : Int) : Obj := Obj.cells #[.int .i64 kind, .int .i64 0, .string ByteArray.empty] 62
def RAdd (kind : Int) (nx : Nat) (cur : List Vl) (G : List Fr) (p g : Nat) (s : ByteArray) (L : Lm) (ro : Int) (B : List (Option Nat)) (w : World) (e : Ending) (w' : World) : Prop :=
  e = .returned (.tuple #[]) ∧ Hid (JdB w' g s L ro nx (cur ++ [⟨kind, 0, []⟩]) (bump G) p B) ∧ Hid (Below g w w') ∧ Hid (Kq g w w') ∧ Hid (w'.cell? ⟨g, 9, none⟩ = w.cell? ⟨g, 9, none⟩)
section
variable (w : World) (g : Nat) (s : ByteArray) (L : Lm) (ro : Int) (nx : Nat) (cur : List Vl) (G : List Fr) (p : Nat) (B : List (Option Nat))
set_option maxRecDepth 100000 in
set_option maxHeartbeats 1600000 in
theorem dadd_no (h : JdB w g s L ro nx cur G p B) (kind : Int) (hi : L.items ≤ (flat G cur).length) :
    Calls Try.prog 66 #[.pointer (some ⟨g, 0, none⟩), .agg #[.int .i64 kind, .int .i64 0, .string ByteArray.empty]] w (fun e w' => e = .panicked (flt 10 (p : Int)) ∧ Below g w w') := by
  obtain ⟨vV, vS, h⟩ := h
  obtain ⟨aV, cV, rfl, -⟩ := own_form h.vals
  have hA := h.alloc (box kind)
  have HBX : Hid (Below g w (w.alloc (box kind))) := (Below.refl g w).alloc (Nat.le_of_lt h.lt) _
  have PL := Lib.hid (fun n => place_ok ((w.alloc (box kind)).drewN n) g s L.bytes p (hA.tx.1.drewN n))
  have FA := Lib.hid (fun w => fail_at 10 p g w)
  have h4 := hA.at0.cell 4 _ rfl
  have h8 := hA.at0.cell 8 _ rfl
  obtain ⟨m, hm⟩ : ∃ m, (flat G cur).length = m := ⟨_, rfl⟩
  rw [hm] at hi h8
  have e0 : (L.items : Int) ≤ (m : Int) := by omega
  clear h hm hi hA
  go_enter Try.func66, Try.ntmps66
  go_wp2_with fail
  rw [show w.alloc (Obj.cells #[.int .i64 kind, .int .i64 0, .string ByteArray.empty] 62) = w.alloc (box kind) from rfl]
  generalize w.alloc (box kind) = w1 at *
  go_quiet (fail)
  go_wp2_with fail
  refine (PL.out _).mono ?_
  rintro e w1 ⟨rfl, rfl⟩
  go_wp2_with fail
  refine (FA.out _).mono ?_
  rintro e w1 ⟨rfl, hb⟩
  go_wp2_with fail
  exact ⟨rfl, rfl, (HBX.out.trans (below_drewN g _ _)).trans hb⟩
set_option maxRecDepth 100000 in
set_option maxHeartbeats 3200000 in
theorem dadd_nil (h : JdB w g s L ro nx cur [] p B) (kind : Int) (hi : (flat [] cur).length < L.items) (hL : L.items ≤ 4096) :
    Calls Try.prog 66 #[.pointer (some ⟨g, 0, none⟩), .agg #[.int .i64 kind, .int .i64 0, .string ByteArray.empty]] w (RAdd kind nx cur [] p g s L ro B w) := by
  obtain ⟨vV, vS, h⟩ := h
  have hB0 := h.maps.length
  obtain ⟨aVV, cVV, rfl, -⟩ := own_form h.vals
  obtain ⟨aS, cS, rfl, -⟩ := own_form h.stack
  have HC9 : Hid (w.cell? ⟨g, 9, none⟩ = _) := (by have := h.at0.cell 9 _ rfl; rw [Nat.zero_add] at this; exact this)
  have hA := h.alloc (box kind)
  have HBX : Hid (Below g w (w.alloc (box kind))) := (Below.refl g w).alloc (Nat.le_of_lt h.lt) _
  have HKX : Hid (Kq g w (w.alloc (box kind))) := Kq.alloc g w _
  have HTX : Hid (At (w.alloc (box kind)) w.heap.size 0 [.int .i64 kind, .int .i64 0, .string ByteArray.empty]) := At.ofAlloc w #[.int .i64 kind, .int .i64 0, .string ByteArray.empty] 62
  obtain ⟨m, hm⟩ : ∃ m, (flat [] cur).length = m := ⟨_, rfl⟩
  obtain ⟨T, hT⟩ : ∃ T, w.heap.size = T := ⟨_, rfl⟩
  rw [hm] at hA
  have h4 := hA.at0.cell 4 _ rfl
  have h8 := hA.at0.cell 8 _ rfl
  have h9 := hA.at0.cell 9 _ rfl
  rw [hm] at hi
  have e0 : ¬ (L.items : Int) ≤ (m : Int) := by omega
  have HF := Lib.hid hA
  have HFL : Hid (flat (bump []) (cur ++ [⟨kind, 0, []⟩]) = flat [] cur ++ [⟨kind, 0, []⟩] ∧ (flat [] cur).length = m) := ⟨rfl, hm⟩
  have HX : Hid ((flat [] cur).length = m ∧ m ≤ 4096) := ⟨hm, by omega⟩
  rw [hT] at HTX
  have HTT := Lib.hid hT
  clear h hm hi hL hA
  go_enter Try.func66, Try.ntmps66
  go_wp2_with fail
  try rw [hT]
  clear hT
  rw [show w.alloc (Obj.cells #[.int .i64 kind, .int .i64 0, .string ByteArray.empty] 62) = w.alloc (box kind) from rfl]
  generalize w.alloc (box kind) = w1 at *
  go_quiet (fail)
  go_upto_region 5 with fail
  have HF2 := Lib.hid (HF.out.drewN nq)
  have HB2 : Hid (Below g w (w1.drewN nq)) := HBX.out.trans (below_drewN g w1 nq)
  have HK2 : Hid (Kq g w (w1.drewN nq)) := HKX.out.trans (Kq.drewN g w1 nq)
  have HT2 : Hid (At (w1.drewN nq) T 0 [.int .i64 kind, .int .i64 0, .string ByteArray.empty]) := HTX.out.drewN nq
  obtain ⟨l2, hl2⟩ : ∃ l, flat [] cur = l := ⟨_, rfl⟩
  rw [hl2] at HF2 HFL HX
  clear hl2
  generalize w1.drewN nq = w2 at HF2 HB2 HK2 HT2 ⊢
  clear h4 h8 h9
  have HV2 : Hid (∀ ob : Obj, ((World.drew w2).alloc ob).ownsRow (g + 1) 62 3 (.slice aVV m cVV) m (vcells l2)) := fun ob => by have h8 := HF2.out.vals; rw [HX.out.1] at h8; exact (own_drewN h8 1).alloc ob
  have k0 := HT2.out.cell 0 _ rfl
  have k1 := HT2.out.cell 1 _ rfl
  have k2 := HT2.out.cell 2 _ rfl
  have c8 := HF2.out.at0.cell 8 _ rfl
  obtain ⟨vV2, hvV2⟩ : ∃ v, Value.slice aVV m cVV = v := ⟨_, rfl⟩
  rw [hvV2] at HV2 HF2 c8
  have d8 : ∀ ob : Obj, (w2.alloc ob).cell? ⟨g, 0 + 8, none⟩ = some vV2 := fun ob => (HF2.out.alloc ob).at0.cell 8 _ rfl
  clear hvV2
  go_wp2_with fail
  go_region_law (first
    | (refine step_append_vl rfl (.tmp 53) (.tmp 55) rfl (g + 1) vV2 m l2 rfl (HV2.out _) _ 1 (⟨kind, 0, []⟩ : Vl) rfl (at_cellsW (vv_new kind) (At.ofAlloc _ #[Value.int .i64 kind, Value.int .i64 0, Value.string ByteArray.empty] 62)) (by have := HX.out.2; omega) (by have := HF2.out.lt; simp; omega) ?_; intro v5 w5 hown5 hgrow5; obtain ⟨a5, c5', hv5, -⟩ := own_form hown5; subst hv5; have hJ := (HF2.out.drewN 1).alloc (box kind); have hAt5 := At.grown hJ.at0 hgrow5 hJ.lt (fun e => by have := ((HV2.out (box kind)).lt g e).1; omega); have hf85 := hAt5.froz 8 (by show 8 < 10; decide); have hc85 := hAt5.cell 8 _ rfl; have HW5 := Lib.hid hown5; have HGR := Lib.hid hgrow5; have HJ := Lib.hid hJ; clear hAt5 hgrow5 hown5 hJ))
  all_goals
    go_wp2_with fail
    first | go_end0 | refine bodyPost_ret (results_none rfl _ _ _) rfl ?_
    have h9 := HJ.out.growV (l' := l2 ++ [(⟨kind, 0, []⟩ : Vl)]) HGR.out (by rw [List.length_append, HX.out.1]; exact HW5.out)
    rw [← HFL.out.1] at h9
    have h99 := h9.at0.cell 9 _ rfl
    rw [Nat.zero_add] at h99
    refine ⟨rfl, ⟨_, _, h9⟩, ?_, ?_, h99.trans HC9.out.symm⟩
    · exact (((HB2.out.trans (below_drewN g _ 1)).alloc (Nat.le_of_lt HF2.out.lt) (box kind)).grown (row := vV2.ownBlock) HGR.out (by have := HF2.out.lt; simp; omega) (fun q hq => by have := ((HV2.out (box kind)).lt q hq).1; omega)).setCell (p := ⟨g, 8, none⟩) (Nat.le_refl g) _
    · exact (((HK2.out.trans (Kq.drewN g _ 1)).trans (Kq.alloc g _ (box kind))).trans (Kq.grown (row := vV2.ownBlock) HGR.out (fun q hq => by obtain ⟨cur, hc⟩ := row_ty (HV2.out (box kind)) hq; exact .inr (fun hn => hn _ hc)))).trans (Kq.setG g _ 8 _)
set_option maxRecDepth 100000 in
set_option maxHeartbeats 6400000 in
theorem dadd_cons (t : Fr) (h : JdB w g s L ro nx cur (t :: G) p B) (kind : Int) (hi : (flat (t :: G) cur).length < L.items) (hL : L.items ≤ 4096) (hl : (t :: G).length ≤ 1000) (hkt : t.n ≤ 1000000) :
    Calls Try.prog 66 #[.pointer (some ⟨g, 0, none⟩), .agg #[.int .i64 kind, .int .i64 0, .string ByteArray.empty]] w (RAdd kind nx cur (t :: G) p g s L ro B w) := by
  obtain ⟨vV, vS, h0⟩ := h
  have h := h0.alloc (box kind)
  have hB0 := h.maps.length
  obtain ⟨bm, B, rfl⟩ : ∃ b B', B = b :: B' := by cases B with | nil => cases hB0 | cons b B => exact ⟨b, B, rfl⟩
  obtain ⟨i, hii⟩ : ∃ i, (flat G t.b).length = i := ⟨_, rfl⟩
  obtain ⟨m, hm⟩ : ∃ m, (flat (t :: G) cur).length = m := ⟨_, rfl⟩
  have him : i < m := by rw [← hii, ← hm, flat_cons, List.length_append]; simp
  obtain ⟨qS, capS, rfl, hcapS, hqS, hAtS⟩ := h.top
  obtain ⟨qV, cVV, rfl, hqV, hAtV⟩ := h.value i (by omega)
  rw [← hii, jf_at] at hAtV
  rw [hii] at hAtV hAtS
  have hfz : (Js.hold t).kids = (t.n : Int) := rfl
  obtain ⟨n, hn0⟩ : ∃ n, G.length = n := ⟨_, rfl⟩
  have HC9 : Hid (w.cell? ⟨g, 9, none⟩ = some (.slice (some ⟨qS, 0, none⟩) (n + 1) capS)) := (by have := h0.at0.cell 9 _ rfl; rw [Nat.zero_add, hn0] at this; exact this)
  have h4 := h.at0.cell 4 _ rfl
  have h8 := h.at0.cell 8 _ rfl
  have h9 := h.at0.cell 9 _ rfl
  rw [hn0] at h9 hAtS
  rw [hm] at h8
  have d0 := hAtS.cell 0 _ rfl
  rw [Nat.add_zero] at d0
  have d1 := hAtV.cell 1 _ rfl
  rw [hfz] at d1
  have fd1 := hAtV.froz 1 (by show 1 < 3; decide)
  rw [hm] at hi
  have e0 : ¬ (L.items : Int) ≤ (m : Int) := by omega
  have e1 : (n : Int) + 1 - 1 = (n : Int) := by omega
  have e2 : IntKind.i64.wrap (n : Int) = (n : Int) := wrap_fit n (by unfold maxLen; simp at hl; omega)
  have e3 : (n : Int) < (n : Int) + 1 := by omega
  have e3b : (0 : Int) < (n : Int) + 1 := by omega
  have e4 : (i : Int) < (m : Int) := by omega
  obtain ⟨z, hz⟩ : ∃ z, t.n + 1 = z := ⟨_, rfl⟩
  obtain ⟨tn, htn⟩ : ∃ z, t.n = z := ⟨_, rfl⟩
  rw [htn] at d1 hz hkt
  have e5 : (tn : Int) + 1 = (z : Int) := by omega
  have e6 : IntKind.i64.wrap (z : Int) = (z : Int) := wrap_fit z (by unfold maxLen; omega)
  have HFL : Hid (flat (bump (t :: G)) (cur ++ [⟨kind, 0, []⟩]) = flat (bump (t :: G)) cur ++ [⟨kind, 0, []⟩] ∧ (flat (bump (t :: G)) cur).length = m ∧ (flat (t :: G) cur).length = m) := ⟨flat_app _ _ _, by rw [flat_bump_length, hm], hm⟩
  have HS : Hid (∀ w : World, Jd w g s L ro p nx (flat (t :: G) cur) (t :: G) (bm :: B) (.slice (some ⟨qV, 0, none⟩) m cVV) (.slice (some ⟨qS, 0, none⟩) (n + 1) capS) → Jd (w.setCell ⟨qV, i * 3 + 1, none⟩ (.int .i64 (z : Int))) g s L ro p nx (flat (bump (t :: G)) cur) (bump (t :: G)) (bm :: B) (.slice (some ⟨qV, 0, none⟩) m cVV) (.slice (some ⟨qS, 0, none⟩) (n + 1) capS)) := by
    intro w h
    have h8 := h.setVal rfl hm i 1 (by omega) (by decide) (.int .i64 (z : Int)) (fun v => { v with kids := v.kids + 1 }) (by rw [← hii, jf_at]; show [_, _, _] = [_, _, _]; rw [show ((z : Nat) : Int) = (Js.hold t).kids + 1 by rw [hfz, htn]; omega])
    rw [← hii, jf_kids] at h8
    rw [hii] at h8
    exact ⟨h8.at0, h8.vals, by rw [gcells_bump, bump_length]; exact h8.stack, h8.maps.bump⟩
  have HF := Lib.hid h
  rw [hm, hn0] at HF
  have HBX : Hid (Below g w (w.alloc (box kind))) := (Below.refl g w).alloc (Nat.le_of_lt h0.lt) _
  have HKX : Hid (Kq g w (w.alloc (box kind))) := Kq.alloc g w _
  have HTX : Hid (At (w.alloc (box kind)) w.heap.size 0 [.int .i64 kind, .int .i64 0, .string ByteArray.empty]) := At.ofAlloc w #[.int .i64 kind, .int .i64 0, .string ByteArray.empty] 62
  have HTN : Hid (w.heap.size ≠ qV) := by
    have h1 := (h0.vals.lt qV rfl).2
    show w.heap.size ≠ qV
    omega
  obtain ⟨T, hT⟩ : ∃ T, w.heap.size = T := ⟨_, rfl⟩
  rw [hT] at HTX HTN
  have HX : Hid ((flat (bump (t :: G)) cur).length = m ∧ m ≤ 4096) := ⟨HFL.out.2.1, by omega⟩
  have HQ := Lib.hid (And.intro hqV (And.intro hfz htn))
  clear h h0 hm hi hL hAtS hAtV hB0 hl hkt hn0 hii him hfz htn hz
  go_enter Try.func66, Try.ntmps66
  go_wp2_with fail
  try rw [hT]
  clear hT
  rw [show w.alloc (Obj.cells #[.int .i64 kind, .int .i64 0, .string ByteArray.empty] 62) = w.alloc (box kind) from rfl]
  generalize w.alloc (box kind) = w1 at *
  go_quiet (fail)
  go_upto_region 4 with fail
  go_region
  go_upto_region 5 with fail
  have HF1 := HF.out.drewN (nq + 1)
  have HF2 := Lib.hid (HS.out _ HF1)
  have HB2 : Hid (Below g w ((w1.drewN (nq + 1)).setCell ⟨qV, i * 3 + 1, none⟩ (.int .i64 (z : Int)))) := (HBX.out.trans (below_drewN g w1 (nq + 1))).setCell (p := ⟨qV, _, none⟩) (Nat.le_of_lt HQ.out.1) _
  have HK2 : Hid (Kq g w ((w1.drewN (nq + 1)).setCell ⟨qV, i * 3 + 1, none⟩ (.int .i64 (z : Int)))) := (HKX.out.trans (Kq.drewN g w1 (nq + 1))).trans (Kq.grown (grown_set _ ⟨qV, i * 3 + 1, none⟩ _) (fun q hq => by cases hq; obtain ⟨cur, hc⟩ := row_ty HF1.vals rfl; exact .inr (fun hn => hn _ hc)))
  have HT2 : Hid (At ((w1.drewN (nq + 1)).setCell ⟨qV, i * 3 + 1, none⟩ (.int .i64 (z : Int))) T 0 [.int .i64 kind, .int .i64 0, .string ByteArray.empty]) := (HTX.out.drewN (nq + 1)).other qV _ _ (.inl (Ne.symm HTN.out))
  clear HF1
  obtain ⟨l2, hl2⟩ : ∃ l, flat (bump (t :: G)) cur = l := ⟨_, rfl⟩
  rw [hl2] at HF2 HFL HX
  clear hl2
  generalize (w1.drewN (nq + 1)).setCell ⟨qV, i * 3 + 1, none⟩ (.int .i64 (z : Int)) = w2 at HF2 HB2 HK2 HT2 ⊢
  clear h4 h8 h9 d0 d1 fd1
  obtain ⟨aVV, haVV⟩ : ∃ a, (some ⟨qV, 0, none⟩ : Option Addr) = a := ⟨_, rfl⟩
  rw [haVV] at HF2
  clear haVV
  have HV2 : Hid (∀ ob : Obj, ((World.drew w2).alloc ob).ownsRow (g + 1) 62 3 (.slice aVV m cVV) m (vcells l2)) := fun ob => by have h8 := HF2.out.vals; rw [HX.out.1] at h8; exact (own_drewN h8 1).alloc ob
  have k0 := HT2.out.cell 0 _ rfl
  have k1 := HT2.out.cell 1 _ rfl
  have k2 := HT2.out.cell 2 _ rfl
  have c8 := HF2.out.at0.cell 8 _ rfl
  obtain ⟨vV2, hvV2⟩ : ∃ v, Value.slice aVV m cVV = v := ⟨_, rfl⟩
  rw [hvV2] at HV2 HF2 c8
  have d8 : ∀ ob : Obj, (w2.alloc ob).cell? ⟨g, 0 + 8, none⟩ = some vV2 := fun ob => (HF2.out.alloc ob).at0.cell 8 _ rfl
  clear hvV2
  go_wp2_with fail
  go_region_law (first
    | (refine step_append_vl rfl (.tmp 53) (.tmp 55) rfl (g + 1) vV2 m l2 rfl (HV2.out _) _ 1 (⟨kind, 0, []⟩ : Vl) rfl (at_cellsW (vv_new kind) (At.ofAlloc _ #[Value.int .i64 kind, Value.int .i64 0, Value.string ByteArray.empty] 62)) (by have := HX.out.2; omega) (by have := HF2.out.lt; simp; omega) ?_; intro v5 w5 hown5 hgrow5; obtain ⟨a5, c5', hv5, -⟩ := own_form hown5; subst hv5; have hJ := (HF2.out.drewN 1).alloc (box kind); have hAt5 := At.grown hJ.at0 hgrow5 hJ.lt (fun e => by have := ((HV2.out (box kind)).lt g e).1; omega); have hf85 := hAt5.froz 8 (by show 8 < 10; decide); have hc85 := hAt5.cell 8 _ rfl; have HW5 := Lib.hid hown5; have HGR := Lib.hid hgrow5; have HJ := Lib.hid hJ; clear hAt5 hgrow5 hown5 hJ))
  all_goals
    go_wp2_with fail
    first | go_end0 | refine bodyPost_ret (results_none rfl _ _ _) rfl ?_
    have h9 := HJ.out.growV (l' := l2 ++ [(⟨kind, 0, []⟩ : Vl)]) HGR.out (by rw [List.length_append, HX.out.1]; exact HW5.out)
    rw [← HFL.out.1] at h9
    have h99 := h9.at0.cell 9 _ rfl
    rw [Nat.zero_add] at h99
    refine ⟨rfl, ⟨_, _, h9⟩, ?_, ?_, h99.trans HC9.out.symm⟩
    · exact (((HB2.out.trans (below_drewN g _ 1)).alloc (Nat.le_of_lt HF2.out.lt) (box kind)).grown (row := vV2.ownBlock) HGR.out (by have := HF2.out.lt; simp; omega) (fun q hq => by have := ((HV2.out (box kind)).lt q hq).1; omega)).setCell (p := ⟨g, 8, none⟩) (Nat.le_refl g) _
    · exact (((HK2.out.trans (Kq.drewN g _ 1)).trans (Kq.alloc g _ (box kind))).trans (Kq.grown (row := vV2.ownBlock) HGR.out (fun q hq => by obtain ⟨cur, hc⟩ := row_ty (HV2.out (box kind)) hq; exact .inr (fun hn => hn _ hc)))).trans (Kq.setG g _ 8 _)
theorem dadd_yes (h : JdB w g s L ro nx cur G p B) (kind : Int) (hi : (flat G cur).length < L.items) (hL : L.items ≤ 4096) (hl : G.length ≤ 1000) (hk : ∀ f ∈ G, f.n ≤ 1000000) :
    Calls Try.prog 66 #[.pointer (some ⟨g, 0, none⟩), .agg #[.int .i64 kind, .int .i64 0, .string ByteArray.empty]] w (RAdd kind nx cur G p g s L ro B w) := by
  cases G with
  | nil => exact dadd_nil w g s L ro nx cur p B h kind hi hL
  | cons t G => exact dadd_cons w g s L ro nx cur G p B t h kind hi hL hl (hk t (by simp))
end
end Jd
end Go.Proofs.Ytilfidcomeandaa
