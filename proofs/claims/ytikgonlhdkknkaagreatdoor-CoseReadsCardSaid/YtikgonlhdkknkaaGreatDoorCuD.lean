import Derived.Test.YtikgonlhdkknkaaGreatDoorCuA
import Derived.Maps.OwnSet
import Derived.Maps.OwnOps
import Derived.DeepKeys4
import Derived.Test.YtikgonlhdkknkaaGreatDoorCuV
import Derived.Test.YtikgonlhdkknkaaGreatDoorCuJ
set_option maxRecDepth 100000
set_option maxHeartbeats 1600000
set_option linter.unusedVariables false
set_option linter.unusedSimpArgs false
open Go.Lib (hid)
namespace Go.Proofs.YtikgonlhdkknkaaGreatDoor
open Go.RowKit
namespace Ce
open Co (Am)
theorem laidOut0 : laidOutB Tryz.prog = true := by kernel_rfl
theorem rowLb : 82 < Tryz.prog.types.size := of_decide_eq_true (by kernel_rfl)
theorem sizeT : ∃ m, Tryz.prog.types.size = m + 2 := ⟨Tryz.prog.types.size - 2, by have : 2 ≤ Tryz.prog.types.size := of_decide_eq_true (by kernel_rfl); omega⟩
theorem keyLb : Tryz.prog.keyTypeAt 3 82 = true := by kernel_rfl
theorem wideLb : (match Tryz.prog.underlying 82 with | some (.array _ _) | some (.struct _) => true | _ => false) = true := by kernel_rfl
theorem lawLb : Go.Maps.Keyed Tryz.prog 82 := Go.Maps.Keyed.of_law (deep_law_laid laidOut0 (m := 3) (by omega) rowLb keyLb wideLb)
theorem zeroI0 (w : World) : (zeroValue 3).run Tryz.prog w = .ok (.int .i64 0) w := by kernel_rfl
def okL (x : Am) : Prop := x.kind ≤ 1000 ∧ x.num < 18446744073709551616 ∧ x.text.length ≤ 140737488351232
def lkLit (x : Am) : Lit := .string (keyBytes [.int .i64 (x.kind : Int), .int .u64 (x.num : Int), .string x.text])
def lbV (x : Am) : Value := .agg #[.int .i64 (x.kind : Int), .int .u64 (x.num : Int), .string ⟨x.text.toArray⟩]
theorem keyType_lb : Tryz.prog.keyType 82 = true := by kernel_rfl
theorem keyOf_lb (x : Am) (h : okL x) : keyOf Tryz.prog 82 (lbV x) = some (lkLit x) := by
 rw [keyOf, Tryz.underlying82]
 simp only
 rw [keyType_lb]
 obtain ⟨m, hm⟩ := sizeT
 rw [hm]
 obtain ⟨h1, h2, h3⟩ := h
 have e1 : (Lit.int .i64 (x.kind : Int)).wf = true := by simp [Lit.wf, IntKind.min, IntKind.max, IntKind.signed, IntKind.bits]; omega
 have e2 : (Lit.int .u64 (x.num : Int)).wf = true := by simp [Lit.wf, IntKind.min, IntKind.max, IntKind.signed, IntKind.bits]; omega
 have e3 : (⟨x.text.toArray⟩ : ByteArray).size ≤ maxLen := by rw [← tl_size, tl_mk]; unfold maxLen; omega
 have c0 : Value.formed Tryz.prog 82 (lbV x) = true := by
  show (match Tryz.prog.underlying 82 with | some (.struct _) | some (.array _ _) => (3 : Nat) == Tryz.prog.cellsOf 82 | _ => false) = true
  kernel_rfl
 have c1 : Tryz.prog.cellsOf 82 = 3 := by kernel_rfl
 have c2 : Tryz.prog.cellsOf 3 = 1 := by kernel_rfl
 have c3 : Tryz.prog.cellsOf 58 = 1 := by kernel_rfl
 have c4 : Tryz.prog.cellsOf 9 = 1 := by kernel_rfl
 have k0 : Tryz.prog.keyLits (m + 2) 3 [.int .i64 (x.kind : Int)] = some [.int .i64 (x.kind : Int)] := by
  unfold Program.keyLits; rw [Tryz.underlying3]; simp [e1]
 have k1 : Tryz.prog.keyLits (m + 2) 58 [.int .u64 (x.num : Int)] = some [.int .u64 (x.num : Int)] := by
  unfold Program.keyLits; rw [Tryz.underlying58]; simp [e2]
 have k2 : Tryz.prog.keyLits (m + 2) 9 [.string ⟨x.text.toArray⟩] = some [.string x.text] := by
  unfold Program.keyLits; rw [Tryz.underlying9]; simp [e3]
 rw [c0]
 have k3 : Tryz.prog.keyLits (m + 2 + 1) 82 [.int .i64 (x.kind : Int), .int .u64 (x.num : Int), .string ⟨x.text.toArray⟩] = some [.int .i64 (x.kind : Int), .int .u64 (x.num : Int), .string x.text] := by
  unfold Program.keyLits; rw [Tryz.underlying82]
  simp [c1, c2, c3, c4, k0, k1, k2]
 show (if (true && true) = true then Option.map (fun ls => Lit.string (keyBytes ls)) (Tryz.prog.keyLits (m + 2 + 1) 82 [.int .i64 (x.kind : Int), .int .u64 (x.num : Int), .string ⟨x.text.toArray⟩]) else none) = _
 rw [k3]
 rfl
theorem lkLit_inj {x y : Am} (hx : okL x) (hy : okL y) (h : lkLit x = lkLit y) : x = y := by
 have h1 := keyOf_lb x hx
 rw [h] at h1
 have h2 := lawLb.inj h1 (keyOf_lb y hy)
 rw [lbV, lbV] at h2
 injection h2 with h2
 have h3 := congrArg Array.toList h2
 simp only [List.cons.injEq] at h3
 obtain ⟨a, b, c, _⟩ := h3
 injection a with _ a
 injection b with _ b
 injection c with c
 have c' : x.text = y.text := by
  have := congrArg ByteArray.toList c
  rwa [tl_mk, tl_mk] at this
 cases x; cases y
 simp only at a b c'
 obtain rfl := Int.ofNat.inj a
 obtain rfl := Int.ofNat.inj b
 rw [c']
def Lbm (w : World) (b : Nat) (xs : List Am) : Prop :=
 (∀ x ∈ xs, okL x) ∧ ∃ D : DataW Unit, w.ownsMap Tryz.prog 82 (plainElem Tryz.prog 3) b xs.length D ∧ ∀ x, okL x → ∃ c : Int, D.atKey (lkLit x) (.lit (.int .i64 0)) = .lit (.int .i64 c) ∧ (0 < c ↔ x ∈ xs)
theorem Lbm.made (w : World) : Lbm (w.alloc (.map #[] 0)) w.heap.size [] := ⟨fun x hx => (List.not_mem_nil hx).elim, _, World.ownsMap_made _ _ _ _, fun x _ => ⟨0, rfl, by simp⟩⟩
theorem Lbm.lt {w : World} {b : Nat} {xs : List Am} (h : Lbm w b xs) : b < w.heap.size := by
 obtain ⟨_, D, h, -⟩ := h
 exact h.lt
theorem Lbm.same {w w' : World} {b : Nat} {xs : List Am} (h : Lbm w b xs) (hs : w'.heap[b]? = w.heap[b]?) : Lbm w' b xs := by
 obtain ⟨h0, D, ⟨es, clock, h1, h3⟩, h2⟩ := h
 exact ⟨h0, D, ⟨es, clock, hs.trans h1, h3⟩, h2⟩
section
variable {w : World} {ops : Array Oper} {o : Oper} {a : Act} {rest : List Oper} {Q : Exit → Act → World → Prop}
theorem wpList_label_get (hg : o.guard = none) (m x : Operand) (hop : o.op = Op.lookup 80 m x false) (b : Nat) (xs : List Am) (hm : a.eval m = .map (some b)) (hown : Lbm w b xs) (y : Am) (hy : okL y) (hx : a.eval x = lbV y)
  (hK : ∀ c : Int, (0 < c ↔ y ∈ xs) → wpList Tryz.prog ops Q rest (a.put o.dst (.int .i64 c)) w) : wpList Tryz.prog ops Q (o :: rest) a w := by
 obtain ⟨h0, D, h, h2⟩ := hown
 obtain ⟨c', hc', hi⟩ := h2 y hy
 refine wpList_lookup_own_int w hg m x 80 hop 82 3 .i64 lawLb Tryz.underlying80 Tryz.underlying3 (zeroI0 _) b _ D hm h _ _ hx (keyOf_lb y hy) ?_
 intro c hc _
 rw [hc'] at hc
 injection hc with hc
 injection hc with _ hc
 subst hc
 exact hK _ hi
theorem wpList_label_put (hg : o.guard = none) (m x v : Operand) (hop : o.op = Op.mapUpdate 80 m x v) (b : Nat) (xs : List Am) (hm : a.eval m = .map (some b)) (hown : Lbm w b xs) (hn : xs.length ≤ 1000000) (y : Am) (hy : okL y) (hx : a.eval x = lbV y) (z : Nat) (hv : a.eval v = .int .i64 (z : Int)) (hz : z ≤ 1000000) (hz0 : 0 < z)
  (hK : ∀ w', Lbm w' b (xs ++ [y]) → w.grownBy w' (some b) → wpList Tryz.prog ops Q rest (a.put o.dst undef) w') : wpList Tryz.prog ops Q (o :: rest) a w := by
 obtain ⟨h0, D, h, h2⟩ := hown
 refine wpList_mapUpdate_own w hg m x v 80 hop 82 3 lawLb Tryz.underlying80 (plainElem Tryz.prog 3) b _ D hm h (by unfold maxLen; omega) _ _ _ hx hv (keyOf_lb y hy) _ [] (plainElem_int Tryz.underlying3 (WalkArith.wf_i64 (by omega))) ?_
 intro w' h3 h4
 refine hK w' ⟨fun u hu => ?_, D.put (lkLit y) (.lit (.int .i64 (z : Int))), by rw [lap]; exact h3, fun u hu => ?_⟩ h4
 ·rcases List.mem_append.1 hu with hu | hu
  ·exact h0 u hu
  ·rw [List.mem_singleton] at hu; subst hu; exact hy
 ·by_cases he : u = y
  ·subst he
   rw [Go.Maps.atKey_put_same h.isMap (k := lkLit u) trivial]
   exact ⟨_, rfl, by simp; omega⟩
  ·rw [Go.Maps.atKey_put_other (fun e => he (lkLit_inj hu hy e))]
   obtain ⟨c, hc, hi⟩ := h2 u hu
   exact ⟨c, hc, by rw [hi, List.mem_append, List.mem_singleton]; simp [he]⟩
end
end Ce
end Go.Proofs.YtikgonlhdkknkaaGreatDoor
namespace Go.Proofs.YtikgonlhdkknkaaGreatDoor
open Go.RowKit
namespace Ce
open Co (Am Ra up rcells rv okA)
def Hdm (n : Nat → Prop) (w : World) (v : Value) (m : List Am) : Prop := (m = [] ∧ v = .slice none 0 0) ∨ (WX n w v m ∧ (∃ D B, Part D m B) ∧ (m.headD a0).kind = 5 ∧ m.length ≤ 4096 ∧ ∀ a ∈ m, okL a)
theorem Hdm.bg {n : Nat} {w w' : World} {v : Value} {m : List Am} (h : Hdm (fun k => k = n) w v m) (hb : Bg n w w') : Hdm (fun k => k = n) w' v m := by
 rcases h with h | ⟨h1, h2⟩
 ·exact .inl h
 ·exact .inr ⟨h1.bg hb, h2⟩
theorem Hdm.up {n : Nat} {w w' : World} {v : Value} {m : List Am} (h : Hdm (fun k => k = n) w v m) (hb : Below w.heap.size w w') : Hdm (fun k => k = n ∨ w.heap.size ≤ k) w' v m := by
 rcases h with h | ⟨h1, h2⟩
 ·exact .inl h
 ·refine .inr ⟨?_, h2⟩
  obtain ⟨g, o, cap, q1, q2, q3, q4, q5, q6⟩ := h1
  exact ⟨g, o, cap, q1, q2, q3, q4.below hb q5, nlt q5 hb.size, fun h => by
   rcases h with h | h
   ·exact q6 h
   ·omega⟩
theorem At.back {B k o : Nat} {w w' : World} {cs : List Value} (h : At w' k o cs) (hb : Below B w w') (hk : k < B) : At w k o cs := fun j v hv => by
 have h1 := h j v hv
 have h2 := hb.block k hk
 rw [World.cell?, World.frozen?] at h1 ⊢
 simp only at h1 ⊢
 rw [← h2]
 exact h1
theorem Prm.back {g : Nat} {w w' : World} {L ps} (h : Prm (fun k => k = g ∨ w.heap.size ≤ k) w' L ps) (hb : Below w.heap.size w w') : Prm (fun k => k = g) w L ps := by
 induction h with
 | nil => exact .nil
 | cons h h0 _ ih =>
  obtain ⟨k, o, cap, q1, q2, q3, q4, q5, q6⟩ := h
  have hlt : k < w.heap.size := Nat.lt_of_not_le fun h => q6 (.inr h)
  exact .cons ⟨k, o, cap, q1, q2, q3, At.back q4 hb hlt, hlt, fun h => q6 (.inl h)⟩ h0 ih
section
variable {w : World}
theorem wpList_append_prs {ops : Array Oper} {rest : List Oper} {o : Oper} {a : Act} {Q : Exit → Act → World → Prop} (hgd : o.guard = none) (s x : Operand)
  (ho : o.op = .call { callee := .builtin .append, args := #[s, x], argTypes := #[47, 47] })
  (base : Nat) (v : Value) (n : Nat) (l : List (Am × Value)) (hs : a.eval s = v) (hown : w.ownsRow base 84 4 v n (pcells l))
  (g m c : Nat) (L2 : List (Am × Value)) (hx : a.eval x = .slice (some ⟨g, 0, none⟩) m c) (hcells : At w g 0 (pcells L2)) (hm : L2.length = m) (h1 : ∀ u ∈ pcells L2, u.oneCell' = true) (hn : n + m ≤ 1000000) (hbase : base ≤ w.heap.size)
  (h : ∀ v' w', w'.ownsRow base 84 4 v' (n + m) (pcells (l ++ L2)) → w.grownBy w' v.ownBlock → wpList Tryz.prog ops Q rest (a.put o.dst v') w') : wpList Tryz.prog ops Q (o :: rest) a w := by
 obtain ⟨i, hi, hq⟩ := Option.map_eq_some_iff.1 infoPr
 simp only [Prod.mk.injEq] at hq
 obtain ⟨hz0, hz1, hz2⟩ := hq
 refine wpList_append_own w hgd s x 47 ho base 84 i _ 4 56 Tryz.underlying47 hi hz0 hz1 hz2 rfl (by decide) v n (pcells l) hs hown ⟨g, 0, none⟩ m c (pcells L2) hx (by rw [pcells_length, hm]) (Co.at_cells rfl hcells) h1 (by unfold maxLen; omega) (by omega) hbase ?_
 intro v' w' h1 h2 _
 rw [← pcells_append] at h1
 exact h v' w' h1 h2
end
theorem prs_eq {m : List Am} {D B} (h : Part D m B) (hk : (m.headD a0).kind = 5) : ∃ Ps Bs, Fo D Ps Bs ∧ m = m.headD a0 :: Ps.flatten ∧ (∃ k, Ps.length = 2 * k) ∧ prs m = twos (heads Ps) := by
 have h0 := head_cons h.ne
 rw [h0] at h
 obtain ⟨Ps, Bs, h1, h2, h3, h4⟩ := h.openB (by rw [hk]; rfl)
 refine ⟨Ps, Bs, h1, by rw [← h2]; exact h0, ⟨(m.headD a0).num, by rw [h3, Co.need, if_neg (by omega), if_pos hk]⟩, ?_⟩
 rw [prs, hld_node (by rw [hk]; rfl), ← h3, h2]
 have h9 := (h1.fits []).2.2
 rw [List.append_nil] at h9
 rw [h9]
theorem twos_length : ∀ (l : List Am), (twos l).length ≤ l.length
 | [] => nle _
 | [a] => by simp [twos]
 | a :: b :: r => by have := twos_length r; simp only [twos, lco]; omega
theorem twos_mem : ∀ (l : List Am) (p : Am × Am), p ∈ twos l → p.1 ∈ l ∧ p.2 ∈ l
 | [], p, h => by cases h
 | [a], p, h => by cases h
 | a :: b :: r, p, h => by
  simp only [twos] at h
  rcases List.mem_cons.1 h with rfl | h
  ·exact ⟨List.mem_cons_self .., List.mem_cons_of_mem _ (List.mem_cons_self ..)⟩
  ·have := twos_mem r p h
   exact ⟨List.mem_cons_of_mem _ (List.mem_cons_of_mem _ this.1), List.mem_cons_of_mem _ (List.mem_cons_of_mem _ this.2)⟩
theorem Fo.len_le {D Ps Bs} (h : Fo D Ps Bs) : Ps.length ≤ Ps.flatten.length := by
 have := (h.fits []).1.le
 rw [List.append_nil] at this
 exact this.1
theorem Fo.heads_mem {D Ps Bs} (h : Fo D Ps Bs) : ∀ a ∈ heads Ps, a ∈ Ps.flatten := by
 induction h with
 | nil => intro a ha; cases ha
 | @cons P B Ps Bs hP h ih =>
  intro a ha
  rw [List.flatten_cons]
  rcases List.mem_cons.1 ha with rfl | ha
  ·rw [head_cons hP.ne]; exact List.mem_append_left _ (List.mem_cons_self ..)
  ·exact List.mem_append_right _ (ih a ha)
theorem Hdm.prs_ok {n : Nat → Prop} {w : World} {v : Value} {m : List Am} (h : Hdm n w v m) : (prs m).length ≤ 4096 ∧ ∀ p ∈ prs m, okL p.1 := by
 rcases h with ⟨rfl, _⟩ | ⟨_, ⟨D, B, hP⟩, hk, hl, ho⟩
 ·exact ⟨by decide, fun p hp => by cases hp⟩
 ·obtain ⟨Ps, Bs, h1, h2, _, h4⟩ := prs_eq hP hk
  rw [h4]
  have h5 := twos_length (heads Ps)
  have h6 : (heads Ps).length = Ps.length := by rw [heads, List.length_map]
  have h7 := h1.len_le
  have h8 : m.length = Ps.flatten.length + 1 := (congrArg List.length h2).trans (by simp)
  refine ⟨by omega, fun p hp => ho _ ?_⟩
  rw [h2]
  exact List.mem_cons_of_mem _ (h1.heads_mem _ (twos_mem _ p hp).1)
theorem pairs_hd (n : Nat → Prop) (v : Value) (m : List Am) (w : World) (h : Hdm n w v m) : Calls Tryz.prog 34 #[v] w (RetPrs n (allLab (prs m)) (prs m) w) := by
 rcases h with ⟨rfl, rfl⟩ | ⟨⟨g, o, cap, rfl, h2, h3, h4, h5, h6⟩, ⟨D, B, hP⟩, hk, hl, ho⟩
 ·exact pairs_nil n w
 ·obtain ⟨Ps, Bs, q1, q2, q3, q4⟩ := prs_eq hP hk
  rw [q4]
  exact pairs_any n m _ D Ps Bs g o cap w h4 h5 h2 h3 hl q2 q1 q3 h6
theorem clabels_any (g : Nat) (w : World) (F A : Int) (vT : Value) (h lo aa iv ci tg : ByteArray) (d i0 b0 r : Int) (vp vl vs : Value) (pm lm : List Am)
  (hM : Mm g w F A vT h lo aa iv ci tg d i0 b0 r vp vl vs) (hg : g < w.heap.size) (hp : Hdm (fun k => k = g) w vp pm) (hl : Hdm (fun k => k = g) w vl lm) :
  Calls Tryz.prog 16 #[.pointer (some ⟨g, 0, none⟩)] w (fun e w' => e = .returned (.int .i64 (labE (prs pm) (prs lm))) ∧ Bg g w w' ∧ (labE (prs pm) (prs lm) = 0 → ∃ vs', Mm g w' F A vT h lo aa iv ci tg d i0 b0 r vp vl vs' ∧ Px g w' vs' (prs pm ++ prs lm))) := by
 have HM := hid hM
 have HG := hid hg
 obtain ⟨E, hE⟩ : ∃ E, labE (prs pm) (prs lm) = E := ⟨_, rfl⟩
 rw [hE]
 have HE := hid hE
 have HOP := hid hp.prs_ok
 have HOL := hid hl.prs_ok
 have HLM := hid hl
 obtain ⟨P, hP⟩ : ∃ P, prs pm = P := ⟨_, rfl⟩
 obtain ⟨Q, hQ⟩ : ∃ P, prs lm = P := ⟨_, rfl⟩
 have P1 := hid (pairs_hd (fun k => k = g) vp pm w hp)
 have P2 := hid (fun w' h' => pairs_hd (fun k => k = g ∨ w.heap.size ≤ k) vl lm w' h')
 rw [hP] at P1 HE HOP
 rw [hQ] at P2 HE HOL
 rw [hP, hQ]
 have m13 := hM.z 13 _ rfl
 clear hP hQ hp hl hE hM hg
 go_enter Tryz.func16, Tryz.ntmps16
 go_wp2_with fail
 refine P1.out.mono ?_
 rintro e w1 ⟨hy, hn, hb1⟩
 have HM1 := hid (HM.out.below hb1 HG.out)
 have HB1 : Hid (Bg g w w1) := Bg.of hb1
 have HG1 : Hid (g < w1.heap.size) := nlt HG.out hb1.size
 have m14 := HM1.out.z 14 _ rfl
 have HP2 := hid (P2.out w1 (HLM.out.up hb1))
 have HE2 := HE.out
 rw [labE] at HE2
 cases hA : allLab P with
 | false =>
  rw [show (P.all fun p => isLab p.1) = false from hA, if_pos (.inl rfl)] at HE2
  rw [hn hA]
  have HE3 := hid HE2
  clear hy hn hb1 HE2 hA
  go_wp2_with fail
  refine HP2.out.mono ?_
  rintro e w2 ⟨hy2, hn2, hb2⟩
  have HB2 : Hid (Bg g w w2) := HB1.out.trans (Bg.of hb2)
  cases hB : allLab Q with
  | false =>
   rw [hn2 hB]
   clear hy2 hn2 hb2 hB
   go_wp2_with fail
   go_ret
   exact ⟨by rw [← HE3.out]; rfl, HB2.out, fun h => by rw [← HE3.out] at h; cases h⟩
  | true =>
   obtain ⟨v2, L2, he2, -, -⟩ := hy2 hB
   rw [he2]
   clear hy2 hn2 hb2 hB
   go_wp2_with fail
   go_ret
   exact ⟨by rw [← HE3.out]; rfl, HB2.out, fun h => by rw [← HE3.out] at h; cases h⟩
 | true =>
 obtain ⟨v1, L1, he1, ho1, hL1⟩ := hy hA
 rw [he1]
 have HO1 := hid ho1
 have HL1 := hid hL1
 have HA := hid hA
 have HBL1 := hid hb1
 clear hy hn hb1 hA ho1 hL1
 go_wp2_with fail
 refine HP2.out.mono ?_
 rintro e w2 ⟨hy2, hn2, hb2⟩
 have HB2 : Hid (Bg g w w2) := HB1.out.trans (Bg.of hb2)
 have HBL2 : Hid (Below w.heap.size w w2) := HBL1.out.trans (hb2.mono HBL1.out.size)
 cases hB : allLab Q with
 | false =>
  rw [hn2 hB]
  rw [show (P.all fun p => isLab p.1) = true from HA.out, show (Q.all fun p => isLab p.1) = false from hB, if_pos (.inr rfl)] at HE2
  have HE3 := hid HE2
  clear hy2 hn2 hb2 hB HE2
  go_wp2_with fail
  go_ret
  exact ⟨by rw [← HE3.out]; rfl, HB2.out, fun h => by rw [← HE3.out] at h; cases h⟩
 | true =>
 obtain ⟨v2, L2, he2, ho2, hL2⟩ := hy2 hB
 rw [he2]
 rw [show (P.all fun p => isLab p.1) = true from HA.out, show (Q.all fun p => isLab p.1) = true from hB, if_neg (by simp)] at HE2
 have HE3 := hid HE2
 have HO2 := hid ho2
 have HL2 := hid hL2
 have HL12 : Hid (Prm (fun k => k = g) w2 L1 P) := HL1.out.low HBL2.out
 have HLA : Hid (Prm (fun k => k = g) w (L1 ++ L2) (P ++ Q)) := HL1.out.append (HL2.out.back HBL1.out)
 have HO12 : Hid (w2.ownsRow w.heap.size 84 4 v1 P.length (pcells L1)) := own_below HO1.out hb2 (nle _)
 have HM2 := hid (HM1.out.below hb2 HG1.out)
 have HG2 : Hid (g < w2.heap.size) := nlt HG1.out hb2.size
 have HSZ : Hid (w.heap.size ≤ w1.heap.size ∧ w1.heap.size ≤ w2.heap.size) := ⟨HB1.out.size, hb2.size⟩
 obtain ⟨n1, hn1⟩ : ∃ n, P.length = n := ⟨_, rfl⟩
 obtain ⟨n3, hn3⟩ : ∃ n, Q.length = n := ⟨_, rfl⟩
 rw [hn1] at HO12
 rw [hn3] at HO2
 have HN := hid (aIn hn1 hn3)
 obtain ⟨a1, c1, rfl, ha1⟩ := own_form HO12.out
 obtain ⟨a2, c2, rfl, ha2⟩ := own_form HO2.out
 have HA1 := hid ha1
 have HA2 := hid ha2
 have hb9 : n1 ≤ 4096 := by rw [← hn1]; exact HOP.out.1
 have hb8 : n3 ≤ 4096 := by rw [← hn3]; exact HOL.out.1
 have HBN := hid (aIn hb9 hb8)
 have HC1 : Hid (n1 ≤ c1 ∧ c1 ≤ maxLen) := by
  rcases HO12.out.2 with ⟨h, rfl⟩ | ⟨q, cap, cur, h, _, _, h3, h4, _⟩
  ·cases h; exact ⟨nle _, by unfold maxLen; omega⟩
  ·cases h; exact ⟨h3, h4⟩
 have HONE : Hid (∀ u ∈ pcells L2, u.oneCell' = true) := HL2.out.one
 have HLL : Hid (L2.length = n3) := by show _ = _; rw [HL2.out.length, hn3]
 clear hy2 hn2 hb2 hB HE2 ho2 hL2 he1 he2 hn1 hn3 ha1 ha2 hb9 hb8 HO1 HL1 m13 m14
 have HK0 := hid (Lbm.made w2)
 obtain ⟨b, hb⟩ : ∃ b, w2.heap.size = b := ⟨_, rfl⟩
 have HKB := hid hb
 rw [hb] at HK0 HG2 HSZ
 have HBK : Hid (Below b w2 (w2.alloc (.map #[] 0))) := (Below.refl b w2).alloc (Nat.le_of_eq hb.symm) _
 have hmk := @run_makeMap Tryz.prog
 go_wp2_with fail
 try rw [hb]
 clear hb hmk
 obtain ⟨wm, hwm⟩ : ∃ x, w2.alloc (.map #[] 0) = x := ⟨_, rfl⟩
 rw [hwm] at HK0 HBK
 rw [hwm]
 clear hwm
 go_loopw [37] (fun vi wr => ∃ i : Nat, vi = .int .i64 (i : Int) ∧ i ≤ n1 ∧ Hid (Lbm wr b ((P.take i).map Prod.fst)) ∧ Hid (Below b w2 wr)) (fun vi _ => n1 - (intOf vi).toNat)
 case atStart => exact ⟨0, rfl, Nat.zero_le _, HK0.out, HBK.out⟩
 case round =>
  obtain ⟨i, rfl, hi, HK, HBR⟩ := hrel
  obtain ⟨wq, hwq⟩ : ∃ x, x = wr := ⟨_, rfl⟩
  subst hwq
  by_cases hin : i = n1
  ·subst hin
   have HKF : Hid (Lbm wq b (P.map Prod.fst)) := by have h := HK.out; rw [List.take_of_length_le (by rw [HN.out.1]; exact nle _)] at h; exact h
   have HZ : Hid (b < wq.heap.size) := HKF.out.lt
   clear hi HK0 HBK HK
   go_wp2_with fail
   go_loopw [50] (fun vi wr => ∃ j : Nat, vi = .int .i64 (j : Int) ∧ j ≤ n3 ∧ Hid (∀ p ∈ Q.take j, p.1 ∉ P.map Prod.fst) ∧ Hid (Below wq.heap.size wq wr)) (fun vi _ => n3 - (intOf vi).toNat)
   case atStart => exact ⟨0, rfl, Nat.zero_le _, (by intro p hp; simp at hp), Below.refl _ _⟩
   case round =>
    obtain ⟨j, rfl, hj, HNQ, HBJ⟩ := hrel
    obtain ⟨wj, hwj⟩ : ∃ x, x = wr := ⟨_, rfl⟩
    subst hwj
    have HBJ2 : Hid (Below b w2 wj) := HBR.out.trans (HBJ.out.mono (Nat.le_of_lt HZ.out))
    have HMJ : Hid (Mm g wj F A vT h lo aa iv ci tg d i0 b0 r vp vl vs) := HM2.out.below HBJ2.out HG2.out
    by_cases hjn : j = n3
    ·subst hjn
     have HNA : Hid (∀ p ∈ Q, p.1 ∉ P.map Prod.fst) := by have h := HNQ.out; rw [List.take_of_length_le (by rw [HN.out.2]; exact nle _)] at h; exact h
     have HE4 := HE3.out
     rw [if_neg (by
      rw [List.any_eq_true]
      rintro ⟨p, hp, hc⟩
      exact HNA.out p hp (by simpa using hc))] at HE4
     have HE5 := hid HE4
     have HBF : Hid (Below w.heap.size w wj) := HBL2.out.trans (HBJ2.out.mono (by have := HSZ.out; omega))
     have HO1J : Hid (wj.ownsRow w.heap.size 84 4 (.slice a1 i c1) i (pcells L1)) := own_below HO12.out HBJ2.out (Nat.le_of_eq HKB.out)
     have HO2J : Hid (wj.ownsRow w1.heap.size 84 4 (.slice a2 j c2) j (pcells L2)) := own_below HO2.out HBJ2.out (Nat.le_of_eq HKB.out)
     have STEP : ∀ (w5 : World) (v5 : Value), Below w.heap.size w w5 → w5.ownsRow w.heap.size 84 4 v5 (i + j) (pcells (L1 ++ L2)) →
       (Mm g (w5.setCell ⟨g, 15, none⟩ v5) F A vT h lo aa iv ci tg d i0 b0 r vp vl v5 ∧ Px g (w5.setCell ⟨g, 15, none⟩ v5) v5 (P ++ Q) ∧ Bg g w (w5.setCell ⟨g, 15, none⟩ v5) ∧ g < (w5.setCell ⟨g, 15, none⟩ v5).heap.size) ∧ (w5.frozen? ⟨g, 15, none⟩ = false ∧ w5.cell? ⟨g, 15, none⟩ = some vs) := fun w5 v5 hb ho => by
      have hM5 := HM.out.below hb HG.out
      have hg5 : Bg g w (w5.setCell ⟨g, 15, none⟩ v5) := (Bg.of hb).set 15 v5
      have z := hM5.zf 15 (by simp [mcells])
      have c := hM5.z 15 _ rfl
      have hlen : (P ++ Q).length = i + j := by rw [lap, HN.out.1, HN.out.2]
      have ho2 := ownsRow_setCell_below (a := ⟨g, 15, none⟩) ho HG.out v5
      refine ⟨⟨hM5.set 15 v5, ?_, hg5, nlt HG.out hg5.size⟩, z, c⟩
      obtain ⟨a9, c9, rfl, ha9⟩ := own_form ho2
      refine ⟨a9, c9, L1 ++ L2, by rw [hlen], HLA.out.bg hg5, fun hne => ?_⟩
      have hpos : 0 < i + j := by rw [← hlen]; exact List.length_pos_iff.2 hne
      obtain ⟨k9, rfl⟩ := ha9 hpos
      have hk9 := ho2.lt k9 rfl
      exact ⟨k9, rfl, by have := HG.out; omega, hk9.2, At.ofOwnN ho2⟩
     have STEPH := hid STEP
     have HNQ9 : Hid (i + j ≤ 1000000) := by have h1 := HBN.out; show i + j ≤ 1000000; omega
     clear hj HNQ STEP HE4
     go_upto_region 17 with fail
     go_cut [] from 60 to 65 (fun wx => ∃ v5, Hid (Mm g wx F A vT h lo aa iv ci tg d i0 b0 r vp vl v5) ∧ Hid (Px g wx v5 (P ++ Q)) ∧ Hid (Bg g w wx) ∧ Hid (g < wx.heap.size))
     case first =>
      rcases HO2J.out.2 with ⟨hv, hj0⟩ | ⟨g2, cap2, cur2, hv, -, -, -, -, -⟩
      ·cases hv
       have hL20 : L2 = [] := List.length_eq_zero_iff.1 HLL.out
       have HOF : Hid (wj.ownsRow w.heap.size 84 4 (.slice a1 i c1) (i + 0) (pcells (L1 ++ L2))) := by show World.ownsRow _ _ _ _ _ _ _; rw [hL20, List.append_nil, Nat.add_zero]; exact HO1J.out
       have hst := STEPH.out wj (.slice a1 i c1) HBF.out HOF.out
       have z := hst.2.1
       have c := hst.2.2
       have HST := hid hst.1
       have hcc := HC1.out.1
       clear hst hL20
       rcases HO1J.out.2 with ⟨hv1, hi0⟩ | ⟨g1, cap1, cur1, hv1, -, -, -, -, -⟩
       ·cases hv1
        go_wp2_with fail
        go_meet
        case rel => exact ⟨_, HST.out.1, HST.out.2.1, HST.out.2.2.1, HST.out.2.2.2⟩
       ·cases hv1
        go_wp2_with fail
        go_meet
        case rel => exact ⟨_, HST.out.1, HST.out.2.1, HST.out.2.2.1, HST.out.2.2.2⟩
      ·cases hv
       obtain ⟨v1, hv1⟩ : ∃ v, Value.slice a1 i c1 = v := ⟨_, rfl⟩
       rw [hv1] at HO1J ⊢
       have HV1 := hid hv1
       clear hv1
       have HA2J : Hid (At wj g2 0 (pcells L2)) := At.ofOwnN HO2J.out
       have HBASE : Hid (w.heap.size ≤ wj.heap.size) := HBF.out.size
       go_wp2_with (first | (at_builtin; refine wpList_append_prs rfl (.tmp 61) (.tmp 62) rfl w.heap.size v1 i L1 rfl HO1J.out g2 j _ L2 rfl HA2J.out HLL.out HONE.out HNQ9.out HBASE.out ?_; intro v5 w5 hown5 hgrow5; have hB5 : Below w.heap.size w w5 := HBF.out.grown hgrow5 HBASE.out (fun k hk => (HO1J.out.lt k hk).1); have hst := STEPH.out w5 v5 hB5 hown5; have z := hst.2.1; have c := hst.2.2; have HST := hid hst.1; obtain ⟨a5, c5, rfl, -⟩ := own_form hown5; clear hst hown5 hgrow5 hB5))
       have hv9 := HV1.out
       subst hv9
       go_meet
       case rel => exact ⟨_, HST.out.1, HST.out.2.1, HST.out.2.2.1, HST.out.2.2.2⟩
     case rest =>
      obtain ⟨v5, HM6, HP6, HB6, HG6⟩ := hcut
      obtain ⟨w6, hw6⟩ : ∃ x, x = wc := ⟨_, rfl⟩
      subst hw6
      have hlen : (P ++ Q).length ≤ 100000 := by have h1 := HBN.out; rw [lap, HN.out.1, HN.out.2]; omega
      have F1 := hid (cfind_any g g 2 v5 (P ++ Q) w6 (by have := HM6.out.cell 15 _ rfl; rwa [Nat.zero_add] at this) HP6.out hlen)
      have F2 := hid (fun (w' : World) h1 h2 => cfind_any g g 6 v5 (P ++ Q) w' h1 h2 hlen)
      have qN := neN
      have qS := neS
      clear hlen
      go_wp2_with fail
      refine F1.out.mono ?_
      rintro e w7 ⟨hf1, hf2, hb7⟩
      have HM7 := hid (HM6.out.below hb7 HG6.out)
      have HB7 : Hid (Bg g w w7) := HB6.out.trans (Bg.of hb7)
      have HP7 := hid (HP6.out.bg (Bg.of hb7))
      have HG7 : Hid (g < w7.heap.size) := nlt HG6.out hb7.size
      cases hq2 : find 2 (P ++ Q) with
      | some y =>
       obtain ⟨v9, P9, he9, ⟨g9, o9, cap9, rfl, -⟩, -⟩ := hf2 y hq2
       have HE6 : Hid (E = 11) := by show E = 11; rw [← HE5.out, if_pos (.inl (by rw [hq2]; rfl))]
       rw [he9]
       clear hf1 hf2 hb7 he9 hq2
       go_wp2_with fail
       go_ret
       exact ⟨by rw [HE6.out]; rfl, HB7.out, fun h => by rw [HE6.out] at h; cases h⟩
      | none =>
       have HQ2 := hid hq2
       rw [hf1 hq2]
       have F3 := hid (F2.out w7 (by have := HM7.out.cell 15 _ rfl; rwa [Nat.zero_add] at this) HP7.out)
       clear hf1 hf2 hb7 hq2
       go_wp2_with fail
       refine F3.out.mono ?_
       rintro e w8 ⟨hf1, hf2, hb8⟩
       have HM8 := hid (HM7.out.below hb8 HG7.out)
       have HB8 : Hid (Bg g w w8) := HB7.out.trans (Bg.of hb8)
       have HP8 := hid (HP7.out.bg (Bg.of hb8))
       cases hq6 : find 6 (P ++ Q) with
       | some y =>
        obtain ⟨v9, P9, he9, ⟨g9, o9, cap9, rfl, -⟩, -⟩ := hf2 y hq6
        have HE6 : Hid (E = 11) := by show E = 11; rw [← HE5.out, if_pos (.inr (by rw [hq6]; rfl))]
        rw [he9]
        clear hf1 hf2 hb8 he9 hq6
        go_wp2_with fail
        go_ret
        exact ⟨by rw [HE6.out]; rfl, HB8.out, fun h => by rw [HE6.out] at h; cases h⟩
       | none =>
        have HE6 : Hid (E = 0) := by show E = 0; rw [← HE5.out, if_neg (by rw [HQ2.out, hq6]; simp)]
        rw [hf1 hq6]
        clear hf1 hf2 hb8 hq6
        go_wp2_with fail
        go_ret
        exact ⟨by rw [HE6.out]; rfl, HB8.out, fun _ => ⟨v5, HM8.out, HP8.out⟩⟩
    ·have hlt : j < Q.length := by rw [HN.out.2]; omega
     obtain ⟨k, v, PP, hk1, hk2, hk3, hk4⟩ := HL2.out.get j (by rw [HL2.out.length]; exact hlt)
     obtain ⟨gr, rfl⟩ := HA2.out (by omega)
     have hgr := (HO2.out.lt gr rfl).2
     have hx := (pcell_at (At.ofOwnN HO2.out) j _ hk1).below HBJ2.out (by rw [← HKB.out]; exact hgr)
     rw [pcell] at hx
     simp only at hx
     obtain ⟨q1, q2, q3, hq⟩ : ∃ a n c, v = .slice a n c := hk3.isSl
     subst hq
     have n0 := hx.cell 0 _ rfl
     have n1' := hx.cell 1 _ rfl
     have n2 := hx.cell 2 _ rfl
     have n3' := hx.cell 3 _ rfl
     rw [Nat.add_zero] at n0
     have hpk : Q[j] = (k, PP.headD a0) := (List.getElem?_eq_some_iff.1 hk2).2
     have HOK : Hid (okL k) := HOL.out.2 (k, PP.headD a0) (by rw [← hpk]; exact List.getElem_mem _)
     have HKA : Hid (∀ ob, Lbm (wj.alloc ob) b (P.map Prod.fst)) := fun ob => (HKF.out.same (HBJ.out.block b HZ.out)).same (Below.heap_alloc wj _ _ (nlt HZ.out HBJ.out.size))
     have e1 : (j : Int) < (n3 : Int) := by omega
     have e2 : IntKind.i64.wrap ((j : Int) + 1) = ((j + 1 : Nat) : Int) := by have h1 := HBN.out.2; exact Co.wrap_fit (j + 1) (by unfold maxLen; omega)
     have HII : Hid (j + 1 ≤ n3) := by show j + 1 ≤ n3; omega
     have HBW : Hid (∀ ob, Bg g w (wj.alloc ob)) := fun ob => (HB2.out.trans (by
      have h9 := HBJ2.out
      rw [← HKB.out] at h9
      exact Bg.of h9)).alloc ob
     have HPK : Hid (Q.take (j + 1) = Q.take j ++ [(k, PP.headD a0)] ∧ (k, PP.headD a0) ∈ Q) := ⟨by rw [List.take_succ_eq_append_getElem hlt, hpk], by rw [← hpk]; exact List.getElem_mem _⟩
     clear hx hk1 hk2 hk3 hk4 hpk hlt hj hjn hgr
     by_cases hin : k ∈ P.map Prod.fst
     ·have HE4 := HE3.out
      rw [if_pos (by
       rw [List.any_eq_true]
       exact ⟨_, HPK.out.2, by simpa using hin⟩)] at HE4
      have HE5 := hid HE4
      have HIN := hid hin
      clear hin HE4
      go_wp2_with (first | (at_lookup; refine wpList_label_get rfl _ _ rfl b _ rfl (HKA.out _) k HOK.out rfl ?_; intro c hc; have hc0 : 0 < c := hc.2 HIN.out; clear hc))
      go_ret
      exact ⟨by rw [← HE5.out]; rfl, HBW.out _, fun h => by rw [← HE5.out] at h; cases h⟩
     ·have HIN := hid hin
      clear hin
      go_wp2_with (first | (at_lookup; refine wpList_label_get rfl _ _ rfl b _ rfl (HKA.out _) k HOK.out rfl ?_; intro c hc; have hc0 : ¬ 0 < c := (fun h => HIN.out (hc.1 h)); clear hc))
      go_roundw
      case rel => exact ⟨j + 1, by go_num, HII.out, (by
       intro p hp
       rw [HPK.out.1] at hp
       rcases List.mem_append.1 hp with hp | hp
       ·exact HNQ.out p hp
       ·rw [List.mem_singleton] at hp; subst hp; exact HIN.out), HBJ.out.alloc HBJ.out.size _⟩
      case measure => have := HII.out; simp [intOf]; omega
  ·have hlt : i < P.length := by rw [HN.out.1]; omega
   obtain ⟨k, v, PP, hk1, hk2, hk3, hk4⟩ := HL12.out.get i (by rw [HL12.out.length]; exact hlt)
   obtain ⟨gr, rfl⟩ := HA1.out (by omega)
   have hgr := (HO12.out.lt gr rfl).2
   have hx := (pcell_at (At.ofOwnN HO12.out) i _ hk1).below HBR.out (by rw [← HKB.out]; exact hgr)
   rw [pcell] at hx
   simp only at hx
   obtain ⟨q1, q2, q3, hq⟩ : ∃ a n c, v = .slice a n c := hk3.isSl
   subst hq
   have n0 := hx.cell 0 _ rfl
   have n1' := hx.cell 1 _ rfl
   have n2 := hx.cell 2 _ rfl
   have n3' := hx.cell 3 _ rfl
   rw [Nat.add_zero] at n0
   have hpk : P[i] = (k, PP.headD a0) := (List.getElem?_eq_some_iff.1 hk2).2
   have HOK : Hid (okL k) := HOP.out.2 (k, PP.headD a0) (by rw [← hpk]; exact List.getElem_mem _)
   have HTK : Hid ((P.take i).map Prod.fst ++ [k] = (P.take (i + 1)).map Prod.fst ∧ ((P.take i).map Prod.fst).length = i) := by
    refine ⟨?_, by rw [List.length_map, List.length_take, Nat.min_eq_left (Nat.le_of_lt hlt)]⟩
    rw [List.take_succ_eq_append_getElem hlt, List.map_append, hpk]; rfl
   have hKA : ∀ ob, Lbm (wq.alloc ob) b ((P.take i).map Prod.fst) := fun ob => HK.out.same (Below.heap_alloc wq _ _ HK.out.lt)
   have HKA := hid hKA
   have HBA : Hid (∀ ob, Below b w2 (wq.alloc ob)) := fun ob => HBR.out.alloc (by have h9 := HBR.out.size; rw [HKB.out] at h9; exact h9) ob
   have e1 : (i : Int) < (n1 : Int) := by omega
   have e2 : IntKind.i64.wrap ((i : Int) + 1) = ((i + 1 : Nat) : Int) := by have h1 := HBN.out.1; exact Co.wrap_fit (i + 1) (by unfold maxLen; omega)
   have HII : Hid (i + 1 ≤ n1) := by show i + 1 ≤ n1; omega
   have HIN : Hid (((P.take i).map Prod.fst).length ≤ 1000000 ∧ i + 1 ≤ 1000000) := by have h1 := HBN.out.1; exact ⟨by rw [HTK.out.2]; omega, by omega⟩
   have hz9 : 0 < i + 1 := Nat.succ_pos _
   clear hx hk1 hk2 hk3 hk4 hpk hlt hi hin hgr hKA HK0 HBK
   go_wp2_with (first | (at_mapUpdate; refine wpList_label_put rfl _ _ _ rfl b _ rfl (HKA.out _) HIN.out.1 k HOK.out rfl (i + 1) rfl HIN.out.2 hz9 ?_; intro w3 hK3 hg3))
   have HB3 : Hid (Below b w2 w3) := (HBA.out _).grown hg3 (by have h9 := (HBA.out (Obj.map #[] 0)).size; rw [HKB.out] at h9; simp at h9 ⊢; omega) (fun k hk => by cases hk; exact nle _)
   have HK3 : Hid (Lbm w3 b ((P.take (i + 1)).map Prod.fst)) := by rw [← HTK.out.1]; exact hK3
   clear hK3 hg3
   go_roundw
   case rel => exact ⟨i + 1, by go_num, HII.out, HK3, HB3⟩
   case measure => have := HII.out; simp [intOf]; omega
end Ce
end Go.Proofs.YtikgonlhdkknkaaGreatDoor
namespace Go.Proofs.YtikgonlhdkknkaaGreatDoor
open Go.RowKit
namespace Ce
open Co (Am Ra up rcells rv okA UT DecR decE decL decP RetDec)
open Dr (Rs)
theorem okL_of {a : Am} (h : okA Lib.validD a) (ht : a.text.length ≤ 140737488351232) : okL a := by
 refine ⟨?_, h.1, ht⟩
 rcases h.2.2 with ⟨h, -⟩ | ⟨h, -⟩ | ⟨h, -⟩ | ⟨h, -⟩ <;> omega
theorem Apart.okL {S : List UInt8} {l : List Am} {d : Nat} (h : Apart S l d) : ∀ a ∈ l, Ce.okL a := fun a ha =>
 okL_of (h.ok a ha) (by
  obtain ⟨_, _, h3, _⟩ := Co.read_ok h.dec
  exact h3 (up a) (List.mem_map_of_mem ha))
theorem decE_no {S : List UInt8} {d i b ro : Int} {e : Int} {p : Nat} {f : Bool} (h : DecR S d i b ro (.no e p f)) : e ≠ 0 := by
 cases hm : Co.mayOk d i b ro with
 | false => cases h.2 hm; decide
 | true => exact Co.Runs.ne (h.1 hm) e p f rfl
def RetHd (g : Nat) (a : Am) (w : World) (F A : Int) (vT : Value) (lo aa iv ci tg : ByteArray) (d i b r : Int) (vl vs : Value) (e : Ending) (w' : World) : Prop :=
 ∃ H, (a.kind = 2 → Hd a.text d i b r H) ∧ e = .returned (.int .i64 (if a.kind ≠ 2 then 9 else hdE a.text H)) ∧ Bg g w w' ∧
  (a.kind = 2 → hdE a.text H = 0 → ∃ vp', Mm g w' F A vT (bs a.text) lo aa iv ci tg d i b r vp' vl vs ∧ Hdm (fun k => k = g) w' vp' (prot a.text H))
theorem cheader_any (g Bu : Nat) (a : Am) (w : World) (F A : Int) (vT : Value) (h lo aa iv ci tg : ByteArray) (d i b r : Int) (vl vs : Value)
  (hM : Mm g w F A vT h lo aa iv ci tg d i b r (.slice none 0 0) vl vs) (hg : g < w.heap.size) (hU : UT Bu w) (hBu : Bu ≤ g) (ha : a.text.length ≤ 140737488351232) :
  Calls Tryz.prog 32 #[.pointer (some ⟨g, 0, none⟩), .agg #[.int .i64 (a.kind : Int), .int .u64 (a.num : Int), .string (bs a.text)]] w (RetHd g a w F A vT lo aa iv ci tg d i b r vl vs) := by
 have HM := hid hM
 have HG := hid hg
 obtain ⟨B, hB⟩ : ∃ B, w.heap.size = B := ⟨_, rfl⟩
 have HBB := hid hB
 obtain ⟨kd, hkd⟩ : ∃ t, a.kind = t := ⟨_, rfl⟩
 obtain ⟨tx, htx⟩ : ∃ t, bs a.text = t := ⟨_, rfl⟩
 have htl : a.text = tx.toList := by rw [← htx, bs_list]
 have HT := hid (aIn hkd (aIn htl htx))
 have hts : tx.size ≤ 140737488351232 := by rw [← tl_size, ← htl]; exact ha
 have HDC := hid (fun w' hU => Co.decode_any tx d i b r w' hts hU)
 have HUT := hid (aIn hU hBu)
 have hA0 := At.ofAlloc w #[.int .i64 (kd : Int), .int .u64 (a.num : Int), .string tx] 60
 have hM0 := hM.alloc (Obj.cells #[.int .i64 (kd : Int), .int .u64 (a.num : Int), .string tx] 60)
 have hB0 : Bg g w (w.alloc (Obj.cells #[.int .i64 (kd : Int), .int .u64 (a.num : Int), .string tx] 60)) := (Bg.refl _ _).alloc _
 rw [hkd, htx]
 by_cases hk : kd = 2
 case neg =>
  have f2 : ¬ (kd : Int) = 2 := by omega
  have f2b : ((kd : Int) != 2) = true := by simp; omega
  have HBH := hid hB0
  have HK : Hid (¬ a.kind = 2) := by show ¬ a.kind = 2; omega
  clear hk hU hBu ha hM hg hts htl htx hkd hA0 hM0 hB0
  go_enter Tryz.func32, Tryz.ntmps32
  go_wp2_with fail
  go_ret
  exact ⟨.ok [], fun h => absurd h HK.out, by rw [if_pos HK.out]; rfl, HBH.out, fun h => absurd h HK.out⟩
 subst hk
 have HKK : Hid (a.kind = 2) := hkd
 clear hU hBu ha hM hg hts htl htx hkd
 have HBL : Hid (Below w.heap.size w (w.alloc (Obj.cells #[.int .i64 2, .int .u64 (a.num : Int), .string tx] 60))) := (Below.refl _ _).alloc (nle _) _
 rw [hB] at hA0
 have hM0' : Mm g (w.alloc (Obj.cells #[.int .i64 2, .int .u64 (a.num : Int), .string tx] 60)) F A vT h lo aa iv ci tg d i b r (.slice none 0 0) vl vs := hM0
 have hB0' : Bg g w (w.alloc (Obj.cells #[.int .i64 2, .int .u64 (a.num : Int), .string tx] 60)) := hB0
 have hA0' : At (w.alloc (Obj.cells #[.int .i64 2, .int .u64 (a.num : Int), .string tx] 60)) B 0 [.int .i64 2, .int .u64 (a.num : Int), .string tx] := hA0
 clear hM0 hB0 hA0
 go_enter Tryz.func32, Tryz.ntmps32
 go_upto_region 3 with fail
 try rw [hB]
 obtain ⟨w0, hw0⟩ : ∃ x, w.alloc (Obj.cells #[.int .i64 2, .int .u64 (a.num : Int), .string tx] 60) = x := ⟨_, rfl⟩
 have HS0 : Hid (w0.heap.size = B + 1) := by show _ = _; rw [← hw0, ← hB]; simp
 rw [hw0] at hM0' hB0' hA0' HBL ⊢
 have hgB : g < B := by rw [← hB]; exact HG.out
 clear hB hw0
 have HM1 := hid (hM0'.set 3 (.string tx))
 have HA1 := hid (hA0'.other g 3 (.string tx) (Or.inl (by omega)))
 have HB1 := hid (hB0'.set 3 (.string tx))
 have z3 := hM0'.zf 3 (by simp [mcells])
 have d3 := hM0'.z 3 _ rfl
 have a2 := hA0'.z 2 _ rfl
 have b2 := HA1.out.z 2 _ rfl
 have HGB := hid hgB
 clear hM0' hB0' hA0' hgB
 by_cases hn : tx.toList = []
 ·have HN : Hid (a.text = []) := by show a.text = []; rw [HT.out.2.1]; exact hn
  have hn2 : tx = ⟨#[]⟩ := tl_inj (by rw [hn]; exact (tl_mk []).symm)
  subst hn2
  clear hn
  go_wp2_with fail
  go_ret
  refine ⟨.ok [], fun _ h => absurd HN.out h, by rw [if_neg (by rw [HKK.out]; simp), hdE, if_pos HN.out]; rfl, HB1.out, fun _ _ => ⟨.slice none 0 0, ?_, ?_⟩⟩
  ·rw [HT.out.2.2]; exact HM1.out
  ·rw [prot, if_pos HN.out]; exact .inl ⟨rfl, rfl⟩
 ·have HN : Hid (¬ a.text = []) := by show ¬ _; rw [HT.out.2.1]; exact hn
  have e1b : tx.toList.isEmpty = false := by
   cases hq : tx.toList with
   | nil => exact absurd hq hn
   | cons _ _ => rfl
  clear hn
  go_upto_region 6 with fail
  have HS1 : Hid ((w0.setCell ⟨g, 3, none⟩ (.string tx)).heap.size = B + 1) := by show _ = _; rw [World.size_setCell]; exact HS0.out
  have HUB : Hid (UT Bu (w0.setCell ⟨g, 3, none⟩ (.string tx))) := HUT.out.1.below (HB1.out.to HUT.out.2 (Nat.le_trans HUT.out.2 (Nat.le_of_lt HG.out)))
  obtain ⟨w1, hw1⟩ : ∃ x, w0.setCell ⟨g, 3, none⟩ (.string tx) = x := ⟨_, rfl⟩
  rw [hw1] at HM1 HA1 HB1 b2 HS1 HUB ⊢
  clear hw1 z3 d3 a2
  have l9 := HM1.out.z 9 _ rfl
  have l10 := HM1.out.z 10 _ rfl
  have l11 := HM1.out.z 11 _ rfl
  have l12 := HM1.out.z 12 _ rfl
  have HU1 : Hid (∀ k, UT (w1.drewN k).heap.size (w1.drewN k)) := fun k => (HUB.out.below (w' := w1.drewN k) ⟨rfl, rfl, rfl, nle _, fun _ _ => rfl⟩).mono (by
   show Bu ≤ w1.heap.size
   rw [HS1.out]
   have h1 := HUT.out.2
   have h2 := HGB.out
   omega)
  have HDQ : Hid (∀ k, Calls Tryz.prog 14 #[.string tx, .agg #[.int .i64 d, .int .i64 i, .int .i64 b, .int .i64 r]] (w1.drewN k) (RetDec tx d i b r (w1.drewN k))) := fun k => HDC.out _ (HU1.out k)
  go_region_with (first | (go_at_call 14; refine (HDQ.out 1).mono ?_; rintro e w3 ⟨rr, hr, v, rfl, ho, hb3⟩; have HR := hid hr; have HO := hid ho; have HB3 := hid hb3; obtain ⟨av, cv, rfl, hav⟩ := own_form ho; have HAV := hid hav; clear hr ho hb3 hav))
  all_goals
   have HM3 : Hid (Mm g w3 F A vT tx lo aa iv ci tg d i b r (.slice none 0 0) vl vs) := (HM1.out.drewN 1).below HB3.out (by show g < w1.heap.size; rw [HS1.out]; have := HGB.out; omega)
   have HB4 : Hid (Bg g w w3) := (HB1.out.drewN 1).trans (Bg.of HB3.out)
   have HG3 : Hid (w1.heap.size ≤ w3.heap.size) := HB3.out.size
   clear l9 l10 l11 l12 b2
   cases rr with
   | no c p f =>
    simp only [Co.decL, Co.decE, Co.decP, List.length_nil] at HO HAV ⊢
    have hc : ¬ c = 0 := decE_no HR.out
    have hcb : (c != 0) = true := by simpa using hc
    have HC := hid hc
    clear hc
    go_wp2_with fail
    go_ret
    refine ⟨.no c p f, fun _ _ => by rw [HT.out.2.1]; exact HR.out, by rw [if_neg (by rw [HKK.out]; simp), hdE, if_neg HN.out]; show _ = Ending.returned (.int .i64 (if c ≠ 0 then c else _)); rw [if_pos HC.out]; rfl, HB4.out, fun _ h0 => ?_⟩
    rw [hdE, if_neg HN.out] at h0
    have h1 : (if c ≠ 0 then c else _) = 0 := h0
    rw [if_pos HC.out] at h1
    exact absurd h1 HC.out
   | ok m =>
    simp only [Co.decL, Co.decE, Co.decP] at HO HAV ⊢
    have hap := apart HR.out
    have hne := hap.one.ne
    obtain ⟨pl, hpl⟩ : ∃ n, m.length = n := ⟨_, rfl⟩
    have hpl0 : 0 < pl := by rw [← hpl]; exact List.length_pos_iff.2 hne
    rw [hpl] at HAV HO ⊢
    obtain ⟨g3, rfl⟩ := HAV.out hpl0
    have hx := At.headA (At.ofOwnN HO.out) 0 (by rw [hpl]; exact hpl0)
    rw [show m.getD 0 ⟨0, 0, []⟩ = m.headD a0 from by cases m <;> rfl, Nat.zero_mul, Nat.zero_add] at hx
    obtain ⟨hd, hhd⟩ : ∃ x, m.headD a0 = x := ⟨_, rfl⟩
    rw [hhd] at hx
    have hg3 := HO.out.lt g3 rfl
    have HGN : Hid (g3 ≠ g) := by
     have h1 : w1.heap.size ≤ g3 := hg3.1
     have h2 := HS1.out
     have h3 := HGB.out
     show g3 ≠ g
     omega
    obtain ⟨hk, hhk⟩ : ∃ t, hd.kind = t := ⟨_, rfl⟩
    obtain ⟨hn2, hhn⟩ : ∃ t, hd.num = t := ⟨_, rfl⟩
    rw [hhk, hhn] at hx
    have n0 := hx.cell 0 _ rfl
    have n1 := hx.cell 1 _ rfl
    rw [Nat.add_zero] at n0
    try rw [Nat.zero_add] at n1
    have HAP := hid hap
    have HHD : Hid (m.headD a0 = hd ∧ hd.kind = hk ∧ hd.num = hn2 ∧ m.length = pl ∧ m ≠ []) := ⟨hhd, hhk, hhn, hpl, hne⟩
    have HDE : Hid (hdE a.text (.ok m) = if hk ≠ 5 ∨ hn2 = 0 then 9 else 0) := by
     show hdE _ _ = _
     rw [hdE, if_neg HN.out]
     show (if ((m.headD a0).kind ≠ 5 ∨ (m.headD a0).num = 0) then (9 : Int) else 0) = _
     rw [hhd, hhk, hhn]
    clear hx hap hne hpl hg3 hhd hhk hhn
    by_cases h5 : hk = 5
    case neg =>
     have f5 : ¬ (hk : Int) = 5 := by omega
     have f5b : ((hk : Int) != 5) = true := by simp; omega
     have HE9 : Hid (hdE a.text (.ok m) = 9) := by show _ = _; rw [HDE.out, if_pos (.inl h5)]
     clear h5
     go_wp2_with fail
     go_ret
     exact ⟨.ok m, fun _ _ => by rw [HT.out.2.1]; exact HR.out, by rw [if_neg (by rw [HKK.out]; simp), HE9.out]; rfl, HB4.out, fun _ h0 => by rw [HE9.out] at h0; cases h0⟩
    subst h5
    by_cases h6 : hn2 = 0
    ·have HE9 : Hid (hdE a.text (.ok m) = 9) := by show _ = _; rw [HDE.out, if_pos (.inr h6)]
     subst h6
     go_wp2_with fail
     go_ret
     exact ⟨.ok m, fun _ _ => by rw [HT.out.2.1]; exact HR.out, by rw [if_neg (by rw [HKK.out]; simp), HE9.out]; rfl, HB4.out, fun _ h0 => by rw [HE9.out] at h0; cases h0⟩
    ·have f6 : ¬ (hn2 : Int) = 0 := by omega
     have HE9 : Hid (hdE a.text (.ok m) = 0) := by show _ = _; rw [HDE.out, if_neg (by simp; omega)]
     have z13 := HM3.out.zf 13 (by simp [mcells])
     have d13 := HM3.out.z 13 _ rfl
     have HM4 := hid (HM3.out.set 13 (.slice (some ⟨g3, 0, none⟩) pl cv))
     have HB5 := hid (HB4.out.set 13 (.slice (some ⟨g3, 0, none⟩) pl cv))
     have HX : Hid (WX (fun k => k = g) w3 (.slice (some ⟨g3, 0, none⟩) pl cv) m) := by
      have hc : pl ≤ cv ∧ cv ≤ maxLen := by
       rcases HO.out.2 with ⟨h, _⟩ | ⟨q, cap, cur, h, _, _, h3, h4, _⟩
       ·cases h
       ·cases h; exact ⟨h3, h4⟩
      exact ⟨g3, 0, cv, by rw [HHD.out.2.2.2.1], by rw [HHD.out.2.2.2.1]; exact hc.1, hc.2, At.ofOwnN HO.out, (HO.out.lt g3 rfl).2, HGN.out⟩
     clear h6
     go_wp2_with fail
     go_ret
     refine ⟨.ok m, fun _ _ => by rw [HT.out.2.1]; exact HR.out, by rw [if_neg (by rw [HKK.out]; simp), HE9.out]; rfl, HB5.out, fun _ _ => ⟨_, by rw [HT.out.2.2]; exact HM4.out, ?_⟩⟩
     rw [prot, if_neg HN.out]
     exact .inr ⟨HX.out.bg ((Bg.refl g w3).set 13 _), ⟨_, _, HAP.out.one⟩, by show (m.headD a0).kind = 5; rw [HHD.out.1]; exact HHD.out.2.1, HAP.out.len, HAP.out.okL⟩
end Ce
end Go.Proofs.YtikgonlhdkknkaaGreatDoor
namespace Go.Proofs.YtikgonlhdkknkaaGreatDoor
open Go.RowKit
namespace Ce
open Co (Am Ra up rcells rv)
theorem cellA {w : World} {a : Addr} {v : Value} (h : w.cell? a = some v) (ob : Obj) : (w.alloc ob).cell? a = some v := by rw [World.cell?_alloc_some _ _ _ (by rw [h]; rfl)]; exact h
def txE (x y : Am) : Int := if x.kind = 7 ∧ x.num = 22 then 11 else if x.kind ≠ 2 ∨ y.kind ≠ 2 then 9 else 0
theorem WX.head {X : Nat → Prop} {w : World} {v : Value} {l : List Am} (h : WX X w v l) (hl : l ≠ []) : ∃ g o n c, v = .slice (some ⟨g, o, none⟩) n c ∧ 0 < n ∧ At w g o [.int .i64 ((l.headD a0).kind : Int), .int .u64 ((l.headD a0).num : Int), .string (bs (l.headD a0).text)] ∧ g < w.heap.size ∧ ¬ X g := by
 obtain ⟨g, o, cap, rfl, h2, h3, h4, h5, h6⟩ := h
 have hx := At.headA h4 0 (List.length_pos_iff.2 hl)
 rw [show l.getD 0 ⟨0, 0, []⟩ = l.headD a0 from by cases l <;> rfl, Nat.zero_mul, Nat.add_zero] at hx
 exact ⟨g, o, _, _, rfl, List.length_pos_iff.2 hl, hx, h5, h6⟩
theorem ctexts_any (g gv off k cap : Nat) (v0 vL : Value) (P2 PL : List Am) (w : World) (F A : Int) (vT : Value) (h lo aa iv ci tg : ByteArray) (d i b r : Int) (vp vl vs : Value)
  (hM : Mm g w F A vT h lo aa iv ci tg d i b r vp vl vs) (hg : g < w.heap.size) (hF : (F = 5 ∧ k = 1) ∨ (F = 6 ∧ k = 2)) (h0 : w.cell? ⟨gv, off, none⟩ = some v0) (hL : w.cell? ⟨gv, off + (k - 1), none⟩ = some vL)
  (hx : WX (fun k => k = g) w v0 P2) (hy : WX (fun k => k = g) w vL PL) (hx0 : P2 ≠ []) (hy0 : PL ≠ []) :
  Calls Tryz.prog 33 #[.pointer (some ⟨g, 0, none⟩), .slice (some ⟨gv, off, none⟩) k cap] w (fun e w' => e = .returned (.int .i64 (txE (P2.headD a0) (PL.headD a0))) ∧ Bg g w w' ∧
   (txE (P2.headD a0) (PL.headD a0) = 0 → Mm g w' F A vT h lo aa iv (bs (P2.headD a0).text) (if F = 6 then bs (PL.headD a0).text else tg) d i b r vp vl vs)) := by
 have HM := hid hM
 have HG := hid hg
 obtain ⟨x, hxx⟩ : ∃ x, P2.headD a0 = x := ⟨_, rfl⟩
 obtain ⟨y, hyy⟩ : ∃ x, PL.headD a0 = x := ⟨_, rfl⟩
 obtain ⟨gx, ox, nx, cx, rfl, hnx, hAx, hgx, hgx2⟩ := hx.head hx0
 obtain ⟨gy, oy, ny, cy, rfl, hny, hAy, hgy, hgy2⟩ := hy.head hy0
 rw [hxx] at hAx ⊢
 rw [hyy] at hAy ⊢
 obtain ⟨kx, hkx⟩ : ∃ t, x.kind = t := ⟨_, rfl⟩
 obtain ⟨mx, hmx⟩ : ∃ t, x.num = t := ⟨_, rfl⟩
 obtain ⟨tx, htx⟩ : ∃ t, bs x.text = t := ⟨_, rfl⟩
 obtain ⟨ky, hky⟩ : ∃ t, y.kind = t := ⟨_, rfl⟩
 obtain ⟨my, hmy⟩ : ∃ t, y.num = t := ⟨_, rfl⟩
 obtain ⟨ty, hty⟩ : ∃ t, bs y.text = t := ⟨_, rfl⟩
 have HE : Hid (txE x y = if kx = 7 ∧ mx = 22 then 11 else if kx ≠ 2 ∨ ky ≠ 2 then 9 else 0) := by show txE x y = _; rw [txE, hkx, hmx, hky]
 rw [hkx, hmx, htx] at hAx
 rw [hky, hmy, hty] at hAy
 rw [htx, hty]
 have x0 := hAx.cell 0 _ rfl
 have x1 := hAx.cell 1 _ rfl
 have x2 := hAx.cell 2 _ rfl
 have y0 := hAy.cell 0 _ rfl
 have y1 := hAy.cell 1 _ rfl
 have y2 := hAy.cell 2 _ rfl
 rw [Nat.add_zero] at x0 y0
 obtain ⟨R, hR⟩ : ∃ R, txE x y = R := ⟨_, rfl⟩
 rw [hR]
 rw [hR] at HE
 have e1 : (0 : Int) < (k : Int) := by omega
 have hk1 : 0 < k := by omega
 have e2 : IntKind.i64.wrap ((k : Int) - 1) = ((k - 1 : Nat) : Int) := by
  rw [show (k : Int) - 1 = ((k - 1 : Nat) : Int) by omega]
  exact Co.wrap_fit _ (by unfold maxLen; omega)
 have e3 : ((k - 1 : Nat) : Int) < (k : Int) := by omega
 have h0a := fun ob => cellA h0 ob
 have h0b := fun ob ob2 => cellA (h0a ob) ob2
 have hLa := fun ob => cellA hL ob
 have hLb := fun ob ob2 => cellA (hLa ob) ob2
 have x0a := fun ob => cellA x0 ob
 have x0b := fun ob ob2 => cellA (x0a ob) ob2
 have x1a := fun ob => cellA x1 ob
 have x1b := fun ob ob2 => cellA (x1a ob) ob2
 have x2a := fun ob => cellA x2 ob
 have x2b := fun ob ob2 => cellA (x2a ob) ob2
 have y0a := fun ob => cellA y0 ob
 have y0b := fun ob ob2 => cellA (y0a ob) ob2
 have y1a := fun ob => cellA y1 ob
 have y1b := fun ob ob2 => cellA (y1a ob) ob2
 have y2a := fun ob => cellA y2 ob
 have y2b := fun ob ob2 => cellA (y2a ob) ob2
 obtain ⟨TG, hTG⟩ : ∃ t, (if F = 6 then ty else tg) = t := ⟨_, rfl⟩
 rw [hTG]
 have HTG := hid hTG
 clear hTG
 have HFF := hid hF
 have HB0 := hid (Below.refl w.heap.size w)
 clear hR hkx hmx htx hky hmy hty hxx hyy hx hy hM hg hAx hAy hgx hgx2 hgy hgy2 hF hx0 hy0
 go_enter Tryz.func33, Tryz.ntmps33
 go_upto_region 1 with fail
 go_cut [5, 6] from 7 to 19 (fun v5 v6 wx => ∃ b5 b6, v5 = .pointer (some ⟨b5, 0, none⟩) ∧ v6 = .pointer (some ⟨b6, 0, none⟩) ∧ Hid (At wx b5 0 [.int .i64 (kx : Int), .int .u64 (mx : Int), .string tx]) ∧ Hid (At wx b6 0 [.int .i64 (ky : Int), .int .u64 (my : Int), .string ty]) ∧ Hid (Below w.heap.size w wx) ∧ Hid (w.heap.size ≤ b5 ∧ w.heap.size ≤ b6))
 case first =>
  go_region
  all_goals
   go_wp2_with fail
   go_meet
  case rel => exact ⟨_, _, rfl, rfl, (At.ofAlloc w #[.int .i64 (kx : Int), .int .u64 (mx : Int), .string tx] 60).alloc _, (by have h9 := At.ofAlloc (w.alloc (Obj.cells #[.int .i64 (kx : Int), .int .u64 (mx : Int), .string tx] 60)) #[.int .i64 (ky : Int), .int .u64 (my : Int), .string ty] 60; rw [World.size_alloc] at h9; exact h9), ((((Below.refl w.heap.size w).alloc (nle _) _).alloc (by simp) _).drew), ⟨nle _, Nat.le_succ _⟩⟩
  case rel => exact ⟨_, _, rfl, rfl, (by have h9 := At.ofAlloc (w.alloc (Obj.cells #[.int .i64 (ky : Int), .int .u64 (my : Int), .string ty] 60)) #[.int .i64 (kx : Int), .int .u64 (mx : Int), .string tx] 60; rw [World.size_alloc] at h9; exact h9), (At.ofAlloc w #[.int .i64 (ky : Int), .int .u64 (my : Int), .string ty] 60).alloc _, ((((Below.refl w.heap.size w).alloc (nle _) _).alloc (by simp) _).drew), ⟨Nat.le_succ _, nle _⟩⟩
 case rest =>
  obtain ⟨b5, b6, rfl, rfl, H5, H6, HBC, HSZ⟩ := hcut
  obtain ⟨wb, hwb⟩ : ∃ x, x = wc := ⟨_, rfl⟩
  subst hwb
  clear h0 hL x0 x1 x2 y0 y1 y2 h0a h0b hLa hLb x0a x0b x1a x1b x2a x2b y0a y0b y1a y1b y2a y2b e1 hk1 e2 e3
  have HM1 := hid (HM.out.below HBC.out HG.out)
  have HB1 : Hid (Bg g w wb) := Bg.of HBC.out
  have HN5 : Hid (g ≠ b5 ∧ g ≠ b6) := by have h1 := HG.out; have h2 := HSZ.out; exact ⟨by omega, by omega⟩
  have p0 := H5.out.z 0 _ rfl
  have p1 := H5.out.z 1 _ rfl
  have p2 := H5.out.z 2 _ rfl
  have q0 := H6.out.z 0 _ rfl
  have q2 := H6.out.z 2 _ rfl
  have HE2 := HE.out
  by_cases h7 : kx = 7
  ·subst h7
   rw [show ((7 : Nat) : Int) = (7 : Int) from rfl] at p0
   by_cases h22 : mx = 22
   ·subst h22
    rw [show ((22 : Nat) : Int) = (22 : Int) from rfl] at p1
    have HE3 : Hid (R = 11) := by show R = 11; rw [HE2]; simp
    clear HE2
    go_wp2_with fail
    go_ret
    exact ⟨by rw [HE3.out]; rfl, HB1.out, fun h => by rw [HE3.out] at h; cases h⟩
   ·have f22 : ¬ (mx : Int) = 22 := by omega
    have f22b : ((mx : Int) == 22) = false := by simp; omega
    have HE3 : Hid (R = 9) := by show R = 9; rw [HE2]; simp [h22]
    clear HE2 h22
    go_wp2_with fail
    go_ret
    exact ⟨by rw [HE3.out]; rfl, HB1.out, fun h => by rw [HE3.out] at h; cases h⟩
  ·rw [if_neg (by simp [h7])] at HE2
   have f7 : ¬ (kx : Int) = 7 := by omega
   have f7b : ((kx : Int) == 7) = false := by simp; omega
   by_cases h2 : kx = 2
   case neg =>
    have f2 : ((kx : Int) != 2) = true := by simp; omega
    have HE3 : Hid (R = 9) := by show R = 9; rw [HE2, if_pos (.inl h2)]
    clear HE2 h7 h2
    go_wp2_with fail
    go_ret
    exact ⟨by rw [HE3.out]; rfl, HB1.out, fun h => by rw [HE3.out] at h; cases h⟩
   subst h2
   rw [show ((2 : Nat) : Int) = (2 : Int) from rfl] at p0
   clear f7 f7b h7
   by_cases h3 : ky = 2
   case neg =>
    have f3 : ((ky : Int) != 2) = true := by simp; omega
    have HE3 : Hid (R = 9) := by show R = 9; rw [HE2, if_pos (.inr h3)]
    clear HE2 h3
    go_wp2_with fail
    go_ret
    exact ⟨by rw [HE3.out]; rfl, HB1.out, fun h => by rw [HE3.out] at h; cases h⟩
   subst h3
   rw [show ((2 : Nat) : Int) = (2 : Int) from rfl] at q0
   have HE3 : Hid (R = 0) := by show R = 0; rw [HE2, if_neg (by simp)]
   have m0 := HM1.out.z 0 _ rfl
   have z7 := HM1.out.zf 7 (by simp [mcells])
   have d7 := HM1.out.z 7 _ rfl
   have HM2 := hid (HM1.out.set 7 (.string tx))
   have HB2 := hid (HB1.out.set 7 (.string tx))
   have n0 := HM2.out.z 0 _ rfl
   have z8 := HM2.out.zf 8 (by simp [mcells])
   have d8 := HM2.out.z 8 _ rfl
   have r2 := (H6.out.other g 7 (.string tx) (Or.inl HN5.out.2)).z 2 _ rfl
   rcases HFF.out with ⟨rfl, rfl⟩ | ⟨rfl, rfl⟩
   ·clear HE2
    go_wp2_with fail
    go_ret
    exact ⟨by rw [HE3.out]; rfl, HB2.out, fun _ => by rw [← HTG.out, if_neg (by decide)]; exact HM2.out⟩
   ·have HM3 := hid (HM2.out.set 8 (.string ty))
    have HB3 := hid (HB2.out.set 8 (.string ty))
    clear HE2
    go_wp2_with fail
    go_ret
    exact ⟨by rw [HE3.out]; rfl, HB3.out, fun _ => by rw [← HTG.out, if_pos trivial]; exact HM3.out⟩
end Ce
end Go.Proofs.YtikgonlhdkknkaaGreatDoor
