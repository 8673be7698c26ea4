/- Keys by their names: the document's New. -/
import Derived.Test.YtcegihdgnbjclaaRnX
import Derived.Test.YtcegihdgnbjclaaRnN
namespace Go.Proofs.Ytcegihdgnbjclaa
open Go.RowKit Go.Maps Go.Sort
open Go.Proofs (encStr)
set_option linter.unusedVariables false
set_option linter.unusedSimpArgs false
namespace Rn
/-- the document's ring while it is made -/
structure Rh (w : World) (B x : Nat) (vL vT : Value) (L : List En) (C : List Nat) : Prop where
  at0 : At w x 0 [vL, vT]
  oL : w.ownsRow B 51 2 vL L.length (ecells L)
  oT : w.ownsRow B 3 1 vT C.length (ncells C)
  ge : B ≤ x
  ty : ∃ cs, w.heap[x]? = some (.cells cs 76 (0, 0))
theorem ty_ne {w : World} {x e1 e2 B z n : Nat} {v : Value} {xs : List Value} (h : ∃ cs, w.heap[x]? = some (.cells cs e1 (0, 0))) (o : w.ownsRow B e2 z v n xs) (hne : e1 ≠ e2) : some x ≠ v.ownBlock := by
  obtain ⟨cs, hb⟩ := h
  rcases o.2 with ⟨rfl, _⟩ | ⟨g, cap, cur, rfl, _, hg, _⟩
  · exact fun e => by cases e
  · intro e
    have h1 : x = g := by simpa [Value.ownBlock] using e
    subst h1
    rw [hb] at hg
    cases hg
    exact hne rfl
theorem Rh.done {w : World} {B x : Nat} {vL vT : Value} {L : List En} {C : List Nat} (h : Rh w B x vL vT L C) (hc : C.length = L.length) : Rf w B x vL vT L C :=
  ⟨h.at0, h.oL, by rw [← hc]; exact h.oT, hc, h.ge, ty_ne h.ty h.oL (by decide), ty_ne h.ty h.oT (by decide)⟩
theorem Rh.same {w w' : World} {B x : Nat} {vL vT : Value} {L : List En} {C : List Nat} (h : Rh w B x vL vT L C) (hs : ∀ k, k < w.heap.size → w'.heap[k]? = w.heap[k]?) : Rh w' B x vL vT L C :=
  ⟨at_same h.at0 (hs x (h.at0.lt (by simp))), own_same h.oL (fun k hk => hs k (h.oL.lt k hk).2), own_same h.oT (fun k hk => hs k (h.oT.lt k hk).2), h.ge, by rw [hs x (h.at0.lt (by simp))]; exact h.ty⟩
theorem ty_set {w : World} {x e : Nat} (h : ∃ cs, w.heap[x]? = some (.cells cs e (0, 0))) (i : Nat) (u : Value) : ∃ cs, (w.setCell ⟨x, i, none⟩ u).heap[x]? = some (.cells cs e (0, 0)) := by
  obtain ⟨cs, h⟩ := h
  exact ⟨_, heap_setCell_same w x i cs e u h⟩
/-- the list of entries has grown -/
theorem Rh.growL {w w5 : World} {B x : Nat} {vL vT v5 : Value} {L L' : List En} {C : List Nat} (h : Rh w B x vL vT L C) (hg : w.grownBy w5 vL.ownBlock) (ho : w5.ownsRow B 51 2 v5 L'.length (ecells L')) : Rh (w5.setCell ⟨x, 0, none⟩ v5) B x v5 vT L' C := by
  have hx := h.at0.lt (by simp)
  have hne := ty_ne h.ty h.oL (by decide)
  have ht5 : ∃ cs, w5.heap[x]? = some (.cells cs 76 (0, 0)) := by rw [hg.block x hx hne]; exact h.ty
  have hA5 := At.grown h.at0 hg hx (fun e => hne e.symm)
  have oT5 : w5.ownsRow B 3 1 vT C.length (ncells C) := h.oT.kept hg (by
    rcases own_ne h.oT h.oL (by decide) with h1 | h1
    · exact .inl h1
    · exact .inr h1)
  have h9 := hA5.set 0 v5
  rw [Nat.zero_add] at h9
  exact ⟨h9, own_set ho _ _ (fun k hk e => ty_ne ht5 ho (by decide) (by rw [hk]; exact congrArg some e)), own_set oT5 _ _ (fun k hk e => ty_ne ht5 oT5 (by decide) (by rw [hk]; exact congrArg some e)), h.ge, ty_set ht5 _ _⟩
theorem Rh.growT {w w5 : World} {B x : Nat} {vL vT v5 : Value} {L : List En} {C C' : List Nat} (h : Rh w B x vL vT L C) (hg : w.grownBy w5 vT.ownBlock) (ho : w5.ownsRow B 3 1 v5 C'.length (ncells C')) : Rh (w5.setCell ⟨x, 1, none⟩ v5) B x vL v5 L C' := by
  have hx := h.at0.lt (by simp)
  have hne := ty_ne h.ty h.oT (by decide)
  have ht5 : ∃ cs, w5.heap[x]? = some (.cells cs 76 (0, 0)) := by rw [hg.block x hx hne]; exact h.ty
  have hA5 := At.grown h.at0 hg hx (fun e => hne e.symm)
  have oL5 : w5.ownsRow B 51 2 vL L.length (ecells L) := h.oL.kept hg (by
    rcases own_ne h.oL h.oT (by decide) with h1 | h1
    · exact .inl h1
    · exact .inr h1)
  have h9 := hA5.set 1 v5
  rw [Nat.zero_add] at h9
  exact ⟨h9, own_set oL5 _ _ (fun k hk e => ty_ne ht5 oL5 (by decide) (by rw [hk]; exact congrArg some e)), own_set ho _ _ (fun k hk e => ty_ne ht5 ho (by decide) (by rw [hk]; exact congrArg some e)), h.ge, ty_set ht5 _ _⟩
def RetRNew (l : List En) (w : World) (e : Ending) (w' : World) : Prop :=
  (newE l = 0 ∧ ∃ x vL vT, e = .returned (.tuple #[.pointer (some ⟨x, 0, none⟩), .int .i64 0]) ∧ Rf w' w.heap.size x vL vT l (List.replicate l.length 0) ∧ Below w.heap.size w w') ∨
  (newE l ≠ 0 ∧ e = .returned (.tuple #[.pointer none, .int .i64 (newE l : Int)]) ∧ Below w.heap.size w w')
set_option maxRecDepth 100000 in
set_option maxHeartbeats 6400000 in
theorem rnew_any (l : List En) (v : Value) (w : World) (hl : El w v l) :
    Calls Try.prog 9 #[v] w (RetRNew l w) := by
  obtain ⟨a, cap, rfl, hmem⟩ := hl
  obtain ⟨n, hn⟩ : ∃ n, l.length = n := ⟨_, rfl⟩
  obtain ⟨B, hB⟩ : ∃ B, w.heap.size = B := ⟨_, rfl⟩
  have HN := Lib.hid hn
  have HB := Lib.hid hB
  have HM := Lib.hid hmem
  rw [hn]
  by_cases h64 : 64 < n
  · have e1 : (64 : Int) < (n : Int) := by omega
    have HE : Hid (newE l = 10) := by show newE l = 10; rw [newE, if_pos (by omega)]
    clear hn hB hmem
    go_enter Try.func9, Try.ntmps9
    go_wp2
    go_ret2
    exact .inr ⟨by rw [HE.out]; decide, by rw [HE.out]; rfl, Below.refl _ _⟩
  · have e1 : ¬ (64 : Int) < (n : Int) := by omega
    have HE : Hid (newE l = newGo [] l) := by show newE l = _; rw [newE, if_neg (by omega)]
    have H64 : Hid (n ≤ 64) := by show n ≤ 64; omega
    clear hn hmem
    go_enter Try.func9, Try.ntmps9
    go_wp2_with fail
    go_loopw [5] (fun vi wr => ∃ (i : Nat) (vL vT : Value), vi = .int .i64 (i : Int) ∧ i ≤ n ∧ Hid (newGo (l.take i) (l.drop i) = newE l) ∧ Hid (Rh wr B B vL vT (l.take i) (List.replicate i 0)) ∧ Hid (Below B w wr) ∧ Hid (B ≤ wr.heap.size)) (fun vi _ => n - (intOf vi).toNat)
    case atStart =>
      have h0 := HB.out
      refine ⟨0, nilS, nilS, rfl, Nat.zero_le _, HE.out.symm, ?_, ?_, ?_⟩
      · have h9 := At.ofAlloc w #[Value.slice none 0 0, Value.slice none 0 0] 76
        rw [h0] at h9
        exact ⟨h9, World.ownsRow_nil _ _ _ _, World.ownsRow_nil _ _ _ _, Nat.le_refl _, ⟨_, by rw [← h0]; exact heap_alloc_new w _⟩⟩
      · exact (Below.refl _ _).alloc (by omega) _
      · show _ ≤ _; simp; omega
    case round =>
      obtain ⟨i, vL, vT, rfl, hin, HG, HR, HBW, HS⟩ := hrel
      by_cases hi2 : i < n
      · have hlen : i < l.length := by rw [HN.out]; exact hi2
        obtain ⟨k, o, rfl, hA, hk⟩ := HM.out (fun h => by rw [h] at hlen; cases hlen)
        obtain ⟨e, he⟩ : ∃ e, l.getD i e0 = e := ⟨_, rfl⟩
        have hX := entry_at hA i hlen
        rw [he] at hX
        obtain ⟨sn, hsn⟩ : ∃ s : ByteArray, (⟨e.name.toArray⟩ : ByteArray) = s := ⟨_, rfl⟩
        obtain ⟨sk, hsk⟩ : ∃ s : ByteArray, (⟨e.key.toArray⟩ : ByteArray) = s := ⟨_, rfl⟩
        obtain ⟨n1, hn1⟩ : ∃ m, sn.size = m := ⟨_, rfl⟩
        obtain ⟨n2, hn2⟩ : ∃ m, sk.size = m := ⟨_, rfl⟩
        have hE : Ent e sn sk n1 n2 := ⟨by rw [← hsn, tl_mk], by rw [← hsk, tl_mk], hn1, hn2⟩
        rw [ev, hsn, hsk] at hX
        have hXw := hX.below HBW.out (by rw [← HB.out]; exact hk)
        have x0 := hXw.cell 0 _ rfl
        have x1 := hXw.cell 1 _ rfl
        rw [Nat.add_zero] at x0
        have hdrop : l.drop i = e :: l.drop (i + 1) := by
          rw [List.drop_eq_getElem_cons hlen]
          congr 1
          rw [← he, List.getD, List.getElem?_eq_getElem hlen]; rfl
        have htake : l.take (i + 1) = l.take i ++ [e] := by
          rw [List.take_succ_eq_append_getElem hlen]
          congr 2
          rw [← he, List.getD, List.getElem?_eq_getElem hlen]; rfl
        have hG := HG.out
        rw [hdrop, newGo, hE.ok] at hG
        have e2 : (i : Int) < (n : Int) := by omega
        have e3 : (0 : Int) ≤ (i : Int) := by omega
        have HBA : Hid (Below B w (wr.alloc (Obj.cells #[Value.string sn, Value.string sk] 51))) := HBW.out.alloc HS.out _
        have HX := Lib.hid (And.intro hdrop (And.intro htake (And.intro hE (And.intro hsn hsk))))
        have HI := Lib.hid hi2
        clear hX hXw hdrop htake hA hk he hlen hsn hsk hin
        have hbad : ∀ (hno : ¬ (1 ≤ n1 ∧ n1 ≤ 128 ∧ 1 ≤ n2 ∧ n2 ≤ 1024)), Hid (newE l = 2) := fun hno => by
          rw [decide_eq_false hno, if_pos rfl] at hG
          exact hG.symm
        rcases (by omega : n1 = 0 ∨ 128 < n1 ∨ (1 ≤ n1 ∧ n1 ≤ 128 ∧ n2 = 0) ∨ (1 ≤ n1 ∧ n1 ≤ 128 ∧ 1024 < n2) ∨ (1 ≤ n1 ∧ n1 ≤ 128 ∧ 1 ≤ n2 ∧ n2 ≤ 1024)) with c | c | ⟨c1, c2, c⟩ | ⟨c1, c2, c⟩ | ⟨c1, c2, c3, c4⟩
        · have HE2 := hbad (by omega)
          subst c
          clear hG hbad
          go_wp2_with fail
          go_ret2
          exact .inr ⟨by rw [HE2.out]; decide, by rw [HE2.out]; rfl, by rw [HB.out]; exact HBA.out⟩
        · have HE2 := hbad (by omega)
          have g1 : ((n1 : Int) == 0) = false := by rw [beq_eq_false_iff_ne]; omega
          have g2 : (128 : Int) < (n1 : Int) := by omega
          have g2' : decide ((128 : Int) < (n1 : Int)) = true := decide_eq_true g2
          clear hG hbad
          go_wp2_with fail
          go_ret2
          exact .inr ⟨by rw [HE2.out]; decide, by rw [HE2.out]; rfl, by rw [HB.out]; exact HBA.out⟩
        · have HE2 := hbad (by omega)
          have g1 : ((n1 : Int) == 0) = false := by rw [beq_eq_false_iff_ne]; omega
          have g2 : ¬ (128 : Int) < (n1 : Int) := by omega
          have g2' : decide ((128 : Int) < (n1 : Int)) = false := decide_eq_false g2
          subst c
          clear hG hbad
          go_wp2_with fail
          go_ret2
          exact .inr ⟨by rw [HE2.out]; decide, by rw [HE2.out]; rfl, by rw [HB.out]; exact HBA.out⟩
        · have HE2 := hbad (by omega)
          have g1 : ((n1 : Int) == 0) = false := by rw [beq_eq_false_iff_ne]; omega
          have g2 : ¬ (128 : Int) < (n1 : Int) := by omega
          have g2' : decide ((128 : Int) < (n1 : Int)) = false := decide_eq_false g2
          have g3 : ((n2 : Int) == 0) = false := by rw [beq_eq_false_iff_ne]; omega
          have g4 : (1024 : Int) < (n2 : Int) := by omega
          have g4' : decide ((1024 : Int) < (n2 : Int)) = true := decide_eq_true g4
          clear hG hbad
          go_wp2_with fail
          go_ret2
          exact .inr ⟨by rw [HE2.out]; decide, by rw [HE2.out]; rfl, by rw [HB.out]; exact HBA.out⟩
        · have g1 : ((n1 : Int) == 0) = false := by rw [beq_eq_false_iff_ne]; omega
          have g2 : ¬ (128 : Int) < (n1 : Int) := by omega
          have g2' : decide ((128 : Int) < (n1 : Int)) = false := decide_eq_false g2
          have g3 : ((n2 : Int) == 0) = false := by rw [beq_eq_false_iff_ne]; omega
          have g4 : ¬ (1024 : Int) < (n2 : Int) := by omega
          have g4' : decide ((1024 : Int) < (n2 : Int)) = false := decide_eq_false g4
          have HZ := Lib.hid (And.intro c1 (And.intro c2 (And.intro c3 c4)))
          rw [decide_eq_true (And.intro c1 (And.intro c2 (And.intro c3 c4))), if_neg (by decide)] at hG
          have hRA : Rh (wr.alloc (Obj.cells #[Value.string sn, Value.string sk] 51)) B B vL vT (l.take i) (List.replicate i 0) := HR.out.same (fun k hk => Below.heap_alloc _ _ _ hk)
          have hil : (l.take i).length = i := by rw [List.length_take, Nat.min_eq_left]; rw [HN.out]; exact Nat.le_of_lt HI.out
          have AA := rat_any _ B B vL vT (l.take i) (List.replicate i 0) (hRA.done (by rw [List.length_replicate, hil])) sn (by rw [hil]; have := H64.out; have := HI.out; omega)
          rw [hE.hn] at AA
          by_cases hdup : e.name ∈ names (l.take i)
          · rw [if_pos hdup] at hG
            have HE2 := Lib.hid hG.symm
            obtain ⟨j, hj⟩ : ∃ j, plc e.name (l.take i) = some j := by
              cases hp : plc e.name (l.take i) with
              | none => exact absurd hdup (plc_none.1 hp)
              | some j => exact ⟨j, rfl⟩
            rw [hj, show pI (some j) = (j : Int) from rfl] at AA
            replace AA := Lib.hid AA
            have hj0 : (0 : Int) ≤ (j : Int) := by omega
            clear hbad hRA hE c1 c2 c3 c4 hG hdup hj
            go_wp2_with (go_at_call 17; refine (AA.out).mono ?_; rintro e5 w5 ⟨rfl, rfl⟩)
            go_ret2
            exact .inr ⟨by rw [HE2.out]; decide, by rw [HE2.out]; rfl, by rw [HB.out]; exact HBA.out⟩
          rw [if_neg hdup] at hG
          rw [plc_none.2 hdup, show pI none = -1 from rfl] at AA
          replace AA := Lib.hid AA
          have HG2 := Lib.hid hG
          have HRA := Lib.hid hRA
          have HIL := Lib.hid hil
          have r0 := hRA.at0.cell 0 _ rfl
          have r1 := hRA.at0.cell 1 _ rfl
          rw [Nat.zero_add] at r0 r1
          obtain ⟨i0, hi, hz0, hz1, hz2⟩ := info_parts infoEn
          obtain ⟨j0, hj0, hy0, hy1, hy2⟩ := info_parts info3
          have HTS : Hid (B < wr.heap.size) := HR.out.at0.lt (by simp)
          clear hbad hRA hE c1 c2 c3 c4 hG hdup hil
          go_wp2_with (go_at_call 17; refine (AA.out).mono ?_; rintro e5 w5 ⟨rfl, h5⟩; subst h5)
          have HT0 := Lib.hid (At.ofAlloc wr #[Value.string sn, Value.string sk] 51)
          have HBS : Hid (B ≤ (wr.alloc (Obj.cells #[Value.string sn, Value.string sk] 51)).heap.size) := by have := HS.out; show B ≤ (wr.alloc _).heap.size; simp; omega
          obtain ⟨T, hT⟩ : ∃ T, wr.heap.size = T := ⟨_, rfl⟩
          rw [hT] at HT0 HTS
          try rw [hT]
          obtain ⟨wa, hwa⟩ : ∃ v, wr.alloc (Obj.cells #[Value.string sn, Value.string sk] 51) = v := ⟨_, rfl⟩
          rw [hwa] at HRA HBA HT0 HBS r0 r1
          try rw [hwa]
          clear hwa hT HR HBW HS x0 x1 AA
          have t0 := HT0.out.cell 0 _ rfl
          have t1 := HT0.out.cell 1 _ rfl
          rw [Nat.zero_add] at t0 t1
          have oL := HRA.out.oL
          rw [HIL.out] at oL
          have HSD : Hid (∀ ob : Obj, ((World.drew wa).alloc ob).ownsRow B 51 2 vL i (ecells (l.take i))) := Lib.hid (fun ob => (own_drewN oL 1).alloc ob)
          have r0a : ∀ ob : Obj, (wa.alloc ob).cell? ⟨B, 0, none⟩ = some vL := fun ob => by have h9 := (HRA.out.at0.alloc ob).cell 0 _ rfl; rw [Nat.zero_add] at h9; exact h9
          have hen : ecells (l.take i) ++ [Value.string sn, Value.string sk] = ecells (l.take i ++ [e]) := by
            rw [ecells_append]; congr 1
            show _ = [Value.string ⟨e.name.toArray⟩, Value.string ⟨e.key.toArray⟩]
            rw [HX.out.2.2.2.1, HX.out.2.2.2.2]
          have hl1 : (l.take i ++ [e]).length = i + 1 := by rw [List.length_append, HIL.out]; rfl
          have STEP : ∀ (v5 : Value) (w5 : World), ((wa.drewN 1).alloc (Obj.cells #[Value.string sn, Value.string sk] 51)).grownBy w5 vL.ownBlock → w5.ownsRow B 51 2 v5 (i + 1) (ecells (l.take i) ++ [Value.string sn, Value.string sk]) → Rh (w5.setCell ⟨B, 0, none⟩ v5) B B v5 vT (l.take i ++ [e]) (List.replicate i 0) ∧ Below B w (w5.setCell ⟨B, 0, none⟩ v5) ∧ B ≤ (w5.setCell ⟨B, 0, none⟩ v5).heap.size ∧ w5.frozen? ⟨B, 0, none⟩ = false ∧ w5.cell? ⟨B, 0, none⟩ = some vL := fun v5 w5 hg ho => by
            have hRa : Rh ((wa.drewN 1).alloc (Obj.cells #[Value.string sn, Value.string sk] 51)) B B vL vT (l.take i) (List.replicate i 0) := HRA.out.same (fun k hk => Below.heap_alloc wa _ _ hk)
            have hA5 := At.grown hRa.at0 hg (hRa.at0.lt (by simp)) (fun e => ty_ne hRa.ty hRa.oL (by decide) e.symm)
            have z0 := hA5.froz 0 (by show 0 < 2; decide)
            have c0 := hA5.cell 0 _ rfl
            rw [Nat.zero_add] at z0 c0
            have hbz := HBS.out
            have hsz := hg.size
            refine ⟨hRa.growL hg (by rw [hl1, ← hen]; exact ho), (((HBA.out.drew).alloc (by exact hbz) _).grown hg (by simp; omega) (fun k hk => (oL.lt k hk).1)).setCell (Nat.le_refl _) _, ?_, z0, c0⟩
            rw [World.size_setCell]
            simp at hsz
            omega
          have STEPH := Lib.hid STEP
          have HEN := Lib.hid hl1
          clear STEP hen hl1 oL
          go_cut [] from 49 to 58 (fun wx => ∃ v5, Hid (Rh wx B B v5 vT (l.take i ++ [e]) (List.replicate i 0)) ∧ Hid (Below B w wx) ∧ Hid (B ≤ wx.heap.size))
          case first =>
            go_region_law (refine step_append_gen rfl (.tmp 53) (.tmp 55) 22 ?_ B 51 i0 (.agg #[.string ByteArray.empty, .string ByteArray.empty]) 2 32 ?_ ?_ ?_ ?_ ?_ ?_ ?_ vL i (ecells (l.take i)) ?_ ?_ wa.heap.size 1 1 [Value.string sn, Value.string sk] ?_ ?_ ?_ ?_ ?_ ?_ ?_ ?_; (focus rfl); exact Try.underlying22; exact hi; exact hz0; exact hz1; exact hz2; (focus rfl); decide; (focus rfl); exact HSD.out _; (focus rfl); (focus rfl); exact (at_cells0 (At.ofAlloc (wa.drewN 1) #[Value.string sn, Value.string sk] 51)); (intro u hu; simp at hu; rcases hu with rfl | rfl <;> rfl); (have := HI.out; have := H64.out; unfold maxLen; omega); (have := HI.out; have := H64.out; omega); (have := HBS.out; simp; omega); intro v5 w5 hown5 hgrow5; obtain ⟨a5, c5, hv5, -⟩ := own_form hown5; subst hv5; obtain ⟨hR5, hB5, hS5, z05, c05⟩ := STEPH.out _ w5 hgrow5 hown5; have HR5 := Lib.hid hR5; have HB5 := Lib.hid hB5; have HS5 := Lib.hid hS5; clear hR5 hB5 hS5 hown5 hgrow5)
            all_goals
              go_wp2_with fail
              go_meet
              case rel => exact ⟨_, HR5, HB5, HS5⟩
          case rest =>
            obtain ⟨v5, HR5, HB5, HS5⟩ := hcut
            rename World => wb
            have q1 := HR5.out.at0.cell 1 _ rfl
            rw [Nat.zero_add] at q1
            have oT := HR5.out.oT
            have hrl : (List.replicate i 0).length = i := List.length_replicate
            rw [hrl] at oT
            have HSD2 : Hid (∀ ob : Obj, (wb.alloc ob).ownsRow B 3 1 vT i (icells ((List.replicate i 0).map Int.ofNat))) := Lib.hid (fun ob => oT.alloc ob)
            have q1a : ∀ ob : Obj, (wb.alloc ob).cell? ⟨B, 1, none⟩ = some vT := fun ob => by have h9 := (HR5.out.at0.alloc ob).cell 1 _ rfl; rw [Nat.zero_add] at h9; exact h9
            have hn2c : icells ((List.replicate i 0).map Int.ofNat ++ [0]) = ncells (List.replicate (i + 1) 0) := by
              rw [List.replicate_succ']; simp [ncells, icells]
            have STEP2 : ∀ (v6 : Value) (w6 : World), (wb.alloc (Obj.cells #[Value.int .i64 0] 3)).grownBy w6 vT.ownBlock → w6.ownsRow B 3 1 v6 (i + 1) (icells ((List.replicate i 0).map Int.ofNat ++ [0])) → Rh (w6.setCell ⟨B, 1, none⟩ v6) B B v5 v6 (l.take (i + 1)) (List.replicate (i + 1) 0) ∧ Below B w (w6.setCell ⟨B, 1, none⟩ v6) ∧ B ≤ (w6.setCell ⟨B, 1, none⟩ v6).heap.size ∧ w6.frozen? ⟨B, 1, none⟩ = false ∧ w6.cell? ⟨B, 1, none⟩ = some vT := fun v6 w6 hg ho => by
              have hRa : Rh (wb.alloc (Obj.cells #[Value.int .i64 0] 3)) B B v5 vT (l.take i ++ [e]) (List.replicate i 0) := HR5.out.same (fun k hk => Below.heap_alloc wb _ _ hk)
              have hA5 := At.grown hRa.at0 hg (hRa.at0.lt (by simp)) (fun e => ty_ne hRa.ty hRa.oT (by decide) e.symm)
              have z0 := hA5.froz 1 (by show 1 < 2; decide)
              have c0 := hA5.cell 1 _ rfl
              rw [Nat.zero_add] at z0 c0
              have hbz := HS5.out
              have hsz := hg.size
              refine ⟨?_, ((HB5.out.alloc (by exact hbz) _).grown hg (by simp; omega) (fun k hk => (oT.lt k hk).1)).setCell (Nat.le_refl _) _, ?_, z0, c0⟩
              · rw [HX.out.2.1]
                exact hRa.growT hg (by rw [List.length_replicate, ← hn2c]; exact ho)
              · rw [World.size_setCell]
                simp at hsz
                omega
            have STEPH2 := Lib.hid STEP2
            have HG3 : Hid (newGo (l.take (i + 1)) (l.drop (i + 1)) = newE l) := by rw [HX.out.2.1]; exact HG2
            clear STEP2 hn2c hrl oT r0 r1 t0 t1 r0a
            go_wp2_with (at_builtin; refine wpList_append_i64 rfl (.tmp 63) (.tmp 64) 74 rfl B 3 j0 Try.underlying74 hj0 hy0 hy1 hy2 vT i ((List.replicate i 0).map Int.ofNat) rfl (HSD2.out _) wb.heap.size 1 0 rfl (by simp) (by have := HI.out; have := H64.out; omega) (by have := HS5.out; simp; omega) ?_; intro v6 w6 hown6 hgrow6; obtain ⟨a6, c6, hv6, -⟩ := own_form hown6; subst hv6; obtain ⟨hR6, hB6, hS6, z06, c06⟩ := STEPH2.out _ w6 hgrow6 hown6; have HR6 := Lib.hid hR6; have HB6 := Lib.hid hB6; have HS6 := Lib.hid hS6; clear hR6 hB6 hS6 hown6 hgrow6)
            go_roundw
            case rel => exact ⟨i + 1, _, _, by go_num, HI.out, HG3, HR6, HB6, HS6⟩
            case measure => have h9 := HI.out; simp [intOf]; omega
      · obtain rfl : i = n := by omega
        have e4 : ¬ (i : Int) < (i : Int) := by omega
        have HG2 : Hid (newE l = 0) := by
          have h9 := HG.out
          rw [List.drop_eq_nil_of_le (by rw [HN.out]; exact Nat.le_refl _), newGo] at h9
          exact h9.symm
        clear hi2 hin
        go_wp2_with fail
        go_ret2
        refine .inl ⟨HG2.out, B, vL, vT, rfl, ?_, by rw [HB.out]; exact HBW.out⟩
        have h9 := HR.out
        rw [List.take_of_length_le (by rw [HN.out]; exact Nat.le_refl _)] at h9
        rw [HB.out, HN.out]
        exact h9.done (by rw [List.length_replicate, HN.out])
end Rn
end Go.Proofs.Ytcegihdgnbjclaa
