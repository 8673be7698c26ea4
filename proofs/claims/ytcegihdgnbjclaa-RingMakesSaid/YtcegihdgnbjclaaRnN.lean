/- Keys by their names: a ring is made. -/
import Derived.Test.YtcegihdgnbjclaaRnW
namespace Go.Proofs.Ytcegihdgnbjclaa
open Go.RowKit Go.Maps Go.Sort
open Go.Proofs (encStr)
set_option linter.unusedVariables false
set_option linter.unusedSimpArgs false
namespace Rn
set_option maxRecDepth 100000 in
theorem clone_any (s : ByteArray) (hs : s.size ≤ 140737488351232) (w : World) : Calls Try.prog 22 #[.string s] w fun e w' => e = .returned (.string s) ∧ Below w.heap.size w w' := by
  have CC := Lib.hid (Sstringslite_Clone s w (by omega))
  go_enter Try.func22, Try.ntmps22
  go_wp2_with (go_at_call 28; refine (CC.out).mono ?_; rintro e w' ⟨rfl, h⟩)
  go_ret
  exact ⟨rfl, h⟩
abbrev nilS : Value := .slice none 0 0
theorem getD_left {α : Type} (A D : List α) (i : Nat) (d : α) (h : i < A.length) : (A ++ D).getD i d = A.getD i d := by simp [List.getD, List.getElem?_append_left h]
theorem getD_at {α : Type} (A : List α) (x d : α) : (A ++ [x]).getD A.length d = x := by simp [List.getD]
/-- one entry more -/
theorem Rg.push {w w' : World} {B r b : Nat} {ps : List Nat} {S : List En} {C : List Nat} (h : Rg w B r b ps nilS false S C) (e : En) (p : Nat) (hne : e.name ∉ names S) (hl : S.length < 64) (hp : w.heap.size ≤ p) (hB : B ≤ w.heap.size)
    (hM : Pm w' b (ps ++ [p]) (S ++ [e])) (hA : At w' p 0 [.string ⟨e.key.toArray⟩, .int .i64 0]) (hk : ∀ k, k < w.heap.size → k ≠ b → w'.heap[k]? = w.heap[k]?) : Rg w' B r b (ps ++ [p]) nilS false (S ++ [e]) (C ++ [0]) where
  at0 := at_same h.at0 (hk r (h.lt r (.inl rfl)) (fun e => h.mp.ne_at h.at0 e.symm))
  mp := hM
  pl := by rw [List.length_append, List.length_append, h.pl]; rfl
  cl := by rw [List.length_append, List.length_append, h.cl]; rfl
  pa := fun i q hq => by
    by_cases hi : i < ps.length
    · rw [List.getElem?_append_left hi] at hq
      rw [getD_left S [e] i e0 (by rw [← h.pl]; exact hi), getD_left C [0] i 0 (by rw [h.cl, ← h.pl]; exact hi)]
      exact at_same (h.pa i q hq) (hk q (h.lt q (.inr (.inr (.inl (List.mem_of_getElem? hq))))) (fun e => h.mp.ne_at (h.pa i q hq) e.symm))
    · have hi2 : i = ps.length := by
        have := (List.getElem?_eq_some_iff.1 hq).1
        rw [List.length_append, List.length_singleton] at this
        omega
      subst hi2
      rw [List.getElem?_append_right (Nat.le_refl _), Nat.sub_self] at hq
      cases hq
      rw [h.pl, getD_at, ← h.cl, getD_at]
      exact hA
  nd := by
    rw [names_app, List.nodup_append]
    refine ⟨h.nd, by simp [names], ?_⟩
    intro a ha c hc
    simp [names] at hc
    subst hc
    exact fun hab => hne (hab ▸ ha)
  pn := by
    rw [List.nodup_append]
    refine ⟨h.pn, by simp, ?_⟩
    intro a ha c hc
    simp at hc
    subst hc
    have := h.lt a (.inr (.inr (.inl ha)))
    omega
  rp := fun hm => by
    rcases List.mem_append.1 hm with hm | hm
    · exact h.rp hm
    · simp at hm
      have := h.lt r (.inl rfl)
      omega
  len := by rw [List.length_append, List.length_singleton]; omega
  ge := ⟨h.ge.1, h.ge.2.1, fun q hq => by
    rcases List.mem_append.1 hq with hq | hq
    · exact h.ge.2.2 q hq
    · simp at hq; omega⟩
  ow := fun h => by cases h
  no := fun _ => rfl
theorem Rg.fresh {w : World} {r b B : Nat} (hA : At w r 0 [.map (some b), .int .u32 0, .int .i32 0, .int .u32 0, nilS]) (hM : Pm w b [] []) (hr : B ≤ r) (hb : B ≤ b) : Rg w B r b [] nilS false [] [] where
  at0 := hA
  mp := hM
  pl := rfl
  cl := rfl
  pa := fun i p hp => by cases hp
  nd := List.nodup_nil
  pn := List.nodup_nil
  rp := List.not_mem_nil
  len := Nat.zero_le _
  ge := ⟨hr, hb, fun p hp => by cases hp⟩
  ow := fun h => by cases h
  no := fun _ => rfl
def RetNew (l : List En) (w : World) (e : Ending) (w' : World) : Prop :=
  (newE l = 0 ∧ ∃ r b ps, e = .returned (.tuple #[.pointer (some ⟨r, 0, none⟩), .int .i64 0]) ∧ Rg w' w.heap.size r b ps nilS false l (List.replicate l.length 0) ∧ Below w.heap.size w w') ∨
  (newE l ≠ 0 ∧ e = .returned (.tuple #[.pointer none, .int .i64 (newE l : Int)]) ∧ Below w.heap.size w w')
/-- the reading of one entry -/
structure Ent (e : En) (sn sk : ByteArray) (n k : Nat) : Prop where
  hn : sn.toList = e.name
  hk : sk.toList = e.key
  zn : sn.size = n
  zk : sk.size = k
theorem Ent.ok {e : En} {sn sk : ByteArray} {n k : Nat} (h : Ent e sn sk n k) : okE e = decide (1 ≤ n ∧ n ≤ 128 ∧ 1 ≤ k ∧ k ≤ 1024) := by
  rw [okE, ← h.hn, ← h.hk, tl_size, tl_size, h.zn, h.zk]
structure NewI (w wz : World) (B T : Nat) (ps : List Nat) (S : List En) (C : List Nat) (sn sk : ByteArray) : Prop where
  at0 : At wz T 0 [.string sn, .string sk]
  rg : Rg wz B (B + 1) B ps nilS false S C
  bw : Below B w wz
  bs : B ≤ wz.heap.size
  tl : T < wz.heap.size
theorem NewI.below {w wz wy : World} {B T : Nat} {ps : List Nat} {S : List En} {C : List Nat} {sn sk : ByteArray} (h : NewI w wz B T ps S C sn sk) (hb : Below wz.heap.size wz wy) : NewI w wy B T ps S C sn sk :=
  ⟨h.at0.below hb h.tl, h.rg.same (fun k hk => hb.block k (h.rg.lt k hk)), h.bw.trans (hb.mono h.bs), Nat.le_trans h.bs hb.size, Nat.lt_of_lt_of_le h.tl hb.size⟩
theorem NewI.drewN {w wz : World} {B T : Nat} {ps : List Nat} {S : List En} {C : List Nat} {sn sk : ByteArray} (h : NewI w wz B T ps S C sn sk) (n : Nat) : NewI w (wz.drewN n) B T ps S C sn sk :=
  ⟨h.at0.drewN n, h.rg.same (fun k hk => rfl), ⟨h.bw.os, h.bw.tape, h.bw.output, h.bw.size, h.bw.block⟩, h.bs, h.tl⟩
theorem NewI.put {w wz : World} {B T : Nat} {ps : List Nat} {S : List En} {C : List Nat} {sn sk : ByteArray} (h : NewI w wz B T ps S C sn sk) (e : En) (hn : sn.toList = e.name) (hk : (⟨e.key.toArray⟩ : ByteArray) = sk) (hz : sn.size ≤ 140737488351232) (hne : e.name ∉ names S) (hl : S.length < 64) :
    ∃ w6, (Instr.mapUpdate 52 (.map (some B)) (.string sn) (.pointer (some ⟨wz.heap.size, 0, none⟩))).run Try.prog (wz.alloc (Obj.cells #[Value.string sk, Value.int .i64 0] 73)) = .ok () w6 ∧
      Rg w6 B (B + 1) B (ps ++ [wz.heap.size]) nilS false (S ++ [e]) (C ++ [0]) ∧ Below B w w6 ∧ B ≤ w6.heap.size := by
  obtain ⟨D, h1, h2, h3, h4⟩ := (h.rg.mp.same (w' := wz.alloc (Obj.cells #[Value.string sk, Value.int .i64 0] 73)) (Below.heap_alloc _ _ _ h.rg.mp.lt))
  obtain ⟨w6, hrun, h5, h6⟩ := h1.update strK Try.underlying52 (by unfold maxLen; omega) (key := .string sn) (val := .pointer (some ⟨wz.heap.size, 0, none⟩)) (keyS sn hz) (d := .lit (.int .i64 (wz.heap.size : Int))) (ps := []) rfl
  rw [hn] at h5
  have hP := Pm.put D h1 h2 h3 h4 e wz.heap.size h.rg.pl hne h5
  have hA := At.ofAlloc wz #[Value.string sk, Value.int .i64 0] 73
  have hbz : B ≠ wz.heap.size := by have := h.rg.mp.lt; omega
  have hA6 : At w6 wz.heap.size 0 [.string sk, .int .i64 0] := at_same hA (h6.block _ (by simp) (fun e => hbz (Option.some.inj e).symm))
  refine ⟨w6, hrun, h.rg.push e wz.heap.size hne hl (Nat.le_refl _) h.bs hP (by rw [hk]; exact hA6) (fun k hk hb => ?_), ?_, ?_⟩
  · rw [h6.block k (by simp; omega) (fun e => hb (Option.some.inj e))]
    exact Below.heap_alloc _ _ _ hk
  · exact (h.bw.alloc h.bs _).grown h6 (by have := h.bs; simp; omega) (fun k hk => by cases hk; exact Nat.le_refl _)
  · have h9 := h6.size
    have := h.bs
    simp at h9
    omega
set_option maxRecDepth 100000 in
set_option maxHeartbeats 6400000 in
theorem new_any (l : List En) (v : Value) (w : World) (hl : El w v l) :
    Calls Try.prog 7 #[v] w (RetNew l w) := by
  obtain ⟨a, cap, rfl, hmem⟩ := hl
  obtain ⟨n, hn⟩ : ∃ n, l.length = n := ⟨_, rfl⟩
  obtain ⟨B, hB⟩ : ∃ B, w.heap.size = B := ⟨_, rfl⟩
  have HN := Lib.hid hn
  have HB := Lib.hid hB
  have HM := Lib.hid hmem
  rw [hn]
  by_cases h64 : 64 < n
  · have e1 : (64 : Int) < (n : Int) := by omega
    have HE : Hid (newE l = 10) := by show newE l = 10; rw [newE, if_pos (by omega)]
    clear hn hB hmem
    go_enter Try.func7, Try.ntmps7
    go_wp2
    go_ret2
    exact .inr ⟨by rw [HE.out]; decide, by rw [HE.out]; rfl, Below.refl _ _⟩
  · have e1 : ¬ (64 : Int) < (n : Int) := by omega
    have HE : Hid (newE l = newGo [] l) := by show newE l = _; rw [newE, if_neg (by omega)]
    have H64 : Hid (n ≤ 64) := by show n ≤ 64; omega
    have hmm := @run_makeMap Try.prog
    clear hn hmem
    go_enter Try.func7, Try.ntmps7
    go_wp2_with fail
    go_loopw [15] (fun vi wr => ∃ (i : Nat) (ps : List Nat), vi = .int .i64 (i : Int) ∧ i ≤ n ∧ Hid (newGo (l.take i) (l.drop i) = newE l) ∧ Hid (Rg wr B (B + 1) B ps nilS false (l.take i) (List.replicate i 0)) ∧ Hid (Below B w wr) ∧ Hid (B ≤ wr.heap.size)) (fun vi _ => n - (intOf vi).toNat)
    case atStart =>
      have h0 := HB.out
      refine ⟨0, [], rfl, Nat.zero_le _, HE.out.symm, ?_, ?_, ?_⟩
      · refine Rg.fresh ?_ ?_ (Nat.le_succ _) (Nat.le_refl _)
        · have h9 := At.ofAlloc (w.alloc (Obj.map #[] 0)) #[Value.map (some B), Value.int .u32 0, Value.int .i32 0, Value.int .u32 0, Value.slice none 0 0] 66
          rw [show (w.alloc (Obj.map #[] 0)).heap.size = B + 1 by simp; exact h0] at h9
          exact h9
        · have h9 := Pm.made w
          rw [h0] at h9
          exact h9.same (Below.heap_alloc _ _ _ (by simp; omega))
      · exact ((Below.refl _ _).alloc (by omega) _).alloc (by simp; omega) _
      · show _ ≤ _; simp; omega
    case round =>
      obtain ⟨i, ps, rfl, hin, HG, HR, HBW, HS⟩ := hrel
      by_cases hi2 : i < n
      · have hlen : i < l.length := by rw [HN.out]; exact hi2
        obtain ⟨k, o, rfl, hA, hk⟩ := HM.out (fun h => by rw [h] at hlen; cases hlen)
        obtain ⟨e, he⟩ : ∃ e, l.getD i e0 = e := ⟨_, rfl⟩
        have hX := entry_at hA i hlen
        rw [he] at hX
        obtain ⟨sn, hsn⟩ : ∃ s : ByteArray, (⟨e.name.toArray⟩ : ByteArray) = s := ⟨_, rfl⟩
        obtain ⟨sk, hsk⟩ : ∃ s : ByteArray, (⟨e.key.toArray⟩ : ByteArray) = s := ⟨_, rfl⟩
        obtain ⟨n1, hn1⟩ : ∃ m, sn.size = m := ⟨_, rfl⟩
        obtain ⟨n2, hn2⟩ : ∃ m, sk.size = m := ⟨_, rfl⟩
        have hE : Ent e sn sk n1 n2 := ⟨by rw [← hsn, tl_mk], by rw [← hsk, tl_mk], hn1, hn2⟩
        rw [ev, hsn, hsk] at hX
        have hXw := hX.below HBW.out (by rw [← HB.out]; exact hk)
        have x0 := hXw.cell 0 _ rfl
        have x1 := hXw.cell 1 _ rfl
        rw [Nat.add_zero] at x0
        have hdrop : l.drop i = e :: l.drop (i + 1) := by
          rw [List.drop_eq_getElem_cons hlen]
          congr 1
          rw [← he, List.getD, List.getElem?_eq_getElem hlen]; rfl
        have htake : l.take (i + 1) = l.take i ++ [e] := by
          rw [List.take_succ_eq_append_getElem hlen]
          congr 2
          rw [← he, List.getD, List.getElem?_eq_getElem hlen]; rfl
        have hG := HG.out
        rw [hdrop, newGo, hE.ok] at hG
        have e2 : (i : Int) < (n : Int) := by omega
        have e3 : (0 : Int) ≤ (i : Int) := by omega
        have HBA : Hid (Below B w (wr.alloc (Obj.cells #[Value.string sn, Value.string sk] 51))) := HBW.out.alloc HS.out _
        have HX := Lib.hid (And.intro hdrop (And.intro htake (And.intro hE (And.intro hsn hsk))))
        have HI := Lib.hid hi2
        clear hX hXw hdrop htake hA hk he hlen hsn hsk hin
        have hbad : ∀ (hno : ¬ (1 ≤ n1 ∧ n1 ≤ 128 ∧ 1 ≤ n2 ∧ n2 ≤ 1024)), Hid (newE l = 2) := fun hno => by
          rw [decide_eq_false hno, if_pos rfl] at hG
          exact hG.symm
        rcases (by omega : n1 = 0 ∨ 128 < n1 ∨ (1 ≤ n1 ∧ n1 ≤ 128 ∧ n2 = 0) ∨ (1 ≤ n1 ∧ n1 ≤ 128 ∧ 1024 < n2) ∨ (1 ≤ n1 ∧ n1 ≤ 128 ∧ 1 ≤ n2 ∧ n2 ≤ 1024)) with c | c | ⟨c1, c2, c⟩ | ⟨c1, c2, c⟩ | ⟨c1, c2, c3, c4⟩
        · have HE2 := hbad (by omega)
          subst c
          clear hG hbad
          go_wp2_with fail
          go_ret2
          exact .inr ⟨by rw [HE2.out]; decide, by rw [HE2.out]; rfl, by rw [HB.out]; exact HBA.out⟩
        · have HE2 := hbad (by omega)
          have g1 : ((n1 : Int) == 0) = false := by rw [beq_eq_false_iff_ne]; omega
          have g2 : (128 : Int) < (n1 : Int) := by omega
          have g2' : decide ((128 : Int) < (n1 : Int)) = true := decide_eq_true g2
          clear hG hbad
          go_wp2_with fail
          go_ret2
          exact .inr ⟨by rw [HE2.out]; decide, by rw [HE2.out]; rfl, by rw [HB.out]; exact HBA.out⟩
        · have HE2 := hbad (by omega)
          have g1 : ((n1 : Int) == 0) = false := by rw [beq_eq_false_iff_ne]; omega
          have g2 : ¬ (128 : Int) < (n1 : Int) := by omega
          have g2' : decide ((128 : Int) < (n1 : Int)) = false := decide_eq_false g2
          subst c
          clear hG hbad
          go_wp2_with fail
          go_ret2
          exact .inr ⟨by rw [HE2.out]; decide, by rw [HE2.out]; rfl, by rw [HB.out]; exact HBA.out⟩
        · have HE2 := hbad (by omega)
          have g1 : ((n1 : Int) == 0) = false := by rw [beq_eq_false_iff_ne]; omega
          have g2 : ¬ (128 : Int) < (n1 : Int) := by omega
          have g2' : decide ((128 : Int) < (n1 : Int)) = false := decide_eq_false g2
          have g3 : ((n2 : Int) == 0) = false := by rw [beq_eq_false_iff_ne]; omega
          have g4 : (1024 : Int) < (n2 : Int) := by omega
          have g4' : decide ((1024 : Int) < (n2 : Int)) = true := decide_eq_true g4
          clear hG hbad
          go_wp2_with fail
          go_ret2
          exact .inr ⟨by rw [HE2.out]; decide, by rw [HE2.out]; rfl, by rw [HB.out]; exact HBA.out⟩
        · have g1 : ((n1 : Int) == 0) = false := by rw [beq_eq_false_iff_ne]; omega
          have g2 : ¬ (128 : Int) < (n1 : Int) := by omega
          have g2' : decide ((128 : Int) < (n1 : Int)) = false := decide_eq_false g2
          have g3 : ((n2 : Int) == 0) = false := by rw [beq_eq_false_iff_ne]; omega
          have g4 : ¬ (1024 : Int) < (n2 : Int) := by omega
          have g4' : decide ((1024 : Int) < (n2 : Int)) = false := decide_eq_false g4
          have HZ := Lib.hid (And.intro c1 (And.intro c2 (And.intro c3 c4)))
          rw [decide_eq_true (And.intro c1 (And.intro c2 (And.intro c3 c4))), if_neg (by decide)] at hG
          have hRA : Rg (wr.alloc (Obj.cells #[Value.string sn, Value.string sk] 51)) B (B + 1) B ps nilS false (l.take i) (List.replicate i 0) := HR.out.same (fun k hk => Below.heap_alloc _ _ _ (HR.out.lt k hk))
          have HRA := Lib.hid hRA
          have r0 := hRA.at0.cell 0 _ rfl
          rw [Nat.zero_add] at r0
          by_cases hdup : e.name ∈ names (l.take i)
          · rw [if_pos hdup] at hG
            have HE2 := Lib.hid hG.symm
            obtain ⟨j, hj⟩ : ∃ j, plc e.name (l.take i) = some j := by
              cases hp : plc e.name (l.take i) with
              | none => exact absurd hdup (plc_none.1 hp)
              | some j => exact ⟨j, rfl⟩
            obtain ⟨p, hp, hb⟩ := blk_some hRA hj
            have lk := Pm.look (w := (wr.alloc (Obj.cells #[Value.string sn, Value.string sk] 51)).drewN 1) hRA.mp sn (by rw [hE.zn]; omega)
            rw [hE.hn, hb] at lk
            replace lk : (Instr.lookup 52 (.map (some B)) (.string sn) false).run Try.prog ((wr.alloc (Obj.cells #[Value.string sn, Value.string sk] 51)).drew) = .ok (.pointer (some ⟨p, 0, none⟩)) ((wr.alloc (Obj.cells #[Value.string sn, Value.string sk] 51)).drew) := lk
            clear hbad hRA hE c1 c2 c3 c4 hG hdup hj hp hb
            go_wp2_with fail
            go_region
            all_goals
              go_wp2_with fail
              go_ret2
              exact .inr ⟨by rw [HE2.out]; decide, by rw [HE2.out]; rfl, by rw [HB.out]; exact HBA.out.drew⟩
          rw [if_neg hdup] at hG
          have hb : blk e.name (l.take i) ps = none := by rw [blk, plc_none.2 hdup]; rfl
          have lk := Pm.look (w := (wr.alloc (Obj.cells #[Value.string sn, Value.string sk] 51)).drewN 1) hRA.mp sn (by rw [hE.zn]; omega)
          rw [hE.hn, hb] at lk
          replace lk : (Instr.lookup 52 (.map (some B)) (.string sn) false).run Try.prog ((wr.alloc (Obj.cells #[Value.string sn, Value.string sk] 51)).drew) = .ok (.pointer none) ((wr.alloc (Obj.cells #[Value.string sn, Value.string sk] 51)).drew) := lk
          have HG2 := Lib.hid hG
          have HD := Lib.hid hdup
          clear hbad hRA hE c1 c2 c3 c4 hG hdup hb
          go_wp2_with fail
          go_region
          go_wp2_with fail
          have HW : Hid (NewI w (wr.alloc (Obj.cells #[Value.string sn, Value.string sk] 51)).drew B wr.heap.size ps (l.take i) (List.replicate i 0) sn sk) := ⟨(At.ofAlloc wr #[Value.string sn, Value.string sk] 51).drew, HRA.out.same (fun k hk => rfl), HBA.out.drew, by have := HS.out; show B ≤ (wr.alloc _).heap.size; simp; omega, by show wr.heap.size < (wr.alloc _).heap.size; simp⟩
          have HTB : Hid (B ≤ wr.heap.size) := HS
          obtain ⟨T, hT⟩ : ∃ T, wr.heap.size = T := ⟨_, rfl⟩
          rw [hT] at HW
          try rw [hT]
          obtain ⟨wa, hwa⟩ : ∃ v, (wr.alloc (Obj.cells #[Value.string sn, Value.string sk] 51)).drew = v := ⟨_, rfl⟩
          rw [hwa] at HW
          try rw [hwa]
          have CN := Lib.hid (fun w => clone_any sn (by have := HX.out.2.2.1.zn; have := HZ.out; omega) w)
          have CK := Lib.hid (fun w => clone_any sk (by have := HX.out.2.2.1.zk; have := HZ.out; omega) w)
          clear hwa hT r0 lk HRA HBA HR HBW HS HTB x0 x1
          have t0 := HW.out.at0.cell 0 _ rfl
          have t1 := HW.out.at0.cell 1 _ rfl
          have r0 := HW.out.rg.at0.cell 0 _ rfl
          rw [Nat.zero_add] at t0 t1 r0
          have HL : Hid ((l.take i).length < 64) := by show (l.take i).length < 64; rw [List.length_take]; have := HI.out; have := H64.out; omega
          go_region_with (first
            | (go_at_call 22; have tok := HW3; clear tok; refine (CK.out _).mono ?_; rintro e2 w4 ⟨rfl, hb4⟩; have hW4 := HW3.out.below hb4; have r04 := hW4.rg.at0.cell 0 _ rfl; have r04a : ∀ ob : Obj, (w4.alloc ob).cell? ⟨B + 1, 0, none⟩ = some (.map (some B)) := (fun ob => by have h9 := (hW4.rg.at0.alloc ob).cell 0 _ rfl; rw [Nat.zero_add] at h9; exact h9); rw [Nat.zero_add] at r04; have hP4 := hW4.put e HX.out.2.2.1.hn HX.out.2.2.2.2 (by have := HX.out.2.2.1.zn; have := HZ.out; omega) HD.out HL.out; obtain ⟨w6, hrun, hR6, hB6, hS6⟩ := hP4; have HR6 := Lib.hid hR6; have HB6 := Lib.hid hB6; have HS6 := Lib.hid hS6; clear hb4 hW4 hR6 hB6 hS6)
            | (go_at_call 22; refine (CN.out _).mono ?_; rintro e1 w3 ⟨rfl, hb3⟩; have hW3 := (HW.out.drewN 1).below hb3; have t03 := hW3.at0.cell 0 _ rfl; have t13 := hW3.at0.cell 1 _ rfl; have r03 := hW3.rg.at0.cell 0 _ rfl; rw [Nat.zero_add] at t03 t13 r03; have HW3 := Lib.hid hW3; clear hb3 hW3))
          all_goals
            have HF : ∃ (j : Nat) (qs : List Nat), ((i : Int) + 1) = (j : Int) ∧ j = i + 1 ∧ j ≤ n ∧ Hid (newGo (l.take j) (l.drop j) = newE l) ∧ Hid (Rg w6 B (B + 1) B qs nilS false (l.take j) (List.replicate j 0)) := ⟨i + 1, _, by omega, rfl, HI.out, by rw [HX.out.2.1]; exact HG2, by rw [HX.out.2.1, List.replicate_succ']; exact HR6⟩
            obtain ⟨j, qs, hj, hji, hjn, HG6, HQ6⟩ := HF
            have HJ := Lib.hid (And.intro hji hjn)
            clear hji hjn
            go_wp2_with fail
            go_roundw
            case rel => exact ⟨j, qs, by go_num, HJ.out.2, HG6, HQ6, HB6, HS6⟩
            case measure => have h9 := HI.out; have h8 := HJ.out; simp [intOf]; omega
      · obtain rfl : i = n := by omega
        have e4 : ¬ (i : Int) < (i : Int) := by omega
        have HG2 : Hid (newE l = 0) := by
          have h9 := HG.out
          rw [List.drop_eq_nil_of_le (by rw [HN.out]; exact Nat.le_refl _), newGo] at h9
          exact h9.symm
        clear hi2 hin
        go_wp2_with fail
        go_ret2
        refine .inl ⟨HG2.out, B + 1, B, ps, rfl, ?_, by rw [HB.out]; exact HBW.out⟩
        have h9 := HR.out
        rw [List.take_of_length_le (by rw [HN.out]; exact Nat.le_refl _)] at h9
        rw [HB.out, HN.out]
        exact h9
end Rn
end Go.Proofs.Ytcegihdgnbjclaa
