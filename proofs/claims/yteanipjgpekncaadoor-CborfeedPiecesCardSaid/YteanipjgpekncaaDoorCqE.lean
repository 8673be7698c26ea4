/- The document's items and pairs within one that holds them. -/
import Derived.Test.YteanipjgpekncaaDoorCqD
namespace Go.Proofs.YteanipjgpekncaaDoor
open Go.RowKit
set_option linter.unusedVariables false
set_option linter.unusedSimpArgs false
namespace Co
open Dr (Rs Lm has lack at0S lackE lackP)
section
variable {S : List UInt8} {L : Lm} {p0 k a b : Nat} {l : List Am} {G : List Fr} {r : Rs (List Am)} {ks : Bool} {la : List UInt8}
theorem step_item {x : List UInt8} (h : RunsG S L (.loop (⟨p0, k, false, false, ks, x⟩ :: G) l b) r) : RunsG S L (.pend (⟨p0, k + 1, false, false, ks, x⟩ :: G) l a b) r :=
  Runs.pend (by rw [pendS, if_neg (fun h => by cases h.1)]; rfl) h
theorem step_val (h : RunsG S L (.loop (⟨p0, k, true, false, ks, la⟩ :: G) l b) r) : RunsG S L (.pend (⟨p0, k + 1, true, true, ks, la⟩ :: G) l a b) r :=
  Runs.pend (by rw [pendS, if_neg (fun h => by cases h.2)]; rfl) h
theorem step_key (h0 : ¬ (ks = true ∧ Op.bytesLess la (Dr.part S a b) = false)) (h : RunsG S L (.loop (⟨p0, k, true, true, true, Dr.part S a b⟩ :: G) l b) r) : RunsG S L (.pend (⟨p0, k, true, false, ks, la⟩ :: G) l a b) r :=
  Runs.pend (by rw [pendS, if_pos ⟨rfl, rfl⟩, if_neg h0]) h
theorem step_keyno (h0 : ks = true ∧ Op.bytesLess la (Dr.part S a b) = false) : RunsG S L (.pend (⟨p0, k, true, false, ks, la⟩ :: G) l a b) (.no 9 a false) :=
  Runs.pendNo (by rw [pendS, if_pos ⟨rfl, rfl⟩, if_pos h0])
theorem loop_open {f : Fr} (h0 : f.left ≠ 0) (h : RunsG S L (.el (f :: G) l a) r) : RunsG S L (.loop (f :: G) l a) r :=
  Runs.loop (by rw [loopS, if_neg h0]; exact h)
theorem loop_shut {f : Fr} (h0 : f.left = 0) (h : RunsG S L (.pend G l f.p0 a) r) : RunsG S L (.loop (f :: G) l a) r :=
  Runs.loop (by rw [loopS, if_pos h0]; exact h)
end
/-- an item is read, whatever stands around it, if few enough bytes follow -/
def ItAll (m : Nat) (s : ByteArray) (L : Lm) (ro : Int) (g : Nat) : Prop :=
  ∀ (w : World) (O : List Am) (G : List Fr) (l : List Am) (p : Nat) (d : Nat), s.size - p < m → Gok w g s L ro O G.length → l.length = O.length → p ≤ s.size → G.length ≤ 1000 → G.length = d →
    Calls Tryd.prog 51 #[.pointer (some ⟨g, 0, none⟩), .int .i64 (p : Int), .int .i64 (d : Int)] w (GItem s L ro g O G.length G l p w)
def GIns (s : ByteArray) (L : Lm) (ro : Int) (g : Nat) (O : List Am) (G : List Fr) (l : List Am) (f : Fr) (q : Nat) (w : World) (e : Ending) (w' : World) : Prop :=
  (∃ (N : List Am) (a : Nat), GYes (.tuple #[.int .i64 (a : Int), .bool true]) g s L ro (O ++ N) (G.length + 1) w e w' ∧ q ≤ a ∧ a ≤ s.size ∧ ∀ r, RunsG s.toList L (.pend G (l ++ N) f.p0 a) r → RunsG s.toList L (.loop (f :: G) (l) q) r) ∨
  (∃ c x b, GNay (.tuple #[.int .i64 0, .bool false]) g s L ro c x b w e w' ∧ RunsG s.toList L (.loop (f :: G) l q) (.no c x b))
set_option maxRecDepth 100000 in
set_option maxHeartbeats 1600000 in
theorem items_any (m : Nat) (s : ByteArray) (L : Lm) (ro : Int) (g : Nat) (IT : ItAll m s L ro g) (hz : s.size ≤ 140737488351232) (w : World) (O : List Am) (G : List Fr) (l : List Am) (p0 q n d1 : Nat)
    (hR : Gok w g s L ro O (G.length + 1)) (hl : l.length = O.length) (hq : q ≤ s.size) (hm : s.size - q < m) (hn : n < 18446744073709551616) (hG : G.length ≤ 999) (hd : G.length + 1 = d1) :
    Calls Tryd.prog 76 #[.pointer (some ⟨g, 0, none⟩), .int .i64 (q : Int), .int .u64 (n : Int), .int .i64 (d1 : Int)] w (GIns s L ro g O G l ⟨p0, n, false, false, false, []⟩ q w) := by
  have HIT := Lib.hid IT
  have HF := Lib.hid (And.intro hz (And.intro hq (And.intro hm (And.intro hn (And.intro hG (And.intro hd hl))))))
  have HR := Lib.hid hR
  clear IT hz hR hl hq hm hn hG hd
  go_enter Tryd.func76, Tryd.ntmps76
  go_wp2_with fail
  go_loopw [1, 10] (fun va vi wr => ∃ (i a : Nat) (N : List Am), va = .int .i64 (a : Int) ∧ vi = .int .u64 (i : Int) ∧ Hid (i ≤ n ∧ q ≤ a ∧ a ≤ s.size) ∧ Hid (Gok wr g s L ro (O ++ N) (G.length + 1)) ∧ Hid (Below g w wr) ∧ Hid (∀ r, RunsG s.toList L (.loop (⟨p0, n - i, false, false, false, []⟩ :: G) (l ++ N) a) r → RunsG s.toList L (.loop (⟨p0, n, false, false, false, []⟩ :: G) l q) r)) (fun va _ _ => s.size - (intOf va).toNat)
  case atStart => exact ⟨0, q, [], rfl, rfl, ⟨Nat.zero_le _, Nat.le_refl _, HF.out.2.1⟩, (by show Gok _ _ _ _ _ _ _; rw [List.append_nil]; exact HR.out), Below.refl _ _, fun r h => by rw [List.append_nil] at h; exact h⟩
  case round =>
    obtain ⟨i, a, N, rfl, rfl, HI, HQ, HB, HC⟩ := hrel
    clear HR
    by_cases hin : i = n
    · subst hin
      have e20 : ¬ (i : Int) < (i : Int) := by omega
      have e21 := HI.out
      clear e21
      go_wp2_with fail
      go_ret2
      exact .inl ⟨N, a, ⟨rfl, HQ, HB⟩, HI.out.2.1, HI.out.2.2, fun r h => HC.out r (loop_shut (by show i - i = 0; omega) h)⟩
    · have hia := HI.out
      have e20 : (i : Int) < (n : Int) := by omega
      have C1 := Lib.hid (HIT.out _ (O ++ N) (⟨p0, n - i, false, false, false, []⟩ :: G) (l ++ N) a d1 (by have := HF.out; omega) (by show Gok _ _ _ _ _ _ _; rw [List.length_cons]; exact HQ.out) (by rw [List.length_append, List.length_append, HF.out.2.2.2.2.2.2]) hia.2.2 (by rw [List.length_cons]; have := HF.out; omega) (by rw [List.length_cons]; exact HF.out.2.2.2.2.2.1))
      obtain ⟨j, hj⟩ : ∃ b, i + 1 = b := ⟨_, rfl⟩
      have e23 : (i : Int) + 1 = (j : Int) := by omega
      have e24 : IntKind.u64.wrap (j : Int) = (j : Int) := u64c j (by have := HF.out; omega)
      have HJ : Hid (n - i = (n - j) + 1 ∧ j ≤ n) := ⟨by omega, by omega⟩
      clear hia hin hj
      go_wp2_with fail
      refine C1.out.mono ?_
      rintro e w2 (⟨N2, a2, ⟨rfl, HQ2, hb2⟩, h1, h2, h3⟩ | ⟨c, x, b, ⟨rfl, HQ2, hb2⟩, h3⟩)
      · have HB2 : Hid (Below g w w2) := HB.out.trans hb2.out
        have HQ3 : Hid (Gok w2 g s L ro (O ++ (N ++ N2)) (G.length + 1)) := by
          show Gok _ _ _ _ _ _ _
          have h9 := HQ2.out
          rw [List.append_assoc, List.length_cons] at h9
          exact h9
        have HC2 : Hid (∀ r, RunsG s.toList L (.loop (⟨p0, n - j, false, false, false, []⟩ :: G) (l ++ (N ++ N2)) a2) r → RunsG s.toList L (.loop (⟨p0, n, false, false, false, []⟩ :: G) l q) r) := fun r h => HC.out r (loop_open (by show n - i ≠ 0; have := HJ.out.1; omega) (h3 r (by rw [HJ.out.1, List.append_assoc]; exact step_item h)))
        have HA2 : Hid (a < a2 ∧ a2 ≤ s.size) := ⟨by omega, h2⟩
        clear hb2 h1 h2 h3
        go_wp2_with fail
        go_roundw
        case rel => exact ⟨j, a2, N ++ N2, rfl, rfl, ⟨HJ.out.2, by have := HI.out; have := HA2.out; omega, HA2.out.2⟩, HQ3, HB2, HC2⟩
        case measure => have := HA2.out; simp [intOf]; omega
      · have HB2 : Hid (Below g w w2) := HB.out.trans hb2.out
        have HC2 := Lib.hid (HC.out _ (loop_open (by show n - i ≠ 0; have := HJ.out.1; omega) h3))
        clear hb2 h3
        go_wp2_with fail
        go_ret2
        exact .inr ⟨c, x, b, ⟨rfl, HQ2, HB2⟩, HC2.out⟩
theorem be_nil : ByteArray.empty.toList = [] := by rw [Lib.toList_data]; rfl
set_option maxRecDepth 100000 in
set_option maxHeartbeats 1600000 in
theorem pairs_any (m : Nat) (s : ByteArray) (L : Lm) (ro : Int) (g : Nat) (IT : ItAll m s L ro g) (hz : s.size ≤ 140737488351232) (w : World) (O : List Am) (G : List Fr) (l : List Am) (p0 q n d1 : Nat)
    (hR : Gok w g s L ro O (G.length + 1)) (hl : l.length = O.length) (hq : q ≤ s.size) (hm : s.size - q < m) (hn : n < 18446744073709551616) (hG : G.length ≤ 999) (hd : G.length + 1 = d1) :
    Calls Tryd.prog 77 #[.pointer (some ⟨g, 0, none⟩), .int .i64 (q : Int), .int .u64 (n : Int), .int .i64 (d1 : Int)] w (GIns s L ro g O G l ⟨p0, n, true, false, false, []⟩ q w) := by
  have HIT := Lib.hid IT
  have HF := Lib.hid (And.intro hz (And.intro hq (And.intro hm (And.intro hn (And.intro hG (And.intro hd hl))))))
  have HR := Lib.hid hR
  clear IT hz hR hl hq hm hn hG hd
  go_enter Tryd.func77, Tryd.ntmps77
  go_wp2_with fail
  go_loopw [1, 10, 11] (fun va vs vi wr => ∃ (i a : Nat) (N : List Am) (vb : ByteArray), va = .int .i64 (a : Int) ∧ vs = .string vb ∧ vi = .int .u64 (i : Int) ∧ Hid (i ≤ n ∧ q ≤ a ∧ a ≤ s.size) ∧ Hid (Gok wr g s L ro (O ++ N) (G.length + 1)) ∧ Hid (Below g w wr) ∧ Hid (∀ r, RunsG s.toList L (.loop (⟨p0, n - i, true, false, decide (0 < i), vb.toList⟩ :: G) (l ++ N) a) r → RunsG s.toList L (.loop (⟨p0, n, true, false, false, []⟩ :: G) l q) r)) (fun va _ _ _ => s.size - (intOf va).toNat)
  case atStart => exact ⟨0, q, [], ByteArray.empty, rfl, rfl, rfl, ⟨Nat.zero_le _, Nat.le_refl _, HF.out.2.1⟩, (by show Gok _ _ _ _ _ _ _; rw [List.append_nil]; exact HR.out), Below.refl _ _, fun r h => by rw [List.append_nil, be_nil] at h; exact h⟩
  case round =>
    obtain ⟨i, a, N, vb, rfl, rfl, rfl, HI, HQ, HB, HC⟩ := hrel
    clear HR
    by_cases hin : i = n
    · subst hin
      have e20 : ¬ (i : Int) < (i : Int) := by omega
      go_wp2_with fail
      go_ret2
      exact .inl ⟨N, a, ⟨rfl, HQ, HB⟩, HI.out.2.1, HI.out.2.2, fun r h => HC.out r (loop_shut (by show i - i = 0; omega) h)⟩
    · have hia := HI.out
      have e20 : (i : Int) < (n : Int) := by omega
      have C1 := Lib.hid (HIT.out _ (O ++ N) (⟨p0, n - i, true, false, decide (0 < i), vb.toList⟩ :: G) (l ++ N) a d1 (by have := HF.out; omega) (by show Gok _ _ _ _ _ _ _; rw [List.length_cons]; exact HQ.out) (by rw [List.length_append, List.length_append, HF.out.2.2.2.2.2.2]) hia.2.2 (by rw [List.length_cons]; have := HF.out; omega) (by rw [List.length_cons]; exact HF.out.2.2.2.2.2.1))
      obtain ⟨j, hj⟩ : ∃ b, i + 1 = b := ⟨_, rfl⟩
      have e23 : (i : Int) + 1 = (j : Int) := by omega
      have e24 : IntKind.u64.wrap (j : Int) = (j : Int) := u64c j (by have := HF.out; omega)
      have HJ : Hid (n - i = (n - j) + 1 ∧ j ≤ n ∧ i + 1 = j) := ⟨by omega, by omega, hj⟩
      have HIN : Hid (i ≠ n) := hin
      clear hia hin hj
      go_wp2_with fail
      refine C1.out.mono ?_
      rintro e w2 (⟨N1, a1, ⟨rfl, HQ1, hb2⟩, h1, h2, h3⟩ | ⟨c, x, b, ⟨rfl, HQ2, hb2⟩, h3⟩)
      · have HB2 : Hid (Below g w w2) := HB.out.trans hb2.out
        have HQ2 : Hid (Gok w2 g s L ro (O ++ (N ++ N1)) (G.length + 1)) := by
          show Gok _ _ _ _ _ _ _
          have h9 := HQ1.out
          rw [List.append_assoc, List.length_cons] at h9
          exact h9
        have HC1 : Hid (∀ r, RunsG s.toList L (.pend (⟨p0, n - i, true, false, decide (0 < i), vb.toList⟩ :: G) (l ++ (N ++ N1)) a a1) r → RunsG s.toList L (.el (⟨p0, n - i, true, false, decide (0 < i), vb.toList⟩ :: G) (l ++ N) a) r) := fun r h => h3 r (by rw [List.append_assoc]; exact h)
        have HA1 : Hid (a < a1 ∧ a1 ≤ s.size) := ⟨by omega, h2⟩
        obtain ⟨u, hu⟩ : ∃ u, s.extract a a1 = u := ⟨_, rfl⟩
        have hul : u.toList = Dr.part s.toList a a1 := by rw [← hu, tl_extract]; rfl
        have HUL := Lib.hid hul
        have e25 : (a : Int) ≤ (a1 : Int) := by omega
        have e26 : (a1 : Int) ≤ (s.size : Int) := by omega
        have hqa : a ≤ a1 := by omega
        have hqs : a1 ≤ s.size := h2
        have g0 := HQ2.out.txt
        obtain ⟨c, hc⟩ : ∃ c, Op.bytesLess vb.toList u.toList = c := ⟨_, rfl⟩
        have hcmp : (Op.bytesLess u.toList vb.toList || u.toList == vb.toList) = !c := by
          rw [← hc, ← bl_swap2 u.toList vb.toList]
          cases Op.bytesLess u.toList vb.toList <;> cases (u.toList == vb.toList) <;> rfl
        have C2 := Lib.hid (HIT.out w2 (O ++ (N ++ N1)) (⟨p0, n - i, true, true, true, Dr.part s.toList a a1⟩ :: G) (l ++ (N ++ N1)) a1 d1 (by have := HF.out; have := HI.out; omega) (by show Gok _ _ _ _ _ _ _; rw [List.length_cons]; exact HQ2.out) (by have := HF.out.2.2.2.2.2.2; simp only [List.length_append]; omega) h2 (by rw [List.length_cons]; have := HF.out; omega) (by rw [List.length_cons]; exact HF.out.2.2.2.2.2.1))
        by_cases h0 : 0 < i
        · have e30 : (0 : Int) < (i : Int) := by omega
          cases c with
          | false =>
            have HK0 : Hid (decide (0 < i) = true ∧ Op.bytesLess vb.toList (Dr.part s.toList a a1) = false) := ⟨decide_eq_true h0, by rw [← hul]; exact hc⟩
            have hcmp : (Op.bytesLess u.toList vb.toList || u.toList == vb.toList) = true := hcmp
            have HC2 := Lib.hid (HC.out _ (loop_open (by show n - i ≠ 0; have := HJ.out.1; omega) (HC1.out _ (step_keyno HK0.out))))
            clear hb2 h1 h2 h3 hul hc h0 HQ1
            go_wp2_with (first | (go_at_call 53; refine (gfault17_ok HQ2.out _ _ a rfl).mono ?_; rintro e wf ⟨rfl, HRF, HBF⟩))
            go_ret2
            exact .inr ⟨9, a, false, ⟨rfl, HRF, HB2.out.trans HBF.out⟩, HC2.out⟩
          | true =>
            have HK0 : Hid (¬ (decide (0 < i) = true ∧ Op.bytesLess vb.toList (Dr.part s.toList a a1) = false)) := fun h => by have h9 := h.2; rw [← hul, hc] at h9; cases h9
            have hcmp : (Op.bytesLess u.toList vb.toList || u.toList == vb.toList) = false := hcmp
            clear hb2 h1 h2 h3 hul hc h0 HQ1
            go_wp2_with fail
            refine C2.out.mono ?_
            rintro e w4 (⟨N2, a2, ⟨rfl, HQ4, hb4⟩, h1, h2, h3⟩ | ⟨c, x, b, ⟨rfl, HQ4, hb4⟩, h3⟩)
            · have HB4 : Hid (Below g w w4) := HB2.out.trans hb4.out
              have HQ5 : Hid (Gok w4 g s L ro (O ++ (N ++ N1 ++ N2)) (G.length + 1)) := by
                show Gok _ _ _ _ _ _ _
                have h9 := HQ4.out
                rw [List.append_assoc, List.length_cons] at h9
                exact h9
              have HC2 : Hid (∀ r, RunsG s.toList L (.loop (⟨p0, n - j, true, false, decide (0 < j), u.toList⟩ :: G) (l ++ (N ++ N1 ++ N2)) a2) r → RunsG s.toList L (.loop (⟨p0, n, true, false, false, []⟩ :: G) l q) r) := fun r h => HC.out r (loop_open (by show n - i ≠ 0; have := HJ.out.1; omega) (HC1.out r (step_key HK0.out (loop_open (by show n - i ≠ 0; have := HJ.out.1; omega) (h3 r (by
                rw [HJ.out.1, List.append_assoc]
                refine step_val ?_
                rw [decide_eq_true (by have := HJ.out.2.2; omega), HUL.out] at h
                exact h))))))
              have HA2 : Hid (a < a2 ∧ a2 ≤ s.size) := ⟨by have := HA1.out.1; omega, h2⟩
              clear hb4 h1 h2 h3
              go_wp2_with fail
              go_roundw
              case rel => exact ⟨j, a2, N ++ N1 ++ N2, u, rfl, rfl, rfl, ⟨HJ.out.2.1, by have := HI.out; have := HA2.out; omega, HA2.out.2⟩, HQ5, HB4, HC2⟩
              case measure => have := HA2.out; simp [intOf]; omega
            · have HB4 : Hid (Below g w w4) := HB2.out.trans hb4.out
              have HC2 := Lib.hid (HC.out _ (loop_open (by show n - i ≠ 0; have := HJ.out.1; omega) (HC1.out _ (step_key HK0.out (loop_open (by show n - i ≠ 0; have := HJ.out.1; omega) h3)))))
              clear hb4 h3
              go_wp2_with fail
              go_ret2
              exact .inr ⟨c, x, b, ⟨rfl, HQ4, HB4⟩, HC2.out⟩
        · have e30 : ¬ (0 : Int) < (i : Int) := by omega
          have e30b : decide ((0 : Int) < (i : Int)) = false := decide_eq_false e30
          have HK0 : Hid (¬ (decide (0 < i) = true ∧ Op.bytesLess vb.toList (Dr.part s.toList a a1) = false)) := fun h => h0 (of_decide_eq_true h.1)
          clear hb2 h1 h2 h3 hul hc h0 HQ1 hcmp
          go_wp2_with fail
          refine C2.out.mono ?_
          rintro e w4 (⟨N2, a2, ⟨rfl, HQ4, hb4⟩, h1, h2, h3⟩ | ⟨c, x, b, ⟨rfl, HQ4, hb4⟩, h3⟩)
          · have HB4 : Hid (Below g w w4) := HB2.out.trans hb4.out
            have HQ5 : Hid (Gok w4 g s L ro (O ++ (N ++ N1 ++ N2)) (G.length + 1)) := by
              show Gok _ _ _ _ _ _ _
              have h9 := HQ4.out
              rw [List.append_assoc, List.length_cons] at h9
              exact h9
            have HC2 : Hid (∀ r, RunsG s.toList L (.loop (⟨p0, n - j, true, false, decide (0 < j), u.toList⟩ :: G) (l ++ (N ++ N1 ++ N2)) a2) r → RunsG s.toList L (.loop (⟨p0, n, true, false, false, []⟩ :: G) l q) r) := fun r h => HC.out r (loop_open (by show n - i ≠ 0; have := HJ.out.1; omega) (HC1.out r (step_key HK0.out (loop_open (by show n - i ≠ 0; have := HJ.out.1; omega) (h3 r (by
              rw [HJ.out.1, List.append_assoc]
              refine step_val ?_
              rw [decide_eq_true (by have := HJ.out.2.2; omega), HUL.out] at h
              exact h))))))
            have HA2 : Hid (a < a2 ∧ a2 ≤ s.size) := ⟨by have := HA1.out.1; omega, h2⟩
            clear hb4 h1 h2 h3
            go_wp2_with fail
            go_roundw
            case rel => exact ⟨j, a2, N ++ N1 ++ N2, u, rfl, rfl, rfl, ⟨HJ.out.2.1, by have := HI.out; have := HA2.out; omega, HA2.out.2⟩, HQ5, HB4, HC2⟩
            case measure => have := HA2.out; simp [intOf]; omega
          · have HB4 : Hid (Below g w w4) := HB2.out.trans hb4.out
            have HC2 := Lib.hid (HC.out _ (loop_open (by show n - i ≠ 0; have := HJ.out.1; omega) (HC1.out _ (step_key HK0.out (loop_open (by show n - i ≠ 0; have := HJ.out.1; omega) h3)))))
            clear hb4 h3
            go_wp2_with fail
            go_ret2
            exact .inr ⟨c, x, b, ⟨rfl, HQ4, HB4⟩, HC2.out⟩
      · have HB2 : Hid (Below g w w2) := HB.out.trans hb2.out
        have HC2 := Lib.hid (HC.out _ (loop_open (by show n - i ≠ 0; have := HJ.out.1; omega) h3))
        clear hb2 h3
        go_wp2_with fail
        go_ret2
        exact .inr ⟨c, x, b, ⟨rfl, HQ2, HB2⟩, HC2.out⟩
end Co
end Go.Proofs.YteanipjgpekncaaDoor
