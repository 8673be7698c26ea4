import Derived.Test.YtikgonlhdkknkaaGreatDoorCqD
set_option maxRecDepth 100000
set_option maxHeartbeats 1600000
set_option linter.unusedVariables false
set_option linter.unusedSimpArgs false
open Go.Lib (hid)
namespace Go.Proofs.YtikgonlhdkknkaaGreatDoor
open Go.RowKit
namespace Co
open Dr (Rs Lm has lack at0S lackE lackP)
section
variable {S : List UInt8} {L : Lm} {p0 k a b : Nat} {l : List Am} {G : List Fr} {r : Rs (List Am)} {ks : Bool} {la : List UInt8}
theorem step_item {x : List UInt8} (h : RunsG S L (.loop (⟨p0, k, false, false, ks, x⟩ :: G) l b) r) : RunsG S L (.pend (⟨p0, k + 1, false, false, ks, x⟩ :: G) l a b) r :=
 Runs.pend (by rw [pendS, if_neg (fun h => by cases h.1)]; rfl) h
theorem step_val (h : RunsG S L (.loop (⟨p0, k, true, false, ks, la⟩ :: G) l b) r) : RunsG S L (.pend (⟨p0, k + 1, true, true, ks, la⟩ :: G) l a b) r :=
 Runs.pend (by rw [pendS, if_neg (fun h => by cases h.2)]; rfl) h
theorem step_key (h0 : ¬ (ks = true ∧ Op.bytesLess la (Dr.part S a b) = false)) (h : RunsG S L (.loop (⟨p0, k, true, true, true, Dr.part S a b⟩ :: G) l b) r) : RunsG S L (.pend (⟨p0, k, true, false, ks, la⟩ :: G) l a b) r :=
 Runs.pend (by rw [pendS, if_pos ⟨rfl, rfl⟩, if_neg h0]) h
theorem step_keyno (h0 : ks = true ∧ Op.bytesLess la (Dr.part S a b) = false) : RunsG S L (.pend (⟨p0, k, true, false, ks, la⟩ :: G) l a b) (.no 9 a false) :=
 Runs.pendNo (by rw [pendS, if_pos ⟨rfl, rfl⟩, if_pos h0])
theorem loop_open {f : Fr} (h0 : f.left ≠ 0) (h : RunsG S L (.el (f :: G) l a) r) : RunsG S L (.loop (f :: G) l a) r :=
 Runs.loop (by rw [loopS, if_neg h0]; exact h)
theorem loop_shut {f : Fr} (h0 : f.left = 0) (h : RunsG S L (.pend G l f.p0 a) r) : RunsG S L (.loop (f :: G) l a) r :=
 Runs.loop (by rw [loopS, if_pos h0]; exact h)
end
def ItAll (m : Nat) (s : ByteArray) (L : Lm) (ro : Int) (g : Nat) : Prop :=
 ∀ (w : World) (O : List Am) (G : List Fr) (l : List Am) (p : Nat) (d : Nat), s.size - p < m → Gok w g s L ro O G.length → l.length = O.length → p ≤ s.size → G.length ≤ 1000 → G.length = d →
  Calls Tryz.prog 60 #[.pointer (some ⟨g, 0, none⟩), .int .i64 (p : Int), .int .i64 (d : Int)] w (GItem s L ro g O G.length G l p w)
def GIns (s : ByteArray) (L : Lm) (ro : Int) (g : Nat) (O : List Am) (G : List Fr) (l : List Am) (f : Fr) (q : Nat) (w : World) (e : Ending) (w' : World) : Prop :=
 (∃ (N : List Am) (a : Nat), GYes (.tuple #[.int .i64 (a : Int), .bool true]) g s L ro (O ++ N) (G.length + 1) w e w' ∧ q ≤ a ∧ a ≤ s.size ∧ ∀ r, RunsG s.toList L (.pend G (l ++ N) f.p0 a) r → RunsG s.toList L (.loop (f :: G) (l) q) r) ∨
 (∃ c x b, GNay (.tuple #[.int .i64 0, .bool false]) g s L ro c x b w e w' ∧ RunsG s.toList L (.loop (f :: G) l q) (.no c x b))
theorem items_any (m : Nat) (s : ByteArray) (L : Lm) (ro : Int) (g : Nat) (IT : ItAll m s L ro g) (hz : s.size ≤ 140737488351232) (w : World) (O : List Am) (G : List Fr) (l : List Am) (p0 q n d1 : Nat)
  (hR : Gok w g s L ro O (G.length + 1)) (hl : l.length = O.length) (hq : q ≤ s.size) (hm : s.size - q < m) (hn : n < 18446744073709551616) (hG : G.length ≤ 999) (hd : G.length + 1 = d1) :
  Calls Tryz.prog 89 #[.pointer (some ⟨g, 0, none⟩), .int .i64 (q : Int), .int .u64 (n : Int), .int .i64 (d1 : Int)] w (GIns s L ro g O G l ⟨p0, n, false, false, false, []⟩ q w) := by
 have HIT := hid IT
 have HF := hid (aIn hz (aIn hq (aIn hm (aIn hn (aIn hG (aIn hd hl))))))
 have HR := hid hR
 clear IT hz hR hl hq hm hn hG hd
 go_enter Tryz.func89, Tryz.ntmps89
 go_wp2_with fail
 go_loopw [1, 10] (fun va vi wr => ∃ (i a : Nat) (N : List Am), va = .int .i64 (a : Int) ∧ vi = .int .u64 (i : Int) ∧ Hid (i ≤ n ∧ q ≤ a ∧ a ≤ s.size) ∧ Hid (Gok wr g s L ro (O ++ N) (G.length + 1)) ∧ Hid (Below g w wr) ∧ Hid (∀ r, RunsG s.toList L (.loop (⟨p0, n - i, false, false, false, []⟩ :: G) (l ++ N) a) r → RunsG s.toList L (.loop (⟨p0, n, false, false, false, []⟩ :: G) l q) r)) (fun va _ _ => s.size - (intOf va).toNat)
 case atStart => exact ⟨0, q, [], rfl, rfl, ⟨Nat.zero_le _, nle _, HF.out.2.1⟩, (by show Gok _ _ _ _ _ _ _; rw [List.append_nil]; exact HR.out), Below.refl _ _, fun r h => by rw [List.append_nil] at h; exact h⟩
 case round =>
  obtain ⟨i, a, N, rfl, rfl, HI, HQ, HB, HC⟩ := hrel
  clear HR
  by_cases hin : i = n
  ·subst hin
   have e20 : ¬ (i : Int) < (i : Int) := by omega
   have e21 := HI.out
   clear e21
   go_wp2_with fail
   go_ret2
   exact .inl ⟨N, a, ⟨rfl, HQ, HB⟩, HI.out.2.1, HI.out.2.2, fun r h => HC.out r (loop_shut (by show i - i = 0; omega) h)⟩
  ·have hia := HI.out
   have e20 : (i : Int) < (n : Int) := by omega
   have C1 := hid (HIT.out _ (O ++ N) (⟨p0, n - i, false, false, false, []⟩ :: G) (l ++ N) a d1 (by have := HF.out; omega) (by show Gok _ _ _ _ _ _ _; rw [lco]; exact HQ.out) (by rw [lap, lap, HF.out.2.2.2.2.2.2]) hia.2.2 (by rw [lco]; have := HF.out; omega) (by rw [lco]; exact HF.out.2.2.2.2.2.1))
   obtain ⟨j, hj⟩ : ∃ b, i + 1 = b := ⟨_, rfl⟩
   have e23 : (i : Int) + 1 = (j : Int) := by omega
   have e24 : IntKind.u64.wrap (j : Int) = (j : Int) := u64c j (by have := HF.out; omega)
   have HJ : Hid (n - i = (n - j) + 1 ∧ j ≤ n) := ⟨by omega, by omega⟩
   clear hia hin hj
   go_wp2_with fail
   refine C1.out.mono ?_
   rintro e w2 (⟨N2, a2, ⟨rfl, HQ2, hb2⟩, h1, h2, h3⟩ | ⟨c, x, b, ⟨rfl, HQ2, hb2⟩, h3⟩)
   ·have HB2 : Hid (Below g w w2) := HB.out.trans hb2.out
    have HQ3 : Hid (Gok w2 g s L ro (O ++ (N ++ N2)) (G.length + 1)) := by
     show Gok _ _ _ _ _ _ _
     have h9 := HQ2.out
     rw [List.append_assoc, lco] at h9
     exact h9
    have HC2 : Hid (∀ r, RunsG s.toList L (.loop (⟨p0, n - j, false, false, false, []⟩ :: G) (l ++ (N ++ N2)) a2) r → RunsG s.toList L (.loop (⟨p0, n, false, false, false, []⟩ :: G) l q) r) := fun r h => HC.out r (loop_open (by show n - i ≠ 0; have := HJ.out.1; omega) (h3 r (by rw [HJ.out.1, List.append_assoc]; exact step_item h)))
    have HA2 : Hid (a < a2 ∧ a2 ≤ s.size) := ⟨by omega, h2⟩
    clear hb2 h1 h2 h3
    go_wp2_with fail
    go_roundw
    case rel => exact ⟨j, a2, N ++ N2, rfl, rfl, ⟨HJ.out.2, by have := HI.out; have := HA2.out; omega, HA2.out.2⟩, HQ3, HB2, HC2⟩
    case measure => have := HA2.out; simp [intOf]; omega
   ·have HB2 : Hid (Below g w w2) := HB.out.trans hb2.out
    have HC2 := hid (HC.out _ (loop_open (by show n - i ≠ 0; have := HJ.out.1; omega) h3))
    clear hb2 h3
    go_wp2_with fail
    go_ret2
    exact .inr ⟨c, x, b, ⟨rfl, HQ2, HB2⟩, HC2.out⟩
theorem be_nil : ByteArray.empty.toList = [] := by rw [Lib.toList_data]; rfl
theorem pairs_any (m : Nat) (s : ByteArray) (L : Lm) (ro : Int) (g : Nat) (IT : ItAll m s L ro g) (hz : s.size ≤ 140737488351232) (w : World) (O : List Am) (G : List Fr) (l : List Am) (p0 q n d1 : Nat)
  (hR : Gok w g s L ro O (G.length + 1)) (hl : l.length = O.length) (hq : q ≤ s.size) (hm : s.size - q < m) (hn : n < 18446744073709551616) (hG : G.length ≤ 999) (hd : G.length + 1 = d1) :
  Calls Tryz.prog 90 #[.pointer (some ⟨g, 0, none⟩), .int .i64 (q : Int), .int .u64 (n : Int), .int .i64 (d1 : Int)] w (GIns s L ro g O G l ⟨p0, n, true, false, false, []⟩ q w) := by
 have HIT := hid IT
 have HF := hid (aIn hz (aIn hq (aIn hm (aIn hn (aIn hG (aIn hd hl))))))
 have HR := hid hR
 clear IT hz hR hl hq hm hn hG hd
 go_enter Tryz.func90, Tryz.ntmps90
 go_wp2_with fail
 go_loopw [1, 10, 11] (fun va vs vi wr => ∃ (i a : Nat) (N : List Am) (vb : ByteArray), va = .int .i64 (a : Int) ∧ vs = .string vb ∧ vi = .int .u64 (i : Int) ∧ Hid (i ≤ n ∧ q ≤ a ∧ a ≤ s.size) ∧ Hid (Gok wr g s L ro (O ++ N) (G.length + 1)) ∧ Hid (Below g w wr) ∧ Hid (∀ r, RunsG s.toList L (.loop (⟨p0, n - i, true, false, decide (0 < i), vb.toList⟩ :: G) (l ++ N) a) r → RunsG s.toList L (.loop (⟨p0, n, true, false, false, []⟩ :: G) l q) r)) (fun va _ _ _ => s.size - (intOf va).toNat)
 case atStart => exact ⟨0, q, [], ByteArray.empty, rfl, rfl, rfl, ⟨Nat.zero_le _, nle _, HF.out.2.1⟩, (by show Gok _ _ _ _ _ _ _; rw [List.append_nil]; exact HR.out), Below.refl _ _, fun r h => by rw [List.append_nil, be_nil] at h; exact h⟩
 case round =>
  obtain ⟨i, a, N, vb, rfl, rfl, rfl, HI, HQ, HB, HC⟩ := hrel
  clear HR
  by_cases hin : i = n
  ·subst hin
   have e20 : ¬ (i : Int) < (i : Int) := by omega
   go_wp2_with fail
   go_ret2
   exact .inl ⟨N, a, ⟨rfl, HQ, HB⟩, HI.out.2.1, HI.out.2.2, fun r h => HC.out r (loop_shut (by show i - i = 0; omega) h)⟩
  ·have hia := HI.out
   have e20 : (i : Int) < (n : Int) := by omega
   have C1 := hid (HIT.out _ (O ++ N) (⟨p0, n - i, true, false, decide (0 < i), vb.toList⟩ :: G) (l ++ N) a d1 (by have := HF.out; omega) (by show Gok _ _ _ _ _ _ _; rw [lco]; exact HQ.out) (by rw [lap, lap, HF.out.2.2.2.2.2.2]) hia.2.2 (by rw [lco]; have := HF.out; omega) (by rw [lco]; exact HF.out.2.2.2.2.2.1))
   obtain ⟨j, hj⟩ : ∃ b, i + 1 = b := ⟨_, rfl⟩
   have e23 : (i : Int) + 1 = (j : Int) := by omega
   have e24 : IntKind.u64.wrap (j : Int) = (j : Int) := u64c j (by have := HF.out; omega)
   have HJ : Hid (n - i = (n - j) + 1 ∧ j ≤ n ∧ i + 1 = j) := ⟨by omega, by omega, hj⟩
   have HIN : Hid (i ≠ n) := hin
   clear hia hin hj
   go_wp2_with fail
   refine C1.out.mono ?_
   rintro e w2 (⟨N1, a1, ⟨rfl, HQ1, hb2⟩, h1, h2, h3⟩ | ⟨c, x, b, ⟨rfl, HQ2, hb2⟩, h3⟩)
   ·have HB2 : Hid (Below g w w2) := HB.out.trans hb2.out
    have HQ2 : Hid (Gok w2 g s L ro (O ++ (N ++ N1)) (G.length + 1)) := by
     show Gok _ _ _ _ _ _ _
     have h9 := HQ1.out
     rw [List.append_assoc, lco] at h9
     exact h9
    have HC1 : Hid (∀ r, RunsG s.toList L (.pend (⟨p0, n - i, true, false, decide (0 < i), vb.toList⟩ :: G) (l ++ (N ++ N1)) a a1) r → RunsG s.toList L (.el (⟨p0, n - i, true, false, decide (0 < i), vb.toList⟩ :: G) (l ++ N) a) r) := fun r h => h3 r (by rw [List.append_assoc]; exact h)
    have HA1 : Hid (a < a1 ∧ a1 ≤ s.size) := ⟨by omega, h2⟩
    obtain ⟨u, hu⟩ : ∃ u, s.extract a a1 = u := ⟨_, rfl⟩
    have hul : u.toList = Dr.part s.toList a a1 := by rw [← hu, tl_extract]; rfl
    have HUL := hid hul
    have e25 : (a : Int) ≤ (a1 : Int) := by omega
    have e26 : (a1 : Int) ≤ (s.size : Int) := by omega
    have hqa : a ≤ a1 := by omega
    have hqs : a1 ≤ s.size := h2
    have g0 := HQ2.out.txt
    obtain ⟨c, hc⟩ : ∃ c, Op.bytesLess vb.toList u.toList = c := ⟨_, rfl⟩
    have hcmp : (Op.bytesLess u.toList vb.toList || u.toList == vb.toList) = !c := by
     rw [← hc, ← bl_swap2 u.toList vb.toList]
     cases Op.bytesLess u.toList vb.toList <;> cases (u.toList == vb.toList) <;> rfl
    have C2 := hid (HIT.out w2 (O ++ (N ++ N1)) (⟨p0, n - i, true, true, true, Dr.part s.toList a a1⟩ :: G) (l ++ (N ++ N1)) a1 d1 (by have := HF.out; have := HI.out; omega) (by show Gok _ _ _ _ _ _ _; rw [lco]; exact HQ2.out) (by have := HF.out.2.2.2.2.2.2; simp only [lap]; omega) h2 (by rw [lco]; have := HF.out; omega) (by rw [lco]; exact HF.out.2.2.2.2.2.1))
    by_cases h0 : 0 < i
    ·have e30 : (0 : Int) < (i : Int) := by omega
     cases c with
     | false =>
      have HK0 : Hid (decide (0 < i) = true ∧ Op.bytesLess vb.toList (Dr.part s.toList a a1) = false) := ⟨dtr h0, by rw [← hul]; exact hc⟩
      have hcmp : (Op.bytesLess u.toList vb.toList || u.toList == vb.toList) = true := hcmp
      have HC2 := hid (HC.out _ (loop_open (by show n - i ≠ 0; have := HJ.out.1; omega) (HC1.out _ (step_keyno HK0.out))))
      clear hb2 h1 h2 h3 hul hc h0 HQ1
      go_wp2_with (first | (go_at_call 62; refine (gfault17_ok HQ2.out _ _ a rfl).mono ?_; rintro e wf ⟨rfl, HRF, HBF⟩))
      go_ret2
      exact .inr ⟨9, a, false, ⟨rfl, HRF, HB2.out.trans HBF.out⟩, HC2.out⟩
     | true =>
      have HK0 : Hid (¬ (decide (0 < i) = true ∧ Op.bytesLess vb.toList (Dr.part s.toList a a1) = false)) := fun h => by have h9 := h.2; rw [← hul, hc] at h9; cases h9
      have hcmp : (Op.bytesLess u.toList vb.toList || u.toList == vb.toList) = false := hcmp
      clear hb2 h1 h2 h3 hul hc h0 HQ1
      go_wp2_with fail
      refine C2.out.mono ?_
      rintro e w4 (⟨N2, a2, ⟨rfl, HQ4, hb4⟩, h1, h2, h3⟩ | ⟨c, x, b, ⟨rfl, HQ4, hb4⟩, h3⟩)
      ·have HB4 : Hid (Below g w w4) := HB2.out.trans hb4.out
       have HQ5 : Hid (Gok w4 g s L ro (O ++ (N ++ N1 ++ N2)) (G.length + 1)) := by
        show Gok _ _ _ _ _ _ _
        have h9 := HQ4.out
        rw [List.append_assoc, lco] at h9
        exact h9
       have HC2 : Hid (∀ r, RunsG s.toList L (.loop (⟨p0, n - j, true, false, decide (0 < j), u.toList⟩ :: G) (l ++ (N ++ N1 ++ N2)) a2) r → RunsG s.toList L (.loop (⟨p0, n, true, false, false, []⟩ :: G) l q) r) := fun r h => HC.out r (loop_open (by show n - i ≠ 0; have := HJ.out.1; omega) (HC1.out r (step_key HK0.out (loop_open (by show n - i ≠ 0; have := HJ.out.1; omega) (h3 r (by
        rw [HJ.out.1, List.append_assoc]
        refine step_val ?_
        rw [dtr (by have := HJ.out.2.2; omega), HUL.out] at h
        exact h))))))
       have HA2 : Hid (a < a2 ∧ a2 ≤ s.size) := ⟨by have := HA1.out.1; omega, h2⟩
       clear hb4 h1 h2 h3
       go_wp2_with fail
       go_roundw
       case rel => exact ⟨j, a2, N ++ N1 ++ N2, u, rfl, rfl, rfl, ⟨HJ.out.2.1, by have := HI.out; have := HA2.out; omega, HA2.out.2⟩, HQ5, HB4, HC2⟩
       case measure => have := HA2.out; simp [intOf]; omega
      ·have HB4 : Hid (Below g w w4) := HB2.out.trans hb4.out
       have HC2 := hid (HC.out _ (loop_open (by show n - i ≠ 0; have := HJ.out.1; omega) (HC1.out _ (step_key HK0.out (loop_open (by show n - i ≠ 0; have := HJ.out.1; omega) h3)))))
       clear hb4 h3
       go_wp2_with fail
       go_ret2
       exact .inr ⟨c, x, b, ⟨rfl, HQ4, HB4⟩, HC2.out⟩
    ·have e30 : ¬ (0 : Int) < (i : Int) := by omega
     have e30b : decide ((0 : Int) < (i : Int)) = false := dfa e30
     have HK0 : Hid (¬ (decide (0 < i) = true ∧ Op.bytesLess vb.toList (Dr.part s.toList a a1) = false)) := fun h => h0 (of_decide_eq_true h.1)
     clear hb2 h1 h2 h3 hul hc h0 HQ1 hcmp
     go_wp2_with fail
     refine C2.out.mono ?_
     rintro e w4 (⟨N2, a2, ⟨rfl, HQ4, hb4⟩, h1, h2, h3⟩ | ⟨c, x, b, ⟨rfl, HQ4, hb4⟩, h3⟩)
     ·have HB4 : Hid (Below g w w4) := HB2.out.trans hb4.out
      have HQ5 : Hid (Gok w4 g s L ro (O ++ (N ++ N1 ++ N2)) (G.length + 1)) := by
       show Gok _ _ _ _ _ _ _
       have h9 := HQ4.out
       rw [List.append_assoc, lco] at h9
       exact h9
      have HC2 : Hid (∀ r, RunsG s.toList L (.loop (⟨p0, n - j, true, false, decide (0 < j), u.toList⟩ :: G) (l ++ (N ++ N1 ++ N2)) a2) r → RunsG s.toList L (.loop (⟨p0, n, true, false, false, []⟩ :: G) l q) r) := fun r h => HC.out r (loop_open (by show n - i ≠ 0; have := HJ.out.1; omega) (HC1.out r (step_key HK0.out (loop_open (by show n - i ≠ 0; have := HJ.out.1; omega) (h3 r (by
       rw [HJ.out.1, List.append_assoc]
       refine step_val ?_
       rw [dtr (by have := HJ.out.2.2; omega), HUL.out] at h
       exact h))))))
      have HA2 : Hid (a < a2 ∧ a2 ≤ s.size) := ⟨by have := HA1.out.1; omega, h2⟩
      clear hb4 h1 h2 h3
      go_wp2_with fail
      go_roundw
      case rel => exact ⟨j, a2, N ++ N1 ++ N2, u, rfl, rfl, rfl, ⟨HJ.out.2.1, by have := HI.out; have := HA2.out; omega, HA2.out.2⟩, HQ5, HB4, HC2⟩
      case measure => have := HA2.out; simp [intOf]; omega
     ·have HB4 : Hid (Below g w w4) := HB2.out.trans hb4.out
      have HC2 := hid (HC.out _ (loop_open (by show n - i ≠ 0; have := HJ.out.1; omega) (HC1.out _ (step_key HK0.out (loop_open (by show n - i ≠ 0; have := HJ.out.1; omega) h3)))))
      clear hb4 h3
      go_wp2_with fail
      go_ret2
      exact .inr ⟨c, x, b, ⟨rfl, HQ4, HB4⟩, HC2.out⟩
   ·have HB2 : Hid (Below g w w2) := HB.out.trans hb2.out
    have HC2 := hid (HC.out _ (loop_open (by show n - i ≠ 0; have := HJ.out.1; omega) h3))
    clear hb2 h3
    go_wp2_with fail
    go_ret2
    exact .inr ⟨c, x, b, ⟨rfl, HQ2, HB2⟩, HC2.out⟩
end Co
end Go.Proofs.YtikgonlhdkknkaaGreatDoor
namespace Go.Proofs.YtikgonlhdkknkaaGreatDoor
open Go.RowKit
namespace Co
open Dr (Rs Lm has lack at0S lackE lackP)
theorem one_any (m : Nat) (s : ByteArray) (L : Lm) (ro : Int) (g : Nat) (IT : ItAll m s L ro g) (w : World) (O : List Am) (G : List Fr) (l : List Am) (p0 q d1 : Nat)
  (hR : Gok w g s L ro O (G.length + 1)) (hl : l.length = O.length) (hq : q ≤ s.size) (hm : s.size - q < m) (hG : G.length ≤ 999) (hd : G.length + 1 = d1) :
  Calls Tryz.prog 60 #[.pointer (some ⟨g, 0, none⟩), .int .i64 (q : Int), .int .i64 (d1 : Int)] w (GIns s L ro g O G l ⟨p0, 1, false, false, false, []⟩ q w) := by
 refine (IT w O (⟨p0, 1, false, false, false, []⟩ :: G) l q d1 hm hR hl hq (by rw [lco]; omega) hd).mono ?_
 rintro e w2 (⟨N2, a2, h0, h1, h2, h3⟩ | ⟨c, x, b, h0, h3⟩)
 ·exact .inl ⟨N2, a2, h0, by omega, h2, fun r h => loop_open (show (1 : Nat) ≠ 0 by decide) (h3 r (step_item (loop_shut rfl h)))⟩
 ·exact .inr ⟨c, x, b, h0, loop_open (show (1 : Nat) ≠ 0 by decide) h3⟩
section
variable (w : World) (g : Nat) (s : ByteArray) (L : Lm) (ro : Int) (O : List Am) (fr : Nat) (G : List Fr) (l : List Am) (p d : Nat)
theorem gitem_hold4 (hR : Gok w g s L ro O fr) (hl : l.length = O.length) (hz : s.size ≤ 140737488351232) (hLi : L.items ≤ 4096) {n : Nat} (hh : hdR s.toList L l.length p = .ok n) {k : Nat} (hk : kindT (s.toList.getD p 0) = k) {q : Nat} (hq : p + 1 + widT (s.toList.getD p 0) = q) (h5 : k = 4) (hd : d = G.length) (hfr : fr = d) (h6 : ¬ L.depth ≤ G.length) (hLd : L.depth ≤ 32) (mm : Nat) (IT : ItAll mm s L ro g) (hmm : s.size - p < mm + 1) :
  Calls Tryz.prog 60 #[.pointer (some ⟨g, 0, none⟩), .int .i64 (p : Int), .int .i64 (d : Int)] w (GItem s L ro g O fr G l p w) := by
 have H := hid (ghead_any w g s L ro O fr p hR hz)
 rw [← hl, hh] at H
 have H : Hid (Calls Tryz.prog 87 #[.pointer (some ⟨g, 0, none⟩), .int .i64 (p : Int)] w (GYes (.tuple #[.int .i64 (k : Int), .int .u64 (n : Int), .int .i64 (q : Int), .bool true]) g s L ro O fr w)) := by
  have h9 : Calls Tryz.prog 87 #[.pointer (some ⟨g, 0, none⟩), .int .i64 (p : Int)] w (GYes (.tuple #[.int .i64 (kindT (s.toList.getD p 0) : Int), .int .u64 (n : Int), .int .i64 ((p + 1 + widT (s.toList.getD p 0) : Nat) : Int), .bool true]) g s L ro O fr w) := H.out
  rw [hk, hq] at h9
  exact h9
 obtain ⟨h0, hi2, h3, hA⟩ := hdR_ok hh
 obtain ⟨-, -, hn, hqs⟩ := argR_inv h0 h3 hA
 rw [hq, tl_size] at hqs
 have hqb := argR_pb h0 hA
 rw [hq] at hqb
 have hpq : p + 1 ≤ q := by omega
 obtain ⟨m, hm⟩ : ∃ m, O.length = m := ⟨_, rfl⟩
 have HM : Hid (O.length = m ∧ m ≤ 4096) := ⟨hm, by omega⟩
 subst h5 hfr
 have HE : Hid (elS s.toList L Lib.validD G l p = .ok (.loop (⟨p, n, false, false, false, []⟩ :: G) (l ++ [(⟨4, n, []⟩ : Am)]) q)) := elS_ghold (G := G) hh hk hq (by decide) h6
 have e5 : ¬ (L.depth : Int) ≤ (fr : Int) := by omega
 have e5b : decide ((L.depth : Int) ≤ (fr : Int)) = false := dfa e5
 obtain ⟨d1, hd1⟩ : ∃ d1, fr + 1 = d1 := ⟨_, rfl⟩
 have e6 : (fr : Int) + 1 = (d1 : Int) := by omega
 have e7 : IntKind.i64.wrap (d1 : Int) = (d1 : Int) := wrap_fit d1 (by unfold maxLen; omega)
 have e8 : (d1 : Int) - 1 = (fr : Int) := by omega
 have e9 : IntKind.i64.wrap (fr : Int) = (fr : Int) := wrap_fit fr (by unfold maxLen; omega)
 have IN := hid (fun w' (h : Gok w' g s L ro (O ++ [(⟨4, n, []⟩ : Am)]) (G.length + 1)) => items_any mm s L ro g IT hz w' (O ++ [(⟨4, n, []⟩ : Am)]) G (l ++ [(⟨4, n, []⟩ : Am)]) p q n d1 h (by simp only [lap]; omega) hqs (by omega) hn (by omega) (by omega))
 have hd2 : G.length + 1 = d1 := by omega
 rw [hd2] at IN
 have HF := hid (aIn hpq (aIn hqs hd2))
 have HAV : Hid (rv (up (⟨4, n, []⟩ : Am)) = (#[Value.int .i64 4, Value.int .u64 (n : Int), Value.string ⟨#[]⟩]).toList) := rfl
 clear hR hl hz hLi hh hk hq h0 hi2 h3 hA hn hqs hqb hpq hm hd h6 hLd hmm hd1 hd2 IT
 go_enter Tryz.func60, Tryz.ntmps60
 go_wp2_with (first
  | (go_at_call 87; refine H.out.mono ?_; rintro e w1 ⟨rfl, HQ1, HB1⟩; obtain ⟨a1, c1, tk1, HR1, HO1⟩ := HQ1.out.opnM HM.out.1; have k11 := HR1.out.at0.cell 11 _ rfl; have k1 := HR1.out.at0.cell 1 _ rfl)
  | (at_builtin; refine wpList_append_am rfl (.tmp 100) (.tmp 104) rfl (g + 1) _ m (O.map up) rfl (HO1.out.alloc _) _ 1 (up (⟨4, n, []⟩ : Am)) rfl (at_cells HAV.out (At.ofAlloc _ #[Value.int .i64 4, Value.int .u64 (n : Int), Value.string ⟨#[]⟩] 60)) (by have := HM.out.2; omega) (by have := HR1.out.lt; simp; omega) ?_; intro v' w3 hown3 hgrow3; obtain ⟨hf3, ⟨u3, hc3⟩, HQ3, HB3⟩ := gadd_all (y := (⟨4, n, []⟩ : Am)) HR1.out hgrow3 HM.out.1 hown3; obtain ⟨a3, c3, rfl, -⟩ := own_form hown3; clear hown3 hgrow3; obtain ⟨a5, c5, tk5, HR5⟩ := HQ3.out.opn; have k9 := HR5.out.at0.cell 9 _ rfl; have f9 := HR5.out.at0.froz 9 (Nat.le_of_ble_eq_true rfl)))
 have HQ6 : Hid (Gok ((w3.setCell ⟨g, 11, none⟩ (.slice a3 (m + 1) c3)).setCell ⟨g, 9, none⟩ (.int .i64 (d1 : Int))) g s L ro (O ++ [(⟨4, n, []⟩ : Am)]) d1) := ⟨_, _, HR5.out.setC 9 (.int .i64 (d1 : Int)) (fr' := d1) rfl⟩
 have HB6 : Hid (Below g w ((w3.setCell ⟨g, 11, none⟩ (.slice a3 (m + 1) c3)).setCell ⟨g, 9, none⟩ (.int .i64 (d1 : Int)))) := (HB1.out.trans HB3.out).setCell (p := ⟨g, 9, none⟩) (nle _) _
 refine (IN.out _ HQ6.out).mono ?_
 rintro e w7 (⟨N, a, ⟨rfl, HQ7, HB7⟩, h71, h72, h73⟩ | ⟨c7, x7, b7, ⟨rfl, HQ7, HB7⟩, h73⟩)
 ·have HQ7 : Hid (Gok w7 g s L ro (O ++ [(⟨4, n, []⟩ : Am)] ++ N) d1) := (by show Gok _ _ _ _ _ _ _; rw [← HF.out.2.2]; exact HQ7.out)
  obtain ⟨a8, c8, tk8, HR8⟩ := HQ7.out.opn
  have k9b := HR8.out.at0.cell 9 _ rfl
  have f9b := HR8.out.at0.froz 9 (Nat.le_of_ble_eq_true rfl)
  have H71 : Hid (p + 1 ≤ a) := by have := HF.out.1; show p + 1 ≤ a; omega
  go_wp2_with fail
  go_ret2
  have HQ9 : Hid (Gok (w7.setCell ⟨g, 9, none⟩ (.int .i64 (fr : Int))) g s L ro (O ++ ([(⟨4, n, []⟩ : Am)] ++ N)) fr) := by
   show Gok _ _ _ _ _ _ _
   rw [← List.append_assoc]
   exact ⟨_, _, HR8.out.setC 9 (.int .i64 (fr : Int)) (fr' := fr) rfl⟩
  exact .inl ⟨[(⟨4, n, []⟩ : Am)] ++ N, a, ⟨rfl, HQ9, ((HB6.out.trans HB7.out).setCell (p := ⟨g, 9, none⟩) (nle _) _)⟩, H71.out, h72, fun r h => Runs.el HE.out (h73 r (by rw [List.append_assoc]; exact h))⟩
 ·go_wp2_with fail
  go_ret2
  exact .inr ⟨c7, x7, b7, ⟨rfl, HQ7, HB6.out.trans HB7.out⟩, Runs.el HE.out h73⟩
theorem gitem_hold5 (hR : Gok w g s L ro O fr) (hl : l.length = O.length) (hz : s.size ≤ 140737488351232) (hLi : L.items ≤ 4096) {n : Nat} (hh : hdR s.toList L l.length p = .ok n) {k : Nat} (hk : kindT (s.toList.getD p 0) = k) {q : Nat} (hq : p + 1 + widT (s.toList.getD p 0) = q) (h5 : k = 5) (hd : d = G.length) (hfr : fr = d) (h6 : ¬ L.depth ≤ G.length) (hLd : L.depth ≤ 32) (mm : Nat) (IT : ItAll mm s L ro g) (hmm : s.size - p < mm + 1) :
  Calls Tryz.prog 60 #[.pointer (some ⟨g, 0, none⟩), .int .i64 (p : Int), .int .i64 (d : Int)] w (GItem s L ro g O fr G l p w) := by
 have H := hid (ghead_any w g s L ro O fr p hR hz)
 rw [← hl, hh] at H
 have H : Hid (Calls Tryz.prog 87 #[.pointer (some ⟨g, 0, none⟩), .int .i64 (p : Int)] w (GYes (.tuple #[.int .i64 (k : Int), .int .u64 (n : Int), .int .i64 (q : Int), .bool true]) g s L ro O fr w)) := by
  have h9 : Calls Tryz.prog 87 #[.pointer (some ⟨g, 0, none⟩), .int .i64 (p : Int)] w (GYes (.tuple #[.int .i64 (kindT (s.toList.getD p 0) : Int), .int .u64 (n : Int), .int .i64 ((p + 1 + widT (s.toList.getD p 0) : Nat) : Int), .bool true]) g s L ro O fr w) := H.out
  rw [hk, hq] at h9
  exact h9
 obtain ⟨h0, hi2, h3, hA⟩ := hdR_ok hh
 obtain ⟨-, -, hn, hqs⟩ := argR_inv h0 h3 hA
 rw [hq, tl_size] at hqs
 have hqb := argR_pb h0 hA
 rw [hq] at hqb
 have hpq : p + 1 ≤ q := by omega
 obtain ⟨m, hm⟩ : ∃ m, O.length = m := ⟨_, rfl⟩
 have HM : Hid (O.length = m ∧ m ≤ 4096) := ⟨hm, by omega⟩
 subst h5 hfr
 have HE : Hid (elS s.toList L Lib.validD G l p = .ok (.loop (⟨p, n, true, false, false, []⟩ :: G) (l ++ [(⟨5, n, []⟩ : Am)]) q)) := elS_ghold (G := G) hh hk hq (by decide) h6
 have e5 : ¬ (L.depth : Int) ≤ (fr : Int) := by omega
 have e5b : decide ((L.depth : Int) ≤ (fr : Int)) = false := dfa e5
 obtain ⟨d1, hd1⟩ : ∃ d1, fr + 1 = d1 := ⟨_, rfl⟩
 have e6 : (fr : Int) + 1 = (d1 : Int) := by omega
 have e7 : IntKind.i64.wrap (d1 : Int) = (d1 : Int) := wrap_fit d1 (by unfold maxLen; omega)
 have e8 : (d1 : Int) - 1 = (fr : Int) := by omega
 have e9 : IntKind.i64.wrap (fr : Int) = (fr : Int) := wrap_fit fr (by unfold maxLen; omega)
 have IN := hid (fun w' (h : Gok w' g s L ro (O ++ [(⟨5, n, []⟩ : Am)]) (G.length + 1)) => pairs_any mm s L ro g IT hz w' (O ++ [(⟨5, n, []⟩ : Am)]) G (l ++ [(⟨5, n, []⟩ : Am)]) p q n d1 h (by simp only [lap]; omega) hqs (by omega) hn (by omega) (by omega))
 have hd2 : G.length + 1 = d1 := by omega
 rw [hd2] at IN
 have HF := hid (aIn hpq (aIn hqs hd2))
 have HAV : Hid (rv (up (⟨5, n, []⟩ : Am)) = (#[Value.int .i64 5, Value.int .u64 (n : Int), Value.string ⟨#[]⟩]).toList) := rfl
 clear hR hl hz hLi hh hk hq h0 hi2 h3 hA hn hqs hqb hpq hm hd h6 hLd hmm hd1 hd2 IT
 go_enter Tryz.func60, Tryz.ntmps60
 go_wp2_with (first
  | (go_at_call 87; refine H.out.mono ?_; rintro e w1 ⟨rfl, HQ1, HB1⟩; obtain ⟨a1, c1, tk1, HR1, HO1⟩ := HQ1.out.opnM HM.out.1; have k11 := HR1.out.at0.cell 11 _ rfl; have k1 := HR1.out.at0.cell 1 _ rfl)
  | (at_builtin; refine wpList_append_am rfl (.tmp 100) (.tmp 104) rfl (g + 1) _ m (O.map up) rfl (HO1.out.alloc _) _ 1 (up (⟨5, n, []⟩ : Am)) rfl (at_cells HAV.out (At.ofAlloc _ #[Value.int .i64 5, Value.int .u64 (n : Int), Value.string ⟨#[]⟩] 60)) (by have := HM.out.2; omega) (by have := HR1.out.lt; simp; omega) ?_; intro v' w3 hown3 hgrow3; obtain ⟨hf3, ⟨u3, hc3⟩, HQ3, HB3⟩ := gadd_all (y := (⟨5, n, []⟩ : Am)) HR1.out hgrow3 HM.out.1 hown3; obtain ⟨a3, c3, rfl, -⟩ := own_form hown3; clear hown3 hgrow3; obtain ⟨a5, c5, tk5, HR5⟩ := HQ3.out.opn; have k9 := HR5.out.at0.cell 9 _ rfl; have f9 := HR5.out.at0.froz 9 (Nat.le_of_ble_eq_true rfl)))
 have HQ6 : Hid (Gok ((w3.setCell ⟨g, 11, none⟩ (.slice a3 (m + 1) c3)).setCell ⟨g, 9, none⟩ (.int .i64 (d1 : Int))) g s L ro (O ++ [(⟨5, n, []⟩ : Am)]) d1) := ⟨_, _, HR5.out.setC 9 (.int .i64 (d1 : Int)) (fr' := d1) rfl⟩
 have HB6 : Hid (Below g w ((w3.setCell ⟨g, 11, none⟩ (.slice a3 (m + 1) c3)).setCell ⟨g, 9, none⟩ (.int .i64 (d1 : Int)))) := (HB1.out.trans HB3.out).setCell (p := ⟨g, 9, none⟩) (nle _) _
 refine (IN.out _ HQ6.out).mono ?_
 rintro e w7 (⟨N, a, ⟨rfl, HQ7, HB7⟩, h71, h72, h73⟩ | ⟨c7, x7, b7, ⟨rfl, HQ7, HB7⟩, h73⟩)
 ·have HQ7 : Hid (Gok w7 g s L ro (O ++ [(⟨5, n, []⟩ : Am)] ++ N) d1) := (by show Gok _ _ _ _ _ _ _; rw [← HF.out.2.2]; exact HQ7.out)
  obtain ⟨a8, c8, tk8, HR8⟩ := HQ7.out.opn
  have k9b := HR8.out.at0.cell 9 _ rfl
  have f9b := HR8.out.at0.froz 9 (Nat.le_of_ble_eq_true rfl)
  have H71 : Hid (p + 1 ≤ a) := by have := HF.out.1; show p + 1 ≤ a; omega
  go_wp2_with fail
  go_ret2
  have HQ9 : Hid (Gok (w7.setCell ⟨g, 9, none⟩ (.int .i64 (fr : Int))) g s L ro (O ++ ([(⟨5, n, []⟩ : Am)] ++ N)) fr) := by
   show Gok _ _ _ _ _ _ _
   rw [← List.append_assoc]
   exact ⟨_, _, HR8.out.setC 9 (.int .i64 (fr : Int)) (fr' := fr) rfl⟩
  exact .inl ⟨[(⟨5, n, []⟩ : Am)] ++ N, a, ⟨rfl, HQ9, ((HB6.out.trans HB7.out).setCell (p := ⟨g, 9, none⟩) (nle _) _)⟩, H71.out, h72, fun r h => Runs.el HE.out (h73 r (by rw [List.append_assoc]; exact h))⟩
 ·go_wp2_with fail
  go_ret2
  exact .inr ⟨c7, x7, b7, ⟨rfl, HQ7, HB6.out.trans HB7.out⟩, Runs.el HE.out h73⟩
theorem gitem_hold6 (hR : Gok w g s L ro O fr) (hl : l.length = O.length) (hz : s.size ≤ 140737488351232) (hLi : L.items ≤ 4096) {n : Nat} (hh : hdR s.toList L l.length p = .ok n) {k : Nat} (hk : kindT (s.toList.getD p 0) = k) {q : Nat} (hq : p + 1 + widT (s.toList.getD p 0) = q) (h5 : k = 6) (hd : d = G.length) (hfr : fr = d) (h6 : ¬ L.depth ≤ G.length) (hLd : L.depth ≤ 32) (mm : Nat) (IT : ItAll mm s L ro g) (hmm : s.size - p < mm + 1) :
  Calls Tryz.prog 60 #[.pointer (some ⟨g, 0, none⟩), .int .i64 (p : Int), .int .i64 (d : Int)] w (GItem s L ro g O fr G l p w) := by
 have H := hid (ghead_any w g s L ro O fr p hR hz)
 rw [← hl, hh] at H
 have H : Hid (Calls Tryz.prog 87 #[.pointer (some ⟨g, 0, none⟩), .int .i64 (p : Int)] w (GYes (.tuple #[.int .i64 (k : Int), .int .u64 (n : Int), .int .i64 (q : Int), .bool true]) g s L ro O fr w)) := by
  have h9 : Calls Tryz.prog 87 #[.pointer (some ⟨g, 0, none⟩), .int .i64 (p : Int)] w (GYes (.tuple #[.int .i64 (kindT (s.toList.getD p 0) : Int), .int .u64 (n : Int), .int .i64 ((p + 1 + widT (s.toList.getD p 0) : Nat) : Int), .bool true]) g s L ro O fr w) := H.out
  rw [hk, hq] at h9
  exact h9
 obtain ⟨h0, hi2, h3, hA⟩ := hdR_ok hh
 obtain ⟨-, -, hn, hqs⟩ := argR_inv h0 h3 hA
 rw [hq, tl_size] at hqs
 have hqb := argR_pb h0 hA
 rw [hq] at hqb
 have hpq : p + 1 ≤ q := by omega
 obtain ⟨m, hm⟩ : ∃ m, O.length = m := ⟨_, rfl⟩
 have HM : Hid (O.length = m ∧ m ≤ 4096) := ⟨hm, by omega⟩
 subst h5 hfr
 have HE : Hid (elS s.toList L Lib.validD G l p = .ok (.loop (⟨p, 1, false, false, false, []⟩ :: G) (l ++ [(⟨6, n, []⟩ : Am)]) q)) := elS_ghold (G := G) hh hk hq (by decide) h6
 have e5 : ¬ (L.depth : Int) ≤ (fr : Int) := by omega
 have e5b : decide ((L.depth : Int) ≤ (fr : Int)) = false := dfa e5
 obtain ⟨d1, hd1⟩ : ∃ d1, fr + 1 = d1 := ⟨_, rfl⟩
 have e6 : (fr : Int) + 1 = (d1 : Int) := by omega
 have e7 : IntKind.i64.wrap (d1 : Int) = (d1 : Int) := wrap_fit d1 (by unfold maxLen; omega)
 have e8 : (d1 : Int) - 1 = (fr : Int) := by omega
 have e9 : IntKind.i64.wrap (fr : Int) = (fr : Int) := wrap_fit fr (by unfold maxLen; omega)
 have IN := hid (fun w' (h : Gok w' g s L ro (O ++ [(⟨6, n, []⟩ : Am)]) (G.length + 1)) => one_any mm s L ro g IT w' (O ++ [(⟨6, n, []⟩ : Am)]) G (l ++ [(⟨6, n, []⟩ : Am)]) p q d1 h (by simp only [lap]; omega) hqs (by omega) (by omega) (by omega))
 have hd2 : G.length + 1 = d1 := by omega
 rw [hd2] at IN
 have HF := hid (aIn hpq (aIn hqs hd2))
 have HAV : Hid (rv (up (⟨6, n, []⟩ : Am)) = (#[Value.int .i64 6, Value.int .u64 (n : Int), Value.string ⟨#[]⟩]).toList) := rfl
 clear hR hl hz hLi hh hk hq h0 hi2 h3 hA hn hqs hqb hpq hm hd h6 hLd hmm hd1 hd2 IT
 go_enter Tryz.func60, Tryz.ntmps60
 go_wp2_with (first
  | (go_at_call 87; refine H.out.mono ?_; rintro e w1 ⟨rfl, HQ1, HB1⟩; obtain ⟨a1, c1, tk1, HR1, HO1⟩ := HQ1.out.opnM HM.out.1; have k11 := HR1.out.at0.cell 11 _ rfl; have k1 := HR1.out.at0.cell 1 _ rfl)
  | (at_builtin; refine wpList_append_am rfl (.tmp 100) (.tmp 104) rfl (g + 1) _ m (O.map up) rfl (HO1.out.alloc _) _ 1 (up (⟨6, n, []⟩ : Am)) rfl (at_cells HAV.out (At.ofAlloc _ #[Value.int .i64 6, Value.int .u64 (n : Int), Value.string ⟨#[]⟩] 60)) (by have := HM.out.2; omega) (by have := HR1.out.lt; simp; omega) ?_; intro v' w3 hown3 hgrow3; obtain ⟨hf3, ⟨u3, hc3⟩, HQ3, HB3⟩ := gadd_all (y := (⟨6, n, []⟩ : Am)) HR1.out hgrow3 HM.out.1 hown3; obtain ⟨a3, c3, rfl, -⟩ := own_form hown3; clear hown3 hgrow3; obtain ⟨a5, c5, tk5, HR5⟩ := HQ3.out.opn; have k9 := HR5.out.at0.cell 9 _ rfl; have f9 := HR5.out.at0.froz 9 (Nat.le_of_ble_eq_true rfl)))
 have HQ6 : Hid (Gok ((w3.setCell ⟨g, 11, none⟩ (.slice a3 (m + 1) c3)).setCell ⟨g, 9, none⟩ (.int .i64 (d1 : Int))) g s L ro (O ++ [(⟨6, n, []⟩ : Am)]) d1) := ⟨_, _, HR5.out.setC 9 (.int .i64 (d1 : Int)) (fr' := d1) rfl⟩
 have HB6 : Hid (Below g w ((w3.setCell ⟨g, 11, none⟩ (.slice a3 (m + 1) c3)).setCell ⟨g, 9, none⟩ (.int .i64 (d1 : Int)))) := (HB1.out.trans HB3.out).setCell (p := ⟨g, 9, none⟩) (nle _) _
 refine (IN.out _ HQ6.out).mono ?_
 rintro e w7 (⟨N, a, ⟨rfl, HQ7, HB7⟩, h71, h72, h73⟩ | ⟨c7, x7, b7, ⟨rfl, HQ7, HB7⟩, h73⟩)
 ·have HQ7 : Hid (Gok w7 g s L ro (O ++ [(⟨6, n, []⟩ : Am)] ++ N) d1) := (by show Gok _ _ _ _ _ _ _; rw [← HF.out.2.2]; exact HQ7.out)
  obtain ⟨a8, c8, tk8, HR8⟩ := HQ7.out.opn
  have k9b := HR8.out.at0.cell 9 _ rfl
  have f9b := HR8.out.at0.froz 9 (Nat.le_of_ble_eq_true rfl)
  have H71 : Hid (p + 1 ≤ a) := by have := HF.out.1; show p + 1 ≤ a; omega
  go_wp2_with fail
  go_ret2
  have HQ9 : Hid (Gok (w7.setCell ⟨g, 9, none⟩ (.int .i64 (fr : Int))) g s L ro (O ++ ([(⟨6, n, []⟩ : Am)] ++ N)) fr) := by
   show Gok _ _ _ _ _ _ _
   rw [← List.append_assoc]
   exact ⟨_, _, HR8.out.setC 9 (.int .i64 (fr : Int)) (fr' := fr) rfl⟩
  exact .inl ⟨[(⟨6, n, []⟩ : Am)] ++ N, a, ⟨rfl, HQ9, ((HB6.out.trans HB7.out).setCell (p := ⟨g, 9, none⟩) (nle _) _)⟩, H71.out, h72, fun r h => Runs.el HE.out (h73 r (by rw [List.append_assoc]; exact h))⟩
 ·go_wp2_with fail
  go_ret2
  exact .inr ⟨c7, x7, b7, ⟨rfl, HQ7, HB6.out.trans HB7.out⟩, Runs.el HE.out h73⟩
end
theorem item_all (s : ByteArray) (L : Lm) (ro : Int) (g : Nat) (hz : s.size ≤ 140737488351232) (hLi : L.items ≤ 4096) (hLd : L.depth ≤ 32) : ∀ m, ItAll m s L ro g
 | 0 => fun w O G l p d hm => absurd hm (by omega)
 | m + 1 => fun w O G l p d hm hR hl hp hG hd => by
  cases hh : hdR s.toList L l.length p with
  | no c q b => exact gitem_no w g s L ro O G.length G l p d hR hl hz hh
  | ok n =>
   have hk8 : kindT (s.toList.getD p 0) < 8 := by
    have := (s.toList.getD p 0).toNat_lt
    rw [kindT]
    omega
   obtain ⟨k, hk⟩ : ∃ k, kindT (s.toList.getD p 0) = k := ⟨_, rfl⟩
   rw [hk] at hk8
   by_cases h6 : L.depth ≤ G.length
   ·rcases (by omega : k < 2 ∨ k = 2 ∨ k = 3 ∨ (4 ≤ k ∧ k ≤ 6) ∨ k = 7) with h | h | h | h | h
    ·exact gitem_low w g s L ro O G.length G l p d hR hl hz hLi hh hk rfl h
    ·exact gitem_text2 w g s L ro O G.length G l p d hR hl hz hLi hh hk rfl h
    ·exact gitem_text3 w g s L ro O G.length G l p d hR hl hz hLi hh hk rfl h
    ·exact gitem_deep w g s L ro O G.length G l p d hR hl hz hLi hh hk rfl h hd.symm h6
    ·exact gitem_high w g s L ro O G.length G l p d hR hl hz hLi hh hk rfl h
   ·rcases (by omega : k < 2 ∨ k = 2 ∨ k = 3 ∨ k = 4 ∨ k = 5 ∨ k = 6 ∨ k = 7) with h | h | h | h | h | h | h
    ·exact gitem_low w g s L ro O G.length G l p d hR hl hz hLi hh hk rfl h
    ·exact gitem_text2 w g s L ro O G.length G l p d hR hl hz hLi hh hk rfl h
    ·exact gitem_text3 w g s L ro O G.length G l p d hR hl hz hLi hh hk rfl h
    ·exact gitem_hold4 w g s L ro O G.length G l p d hR hl hz hLi hh hk rfl h hd.symm hd h6 hLd m (item_all s L ro g hz hLi hLd m) hm
    ·exact gitem_hold5 w g s L ro O G.length G l p d hR hl hz hLi hh hk rfl h hd.symm hd h6 hLd m (item_all s L ro g hz hLi hLd m) hm
    ·exact gitem_hold6 w g s L ro O G.length G l p d hR hl hz hLi hh hk rfl h hd.symm hd h6 hLd m (item_all s L ro g hz hLi hLd m) hm
    ·exact gitem_high w g s L ro O G.length G l p d hR hl hz hLi hh hk rfl h
end Co
end Go.Proofs.YtikgonlhdkknkaaGreatDoor
