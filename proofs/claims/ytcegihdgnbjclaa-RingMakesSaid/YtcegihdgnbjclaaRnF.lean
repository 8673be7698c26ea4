/- Keys by their names: whatever a ring is asked: the walk, whole. -/
import Derived.Test.YtcegihdgnbjclaaRnD
namespace Go.Proofs.Ytcegihdgnbjclaa
open Go.RowKit Go.Maps Go.Sort
open Go.Proofs (encStr)
set_option linter.unusedVariables false
set_option linter.unusedSimpArgs false
namespace Rn
theorem rep_le (n : Nat) : ∀ i, (List.replicate n 0).getD i 0 ≤ 0 := fun i => by
  rw [List.getD, List.getElem?_replicate]
  split <;> simp
theorem onlyN_le {L : List En} {C : List Nat} {K : Nat} (h : ∀ i, C.getD i 0 ≤ K) : ∀ i, (onlyN L C).getD i 0 ≤ K + 1 := by
  intro i
  rcases only_cases L with ⟨e, rfl⟩ | ⟨_, _, _, h4⟩
  · show (C.set 0 (C.getD 0 0 + 1)).getD i 0 ≤ K + 1
    rw [List.getD, List.getElem?_set]
    split
    · split
      · simp only [Option.getD_some]; have := h 0; omega
      · simp
    · exact Nat.le_succ_of_le (h i)
  · rw [h4]; exact Nat.le_succ_of_le (h i)
/-- both rings, what lies beside them kept, how often at most a key was told -/
structure An (w0 w : World) (r b : Nat) (ps : List Nat) (x : Nat) (vL vT : Value) (l : List En) (i : Nat) : Prop where
  ex : ∃ v dn C, Two w0 w r b ps v dn x vL vT l C ∧ ∀ j, C.getD j 0 ≤ i
theorem Kp.at {S : Nat → Prop} {w w1 : World} (h : Kp S w w1) {g o : Nat} {cs : List Value} (hA : At w g o cs) (hg : g < w.heap.size) (hS : ¬ S g) : At w1 g o cs := at_same hA (h.keep g hg hS)
theorem pair_rf {w0 w5 w6 : World} {r b : Nat} {ps : List Nat} {v : Value} {dn : Bool} {x : Nat} {vL vT : Value} {l : List En} {C C' : List Nat} {S : Nat → Prop} (h1 : Rg w5 w0.heap.size r b ps v dn l C') (h2 : Rf w5 w0.heap.size x vL vT l C) (hb : Below w0.heap.size w0 w5) (hap : ∀ k, Rb r b ps v k → ¬ Fb x vL vT k)
    (hR6 : Rf w6 w0.heap.size x vL vT l C') (hK : Kp S w5 w6) (hS : ∀ k, S k → some k = vT.ownBlock) : Two w0 w6 r b ps v dn x vL vT l C' :=
  ⟨h1.same (fun k hk => hK.keep k (h1.lt k hk) (fun hs => hap k hk (.inr (.inr (hS k hs))))), hR6, hb.trans (hK.to (fun k hs => (h2.lt k (.inr (.inr (hS k hs)))).1) hb.size), hap⟩
set_option maxRecDepth 100000 in
set_option maxHeartbeats 6400000 in
theorem ringAnswers_yes (l : List En) (asks : List Qu) (v u : Value) (w : World) (hl : El w v l) (hq : Ql w u asks) (hn : l.length ≤ 4398046510976) (hqn : ∀ q ∈ asks, q.name.length ≤ 140737488351232) (hc : newE l = 0) : Calls Try.prog 4 #[v, u] w (fun e w' => e = .returned (.bool true) ∧ Below w.heap.size w w') := by
  have h64 := (newE_nodup hc).2
  have HL := Lib.hid (And.intro hl hn)
  have hnot : ∀ (x : Bool) (w : World), (Op.unary .not (.bool x)).run Try.prog w = .ok (.bool (!x)) w := fun _ _ => rfl
  have H0 := Lib.hid hc
  have H64 := Lib.hid h64
  obtain ⟨a, cap, rfl, hmem⟩ := hq
  obtain ⟨m, hm0⟩ : ∃ m, asks.length = m := ⟨_, rfl⟩
  have HQ := Lib.hid (And.intro hmem (And.intro hqn hm0))
  rw [hm0]
  clear hn hc hl hmem hqn hm0 h64
  by_cases hbig : 300 < m
  · have e1 : (300 : Int) < (m : Int) := by omega
    have e1b : decide ((300 : Int) < (m : Int)) = true := decide_eq_true e1
    clear hbig
    go_enter Try.func4, Try.ntmps4
    go_wp2_with (first
      | (go_at_call 10; refine (wakes_any w).mono ?_; rintro e w4 ⟨rfl, b4⟩; have H4 := Lib.hid b4; clear b4)
      | (go_at_call 8; refine (copied_any l _ w4 (HL.out.1.below H4.out) HL.out.2).mono ?_; rintro e w1 ⟨v1, rfl, h1, b1⟩; have H1 := Lib.hid (And.intro h1 (H4.out.trans (b1.mono H4.out.size))); clear h1 b1)
      | (go_at_call 7; refine (new_any l v1 w1 (El.own H1.out.1)).mono ?_; rintro e w2 (⟨-, r, b, ps, rfl, hR2, b2⟩ | ⟨hbad, -, -⟩); rotate_left; exact absurd H0.out hbad; have H2 := Lib.hid (H1.out.2.trans (b2.mono H1.out.2.size)); clear b2 hR2)
      | (go_at_call 9; refine (rnew_any l v w2 (HL.out.1.below H2.out)).mono ?_; rintro e w3 (⟨-, x, vL, vT, rfl, hR3, b3⟩ | ⟨hbad, -, -⟩); rotate_left; exact absurd H0.out hbad; have H3 := Lib.hid (H2.out.trans (b3.mono H2.out.size)); clear b3 hR3))
    go_ret
    exact ⟨rfl, H3.out⟩
  · have e1 : ¬ (300 : Int) < (m : Int) := by omega
    have e1b : decide ((300 : Int) < (m : Int)) = false := decide_eq_false e1
    have HMB : Hid (m ≤ 300) := by show m ≤ 300; omega
    clear hbig
    go_enter Try.func4, Try.ntmps4
    go_wp2_with (first
      | (go_at_call 10; refine (wakes_any w).mono ?_; rintro e w4 ⟨rfl, b4⟩; have H4 := Lib.hid b4; clear b4)
      | (go_at_call 8; refine (copied_any l _ w4 (HL.out.1.below H4.out) HL.out.2).mono ?_; rintro e w1 ⟨v1, rfl, h1, b1⟩; have H1 := Lib.hid (And.intro h1 (H4.out.trans (b1.mono H4.out.size))); clear h1 b1)
      | (go_at_call 7; refine (new_any l v1 w1 (El.own H1.out.1)).mono ?_; rintro e w2 (⟨-, r, b, ps, rfl, hR2, b2⟩ | ⟨hbad, -, -⟩); rotate_left; exact absurd H0.out hbad; have H2 := Lib.hid (And.intro hR2 b2); clear b2 hR2)
      | (go_at_call 9; refine (rnew_any l v w2 (HL.out.1.below (H1.out.2.trans (H2.out.2.mono H1.out.2.size)))).mono ?_; rintro e w3 (⟨-, x, vL, vT, rfl, hR3, b3⟩ | ⟨hbad, -, -⟩); rotate_left; exact absurd H0.out hbad; have H3 := Lib.hid (Two.made H1.out.2 H2.out.1 H2.out.2 hR3 b3); clear b3 hR3))
    go_loopw [50] (fun vi wr => ∃ i : Nat, vi = .int .i64 (i : Int) ∧ i ≤ m ∧ Hid (An w wr r b ps x vL vT l i)) (fun vi _ => m - (intOf vi).toNat)
    case atStart => exact ⟨0, rfl, Nat.zero_le _, ⟨_, _, _, H3.out, rep_le _⟩⟩
    case round =>
      obtain ⟨i, rfl, hin, HA⟩ := hrel
      obtain ⟨vv, dn, C, hT, hC⟩ := HA.out.ex
      by_cases hi : i < m
      · have hil : i < asks.length := by rw [HQ.out.2.2]; exact hi
        obtain ⟨kq, oq, rfl, hAq, hkq⟩ := HQ.out.1 (fun h => by rw [h] at hil; cases hil)
        obtain ⟨q, hq⟩ : ∃ q, asks.getD i q0 = q := ⟨_, rfl⟩
        have hX := ask_at hAq i hil
        rw [hq] at hX
        obtain ⟨kd, hkd⟩ : ∃ k, q.kind = k := ⟨_, rfl⟩
        obtain ⟨sq, hsq⟩ : ∃ s : ByteArray, (⟨q.name.toArray⟩ : ByteArray) = s := ⟨_, rfl⟩
        have hqz : sq.size ≤ 140737488351232 := by
          rw [← hsq, size_mk]
          refine HQ.out.2.1 q ?_
          rw [← hq, List.getD, List.getElem?_eq_getElem hil]
          exact List.getElem_mem hil
        rw [qv, hkd, hsq] at hX
        have hXw := hX.below hT.bw hkq
        have x0 := hXw.cell 0 _ rfl
        have x1 := hXw.cell 1 _ rfl
        rw [Nat.add_zero] at x0
        have e2 : (i : Int) < (m : Int) := by omega
        have e3 : (0 : Int) ≤ (i : Int) := by omega
        have e4 : (i : Int) ≤ 300 := by have := HMB.out; omega
        have HI := Lib.hid hi
        have HC := Lib.hid hC
        have hCb : ∀ j, C.getD j 0 ≤ 1000000 := fun j => Nat.le_trans (hC j) (by have := HMB.out; omega)
        have HCB := Lib.hid hCb
        have HZ := Lib.hid hqz
        have hTA : Two w (wr.alloc (Obj.cells #[Value.int .i64 kd, Value.string sq] 38)) r b ps vv dn x vL vT l C := hT.below ((Below.refl _ _).alloc (Nat.le_refl _) _)
        have hTT := At.ofAlloc wr #[Value.int .i64 kd, Value.string sq] 38
        obtain ⟨T, hTe⟩ : ∃ T, wr.heap.size = T := ⟨_, rfl⟩
        have hTlt : T < (wr.alloc (Obj.cells #[Value.int .i64 kd, Value.string sq] 38)).heap.size := by simp; omega
        have hTr : ¬ Rb r b ps vv T := fun hb => by have := hT.rg.lt T hb; omega
        have hTf : ¬ Fb x vL vT T := fun hb => by have := (hT.rf.lt T hb).2; omega
        rw [hTe] at hTT
        have HTA := Lib.hid (And.intro hTA (And.intro hTT (And.intro hTlt (And.intro hTr hTf))))
        clear hX hXw hAq hkq hq hkd hsq hil hi hin hC hCb hqz hTA hTT hTlt hTr hTf HA hT
        rcases (by omega : kd = 0 ∨ kd = 1 ∨ kd = 2 ∨ kd = 3 ∨ (kd ≠ 0 ∧ kd ≠ 1 ∧ kd ≠ 2 ∧ kd ≠ 3)) with rfl | rfl | rfl | rfl | ⟨n0, n1, n2, n3⟩
        · go_wp2_with (first
            | (go_at_call 14; refine (find_any _ _ r b ps vv dn l C HTA.out.1.rg HCB.out sq HZ.out).mono ?_; rintro e w5 ⟨rfl, hR5, hK5⟩; have H5 : Hid (Rg w5 w.heap.size r b ps vv dn l (findN l C sq.toList) ∧ Rf w5 w.heap.size x vL vT l C ∧ Below w.heap.size w w5 ∧ ∀ k, Rb r b ps vv k → ¬ Fb x vL vT k) := ⟨hR5, HTA.out.1.rgs hR5 hK5 (fun k hk => .inr hk) (.inl rfl)⟩; have y1 := (hK5.at HTA.out.2.1 HTA.out.2.2.1 (fun hs => HTA.out.2.2.2.1 (.inr (.inr (.inl hs))))).cell 1 _ rfl; rw [Nat.zero_add] at y1; generalize hkk : (⟨(findK l sq.toList).toArray⟩ : ByteArray) = kk; generalize hcc : findC l sq.toList = cc; have HKK := Lib.hid (And.intro hkk hcc); have s1 : (kk.toList != kk.toList) = false := (by simp); have s2 : (cc != cc) = false := (by simp); clear hkk hcc hR5 hK5)
            | (go_at_call 15; refine (rfind_any w5 _ x vL vT l C H5.out.2.1 sq H64.out HCB.out).mono ?_; rintro e w6 ⟨rfl, hR6, hK6⟩; rw [HKK.out.1, HKK.out.2]; have H6 := Lib.hid (pair_rf H5.out.1 H5.out.2.1 H5.out.2.2.1 H5.out.2.2.2 hR6 hK6 (fun k hk => hk)); clear hR6 hK6))
          go_roundw
          case rel => exact ⟨i + 1, by go_num, HI.out, ⟨vv, dn, _, H6.out, findN_le HC.out⟩⟩
          case measure => have h9 := HI.out; simp [intOf]; omega
        · cases hp : plc sq.toList l with
          | none =>
            have HP := Lib.hid hp
            go_wp2_with fail
            obtain ⟨wA, hwA⟩ : ∃ v, wr.alloc (Obj.cells #[Value.int .i64 1, Value.string sq] 38) = v := ⟨_, rfl⟩
            rw [hwA] at HTA
            try rw [hwA]
            clear hwA hTe x0 x1 hp
            have y1 := HTA.out.2.1.cell 1 _ rfl
            rw [Nat.zero_add] at y1
            have HH := Lib.hid (fun n : Nat => has_any (wA.drewN n) _ r b ps vv dn l C (Two.below HTA.out.1 (w' := wA.drewN n) ⟨rfl, rfl, rfl, Nat.le_refl _, fun _ _ => rfl⟩).rg sq HZ.out)
            have AA := Lib.hid (fun n : Nat => rat_any (wA.drewN n) _ x vL vT l C (Two.below HTA.out.1 (w' := wA.drewN n) ⟨rfl, rfl, rfl, Nat.le_refl _, fun _ _ => rfl⟩).rf sq H64.out)
            simp only [HP.out, Option.isSome, pI] at HH AA
            go_quiet (first | (go_at_call 16; exact (HH.out _).mono fun _ _ h => ⟨h.1, _, h.2⟩) | (go_at_call 17; exact (AA.out _).mono fun _ _ h => ⟨h.1, _, h.2⟩))
            go_wp2_with fail
            go_roundw
            case rel => exact ⟨i + 1, by go_num, HI.out, ⟨vv, dn, C, HTA.out.1.below ⟨rfl, rfl, rfl, Nat.le_refl _, fun _ _ => rfl⟩, fun j => Nat.le_succ_of_le (HC.out j)⟩⟩
            case measure => have h9 := HI.out; simp [intOf]; omega
          | some jj =>
            have hj0 : (0 : Int) ≤ (jj : Int) := by omega
            have hj1 : decide ((0 : Int) ≤ (jj : Int)) = true := decide_eq_true hj0
            have HP := Lib.hid hp
            go_wp2_with fail
            obtain ⟨wA, hwA⟩ : ∃ v, wr.alloc (Obj.cells #[Value.int .i64 1, Value.string sq] 38) = v := ⟨_, rfl⟩
            rw [hwA] at HTA
            try rw [hwA]
            clear hwA hTe x0 x1 hp
            have y1 := HTA.out.2.1.cell 1 _ rfl
            rw [Nat.zero_add] at y1
            have HH := Lib.hid (fun n : Nat => has_any (wA.drewN n) _ r b ps vv dn l C (Two.below HTA.out.1 (w' := wA.drewN n) ⟨rfl, rfl, rfl, Nat.le_refl _, fun _ _ => rfl⟩).rg sq HZ.out)
            have AA := Lib.hid (fun n : Nat => rat_any (wA.drewN n) _ x vL vT l C (Two.below HTA.out.1 (w' := wA.drewN n) ⟨rfl, rfl, rfl, Nat.le_refl _, fun _ _ => rfl⟩).rf sq H64.out)
            simp only [HP.out, Option.isSome, pI] at HH AA
            go_quiet (first | (go_at_call 16; exact (HH.out _).mono fun _ _ h => ⟨h.1, _, h.2⟩) | (go_at_call 17; exact (AA.out _).mono fun _ _ h => ⟨h.1, _, h.2⟩))
            go_wp2_with fail
            go_roundw
            case rel => exact ⟨i + 1, by go_num, HI.out, ⟨vv, dn, C, HTA.out.1.below ⟨rfl, rfl, rfl, Nat.le_refl _, fun _ _ => rfl⟩, fun j => Nat.le_succ_of_le (HC.out j)⟩⟩
            case measure => have h9 := HI.out; simp [intOf]; omega
        · go_wp2_with (first
            | (go_at_call 18; refine (only_any _ _ r b ps vv dn l C HTA.out.1.rg HTA.out.1.bw.size HCB.out (newE_ok H0.out)).mono ?_; rintro e w5 ⟨rfl, v5, dn5, hR5, hK5, hv5⟩; have H5 : Hid (Rg w5 w.heap.size r b ps v5 dn5 l (onlyN l C) ∧ Rf w5 w.heap.size x vL vT l C ∧ Below w.heap.size w w5 ∧ ∀ k, Rb r b ps v5 k → ¬ Fb x vL vT k) := ⟨hR5, HTA.out.1.rgs hR5 hK5 (fun k hk => hk) hv5⟩; generalize hkn : (⟨(onlyE l).name.toArray⟩ : ByteArray) = kn; generalize hkk : (⟨(onlyE l).key.toArray⟩ : ByteArray) = kk; generalize hcc : onlyC l = cc; have HKK := Lib.hid (And.intro hkn (And.intro hkk hcc)); have s0 : (kn.toList != kn.toList) = false := (by simp); have s1 : (kk.toList != kk.toList) = false := (by simp); have s2 : (cc != cc) = false := (by simp); clear hkn hkk hcc hR5 hK5 hv5)
            | (go_at_call 19; refine (ronly_any w5 _ x vL vT l C H5.out.2.1 H64.out HCB.out).mono ?_; rintro e w6 ⟨rfl, hR6, hK6⟩; rw [HKK.out.1, HKK.out.2.1, HKK.out.2.2]; have H6 := Lib.hid (pair_rf H5.out.1 H5.out.2.1 H5.out.2.2.1 H5.out.2.2.2 hR6 hK6 (fun k hk => hk)); clear hR6 hK6))
          go_roundw
          case rel => exact ⟨i + 1, by go_num, HI.out, ⟨v5, dn5, _, H6.out, onlyN_le HC.out⟩⟩
          case measure => have h9 := HI.out; simp [intOf]; omega
        · go_wp2_with (first
            | (go_at_call 12; refine (names_any _ _ r b ps _ _ l _ HTA.out.1.rg HTA.out.1.bw.size).mono ?_; rintro e w5 ⟨v5, u5, rfl, hR5, hK5, hO5, -, hv5⟩; have H5 := Lib.hid (And.intro hR5 (HTA.out.1.rgs hR5 hK5 (fun k hk => .inl hk) hv5)); have HO5 := Lib.hid hO5; clear hR5 hK5 hO5 hv5)
            | (go_at_call 13; refine (rnames_any w5 _ x vL vT l _ H5.out.2.1 H64.out).mono ?_; rintro e w6 ⟨v6, rfl, hO6, b6⟩; have H6 := Lib.hid (And.intro hO6 (And.intro (own_keep HO5.out b6) (Two.below ⟨H5.out.1, H5.out.2.1, H5.out.2.2.1, H5.out.2.2.2⟩ b6))); clear hO6 b6)
            | (go_at_call 11; refine (same_any w6 (srt l) (srt l) _ _ (Sl.of (by rw [srt_len]; exact H6.out.2.1)) (Sl.of (by rw [srt_len]; exact H6.out.1)) (by rw [srt_len]; exact Nat.le_trans H64.out (by decide))).mono ?_; rintro e w7 ⟨rfl, b7⟩; rw [show decide (srt l = srt l) = true by simp]; have H7 := Lib.hid (H6.out.2.2.below b7); clear b7))
          go_roundw
          case rel => exact ⟨i + 1, by go_num, HI.out, ⟨v5, true, _, H7.out, fun j => Nat.le_succ_of_le (HC.out j)⟩⟩
          case measure => have h9 := HI.out; simp [intOf]; omega
        · have k0 : (kd == 0) = false := by rw [beq_eq_false_iff_ne]; exact n0
          have k1 : (kd == 1) = false := by rw [beq_eq_false_iff_ne]; exact n1
          have k2 : (kd == 2) = false := by rw [beq_eq_false_iff_ne]; exact n2
          have k3 : (kd == 3) = false := by rw [beq_eq_false_iff_ne]; exact n3
          have hp : True := trivial
          have HP := Lib.hid hp
          go_wp2_with fail
          obtain ⟨wA, hwA⟩ : ∃ v, wr.alloc (Obj.cells #[Value.int .i64 kd, Value.string sq] 38) = v := ⟨_, rfl⟩
          rw [hwA] at HTA
          try rw [hwA]
          clear hwA hTe x0 x1 hp
          have y1 := HTA.out.2.1.cell 1 _ rfl
          rw [Nat.zero_add] at y1
          have HH := Lib.hid (fun n : Nat => uses_any (wA.drewN n) _ r b ps vv dn l C (Two.below HTA.out.1 (w' := wA.drewN n) ⟨rfl, rfl, rfl, Nat.le_refl _, fun _ _ => rfl⟩).rg sq HZ.out)
          have AA := Lib.hid (fun n : Nat => ruses_any (wA.drewN n) _ x vL vT l C (Two.below HTA.out.1 (w' := wA.drewN n) ⟨rfl, rfl, rfl, Nat.le_refl _, fun _ _ => rfl⟩).rf sq H64.out)
          obtain ⟨un, hun⟩ : ∃ k, usesN l C sq.toList = k := ⟨_, rfl⟩
          rw [hun] at HH AA
          have hu1 : ((un : Int) != (un : Int)) = false := by simp
          clear hun
          go_quiet (first | (go_at_call 20; exact (HH.out _).mono fun _ _ h => ⟨h.1, _, h.2⟩) | (go_at_call 21; exact (AA.out _).mono fun _ _ h => ⟨h.1, _, h.2⟩))
          go_wp2_with fail
          go_roundw
          case rel => exact ⟨i + 1, by go_num, HI.out, ⟨vv, dn, C, HTA.out.1.below ⟨rfl, rfl, rfl, Nat.le_refl _, fun _ _ => rfl⟩, fun j => Nat.le_succ_of_le (HC.out j)⟩⟩
          case measure => have h9 := HI.out; simp [intOf]; omega
      · obtain rfl : i = m := by omega
        have e2 : ¬ (i : Int) < (i : Int) := by omega
        have hB := Lib.hid hT.bw
        clear hi hin hT HA
        go_wp2_with fail
        go_ret
        exact ⟨rfl, hB.out⟩
theorem ringAnswers_walk (l : List En) (asks : List Qu) (v u : Value) (w : World) (hl : El w v l) (hq : Ql w u asks) (hn : l.length ≤ 4398046510976) (hqn : ∀ q ∈ asks, q.name.length ≤ 140737488351232) : Calls Try.prog 4 #[v, u] w (fun e w' => e = .returned (.bool true) ∧ Below w.heap.size w w') := by
  by_cases hc : newE l = 0
  · exact ringAnswers_yes l asks v u w hl hq hn hqn hc
  · exact ringAnswers_no l v u w hl hn hc
end Rn
end Go.Proofs.Ytcegihdgnbjclaa
