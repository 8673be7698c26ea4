/- The document's Make, of kind 384. -/
import Derived.Test.YtjlmmlnldjandaaGreatDoorShF
import Derived.Deep.CutRange
namespace Go.Proofs.YtjlmmlnldjandaaGreatDoor
open Go.RowKit
set_option linter.unusedVariables false
set_option linter.unusedSimpArgs false
set_option maxRecDepth 100000 in
set_option maxHeartbeats 64000000 in
theorem make384 (w : World) : Calls Tryz.prog 57 #[.int .i64 384] w (fun e w' => ∃ v, e = .returned (.pointer (some ⟨w.heap.size, 0, none⟩)) ∧ Mk w w' 384 64 v (kpL 64 Sh.primes) (bgL 64 8 Sh.primes)) := by
  obtain ⟨i0, hi, hz0, hz1, hz2⟩ := info_parts infoU
  go_enter Tryz.func57, Tryz.ntmps57
  go_wp2_with fail
  obtain ⟨w0, hw0, hM⟩ := mk384_by w
  rw [hw0]
  clear hw0
  go_loopw [5, 6] (fun nv pv wr => ∃ (p n : Nat) (v : Value), 2 ≤ p ∧ p ≤ 410 ∧ pv = .int .u64 (p : Int) ∧ nv = .int .i64 (n : Int) ∧ n = (Sh.ps p).length ∧ Mk w wr 384 64 v (kpL 64 (Sh.ps p)) (bgL 64 8 (Sh.ps p))) (fun _ pv _ => 410 - (intOf pv).toNat)
  case atStart => exact ⟨2, 0, _, by omega, by omega, rfl, rfl, by decide +kernel, hM⟩
  case round =>
    clear hM
    obtain ⟨p, n, v, hp2, hp, rfl, rfl, hn, hM⟩ := hrel
    by_cases hlt : n < 80
    · have hp410 : p < 410 := by
        refine Nat.lt_of_le_of_ne hp fun h => ?_
        rw [h, Sh.ps_top] at hn
        omega
      have HN := Lib.hid hn
      have HM := Lib.hid hM
      clear hn hM
      go_wp2_with fail
      rw [show decide ((n : Int) < 80) = true from decide_eq_true (by omega)]
      go_loopw [7, 8] (fun bv qv w2 => ∃ (q : Nat) (pr : Bool), 2 ≤ q ∧ q ≤ p + 1 ∧ qv = .int .u64 (q : Int) ∧ bv = .bool pr ∧ pr = (List.range q).all (Sh.okq p) ∧ w2 = wr) (fun _ qv _ => p + 1 - (intOf qv).toNat)
      case atStart => exact ⟨2, true, by omega, by omega, rfl, rfl, rfl, rfl⟩
      case round =>
        obtain ⟨q, pr, hq2, hq, rfl, rfl, hpr, rfl⟩ := hrel
        obtain ⟨mm, hmm⟩ : ∃ m, q * q = m := ⟨_, rfl⟩
        have hqq : q ≤ mm := by rw [← hmm]; exact Nat.le_mul_self q
        have hmb : mm ≤ 411 * 411 := by rw [← hmm]; exact Nat.mul_le_mul (by omega) (by omega)
        have r1 : (q : Int) * (q : Int) = (mm : Int) := by rw [← hmm]; simp
        have r2 : IntKind.u64.wrap (mm : Int) = (mm : Int) := u64_fit _ (by omega)
        by_cases hle : mm ≤ p
        · have r3 : (mm : Int) ≤ (p : Int) := by omega
          have hok : Sh.okq p q = (p % q != 0) := by
            rw [Sh.okq, hmm, show decide (q < 2) = false by simp; omega, show decide (p < mm) = false by simp; omega]
            rfl
          have hst := Sh.prime_step p q
          rw [← hpr, hok] at hst
          obtain ⟨r, hr⟩ : ∃ r, p % q = r := ⟨_, rfl⟩
          rw [hr] at hst
          have r4 : (p : Int).tmod (q : Int) = (r : Int) := u64_tmod p q r hr
          have r5 : (q : Int) ≠ 0 := by omega
          have hrl : r < q := by rw [← hr]; exact Nat.mod_lt _ (by omega)
          have r6 : IntKind.u64.wrap (r : Int) = (r : Int) := u64_fit _ (by omega)
          have r7 : IntKind.u64.wrap ((q : Int) + 1) = (q : Int) + 1 := by
            have := u64_fit (q + 1) (by omega)
            simpa using this
          have hqp : q + 1 ≤ p + 1 := by omega
          by_cases h0 : r = 0
          · have r8 : ((r : Int) == 0) = true := by rw [beq_iff_eq]; omega
            have HST : Hid (false = (List.range (q + 1)).all (Sh.okq p)) := by show _ = _; rw [hst, h0]; simp
            clear hst hpr hr hok hmm hqq hmb hrl hle
            go_wp2_with fail
            go_roundw
            case rel => exact ⟨q + 1, false, by omega, hqp, by go_num, rfl, HST.out, by first | rfl | trivial⟩
            case measure => simp [intOf]; omega
          · have r8 : ((r : Int) == 0) = false := by rw [beq_eq_false_iff_ne]; omega
            have HST : Hid (pr = (List.range (q + 1)).all (Sh.okq p)) := by show _ = _; rw [hst, show (r != 0) = true by rw [bne_iff_ne]; exact h0]; simp
            clear hst hpr hr hok hmm hqq hmb hrl hle h0
            go_wp2_with fail
            go_roundw
            case rel => exact ⟨q + 1, pr, by omega, hqp, by go_num, rfl, HST.out, by first | rfl | trivial⟩
            case measure => simp [intOf]; omega
        · have r3 : ¬ (mm : Int) ≤ (p : Int) := by omega
          have hend := Sh.prime_end p q (by omega) hq
          rw [← hpr] at hend
          have hstep := Sh.ps_step p hp2
          have p1 : IntKind.u64.wrap ((p : Int) + 1) = (p : Int) + 1 := by
            have := u64_fit (p + 1) (by omega)
            simpa using this
          clear hpr hmm hqq hmb hle
          cases hP : Sh.isPrime p
          · rw [hP] at hend hstep
            subst hend
            rw [if_neg (by decide)] at hstep
            have HSTEP := Lib.hid hstep
            clear hstep hP
            go_wp2_with fail
            go_roundw
            case rel => exact ⟨p + 1, n, v, by omega, by omega, by go_num, rfl, by rw [HSTEP.out]; exact HN.out, by rw [HSTEP.out]; exact HM.out⟩
            case measure => simp [intOf]; omega
          · rw [hP] at hend hstep
            subst hend
            rw [if_pos rfl] at hstep
            have HSTEP := Lib.hid hstep
            clear hstep hP
            have rr : wr.cell? ⟨w.heap.size, 3, none⟩ = some (.int .i64 ((Sh.rounds 64 : Nat) : Int)) := HM.out.hd.cell 3 _ rfl
            rw [show ((Sh.rounds 64 : Nat) : Int) = 80 from rfl] at rr
            go_upto_if 51 with fail
            clear rr
            go_cut [] from 51 to 64 (fun w5 => ∃ v', Mk w w5 384 64 v' (kpL 64 (Sh.ps (p + 1))) (bgL 64 8 (Sh.ps p)))
            case first =>
              obtain ⟨cc, hcc⟩ : ∃ c, Sh.cut 64 (Sh.root p 3) = c := ⟨_, rfl⟩
              have CC := Lib.hid (fun (w3 : World) (hk3 : w3.cell? ⟨w.heap.size, 0, none⟩ = some (.int .i64 384)) => cut_any w.heap.size (Sh.root p 3) 64 384 w3 hk3 (.inr ⟨by decide, rfl⟩))
              rw [hcc] at CC
              have RT := Lib.hid (fun w3 => root3_any p (by omega) w3)
              obtain ⟨N, hNN⟩ : ∃ N, (kpL 64 (Sh.ps p)).length = N := ⟨_, rfl⟩
              have hN80 : N ≤ 80 := by rw [← hNN, kpL, List.length_map, List.length_take]; have := HN.out; omega
              have c40 := HM.out.kv.cell 0 _ rfl
              have HNN := Lib.hid hNN
              have HKP : Hid (kpL 64 (Sh.ps (p + 1)) = kpL 64 (Sh.ps p) ++ [cc]) := by show _ = _; rw [HSTEP.out, kpL_more 64 _ _ (by have := HN.out; show _ < 80; omega), hcc]
              clear hNN hcc
              go_wp2_with fail
              go_region_law (first
                | (refine step_append_gen rfl (.tmp 56) (.tmp 61) 101 rfl (w.heap.size + 1) 47 i0 (.int .u64 0) 1 8 Tryz.underlying101 hi hz0 hz1 hz2 rfl (by decide) v N (ucells (kpL 64 (Sh.ps p))) ?_ (HO3.out.alloc _) w3.heap.size 1 1 (ucells [cc]) ?_ rfl (ucells_one1 (by simp)) (ucells_one _) (by unfold maxLen; omega) (by omega) (by simp; have := HO3.out; have := M3.out.sz; omega) ?_; (focus simp [Act.eval, Act.put]);  (focus simp [Act.eval, Act.put]);  intro v' w5 hown5 hgrow5; have hlt5 : w.heap.size < w3.heap.size := Nat.lt_of_succ_le M3.out.sz; have hne5 : v.ownBlock ≠ some w.heap.size := (fun e => absurd (HO3.out.lt w.heap.size e).1 (Nat.not_succ_le_self _)); have A5 := (M3.out.kv.alloc _).grown hgrow5 (Nat.lt_of_lt_of_le hlt5 (by simp)) hne5; have hc5 := A5.cell 0 _ rfl; have hcf5 := A5.froz 0 (by simp); have MP := Lib.hid (M3.out.push (x := cc) (by rw [HNN.out]; exact hown5) hgrow5); obtain ⟨gq, cq, rfl⟩ := own_isU hown5 (by omega); clear A5 hlt5 hne5 hown5 hgrow5)
                | (refine step_call2g 82 (.tmp 58) (.const (.int .i64 3)) #[47, 3] rfl rfl enterRoot (.int .u64 (p : Int)) ?_ (.int .i64 3) rfl _ (RT.out _) ?_; (focus simp [Act.eval, Act.put]);  rintro e w3 ⟨rfl, hb3⟩; refine ⟨_, rfl, ?_⟩; have M3 := Lib.hid (HM.out.drew.below hb3); have HO3 : Hid (w3.ownsRow (w.heap.size + 1) 47 1 v N (ucells (kpL 64 (Sh.ps p)))) := (by show World.ownsRow _ _ _ _ _ _ _; rw [← HNN.out]; exact M3.out.own); have hk3 : w3.cell? ⟨w.heap.size, 0, none⟩ = some (.int .i64 384) := M3.out.hd.cell 0 _ rfl; have c43 := M3.out.kv.cell 0 _ rfl; have c43a := (fun (ob : Obj) => (M3.out.kv.alloc ob).cell 0 _ rfl); have f43 := M3.out.kv.froz 0 (by simp); clear hb3)
                | (refine step_call2g 81 (.tmp 57) (.tmp 59) #[75, 47] rfl rfl enterCut (.pointer (some ⟨w.heap.size, 0, none⟩)) ?_ (.int .u64 ((Sh.root p 3 : Nat) : Int)) ?_ _ (CC.out _ hk3) ?_; (focus simp [Act.eval, Act.put]);  (focus simp [Act.eval, Act.put]);  rintro e w4 ⟨rfl, hw4⟩; have hw4 := hw4; subst w4; refine ⟨_, rfl, ?_⟩))
              all_goals
                go_wp2_with fail
                go_meet
                case rel => exact ⟨_, by rw [HKP.out]; exact MP.out⟩
            case rest =>
              clear HM
              obtain ⟨v', hMK⟩ := hcut
              have HM := Lib.hid hMK
              clear hMK
              have hv2 := root2_any p
              by_cases hin : 8 ≤ n ∧ n < 8 + 8
              · obtain ⟨hin1, hin2⟩ := hin
                obtain ⟨j, hj⟩ : ∃ j, n - 8 = j := ⟨_, rfl⟩
                have hj8 : j < 8 := by omega
                have g1 : (8 : Int) ≤ (n : Int) := by omega
                have g2 : (n : Int) < 16 := by omega
                have g3 : IntKind.i64.wrap ((n : Int) - 8) = (j : Int) := by rw [show (n : Int) - 8 = (j : Int) by omega]; simp only [IntKind.wrap, IntKind.bits, IntKind.signed]; simp; omega
                have g4 : (0 : Int) ≤ (j : Int) := by omega
                have g5 : (j : Int) < 8 := by omega
                obtain ⟨cc, hcc⟩ : ∃ c, Sh.cut 64 (Sh.root p 2) = c := ⟨_, rfl⟩
                have CC := Lib.hid (fun (w3 : World) (hk3 : w3.cell? ⟨w.heap.size, 0, none⟩ = some (.int .i64 384)) => cut_any w.heap.size (Sh.root p 2) 64 384 w3 hk3 (.inr ⟨by decide, rfl⟩))
                rw [hcc] at CC
                have RT := Lib.hid (fun w3 => root2_any p (by omega) w3)
                have HBG : Hid (bgL 64 8 (Sh.ps (p + 1)) = (bgL 64 8 (Sh.ps p)).set j cc) := by show _ = _; rw [HSTEP.out, bgL_more 64 8 _ _ (by have := HN.out; omega) (by have := HN.out; omega), hcc, ← HN.out, hj]
                have HP1 : Hid (n + 1 = (Sh.ps (p + 1)).length) := by show _ = _; rw [HSTEP.out, List.length_append, ← HN.out]; rfl
                clear hcc hj hv2 hin1 hin2
                go_upto_if 73 with fail
                go_cut [] from 65 to 84 (fun w6 => Mk w w6 384 64 v' (kpL 64 (Sh.ps (p + 1))) (bgL 64 8 (Sh.ps (p + 1))))
                case first =>
                  go_wp2_with fail
                  go_region_law (first
                    | (refine step_call2g 82 (.tmp 79) (.const (.int .i64 2)) #[47, 3] rfl rfl enterRoot (.int .u64 (p : Int)) ?_ (.int .i64 2) rfl _ (RT.out _) ?_; (focus simp [Act.eval, Act.put]);  rintro e w3 ⟨rfl, hb3⟩; refine ⟨_, rfl, ?_⟩; have M3 := Lib.hid (HM.out.drew.below hb3); have hk3 : w3.cell? ⟨w.heap.size, 0, none⟩ = some (.int .i64 384) := M3.out.hd.cell 0 _ rfl; have hB3 := M3.out.bg.u j (by rw [M3.out.bl]; exact hj8); have hc3 := hB3.1; have hf3 := hB3.2; clear hb3 hB3)
                    | (refine step_call2g 81 (.tmp 78) (.tmp 80) #[75, 47] rfl rfl enterCut (.pointer (some ⟨w.heap.size, 0, none⟩)) ?_ (.int .u64 ((Sh.root p 2 : Nat) : Int)) ?_ _ (CC.out _ hk3) ?_; (focus simp [Act.eval, Act.put]);  (focus simp [Act.eval, Act.put]);  rintro e w4 ⟨rfl, hw4⟩; have hw4 := hw4; subst w4; refine ⟨_, rfl, ?_⟩))
                  all_goals
                    go_wp2_with fail
                    go_meet
                    case rel => exact (by rw [HBG.out]; exact M3.out.put j cc hj8)
                case rest =>
                  have HM2 := Lib.hid hcut
                  clear hcut HM
                  go_wp2_with fail
                  go_roundw
                  case rel => exact ⟨p + 1, n + 1, v', by omega, by omega, by go_num, by go_num, HP1.out, HM2.out⟩
                  case measure => simp [intOf]; omega
              · have HBG : Hid (bgL 64 8 (Sh.ps (p + 1)) = bgL 64 8 (Sh.ps p)) := by show _ = _; rw [HSTEP.out, bgL_same 64 8 _ _ (by rw [← HN.out]; omega)]
                have HP1 : Hid (n + 1 = (Sh.ps (p + 1)).length) := by show _ = _; rw [HSTEP.out, List.length_append, ← HN.out]; rfl
                clear hv2
                by_cases g1 : (8 : Int) ≤ (n : Int)
                · have g2 : ¬ (n : Int) < 16 := by omega
                  clear hin
                  go_wp2_with fail
                  go_roundw
                  case rel => exact ⟨p + 1, n + 1, v', by omega, by omega, by go_num, by go_num, HP1.out, by rw [HBG.out]; exact HM.out⟩
                  case measure => simp [intOf]; omega
                · clear hin
                  go_wp2_with fail
                  go_roundw
                  case rel => exact ⟨p + 1, n + 1, v', by omega, by omega, by go_num, by go_num, HP1.out, by rw [HBG.out]; exact HM.out⟩
                  case measure => simp [intOf]; omega
    · have hn80 : (Sh.ps p).length = 80 := by have := Sh.ps_le p hp; omega
      have HAL := Lib.hid (Sh.ps_all p hp hn80)
      have HM := Lib.hid hM
      have hge : ¬ (n : Int) < 80 := by omega
      clear hM hn hn80 hlt
      go_wp2_with fail
      go_ret
      exact ⟨rfl, _, by rw [← HAL.out]; exact HM.out⟩
end Go.Proofs.YtjlmmlnldjandaaGreatDoor
