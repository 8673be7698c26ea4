/- The document's block, words of 32 bits. -/
import Derived.Test.YtjlmmlnldjandaaGreatDoorShH
import Derived.Deep.CutRange
namespace Go.Proofs.YtjlmmlnldjandaaGreatDoor
open Go.RowKit
set_option linter.unusedVariables false
set_option linter.unusedSimpArgs false
def RetB8 (L : List Nat) (w : World) (e : Ending) (w' : World) : Prop := e = .returned (.agg (ucells L).toArray) ∧ Below w.heap.size w w'
set_option maxRecDepth 100000 in
set_option maxHeartbeats 64000000 in
theorem rblock32_any (w : World) (r : Nat) (kind : Int) (hr : Ru w r kind 32) (h0 h1 h2 h3 h4 h5 h6 h7 : Nat) (hH : ∀ x ∈ [h0, h1, h2, h3, h4, h5, h6, h7], x < 2 ^ 32) (s : ByteArray) (hs : s.size = 2 * 32) :
    Calls Tryz.prog 111 #[.pointer (some ⟨r, 0, none⟩), .agg #[.int .u64 (h0 : Int), .int .u64 (h1 : Int), .int .u64 (h2 : Int), .int .u64 (h3 : Int), .int .u64 (h4 : Int), .int .u64 (h5 : Int), .int .u64 (h6 : Int), .int .u64 (h7 : Int)], .string s] w (RetB8 (Sh.comp 32 (Sh.kL 32) [h0, h1, h2, h3, h4, h5, h6, h7] (Sh.wordsOf 32 s.toList)) w) := by
  obtain ⟨i0, hi, hz0, hz1, hz2⟩ := info_parts infoU
  obtain ⟨M, hM⟩ : ∃ M, Sh.wordsOf 32 s.toList = M := ⟨_, rfl⟩
  have hMl : M.length = 16 := by rw [← hM]; exact wordsOf_length _ _
  have hMt : ∀ x ∈ M, x < 2 ^ 32 := by rw [← hM]; exact wordsOf_lt 32 (by decide) _
  obtain ⟨H, hHe⟩ : ∃ H, [h0, h1, h2, h3, h4, h5, h6, h7] = H := ⟨_, rfl⟩
  have c2 := hr.hd.cell 2 _ rfl
  have c0 := hr.hd.cell 0 _ rfl
  have HR := Lib.hid hr
  have HKB := Lib.hid hr.kb
  have HS := Lib.hid hs
  have HM := Lib.hid hM
  have HML := Lib.hid hMl
  have HMT := Lib.hid hMt
  have HHT := Lib.hid hH
  have HHE := Lib.hid hHe
  rw [hHe, hM]
  clear hr hs hM hMl hMt hH hHe
  go_enter Tryz.func111, Tryz.ntmps111
  go_upto_region 2 with fail
  obtain ⟨w0, hw0, hB⟩ := block_by w r 32 kind HR.out h0 h1 h2 h3 h4 h5 h6 h7
  rw [hw0]
  rw [HHE.out] at hB
  have d2 := hB.ruw.hd.cell 2 _ rfl
  have HB := Lib.hid hB
  clear hw0 hB c0 c2
  go_wp2_with fail
  go_loopw [7, 9] (fun vv iv wr => ∃ (i : Nat), i ≤ 64 ∧ iv = .int .i64 (i : Int) ∧ Bk w wr r kind 32 H (Wl 32 M i) vv) (fun _ iv _ => 64 - (intOf iv).toNat)
  case atStart => exact ⟨0, by omega, rfl, HB.out⟩
  case round =>
    clear HB d2
    obtain ⟨i, hi80, rfl, hB⟩ := hrel
    obtain ⟨v, hv⟩ : ∃ v, u7 = v := ⟨_, rfl⟩
    subst hv
    have d3 := hB.ruw.hd.cell 3 _ rfl
    rw [show ((Sh.rounds 32 : Nat) : Int) = 64 from rfl] at d3
    have hWl := Wl_length 32 M HML.out i
    have HB := Lib.hid hB
    clear hB
    by_cases hlt : i < 64
    · have hltI : (i : Int) < 64 := by omega
      by_cases h16 : i < 16
      · have h16I : (i : Int) < 16 := by omega
        have HWL := Lib.hid hWl
        clear hWl
        go_wp2_with fail
        go_loopw [10, 11] (fun xv kv w2 => ∃ (k x : Nat), k ≤ 4 ∧ kv = .int .i64 (k : Int) ∧ xv = .int .u64 (x : Int) ∧ x = ofBe (((s.toList.drop (4 * i)).take 4).take k) ∧ w2 = wr) (fun _ kv _ => 4 - (intOf kv).toNat)
        case atStart => exact ⟨0, 0, by omega, rfl, rfl, rfl, rfl⟩
        case round =>
          obtain ⟨k, x, hk, rfl, rfl, hx, rfl⟩ := hrel
          by_cases hks : k < 4
          · have hx7 := ofBe_lt7 ((s.toList.drop (4 * i)).take 4) k (by omega)
            rw [← hx] at hx7
            have hq := HS.out
            have hst := word_step s 32 i k (by omega) (by omega)
            simp only [Nat.reduceDiv] at hst
            rw [← hx] at hst
            obtain ⟨q, hqe⟩ : ∃ q, 4 * i + k = q := ⟨_, rfl⟩
            have hqs : q < s.size := by omega
            have hst2 : ofBe (((s.toList.drop (4 * i)).take 4).take (k + 1)) = x * 256 + s[q].toNat := by
              subst hqe
              exact hst
            have hbq := s[q].toNat_lt
            have e1 : (4 : Int) * (i : Int) + (k : Int) = (q : Int) := by omega
            have hksI : (k : Int) < 4 := by omega
            have HST := Lib.hid hst2
            have hx8 : (x : Int) < 72057594037927936 := by omega
            clear hst hst2 hx hx7 hqe hq
            go_wp2_with fail
            go_roundw
            case rel => exact ⟨k + 1, x * 256 + s[q].toNat, by omega, by go_num, by go_num, HST.out.symm, by first | rfl | trivial⟩
            case measure => simp [intOf]; omega
          · have hks' : k = 4 := by omega
            subst hks'
            have hx2 : x = Sh.g M i := by rw [← HM.out, word_at _ _ _ h16, hx, List.take_of_length_le (List.length_take_le _ _)]
            have HX := Lib.hid hx2
            clear hx hx2
            go_wp2_with (at_builtin; refine wpList_append_u64 rfl (.tmp 79) (.tmp 81) 101 rfl (w.heap.size + 1 + 1) 47 i0 Tryz.underlying101 hi hz0 hz1 hz2 u7 (Wl 32 M i).length (Wl 32 M i) rfl (HB.out.own.alloc _) _ 1 x rfl (by simp) (by rw [HWL.out]; omega) (by have := HB.out.sz; simp; omega) ?_; intro v' w1 hown1 hgrow)
            have HP := Lib.hid (HB.out.push hown1 hgrow)
            rw [HX.out, ← Wl_low 32 M HML.out i h16] at HP
            go_wp2_with fail
            go_roundw
            case rel => exact ⟨i + 1, by omega, by go_num, HP.out⟩
            case measure => simp [intOf]; omega
      · obtain ⟨n, hn⟩ : ∃ n, n + 16 = i := ⟨i - 16, by omega⟩
        have ho := HB.out.own
        rw [hWl] at ho
        obtain ⟨gW, cap, rfl⟩ := own_isU ho (by omega)
        have hAW := At.ofOwnN ho
        have hWt := Wl_lt 32 M HMT.out i
        have HW1 := Wl_high 32 M HML.out n
        rw [hn] at HW1
        obtain ⟨W, hW⟩ : ∃ W, Wl 32 M i = W := ⟨_, rfl⟩
        rw [hW] at hAW hWt HW1 hWl ho
        have c14 := (hAW.u (n + 14) (by omega)).1
        have c9 := (hAW.u (n + 9) (by omega)).1
        have c1 := (hAW.u (n + 1) (by omega)).1
        have cn := (hAW.u n (by omega)).1
        rw [Nat.zero_add] at c14 c9 c1 cn
        have t14 := g_lt hWt (by decide) (n + 14)
        have t9 := g_lt hWt (by decide) (n + 9)
        have t1 := g_lt hWt (by decide) (n + 1)
        have tn := g_lt hWt (by decide) n
        have hnx : Sh.nxw 32 W n = (Sh.sB 32 3 (Sh.g W (n + 14)) + Sh.g W (n + 9) + Sh.sB 32 0 (Sh.g W (n + 1)) + Sh.g W n) % 2 ^ 32 := rfl
        change wr.cell? _ = some (.int .u64 ((Sh.g W (n + 14) : Nat) : Int)) at c14
        change wr.cell? _ = some (.int .u64 ((Sh.g W (n + 9) : Nat) : Int)) at c9
        change wr.cell? _ = some (.int .u64 ((Sh.g W (n + 1) : Nat) : Int)) at c1
        change wr.cell? _ = some (.int .u64 ((Sh.g W n : Nat) : Int)) at cn
        obtain ⟨x14, hx14⟩ : ∃ x, Sh.g W (n + 14) = x := ⟨_, rfl⟩
        obtain ⟨x9, hx9⟩ : ∃ x, Sh.g W (n + 9) = x := ⟨_, rfl⟩
        obtain ⟨x1, hx1⟩ : ∃ x, Sh.g W (n + 1) = x := ⟨_, rfl⟩
        obtain ⟨x0, hx0⟩ : ∃ x, Sh.g W n = x := ⟨_, rfl⟩
        rw [hx14] at c14 t14 hnx
        rw [hx9] at c9 t9 hnx
        rw [hx1] at c1 t1 hnx
        rw [hx0] at cn tn hnx
        have ly3 := sB_lt 32 3 x14 (by decide) t14
        have ly0 := sB_lt 32 0 x1 (by decide) t1
        have Q3 := fun m => (three_ru (HB.out.drewN m).ruw x14 3 true t14 (by decide))
        have Q0 := fun m => (three_ru (HB.out.drewN m).ruw x1 0 true t1 (by decide))
        simp only [if_true] at Q3 Q0
        rw [show ((3 : Nat) : Int) = (3 : Int) from rfl] at Q3
        rw [show ((0 : Nat) : Int) = (0 : Int) from rfl] at Q0
        obtain ⟨y3, hy3⟩ : ∃ y, Sh.sB 32 3 x14 = y := ⟨_, rfl⟩
        obtain ⟨y0, hy0⟩ : ∃ y, Sh.sB 32 0 x1 = y := ⟨_, rfl⟩
        rw [hy3] at ly3 hnx Q3
        rw [hy0] at ly0 hnx Q0
        obtain ⟨z1, hz1'⟩ : ∃ z, (y3 + x9) % 2 ^ 64 = z := ⟨_, rfl⟩
        obtain ⟨z2, hz2'⟩ : ∃ z, (z1 + y0) % 2 ^ 64 = z := ⟨_, rfl⟩
        obtain ⟨z3, hz3'⟩ : ∃ z, (z2 + x0) % 2 ^ 64 = z := ⟨_, rfl⟩
        have a1 := u64_add y3 x9 z1 hz1'
        have a2 := u64_add z1 y0 z2 hz2'
        have a3 := u64_add z2 x0 z3 hz3'
        have QW := fun m => (word_q HB.out.ruw z3 (by omega) m)
        have hfin : z3 % 2 ^ 32 = Sh.nxw 32 W n := by rw [hnx]; omega
        rw [hfin] at QW
        obtain ⟨cc, hcc⟩ : ∃ c, Sh.nxw 32 W n = c := ⟨_, rfl⟩
        rw [hcc] at QW HW1
        obtain ⟨p14, hp14⟩ : ∃ p, n + 14 = p := ⟨_, rfl⟩
        obtain ⟨p9, hp9⟩ : ∃ p, n + 9 = p := ⟨_, rfl⟩
        obtain ⟨p1, hp1⟩ : ∃ p, n + 1 = p := ⟨_, rfl⟩
        rw [hp14] at c14
        rw [hp9] at c9
        rw [hp1] at c1
        have q14 : IntKind.i64.wrap ((i : Int) - 2) = (p14 : Int) := by rw [show (i : Int) - 2 = (p14 : Int) by omega]; exact i64_fit _ (by omega)
        have q9 : IntKind.i64.wrap ((i : Int) - 7) = (p9 : Int) := by rw [show (i : Int) - 7 = (p9 : Int) by omega]; exact i64_fit _ (by omega)
        have q1 : IntKind.i64.wrap ((i : Int) - 15) = (p1 : Int) := by rw [show (i : Int) - 15 = (p1 : Int) by omega]; exact i64_fit _ (by omega)
        have q0 : IntKind.i64.wrap ((i : Int) - 16) = (n : Int) := by rw [show (i : Int) - 16 = (n : Int) by omega]; exact i64_fit _ (by omega)
        have g14 : (p14 : Int) < (i : Int) := by omega
        have g9 : (p9 : Int) < (i : Int) := by omega
        have g1 : (p1 : Int) < (i : Int) := by omega
        have g0 : (n : Int) < (i : Int) := by omega
        have j14 : (0 : Int) ≤ (p14 : Int) := by omega
        have j9 : (0 : Int) ≤ (p9 : Int) := by omega
        have j1 : (0 : Int) ≤ (p1 : Int) := by omega
        have j0 : (0 : Int) ≤ (n : Int) := by omega
        have h16I : ¬ (i : Int) < 16 := by omega
        have K3 := Lib.hid Q3
        have K0 := Lib.hid Q0
        have KW := Lib.hid QW
        have HO := Lib.hid ho
        have HWW := Lib.hid hW
        have HW2 := Lib.hid HW1
        have HWL := Lib.hid hWl
        clear Q3 Q0 QW ho hW HW1 hWl hAW hWt t14 t9 t1 tn hnx hx14 hx9 hx1 hx0 ly3 ly0 hy3 hy0 hz1' hz2' hz3' hfin hcc hp14 hp9 hp1 hn
        go_wp2_with fail
        go_quiet (first
          | (go_at_call_of 131 (Value.int IntKind.u64 (x14 : Int)); exact Calls.quiet_of (K3.out _))
          | (go_at_call_of 131 (Value.int IntKind.u64 (x1 : Int)); exact Calls.quiet_of (K0.out _))
          | (go_at_call_of 130 (Value.int IntKind.u64 (z3 : Int)); exact Calls.quiet_of_same (KW.out _)))
        have HB2 := Lib.hid (HB.out.drewN nq)
        clear HB d3 c14 c9 c1 cn a1 a2 a3 q14 q9 q1 q0 g14 g9 g1 g0 j14 j9 j1 j0 K3 K0 KW HO
        generalize wr.drewN nq = wq at *
        obtain ⟨vW, hvW⟩ : ∃ v, Value.slice (some ⟨gW, 0, none⟩) i cap = v := ⟨_, rfl⟩
        rw [hvW] at HB2
        rw [hvW]
        clear hvW
        go_wp2_with (at_builtin; refine wpList_append_u64 rfl (.tmp 79) (.tmp 81) 101 rfl (w.heap.size + 1 + 1) 47 i0 Tryz.underlying101 hi hz0 hz1 hz2 vW (Wl 32 M i).length (Wl 32 M i) rfl (HB2.out.own.alloc _) _ 1 cc rfl (by simp) (by rw [HWW.out, HWL.out]; omega) (by have := HB2.out.sz; simp; omega) ?_; intro v' w1 hown1 hgrow)
        have HP := Lib.hid (HB2.out.push hown1 hgrow)
        rw [HWW.out, ← HW2.out] at HP
        clear hown1 hgrow
        go_wp2_with fail
        go_roundw
        case rel => exact ⟨i + 1, by omega, by go_num, HP.out⟩
        case measure => simp [intOf]; omega
    · have hiR : i = 64 := by omega
      have ho := HB.out.own
      have hWt := Wl_lt 32 M HMT.out i
      have hWS : Wl 32 M i = Sh.sched 32 M (64 - 16) := by rw [Wl, if_neg (by omega), hiR]
      have hB2 := HB.out
      rw [hWl] at ho
      obtain ⟨W, hW⟩ : ∃ W, Wl 32 M i = W := ⟨_, rfl⟩
      rw [hW] at ho hWt hWl hB2 hWS
      rw [hiR] at hWl ho
      subst hiR
      obtain ⟨gW, cap, rfl⟩ := own_isU ho (by decide)
      rw [show ((64 : Nat) : Int) = 64 from rfl]
      have HAW := Lib.hid (At.ofOwnN ho)
      have HWT := Lib.hid hWt
      have HWL := Lib.hid hWl
      have HWS := Lib.hid hWS
      have HB2 := Lib.hid hB2
      clear ho hWt hWl hWS hB2 HB hW hlt hi80
      have hge : ¬ (64 : Int) < 64 := by omega
      have hHl : H.length = 8 := by rw [← HHE.out]; rfl
      have hi8 := info8 H hHl
      have hz8 := info8 [0, 0, 0, 0, 0, 0, 0, 0] rfl
      have HI8 := Lib.hid hi8
      have HZ8 := Lib.hid hz8
      clear hi8 hz8
      go_upto_region 15 with (first
        | (refine wpList_load_at 102 (.tmp 4) w.heap.size 0 (ucells H) _ HB2.out.h Tryz.underlying102 rfl HI8.out ⟨rfl, rfl, rfl⟩ ?_)
        | (refine wpList_alloc_at 102 (.agg #[.int .u64 0, .int .u64 0, .int .u64 0, .int .u64 0, .int .u64 0, .int .u64 0, .int .u64 0, .int .u64 0]) 8 (by kernel_rfl) ⟨rfl, rfl⟩ ?_; intro wv hAv hbv hsv)
        | (refine wpList_store_at 102 (.tmp 12) (.tmp 83) wr.heap.size 0 (ucells [0, 0, 0, 0, 0, 0, 0, 0]) (ucells H) hAv (by rw [ucells_length, ucells_length, hHl]; rfl) HI8.out (ucells_one _) ⟨rfl, rfl, rfl, rfl⟩ ?_))
      have hgwlt : gW < wr.heap.size := (HB2.out.own.lt gW rfl).2
      have hszr := HB2.out.sz
      have hV0 : Vk w wv r kind 32 H W gW cap wr.heap.size [0, 0, 0, 0, 0, 0, 0, 0] := ⟨by rw [HWL.out]; exact HB2.out.below hbv, hAv, by omega, by omega⟩
      obtain ⟨gV, hgV⟩ : ∃ g, wr.heap.size = g := ⟨_, rfl⟩
      have hV1 := hV0.set (V' := H) (by rw [hHl]; rfl)
      rw [hgV] at hV1 hAv
      rw [hgV]
      obtain ⟨w2, hw2⟩ : ∃ x, wv.setCells gV 0 (ucells H) = x := ⟨_, rfl⟩
      rw [hw2] at hV1
      rw [hw2]
      have HV := Lib.hid hV1
      have HHL := Lib.hid hHl
      clear hV0 hV1 hw2 hgV hAv hbv hsv hgwlt hszr HB2 HAW d3 hHl HZ8
      go_wp2_with fail
      go_loopw [13] (fun iv wr => ∃ (i : Nat), i ≤ 64 ∧ iv = .int .i64 (i : Int) ∧ Vk w wr r kind 32 H W gW cap gV (Sh.rnds 32 (Sh.kL 32) W H i)) (fun iv _ => 64 - (intOf iv).toNat)
      case atStart => exact ⟨0, by omega, rfl, HV.out⟩
      case round =>
        clear HV
        obtain ⟨i, hi80, rfl, hV⟩ := hrel
        have hHT := HHT.out
        rw [HHE.out] at hHT
        obtain ⟨hVl, hVt⟩ := rnds_ok 32 (Sh.kL 32) W H HHL.out hHT i
        have d3 := hV.bk.ruw.hd.cell 3 _ rfl
        rw [show ((Sh.rounds 32 : Nat) : Int) = 64 from rfl] at d3
        by_cases hlt : i < 64
        · have hltI : (i : Int) < 64 := by omega
          have hrn : Sh.rnds 32 (Sh.kL 32) W H (i + 1) = Sh.rnd 32 (Sh.g (Sh.kL 32) i) (Sh.g W i) (Sh.rnds 32 (Sh.kL 32) W H i) := rfl
          obtain ⟨V, hVe⟩ : ∃ V, Sh.rnds 32 (Sh.kL 32) W H i = V := ⟨_, rfl⟩
          rw [hVe] at hV hVl hVt hrn
          obtain ⟨gk, capk, hk1, hk2⟩ := hV.bk.ruw.kv
          have ck := hk1.cell 0 _ rfl
          rw [show Sh.rounds 32 = 64 from rfl] at ck
          have cki := (hk2.u i (by rw [kL_length 32 (by decide)]; exact hlt)).1
          have cwi := ((At.ofOwnN hV.bk.own).u i (by rw [HWL.out]; exact hlt)).1
          have u0 := (hV.vv.u 0 (by omega)).1
          have u1 := (hV.vv.u 1 (by omega)).1
          have u2 := (hV.vv.u 2 (by omega)).1
          have u3 := (hV.vv.u 3 (by omega)).1
          have u4 := (hV.vv.u 4 (by omega)).1
          have u5 := (hV.vv.u 5 (by omega)).1
          have u6 := (hV.vv.u 6 (by omega)).1
          have u7 := (hV.vv.u 7 (by omega)).1
          rw [Nat.zero_add] at cki cwi u0 u1 u2 u3 u4 u5 u6 u7
          have l0 := g_lt hVt (by decide) 0
          have l1 := g_lt hVt (by decide) 1
          have l2 := g_lt hVt (by decide) 2
          have l3 := g_lt hVt (by decide) 3
          have l4 := g_lt hVt (by decide) 4
          have l5 := g_lt hVt (by decide) 5
          have l6 := g_lt hVt (by decide) 6
          have l7 := g_lt hVt (by decide) 7
          simp only [Sh.rnd, Sh.tt, Sh.uu, Sh.ch, Sh.maj] at hrn
          change wr.cell? _ = some (.int .u64 ((Sh.g (Sh.kL 32) i : Nat) : Int)) at cki
          change wr.cell? _ = some (.int .u64 ((Sh.g W i : Nat) : Int)) at cwi
          change wr.cell? _ = some (.int .u64 ((Sh.g V 0 : Nat) : Int)) at u0
          change wr.cell? _ = some (.int .u64 ((Sh.g V 1 : Nat) : Int)) at u1
          change wr.cell? _ = some (.int .u64 ((Sh.g V 2 : Nat) : Int)) at u2
          change wr.cell? _ = some (.int .u64 ((Sh.g V 3 : Nat) : Int)) at u3
          change wr.cell? _ = some (.int .u64 ((Sh.g V 4 : Nat) : Int)) at u4
          change wr.cell? _ = some (.int .u64 ((Sh.g V 5 : Nat) : Int)) at u5
          change wr.cell? _ = some (.int .u64 ((Sh.g V 6 : Nat) : Int)) at u6
          change wr.cell? _ = some (.int .u64 ((Sh.g V 7 : Nat) : Int)) at u7
          obtain ⟨kk, hkk⟩ : ∃ x, Sh.g (Sh.kL 32) i = x := ⟨_, rfl⟩
          obtain ⟨ww, hww⟩ : ∃ x, Sh.g W i = x := ⟨_, rfl⟩
          obtain ⟨v0, hv0⟩ : ∃ x, Sh.g V 0 = x := ⟨_, rfl⟩
          obtain ⟨v1, hv1⟩ : ∃ x, Sh.g V 1 = x := ⟨_, rfl⟩
          obtain ⟨v2, hv2⟩ : ∃ x, Sh.g V 2 = x := ⟨_, rfl⟩
          obtain ⟨v3, hv3⟩ : ∃ x, Sh.g V 3 = x := ⟨_, rfl⟩
          obtain ⟨v4, hv4⟩ : ∃ x, Sh.g V 4 = x := ⟨_, rfl⟩
          obtain ⟨v5, hv5⟩ : ∃ x, Sh.g V 5 = x := ⟨_, rfl⟩
          obtain ⟨v6, hv6⟩ : ∃ x, Sh.g V 6 = x := ⟨_, rfl⟩
          obtain ⟨v7, hv7⟩ : ∃ x, Sh.g V 7 = x := ⟨_, rfl⟩
          rw [hkk] at cki hrn
          rw [hww] at cwi hrn
          rw [hv0] at u0 l0 hrn
          rw [hv1] at u1 l1 hrn
          rw [hv2] at u2 l2 hrn
          rw [hv3] at u3 l3 hrn
          rw [hv4] at u4 l4 hrn
          rw [hv5] at u5 l5 hrn
          rw [hv6] at u6 l6 hrn
          rw [hv7] at u7 l7 hrn
          have x9 := sA_lt 32 9 v4 (by decide)
          have x6 := sA_lt 32 6 v0 (by decide)
          have Q9 := fun m => (three_ru (hV.bk.drewN m).ruw v4 9 false l4 (by decide))
          have Q6 := fun m => (three_ru (hV.bk.drewN m).ruw v0 6 false l0 (by decide))
          simp only [Bool.false_eq_true, if_false] at Q9 Q6
          rw [show ((9 : Nat) : Int) = (9 : Int) from rfl] at Q9
          rw [show ((6 : Nat) : Int) = (6 : Int) from rfl] at Q6
          obtain ⟨y9, hy9⟩ : ∃ y, Sh.sA 32 9 v4 = y := ⟨_, rfl⟩
          obtain ⟨y6, hy6⟩ : ∃ y, Sh.sA 32 6 v0 = y := ⟨_, rfl⟩
          rw [hy9] at x9 Q9 hrn
          rw [hy6] at x6 Q6 hrn
          have m0 := Nat.lt_of_lt_of_le l0 (show 2 ^ 32 ≤ 18446744073709551616 by decide)
          have m1 := Nat.lt_of_lt_of_le l1 (show 2 ^ 32 ≤ 18446744073709551616 by decide)
          have m2 := Nat.lt_of_lt_of_le l2 (show 2 ^ 32 ≤ 18446744073709551616 by decide)
          have m4 := Nat.lt_of_lt_of_le l4 (show 2 ^ 32 ≤ 18446744073709551616 by decide)
          have m5 := Nat.lt_of_lt_of_le l5 (show 2 ^ 32 ≤ 18446744073709551616 by decide)
          have m6 := Nat.lt_of_lt_of_le l6 (show 2 ^ 32 ≤ 18446744073709551616 by decide)
          rw [← not_xor 32 v4 v6 (by decide) l4 l6] at hrn
          obtain ⟨ne, hne⟩ : ∃ x, (2 ^ 64 - 1) ^^^ v4 = x := ⟨_, rfl⟩
          have hnel : ne < 18446744073709551616 := by rw [← hne]; exact Nat.xor_lt_two_pow (n := 64) (by decide) m4
          rw [hne] at hrn
          have bn := u64_not v4 ne m4 hne
          have b1 := sh_and v4 v5 m4 m5
          have b2 := sh_and ne v6 hnel m6
          have b4 := sh_and v0 v1 m0 m1
          have b5 := sh_and v0 v2 m0 m2
          have b7 := sh_and v1 v2 m1 m2
          have o1 : v4 &&& v5 < 18446744073709551616 := Nat.and_lt_two_pow (n := 64) v4 m5
          have o2 : ne &&& v6 < 18446744073709551616 := Nat.and_lt_two_pow (n := 64) ne m6
          have o4 : v0 &&& v1 < 18446744073709551616 := Nat.and_lt_two_pow (n := 64) v0 m1
          have o5 : v0 &&& v2 < 18446744073709551616 := Nat.and_lt_two_pow (n := 64) v0 m2
          have o7 : v1 &&& v2 < 18446744073709551616 := Nat.and_lt_two_pow (n := 64) v1 m2
          obtain ⟨d1, hd1⟩ : ∃ x, v4 &&& v5 = x := ⟨_, rfl⟩
          obtain ⟨d2, hd2⟩ : ∃ x, ne &&& v6 = x := ⟨_, rfl⟩
          obtain ⟨d4, hd4⟩ : ∃ x, v0 &&& v1 = x := ⟨_, rfl⟩
          obtain ⟨d5, hd5⟩ : ∃ x, v0 &&& v2 = x := ⟨_, rfl⟩
          obtain ⟨d7, hd7⟩ : ∃ x, v1 &&& v2 = x := ⟨_, rfl⟩
          rw [hd1] at b1 o1 hrn
          rw [hd2] at b2 o2 hrn
          rw [hd4] at b4 o4 hrn
          rw [hd5] at b5 o5 hrn
          rw [hd7] at b7 o7 hrn
          have b3 := sh_xor d1 d2 o1 o2
          have b6 := sh_xor d4 d5 o4 o5
          have o6 : d4 ^^^ d5 < 18446744073709551616 := Nat.xor_lt_two_pow (n := 64) o4 o5
          obtain ⟨e3, he3⟩ : ∃ x, d1 ^^^ d2 = x := ⟨_, rfl⟩
          obtain ⟨e6, he6⟩ : ∃ x, d4 ^^^ d5 = x := ⟨_, rfl⟩
          rw [he3] at b3 hrn
          rw [he6] at b6 o6 hrn
          have b8 := sh_xor e6 d7 o6 o7
          obtain ⟨e8, he8⟩ : ∃ x, e6 ^^^ d7 = x := ⟨_, rfl⟩
          rw [he8] at b8 hrn
          obtain ⟨s1, hs1⟩ : ∃ z, (v7 + y9) % 2 ^ 64 = z := ⟨_, rfl⟩
          obtain ⟨s2, hs2⟩ : ∃ z, (s1 + e3) % 2 ^ 64 = z := ⟨_, rfl⟩
          obtain ⟨s3, hs3⟩ : ∃ z, (s2 + kk) % 2 ^ 64 = z := ⟨_, rfl⟩
          obtain ⟨s4, hs4⟩ : ∃ z, (s3 + ww) % 2 ^ 64 = z := ⟨_, rfl⟩
          obtain ⟨s5, hs5⟩ : ∃ z, (y6 + e8) % 2 ^ 64 = z := ⟨_, rfl⟩
          obtain ⟨s6, hs6⟩ : ∃ z, (s4 + s5) % 2 ^ 64 = z := ⟨_, rfl⟩
          obtain ⟨s7, hs7⟩ : ∃ z, (v3 + s4) % 2 ^ 64 = z := ⟨_, rfl⟩
          have a1 := u64_add v7 y9 s1 hs1
          have a2 := u64_add s1 e3 s2 hs2
          have a3 := u64_add s2 kk s3 hs3
          have a4 := u64_add s3 ww s4 hs4
          have a5 := u64_add y6 e8 s5 hs5
          have a6 := u64_add s4 s5 s6 hs6
          have a7 := u64_add v3 s4 s7 hs7
          obtain ⟨n0, hn0⟩ : ∃ z, s6 % 2 ^ 32 = z := ⟨_, rfl⟩
          obtain ⟨n4, hn4⟩ : ∃ z, s7 % 2 ^ 32 = z := ⟨_, rfl⟩
          have hrn2 : Sh.rnds 32 (Sh.kL 32) W H (i + 1) = [n0, v0, v1, v2, n4, v4, v5, v6] := by
            rw [hrn, show (v7 + y9 + e3 + kk + ww + (y6 + e8)) % 2 ^ 32 = n0 by omega, show (v3 + (v7 + y9 + e3 + kk + ww)) % 2 ^ 32 = n4 by omega]
          have QWa := fun (w2 : World) (hr2 : Ru w2 r kind 32) => (word_ru hr2 s6 (by omega)).mono fun e w' (h : RetUs _ _ e w') => (⟨h.1, h.2.symm⟩ : e = .returned (.int .u64 ((s6 % 2 ^ 32 : Nat) : Int)) ∧ w' = w2)
          have QWb := fun (w2 : World) (hr2 : Ru w2 r kind 32) => (word_ru hr2 s7 (by omega)).mono fun e w' (h : RetUs _ _ e w') => (⟨h.1, h.2.symm⟩ : e = .returned (.int .u64 ((s7 % 2 ^ 32 : Nat) : Int)) ∧ w' = w2)
          rw [hn0] at QWa
          rw [hn4] at QWb
          have K9 := Lib.hid Q9
          have K6 := Lib.hid Q6
          have KA := Lib.hid QWa
          have KB := Lib.hid QWb
          have HV := Lib.hid hV
          have HVL := Lib.hid hVl
          have HRN := Lib.hid hrn2
          clear Q9 Q6 QWa QWb hV hVl hVt hrn hrn2 hVe hHT hk1 hk2 l0 l1 l2 l3 l4 l5 l6 l7 m0 m1 m2 m4 m5 m6 o1 o2 o4 o5 o6 o7 x9 x6 hnel hkk hww hv0 hv1 hv2 hv3 hv4 hv5 hv6 hv7 hy9 hy6 hne hd1 hd2 hd4 hd5 hd7 he3 he6 he8 hs1 hs2 hs3 hs4 hs5 hs6 hs7 hn0 hn4
          go_wp2_with fail
          go_quiet ((go_at_call_of 131 (Value.int IntKind.u64 (v4 : Int)); exact Calls.quiet_of (K9.out _)))
          go_wp2_with fail
          have K6' := Lib.hid (fun m => K6.out (nq + m))
          have HV2 := Lib.hid (HV.out.drewN nq)
          clear K6 K9 HV a1 a2 a3 a4 b1 b2 b3 bn cki cwi ck
          simp only [← World.drewN_drewN] at K6'
          have hcs : ∀ o, (wr.drewN nq).cell? ⟨gV, o, none⟩ = wr.cell? ⟨gV, o, none⟩ := fun _ => rfl
          rw [← hcs] at u0 u1 u2 u3 u4 u5 u6 u7
          rw [show wr.cell? _ = (wr.drewN nq).cell? ⟨r, 0 + 3, none⟩ from rfl] at d3
          clear hcs
          generalize wr.drewN nq = w3 at *
          go_quiet ((go_at_call_of 131 (Value.int IntKind.u64 (v0 : Int)); exact Calls.quiet_of (K6'.out _)))
          go_wp2_with fail
          have HV3 := Lib.hid (HV2.out.drewN nq)
          clear K6' HV2 a5 b4 b5 b6 b7 b8
          have hcs : ∀ o, (w3.drewN nq).cell? ⟨gV, o, none⟩ = w3.cell? ⟨gV, o, none⟩ := fun _ => rfl
          rw [← hcs] at u0 u1 u2 u3 u4 u5 u6 u7
          clear hcs d3
          generalize w3.drewN nq = w4 at *
          go_still_tail 22, (by kernel_rfl)
          still_call (KA.out _ HV3.out.drew.bk.ruw)
          repeat still_step
          still_call (KB.out _ HV3.out.drew.bk.ruw)
          repeat still_step
          refine wpStill_nil ?_
          change wpList _ _ _ _ _ w4.drew
          have HVD := Lib.hid HV3.out.drew
          have hui : (ucells V).length = (ucells [n0, v0, v1, v2, n4, v4, v5, v6]).length := by rw [ucells_length, HVL.out, ucells_length]; rfl
          refine wpList_store_at 102 (.tmp 12) (.tmp 166) gV 0 (ucells V) (ucells [n0, v0, v1, v2, n4, v4, v5, v6]) HVD.out.vv hui (info8 _ rfl) (ucells_one _) ⟨rfl, rfl, rfl, rfl⟩ ?_
          have HV4 := Lib.hid (HVD.out.set (V' := [n0, v0, v1, v2, n4, v4, v5, v6]) (by rw [HVL.out]; rfl))
          rw [← HRN.out] at HV4 ⊢
          clear u0 u1 u2 u3 u4 u5 u6 u7 a6 a7 KA KB HVD hui
          go_wp2_with fail
          go_roundw
          case rel => exact ⟨i + 1, by omega, by go_num, HV4.out⟩
          case measure => simp [intOf]; omega
        · have hiR : i = 64 := by omega
          have hcomp : Sh.comp 32 (Sh.kL 32) H M = Sh.addw 32 H (Sh.rnds 32 (Sh.kL 32) W H 64) := by rw [Sh.comp, show Sh.rounds 32 = 64 from rfl, ← HWS.out]
          obtain ⟨V, hVe⟩ : ∃ V, Sh.rnds 32 (Sh.kL 32) W H i = V := ⟨_, rfl⟩
          rw [hiR] at hVe
          rw [hiR, hVe] at hV hVl hVt
          rw [hVe] at hcomp
          have HCOMP := Lib.hid hcomp
          have hge2 : ¬ (64 : Int) < 64 := by omega
          have HV := Lib.hid hV
          have HVL := Lib.hid hVl
          have HVT := Lib.hid hVt
          have HHT2 := Lib.hid hHT
          subst hiR
          rw [show ((64 : Nat) : Int) = 64 from rfl]
          clear hV hVl hVt hcomp hVe hlt hi80 hHT HWS HWT
          obtain ⟨F, hF⟩ : ∃ F : Nat → Nat, (fun j => Sh.g (Sh.addw 32 H V) j) = F := ⟨_, rfl⟩
          have hFj : ∀ j, j < 8 → F j = (Sh.g H j + Sh.g V j) % 2 ^ 32 := fun j hj => by rw [← hF]; exact add_get 32 H V j (by rw [HHL.out]; exact hj) (by rw [HVL.out]; exact hj)
          have hFa : mixP 8 F (Sh.g H) 8 = Sh.addw 32 H V := by
            rw [mixP_full, ← hF]
            exact map_getD _ 0 8 (by rw [Sh.addw, List.length_zipWith, HHL.out, HVL.out]; rfl)
          have hF0 : mixP 8 F (Sh.g H) 0 = H := by
            rw [mixP_zero]
            exact map_getD _ 0 8 HHL.out
          have h4 := HV.out.bk.h
          have h6 := HV.out.bk.o
          have hvv := HV.out.vv
          have hbel := HV.out.bk.bel
          have hszz := HV.out.bk.sz
          have hne := HV.out.ne.1
          rw [← hF0] at h4
          have HFA := Lib.hid hFa
          have HFJ := Lib.hid hFj
          have HI8V := Lib.hid (info8 (mixP 8 F (Sh.g H) 8) (mixP_length _ _ _ _))
          clear hF hFj hFa hF0 HV HI8
          go_wp2_with fail
          go_loopw [18] (fun iv wr => ∃ (i : Nat), i ≤ 8 ∧ iv = .int .i64 (i : Int) ∧ At wr w.heap.size 0 (ucells (mixP 8 F (Sh.g H) i)) ∧ At wr (w.heap.size + 1) 0 (ucells [0, 0, 0, 0, 0, 0, 0, 0]) ∧ At wr gV 0 (ucells V) ∧ Below w.heap.size w wr ∧ w.heap.size + 1 + 1 ≤ wr.heap.size) (fun iv _ => 8 - (intOf iv).toNat)
          case atStart => exact ⟨0, by omega, rfl, h4, h6, hvv, hbel, hszz⟩
          case round =>
            clear h4 h6 hvv hbel hszz
            obtain ⟨i, hi8, rfl, h4, h6, hvv, hbel, hszz⟩ := hrel
            by_cases hlt : i < 8
            · have hltI : (i : Int) < 8 := by omega
              have c4 := h4.u i (by rw [mixP_length]; exact hlt)
              have cv := (hvv.u i (by rw [HVL.out]; exact hlt)).1
              rw [mixP_at _ _ _ _ _ _ hlt, if_neg (by omega), Nat.zero_add] at c4
              rw [Nat.zero_add] at cv
              change wr.cell? _ = some (.int .u64 ((Sh.g V i : Nat) : Int)) at cv
              have hfi := HFJ.out i hlt
              obtain ⟨a, ha⟩ : ∃ a, Sh.g H i = a := ⟨_, rfl⟩
              obtain ⟨c, hc⟩ : ∃ c, Sh.g V i = c := ⟨_, rfl⟩
              rw [ha] at c4 hfi
              rw [hc] at cv hfi
              obtain ⟨z, hz⟩ : ∃ z, (a + c) % 2 ^ 64 = z := ⟨_, rfl⟩
              have a1 := u64_add a c z hz
              obtain ⟨ca, cf⟩ := c4
              have hru := HR.out.below hbel (Nat.le_refl _)
              have QW := (word_ru hru.drew z (by omega)).mono fun e w' (h : RetUs _ _ e w') => (⟨h.1, h.2.symm⟩ : e = .returned (.int .u64 ((z % 2 ^ 32 : Nat) : Int)) ∧ w' = wr.drew)
              have hzf : z % 2 ^ 32 = F i := by rw [hfi]; omega
              rw [hzf] at QW
              obtain ⟨ff, hff⟩ : ∃ f, F i = f := ⟨_, rfl⟩
              rw [hff] at QW
              have KW := Lib.hid QW
              have HST : Hid (At (wr.drew.setCell ⟨w.heap.size, i, none⟩ (.int .u64 (ff : Int))) w.heap.size 0 (ucells (mixP 8 F (Sh.g H) (i + 1)))) := by
                have h := h4.drew.uset i ff
                rw [Nat.zero_add, ← hff, mixP_set] at h
                rw [hff] at h
                exact h
              have H6 := Lib.hid h6
              have HVV := Lib.hid hvv
              have HBE := Lib.hid hbel
              clear QW hzf hff hz hfi ha hc hru h4 h6 hvv hbel
              go_wp2_with fail
              go_still_tail 11, (by kernel_rfl)
              still_call KW.out
              repeat still_step
              refine wpStill_nil ?_
              change wpList _ _ _ _ _ wr.drew
              clear KW
              go_wp2_with fail
              go_roundw
              case rel => exact ⟨i + 1, by omega, by go_num, HST.out, H6.out.drew.other _ _ _ (.inl (by omega)), HVV.out.drew.other _ _ _ (.inl (by omega)), HBE.out.drew.setCell (p := ⟨w.heap.size, i, none⟩) (Nat.le_refl _) _, by simpa using hszz⟩
              case measure => simp [intOf]; omega
            · obtain rfl : i = 8 := by omega
              rw [show ((8 : Nat) : Int) = 8 from rfl]
              have hge8 : ¬ (8 : Int) < 8 := by omega
              have H4 := Lib.hid h4
              have H6 := Lib.hid h6
              have HBE := Lib.hid hbel
              have hS : At (wr.setCells (w.heap.size + 1) 0 (ucells (mixP 8 F (Sh.g H) 8))) (w.heap.size + 1) 0 (ucells (mixP 8 F (Sh.g H) 8)) := h6.ofSets (by rw [ucells_length, ucells_length, mixP_length]; rfl)
              have HS2 := Lib.hid hS
              clear h4 h6 hbel hvv hS hlt hi8
              go_wp2_with (first
                | (refine wpList_load_at 102 (.tmp 4) w.heap.size 0 (ucells (mixP 8 F (Sh.g H) 8)) _ H4.out Tryz.underlying102 rfl HI8V.out ⟨rfl, rfl, rfl⟩ ?_)
                | (refine wpList_store_at 102 (.tmp 6) (.tmp 182) (w.heap.size + 1) 0 (ucells [0, 0, 0, 0, 0, 0, 0, 0]) (ucells (mixP 8 F (Sh.g H) 8)) H6.out (by rw [ucells_length, ucells_length, mixP_length]; rfl) HI8V.out (ucells_one _) ⟨rfl, rfl, rfl, rfl⟩ ?_))
              exact bodyPost_ret (results_at rfl _ (w.heap.size + 1) _ _ rfl HS2.out Tryz.underlying102 rfl HI8V.out) rfl ⟨by rw [HFA.out, HCOMP.out], below_sets _ _ (by omega) _ _ _ _ HBE.out⟩
end Go.Proofs.YtjlmmlnldjandaaGreatDoor
