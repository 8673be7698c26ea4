/- The document's Sum, words of 32 bits. -/
import Derived.Test.YtjlmmlnldjandaaGreatDoorShI
import Derived.Deep.CutRange
namespace Go.Proofs.YtjlmmlnldjandaaGreatDoor
open Go.RowKit
set_option linter.unusedVariables false
set_option linter.unusedSimpArgs false
set_option maxRecDepth 100000 in
set_option maxHeartbeats 64000000 in
theorem rsum32_any (w : World) (r : Nat) (kind : Int) (hr : Ru w r kind 32) (out : Nat) (hout : kind / 8 = (out : Int)) (hol : out ≤ 32) (s : ByteArray) (hs : s.size ≤ 35184372088832) :
    Calls Tryz.prog 80 #[.pointer (some ⟨r, 0, none⟩), .string s] w (RetSS (((Sh.hs 32 (Sh.kL 32) (Sh.hL kind) (Sh.padL 32 s.toList) ((Sh.padL 32 s.toList).length / (2 * 32))).flatMap fun x => be (32 / 8) x).take out) w) := by
  obtain ⟨i0, hi, hz0, hz1, hz2⟩ := info_parts info5
  obtain ⟨B, hB⟩ : ∃ B, w.heap.size = B := ⟨_, rfl⟩
  have HR := Lib.hid hr
  have HO := Lib.hid hout
  obtain ⟨n, hn⟩ : ∃ n, s.size = n := ⟨_, rfl⟩
  have HN : Hid (s.toList.length = n) := by show _ = _; rw [tl_size]; exact hn
  have HSN := Lib.hid hn
  have hnl : n ≤ 35184372088832 := by omega
  have HBW := Lib.hid hB
  clear hr hout hs hn hB
  go_enter Tryz.func80, Tryz.ntmps80
  go_upto_region 2 with (refine wpList_bytes_bag _ rfl (.tmp 15) 9 54 5 rfl Tryz.underlying9 Tryz.underlying54 Tryz.underlying5 s rfl w.heap.size (Nat.le_refl _) ?_; intro v0 w1 hbag hbel)
  have HBAG := Lib.hid hbag
  have hbsz := hbel.size
  clear hbag
  go_wp2_with (at_builtin; refine wpList_append_bag _ rfl (.tmp 17) (.tmp 18) 54 rfl 5 i0 Tryz.underlying54 hi hz0 hz1 hz2 _ w.heap.size s.toList rfl (HBAG.out.alloc _) w1.heap.size rfl 128 ((At.ofAlloc w1 #[Value.int .u8 128] 5).cell 0 _ rfl) (by simp; omega) (by rw [HN.out]; omega) ?_; intro v1 w2 hbag1 hbel1)
  have hb2 := (hbel.alloc hbsz (Obj.cells #[Value.int .u8 128] 5)).trans hbel1
  rw [pd_one] at hbag1
  obtain ⟨P, hP⟩ : ∃ P, (119 - n % 64) % 64 = P := ⟨_, rfl⟩
  have HP := Lib.hid hP
  have hPl : P < 64 := by omega
  obtain ⟨g1, cap1, rfl, hg1, hc1⟩ := hbag1.whole2
  obtain ⟨N1, hN1⟩ : ∃ N1, N1 = n + 1 := ⟨_, rfl⟩
  have hl1 : (pd s.toList 0).length = N1 := by rw [pd_length, HN.out, hN1]
  rw [hl1] at hbag1 hc1 ⊢
  have HN1 := Lib.hid hN1
  have HBAG1 := Lib.hid hbag1
  have HB2 := Lib.hid hb2
  clear hbel hbsz HBAG hbag1 hbel1 hb2 hl1 hP hg1 hc1 hN1
  go_loopw [5] (fun v wr => ∃ g cap j N, j ≤ P ∧ N = n + 1 + j ∧ v = .slice (some ⟨g, 0, none⟩) N cap ∧ Bag wr w.heap.size v (pd s.toList j) ∧ Below w.heap.size w wr) (fun v _ => n + 1 + P + 1 - slen v)
  case atStart => exact ⟨g1, cap1, 0, N1, by omega, HN1.out, rfl, HBAG1.out, HB2.out⟩
  case round =>
    clear HBAG1 HB2
    obtain ⟨g, cap, j, N, hj, hN, rfl, hbag, hbel⟩ := hrel
    have hru := HR.out.below hbel (Nat.le_refl _)
    have d2 := hru.hd.cell 2 _ rfl
    rw [show ((2 * 32 : Nat) : Int) = 64 from rfl] at d2
    obtain ⟨q, hq⟩ : ∃ q, N % 64 = q := ⟨_, rfl⟩
    have e1 : (N : Int).tmod 64 = (q : Int) := tmod_natS N 64 q hq
    have e2 : IntKind.i64.wrap (q : Int) = (q : Int) := i64_fit _ (by omega)
    have hpv := HP.out
    have HBAG := Lib.hid hbag
    have HBEL := Lib.hid hbel
    have hsz := hbel.size
    clear hbag hbel hru
    by_cases hlt : j < P
    · have e3 : ((q : Int) != 56) = true := by rw [bne_iff_ne]; omega
      have HNN := Lib.hid hN
      clear hq hN hpv
      go_wp2_with fail
      go_quiet (fail)
      have HBAG2 : Hid (Bag (wr.drewN nq) w.heap.size (.slice (some ⟨g, 0, none⟩) N cap) (pd s.toList j)) := HBAG
      have HBEL2 := Lib.hid (below_drewN HBEL.out nq)
      have hsz2 : w.heap.size ≤ (wr.drewN nq).heap.size := hsz
      obtain ⟨vW, hvW⟩ : ∃ v, Value.slice (some ⟨g, 0, none⟩) N cap = v := ⟨_, rfl⟩
      rw [hvW] at HBAG2
      rw [hvW]
      clear hvW HBAG HBEL hsz e1 e2 e3 d2
      generalize wr.drewN nq = wq at *
      go_wp2_with (at_builtin; refine wpList_append_bag _ rfl (.tmp 38) (.tmp 39) 54 rfl 5 i0 Tryz.underlying54 hi hz0 hz1 hz2 _ w.heap.size (pd s.toList j) rfl (HBAG2.out.alloc _) wq.heap.size rfl 0 ((At.ofAlloc wq #[Value.int .u8 0] 5).cell 0 _ rfl) (by simp; omega) (by rw [pd_length, HN.out]; omega) ?_; intro v3 w3 hbag3 hbel3)
      have hb4 := (HBEL2.out.alloc hsz2 (Obj.cells #[Value.int .u8 0] 5)).trans hbel3
      rw [pd_more] at hbag3
      obtain ⟨g3, cap3, rfl, hg3, hc3⟩ := hbag3.whole2
      have hl3 : (pd s.toList (j + 1)).length = N + 1 := by rw [pd_length, HN.out, HNN.out]; omega
      rw [hl3] at hbag3 ⊢
      have HB3 := Lib.hid hbag3
      clear hbag3 hbel3 hl3 hg3 hc3 HBAG2 HBEL2 hsz2
      go_wp2_with fail
      go_roundw
      case rel => exact ⟨g3, cap3, j + 1, N + 1, by omega, by have := HNN.out; omega, rfl, HB3.out, hb4⟩
      case measure => simp [slen]; have := HNN.out; omega
    · have hjP : j = P := by omega
      have e3 : ((q : Int) != 56) = false := by simp only [bne_eq_false_iff_eq]; omega
      have hNP : N = n + 1 + P := by omega
      have HNN := Lib.hid hNP
      have hNl : N ≤ 35184372090000 := by omega
      rw [hjP] at HBAG
      clear hq hN hpv hjP hlt hNP hj
      go_wp2_with fail
      go_quiet (fail)
      have HBAG2 : Hid (Bag (wr.drewN nq) w.heap.size (.slice (some ⟨g, 0, none⟩) N cap) (pd s.toList P)) := HBAG
      have HBEL2 := Lib.hid (below_drewN HBEL.out nq)
      clear HBAG HBEL e1 e2 e3 d2 hsz
      generalize wr.drewN nq = wq at *
      go_wp2_with fail
      go_loopw [5, 6] (fun v iv wr => ∃ g cap i N2, i ≤ 0 ∧ N2 = N + i ∧ iv = .int .i64 (i : Int) ∧ v = .slice (some ⟨g, 0, none⟩) N2 cap ∧ Bag wr w.heap.size v (pd s.toList (P + i)) ∧ Below w.heap.size w wr) (fun _ iv _ => 0 - (intOf iv).toNat)
      case atStart => exact ⟨g, cap, 0, N, by omega, rfl, rfl, rfl, HBAG2.out, HBEL2.out⟩
      case round =>
        clear HBAG2 HBEL2
        obtain ⟨g, cap, i, N2, hi8, hN2, rfl, rfl, hbag, hbel⟩ := hrel
        have hru := HR.out.below hbel (Nat.le_refl _)
        have d2 := hru.hd.cell 2 _ rfl
        rw [show ((2 * 32 : Nat) : Int) = 64 from rfl] at d2
        have HBAG := Lib.hid hbag
        have HBEL := Lib.hid hbel
        have hsz := hbel.size
        have HN2 := Lib.hid hN2
        clear hbag hbel hru hN2
        by_cases hlt : i < 0
        · have hlt0 := hlt
          exact absurd hlt (by omega)
        · have hiX : i = 0 := by omega
          subst hiX
          rw [show ((0 : Nat) : Int) = 0 from rfl]
          have hgeX : ¬ (0 : Int) < 0 := by decide
          have hpn : P + 0 = Sh.padN 32 s.toList.length := by rw [HN.out, Sh.padN]; have := HP.out; omega
          rw [hpn] at HBAG
          have HPN := Lib.hid hpn
          clear hpn hlt hi8
          obtain ⟨m8, hm8⟩ : ∃ m, 8 * n = m := ⟨_, rfl⟩
          have f1 : IntKind.u64.wrap (s.size : Int) = (n : Int) := by rw [HSN.out]; exact u64_fit _ (by omega)
          have f2 : IntKind.u64.wrap ((n : Int) * 8) = (m8 : Int) := by rw [show (n : Int) * 8 = (m8 : Int) by omega]; exact u64_fit _ (by omega)
          obtain ⟨N3, hN3⟩ : ∃ N3, N3 = N2 := ⟨_, rfl⟩
          have HM8 := Lib.hid hm8
          have hN3l : N2 ≤ 35184372092000 := by have := HN2.out; omega
          have HPL : Hid (Sh.padL 32 s.toList = pd s.toList (Sh.padN 32 s.toList.length) ++ be 8 m8) := by show _ = _; rw [padL_pd, HN.out, HM8.out]
          obtain ⟨L0, hL0⟩ : ∃ L, pd s.toList (Sh.padN 32 s.toList.length) = L := ⟨_, rfl⟩
          rw [hL0] at HBAG HPL
          have hL0l : L0.length = N2 := by rw [← hL0, pd_length, ← HPN.out, HN.out]; have := HN2.out; have := HNN.out; omega
          have HL0 := Lib.hid hL0l
          clear hm8 hN3 hL0 hL0l
          go_wp2_with fail
          go_loopw [5, 8] (fun v kv wr => ∃ g cap k N4, k ≤ 8 ∧ N4 = N2 + k ∧ kv = .int .i64 (k : Int) ∧ v = .slice (some ⟨g, 0, none⟩) N4 cap ∧ Bag wr w.heap.size v (L0 ++ (be 8 m8).take k) ∧ Below w.heap.size w wr) (fun _ kv _ => 8 - (intOf kv).toNat)
          case atStart => exact ⟨g, cap, 0, N2, by omega, rfl, rfl, rfl, by rw [List.take_zero, List.append_nil]; exact HBAG.out, HBEL.out⟩
          case round =>
            clear HBAG HBEL d2 hsz f1 f2
            obtain ⟨g, cap, k, N4, hk8, hN4, rfl, rfl, hbag, hbel⟩ := hrel
            have HBAG := Lib.hid hbag
            have HBEL := Lib.hid hbel
            have hsz := hbel.size
            have HN4 := Lib.hid hN4
            clear hbag hbel hN4
            by_cases hlt : k < 8
            · have hltI : (k : Int) < 8 := by omega
              obtain ⟨x, hx⟩ : ∃ x, 8 * (8 - 1 - k) = x := ⟨_, rfl⟩
              obtain ⟨u, hu, hu2⟩ : ∃ u : UInt8, (m8 : Int) / 2 ^ x % 256 = (u.toNat : Int) ∧ u = UInt8.ofNat (m8 / 256 ^ (8 - 1 - k)) := ⟨UInt8.ofNat (m8 / 256 ^ (8 - 1 - k)), by
                rw [← hx, ← u8mod, Int.natCast_ediv, ← pow8, Int.natCast_pow]; rfl, rfl⟩
              have e1 : (56 : Int) - 8 * (k : Int) = (x : Int) := by omega
              have e2 : x < 64 := by omega
              have e2I : (x : Int) < 64 := by omega
              have e3 : IntKind.u64.wrap (x : Int) = (x : Int) := u64_fit _ (by omega)
              have HU := Lib.hid hu2
              obtain ⟨vW, hvW⟩ : ∃ v, Value.slice (some ⟨g, 0, none⟩) N4 cap = v := ⟨_, rfl⟩
              rw [hvW] at HBAG
              rw [hvW]
              clear hvW hu2 hx
              go_wp2_with (at_builtin; refine wpList_append_bag _ rfl (.tmp 62) (.tmp 70) 54 rfl 5 i0 Tryz.underlying54 hi hz0 hz1 hz2 _ w.heap.size (L0 ++ (be 8 m8).take k) rfl (HBAG.out.alloc _) wr.heap.size rfl u ((At.ofAlloc wr #[Value.int .u8 (u.toNat : Int)] 5).cell 0 _ rfl) (by simp; omega) (by rw [List.length_append, List.length_take, be_length, HL0.out]; omega) ?_; intro v3 w3 hbag3 hbel3)
              have hb4 := (HBEL.out.alloc hsz (Obj.cells #[Value.int .u8 (u.toNat : Int)] 5)).trans hbel3
              rw [List.append_assoc, HU.out, ← be_take 8 m8 k hlt] at hbag3
              obtain ⟨g3, cap3, rfl, hg3, hc3⟩ := hbag3.whole2
              have hl3 : (L0 ++ (be 8 m8).take (k + 1)).length = N4 + 1 := by rw [List.length_append, List.length_take, be_length, HL0.out, HN4.out]; omega
              rw [hl3] at hbag3 ⊢
              have HB3 := Lib.hid hbag3
              clear hbag3 hbel3 hl3 hg3 hc3 HBAG HBEL hsz hu e1 e2 e2I e3
              go_wp2_with fail
              go_roundw
              case rel => exact ⟨g3, cap3, k + 1, N4 + 1, by omega, by have := HN4.out; omega, by go_num, rfl, HB3.out, hb4⟩
              case measure => first | (simp [intOf]; done) | (simp [intOf]; omega)
            · have hk : k = 8 := by omega
              subst hk
              rw [show ((8 : Nat) : Int) = 8 from rfl]
              have hge8 : ¬ (8 : Int) < 8 := by decide
              have hbf : (be 8 m8).take 8 = be 8 m8 := List.take_of_length_le (by rw [be_length]; decide)
              rw [hbf, ← HPL.out] at HBAG
              clear hlt hk8 hbf
              obtain ⟨L, hL⟩ : ∃ L, Sh.padL 32 s.toList = L := ⟨_, rfl⟩
              obtain ⟨NB, hNB⟩ : ∃ NB, N4 / 64 = NB := ⟨_, rfl⟩
              have hN4 : N4 = 64 * NB := by have := HN4.out; have := HN2.out; have := HNN.out; have := HP.out; omega
              have hN4l : N4 ≤ 35184372094000 := by have := HN4.out; omega
              rw [hL] at HBAG
              obtain ⟨hLl, hgB, hcap, hA⟩ := HBAG.out.opens
              obtain ⟨hHl, hHt⟩ := hL_ok kind
              rw [bits_kb HR.out.kb] at hHt
              have HHH := Lib.hid (And.intro hHl hHt)
              have hru := HR.out.below HBEL.out (Nat.le_refl _)
              have hi8 := info8 (Sh.hL kind) hHl
              have hglt := hA.lt (by intro e; have := congrArg List.length e; rw [bcells_length, hLl, List.length_nil] at this; have := HN4.out; omega)
              have HI8 := Lib.hid hi8
              have HRU := Lib.hid hru
              have HA := Lib.hid hA
              have HLL := Lib.hid hLl
              have HN4' := Lib.hid hN4
              have HLE := Lib.hid hL
              clear hL hNB hN4 hLl hA hHl hHt hru hi8 HBAG
              go_upto_region 15 with (first
                | (refine wpList_load_at 102 (.tmp 74) r 5 (ucells (Sh.hL kind)) _ HRU.out.bg Tryz.underlying102 rfl HI8.out ⟨rfl, rfl, rfl⟩ ?_)
                | (refine wpList_alloc_at 102 (.agg #[.int .u64 0, .int .u64 0, .int .u64 0, .int .u64 0, .int .u64 0, .int .u64 0, .int .u64 0, .int .u64 0]) 8 (by kernel_rfl) ⟨rfl, rfl⟩ ?_; intro wv hAv hbv hsv)
                | (refine wpList_store_at 102 (.tmp 9) (.tmp 75) wr.heap.size 0 (ucells [0, 0, 0, 0, 0, 0, 0, 0]) (ucells (Sh.hL kind)) hAv (by rw [ucells_length, ucells_length, HHH.out.1]; rfl) HI8.out (ucells_one _) ⟨rfl, rfl, rfl, rfl⟩ ?_))
              have hB9 : Below w.heap.size w (wv.setCells wr.heap.size 0 (ucells (Sh.hL kind))) := below_sets _ _ hsz _ _ _ _ (HBEL.out.trans (hbv.mono hsz))
              have hH9 : At (wv.setCells wr.heap.size 0 (ucells (Sh.hL kind))) wr.heap.size 0 (ucells (Sh.hL kind)) := At.ofSets (old := ucells [0, 0, 0, 0, 0, 0, 0, 0]) hAv (by rw [ucells_length, ucells_length, HHH.out.1]; rfl)
              have hA9 : At (wv.setCells wr.heap.size 0 (ucells (Sh.hL kind))) g 0 (bcells L) := (HA.out.below hbv hglt).apartSets (.inl (by omega))
              obtain ⟨gH, hgH⟩ : ∃ g, wr.heap.size = g := ⟨_, rfl⟩
              have hs9 : gH < (wv.setCells wr.heap.size 0 (ucells (Sh.hL kind))).heap.size := by rw [size_sets, hsv]; omega
              rw [hgH] at hB9 hH9 hA9 hs9 hAv hglt hsz
              rw [hgH]
              obtain ⟨w9, hw9⟩ : ∃ x, wv.setCells gH 0 (ucells (Sh.hL kind)) = x := ⟨_, rfl⟩
              rw [hw9] at hB9 hH9 hA9 hs9
              rw [hw9]
              have H9 := Lib.hid (And.intro hB9 (And.intro hH9 hA9))
              clear hw9 hB9 hH9 hA9 hAv hbv hsv hgH HBEL HRU HA
              go_wp2_with fail
              go_loopw [10] (fun iv wr => ∃ (k A : Nat), k ≤ NB ∧ A = 64 * k ∧ iv = .int .i64 (A : Int) ∧ Below w.heap.size w wr ∧ At wr gH 0 (ucells (Sh.hs 32 (Sh.kL 32) (Sh.hL kind) L k)) ∧ At wr g 0 (bcells L) ∧ gH < wr.heap.size) (fun iv _ => N4 + 64 - (intOf iv).toNat)
              case atStart => exact ⟨0, 0, by omega, rfl, rfl, H9.out.1, H9.out.2.1, H9.out.2.2, hs9⟩
              case round =>
                clear H9 hs9
                obtain ⟨k, A, hk, hAk, rfl, hbel, hH, hA, hs⟩ := hrel
                have hru := HR.out.below hbel (Nat.le_refl _)
                have d2 := hru.hd.cell 2 _ rfl
                rw [show ((2 * 32 : Nat) : Int) = 64 from rfl] at d2
                by_cases hlt : k < NB
                · have hA1 : A < N4 := by have := HN4'.out; omega
                  obtain ⟨A2, hA2⟩ : ∃ x, A + 64 = x := ⟨_, rfl⟩
                  have hA2l : A2 ≤ N4 := by have := HN4'.out; omega
                  have e1 : IntKind.i64.wrap ((A : Int) + 64) = (A2 : Int) := by rw [show (A : Int) + 64 = (A2 : Int) by omega]; exact i64_fit _ (by omega)
                  have e2 : (A : Int) ≤ (A2 : Int) := by omega
                  have e3 : (A2 : Int) ≤ (cap : Int) := by omega
                  have e4 : (0 : Int) ≤ (A : Int) := by omega
                  have e5 : (A : Int) < (N4 : Int) := by omega
                  have e6 : ¬ cap = A := by omega
                  have hpart := hA.part8 A 64 (by rw [HLL.out]; omega)
                  obtain ⟨V, hV⟩ : ∃ V, Sh.hs 32 (Sh.kL 32) (Sh.hL kind) L k = V := ⟨_, rfl⟩
                  have hok := hs_ok 32 (Sh.kL 32) (Sh.hL kind) L HHH.out.1 HHH.out.2 k
                  have hnext : Sh.hs 32 (Sh.kL 32) (Sh.hL kind) L (k + 1) = Sh.comp 32 (Sh.kL 32) V (Sh.wordsOf 32 ((L.drop (2 * 32 * k)).take (2 * 32))) := by rw [Sh.hs, hV]
                  rw [hV] at hok hH
                  obtain ⟨v0, v1, v2, v3, v4, v5, v6, v7, hVe⟩ := eight_ex V hok.1
                  rw [hVe] at hok hH hnext
                  obtain ⟨y0, y1, y2, y3, y4, y5, y6, y7⟩ := eight hH
                  have HOK := Lib.hid hok.2
                  have HNX := Lib.hid hnext
                  clear hok hnext hV hVe
                  have HPART := Lib.hid hpart
                  have HAK := Lib.hid hAk
                  have HA2 := Lib.hid hA2
                  have HHs := Lib.hid hH
                  have HAA := Lib.hid hA
                  have HBE := Lib.hid hbel
                  have HRU := Lib.hid hru
                  clear hpart hAk hA2 hH hA hbel hru
                  go_wp2_with fail
                  obtain ⟨x, hx⟩ : ∃ x : ByteArray, (⟨((L.drop A).take 64).toArray⟩ : ByteArray) = x := ⟨_, rfl⟩
                  have hcv := fun n c hn => sh_conv (P := Tryz.prog) (w := wr.drew) (cap := c) HPART.out.drew 54 9 5 n hn Tryz.underlying54 Tryz.underlying5 Tryz.underlying9
                  have hcv2 := hcv (A2 - A) (cap - A) (by rw [List.length_take, List.length_drop, HLL.out]; have := HA2.out; clear e1; omega)
                  rw [hx] at hcv2
                  have HX : Hid (x.toList = (L.drop A).take 64) := by show _ = _; rw [← hx, tl_mk]
                  have HXS : Hid (x.size = 2 * 32) := by show _ = _; rw [← tl_size, HX.out, List.length_take, List.length_drop, HLL.out]; have := HA2.out; clear e1; omega
                  clear hcv hx
                  go_still_tail 12, (by kernel_rfl)
                  clear hcv2
                  change wpList _ _ _ _ _ wr.drew
                  have HBD := Lib.hid HBE.out.drew
                  go_wp2_with fail
                  have hNl : (Sh.hs 32 (Sh.kL 32) (Sh.hL kind) L (k + 1)).length = 8 := (hs_ok 32 (Sh.kL 32) (Sh.hL kind) L HHH.out.1 HHH.out.2 (k + 1)).1
                  have HNL := Lib.hid hNl
                  clear hNl
                  refine (rblock32_any wr.drew r kind HRU.out.drew v0 v1 v2 v3 v4 v5 v6 v7 HOK.out x HXS.out).mono ?_
                  rintro e w5 ⟨rfl, hb5⟩
                  rw [show Sh.comp 32 (Sh.kL 32) [v0, v1, v2, v3, v4, v5, v6, v7] (Sh.wordsOf 32 x.toList) = Sh.hs 32 (Sh.kL 32) (Sh.hL kind) L (k + 1) by rw [HNX.out, HX.out, HAK.out]]
                  obtain ⟨V', hV'⟩ : ∃ V, Sh.hs 32 (Sh.kL 32) (Sh.hL kind) L (k + 1) = V := ⟨_, rfl⟩
                  have hVl : V'.length = 8 := by rw [← hV']; exact HNL.out
                  rw [hV']
                  have HVL := Lib.hid hVl
                  have HV' := Lib.hid hV'
                  have hH5 := HHs.out.drew.below hb5 hs
                  have HS5 := Lib.hid (At.ofSets (vs := ucells V') hH5 (by rw [ucells_length, ucells_length, hVl]; rfl))
                  have hsw5 : gH < w5.heap.size := Nat.lt_of_lt_of_le hs hb5.size
                  have HA5 := Lib.hid ((HAA.out.drew.below hb5 (by show g < wr.heap.size; omega)).apartSets (g' := gH) (o' := 0) (vs := ucells V') (.inl (by omega)))
                  have HB5 := Lib.hid (below_sets w.heap.size gH hsz (ucells V') 0 _ _ (HBD.out.trans (hb5.mono (by show w.heap.size ≤ wr.heap.size; omega))))
                  have HH5 := Lib.hid hH5
                  clear hV' hVl hH5 hb5 HBD HHs HAA HBE HRU y0 y1 y2 y3 y4 y5 y6 y7 d2 e2 e3 e4 e5 e6
                  have hru5 := (HR.out.below HB5.out (Nat.le_refl _)).hd.cell 2 _ rfl
                  rw [show ((2 * 32 : Nat) : Int) = 64 from rfl] at hru5
                  go_wp2_with (refine wpList_store_at 102 (.tmp 9) (.tmp 98) gH 0 (ucells [v0, v1, v2, v3, v4, v5, v6, v7]) (ucells V') HH5.out (by rw [ucells_length, ucells_length, HVL.out]; rfl) (info8 _ HVL.out) (ucells_one _) ⟨rfl, rfl, rfl, rfl⟩ ?_)
                  go_roundw
                  case rel => exact ⟨k + 1, A2, by omega, by have := HA2.out; have := HAK.out; omega, rfl, HB5.out, by rw [HV'.out]; exact HS5.out, HA5.out, by rw [size_sets]; exact hsw5⟩
                  case measure => simp [intOf]; have := HA2.out; clear e1; omega
                · have hkN : k = NB := by omega
                  have hAN : A = N4 := by rw [hAk, hkN]; exact HN4'.out.symm
                  obtain ⟨V, hV⟩ : ∃ V, Sh.hs 32 (Sh.kL 32) (Sh.hL kind) L NB = V := ⟨_, rfl⟩
                  have hok := (hs_ok 32 (Sh.kL 32) (Sh.hL kind) L HHH.out.1 HHH.out.2 NB).1
                  rw [hkN, hV] at hH
                  rw [hV] at hok
                  have hd1 := hru.hd.cell 1 _ rfl
                  rw [HO.out] at hd1
                  have hgeA : ¬ (A : Int) < (N4 : Int) := by omega
                  have HH := Lib.hid hH
                  have HV := Lib.hid hV
                  have HVL := Lib.hid hok
                  have HBE := Lib.hid hbel
                  have HRU := Lib.hid hru
                  clear hH hV hok hbel hru hA hAk hAN hkN hlt hk hd1
                  go_wp2_with fail
                  obtain ⟨B5, hB5⟩ : ∃ B, wr.heap.size = B := ⟨_, rfl⟩
                  have HBB := Lib.hid hB5
                  rw [hB5] at hs
                  clear hB5
                  obtain ⟨wo, hwo⟩ : ∃ x, x = wr := ⟨_, rfl⟩
                  subst hwo
                  go_loopw [11, 13] (fun v iv w6 => ∃ (i : Nat), i ≤ 8 ∧ iv = .int .i64 (i : Int) ∧ w6.ownsRow B5 5 1 v (4 * i) (bcells ((V.take i).flatMap fun x => be 4 x)) ∧ Below B5 wo w6) (fun _ iv _ => 8 - (intOf iv).toNat)
                  case atStart => exact ⟨0, by omega, rfl, World.ownsRow_nil _ _ _ _, Below.refl _ _⟩
                  case round =>
                    obtain ⟨i, hi8, rfl, hown, hb6⟩ := hrel
                    have hAH := HH.out.below hb6 hs
                    have HAH := Lib.hid hAH
                    have HOWN := Lib.hid hown
                    have HB6 := Lib.hid hb6
                    have hs6 := hb6.size
                    clear hAH hown hb6
                    by_cases hlt : i < 8
                    · have hltI : (i : Int) < 8 := by omega
                      have hx := (HAH.out.u i (by rw [HVL.out]; exact hlt)).1
                      rw [Nat.zero_add] at hx
                      obtain ⟨x, hxe⟩ : ∃ x, Sh.g V i = x := ⟨_, rfl⟩
                      change wr.cell? _ = some (.int .u64 ((Sh.g V i : Nat) : Int)) at hx
                      rw [hxe] at hx
                      have HXC := Lib.hid hx
                      have HXE := Lib.hid hxe
                      have hft := flat_take V 4 i (by rw [HVL.out]; exact hlt)
                      rw [hxe] at hft
                      obtain ⟨D, hD⟩ : ∃ D, ((V.take i).flatMap fun x => be 4 x) = D := ⟨_, rfl⟩
                      rw [hD] at HOWN hft
                      have HFT := Lib.hid hft
                      clear hx hxe hft hD
                      go_wp2_with fail
                      go_loopw [11, 14] (fun v kv w7 => ∃ (j M : Nat) (y : Int), j ≤ 4 ∧ M = 4 * i + j ∧ kv = .int .i64 y ∧ y = (4 : Int) - 1 - (j : Int) ∧ w7.ownsRow B5 5 1 v M (bcells (D ++ (be 4 x).take j)) ∧ Below B5 wo w7) (fun _ kv _ => (intOf kv + 1).toNat)
                      case atStart => exact ⟨0, 4 * i, _, by omega, rfl, rfl, rfl, by rw [List.take_zero, List.append_nil]; exact HOWN.out, HB6.out⟩
                      case round =>
                        clear HOWN HB6 HAH HXC hs6
                        obtain ⟨j, M, y, hj, hM, rfl, hy, hown, hb7⟩ := hrel
                        have HOWN := Lib.hid hown
                        have hs7 : B5 ≤ wr.heap.size := by rw [← HBB.out]; exact hb7.size
                        have HB7 := Lib.hid hb7
                        have HM := Lib.hid hM
                        clear hown hM
                        by_cases hjl : j < 4
                        · obtain ⟨p, hp⟩ : ∃ p, 4 - 1 - j = p := ⟨_, rfl⟩
                          obtain rfl : y = (p : Int) := by omega
                          have hx := ((HH.out.below hb7 hs).u i (by rw [HVL.out]; exact hlt)).1
                          rw [Nat.zero_add] at hx
                          change wr.cell? _ = some (.int .u64 ((Sh.g V i : Nat) : Int)) at hx
                          rw [HXE.out] at hx
                          obtain ⟨sh, hsh⟩ : ∃ x, 8 * p = x := ⟨_, rfl⟩
                          obtain ⟨u, hu, hu2⟩ : ∃ u : UInt8, (x : Int) / 2 ^ sh % 256 = (u.toNat : Int) ∧ u = UInt8.ofNat (x / 256 ^ (4 - 1 - j)) := ⟨UInt8.ofNat (x / 256 ^ (4 - 1 - j)), by
                            rw [← hsh, ← u8mod, Int.natCast_ediv, ← hp, ← pow8, Int.natCast_pow]; rfl, rfl⟩
                          have e1 : (8 : Int) * (p : Int) = (sh : Int) := by omega
                          have e2 : sh < 64 := by omega
                          have e2I : (sh : Int) < 64 := by omega
                          have e3 : IntKind.u64.wrap (sh : Int) = (sh : Int) := u64_fit _ (by omega)
                          have e4 : (0 : Int) ≤ (p : Int) := by omega
                          have e5 : (p : Int) ≤ 8 := by omega
                          have HU := Lib.hid hu2
                          have HY := Lib.hid hy
                          have hMl : M ≤ 200 := by have := HM.out; omega
                          clear hb7 hu2 hsh hp hy
                          go_wp2_with (at_builtin; refine wpList_append_u8 rfl (.tmp 114) (.tmp 123) 54 rfl B5 5 i0 Tryz.underlying54 hi hz0 hz1 hz2 u11 M _ rfl (HOWN.out.alloc _) wr.heap.size 1 1 [u] rfl rfl (cells_one (by simp)) (by omega) (by simp; omega) ?_; intro v' w8 hown1 hgrow)
                          have hb8 := below_own (HB7.out.alloc (by omega) (Obj.cells #[Value.int IntKind.u8 ↑u.toNat] 5)) hgrow (by simp; omega) (HOWN.out.alloc _)
                          rw [List.append_assoc, HU.out, ← be_take 4 x j hjl] at hown1
                          have HO8 := Lib.hid hown1
                          clear hown1 hgrow hu e1 e2 e2I e3 hx
                          go_wp2_with fail
                          go_roundw
                          case rel => exact ⟨j + 1, M + 1, (p : Int) - 1, by omega, by have := HM.out; omega, rfl, by have := HY.out; omega, HO8.out, hb8⟩
                          case measure => first | (simp [intOf]; done) | (simp [intOf]; omega)
                        · have hjs : j = 4 := by omega
                          have hyn : ¬ (0 : Int) ≤ y := by omega
                          have HO9 : Hid (wr.ownsRow B5 5 1 u11 (4 * (i + 1)) (bcells ((V.take (i + 1)).flatMap fun x => be 4 x))) := by
                            show World.ownsRow _ _ _ _ _ _ _
                            rw [HFT.out, show 4 * (i + 1) = M by have := HM.out; omega]
                            have h := HOWN.out
                            rw [hjs, List.take_of_length_le (by rw [be_length]; exact Nat.le_refl _)] at h
                            exact h
                          clear hjs hy hb7 HOWN
                          go_wp2_with fail
                          go_roundw
                          case rel => exact ⟨i + 1, by omega, by go_num, HO9.out, HB7.out⟩
                          case measure => first | (simp [intOf]; done) | (simp [intOf]; omega)
                    · have hi : i = 8 := by omega
                      have hge : ¬ (i : Int) < 8 := by omega
                      have hown := HOWN.out
                      rw [hi, List.take_of_length_le (by rw [HVL.out]; exact Nat.le_refl _), show 4 * 8 = 32 from rfl] at hown
                      obtain ⟨gO, capO, rfl⟩ := own_isU hown (by decide)
                      have hcapO := own_cap hown (by decide)
                      have hAO := (At.ofOwn hown).part8 0 out (by rw [flat_len, HVL.out]; omega)
                      rw [List.drop_zero] at hAO
                      obtain ⟨x, hx⟩ : ∃ x : ByteArray, (⟨((V.flatMap fun x => be 4 x).take out).toArray⟩ : ByteArray) = x := ⟨_, rfl⟩
                      have hcv := fun c => sh_conv (P := Tryz.prog) (w := wr) (cap := c) hAO 54 9 5 out (by rw [List.length_take, flat_len, HVL.out]; exact Nat.min_eq_left hol) Tryz.underlying54 Tryz.underlying5 Tryz.underlying9
                      have HX : Hid (x.toList = (V.flatMap fun x => be 4 x).take out) := by show _ = _; rw [← hx, tl_mk]
                      rw [hx] at hcv
                      have hd1 := (HRU.out.below HB6.out (by rw [HBB.out]; exact Nat.le_refl _)).hd.cell 1 _ rfl
                      rw [HO.out] at hd1
                      have e1 : (out : Int) ≤ (capO : Int) := by omega
                      have e2 : (0 : Int) ≤ (out : Int) := by omega
                      clear hown hAO hx hi hlt
                      go_wp2_with fail
                      go_ret
                      exact ⟨x, rfl, by rw [HX.out, HLE.out, HLL.out, show N4 / (2 * 32) = NB by rw [HN4'.out]; omega, HV.out], HBE.out.trans (HB6.out.mono (by rw [← HBB.out]; exact HBE.out.size))⟩
end Go.Proofs.YtjlmmlnldjandaaGreatDoor
