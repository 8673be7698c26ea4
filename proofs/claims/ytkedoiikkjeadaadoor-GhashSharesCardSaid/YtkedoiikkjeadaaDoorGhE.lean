/- The field of 128 bits: the document's Times. -/
import Derived.Test.YtkedoiikkjeadaaDoorGhD
namespace Go.Proofs.YtkedoiikkjeadaaDoor
open Go.RowKit
set_option linter.unusedVariables false
set_option linter.unusedSimpArgs false
def tmX (ea eb : List Bool) (i : Nat) : Nat := Gh.xs (fun i => Gh.sel (ea.getD i false) (Gh.mxn i (Gh.V eb 128))) i
def tmY (eb : List Bool) (i k : Nat) : Nat := Gh.xs (fun j => Gh.sel (eb.getD j false) (Gh.pw (i + j))) k
theorem tmY_full (eb : List Bool) (i : Nat) : tmY eb i 128 = Gh.mxn i (Gh.V eb 128) := by
  rw [Gh.V, Gh.mxn_xs]
  exact Gh.xs_congr fun j _ => by rw [Gh.mxn_sel, Gh.pw_add]
theorem tmX_full (ea eb : List Bool) : tmX ea eb 128 = Gh.mul (Gh.V ea 128) (Gh.V eb 128) :=
  Gh.xs_congr fun i hi => by rw [Gh.V_co ea i hi]
theorem tmX_no (ea eb : List Bool) (i : Nat) (h : ea.getD i false = false) : tmX ea eb (i + 1) = tmX ea eb i := by
  rw [tmX, Gh.xs, h, Gh.sel, if_neg (by decide), Nat.xor_zero]
  rfl
theorem tmX_yes (ea eb : List Bool) (i : Nat) (h : ea.getD i false = true) : tmX ea eb (i + 1) = tmX ea eb i ^^^ tmY eb i 128 := by
  rw [tmX, Gh.xs, h, tmY_full]
  rfl
theorem tmY_step (l eb : List Bool) (i k : Nat) (x : Nat) (hl : l.length = 255) (hk : i + k < 255) (h : Gh.V l 255 = x ^^^ tmY eb i k) : Gh.V (l.set (i + k) (l.getD (i + k) false != eb.getD k false)) 255 = x ^^^ tmY eb i (k + 1) := by
  rw [Gh.V_set _ _ _ _ hk (by omega), h, tmY, tmY, Gh.xs, show (l.getD (i + k) false ^^ (l.getD (i + k) false != eb.getD k false)) = eb.getD k false by cases l.getD (i + k) false <;> cases eb.getD k false <;> rfl, Nat.xor_assoc]
theorem zero255 : Tryd.zeroCells77.toList = lcells (List.replicate 255 false) := by kernel_rfl
theorem V_zero (n : Nat) : Gh.V (List.replicate 255 false) n = 0 := by
  rw [Gh.V, Gh.xs_congr (g := fun _ => 0), Gh.xs_zero]
  intro i _
  rw [List.getD, List.getElem?_replicate]
  split <;> rfl
theorem tm_by (w : World) (ea eb : List Bool) : ∃ w0, (((w.alloc (Obj.cells (lcells ea).toArray 51)).alloc (Obj.cells (lcells eb).toArray 51)).alloc (Obj.cells Tryd.zeroCells51 51)).alloc (Obj.cells Tryd.zeroCells77 77) = w0 ∧
    At w0 w.heap.size 0 (lcells ea) ∧ At w0 (w.heap.size + 1) 0 (lcells eb) ∧ At w0 (w.heap.size + 1 + 1) 0 (lcells (List.replicate 128 false)) ∧ At w0 (w.heap.size + 1 + 1 + 1) 0 (lcells (List.replicate 255 false)) ∧ Below w.heap.size w w0 ∧ w0.heap.size = w.heap.size + 4 := by
  refine ⟨_, rfl, ?_, ?_, ?_, ?_, ?_, by simp⟩
  · have h := At.ofAlloc w (lcells ea).toArray 51
    simp only at h
    exact ((h.alloc _).alloc _).alloc _
  · have h := At.ofAlloc (w.alloc (Obj.cells (lcells ea).toArray 51)) (lcells eb).toArray 51
    rw [World.size_alloc] at h
    simp only at h
    exact (h.alloc _).alloc _
  · have h := At.ofAlloc ((w.alloc (Obj.cells (lcells ea).toArray 51)).alloc (Obj.cells (lcells eb).toArray 51)) Tryd.zeroCells51 51
    rw [World.size_alloc, World.size_alloc, zero128] at h
    exact h.alloc _
  · have h := At.ofAlloc (((w.alloc (Obj.cells (lcells ea).toArray 51)).alloc (Obj.cells (lcells eb).toArray 51)).alloc (Obj.cells Tryd.zeroCells51 51)) Tryd.zeroCells77 77
    rw [World.size_alloc, World.size_alloc, World.size_alloc, zero255] at h
    exact h
  · exact ((((Below.refl _ _).alloc (Nat.le_refl _) _).alloc (by simp) _).alloc (by simp; omega) _).alloc (by simp; omega) _
theorem down_eq (l : List Bool) (c : Nat) : Gh.down l (c + 128) = (((l.set c (!l.getD c false)).set (c + 1) (!l.getD (c + 1) false)).set (c + 2) (!l.getD (c + 2) false)).set (c + 7) (!l.getD (c + 7) false) := by
  have hs : ∀ (l : List Bool) (i j : Nat) (b : Bool), i ≠ j → (l.set i b).getD j false = l.getD j false := fun l i j b h => by rw [List.getD, List.getElem?_set_ne h]; rfl
  unfold Gh.down
  rw [show c + 128 - 128 = c by omega, show c + 128 - 127 = c + 1 by omega, show c + 128 - 126 = c + 2 by omega, show c + 128 - 121 = c + 7 by omega]
  simp only []
  rw [hs _ (c + 2) (c + 7) _ (by omega), hs _ (c + 1) (c + 7) _ (by omega), hs _ (c + 1) (c + 2) _ (by omega), hs _ c (c + 7) _ (by omega), hs _ c (c + 2) _ (by omega), hs _ c (c + 1) _ (by omega)]
def cpK (l : List Bool) (k : Nat) : List Bool := l.take k ++ List.replicate (128 - k) false
theorem cpK_length (l : List Bool) (k : Nat) (hl : l.length = 255) (h : k ≤ 128) : (cpK l k).length = 128 := by rw [cpK, List.length_append, List.length_take, List.length_replicate]; omega
theorem cpK_set (l : List Bool) (k : Nat) (hl : l.length = 255) (h : k < 128) : (cpK l k).set k (l.getD k false) = cpK l (k + 1) := by
  have h1 : (l.take k).length = k := by rw [List.length_take]; omega
  have h2 : l[k]? = some (l.getD k false) := by rw [List.getD, List.getElem?_eq_getElem (by omega)]; rfl
  rw [cpK, List.set_append_right _ _ (by omega), h1, Nat.sub_self, show 128 - k = (128 - (k + 1)) + 1 by omega, List.replicate_succ, List.set_cons_zero, cpK, List.take_add_one, h2]
  simp
theorem cpK_full (l : List Bool) (hl : l.length = 255) : cpK l 128 = Gh.bits (Gh.V l 128) := by
  have h1 : cpK l 128 = l.take 128 := by simp [cpK]
  have h2 : Gh.V l 128 = Gh.V (l.take 128) 128 := Gh.xs_congr fun i hi => by rw [List.getD, List.getD, List.getElem?_take_of_lt hi]
  rw [h1, h2, Gh.bits_V _ (by rw [List.length_take]; omega)]
theorem el_alloc (w : World) : ∃ w0, w.alloc (Obj.cells Tryd.zeroCells51 51) = w0 ∧ At w0 w.heap.size 0 (lcells (List.replicate 128 false)) ∧ Below w.heap.size w w0 := by
  have h := At.ofAlloc w Tryd.zeroCells51 51
  rw [zero128] at h
  exact ⟨_, rfl, h, (Below.refl _ _).alloc (Nat.le_refl _) _⟩
set_option maxRecDepth 100000 in
set_option maxHeartbeats 1600000 in
theorem rtimes_any (ea eb : List Bool) (ha : ea.length = 128) (hb : eb.length = 128) (w : World) : Calls Tryd.prog 32 #[.agg (lcells ea).toArray, .agg (lcells eb).toArray] w (RetBs (Gh.bits (Gh.mul (Gh.V ea 128) (Gh.V eb 128))) w) := by
  have HA := Lib.hid ha
  have HB := Lib.hid hb
  clear ha hb
  go_enter Tryd.func32, Tryd.ntmps32
  go_wp2_with fail
  obtain ⟨w0, hw0, hA0, hA1, hA2, hA3, hb0, hs0⟩ := tm_by w ea eb
  rw [hw0]
  clear hw0
  go_loopw [6] (fun i wr => ∃ (n : Nat) (l : List Bool), n ≤ 128 ∧ i = .int .i64 (n : Int) ∧ l.length = 255 ∧ Gh.V l 255 = tmX ea eb n ∧ At wr w.heap.size 0 (lcells ea) ∧ At wr (w.heap.size + 1) 0 (lcells eb) ∧ At wr (w.heap.size + 1 + 1) 0 (lcells (List.replicate 128 false)) ∧ At wr (w.heap.size + 1 + 1 + 1) 0 (lcells l) ∧ Below w.heap.size w wr ∧ w.heap.size + 4 ≤ wr.heap.size) (fun i _ => 128 - (intOf i).toNat)
  case atStart => exact ⟨0, _, Nat.zero_le _, rfl, List.length_replicate, V_zero _, hA0, hA1, hA2, hA3, hb0, by omega⟩
  case round =>
    clear hA0 hA1 hA2 hA3 hb0 hs0
    obtain ⟨n, l, hn, rfl, hl, hV, hA0, hA1, hA2, hA3, hb0, hs0⟩ := hrel
    have HL := Lib.hid hl
    have HV := Lib.hid hV
    have H0 := Lib.hid hA0
    have H1 := Lib.hid hA1
    have H2 := Lib.hid hA2
    have H3 := Lib.hid hA3
    clear hl hV hA0 hA1 hA2 hA3
    by_cases hlt : n < 128
    · have hca := H0.out.bl n (by rw [HA.out]; exact hlt)
      rw [Nat.zero_add] at hca
      obtain ⟨b, hbe⟩ : ∃ b, ea.getD n false = b := ⟨_, rfl⟩
      rw [hbe] at hca
      have HBE := Lib.hid hbe
      clear hbe
      cases b
      · go_wp2_with fail
        go_loopw [7] (fun k w2 => k = .int .i64 0 ∧ wr = w2) (fun _ _ => 0)
        case atStart => exact ⟨rfl, rfl⟩
        case round =>
          obtain ⟨rfl, rfl⟩ := hrel
          go_wp2_with fail
          go_roundw
          case rel => exact ⟨n + 1, l, by omega, by go_num, HL.out, by rw [HV.out, tmX_no _ _ _ HBE.out], H0.out, H1.out, H2.out, H3.out, hb0, hs0⟩
          case measure => simp [intOf]; omega
      · go_wp2_with fail
        have hdn : decide ((n : Int) < 128) = true := decide_eq_true (by omega)
        rw [hdn]
        go_loopw [7] (fun kv w2 => ∃ (k : Nat) (l : List Bool), k ≤ 128 ∧ kv = .int .i64 (k : Int) ∧ l.length = 255 ∧ Gh.V l 255 = tmX ea eb n ^^^ tmY eb n k ∧ At w2 w.heap.size 0 (lcells ea) ∧ At w2 (w.heap.size + 1) 0 (lcells eb) ∧ At w2 (w.heap.size + 1 + 1) 0 (lcells (List.replicate 128 false)) ∧ At w2 (w.heap.size + 1 + 1 + 1) 0 (lcells l) ∧ Below w.heap.size w w2 ∧ w.heap.size + 4 ≤ w2.heap.size) (fun k _ => 128 - (intOf k).toNat)
        case atStart => exact ⟨0, l, Nat.zero_le _, rfl, HL.out, by rw [HV.out]; simp [tmY, Gh.xs], H0.out, H1.out, H2.out, H3.out, hb0, hs0⟩
        case round =>
          clear hb0 hs0 hca HL HV H0 H1 H2 H3
          rename_i w2 _
          obtain ⟨k, l, hk, rfl, hl, hV, hA0, hA1, hA2, hA3, hb0, hs0⟩ := hrel
          have HL := Lib.hid hl
          have HV := Lib.hid hV
          have H0 := Lib.hid hA0
          have H1 := Lib.hid hA1
          have H2 := Lib.hid hA2
          have H3 := Lib.hid hA3
          have hca := hA0.bl n (by rw [HA.out]; exact hlt)
          rw [Nat.zero_add, HBE.out] at hca
          clear hl hV hA0 hA1 hA2 hA3
          by_cases hkl : k < 128
          · have hcb := H1.out.bl k (by rw [HB.out]; exact hkl)
            have hcp := H3.out.bl (n + k) (by rw [HL.out]; omega)
            have hfp := H3.out.froz (n + k) (by rw [lcells_length, HL.out]; omega)
            rw [Nat.zero_add] at hcb hcp hfp
            obtain ⟨x, hx⟩ : ∃ x, l.getD (n + k) false = x := ⟨_, rfl⟩
            obtain ⟨y, hy⟩ : ∃ y, eb.getD k false = y := ⟨_, rfl⟩
            rw [hx] at hcp
            rw [hy] at hcb
            have hs := tmY_step l eb n k _ HL.out (by omega) HV.out
            rw [hx, hy] at hs
            have HSS := Lib.hid hs
            clear hs hx hy
            go_wp2_with fail
            go_region
            go_wp2_with fail
            go_roundw
            case rel =>
              have h := (H3.out.blset (n + k) (x != y)).drew
              rw [Nat.zero_add] at h
              refine ⟨k + 1, l.set (n + k) (x != y), by omega, by go_num, by rw [List.length_set]; exact HL.out, HSS.out, (H0.out.other _ _ _ (.inl (by omega))).drew, (H1.out.other _ _ _ (.inl (by omega))).drew, (H2.out.other _ _ _ (.inl (by omega))).drew, ?_, (hb0.setCell (p := ⟨w.heap.size + 1 + 1 + 1, n + k, none⟩) (by show w.heap.size ≤ w.heap.size + 1 + 1 + 1; omega) _).drew, by simpa using hs0⟩
              exact h
            case measure => simp [intOf]; omega
          · have hk8 : k = 128 := by omega
            subst hk8
            go_wp2_with fail
            go_roundw
            case rel => exact ⟨n + 1, l, by omega, by go_num, HL.out, by rw [HV.out, tmX_yes _ _ _ HBE.out], H0.out, H1.out, H2.out, H3.out, hb0, hs0⟩
            case measure => simp [intOf]; omega
    · have hn8 : n = 128 := by omega
      subst hn8
      go_wp2_with fail
      obtain ⟨M, hM⟩ : ∃ M, Gh.mul (Gh.V ea 128) (Gh.V eb 128) = M := ⟨_, rfl⟩
      have HM := Lib.hid hM
      have hV := HV.out
      rw [tmX_full, hM] at hV
      have HV2 := Lib.hid hV
      clear hM hV HV
      go_loopw [8] (fun iv w2 => ∃ (d : Nat) (l : List Bool), d ≤ 127 ∧ iv = .int .i64 ((d + 127 : Nat) : Int) ∧ l.length = 255 ∧ Gh.V l (d + 128) = M ∧ At w2 w.heap.size 0 (lcells ea) ∧ At w2 (w.heap.size + 1) 0 (lcells eb) ∧ At w2 (w.heap.size + 1 + 1) 0 (lcells (List.replicate 128 false)) ∧ At w2 (w.heap.size + 1 + 1 + 1) 0 (lcells l) ∧ Below w.heap.size w w2 ∧ w.heap.size + 4 ≤ w2.heap.size) (fun i _ => (intOf i).toNat - 127)
      case atStart => exact ⟨127, l, by omega, rfl, HL.out, HV2.out, H0.out, H1.out, H2.out, H3.out, hb0, hs0⟩
      case round =>
        clear hb0 hs0 HL HV2 H0 H1 H2 H3
        obtain ⟨d, l, hd, rfl, hl, hV, hA0, hA1, hA2, hA3, hb0, hs0⟩ := hrel
        have HL := Lib.hid hl
        have HV := Lib.hid hV
        have H0 := Lib.hid hA0
        have H1 := Lib.hid hA1
        have H2 := Lib.hid hA2
        have H3 := Lib.hid hA3
        clear hl hV hA0 hA1 hA2 hA3
        by_cases hd0 : d = 0
        · subst hd0
          go_wp2_with fail
          obtain ⟨wz, hwz, hZ, hbz⟩ := el_alloc wr
          rw [hwz]
          obtain ⟨g, hg⟩ : ∃ g, wr.heap.size = g := ⟨_, rfl⟩
          rw [hg] at hZ hbz hs0 ⊢
          have h2z := H2.out.below hbz (by omega)
          have h3z := H3.out.below hbz (by omega)
          have hb0z := hb0.trans (hbz.mono (by rw [← hg]; exact hb0.size))
          rw [Nat.zero_add] at HV
          clear hwz hg hbz H0 H1 H2 H3 hb0
          go_loopw [10] (fun iv w2 => ∃ k : Nat, k ≤ 128 ∧ iv = .int .i64 (k : Int) ∧ At w2 (w.heap.size + 1 + 1) 0 (lcells (List.replicate 128 false)) ∧ At w2 (w.heap.size + 1 + 1 + 1) 0 (lcells l) ∧ At w2 g 0 (lcells (cpK l k)) ∧ Below w.heap.size w w2) (fun i _ => 128 - (intOf i).toNat)
          case atStart => exact ⟨0, Nat.zero_le _, rfl, h2z, h3z, by simpa [cpK] using hZ, hb0z⟩
          case round =>
            clear h2z h3z hZ hb0z
            obtain ⟨k, hk, rfl, h2, h3, hG, hb0⟩ := hrel
            have H2 := Lib.hid h2
            have H3 := Lib.hid h3
            have HG := Lib.hid hG
            clear h2 h3 hG
            by_cases hkl : k < 128
            · have hcp := H3.out.bl k (by rw [HL.out]; omega)
              have hcg := HG.out.bl k (by rw [cpK_length _ _ HL.out hk]; omega)
              have hfg := HG.out.froz k (by rw [lcells_length, cpK_length _ _ HL.out hk]; omega)
              rw [Nat.zero_add] at hcp hcg hfg
              have hcs := cpK_set l k HL.out hkl
              obtain ⟨x, hx⟩ : ∃ x, l.getD k false = x := ⟨_, rfl⟩
              rw [hx] at hcp hcs
              have HCS := Lib.hid hcs
              clear hcs hx
              go_wp2_with fail
              go_roundw
              case rel =>
                have h := HG.out.blset k x
                rw [HCS.out, Nat.zero_add] at h
                exact ⟨k + 1, by omega, by go_num, H2.out.other _ _ _ (.inl (by omega)), H3.out.other _ _ _ (.inl (by omega)), h, hb0.setCell (p := ⟨g, k, none⟩) (by show w.heap.size ≤ g; omega) _⟩
              case measure => simp [intOf]; omega
            · have hk8 : k = 128 := by omega
              subst hk8
              have h1 := HG.out
              rw [cpK_full l HL.out, HV.out] at h1
              have hl : (Gh.bits M).length = 128 := Gh.bits_length _
              have hst := run_store_at (P := Tryd.prog) H2.out (cs := lcells (Gh.bits M)) (by rw [lcells_length, lcells_length, hl, List.length_replicate]) (lcells_one _)
              have hfin : At (wr.setCells (w.heap.size + 1 + 1) 0 (lcells (Gh.bits M))) (w.heap.size + 1 + 1) 0 (lcells (Gh.bits M)) := H2.out.ofSets (by rw [lcells_length, lcells_length, hl, List.length_replicate])
              have hbf := below_sets w.heap.size (w.heap.size + 1 + 1) (by omega) (lcells (Gh.bits M)) 0 w wr hb0
              have HLB := Lib.hid hl
              clear hl
              go_wp2_with (refine wpList_load_at 51 (.tmp 9) g 0 (lcells (Gh.bits M)) _ h1 Tryd.underlying51 rfl (info128 _ HLB.out) ⟨rfl, rfl, rfl⟩ ?_)
              (try simp only [Exit.inBlock, Exit.then])
              refine bodyPost_ret (results_at rfl _ (w.heap.size + 1 + 1) _ _ rfl hfin Tryd.underlying51 rfl (info128 _ HLB.out)) rfl ?_
              exact ⟨by rw [HM.out], hbf⟩
        · obtain ⟨c, rfl⟩ : ∃ c, d = c + 1 := ⟨d - 1, by omega⟩
          obtain ⟨i, hi⟩ : ∃ i, i = c + 1 + 127 := ⟨_, rfl⟩
          rw [← hi]
          have hi128 : (128 : Int) ≤ (i : Int) := by omega
          have hic := H3.out.bl i (by rw [HL.out]; omega)
          rw [Nat.zero_add] at hic
          obtain ⟨b, hbe⟩ : ∃ b, l.getD i false = b := ⟨_, rfl⟩
          rw [hbe] at hic
          have HBE := Lib.hid hbe
          clear hbe
          have q9 : (i : Int) - 1 = ((c + 127 : Nat) : Int) := by omega
          have hi255 : (i : Int) < 255 := by omega
          have HI := Lib.hid hi
          clear hi
          cases b
          · go_wp2_with fail
            go_roundw
            case rel => exact ⟨c, l, by omega, by first | rfl | (rw [q9]), HL.out, by
              have h := HV.out
              rw [show c + 1 + 128 = (c + 128) + 1 by omega, Gh.V_succ, show c + 128 = i by have := HI.out; omega, HBE.out, Gh.sel, if_neg (by decide), Nat.xor_zero] at h
              rw [show c + 128 = i by have := HI.out; omega]
              exact h, H0.out, H1.out, H2.out, H3.out, hb0, hs0⟩
            case measure => have := HI.out; simp [intOf]; omega
          · obtain ⟨c1, hc1⟩ : ∃ c1, c1 = c + 1 := ⟨_, rfl⟩
            obtain ⟨c2, hc2⟩ : ∃ c2, c2 = c + 2 := ⟨_, rfl⟩
            obtain ⟨c7, hc7⟩ : ∃ c7, c7 = c + 7 := ⟨_, rfl⟩
            have HC := Lib.hid (And.intro hc1 (And.intro hc2 hc7))
            have q0 : (i : Int) - 128 = (c : Int) := by have := HI.out; omega
            have q1 : (i : Int) - 127 = (c1 : Int) := by have := HI.out; omega
            have q2 : (i : Int) - 126 = (c2 : Int) := by have := HI.out; omega
            have q7 : (i : Int) - 121 = (c7 : Int) := by have := HI.out; omega
            have f0 := H3.out.bl c (by rw [HL.out]; omega)
            have f1 := H3.out.bl c1 (by rw [HL.out]; omega)
            have f2 := H3.out.bl c2 (by rw [HL.out]; omega)
            have f7 := H3.out.bl c7 (by rw [HL.out]; omega)
            have z0 := H3.out.froz c (by rw [lcells_length, HL.out]; omega)
            have z1 := H3.out.froz c1 (by rw [lcells_length, HL.out]; omega)
            have z2 := H3.out.froz c2 (by rw [lcells_length, HL.out]; omega)
            have z7 := H3.out.froz c7 (by rw [lcells_length, HL.out]; omega)
            rw [Nat.zero_add] at f0 f1 f2 f7 z0 z1 z2 z7
            have n01 : c ≠ c1 := by omega
            have n02 : c ≠ c2 := by omega
            have n07 : c ≠ c7 := by omega
            have n12 : c1 ≠ c2 := by omega
            have n17 : c1 ≠ c7 := by omega
            have n27 : c2 ≠ c7 := by omega
            clear hc1 hc2 hc7
            obtain ⟨x0, hx0⟩ : ∃ x, l.getD c false = x := ⟨_, rfl⟩
            obtain ⟨x1, hx1⟩ : ∃ x, l.getD c1 false = x := ⟨_, rfl⟩
            obtain ⟨x2, hx2⟩ : ∃ x, l.getD c2 false = x := ⟨_, rfl⟩
            obtain ⟨x7, hx7⟩ : ∃ x, l.getD c7 false = x := ⟨_, rfl⟩
            have hdv := Gh.down_V l i (by have := HI.out; omega) (by rw [HL.out]; omega) HBE.out
            have hde := down_eq l c
            rw [show c + 128 = i by have := HI.out; omega, ← HC.out.1, ← HC.out.2.1, ← HC.out.2.2, hx0, hx1, hx2, hx7] at hde
            rw [hde, show i + 1 = c + 1 + 128 by have := HI.out; omega, HV.out] at hdv
            rw [hx0] at f0
            rw [hx1] at f1
            rw [hx2] at f2
            rw [hx7] at f7
            have HDV := Lib.hid hdv
            clear hdv hde hx0 hx1 hx2 hx7
            go_wp2_with fail
            go_roundw
            case rel =>
              have h := (((H3.out.blset c (!x0)).blset c1 (!x1)).blset c2 (!x2)).blset c7 (!x7)
              rw [Nat.zero_add, Nat.zero_add, Nat.zero_add, Nat.zero_add] at h
              refine ⟨c, (((l.set c (!x0)).set c1 (!x1)).set c2 (!x2)).set c7 (!x7), by omega, by go_num, by simp [HL.out], by rw [show c + 128 = i by have := HI.out; omega]; exact HDV.out,
                (((H0.out.other _ _ _ (.inl (by omega))).other _ _ _ (.inl (by omega))).other _ _ _ (.inl (by omega))).other _ _ _ (.inl (by omega)), (((H1.out.other _ _ _ (.inl (by omega))).other _ _ _ (.inl (by omega))).other _ _ _ (.inl (by omega))).other _ _ _ (.inl (by omega)), (((H2.out.other _ _ _ (.inl (by omega))).other _ _ _ (.inl (by omega))).other _ _ _ (.inl (by omega))).other _ _ _ (.inl (by omega)), ?_,
                (((hb0.setCell (p := ⟨w.heap.size + 1 + 1 + 1, c, none⟩) (by show w.heap.size ≤ w.heap.size + 1 + 1 + 1; omega) _).setCell (p := ⟨w.heap.size + 1 + 1 + 1, c1, none⟩) (by show w.heap.size ≤ w.heap.size + 1 + 1 + 1; omega) _).setCell (p := ⟨w.heap.size + 1 + 1 + 1, c2, none⟩) (by show w.heap.size ≤ w.heap.size + 1 + 1 + 1; omega) _).setCell (p := ⟨w.heap.size + 1 + 1 + 1, c7, none⟩) (by show w.heap.size ≤ w.heap.size + 1 + 1 + 1; omega) _, by simpa using hs0⟩
              exact h
            case measure => have := HI.out; simp [intOf]; omega
end Go.Proofs.YtkedoiikkjeadaaDoor
