/- The field of 128 bits: the program's times. -/
import Derived.Test.YtkedoiikkjeadaaDoorGhG
namespace Go.Proofs.YtkedoiikkjeadaaDoor
open Go.RowKit
set_option linter.unusedVariables false
set_option linter.unusedSimpArgs false
/-- the package's table lies where it is laid -/
def Fal (w : World) : Prop := (∀ i, i < 16 → w.cell? ⟨0, i, none⟩ = some (.int .u64 ((Gh.fal.getD i 0 : Nat) : Int))) ∧ 0 < w.heap.size
theorem Fal.below {w w' : World} {B : Nat} (h : Fal w) (hb : Below B w w') (hB : 0 < B) : Fal w' :=
  ⟨fun i hi => (hb.cell (p := ⟨0, i, none⟩) hB).trans (h.1 i hi), Nat.lt_of_lt_of_le h.2 hb.size⟩
def hf (a t : Nat) : Nat := if t = 0 then Gh.lo a else Gh.hi a
theorem hf_nib (a t k : Nat) (ht : t < 2) (hk : k < 16) : (hf a t >>> (4 * k)) % 16 = (a >>> (4 * (16 * t + k))) % 16 := by
  have ht2 : t = 0 ∨ t = 1 := by omega
  refine Nat.eq_of_testBit_eq fun j => ?_
  rw [show (16 : Nat) = 2 ^ 4 from rfl, Nat.testBit_mod_two_pow, Nat.testBit_mod_two_pow, Nat.testBit_shiftRight, Nat.testBit_shiftRight]
  by_cases hj : j < 4
  · rcases ht2 with rfl | rfl
    · rw [hf, if_pos rfl, Gh.lo_bit _ _ (by omega), show 4 * (2 ^ 4 * 0 + k) + j = 4 * k + j by omega]
    · rw [hf, if_neg (by decide), Gh.hi, Nat.testBit_shiftRight, show 4 * (2 ^ 4 * 1 + k) + j = 64 + (4 * k + j) by omega]
  · simp [hj]
theorem hf_lt (a t : Nat) (ha : a < 2 ^ 128) : hf a t < 2 ^ 64 := by
  rw [hf]
  split
  · exact Gh.lo_lt a
  · exact Gh.hi_lt a ha
theorem elcs_ex (b : Nat) : (elcs (tabL b)).length = 32 := by rw [elcs_length, tabL_length]
theorem times_by (w : World) (a b : Nat) : ∃ w0, (((w.alloc (Obj.cells (elcs (tabL b)).toArray 46)).alloc (Obj.cells #[.int .u64 ((Gh.hi a : Nat) : Int), .int .u64 ((Gh.lo a : Nat) : Int)] 44)).alloc (Obj.cells #[.int .u64 0, .int .u64 0] 44)).alloc (Obj.cells #[.int .u64 0, .int .u64 0] 44) = w0 ∧
    At w0 w.heap.size 0 (elcs (tabL b)) ∧ At w0 (w.heap.size + 1) 0 (elc a) ∧ At w0 (w.heap.size + 1 + 1) 0 (elc 0) ∧ At w0 (w.heap.size + 1 + 1 + 1) 0 (elc 0) ∧ Below w.heap.size w w0 ∧ w0.heap.size = w.heap.size + 4 := by
  refine ⟨_, rfl, ?_, ?_, ?_, ?_, ?_, by simp⟩
  · have h := At.ofAlloc w (elcs (tabL b)).toArray 46
    simp only at h
    exact ((h.alloc _).alloc _).alloc _
  · have h := At.ofAlloc (w.alloc (Obj.cells (elcs (tabL b)).toArray 46)) #[.int .u64 ((Gh.hi a : Nat) : Int), .int .u64 ((Gh.lo a : Nat) : Int)] 44
    rw [World.size_alloc] at h
    exact (h.alloc _).alloc _
  · have h := At.ofAlloc ((w.alloc (Obj.cells (elcs (tabL b)).toArray 46)).alloc (Obj.cells #[.int .u64 ((Gh.hi a : Nat) : Int), .int .u64 ((Gh.lo a : Nat) : Int)] 44)) #[.int .u64 0, .int .u64 0] 44
    rw [World.size_alloc, World.size_alloc] at h
    exact h.alloc _
  · have h := At.ofAlloc (((w.alloc (Obj.cells (elcs (tabL b)).toArray 46)).alloc (Obj.cells #[.int .u64 ((Gh.hi a : Nat) : Int), .int .u64 ((Gh.lo a : Nat) : Int)] 44)).alloc (Obj.cells #[.int .u64 0, .int .u64 0] 44)) #[.int .u64 0, .int .u64 0] 44
    rw [World.size_alloc, World.size_alloc, World.size_alloc] at h
    exact h
  · exact ((((Below.refl _ _).alloc (Nat.le_refl _) _).alloc (by simp) _).alloc (by simp; omega) _).alloc (by simp; omega) _
/-- what the walk knows of memory -/
structure Tm (w w2 : World) (a b v : Nat) : Prop where
  m : At w2 w.heap.size 0 (elcs (tabL b))
  a : At w2 (w.heap.size + 1) 0 (elc a)
  r : At w2 (w.heap.size + 1 + 1) 0 (elc 0)
  p : At w2 (w.heap.size + 1 + 1 + 1) 0 (elc v)
  f : Fal w2
  b : Below w.heap.size w w2
  s : w.heap.size + 4 ≤ w2.heap.size
theorem Tm.below {w wn w3 : World} {a b v : Nat} (h : Tm w wn a b v) (hb : Below wn.heap.size wn w3) : Tm w w3 a b v := by
  have hs := h.s
  exact ⟨h.m.below hb (by omega), h.a.below hb (by omega), h.r.below hb (by omega), h.p.below hb (by omega), h.f.below hb h.f.2, h.b.trans (hb.mono h.b.size), Nat.le_trans hs hb.size⟩
theorem Tm.drew {w wn : World} {a b v : Nat} (h : Tm w wn a b v) : Tm w wn.drew a b v := ⟨h.m.drew, h.a.drew, h.r.drew, h.p.drew, h.f, h.b.drew, h.s⟩
theorem Tm.put {w wn : World} {a b v : Nat} (h : Tm w wn a b v) (hw : 0 < w.heap.size) (u : Nat) : Tm w ((wn.setCell ⟨w.heap.size + 1 + 1 + 1, 0, none⟩ (.int .u64 ((Gh.hi u : Nat) : Int))).setCell ⟨w.heap.size + 1 + 1 + 1, 1, none⟩ (.int .u64 ((Gh.lo u : Nat) : Int))) a b u := by
  have hp := (h.p.set 0 (.int .u64 ((Gh.hi u : Nat) : Int))).set 1 (.int .u64 ((Gh.lo u : Nat) : Int))
  rw [Nat.zero_add, Nat.zero_add] at hp
  have hbn : Below w.heap.size wn ((wn.setCell ⟨w.heap.size + 1 + 1 + 1, 0, none⟩ (.int .u64 ((Gh.hi u : Nat) : Int))).setCell ⟨w.heap.size + 1 + 1 + 1, 1, none⟩ (.int .u64 ((Gh.lo u : Nat) : Int))) :=
    ((Below.refl _ _).setCell (p := ⟨w.heap.size + 1 + 1 + 1, 0, none⟩) (by show w.heap.size ≤ w.heap.size + 1 + 1 + 1; omega) _).setCell (p := ⟨w.heap.size + 1 + 1 + 1, 1, none⟩) (by show w.heap.size ≤ w.heap.size + 1 + 1 + 1; omega) _
  exact ⟨(h.m.other _ _ _ (.inl (by omega))).other _ _ _ (.inl (by omega)), (h.a.other _ _ _ (.inl (by omega))).other _ _ _ (.inl (by omega)), (h.r.other _ _ _ (.inl (by omega))).other _ _ _ (.inl (by omega)), hp, h.f.below hbn hw, h.b.trans hbn, by simpa using h.s⟩
set_option maxRecDepth 100000 in
set_option maxHeartbeats 3200000 in
theorem times_any (a b : Nat) (ha : a < 2 ^ 128) (hb : b < 2 ^ 128) (w : World) (hF : Fal w) : Calls Tryd.prog 31 #[.agg (elcs (tabL b)).toArray, .agg #[.int .u64 ((Gh.hi a : Nat) : Int), .int .u64 ((Gh.lo a : Nat) : Int)]] w (RetEl (Gh.mul a b) w) := by
  have HA := Lib.hid ha
  have HB := Lib.hid hb
  have HFw := Lib.hid hF
  clear ha hb hF
  go_enter Tryd.func31, Tryd.ntmps31
  go_wp2_with fail
  obtain ⟨w0, hw0, hA0, hA1, hA2, hA3, hb0, hs0⟩ := times_by w a b
  rw [hw0]
  have hT : Tm w w0 a b (Gh.hor b a (16 * 0)) := ⟨hA0, hA1, hA2, by rw [Gh.hor_zero]; exact hA3, HFw.out.below hb0 HFw.out.2, hb0, by omega⟩
  clear hw0 hA0 hA1 hA2 hA3 hb0 hs0
  go_loopw [15] (fun iv w2 => ∃ t : Nat, t ≤ 2 ∧ iv = .int .i64 (t : Int) ∧ Tm w w2 a b (Gh.hor b a (16 * t))) (fun i _ => 2 - (intOf i).toNat)
  case atStart => exact ⟨0, by omega, rfl, hT⟩
  case round =>
    clear hT
    obtain ⟨t, ht, rfl, hT⟩ := hrel
    have HT := Lib.hid hT
    clear hT
    have ht3 : t = 0 ∨ t = 1 ∨ t = 2 := by omega
    rcases ht3 with rfl | rfl | rfl
    · have hix : ∀ w : World, (Instr.index 75 (.agg #[.int .u64 ((Gh.lo a : Nat) : Int), .int .u64 ((Gh.hi a : Nat) : Int)]) (.int .i64 0)).run Tryd.prog w = .ok (.int .u64 ((hf a 0 : Nat) : Int)) w := fun _ => rfl
      rw [show ((0 : Nat) : Int) = 0 from rfl]
      go_wp2_with fail
      have hh := HT.out
      clear HT
      go_loopw [7, 18] (fun hv kv w2 => ∃ (k e : Nat), k ≤ 16 ∧ kv = .int .i64 (k : Int) ∧ hv = .int .u64 (e : Int) ∧ e = hf a 0 >>> (4 * k) ∧ Tm w w2 a b (Gh.hor b a (16 * 0 + k))) (fun _ k _ => 16 - (intOf k).toNat)
      case atStart => exact ⟨0, hf a 0, by omega, rfl, rfl, rfl, hh⟩
      case round =>
        clear hh
        obtain ⟨k, e, hk, rfl, rfl, he, hT⟩ := hrel
        by_cases hlt : k < 16
        · have hnib := hf_nib a 0 k (by decide) hlt
          have hstep := Gh.hor_step b a (16 * 0 + k) HB.out (by omega)
          have hel : e < 2 ^ 64 := by rw [he, Nat.shiftRight_eq_div_pow]; exact Nat.lt_of_le_of_lt (Nat.div_le_self _ _) (hf_lt a 0 HA.out)
          have hen : e >>> 4 = hf a 0 >>> (4 * (k + 1)) := by rw [he, ← Nat.shiftRight_add]; rfl
          rw [← hnib, ← he] at hstep
          have hvl : Gh.hor b a (16 * 0 + k) < 2 ^ 128 := Gh.mul_lt _ _ HB.out
          obtain ⟨v, hv⟩ : ∃ v, Gh.hor b a (16 * 0 + k) = v := ⟨_, rfl⟩
          rw [hv] at hvl hstep hT
          have h1 := Gh.hi_lt v hvl
          have h2 := Gh.lo_lt v
          have m1 := Gh.hi_mx4 v
          have m2 := Gh.lo_mx4 v
          have y0 := hT.p.cell 0 _ rfl
          have y1 := hT.p.cell 1 _ rfl
          have z0 := hT.p.froz 0 (by simp [elc])
          have z1 := hT.p.froz 1 (by simp [elc])
          rw [Nat.zero_add] at y0 y1 z0 z1
          obtain ⟨vh, hvh⟩ : ∃ vh, Gh.hi v = vh := ⟨_, rfl⟩
          obtain ⟨vo, hvo⟩ : ∃ vo, Gh.lo v = vo := ⟨_, rfl⟩
          rw [hvh] at h1 m1 m2 y0
          rw [hvo] at h2 m1 m2 y1
          have x1 := u64n_and vo 15 h2 (by decide)
          rw [show (15 : Nat) = 2 ^ 4 - 1 from rfl, Nat.and_two_pow_sub_one_eq_mod, show (2 : Nat) ^ 4 = 16 from rfl, show (((16 - 1 : Nat) : Nat) : Int) = 15 from rfl] at x1
          obtain ⟨o, ho⟩ : ∃ o, vo % 16 = o := ⟨_, rfl⟩
          rw [ho] at x1 m1
          have o16 : o < 16 := by omega
          have fc := hT.f.1 o o16
          have fb := (Gh.fal_hi o o16).2.2
          obtain ⟨fv, hfv⟩ : ∃ fv, Gh.fal.getD o 0 = fv := ⟨_, rfl⟩
          rw [hfv] at fc fb m1
          have x2 := u64n_shr vh 4 16 rfl
          have x3 := u64n_shl fv 48 281474976710656 (by decide)
          rw [Nat.mod_eq_of_lt (show fv <<< 48 < 2 ^ 64 by rw [Nat.shiftLeft_eq]; omega)] at x3
          have x5 := u64n_shl vh 60 1152921504606846976 (by decide)
          have x6 := u64n_shr vo 4 16 rfl
          have l1 : vh >>> 4 < 2 ^ 64 := by rw [Nat.shiftRight_eq_div_pow]; omega
          have l2 : fv <<< 48 < 2 ^ 64 := by rw [Nat.shiftLeft_eq]; omega
          have l3 : (vh <<< 60) % 2 ^ 64 < 2 ^ 64 := Nat.mod_lt _ (by decide)
          have l4 : vo >>> 4 < 2 ^ 64 := by rw [Nat.shiftRight_eq_div_pow]; omega
          have x4 := u64n_xor _ _ l1 l2
          have x7 := u64n_or _ _ l3 l4
          rw [← m1] at x4
          rw [← m2] at x7
          obtain ⟨p1, hp1⟩ : ∃ p1, vh >>> 4 = p1 := ⟨_, rfl⟩
          obtain ⟨f2, hf2⟩ : ∃ f2, fv <<< 48 = f2 := ⟨_, rfl⟩
          obtain ⟨q, hq⟩ : ∃ q, (vh <<< 60) % 2 ^ 64 = q := ⟨_, rfl⟩
          obtain ⟨r, hr⟩ : ∃ r, vo >>> 4 = r := ⟨_, rfl⟩
          rw [hp1] at x2 x4
          rw [hf2] at x3 x4
          rw [hq] at x5 x7
          rw [hr] at x6 x7
          have oI : (o : Int) < 16 := by omega
          have HT := Lib.hid hT
          have HSTEP := Lib.hid hstep
          have HEL := Lib.hid hel
          have HEN := Lib.hid hen
          have HVL := Lib.hid hvl
          have hdn : decide ((k : Int) < 16) = true := decide_eq_true (by omega)
          clear hT hstep hel hen hvl hnib he hv h1 h2 m1 m2 hvh hvo fb hfv ho l1 l2 l3 l4 hp1 hf2 hq hr
          go_wp2_with fail
          go_region
          obtain ⟨wn, hwn⟩ : ∃ wn, ((wr.setCell ⟨w.heap.size + 1 + 1 + 1, 0, none⟩ (.int .u64 ((Gh.hi (Gh.mxn 4 v) : Nat) : Int))).setCell ⟨w.heap.size + 1 + 1 + 1, 1, none⟩ (.int .u64 ((Gh.lo (Gh.mxn 4 v) : Nat) : Int))).drew = wn := ⟨_, rfl⟩
          have hTn := (HT.out.put HFw.out.2 (Gh.mxn 4 v)).drew
          rw [hwn] at hTn ⊢
          have hul := Gh.mxn_lt 4 v HVL.out
          obtain ⟨u, hu⟩ : ∃ u, Gh.mxn 4 v = u := ⟨_, rfl⟩
          rw [hu] at hTn hul HSTEP ⊢
          clear hwn hu y0 y1 z0 z1 fc x1 x2 x3 x4 x5 x6 x7 oI hdn HT HVL
          have y0 := hTn.p.cell 0 _ rfl
          have y1 := hTn.p.cell 1 _ rfl
          have z0 := hTn.p.froz 0 (by simp [elc])
          have z1 := hTn.p.froz 1 (by simp [elc])
          rw [Nat.zero_add] at y0 y1 z0 z1
          obtain ⟨nb, hnb⟩ : ∃ nb, e % 16 = nb := ⟨_, rfl⟩
          have nb16 : nb < 16 := by omega
          have x1 := u64n_and e 15 HEL.out (by decide)
          rw [show (15 : Nat) = 2 ^ 4 - 1 from rfl, Nat.and_two_pow_sub_one_eq_mod, show (2 : Nat) ^ 4 = 16 from rfl, show (((16 - 1 : Nat) : Nat) : Int) = 15 from rfl, hnb] at x1
          rw [hnb] at HSTEP
          have x2 := u64n_shr e 4 16 rfl
          obtain ⟨e4, he4⟩ : ∃ e4, e >>> 4 = e4 := ⟨_, rfl⟩
          rw [he4] at x2 HEN
          obtain ⟨f0, f1, _, _⟩ := hTn.m.el nb (by rw [tabL_length]; exact nb16)
          rw [tabL_at _ _ nb16, Nat.mul_comm 2 nb] at f0 f1
          have htl := Gh.tab_lt b nb HB.out
          have HU := Lib.hid hul
          have HTL := Lib.hid htl
          have HTN := Lib.hid hTn
          have hsn := hTn.s
          have nbI : (nb : Int) < 16 := by omega
          clear hTn hul htl hnb he4
          go_wp2_with fail
          go_region_with ((go_at_call 36; refine (plus_any u (Gh.tab b nb) HU.out HTL.out _).mono ?_; rintro e3 w3 ⟨rfl, hb3⟩; have g0 := (hb3.cell (p := ⟨w.heap.size + 1 + 1 + 1, 0, none⟩) hsn).trans y0; have g1 := (hb3.cell (p := ⟨w.heap.size + 1 + 1 + 1, 1, none⟩) hsn).trans y1; have g2 := (hb3.frozen (p := ⟨w.heap.size + 1 + 1 + 1, 0, none⟩) hsn).trans z0; have g3 := (hb3.frozen (p := ⟨w.heap.size + 1 + 1 + 1, 1, none⟩) hsn).trans z1))
          all_goals
            have hT3 : Tm w w3 a b u := by first | exact HTN.out.below hb3 | exact HTN.out.drew.below hb3
            have HT3 := Lib.hid hT3
            clear hT3 hb3 g0 g1 g2 g3 y0 y1 z0 z1 f0 f1
            go_wp2_with fail
            go_roundw
            case rel => exact ⟨k + 1, e4, by omega, by go_num, rfl, HEN.out, by
              have hq : Gh.hor b a (16 * 0 + (k + 1)) = u ^^^ Gh.tab b nb := HSTEP.out
              rw [hq]
              exact HT3.out.put HFw.out.2 (u ^^^ Gh.tab b nb)⟩
            case measure => simp [intOf]; omega
        · have hk16 : k = 16 := by omega
          subst hk16
          go_wp2_with fail
          go_roundw
          case rel => exact ⟨0 + 1, by omega, by go_num, hT⟩
          case measure => simp [intOf]
    · have hix : ∀ w : World, (Instr.index 75 (.agg #[.int .u64 ((Gh.lo a : Nat) : Int), .int .u64 ((Gh.hi a : Nat) : Int)]) (.int .i64 1)).run Tryd.prog w = .ok (.int .u64 ((hf a 1 : Nat) : Int)) w := fun _ => rfl
      rw [show ((1 : Nat) : Int) = 1 from rfl]
      go_wp2_with fail
      have hh := HT.out
      clear HT
      go_loopw [7, 18] (fun hv kv w2 => ∃ (k e : Nat), k ≤ 16 ∧ kv = .int .i64 (k : Int) ∧ hv = .int .u64 (e : Int) ∧ e = hf a 1 >>> (4 * k) ∧ Tm w w2 a b (Gh.hor b a (16 * 1 + k))) (fun _ k _ => 16 - (intOf k).toNat)
      case atStart => exact ⟨0, hf a 1, by omega, rfl, rfl, rfl, hh⟩
      case round =>
        clear hh
        obtain ⟨k, e, hk, rfl, rfl, he, hT⟩ := hrel
        by_cases hlt : k < 16
        · have hnib := hf_nib a 1 k (by decide) hlt
          have hstep := Gh.hor_step b a (16 * 1 + k) HB.out (by omega)
          have hel : e < 2 ^ 64 := by rw [he, Nat.shiftRight_eq_div_pow]; exact Nat.lt_of_le_of_lt (Nat.div_le_self _ _) (hf_lt a 1 HA.out)
          have hen : e >>> 4 = hf a 1 >>> (4 * (k + 1)) := by rw [he, ← Nat.shiftRight_add]; rfl
          rw [← hnib, ← he] at hstep
          have hvl : Gh.hor b a (16 * 1 + k) < 2 ^ 128 := Gh.mul_lt _ _ HB.out
          obtain ⟨v, hv⟩ : ∃ v, Gh.hor b a (16 * 1 + k) = v := ⟨_, rfl⟩
          rw [hv] at hvl hstep hT
          have h1 := Gh.hi_lt v hvl
          have h2 := Gh.lo_lt v
          have m1 := Gh.hi_mx4 v
          have m2 := Gh.lo_mx4 v
          have y0 := hT.p.cell 0 _ rfl
          have y1 := hT.p.cell 1 _ rfl
          have z0 := hT.p.froz 0 (by simp [elc])
          have z1 := hT.p.froz 1 (by simp [elc])
          rw [Nat.zero_add] at y0 y1 z0 z1
          obtain ⟨vh, hvh⟩ : ∃ vh, Gh.hi v = vh := ⟨_, rfl⟩
          obtain ⟨vo, hvo⟩ : ∃ vo, Gh.lo v = vo := ⟨_, rfl⟩
          rw [hvh] at h1 m1 m2 y0
          rw [hvo] at h2 m1 m2 y1
          have x1 := u64n_and vo 15 h2 (by decide)
          rw [show (15 : Nat) = 2 ^ 4 - 1 from rfl, Nat.and_two_pow_sub_one_eq_mod, show (2 : Nat) ^ 4 = 16 from rfl, show (((16 - 1 : Nat) : Nat) : Int) = 15 from rfl] at x1
          obtain ⟨o, ho⟩ : ∃ o, vo % 16 = o := ⟨_, rfl⟩
          rw [ho] at x1 m1
          have o16 : o < 16 := by omega
          have fc := hT.f.1 o o16
          have fb := (Gh.fal_hi o o16).2.2
          obtain ⟨fv, hfv⟩ : ∃ fv, Gh.fal.getD o 0 = fv := ⟨_, rfl⟩
          rw [hfv] at fc fb m1
          have x2 := u64n_shr vh 4 16 rfl
          have x3 := u64n_shl fv 48 281474976710656 (by decide)
          rw [Nat.mod_eq_of_lt (show fv <<< 48 < 2 ^ 64 by rw [Nat.shiftLeft_eq]; omega)] at x3
          have x5 := u64n_shl vh 60 1152921504606846976 (by decide)
          have x6 := u64n_shr vo 4 16 rfl
          have l1 : vh >>> 4 < 2 ^ 64 := by rw [Nat.shiftRight_eq_div_pow]; omega
          have l2 : fv <<< 48 < 2 ^ 64 := by rw [Nat.shiftLeft_eq]; omega
          have l3 : (vh <<< 60) % 2 ^ 64 < 2 ^ 64 := Nat.mod_lt _ (by decide)
          have l4 : vo >>> 4 < 2 ^ 64 := by rw [Nat.shiftRight_eq_div_pow]; omega
          have x4 := u64n_xor _ _ l1 l2
          have x7 := u64n_or _ _ l3 l4
          rw [← m1] at x4
          rw [← m2] at x7
          obtain ⟨p1, hp1⟩ : ∃ p1, vh >>> 4 = p1 := ⟨_, rfl⟩
          obtain ⟨f2, hf2⟩ : ∃ f2, fv <<< 48 = f2 := ⟨_, rfl⟩
          obtain ⟨q, hq⟩ : ∃ q, (vh <<< 60) % 2 ^ 64 = q := ⟨_, rfl⟩
          obtain ⟨r, hr⟩ : ∃ r, vo >>> 4 = r := ⟨_, rfl⟩
          rw [hp1] at x2 x4
          rw [hf2] at x3 x4
          rw [hq] at x5 x7
          rw [hr] at x6 x7
          have oI : (o : Int) < 16 := by omega
          have HT := Lib.hid hT
          have HSTEP := Lib.hid hstep
          have HEL := Lib.hid hel
          have HEN := Lib.hid hen
          have HVL := Lib.hid hvl
          have hdn : decide ((k : Int) < 16) = true := decide_eq_true (by omega)
          clear hT hstep hel hen hvl hnib he hv h1 h2 m1 m2 hvh hvo fb hfv ho l1 l2 l3 l4 hp1 hf2 hq hr
          go_wp2_with fail
          go_region
          obtain ⟨wn, hwn⟩ : ∃ wn, ((wr.setCell ⟨w.heap.size + 1 + 1 + 1, 0, none⟩ (.int .u64 ((Gh.hi (Gh.mxn 4 v) : Nat) : Int))).setCell ⟨w.heap.size + 1 + 1 + 1, 1, none⟩ (.int .u64 ((Gh.lo (Gh.mxn 4 v) : Nat) : Int))).drew = wn := ⟨_, rfl⟩
          have hTn := (HT.out.put HFw.out.2 (Gh.mxn 4 v)).drew
          rw [hwn] at hTn ⊢
          have hul := Gh.mxn_lt 4 v HVL.out
          obtain ⟨u, hu⟩ : ∃ u, Gh.mxn 4 v = u := ⟨_, rfl⟩
          rw [hu] at hTn hul HSTEP ⊢
          clear hwn hu y0 y1 z0 z1 fc x1 x2 x3 x4 x5 x6 x7 oI hdn HT HVL
          have y0 := hTn.p.cell 0 _ rfl
          have y1 := hTn.p.cell 1 _ rfl
          have z0 := hTn.p.froz 0 (by simp [elc])
          have z1 := hTn.p.froz 1 (by simp [elc])
          rw [Nat.zero_add] at y0 y1 z0 z1
          obtain ⟨nb, hnb⟩ : ∃ nb, e % 16 = nb := ⟨_, rfl⟩
          have nb16 : nb < 16 := by omega
          have x1 := u64n_and e 15 HEL.out (by decide)
          rw [show (15 : Nat) = 2 ^ 4 - 1 from rfl, Nat.and_two_pow_sub_one_eq_mod, show (2 : Nat) ^ 4 = 16 from rfl, show (((16 - 1 : Nat) : Nat) : Int) = 15 from rfl, hnb] at x1
          rw [hnb] at HSTEP
          have x2 := u64n_shr e 4 16 rfl
          obtain ⟨e4, he4⟩ : ∃ e4, e >>> 4 = e4 := ⟨_, rfl⟩
          rw [he4] at x2 HEN
          obtain ⟨f0, f1, _, _⟩ := hTn.m.el nb (by rw [tabL_length]; exact nb16)
          rw [tabL_at _ _ nb16, Nat.mul_comm 2 nb] at f0 f1
          have htl := Gh.tab_lt b nb HB.out
          have HU := Lib.hid hul
          have HTL := Lib.hid htl
          have HTN := Lib.hid hTn
          have hsn := hTn.s
          have nbI : (nb : Int) < 16 := by omega
          clear hTn hul htl hnb he4
          go_wp2_with fail
          go_region_with ((go_at_call 36; refine (plus_any u (Gh.tab b nb) HU.out HTL.out _).mono ?_; rintro e3 w3 ⟨rfl, hb3⟩; have g0 := (hb3.cell (p := ⟨w.heap.size + 1 + 1 + 1, 0, none⟩) hsn).trans y0; have g1 := (hb3.cell (p := ⟨w.heap.size + 1 + 1 + 1, 1, none⟩) hsn).trans y1; have g2 := (hb3.frozen (p := ⟨w.heap.size + 1 + 1 + 1, 0, none⟩) hsn).trans z0; have g3 := (hb3.frozen (p := ⟨w.heap.size + 1 + 1 + 1, 1, none⟩) hsn).trans z1))
          all_goals
            have hT3 : Tm w w3 a b u := by first | exact HTN.out.below hb3 | exact HTN.out.drew.below hb3
            have HT3 := Lib.hid hT3
            clear hT3 hb3 g0 g1 g2 g3 y0 y1 z0 z1 f0 f1
            go_wp2_with fail
            go_roundw
            case rel => exact ⟨k + 1, e4, by omega, by go_num, rfl, HEN.out, by
              have hq : Gh.hor b a (16 * 1 + (k + 1)) = u ^^^ Gh.tab b nb := HSTEP.out
              rw [hq]
              exact HT3.out.put HFw.out.2 (u ^^^ Gh.tab b nb)⟩
            case measure => simp [intOf]; omega
        · have hk16 : k = 16 := by omega
          subst hk16
          go_wp2_with fail
          go_roundw
          case rel => exact ⟨1 + 1, by omega, by go_num, hT⟩
          case measure => simp [intOf]
    · have hT := HT.out
      rw [show 16 * 2 = 32 from rfl, Gh.hor_all b a HA.out] at hT
      obtain ⟨m, hm⟩ : ∃ m, Gh.mul a b = m := ⟨_, rfl⟩
      rw [hm] at hT
      have HM := Lib.hid hm
      have y0 := hT.p.cell 0 _ rfl
      have y1 := hT.p.cell 1 _ rfl
      have c0 := hT.r.cell 0 _ rfl
      have c1 := hT.r.cell 1 _ rfl
      have z0 := hT.r.froz 0 (by simp [elc])
      have z1 := hT.r.froz 1 (by simp [elc])
      rw [Nat.zero_add] at y0 y1 c0 c1 z0 z1
      have hR := (hT.r.set 0 (.int .u64 ((Gh.hi m : Nat) : Int))).set 1 (.int .u64 ((Gh.lo m : Nat) : Int))
      rw [Nat.zero_add, Nat.zero_add] at hR
      have HT2 := Lib.hid hT
      clear HT hT hm
      go_wp2_with fail
      refine bodyPost_ret (results_at rfl _ (w.heap.size + 1 + 1) _ _ rfl hR Tryd.underlying44 rfl rfl) rfl ?_
      exact ⟨by rw [HM.out]; rfl, (HT2.out.b.setCell (p := ⟨w.heap.size + 1 + 1, 0, none⟩) (by show w.heap.size ≤ w.heap.size + 1 + 1; omega) _).setCell (p := ⟨w.heap.size + 1 + 1, 1, none⟩) (by show w.heap.size ≤ w.heap.size + 1 + 1; omega) _⟩
end Go.Proofs.YtkedoiikkjeadaaDoor
