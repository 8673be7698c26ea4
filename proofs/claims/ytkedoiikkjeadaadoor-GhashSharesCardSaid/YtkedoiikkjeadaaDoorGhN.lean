/- The field of 128 bits: the program's Sum. -/
import Derived.Test.YtkedoiikkjeadaaDoorGhI
import Derived.Test.YtkedoiikkjeadaaDoorGhL
namespace Go.Proofs.YtkedoiikkjeadaaDoor
open Go.RowKit
set_option linter.unusedVariables false
set_option linter.unusedSimpArgs false
/-- what the walk knows of memory -/
structure Sm (w wn : World) (b v : Nat) : Prop where
  m : At wn w.heap.size 0 (elcs (tabL b))
  p : At wn (w.heap.size + 1) 0 (elc v)
  f : Fal wn
  b : Below w.heap.size w wn
  s : w.heap.size + 2 ≤ wn.heap.size
theorem Sm.below {w wn w3 : World} {b v : Nat} (h : Sm w wn b v) (hb : Below wn.heap.size wn w3) : Sm w w3 b v := by
  have hs := h.s
  exact ⟨h.m.below hb (by omega), h.p.below hb (by omega), h.f.below hb h.f.2, h.b.trans (hb.mono h.b.size), Nat.le_trans hs hb.size⟩
theorem Sm.drew {w wn : World} {b v : Nat} (h : Sm w wn b v) : Sm w wn.drew b v := ⟨h.m.drew, h.p.drew, h.f, h.b.drew, h.s⟩
theorem Sm.put {w wn : World} {b v : Nat} (h : Sm w wn b v) (hw : 0 < w.heap.size) (u : Nat) : Sm w ((wn.setCell ⟨w.heap.size + 1, 0, none⟩ (.int .u64 ((Gh.hi u : Nat) : Int))).setCell ⟨w.heap.size + 1, 1, none⟩ (.int .u64 ((Gh.lo u : Nat) : Int))) b u := by
  have hp := (h.p.set 0 (.int .u64 ((Gh.hi u : Nat) : Int))).set 1 (.int .u64 ((Gh.lo u : Nat) : Int))
  rw [Nat.zero_add, Nat.zero_add] at hp
  have hbn : Below w.heap.size wn ((wn.setCell ⟨w.heap.size + 1, 0, none⟩ (.int .u64 ((Gh.hi u : Nat) : Int))).setCell ⟨w.heap.size + 1, 1, none⟩ (.int .u64 ((Gh.lo u : Nat) : Int))) :=
    ((Below.refl _ _).setCell (p := ⟨w.heap.size + 1, 0, none⟩) (by show w.heap.size ≤ w.heap.size + 1; omega) _).setCell (p := ⟨w.heap.size + 1, 1, none⟩) (by show w.heap.size ≤ w.heap.size + 1; omega) _
  exact ⟨(h.m.other _ _ _ (.inl (by omega))).other _ _ _ (.inl (by omega)), hp, h.f.below hbn hw, h.b.trans hbn, by simpa using h.s⟩
theorem sz_sets (g : Nat) : ∀ (vs : List Value) (o : Nat) (w : World), (w.setCells g o vs).heap.size = w.heap.size
  | [], _, _ => rfl
  | v :: vs, o, w => by rw [World.setCells, sz_sets g vs]; simp
theorem sum_by (w : World) (b : Nat) (hF : Fal w) : ∃ w0, ((w.alloc zm).setCells w.heap.size 0 (elcs (tabL b))).alloc (Obj.cells #[.int .u64 0, .int .u64 0] 44) = w0 ∧ ((w.alloc zm).setCells w.heap.size 0 (elcs (tabL b))).heap.size = w.heap.size + 1 ∧ Sm w w0 b 0 := by
  have hA0 := At.ofAlloc w (elcs (List.replicate 16 0)).toArray 46
  simp only at hA0
  have hz : w.alloc (Obj.cells (elcs (List.replicate 16 0)).toArray 46) = w.alloc zm := by rw [elz]
  rw [hz] at hA0
  have hl : (tabL b).length = 16 := tabL_length b
  have hA1 := hA0.ofSets (vs := elcs (tabL b)) (by rw [elcs_length, elcs_length, hl, List.length_replicate])
  have hb1 : Below w.heap.size w (w.alloc zm) := (Below.refl _ _).alloc (Nat.le_refl _) _
  have hb2 := below_sets w.heap.size w.heap.size (Nat.le_refl _) (elcs (tabL b)) 0 w _ hb1
  have hs : ((w.alloc zm).setCells w.heap.size 0 (elcs (tabL b))).heap.size = w.heap.size + 1 := by rw [sz_sets, World.size_alloc]
  obtain ⟨w1, hw1⟩ : ∃ w1, (w.alloc zm).setCells w.heap.size 0 (elcs (tabL b)) = w1 := ⟨_, rfl⟩
  rw [hw1] at hA1 hb2 hs ⊢
  have hA2 := At.ofAlloc w1 #[.int .u64 0, .int .u64 0] 44
  rw [hs] at hA2
  have hb3 := hb2.alloc (o := Obj.cells #[.int .u64 0, .int .u64 0] 44) (by omega)
  exact ⟨_, rfl, hs, hA1.alloc _, hA2, hF.below hb3 hF.2, hb3, by simp [hs]⟩
set_option maxRecDepth 100000 in
set_option maxHeartbeats 6400000 in
theorem gsum_any (key text : ByteArray) (w : World) (hF : Fal w) : Calls Tryd.prog 17 #[.string key, .string text] w (RetSE (gsT key.toList text.toList) (gsE key.toList text.toList) w) := by
  by_cases h1 : key.size = 16
  rotate_left
  · have hE : gsE key.toList text.toList = 3 := by rw [gsE, if_neg (by rw [tl_size]; exact h1)]
    have hT : gsT key.toList text.toList = [] := by rw [gsT, hE, if_neg (by decide)]
    rw [hE, hT]
    have e1 : ((key.size : Int) != 16) = true := by rw [bne_iff_ne]; omega
    clear hE hT h1
    go_enter Tryd.func17, Tryd.ntmps17
    go_wp2_with fail
    go_ret2
    exact ret_se emptyL rfl rfl (Below.refl _ _)
  have e1 : ((key.size : Int) != 16) = false := by rw [bne_eq_false_iff_eq]; omega
  obtain ⟨r, hr⟩ : ∃ r, text.size % 16 = r := ⟨_, rfl⟩
  have e3 : (text.size : Int).tmod 16 = (r : Int) := gh_tmod text.size 16 r hr.symm
  have e4 : IntKind.i64.wrap (r : Int) = (r : Int) := gh_wrap _ (by omega) (by omega)
  by_cases h2 : r = 0
  rotate_left
  · have hE : gsE key.toList text.toList = 6 := by rw [gsE, if_pos (by rw [tl_size]; exact h1), if_neg (by rw [tl_size]; omega)]
    have hT : gsT key.toList text.toList = [] := by rw [gsT, hE, if_neg (by decide)]
    rw [hE, hT]
    have e2 : ((r : Int) != 0) = true := by rw [bne_iff_ne]; omega
    clear hE hT h1 hr
    go_enter Tryd.func17, Tryd.ntmps17
    go_wp2_with fail
    go_ret2
    exact ret_se emptyL rfl rfl (Below.refl _ _)
  subst h2
  have e2 : (((0 : Nat) : Int) != 0) = false := rfl
  by_cases h3 : text.size ≤ 210000
  rotate_left
  · have hE : gsE key.toList text.toList = 6 := by rw [gsE, if_pos (by rw [tl_size]; exact h1), if_neg (by rw [tl_size]; omega)]
    have hT : gsT key.toList text.toList = [] := by rw [gsT, hE, if_neg (by decide)]
    rw [hE, hT]
    have e5 : (210000 : Int) < (text.size : Int) := by omega
    clear hE hT h1 hr
    go_enter Tryd.func17, Tryd.ntmps17
    go_wp2_with fail
    go_ret2
    exact ret_se emptyL rfl rfl (Below.refl _ _)
  have e5 : ¬ (210000 : Int) < (text.size : Int) := by omega
  obtain ⟨hE, hT⟩ := gs_ok key.toList text.toList (by rw [tl_size]; exact h1) (by rw [tl_size]; exact hr) (by rw [tl_size]; exact h3)
  rw [hE, hT]
  obtain ⟨n, hn⟩ : ∃ n, text.size = 16 * n := ⟨text.size / 16, by omega⟩
  have hnb : n ≤ 13125 := by omega
  obtain ⟨b, hb⟩ : ∃ b, ofBe key.toList = b := ⟨_, rfl⟩
  have hbl := of16_lt key.toList (by rw [tl_size]; exact h1)
  rw [hb] at hbl
  have HN := Lib.hid hn
  have HK := Lib.hid h1
  have HB := Lib.hid hb
  have HBL := Lib.hid hbl
  have HFw := Lib.hid hF
  clear hE hT h1 hr h3 hn hbl hF
  go_enter Tryd.func17, Tryd.ntmps17
  go_wp2_with fail
  refine (gread_any key HK.out _).mono ?_
  rintro e w1 ⟨rfl, hb1⟩
  rw [hb]
  go_wp2_with fail
  refine (multiples_any b HBL.out _).mono ?_
  rintro e w2 ⟨rfl, hb2⟩
  have hb02 := below2 hb1 hb2
  clear hb1 hb2
  have hA0 := At.ofAlloc w2 (elcs (List.replicate 16 0)).toArray 46
  simp only at hA0
  have hl : (tabL b).length = 16 := tabL_length b
  have hst := run_store_at (P := Tryd.prog) hA0 (cs := elcs (tabL b)) (by rw [elcs_length, elcs_length, hl, List.length_replicate]) (elcs_one _)
  rw [elz] at hst
  go_wp2_with fail
  obtain ⟨w0, hw0, hs0, hS⟩ := sum_by w2 b (HFw.out.below hb02 HFw.out.2)
  rw [hw0, hs0]
  clear hw0 hs0 hst hl hA0
  have hw2 : 0 < w2.heap.size := Nat.lt_of_lt_of_le HFw.out.2 hb02.size
  have hinf := infoM (tabL b) (tabL_length b)
  go_loopw [8] (fun vo wr => ∃ (k o : Nat), o = 16 * k ∧ vo = .int .i64 (o : Int) ∧ k ≤ n ∧ Sm w2 wr b (gsF b 0 text.toList k)) (fun vo _ => 16 * n - (intOf vo).toNat)
  case atStart => exact ⟨0, 0, rfl, rfl, Nat.zero_le _, hS⟩
  case round =>
    clear hS
    obtain ⟨k, o, ho, rfl, hkn, hS⟩ := hrel
    have HO := Lib.hid ho
    by_cases hlt : o < text.size
    · have hltI : (o : Int) < (text.size : Int) := by omega
      have hkn1 : k < n := by have := HN.out; omega
      obtain ⟨e1, he⟩ : ∃ e1, e1 = o + 16 := ⟨_, rfl⟩
      have q1 : (o : Int) + 16 = (e1 : Int) := by omega
      have q2 : IntKind.i64.wrap (e1 : Int) = (e1 : Int) := gh_wrap _ (by omega) (by omega)
      have q3 : (0 : Int) ≤ (o : Int) := by omega
      have q4 : (o : Int) ≤ (e1 : Int) := by omega
      have q5 : o ≤ e1 := by omega
      have q6 : (e1 : Int) ≤ (text.size : Int) := by have := HN.out; omega
      have q7 : e1 ≤ text.size := by have := HN.out; omega
      obtain ⟨bk, hbk⟩ : ∃ bk, text.extract o e1 = bk := ⟨_, rfl⟩
      have hbl : bk.toList = blk text.toList k := by rw [← hbk]; exact gx_blk text k o e1 ho he
      have hbs : bk.size = 16 := by rw [← tl_size, hbl, blk_length _ _ (by rw [tl_size]; omega)]
      have hvl : gsF b 0 text.toList k < 2 ^ 128 := gsF_lt _ _ _ HBL.out (by decide) _
      have hstep : Gh.mul (gsF b 0 text.toList k ^^^ ofBe bk.toList) b = gsF b 0 text.toList (k + 1) := by rw [hbl, gsF_succ]
      obtain ⟨v, hv⟩ : ∃ v, gsF b 0 text.toList k = v := ⟨_, rfl⟩
      rw [hv] at hvl hstep hS
      have hul := of16_lt bk.toList (by rw [tl_size]; exact hbs)
      have HUL := Lib.hid hul
      have HVL := Lib.hid hvl
      have HST := Lib.hid hstep
      have HBS := Lib.hid hbs
      have HE := Lib.hid he
      have HS := Lib.hid hS
      have HXL : Hid (v ^^^ ofBe bk.toList < 2 ^ 128) := Lib.hid (Nat.xor_lt_two_pow hvl hul)
      have y0 := hS.p.cell 0 _ rfl
      have y1 := hS.p.cell 1 _ rfl
      have z0 := hS.p.froz 0 (by simp [elc])
      have z1 := hS.p.froz 1 (by simp [elc])
      rw [Nat.zero_add] at y0 y1 z0 z1
      clear ho he hbl hbs hvl hstep hul hlt hv
      go_wp2_with fail
      refine wp_region_held_drew (S := fun w' => w'.rangeAt w2.heap.size 0 (elcs (tabL b))) (by kernel_rfl) hS.m.range (fun hHeld => ?_)
      clear hS
      refine wpAnyH_take (i := 2) (v := ?_) rfl (by kernel_rfl) (by kernel_rfl) (by kernel_rfl) (fun _ _ _ h => h) (Or.inl ⟨by rfl, ?_⟩) (by assumption) ?_
      rotate_left
      · intro w hSw
        go_simp
        try with_reducible rfl
      try simp only [Act.put, List.getElem_toArray, List.getElem_cons_zero, List.getElem_cons_succ, List.setIfInBounds_toArray, List.set_cons_zero, List.set_cons_succ]
      refine wpAnyH_take (i := 3) (v := ?_) rfl (by kernel_rfl) (by kernel_rfl) (by kernel_rfl) (fun _ _ _ h => h) (Or.inl ⟨by rfl, ?_⟩) (by assumption) ?_
      rotate_left
      · intro w hSw
        go_simp
        try with_reducible rfl
      try simp only [Act.put, List.getElem_toArray, List.getElem_cons_zero, List.getElem_cons_succ, List.setIfInBounds_toArray, List.set_cons_zero, List.set_cons_succ]
      refine wpAnyH_take (i := 4) (v := ?_) rfl (by kernel_rfl) (by kernel_rfl) (by kernel_rfl) (fun _ _ _ h => h) (Or.inl ⟨by rfl, ?_⟩) (by assumption) ?_
      rotate_left
      · intro w hSw
        go_simp
        try with_reducible rfl
      try simp only [Act.put, List.getElem_toArray, List.getElem_cons_zero, List.getElem_cons_succ, List.setIfInBounds_toArray, List.set_cons_zero, List.set_cons_succ]
      refine wpAnyH_take (i := 5) (v := ?_) rfl (by kernel_rfl) (by kernel_rfl) (by kernel_rfl) (fun _ _ _ h => h) (Or.inl ⟨by rfl, ?_⟩) (by assumption) ?_
      rotate_left
      · intro w hSw
        go_simp
        try with_reducible rfl
      try simp only [Act.put, List.getElem_toArray, List.getElem_cons_zero, List.getElem_cons_succ, List.setIfInBounds_toArray, List.set_cons_zero, List.set_cons_succ]
      refine wpAnyH_take (i := 6) (v := ?_) rfl (by kernel_rfl) (by kernel_rfl) (by kernel_rfl) (fun _ _ _ h => h) (Or.inl ⟨by rfl, ?_⟩) (by assumption) ?_
      rotate_left
      · intro w hSw
        go_simp
        try with_reducible rfl
      try simp only [Act.put, List.getElem_toArray, List.getElem_cons_zero, List.getElem_cons_succ, List.setIfInBounds_toArray, List.set_cons_zero, List.set_cons_succ]
      refine' wpAnyH_take (i := 0) (v := _) rfl (by kernel_rfl) (by kernel_rfl) (by kernel_rfl) (fun _ _ _ h => h) (yieldsIf_load_mid (by rfl) 46 (.tmp 6) rfl w2.heap.size 0 rfl (elcs (tabL b)) _ (fun _ h => h) Tryd.underlying46 rfl hinf) (by assumption) ?_
      try simp only [Act.put, List.getElem_toArray, List.getElem_cons_zero, List.getElem_cons_succ, List.setIfInBounds_toArray, List.set_cons_zero, List.set_cons_succ]
      clear hHeld
      refine wpAnyH_ready (rs := [1, 7]) (by kernel_rfl) (by simp) ?_
      refine AllReadyH.cons (o := _) rfl (fun K hK => ?_) ?_
      · go_simp
        refine hK.out _ _ (HS.out.m.drew.range) (fun hHeld => ?_)
        clear hK K hHeld
        try simp only [Act.put, List.getElem_toArray, List.getElem_cons_zero, List.getElem_cons_succ, List.setIfInBounds_toArray, List.set_cons_zero, List.set_cons_succ]
        refine wpAnyH_ready (rs := [7]) (by kernel_rfl) (by simp) ?_
        refine AllReadyH.cons (o := _) rfl (fun K hK => ?_) AllReadyH.nil
        go_simp
        go_at_call 30
        refine (gread_any bk HBS.out _).mono ?_
        rintro e3 w3 ⟨rfl, hb3⟩
        have S3 := Lib.hid (HS.out.drew.below hb3)
        have y03 := S3.out.p.cell 0 _ rfl
        have y13 := S3.out.p.cell 1 _ rfl
        rw [Nat.zero_add] at y03 y13
        clear hb3
        go_wp2_with fail
        refine hK.out _ _ (S3.out.m.range) (fun hHeld => ?_)
        clear hK K hHeld
        try simp only [Act.put, List.getElem_toArray, List.getElem_cons_zero, List.getElem_cons_succ, List.setIfInBounds_toArray, List.set_cons_zero, List.set_cons_succ]
        refine wpAnyH_ready (rs := [8]) (by kernel_rfl) (by simp) ?_
        refine AllReadyH.cons (o := _) rfl (fun K hK => ?_) AllReadyH.nil
        go_simp
        go_at_call 36
        refine (plus_any v (ofBe bk.toList) HVL.out HUL.out _).mono ?_
        rintro e4 w4 ⟨rfl, hb4⟩
        have S4 := Lib.hid (S3.out.below hb4)
        clear hb4
        go_wp2_with fail
        refine hK.out _ _ (S4.out.m.range) (fun hHeld => ?_)
        clear hK K hHeld
        try simp only [Act.put, List.getElem_toArray, List.getElem_cons_zero, List.getElem_cons_succ, List.setIfInBounds_toArray, List.set_cons_zero, List.set_cons_succ]
        refine wpAnyH_ready (rs := [9]) (by kernel_rfl) (by simp) ?_
        refine AllReadyH.cons (o := _) rfl (fun K hK => ?_) AllReadyH.nil
        go_simp
        go_at_call 31
        refine (times_any (v ^^^ ofBe bk.toList) b HXL.out HBL.out _ S4.out.f).mono ?_
        rintro e5 w5 ⟨rfl, hb5⟩
        rw [HST.out]
        have S5 := Lib.hid (S4.out.below hb5)
        have y05 := S5.out.p.cell 0 _ rfl
        have y15 := S5.out.p.cell 1 _ rfl
        have z05 := S5.out.p.froz 0 (by simp [elc])
        have z15 := S5.out.p.froz 1 (by simp [elc])
        rw [Nat.zero_add] at y05 y15 z05 z15
        clear hb5
        go_wp2_with fail
        refine hK.out _ _ (S5.out.m.range) (fun hHeld => ?_)
        clear hK K hHeld
        try simp only [Act.put, List.getElem_toArray, List.getElem_cons_zero, List.getElem_cons_succ, List.setIfInBounds_toArray, List.set_cons_zero, List.set_cons_succ]
        refine wpAnyH_ready (rs := [10]) (by kernel_rfl) (by simp) ?_
        refine AllReadyH.cons (o := _) rfl (fun K hK => ?_) AllReadyH.nil
        go_simp
        refine hK.out _ _ ((S5.out.put hw2 _).m.range) (fun hHeld => ?_)
        clear hK K hHeld
        try simp only [Act.put, List.getElem_toArray, List.getElem_cons_zero, List.getElem_cons_succ, List.setIfInBounds_toArray, List.set_cons_zero, List.set_cons_succ]
        refine wpAnyH_done (by kernel_rfl) ?_ _
        clear y03 y13 y05 y15 z05 z15
        go_wp2_with fail
        go_roundw
        case rel => exact ⟨k + 1, e1, by have := HO.out; have := HE.out; omega, by go_num, hkn1, S5.out.put hw2 _⟩
        case measure => have := HE.out; have := HN.out; simp [intOf]; omega
      · refine AllReadyH.cons (o := _) rfl (fun K hK => ?_) AllReadyH.nil
        go_simp
        go_at_call 30
        refine (gread_any bk HBS.out _).mono ?_
        rintro e3 w3 ⟨rfl, hb3⟩
        have S3 := Lib.hid (HS.out.drew.below hb3)
        have y03 := S3.out.p.cell 0 _ rfl
        have y13 := S3.out.p.cell 1 _ rfl
        rw [Nat.zero_add] at y03 y13
        clear hb3
        go_wp2_with fail
        refine hK.out _ _ (S3.out.m.range) (fun hHeld => ?_)
        clear hK K hHeld
        try simp only [Act.put, List.getElem_toArray, List.getElem_cons_zero, List.getElem_cons_succ, List.setIfInBounds_toArray, List.set_cons_zero, List.set_cons_succ]
        refine wpAnyH_ready (rs := [1]) (by kernel_rfl) (by simp) ?_
        refine AllReadyH.cons (o := _) rfl (fun K hK => ?_) AllReadyH.nil
        go_simp
        refine hK.out _ _ (S3.out.m.range) (fun hHeld => ?_)
        clear hK K hHeld
        try simp only [Act.put, List.getElem_toArray, List.getElem_cons_zero, List.getElem_cons_succ, List.setIfInBounds_toArray, List.set_cons_zero, List.set_cons_succ]
        refine wpAnyH_ready (rs := [8]) (by kernel_rfl) (by simp) ?_
        refine AllReadyH.cons (o := _) rfl (fun K hK => ?_) AllReadyH.nil
        go_simp
        go_at_call 36
        refine (plus_any v (ofBe bk.toList) HVL.out HUL.out _).mono ?_
        rintro e4 w4 ⟨rfl, hb4⟩
        have S4 := Lib.hid (S3.out.below hb4)
        clear hb4
        go_wp2_with fail
        refine hK.out _ _ (S4.out.m.range) (fun hHeld => ?_)
        clear hK K hHeld
        try simp only [Act.put, List.getElem_toArray, List.getElem_cons_zero, List.getElem_cons_succ, List.setIfInBounds_toArray, List.set_cons_zero, List.set_cons_succ]
        refine wpAnyH_ready (rs := [9]) (by kernel_rfl) (by simp) ?_
        refine AllReadyH.cons (o := _) rfl (fun K hK => ?_) AllReadyH.nil
        go_simp
        go_at_call 31
        refine (times_any (v ^^^ ofBe bk.toList) b HXL.out HBL.out _ S4.out.f).mono ?_
        rintro e5 w5 ⟨rfl, hb5⟩
        rw [HST.out]
        have S5 := Lib.hid (S4.out.below hb5)
        have y05 := S5.out.p.cell 0 _ rfl
        have y15 := S5.out.p.cell 1 _ rfl
        have z05 := S5.out.p.froz 0 (by simp [elc])
        have z15 := S5.out.p.froz 1 (by simp [elc])
        rw [Nat.zero_add] at y05 y15 z05 z15
        clear hb5
        go_wp2_with fail
        refine hK.out _ _ (S5.out.m.range) (fun hHeld => ?_)
        clear hK K hHeld
        try simp only [Act.put, List.getElem_toArray, List.getElem_cons_zero, List.getElem_cons_succ, List.setIfInBounds_toArray, List.set_cons_zero, List.set_cons_succ]
        refine wpAnyH_ready (rs := [10]) (by kernel_rfl) (by simp) ?_
        refine AllReadyH.cons (o := _) rfl (fun K hK => ?_) AllReadyH.nil
        go_simp
        refine hK.out _ _ ((S5.out.put hw2 _).m.range) (fun hHeld => ?_)
        clear hK K hHeld
        try simp only [Act.put, List.getElem_toArray, List.getElem_cons_zero, List.getElem_cons_succ, List.setIfInBounds_toArray, List.set_cons_zero, List.set_cons_succ]
        refine wpAnyH_done (by kernel_rfl) ?_ _
        clear y03 y13 y05 y15 z05 z15
        go_wp2_with fail
        go_roundw
        case rel => exact ⟨k + 1, e1, by have := HO.out; have := HE.out; omega, by go_num, hkn1, S5.out.put hw2 _⟩
        case measure => have := HE.out; have := HN.out; simp [intOf]; omega
    · have hkn1 : k = n := by have := HN.out; omega
      subst hkn1
      have hltI : ¬ (o : Int) < (text.size : Int) := by omega
      have hvl : gsF b 0 text.toList k < 2 ^ 128 := gsF_lt _ _ _ HBL.out (by decide) _
      obtain ⟨v, hv⟩ : ∃ v, gsF b 0 text.toList k = v := ⟨_, rfl⟩
      rw [hv] at hvl hS
      have y0 := hS.p.cell 0 _ rfl
      have y1 := hS.p.cell 1 _ rfl
      rw [Nat.zero_add] at y0 y1
      have hb03 := hb02.trans (hS.b.mono hb02.size)
      have HV := Lib.hid hv
      have HVL := Lib.hid hvl
      clear ho hS hv hvl
      go_wp2_with fail
      refine (gtell_any v HVL.out _).mono ?_
      rintro e w5 ⟨s, rfl, hs, hb5⟩
      have hb05 := hb03.trans (hb5.mono hb03.size)
      have HSS := Lib.hid hs
      clear hs hb5 hb03 y0 y1
      go_wp2_with fail
      go_ret2
      refine ret_se HSS.out ?_ rfl hb05
      rw [gsL, tl_size, HN.out, Nat.mul_div_cancel_left _ (by decide), HB.out, HV.out]
end Go.Proofs.YtkedoiikkjeadaaDoor
