/- One element has ended: the walk. -/
import Derived.Test.YteglahkgnggmgaaDoorDrG
namespace Go.Proofs.YteglahkgnggmgaaDoor
open Go.RowKit
set_option linter.unusedVariables false
set_option linter.unusedSimpArgs false
open Dr
def RsEnd (r : Rs St) (g : Nat) (s : ByteArray) (L : Lm) (vn vs : Value) (ro : Int) (w : World) (e : Ending) (w' : World) : Prop :=
  match r with
  | .ok (.loop G l p) => e = .returned (.tuple #[]) ∧ Hid (Rd w' g s L p l G vn vs ro) ∧ Hid (Below g w w')
  | .no c q _ => No c q g w e w'
  | _ => False
theorem tl_extract (s : ByteArray) (a b : Nat) : (s.extract a b).toList = (s.toList.drop a).take (b - a) := by
  rw [Lib.toList_data, Lib.toList_data, ByteArray.data_extract, Array.toList_extract, List.extract_eq_take_drop]
theorem tl_arr (s : ByteArray) : (⟨s.toList.toArray⟩ : ByteArray) = s := tl_inj (tl_mk _)
section
variable {w : World} {g : Nat} {s : ByteArray} {L : Lm} {p : Nat} {l : List Nd} {G : List Fr} {f : Fr} {vn : Value} {ro : Int} {k cap n : Nat}
theorem Rd.top1 (h : Rd w g s L p l (f :: G) vn (.slice (some ⟨k, 0, none⟩) (G.length + 1) cap) ro) (hn : G.length = n) (hs : ¬ f.tag = 0x31) (x : List UInt8) :
    Rd (w.setCell ⟨k, n * 5 + 3, none⟩ (.int .i64 ((f.kids : Int) + 1))) g s L p l ({ f with kids := f.kids + 1, last := x } :: G) vn (.slice (some ⟨k, 0, none⟩) (G.length + 1) cap) ro := by
  have h9 := h.setTop rfl 3 (by decide) (.int .i64 ((f.kids : Int) + 1)) { f with kids := f.kids + 1, last := x } (by simp [fv, hs])
  rw [hn] at h9 ⊢
  exact h9
theorem Rd.top2 (h : Rd w g s L p l (f :: G) vn (.slice (some ⟨k, 0, none⟩) (G.length + 1) cap) ro) (hn : G.length = n) (hs : f.tag = 0x31) (u : ByteArray) (x : List UInt8) (hx : u.toList = x) :
    Rd ((w.setCell ⟨k, n * 5 + 4, none⟩ (.string u)).setCell ⟨k, n * 5 + 3, none⟩ (.int .i64 ((f.kids : Int) + 1))) g s L p l ({ f with kids := f.kids + 1, last := x } :: G) vn (.slice (some ⟨k, 0, none⟩) (G.length + 1) cap) ro := by
  subst hx
  have h8 := h.setTop rfl 4 (by decide) (.string u) { f with last := u.toList } (by simp [fv, hs, tl_arr])
  have h9 := h8.setTop rfl 3 (by decide) (.int .i64 ((f.kids : Int) + 1)) { f with kids := f.kids + 1, last := u.toList } (by simp [fv])
  rw [hn] at h9 ⊢
  exact h9
end
set_option maxRecDepth 100000 in
set_option maxHeartbeats 3200000 in
theorem ended_any (w : World) (g : Nat) (s : ByteArray) (L : Lm) (a p : Nat) (l : List Nd) (G : List Fr) (vn vs : Value) (ro : Int) (hR : Rd w g s L p l G vn vs ro) (hch : Chain l G a) (ha : a ≤ p) (hp : p ≤ s.size) (hz : s.size ≤ 140737488351232) :
    Calls Tryd.prog 46 #[.pointer (some ⟨g, 0, none⟩), .int .i64 (a : Int)] w (RsEnd (pendS s.toList Op.bytesLess G l a p) g s L vn vs ro w) := by
  have F := Lib.hid (fun c p w => fail_any c p w)
  have HR := Lib.hid hR
  have HZ := Lib.hid hz
  have HA := Lib.hid (And.intro ha hp)
  cases G with
  | nil =>
    obtain ⟨ad, c, rfl, -⟩ := own_form hR.stack
    have hc8 := hR.at0.cell 8 _ rfl
    clear hR hz ha hp hch
    go_enter Tryd.func46, Tryd.ntmps46
    go_wp2_with fail
    first | go_end0 | refine bodyPost_ret (results_none rfl _ _ _) rfl ?_
    exact ⟨rfl, HR, Below.refl _ _⟩
  | cons f G =>
    obtain ⟨hk1, hk2, hk3, hk4, -⟩ := hch
    obtain ⟨k, cap, rfl, hgk, hAt⟩ := hR.top
    obtain ⟨kn, capn, rfl, hgn, hAn⟩ := hR.node f.node hk3
    have hc0 := hR.at0.cell 0 _ rfl
    have hc7 := hR.at0.cell 7 _ rfl
    have hc8 := hR.at0.cell 8 _ rfl
    obtain ⟨n, hn⟩ : ∃ n, G.length = n := ⟨_, rfl⟩
    obtain ⟨m, hm⟩ : ∃ m, l.length = m := ⟨_, rfl⟩
    obtain ⟨nd, hnd⟩ : ∃ nd, f.node = nd := ⟨_, rfl⟩
    rw [hn] at hAt hc8
    rw [hm] at hc7 hk3
    rw [hnd] at hAn hk3
    have ht0 := hAt.cell 0 _ rfl
    have ht3 := hAt.cell 3 _ rfl
    have ht4 := hAt.cell 4 _ rfl
    have hf3 := hAt.froz 3 (by rw [fv_length]; decide)
    have hf4 := hAt.froz 4 (by rw [fv_length]; decide)
    have hn0 := hAn.cell 0 _ rfl
    rw [hnd] at hk4
    rw [hk4] at hn0
    rw [hnd] at ht0
    rw [Nat.add_zero] at ht0 hn0
    have e1 : (nd : Int) < (m : Int) := by omega
    have e4 : IntKind.i64.wrap (n : Int) = (n : Int) := wrap_fit n (by have := own_fit hR.stack; rw [List.length_cons, hn] at this; omega)
    have e5 : (n : Int) < (n : Int) + 1 := by omega
    clear hAt hAn
    have HHG := Lib.hid hn
    by_cases hset : f.tag = 0x31
    · have e2 : ((f.tag.toNat : Int) == 49) = true := by rw [hset]; rfl
      rw [if_pos hset] at ht4
      obtain ⟨u, hu⟩ : ∃ u, s.extract a p = u := ⟨_, rfl⟩
      have hul : u.toList = Dr.part s.toList a p := by rw [← hu, tl_extract]; rfl
      have PT := Lib.hid (fun w hT => part_ok w g s L.bytes p a p hT ha hp)
      rw [hu] at PT
      have e3 : (f.kids : Int) ≤ 140737488351232 := by omega
      have HS := Lib.hid hset
      obtain ⟨c, hc⟩ : ∃ c, Op.bytesLess f.last (Dr.part s.toList a p) = c := ⟨_, rfl⟩
      obtain ⟨d, hd⟩ : ∃ d, (f.last == Dr.part s.toList a p) = d := ⟨_, rfl⟩
      have hsw := bl_swap f.last (Dr.part s.toList a p)
      rw [hc, hd] at hsw
      have hp2 : ¬ (0 < f.kids ∧ Op.bytesLess (Dr.part s.toList a p) f.last = true) → pendS s.toList Op.bytesLess (f :: G) l a p = .ok (.loop ({ f with kids := f.kids + 1, last := Dr.part s.toList a p } :: G) l p) := fun h => by
        rw [pendS, if_neg (fun h2 => h h2.2)]
      have hp1 : 0 < f.kids → Op.bytesLess (Dr.part s.toList a p) f.last = true → pendS s.toList Op.bytesLess (f :: G) l a p = .no 9 a false := fun h h2 => by
        rw [pendS, if_pos ⟨hset, h, h2⟩]
      rw [← hsw] at hp1 hp2
      clear hR hz ha hp hk1 hk2 hk3 hk4 hset hn hu hsw
      by_cases hk0 : 0 < f.kids
      · have e6 : (0 : Int) < (f.kids : Int) := by omega
        cases c <;> cases d
        · rw [hp1 hk0 rfl]
          clear hk0 hp1 hp2
          go_enter Tryd.func46, Tryd.ntmps46
          go_wp2_with fail
          go_quiet (fail)
          go_wp2_with fail
          go_quiet (fail)
          go_wp2_with fail
          go_region_held3 (fun _ => True) (trivial) (first
            | (go_at_call 45; refine (place_yes (HR.out.drewN _)).mono ?_; rintro e w1 ⟨rfl, rfl⟩)
            | (go_at_call 66; refine (PT.out _ (HR.out.drewN _).tx.1).mono ?_; rintro e w2 ⟨rfl, rfl⟩))
          go_wp2_with (go_at_call 49; refine (F.out _ _ _).mono ?_; rintro e w3 ⟨rfl, rfl⟩)
          exact ⟨rfl, rfl, below_drewN _ _ _⟩
        · rw [hp2 (by simp)]
          clear hk0 hp1 hp2
          go_enter Tryd.func46, Tryd.ntmps46
          go_wp2_with fail
          go_quiet (fail)
          go_wp2_with fail
          go_quiet (fail)
          go_wp2_with fail
          go_region_held3 (fun _ => True) (trivial) (first
            | (go_at_call 45; refine (place_yes (HR.out.drewN _)).mono ?_; rintro e w1 ⟨rfl, rfl⟩)
            | (go_at_call 66; refine (PT.out _ (HR.out.drewN _).tx.1).mono ?_; rintro e w2 ⟨rfl, rfl⟩))
          go_wp2_with (go_at_call 49; refine (F.out _ _ _).mono ?_; rintro e w3 ⟨rfl, rfl⟩)
          first | go_end0 | refine bodyPost_ret (results_none rfl _ _ _) rfl ?_
          refine ⟨rfl, ?_, ((below_drewN _ _ _).setCell (Nat.le_of_lt hgk) _).setCell (Nat.le_of_lt hgk) _⟩
          exact (HR.out.drewN _).top2 HHG.out HS.out u _ hul
        · rw [hp2 (by simp)]
          clear hk0 hp1 hp2
          go_enter Tryd.func46, Tryd.ntmps46
          go_wp2_with fail
          go_quiet (fail)
          go_wp2_with fail
          go_quiet (fail)
          go_wp2_with fail
          go_region_held3 (fun _ => True) (trivial) (first
            | (go_at_call 45; refine (place_yes (HR.out.drewN _)).mono ?_; rintro e w1 ⟨rfl, rfl⟩)
            | (go_at_call 66; refine (PT.out _ (HR.out.drewN _).tx.1).mono ?_; rintro e w2 ⟨rfl, rfl⟩))
          go_wp2_with (go_at_call 49; refine (F.out _ _ _).mono ?_; rintro e w3 ⟨rfl, rfl⟩)
          first | go_end0 | refine bodyPost_ret (results_none rfl _ _ _) rfl ?_
          refine ⟨rfl, ?_, ((below_drewN _ _ _).setCell (Nat.le_of_lt hgk) _).setCell (Nat.le_of_lt hgk) _⟩
          exact (HR.out.drewN _).top2 HHG.out HS.out u _ hul
        · rw [hp2 (by simp)]
          clear hk0 hp1 hp2
          go_enter Tryd.func46, Tryd.ntmps46
          go_wp2_with fail
          go_quiet (fail)
          go_wp2_with fail
          go_quiet (fail)
          go_wp2_with fail
          go_region_held3 (fun _ => True) (trivial) (first
            | (go_at_call 45; refine (place_yes (HR.out.drewN _)).mono ?_; rintro e w1 ⟨rfl, rfl⟩)
            | (go_at_call 66; refine (PT.out _ (HR.out.drewN _).tx.1).mono ?_; rintro e w2 ⟨rfl, rfl⟩))
          go_wp2_with (go_at_call 49; refine (F.out _ _ _).mono ?_; rintro e w3 ⟨rfl, rfl⟩)
          first | go_end0 | refine bodyPost_ret (results_none rfl _ _ _) rfl ?_
          refine ⟨rfl, ?_, ((below_drewN _ _ _).setCell (Nat.le_of_lt hgk) _).setCell (Nat.le_of_lt hgk) _⟩
          exact (HR.out.drewN _).top2 HHG.out HS.out u _ hul
      · have e6 : ¬ (0 : Int) < (f.kids : Int) := by omega
        have e7 : decide ((0 : Int) < (f.kids : Int)) = false := decide_eq_false e6
        have e8 : f.kids = 0 := by omega
        rw [hp2 (fun h => hk0 h.1)]
        have HK := Lib.hid e8
        clear hk0 hp1 hp2 hc hd e8 e3
        ·
          go_enter Tryd.func46, Tryd.ntmps46
          go_wp2_with fail
          go_quiet (fail)
          go_wp2_with fail
          go_quiet (fail)
          go_wp2_with fail
          go_region_held3 (fun _ => True) (trivial) (first
            | (go_at_call 45; refine (place_yes (HR.out.drewN _)).mono ?_; rintro e w1 ⟨rfl, rfl⟩)
            | (go_at_call 66; refine (PT.out _ (HR.out.drewN _).tx.1).mono ?_; rintro e w2 ⟨rfl, rfl⟩))
          go_wp2_with (go_at_call 49; refine (F.out _ _ _).mono ?_; rintro e w3 ⟨rfl, rfl⟩)
          first | go_end0 | refine bodyPost_ret (results_none rfl _ _ _) rfl ?_
          refine ⟨rfl, ?_, ((below_drewN _ _ _).setCell (Nat.le_of_lt hgk) _).setCell (Nat.le_of_lt hgk) _⟩
          exact (HR.out.drewN _).top2 HHG.out HS.out u _ hul
    · have e2 : ((f.tag.toNat : Int) == 49) = false := by
        rw [beq_eq_false_iff_ne]
        intro h
        exact hset (UInt8.toNat_inj.1 (by rw [show (49 : UInt8).toNat = 49 from rfl]; omega))
      have hp1 : pendS s.toList Op.bytesLess (f :: G) l a p = .ok (.loop ({ f with kids := f.kids + 1, last := Dr.part s.toList a p } :: G) l p) := by
        rw [pendS, if_neg (fun h => hset h.1)]
      rw [hp1]
      have e3 : (f.kids : Int) ≤ 140737488351232 := by omega
      have HS := Lib.hid hset
      have HN := Lib.hid hn
      clear hR hz ha hp hk1 hk2 hk3 hk4 hp1 hset hn
      go_enter Tryd.func46, Tryd.ntmps46
      go_wp2_with fail
      go_quiet (fail)
      go_wp2_with fail
      go_quiet (fail)
      go_wp2_with fail
      first | go_end0 | refine bodyPost_ret (results_none rfl _ _ _) rfl ?_
      refine ⟨rfl, ?_, (below_drewN _ _ _).setCell (Nat.le_of_lt hgk) _⟩
      exact (HR.out.drewN _).top1 HN.out HS.out _
end Go.Proofs.YteglahkgnggmgaaDoor
