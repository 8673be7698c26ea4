/- Telling: shape's walk. -/
import Derived.Test.YteglahkgnggmgaaDoorDrW
namespace Go.Proofs.YteglahkgnggmgaaDoor
open Go.RowKit
set_option linter.unusedVariables false
set_option linter.unusedSimpArgs false
open Dr
def RetShp (r : Int × Bool) (w : World) (e : Ending) (w' : World) : Prop := e = .returned (.tuple #[.int .i64 r.1, .bool r.2]) ∧ Below w.heap.size w w'
structure ShI (l : List Nd) (R : Int × Bool) (w : World) (vW vd vi : Value) (wr : World) : Prop where
  out : ∃ (i : Nat) (W : List Int) (dp k cap : Nat), vi = .int .i64 (i : Int) ∧ vd = .int .i64 (dp : Int) ∧ vW = .slice (some ⟨k, 0, none⟩) W.length cap ∧ i ≤ l.length ∧ Hid (Wt wr w.heap.size vW W) ∧ shp W (dp : Int) (l.drop i) = R ∧ Hid (Below w.heap.size w wr) ∧ W.length ≤ i + 1 ∧ dp ≤ i
set_option maxRecDepth 100000 in
set_option maxHeartbeats 1600000 in
theorem shape_any (l : List Nd) (v : Value) (w : World) (hS : Sl w v l) (hK : KidsOk l) (hn : l.length ≤ 4096) :
    Calls Tryd.prog 33 #[v] w (RetShp (shp [1] 0 l) w) := by
  obtain ⟨R, hR⟩ : ∃ R, shp [1] 0 l = R := ⟨_, rfl⟩
  rw [hR]
  have HS := Lib.hid hS
  obtain ⟨a, cap0, rfl, hl⟩ := hS
  obtain ⟨n, hn0⟩ : ∃ n, l.length = n := ⟨_, rfl⟩
  have HL := Lib.hid hl
  have HR := Lib.hid hR
  have HN := Lib.hid (And.intro hn hn0)
  have HK := Lib.hid hK
  rw [hn0]
  have hW1 := World.ownsRow_lit (base := w.heap.size) (e := 3) (size := 1) w #[Value.int .i64 1] 1 (Nat.le_refl _) (by decide) rfl
  have HW1 := Lib.hid hW1
  clear hR hl hK hn hW1
  go_enter Tryd.func33, Tryd.ntmps33
  go_wp2_with fail
  go_loopw [4, 5, 11] (fun vW vd vi wr => ShI l R w vW vd vi wr) (fun _ _ vi _ => n - (intOf vi).toNat)
  case atStart => exact ⟨0, [1], 0, w.heap.size, 1, rfl, rfl, rfl, Nat.zero_le _, ⟨HW1.out, by intro x hx; simp at hx; subst hx; decide⟩, HR.out, (Below.refl _ _).alloc (Nat.le_refl _) _, by simp, Nat.le_refl _⟩
  case round =>
    obtain ⟨i, W, dp, k, cap, rfl, rfl, rfl, hi, HW, hT, HB, hwl, hdl⟩ := hrel
    have HT := Lib.hid hT
    have HWL := Lib.hid (And.intro hwl hdl)
    clear hT hwl hdl
    rw [hn0] at hi
    have HTR := Lib.hid (fun (w' : World) hA hc => trimmed_any w' k cap W hA (by have h1 := HWL.out.1; have h2 := HN.out.1; have h3 := HN.out.2; omega) hc)
    have hcW := own_cap HW.out.own
    by_cases hin : i < n
    · have hil : i < l.length := by omega
      have hne : l ≠ [] := fun h => by rw [h] at hil; simp at hil
      obtain ⟨g, rfl, hAg, hgl⟩ := HL.out hne
      have hNc := (ncell_at hAg i hil).below HB.out hgl
      obtain ⟨nd, hnd⟩ : ∃ nd, l.getD i ⟨0, 0, []⟩ = nd := ⟨_, rfl⟩
      have hdrop := drop_cons hil
      have hkn := HK.out nd (by rw [← hnd]; exact getD_mem hil)
      rw [hnd] at hNc hdrop
      have n0 := hNc.cell 0 _ rfl
      have n1 := hNc.cell 1 _ rfl
      have n2 := hNc.cell 2 _ rfl
      rw [Nat.add_zero] at n0
      have e1 : (i : Int) < (n : Int) := by omega
      have e9 : (i : Int) ≤ 4096 := by have h1 := HN.out.1; omega
      obtain ⟨kk, hkk⟩ : ∃ kk, nd.kids = kk := ⟨_, rfl⟩
      rw [hkk] at n1 hkn
      have HD := Lib.hid hdrop
      have HKK := Lib.hid (And.intro hkk hkn)
      have HII := Lib.hid (show ∃ j, n = i + 1 + j from ⟨n - i - 1, by omega⟩)
      clear hNc hdrop hkk hkn hin hi hil hnd hne
      have hAW := At.ofOwn HW.out.own
      have HAW := Lib.hid (fun ob => (hAW.alloc ob))
      cases hV : tw W with
      | nil =>
        have HF : Hid (R = (0, false)) := by show R = _; rw [← HT.out, HD.out, shp, hV]
        rw [hV] at HTR
        go_wp2_with (first | (go_at_call 53; refine (HTR.out _ (HAW.out _) hcW).mono ?_; rintro e w1 ⟨rfl, rfl⟩))
        go_ret2
        exact ⟨by rw [HF.out]; rfl, HB.out.alloc HB.out.size _⟩
      | cons x V =>
        obtain ⟨m, hm⟩ : ∃ m, V.length = m := ⟨_, rfl⟩
        have hW2 := Wt.tw HW.out
        rw [hV, List.length_cons, hm] at hW2
        have HWT := Lib.hid hW2
        rw [hV, List.length_cons, hm] at HTR
        have hx0 := tw_head hV
        have hxr := hW2.all x (List.mem_cons_self ..)
        have hmW : m + 1 ≤ W.length := by have h1 := tw_le W; rw [hV, List.length_cons, hm] at h1; exact h1
        have e4 : IntKind.i64.wrap (m : Int) = (m : Int) := wrap_fit m (by have h1 := HWL.out.1; have h2 := HN.out.1; have h3 := HN.out.2; obtain ⟨j, hj⟩ := HII.out; unfold maxLen; omega)
        have e5 : (m : Int) < (m : Int) + 1 := by omega
        obtain ⟨y, hy⟩ : ∃ y, x - 1 = y := ⟨_, rfl⟩
        have e7 : IntKind.i64.wrap y = y := by simp only [IntKind.wrap, IntKind.bits, IntKind.signed]; simp; omega
        have e8 : wrap64 (x - 1) = y := by
          rw [hy]
          obtain ⟨ny, hny⟩ := Int.eq_ofNat_of_zero_le (show 0 ≤ y by omega)
          rw [hny]
          exact w64n ny (by omega)
        have HY := Lib.hid (And.intro hy (show 0 ≤ y ∧ y ≤ 9223372036854775807 by omega))
        have HM := Lib.hid (And.intro hm hmW)
        have hown2 : wr.ownsRow w.heap.size 3 1 (.slice (some ⟨k, 0, none⟩) (m + 1) cap) (m + 1) (icells (x :: V).reverse) := by have h1 := hW2.own; rw [List.length_cons, hm] at h1; exact h1
        have hAx := At.ofOwn hown2
        have hx := hAx.cell m (.int .i64 x) (by rw [icells, List.reverse_cons, List.map_append, List.getElem?_append_right (by simp [hm])]; simp [hm])
        have hfx := hAx.froz m (by rw [icells_length, List.length_reverse, List.length_cons, hm]; omega)
        have hkl := hAx.lt (by rw [icells, List.reverse_cons]; simp)
        rw [Nat.zero_add] at hx hfx
        have hxA : ∀ ob : Obj, (wr.alloc ob).cell? ⟨k, m, none⟩ = some (.int .i64 x) := fun ob => by have := (hAx.alloc ob).cell m (.int .i64 x) (by rw [icells, List.reverse_cons, List.map_append, List.getElem?_append_right (by simp [hm])]; simp [hm]); rw [Nat.zero_add] at this; exact this
        have hfA : ∀ ob : Obj, (wr.alloc ob).frozen? ⟨k, m, none⟩ = false := fun ob => by have := (hAx.alloc ob).froz m (by rw [icells_length, List.length_reverse, List.length_cons, hm]; omega); rw [Nat.zero_add] at this; exact this
        have HST := Lib.hid (World.ownsRow.stored hown2 m (.int .i64 y)).1
        have hset : (icells (x :: V).reverse).set m (.int .i64 y) = icells (y :: V).reverse := by
          rw [icells, icells, List.reverse_cons, List.reverse_cons, List.map_append, List.map_append, List.set_append_right _ _ (by simp [hm])]
          simp [hm]
        have HW9 : Hid (∀ ob, Wt ((wr.setCell ⟨k, m, none⟩ (.int .i64 y)).alloc ob) w.heap.size (.slice (some ⟨k, 0, none⟩) (m + 1) cap) (y :: V)) := fun ob => ⟨by
          have h1 := HST.out.alloc ob
          rw [hset] at h1
          rw [List.length_cons, hm]
          exact h1, fun z hz => by
            rcases List.mem_cons.1 hz with rfl | hz
            · exact HY.out.2
            · exact hW2.all z (List.mem_cons_of_mem _ hz)⟩
        have HB9 := Lib.hid (fun ob => (HB.out.setCell (p := ⟨k, m, none⟩) (hown2.lt k rfl).1 (.int .i64 y)).alloc (by have := HB.out.size; simp [World.setCell]; exact this) ob)
        clear hm hx0 hxr hmW hW2 hown2 hset hAx hx hfx hy
        by_cases hk0 : 0 ≤ kk
        · have HF : Hid (shp (kk :: y :: V) (max (dp : Int) ((m : Int) + 1)) (l.drop (i + 1)) = R) := by
            show _ = R
            rw [← HT.out, HD.out, shp, hV]
            simp only [HKK.out.1, if_pos hk0, HM.out.1, HY.out.1]
          obtain ⟨i0, hi0, hq⟩ := Option.map_eq_some_iff.1 info3
          simp only [Prod.mk.injEq] at hq
          obtain ⟨hz0, hz1, hz2⟩ := hq
          go_upto_region 11 with (first | (go_at_call 53; refine (HTR.out _ (HAW.out _) hcW).mono ?_; rintro e w1 ⟨rfl, rfl⟩))
          have HW8 := Lib.hid (HW9.out (Obj.cells #[.int .u8 (nd.tag.toNat : Int), .int .i64 kk, .string ⟨nd.body.toArray⟩] 63))
          have HB8 := Lib.hid (HB9.out (Obj.cells #[.int .u8 (nd.tag.toNat : Int), .int .i64 kk, .string ⟨nd.body.toArray⟩] 63))
          have hT1 : ((wr.setCell ⟨k, m, none⟩ (.int .i64 y)).alloc (Obj.cells #[.int .u8 (nd.tag.toNat : Int), .int .i64 kk, .string ⟨nd.body.toArray⟩] 63)).cell? ⟨wr.heap.size, 1, none⟩ = some (.int .i64 kk) := by
            have h1 := (At.ofAlloc (wr.setCell ⟨k, m, none⟩ (.int .i64 y)) #[.int .u8 (nd.tag.toNat : Int), .int .i64 kk, .string ⟨nd.body.toArray⟩] 63).cell 1 _ rfl
            rw [show (wr.setCell ⟨k, m, none⟩ (.int .i64 y)).heap.size = wr.heap.size by simp [World.setCell]] at h1
            exact h1
          generalize (wr.setCell ⟨k, m, none⟩ (.int .i64 y)).alloc (Obj.cells #[.int .u8 (nd.tag.toNat : Int), .int .i64 kk, .string ⟨nd.body.toArray⟩] 63) = w9 at HW8 HB8 hT1 ⊢
          have hown9 : w9.ownsRow w.heap.size 3 1 (.slice (some ⟨k, 0, none⟩) (m + 1) cap) (m + 1) (icells (y :: V).reverse) := by
            have h1 := HW8.out.own
            rw [List.length_cons, HM.out.1] at h1
            exact h1
          obtain ⟨vW, hvW⟩ : ∃ v, Value.slice (some ⟨k, 0, none⟩) (m + 1) cap = v := ⟨_, rfl⟩
          rw [hvW] at hown9 ⊢
          have HO9 := Lib.hid hown9
          have hm6 : (m : Int) ≤ 4096 := by have h1 := HM.out.2; have h2 := HWL.out.1; omega
          have hmn : m + 1 ≤ 17592186044415 := by omega
          clear hown9 hvW hxA hfA n0 n1 n2 hV hcW hAW
          go_wp2_with (at_builtin; refine wpList_append_i64 rfl (.tmp 31) (.tmp 34) 98 rfl w.heap.size 3 i0 Tryd.underlying98 hi0 hz0 hz1 hz2 vW (m + 1) ((y :: V).reverse) rfl (HO9.out.alloc _) w9.heap.size 1 kk rfl (by simp) hmn (by have := HB8.out.size; simp; omega) ?_; intro v' w10 hown10 hgrow; have HB10 := Lib.hid (below_own (HB8.out.alloc HB8.out.size (Obj.cells #[.int .i64 kk] 3)) hgrow (by have := HB8.out.size; simp; omega) (HO9.out.alloc _)); obtain ⟨a9, c9, hv9, ha9⟩ := own_form hown10; obtain ⟨k9, hk9⟩ := ha9 (by omega); subst hk9; subst hv9; have HO10 := Lib.hid hown10; clear hown10 hgrow ha9)
          have hmx : ((max dp (m + 1) : Nat) : Int) = max (dp : Int) ((m : Int) + 1) := by omega
          have HW10 : Hid (Wt w10 w.heap.size (.slice (some ⟨k9, 0, none⟩) (m + 1 + 1) c9) (kk :: y :: V)) := ⟨by
            have h1 := HO10.out
            rw [← List.reverse_cons] at h1
            rw [List.length_cons, List.length_cons, HM.out.1]
            exact h1, fun z hz => by
              rcases List.mem_cons.1 hz with rfl | hz
              · exact ⟨hk0, HKK.out.2.2⟩
              · exact HW8.out.all z hz⟩
          go_roundw
          case rel => exact ⟨i + 1, kk :: y :: V, max dp (m + 1), k9, c9, by go_num, by rw [hmx], by rw [List.length_cons, List.length_cons, HM.out.1], by obtain ⟨j, hj⟩ := HII.out; have := HN.out.2; omega, HW10, by rw [hmx]; exact HF.out, HB10, by rw [List.length_cons, List.length_cons, HM.out.1]; have h1 := HWL.out.1; have h2 := HM.out.2; omega, by have h1 := HWL.out; have h2 := HM.out.2; omega⟩
          case measure => obtain ⟨j, hj⟩ := HII.out; simp [intOf]; omega
        · have HF : Hid (shp (y :: V) (dp : Int) (l.drop (i + 1)) = R) := by
            show _ = R
            rw [← HT.out, HD.out, shp, hV]
            simp only [HKK.out.1, if_neg hk0, HY.out.1]
          go_wp2_with (first | (go_at_call 53; refine (HTR.out _ (HAW.out _) hcW).mono ?_; rintro e w1 ⟨rfl, rfl⟩))
          go_roundw
          case rel => exact ⟨i + 1, y :: V, dp, k, cap, by go_num, rfl, by rw [List.length_cons, HM.out.1], by obtain ⟨j, hj⟩ := HII.out; have := HN.out.2; omega, HW9.out _, HF.out, HB9.out _, by rw [List.length_cons, HM.out.1]; have h1 := HWL.out.1; have h2 := HM.out.2; omega, by have h1 := HWL.out.2; omega⟩
          case measure => obtain ⟨j, hj⟩ := HII.out; simp [intOf]; omega
    · obtain rfl : i = n := by omega
      have e1 : ¬ (i : Int) < (i : Int) := by omega
      have HF : Hid (R = ((dp : Int), decide (tw W = []))) := by show R = _; rw [← HT.out, List.drop_eq_nil_of_le (by have := HN.out.2; omega)]; rfl
      have hAW := At.ofOwn HW.out.own
      clear hin hi
      obtain ⟨m, hm⟩ : ∃ m, (tw W).length = m := ⟨_, rfl⟩
      rw [hm] at HTR
      have hb : ((m : Int) == 0) = decide (tw W = []) := by
        cases hV : tw W with
        | nil => rw [hV] at hm; subst hm; rfl
        | cons x V => rw [hV] at hm; subst hm; rw [decide_eq_false (by simp), beq_eq_false_iff_ne]; simp; omega
      go_wp2_with (first | (go_at_call 53; refine (HTR.out _ hAW hcW).mono ?_; rintro e w1 ⟨rfl, rfl⟩))
      go_ret2
      exact ⟨by rw [HF.out]; rfl, HB.out⟩
end Go.Proofs.YteglahkgnggmgaaDoor
