/- The document's telling: Behind, the walk. -/
import Derived.Test.YteglahkgnggmgaaDoorDwK
namespace Go.Proofs.YteglahkgnggmgaaDoor
open Go.RowKit
set_option linter.unusedVariables false
set_option linter.unusedSimpArgs false
open Dr
theorem tw_idem (W : List Int) : tw (tw W) = tw W := by
  cases h5 : tw W with
  | nil => rfl
  | cons y U => exact tw_cons (tw_head h5)
set_option maxRecDepth 100000 in
set_option maxHeartbeats 1600000 in
theorem behind_any (l : List Nd) (v : Value) (w : World) (hS : SlO w v l) (hK : KidsOk l) (hn : l.length ≤ 4096) :
    Calls Tryd.prog 36 #[v, .int .i64 0] w (fun e w' => e = .returned (.tuple #[.int .i64 (bhd [] 0 0 l).1, .int .i64 ((bhd [] 0 0 l).2 : Int)]) ∧ Below w.heap.size w w') := by
  obtain ⟨R, hR⟩ : ∃ R, bhd [] 0 0 l = R := ⟨_, rfl⟩
  rw [hR]
  have HS := Lib.hid hS
  obtain ⟨a, cap0, rfl, hl⟩ := hS
  obtain ⟨n, hn0⟩ : ∃ n, l.length = n := ⟨_, rfl⟩
  have HL := Lib.hid hl
  have HR := Lib.hid hR
  have HN := Lib.hid (And.intro hn hn0)
  have HK := Lib.hid hK
  rw [hn0]
  clear hR hl hK hn
  go_enter Tryd.func36, Tryd.ntmps36
  go_wp2_with fail
  go_loopw [6, 7, 8] (fun vW vd vi wr => ∃ (i : Nat) (W : List Int) (m : Nat), vi = .int .i64 (i : Int) ∧ vd = .int .i64 (m : Int) ∧ i ≤ n ∧ Hid (Wt wr w.heap.size vW W) ∧ tw W = W ∧ bhd W m i (l.drop i) = R ∧ Hid (Below w.heap.size w wr) ∧ W.length ≤ i ∧ m ≤ i) (fun _ _ vi _ => n - (intOf vi).toNat)
  case atStart => exact ⟨0, [], 0, rfl, rfl, Nat.zero_le _, ⟨World.ownsRow_nil _ _ _ _, fun x hx => (List.not_mem_nil hx).elim⟩, rfl, HR.out, Below.refl _ _, Nat.le_refl _, Nat.le_refl _⟩
  case round =>
    obtain ⟨i, W, m, rfl, rfl, hi, HW, htw, hT, HB, hwl, hml⟩ := hrel
    have HT := Lib.hid hT
    have HWL := Lib.hid (And.intro hwl (And.intro hml htw))
    clear hT hwl hml htw
    by_cases hin : i < n
    · have hil : i < l.length := by omega
      have hne : l ≠ [] := fun h => by rw [h] at hil; simp at hil
      obtain ⟨g, o, rfl, hAg, hgl⟩ := HL.out hne
      have hNc := (ncell_atO hAg i hil).below HB.out hgl
      obtain ⟨nd, hnd⟩ : ∃ nd, l.getD i ⟨0, 0, []⟩ = nd := ⟨_, rfl⟩
      have hdrop := drop_cons hil
      have hkn := HK.out nd (by rw [← hnd]; exact getD_mem hil)
      rw [hnd] at hNc hdrop
      have n1 := hNc.cell 1 _ rfl
      have e1 : (i : Int) < (n : Int) := by omega
      have e9 : (i : Int) ≤ 4096 := by have h1 := HN.out.1; omega
      obtain ⟨kk, hkk⟩ : ∃ kk, nd.kids = kk := ⟨_, rfl⟩
      rw [hkk] at n1 hkn
      have HD := Lib.hid hdrop
      have HKK := Lib.hid (And.intro hkk hkn)
      have HII := Lib.hid (show ∃ j, n = i + 1 + j from ⟨n - i - 1, by omega⟩)
      have HGL := Lib.hid hgl
      rw [HD.out, bhd_cons, hkk] at HT
      clear hNc hdrop hkk hkn hin hi hil hnd hne hgl hAg
      by_cases hk1 : kk < -1
      · have HF : Hid (R = (-1, m)) := by show R = _; rw [← HT.out, if_pos hk1]
        go_wp2_with fail
        go_ret2
        exact ⟨by rw [HF.out]; rfl, HB.out⟩
      · rw [if_neg hk1] at HT
        obtain ⟨aW, cW, rfl, haW⟩ := own_form HW.out.own
        have e2 : ¬ kk < -1 := hk1
        obtain ⟨nW, hnW⟩ : ∃ nW, W.length = nW := ⟨_, rfl⟩
        have hn4 : nW ≤ 4096 := by have h1 := HWL.out.1; have h2 := HN.out.1; obtain ⟨j, hj⟩ := HII.out; omega
        have HWn := Lib.hid hnW
        rw [hnW]
        have hd2 : (decW2 W).length = nW := by rw [← hnW]; cases W <;> rfl
        go_upto_if 25 with fail
        go_cut [] from 25 to 37 (fun wx => Hid (Wt wx w.heap.size (.slice aW nW cW) (decW2 W)) ∧ Hid (Below w.heap.size w wx) ∧ wx.cell? ⟨g, o + i * 3 + 1, none⟩ = some (.int .i64 kk))
        case first =>
          cases W with
          | nil =>
            have hz : nW = 0 := hnW.symm
            subst hz
            clear hnW hd2 hn4
            go_wp2_with fail
            go_meet
            case rel => exact ⟨HW.out, HB, n1⟩
          | cons x V =>
            obtain ⟨k, rfl⟩ := haW (by rw [List.length_cons]; omega)
            obtain ⟨mv, hmv⟩ : ∃ m, V.length = m := ⟨_, rfl⟩
            obtain rfl : nW = mv + 1 := by rw [← hnW, List.length_cons, hmv]
            have hx0 := tw_head HWL.out.2.2
            have hxr := HW.out.all x (List.mem_cons_self ..)
            have e4 : IntKind.i64.wrap (mv : Int) = (mv : Int) := wrap_fit mv (by unfold maxLen; omega)
            have e5 : (mv : Int) < (mv : Int) + 1 := by omega
            have e5b : (0 : Int) < (mv : Int) + 1 := by omega
            obtain ⟨y, hy⟩ : ∃ y, x - 1 = y := ⟨_, rfl⟩
            have e7 : IntKind.i64.wrap y = y := by simp only [IntKind.wrap, IntKind.bits, IntKind.signed]; simp; omega
            have e8 : wrap64 (x - 1) = y := by
              rw [hy]
              obtain ⟨ny, hny⟩ := Int.eq_ofNat_of_zero_le (show 0 ≤ y by omega)
              rw [hny]
              exact w64n ny (by omega)
            have hown2 : wr.ownsRow w.heap.size 3 1 (.slice (some ⟨k, 0, none⟩) (mv + 1) cW) (mv + 1) (icells (x :: V).reverse) := by have h1 := HW.out.own; rw [List.length_cons, hmv] at h1; exact h1
            have hAx := At.ofOwn hown2
            have hx := hAx.cell mv (.int .i64 x) (by rw [icells, List.reverse_cons, List.map_append, List.getElem?_append_right (by simp [hmv])]; simp [hmv])
            have hfx := hAx.froz mv (by rw [icells_length, List.length_reverse, List.length_cons, hmv]; omega)
            rw [Nat.zero_add] at hx hfx
            have hset : (icells (x :: V).reverse).set mv (.int .i64 y) = icells (y :: V).reverse := by
              rw [icells, icells, List.reverse_cons, List.reverse_cons, List.map_append, List.map_append, List.set_append_right _ _ (by simp [hmv])]
              simp [hmv]
            have hkg : ¬ k = g := fun h => by
              have h1 := (hown2.lt k rfl).1
              have h2 := HGL.out
              omega
            have HW9 : Hid (Wt (wr.setCell ⟨k, mv, none⟩ (.int .i64 y)) w.heap.size (.slice (some ⟨k, 0, none⟩) (mv + 1) cW) (y :: V)) := ⟨by
              have h1 := (World.ownsRow.stored hown2 mv (.int .i64 y)).1
              rw [hset] at h1
              rw [List.length_cons, hmv]
              exact h1, fun z hz => by
                rcases List.mem_cons.1 hz with rfl | hz
                · omega
                · exact HW.out.all z (List.mem_cons_of_mem _ hz)⟩
            have HB9 : Hid (Below w.heap.size w (wr.setCell ⟨k, mv, none⟩ (.int .i64 y))) := HB.out.setCell (p := ⟨k, mv, none⟩) (hown2.lt k rfl).1 (.int .i64 y)
            have n9 : (wr.setCell ⟨k, mv, none⟩ (.int .i64 y)).cell? ⟨g, o + i * 3 + 1, none⟩ = some (.int .i64 kk) := by
              rw [World.cell?_setCell_other]
              · exact n1
              · intro h
                injection h with h1 _
                exact hkg h1
            have HY := Lib.hid hy
            clear hx0 hxr hown2 hset hAx hy hnW hd2 hn4 hmv
            go_wp2_with fail
            go_meet
            case rel => exact ⟨by rw [decW2, HY.out]; exact HW9, HB9, n9⟩
        case rest =>
          obtain ⟨HW1, HB1, n1c⟩ := hcut
          obtain ⟨wa, hwa⟩ : ∃ x, x = wc := ⟨_, rfl⟩
          subst hwa
          obtain ⟨vW, hvW⟩ : ∃ v, Value.slice aW nW cW = v := ⟨_, rfl⟩
          have HO1 : Hid (wa.ownsRow w.heap.size 3 1 vW nW (icells (decW2 W).reverse)) := by
            have h := HW1.out.own
            rw [hd2, hvW] at h
            exact h
          have HAL : Hid (∀ z ∈ decW2 W, 0 ≤ z ∧ z ≤ 9223372036854775807) := HW1.out.all
          clear n1
          rw [hvW]
          go_upto_if 43 with fail
          go_cut [6] from 43 to 51 (fun v6 wx => Hid (Wt wx w.heap.size v6 (incW kk (decW2 W))) ∧ Hid (Below w.heap.size w wx))
          case first =>
            by_cases hk0 : 0 ≤ kk
            · obtain ⟨i0, hi0, hq⟩ := Option.map_eq_some_iff.1 info3
              simp only [Prod.mk.injEq] at hq
              obtain ⟨hz0, hz1, hz2⟩ := hq
              have hmn : nW ≤ 17592186044415 := by omega
              clear hvW hd2 hnW hn4
              go_wp2_with (at_builtin; refine wpList_append_i64 rfl (.tmp 44) (.tmp 50) 98 rfl w.heap.size 3 i0 Tryd.underlying98 hi0 hz0 hz1 hz2 vW nW ((decW2 W).reverse) rfl (HO1.out.alloc _) wa.heap.size 1 kk rfl (by simp) hmn (by have := HB1.out.size; simp; omega) ?_; intro v' w10 hown10 hgrow; have HB10 := Lib.hid (below_own (HB1.out.alloc HB1.out.size (Obj.cells #[.int .i64 kk] 3)) hgrow (by have := HB1.out.size; simp; omega) (HO1.out.alloc _)); have HO10 := Lib.hid hown10; clear hown10 hgrow)
              go_meet
              case rel =>
                refine ⟨?_, HB10⟩
                rw [incW, if_pos hk0]
                refine ⟨?_, fun z hz => ?_⟩
                · have h1 := HO10.out
                  rw [← List.reverse_cons] at h1
                  have hd3 : (decW2 W).length = nW := by have := HO1.out.1; rw [icells_length, List.length_reverse] at this; omega
                  rw [List.length_cons, hd3]
                  exact h1
                · rcases List.mem_cons.1 hz with rfl | hz
                  · exact ⟨hk0, HKK.out.2.2⟩
                  · exact HAL.out z hz
            · clear hnW hn4
              go_wp2_with fail
              go_meet
              case rel => exact ⟨by rw [incW, if_neg (show ¬ 0 ≤ kk by omega)]; rw [hvW] at HW1; exact HW1, HB1⟩
          case rest =>
            obtain ⟨HW2, HB2⟩ := hcut
            obtain ⟨wb, hwb⟩ : ∃ x, x = wc := ⟨_, rfl⟩
            subst hwb
            obtain ⟨W2, hW2⟩ : ∃ W2, incW kk (decW2 W) = W2 := ⟨_, rfl⟩
            rw [hW2] at HW2 HT
            obtain ⟨a2, c2, rfl, ha2⟩ := own_form HW2.out.own
            obtain ⟨n2, hn2⟩ : ∃ n, W2.length = n := ⟨_, rfl⟩
            have hn24 : n2 ≤ i + 1 := by
              have h1 : (incW kk (decW2 W)).length ≤ nW + 1 := by
                rw [incW]
                split
                · rw [List.length_cons, hd2]; exact Nat.le_refl _
                · rw [hd2]; omega
              rw [hW2, hn2] at h1
              have h2 := HWL.out.1
              rw [hnW] at h2
              omega
            have HN2 := Lib.hid (And.intro hn2 hn24)
            rw [hn2]
            obtain ⟨m2, hm2⟩ : ∃ m2, max m n2 = m2 := ⟨_, rfl⟩
            rw [hn2, hm2] at HT
            go_upto_if 55 with fail
            go_cut [7] from 55 to 57 (fun v7 wx => v7 = .int .i64 (m2 : Int) ∧ wx = wb)
            case first =>
              by_cases h1 : m < n2
              · have f1 : (m : Int) < (n2 : Int) := by omega
                have h2 : m2 = n2 := by omega
                clear hn2 hn24 hW2
                go_wp2_with fail
                go_meet
                case rel => exact ⟨by rw [h2], rfl⟩
              · have f1 : ¬ (m : Int) < (n2 : Int) := by omega
                have h2 : m2 = m := by omega
                clear hn2 hn24 hW2
                go_wp2_with fail
                go_meet
                case rel => exact ⟨by rw [h2], rfl⟩
            case rest =>
              obtain ⟨rfl, rfl⟩ := hcut
              have hm2i : m2 ≤ i + 1 := by have := HWL.out.2.1; omega
              have HM2 := Lib.hid hm2i
              clear hm2 hm2i n1c hd2 hnW hn4 hvW
              have HWX := HW2
              obtain ⟨wz, hwz⟩ : ∃ x, x = wc := ⟨_, rfl⟩
              subst hwz
              have hcl : n2 ≤ c2 := by have h1 := own_cap HWX.out.own; rw [hn2] at h1; exact h1
              have HCL := Lib.hid hcl
              have H2 := Lib.hid (And.intro hn2 hn24)
              clear hn2 hn24
              go_wp2_with fail
              go_loop [6] (fun v => ∃ (D V : List Int), v = .slice a2 V.length c2 ∧ W2 = D ++ V ∧ tw V = tw W2) (fun v => sliceLen v)
              case atStart => exact ⟨[], W2, by rw [H2.out.1], rfl, rfl⟩
              case round =>
                obtain ⟨D, V, rfl, hD, hTV⟩ := hrel
                have HD2 := Lib.hid hD
                have HTV := Lib.hid hTV
                clear hD hTV
                cases V with
                | nil =>
                  have h0 : tw W2 = [] := by rw [← HTV.out]; rfl
                  have HF : Hid (R = ((i : Int) + 1, m2)) := by show R = _; rw [← HT.out, if_pos h0]
                  clear h0
                  go_wp2_with fail
                  go_ret2
                  exact ⟨by rw [HF.out]; rfl, HB2.out⟩
                | cons z V =>
                  obtain ⟨mv, hmv⟩ : ∃ m, V.length = m := ⟨_, rfl⟩
                  have hlW : 0 < W2.length := by rw [HD2.out, List.length_append, List.length_cons]; omega
                  obtain ⟨k, rfl⟩ := ha2 (by omega)
                  have hown2 : wz.ownsRow w.heap.size 3 1 (.slice (some ⟨k, 0, none⟩) W2.length c2) W2.length (icells W2.reverse) := HWX.out.own
                  have hAx := At.ofOwn hown2
                  have hx := hAx.cell mv (.int .i64 z) (by
                    rw [HD2.out, icells, List.reverse_append, List.reverse_cons, List.map_append, List.map_append, List.append_assoc, List.getElem?_append_right (by simp [hmv])]
                    simp [hmv])
                  rw [Nat.zero_add] at hx
                  have hlen2 : W2.length = D.length + (mv + 1) := by rw [HD2.out, List.length_append, List.length_cons, hmv]
                  have e4 : IntKind.i64.wrap (mv : Int) = (mv : Int) := wrap_fit mv (by have := H2.out; unfold maxLen; omega)
                  have e5 : (mv : Int) < (mv : Int) + 1 := by omega
                  have e5b : (0 : Int) < (mv : Int) + 1 := by omega
                  have hmc : (mv : Int) ≤ (c2 : Int) := by have h1 := H2.out.1; have h2 := HCL.out; omega
                  by_cases hz : z = 0
                  · subst hz
                    have HM := Lib.hid hmv
                    clear hAx hown2 hlW hlen2 hcl
                    go_wp2_with fail
                    go_round
                    case rel => exact ⟨D ++ [0], V, by rw [HM.out], by rw [HD2.out]; simp, by rw [← HTV.out]; rfl⟩
                    case measure => have h1 := HM.out; simp [sliceLen]; omega
                  · have f1 : (z == 0) = false := by rw [beq_eq_false_iff_ne]; exact hz
                    have hV : tw W2 = z :: V := by rw [← HTV.out]; exact tw_cons hz
                    have HM := Lib.hid (And.intro hmv (And.intro hV hlen2))
                    have HF : Hid (bhd (z :: V) m2 (i + 1) (l.drop (i + 1)) = R) := by
                      show _ = R
                      rw [← HT.out, hV, if_neg (List.cons_ne_nil _ _)]
                    have HW5 : Hid (Wt wz w.heap.size (.slice (some ⟨k, 0, none⟩) (mv + 1) c2) (z :: V)) := by
                      have h1 := Wt.tw HWX.out
                      rw [hV, List.length_cons, hmv] at h1
                      exact h1
                    clear hAx hown2 hlW hlen2 hcl hV
                    go_wp2_with fail
                    go_roundw
                    case rel => exact ⟨i + 1, z :: V, m2, by go_num, rfl, by obtain ⟨j, hj⟩ := HII.out; omega, (by have h := HW5; rw [← HM.out.1] at h; exact h), by rw [← HM.out.2.1]; exact tw_idem W2, HF.out, HB2, by rw [List.length_cons, HM.out.1]; have h1 := HM.out.2.2; have h2 := H2.out; omega, HM2.out⟩
                    case measure => obtain ⟨j, hj⟩ := HII.out; simp [intOf]; omega
    · obtain rfl : i = n := by omega
      have e1 : ¬ (i : Int) < (i : Int) := by omega
      have HF : Hid (R = (-1, m)) := by show R = _; rw [← HT.out, List.drop_eq_nil_of_le (by have := HN.out.2; omega)]; rfl
      clear hin hi
      go_wp2_with fail
      go_ret2
      exact ⟨by rw [HF.out]; rfl, HB.out⟩
end Go.Proofs.YteglahkgnggmgaaDoor
