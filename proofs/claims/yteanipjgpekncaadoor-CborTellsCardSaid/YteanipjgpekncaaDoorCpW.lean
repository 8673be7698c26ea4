/- CborOneWay: the walk. -/
import Derived.Test.YteanipjgpekncaaDoorCpU
namespace Go.Proofs.YteanipjgpekncaaDoor
open Go.RowKit
set_option linter.unusedVariables false
set_option linter.unusedSimpArgs false
namespace Co
open Dr (Rs Lm has lack at0S)
theorem Its.text_le {txt : List UInt8 → Bool} {d N M o} (h : Its d N M o) : (∀ a ∈ N, okA txt a) → ∀ a ∈ N, a.text.length ≤ M.flatten.length := by
  induction h with
  | nil => intro _ a ha; cases ha
  | @leaf x d N M o hx h ih =>
    intro hall a ha
    rw [List.flatten_cons, List.length_append]
    rcases List.mem_cons.1 ha with rfl | ha
    · have h1 : a.text.length ≤ (tell a).length := by
        rw [tell]
        split
        · rw [List.length_append]; omega
        · rename_i h2
          have h3 := (hall a (List.mem_cons_self ..)).2.2
          have h4 : a.text = [] := by
            rcases h3 with ⟨-, h⟩ | ⟨h, -⟩ | ⟨h, -⟩ | ⟨-, h, -⟩
            · exact h
            · exact absurd (.inl h) h2
            · exact absurd (.inr h) h2
            · exact h
          rw [h4]
          exact Nat.zero_le _
      omega
    · have h1 := ih (fun y hy => hall y (List.mem_cons_of_mem _ hy)) a ha
      omega
  | @node x dK K MK oK d N M o hx hm hK h ihK ih =>
    intro hall a ha
    rw [List.flatten_cons, List.length_append, List.length_append]
    rcases List.mem_cons.1 ha with rfl | ha
    · have h3 := (hall a (List.mem_cons_self ..)).2.2
      have h2 := holds_not hx
      have h4 : a.text = [] := by
        rcases h3 with ⟨-, h⟩ | ⟨h, -⟩ | ⟨h, -⟩ | ⟨-, h, -⟩
        · exact h
        · exact absurd (.inl h) h2
        · exact absurd (.inr h) h2
        · exact h
      rw [h4]
      exact Nat.zero_le _
    · rcases List.mem_append.1 ha with ha | ha
      · have h1 := ihK (fun y hy => hall y (List.mem_cons_of_mem _ (List.mem_append_left _ hy))) a ha
        omega
      · have h1 := ih (fun y hy => hall y (List.mem_cons_of_mem _ (List.mem_append_right _ hy))) a ha
        omega
/-- what is read is a right list, told by the bytes that it was -/
theorem read_ok {S : List UInt8} {d i b ro : Int} {l : List Am} (h : DecR S d i b ro (.ok l)) : enc Lib.validD (l.map up) = (S, 0) ∧ (∀ a ∈ l.map up, a.num < 18446744073709551616) ∧ (∀ a ∈ l.map up, a.text.length ≤ 140737488351232) ∧ l.length ≤ 4096 := by
  cases hm : mayOk d i b ro with
  | false => have := h.2 hm; cases this
  | true =>
    have hr := h.1 hm
    have hy := mayOk_yes hm
    obtain ⟨dd, hE, hall, hdd⟩ := Runs.tellOne hr
    have hdd : dd ≤ d.toNat := hdd
    have h1 : l.length ≤ i.toNat := Runs.ini hr l rfl (Nat.zero_le _)
    have h2 : S.length ≤ b.toNat := Runs.inb hr l rfl (Nat.zero_le _)
    have h3 := enc_tree hE hall (by omega)
    rw [if_neg (by omega), if_neg (by decide)] at h3
    refine ⟨h3, fun a ha => ?_, fun a ha => ?_, by omega⟩
    · obtain ⟨x, hx, rfl⟩ := List.mem_map.1 ha
      exact (hall x hx).1
    · obtain ⟨x, hx, rfl⟩ := List.mem_map.1 ha
      have h4 := hE.text_le hall x hx
      rw [List.flatten_singleton] at h4
      show x.text.length ≤ _
      omega
set_option maxRecDepth 100000 in
set_option maxHeartbeats 1600000 in
theorem cborOneWay_walk (s : ByteArray) (d i b ro : Int) (hz : s.size ≤ 140737488351232) (w : World) (hU : UT w.heap.size w) :
    Calls Tryd.prog 6 #[.string s, .agg #[.int .i64 d, .int .i64 i, .int .i64 b, .int .i64 ro]] w (RetT w) := by
  have HU := Lib.hid hU
  have WK := Lib.hid (fun w hU => wakes17_any w hU)
  have D1 := Lib.hid (fun w hU => decode_any s d i b ro w hz hU)
  have EN := Lib.hid (fun l v w' hS hN hb hx hU => cencode_any l v w' hS hN hb hx hU)
  have HB0 : Hid (Below w.heap.size w (w.alloc (Obj.cells #[.int .i64 d, .int .i64 i, .int .i64 b, .int .i64 ro] 23))) := (Below.refl _ _).alloc (Nat.le_refl _) _
  have HL0 := Lib.hid (Lm4.ofAlloc w d i b ro)
  obtain ⟨B, hB⟩ : ∃ B, w.heap.size = B := ⟨_, rfl⟩
  rw [hB] at HL0
  have HBB := Lib.hid hB
  clear hU hz
  go_enter Tryd.func6, Tryd.ntmps6
  go_wp2_with fail
  try rw [hB]
  clear hB
  obtain ⟨w0, hw0⟩ : ∃ x, w.alloc (Obj.cells #[.int .i64 d, .int .i64 i, .int .i64 b, .int .i64 ro] 23) = x := ⟨_, rfl⟩
  rw [hw0] at HL0 HB0
  rw [hw0]
  clear hw0
  refine (WK.out _ (HU.out.at HB0.out)).mono ?_
  rintro e w1 ⟨rfl, hb1⟩
  have HB1 : Hid (Below w.heap.size w w1) := HB0.out.trans (hb1.mono HB0.out.size)
  have HL1 := Lib.hid (HL0.out.below hb1)
  clear hb1
  have l0 := HL1.out.at0.cell 0 _ rfl
  have l1 := HL1.out.at0.cell 1 _ rfl
  have l2 := HL1.out.at0.cell 2 _ rfl
  have l3 := HL1.out.at0.cell 3 _ rfl
  rw [Nat.zero_add] at l0 l1 l2 l3
  go_wp2_with fail
  refine (D1.out _ (HU.out.at HB1.out)).mono ?_
  rintro e w2 ⟨r, hr, v, rfl, ho, hb2⟩
  have HB2 : Hid (Below w.heap.size w w2) := HB1.out.trans (hb2.mono HB1.out.size)
  have HS2 := Lib.hid (Sr.ofOwnA ho)
  obtain ⟨a, c, rfl, ha⟩ := own_form ho
  clear ha hb2 ho l0 l1 l2 l3
  cases r with
  | no c0 q b0 =>
    have hc : ¬ c0 = 0 := by
      cases hm : mayOk d i b ro with
      | false => have h9 := hr.2 hm; cases h9; decide
      | true => exact Runs.ne (hr.1 hm) _ _ _ rfl
    rw [show decE (.no c0 q b0) = c0 from rfl, show decL (.no c0 q b0) = [] from rfl]
    clear hr
    go_wp2_with fail
    go_ret
    exact ⟨rfl, HB2.out⟩
  | ok l =>
    rw [show decE (.ok l) = 0 from rfl]
    have HE := Lib.hid (read_ok hr)
    clear hr
    have E2 := Lib.hid (EN.out (l.map up) _ w2 HS2.out HE.out.2.1 HE.out.2.2.1 (by rw [List.length_map]; have := HE.out.2.2.2; omega) (HU.out.at HB2.out))
    rw [HE.out.1] at E2
    have HX : Hid (∀ e w3, RetEnc (s.toList, 0) w2 e w3 → e = .returned (.tuple #[.string s, .int .i64 0]) ∧ Hid (Below w.heap.size w w3)) := by
      rintro e w3 ⟨u, he, hu, hb⟩
      have : u = s := tl_inj hu
      subst this
      exact ⟨he, HB2.out.trans (hb.mono HB2.out.size)⟩
    rw [show decL (.ok l) = l from rfl] at *
    go_wp2_with (first | (go_at_call 18; refine E2.out.mono ?_; intro e w3 h9; obtain ⟨rfl, HB3⟩ := HX.out e w3 h9))
    go_ret
    exact ⟨rfl, HB3.out⟩
end Co
end Go.Proofs.YteanipjgpekncaaDoor
