/- DerOneWay: the walk. -/
import Derived.Test.YteglahkgnggmgaaDoorDwE
import Derived.Test.YteglahkgnggmgaaDoorDsX
namespace Go.Proofs.YteglahkgnggmgaaDoor
open Go.RowKit
set_option linter.unusedVariables false
set_option linter.unusedSimpArgs false
open Dr
/-- what is read is a right list -/
theorem read_ok {S : List UInt8} {d i b ro : Int} {l : List Nd} (h : DecR S d i b ro (.ok l)) : enc l = (S, 0) ∧ l.all nodeOk = true ∧ l.length ≤ 4096 ∧ bods l ≤ 262144 := by
  cases hm : mayOk d i b ro with
  | false => have := h.2 hm; cases this
  | true =>
    have hr := h.1 hm
    have hy := mayOk_yes hm
    obtain ⟨dd, hE, hall, hdd⟩ := Runs.tellOne hr
    have h1 : l.length ≤ i.toNat := Runs.ini hr l rfl (Nat.zero_le _)
    have h2 : S.length ≤ b.toNat := Runs.inb hr l rfl (Nat.zero_le _)
    have h3 := hE.bods hall
    rw [List.flatten_singleton] at h3
    exact ⟨read_enc hm hr, hall, by omega, by omega⟩
theorem Els.kids {d N M o} (h : Els d N M o) : N.all nodeOk = true → ∀ n ∈ N, -1 ≤ n.kids ∧ n.kids ≤ (N.length : Int) := by
  induction h with
  | nil => intro _ n hn; cases hn
  | @leaf x d N M o hx h ih =>
    intro hall n hn
    rw [List.all_cons, Bool.and_eq_true] at hall
    rw [List.length_cons]
    rcases List.mem_cons.1 hn with rfl | hn
    · have h0 := hall.1
      rw [nodeOk, Bool.and_eq_true] at h0
      have h1 : n.kids = -1 := by
        by_cases hw : within n.tag = true
        · rw [if_pos hw, Bool.and_eq_true] at h0
          have : 0 ≤ n.kids := of_decide_eq_true h0.2.1
          omega
        · rw [if_neg hw, Bool.and_eq_true] at h0
          exact of_decide_eq_true h0.2.1
      omega
    · have := ih hall.2 n hn
      omega
  | @node x dK K MK oK d N M o hx hK h ihK ih =>
    intro hall n hn
    rw [List.all_cons, List.all_append, Bool.and_eq_true, Bool.and_eq_true] at hall
    rw [List.length_cons, List.length_append]
    have hlen : ∀ {d N M o}, Els d N M o → M.length ≤ N.length := fun h => by
      induction h with
      | nil => exact Nat.le_refl _
      | leaf _ _ ih => rw [List.length_cons, List.length_cons]; omega
      | node _ _ _ ihK ih => rw [List.length_cons, List.length_cons, List.length_append]; omega
    have h9 := hlen hK
    rcases List.mem_cons.1 hn with rfl | hn
    · omega
    · rcases List.mem_append.1 hn with hn | hn
      · have := ihK hall.2.1 n hn; omega
      · have := ih hall.2.2 n hn; omega
theorem mem_bods : ∀ (l : List Nd) (n : Nd), n ∈ l → n.body.length ≤ bods l
  | [], n, h => by cases h
  | a :: l, n, h => by
    have h1 : bods (a :: l) = a.body.length + bods l := by simp [bods]
    rcases List.mem_cons.1 h with rfl | h
    · omega
    · have := mem_bods l n h; omega
theorem read_kids {S : List UInt8} {d i b ro : Int} {l : List Nd} (h : DecR S d i b ro (.ok l)) : KidsOk l ∧ ∀ n ∈ l, n.body.length ≤ 140737488351232 := by
  have h0 := read_ok h
  refine ⟨fun n hn => ?_, fun n hn => by have := mem_bods l n hn; omega⟩
  cases hm : mayOk d i b ro with
  | false => have := h.2 hm; cases this
  | true =>
    obtain ⟨dd, hE, hall, hdd⟩ := Runs.tellOne (h.1 hm)
    have := hE.kids hall n hn
    omega
set_option maxRecDepth 100000 in
set_option maxHeartbeats 1600000 in
theorem derOneWay_walk (s : ByteArray) (d i b ro : Int) (hz : s.size ≤ 140737488351232) (w : World) (hU : UT w.heap.size w) :
    Calls Tryd.prog 6 #[.string s, .agg #[.int .i64 d, .int .i64 i, .int .i64 b, .int .i64 ro]] w (RetT w) := by
  have HU := Lib.hid hU
  have WK := Lib.hid (fun w hU => wakes15_any w hU)
  have D1 := Lib.hid (fun w hU => decode_any s d i b ro w hz hU)
  have EN := Lib.hid (fun l v w' hS hK hb hx hU => encode_any l v w' hS hK hb hx hU)
  have HB0 : Hid (Below w.heap.size w (w.alloc (Obj.cells #[.int .i64 d, .int .i64 i, .int .i64 b, .int .i64 ro] 23))) := (Below.refl _ _).alloc (Nat.le_refl _) _
  have HL0 := Lib.hid (Lm4.ofAlloc w d i b ro)
  obtain ⟨B, hB⟩ : ∃ B, w.heap.size = B := ⟨_, rfl⟩
  rw [hB] at HL0
  have HBB := Lib.hid hB
  clear hU hz
  go_enter Tryd.func6, Tryd.ntmps6
  go_wp2_with fail
  try rw [hB]
  clear hB
  obtain ⟨w0, hw0⟩ : ∃ x, w.alloc (Obj.cells #[.int .i64 d, .int .i64 i, .int .i64 b, .int .i64 ro] 23) = x := ⟨_, rfl⟩
  rw [hw0] at HL0 HB0
  rw [hw0]
  clear hw0
  refine (WK.out _ (HU.out.at HB0.out)).mono ?_
  rintro e w1 ⟨rfl, hb1⟩
  have HB1 : Hid (Below w.heap.size w w1) := HB0.out.trans (hb1.mono HB0.out.size)
  have HL1 := Lib.hid (HL0.out.below hb1)
  clear hb1
  have l0 := HL1.out.at0.cell 0 _ rfl
  have l1 := HL1.out.at0.cell 1 _ rfl
  have l2 := HL1.out.at0.cell 2 _ rfl
  have l3 := HL1.out.at0.cell 3 _ rfl
  rw [Nat.zero_add] at l0 l1 l2 l3
  go_wp2_with fail
  refine (D1.out _ (HU.out.at HB1.out)).mono ?_
  rintro e w2 ⟨r, hr, v, rfl, ho, hb2⟩
  have HB2 : Hid (Below w.heap.size w w2) := HB1.out.trans (hb2.mono HB1.out.size)
  have HS2 := Lib.hid (Sl.ofOwn ho)
  obtain ⟨a, c, rfl, ha⟩ := own_form ho
  clear ha hb2 ho l0 l1 l2 l3
  cases r with
  | no c0 q b0 =>
    have hc : ¬ c0 = 0 := by
      cases hm : mayOk d i b ro with
      | false => have h9 := hr.2 hm; cases h9; decide
      | true => exact Runs.ne (hr.1 hm) _ _ _ rfl
    rw [show decE (.no c0 q b0) = c0 from rfl, show decL (.no c0 q b0) = [] from rfl]
    clear hr
    go_wp2_with fail
    go_ret
    exact ⟨rfl, HB2.out⟩
  | ok l =>
    rw [show decE (.ok l) = 0 from rfl]
    have HE := Lib.hid (And.intro (read_ok hr) (read_kids hr))
    clear hr
    have E2 := Lib.hid (EN.out l _ w2 HS2.out HE.out.2.1 HE.out.2.2 (by have := HE.out.1.2.2.1; omega) (HU.out.at HB2.out))
    rw [HE.out.1.1] at E2
    have HX : Hid (∀ e w3, RetEnc (s.toList, 0) w2 e w3 → e = .returned (.tuple #[.string s, .int .i64 0]) ∧ Hid (Below w.heap.size w w3)) := by
      rintro e w3 ⟨u, he, hu, hb⟩
      have : u = s := tl_inj hu
      subst this
      exact ⟨he, HB2.out.trans (hb.mono HB2.out.size)⟩
    rw [show decL (.ok l) = l from rfl] at *
    go_wp2_with (first | (go_at_call 17; refine E2.out.mono ?_; intro e w3 h9; obtain ⟨rfl, HB3⟩ := HX.out e w3 h9))
    go_ret
    exact ⟨rfl, HB3.out⟩
end Go.Proofs.YteglahkgnggmgaaDoor
