/- CborBack: the walk. -/
import Derived.Test.YteanipjgpekncaaDoorCpX
namespace Go.Proofs.YteanipjgpekncaaDoor
open Go.RowKit
set_option linter.unusedVariables false
set_option linter.unusedSimpArgs false
namespace Co
open Dr (Rs Lm has lack at0S)
theorem go_no {txt : List UInt8 → Bool} {b : Bool} : ∀ (l : List Ra) (t : Tl), (go txt b l t).2 ≠ 0 → (go txt b l t).1 = []
  | [], t, h => by
    rw [go, fins] at h ⊢
    by_cases h1 : t.done = false
    · rw [if_pos h1]
    · rw [if_neg h1] at h ⊢
      by_cases h2 : 32 < t.deep ∨ 262144 < t.out.length
      · rw [if_pos h2]
      · rw [if_neg h2] at h ⊢
        by_cases h3 : t.ord = false
        · rw [if_pos h3]
        · rw [if_neg h3] at h
          exact absurd rfl h
  | a :: r, t, h => by
    rw [go] at h ⊢
    split
    · rfl
    · rename_i h1
      rw [if_neg h1] at h
      exact go_no r _ h
theorem enc_no {txt : List UInt8 → Bool} {l : List Ra} (h : (enc txt l).2 ≠ 0) : (enc txt l).1 = [] := by
  rw [enc] at h ⊢
  split
  · rfl
  · rename_i h1
    rw [if_neg h1] at h
    exact go_no l ini h
/-- what is told is read to the list that it was -/
theorem enc_read {l : List Ra} (hn : ∀ a ∈ l, a.num < 18446744073709551616) (hx : ∀ a ∈ l, a.text.length ≤ 140737488351232) {S : List UInt8} (h : enc Lib.validD l = (S, 0)) :
    ∃ N, l = N.map up ∧ RunsC S (limL 32 4096 262144) (.el [] [] 0) (.ok N) ∧ S.length ≤ 262144 := by
  have h1 := h
  rw [enc_eq] at h1
  by_cases h4 : 4096 < l.length
  · rw [if_pos h4] at h1; cases h1
  rw [if_neg h4] at h1
  obtain ⟨d, N, B, o, rfl, hI, hall⟩ := enc_inv (txt := Lib.validD) (l := l) (fun a ha => ⟨hn a ha, by have := hx a ha; omega⟩) (by rw [h1]; intro h9; cases h9)
  rw [List.length_map] at h4
  have h2 := enc_tree hI hall (by omega)
  rw [h] at h2
  by_cases h5 : 32 < d ∨ 262144 < B.length
  · rw [if_pos h5] at h2; cases h2
  rw [if_neg h5] at h2
  cases o with
  | false => cases h2
  | true =>
    rw [if_neg (by decide)] at h2
    cases h2
    refine ⟨N, rfl, ?_, by omega⟩
    exact hI.readOne (L := limL 32 4096 262144) (by show S.length ≤ 262144; omega) hall (by show N.length ≤ 4096; omega) (by show d ≤ 32; omega)
set_option maxRecDepth 100000 in
set_option maxHeartbeats 1600000 in
theorem cborBack_walk (l : List Ra) (v : Value) (w : World) (hS : SrO w v l) (hK : ∀ n ∈ l, n.num < 18446744073709551616) (hbo : ∀ n ∈ l, n.text.length ≤ 140737488351232) (hn : l.length * 32 ≤ 140737488351232) (hU : UT w.heap.size w) :
    Calls Tryd.prog 5 #[v] w (RetT w) := by
  have HU := Lib.hid hU
  have WK := Lib.hid (fun w hU => wakes17_any w hU)
  have MO := Lib.hid (fun w' => most_any w')
  have CP := Lib.hid (fun v' w' hS' => copied_anyO l v' w' hS' (by omega))
  have EN := Lib.hid (fun v' w' hS' hU' => cencode_any l v' w' hS' hK hbo (by omega) hU')
  have HS := Lib.hid hS
  obtain ⟨E, hE⟩ : ∃ E, enc Lib.validD l = E := ⟨_, rfl⟩
  have HE := Lib.hid hE
  rw [hE] at EN
  obtain ⟨S, c⟩ := E
  obtain ⟨a0, cap0, rfl, -⟩ := hS
  obtain ⟨n0, hn0⟩ : ∃ n, l.length = n := ⟨_, rfl⟩
  rw [hn0] at HS
  rw [hn0]
  have HN := Lib.hid hn0
  clear hU hE hn0
  go_enter Tryd.func5, Tryd.ntmps5
  go_wp2_with fail
  refine (WK.out _ HU.out).mono ?_
  rintro e w1 ⟨rfl, hb1⟩
  have HB1 : Hid (Below w.heap.size w w1) := hb1
  have HS1 := Lib.hid (HS.out.below hb1)
  clear hb1
  go_wp2_with fail
  refine (CP.out _ _ HS1.out).mono ?_
  rintro e w2 ⟨v2, rfl, ho2, hb2⟩
  have HB2 : Hid (Below w.heap.size w w2) := HB1.out.trans (hb2.mono HB1.out.size)
  have HS2 := Lib.hid (HS1.out.below hb2)
  have HC2 := Lib.hid (Sr.ofOwn ho2)
  clear hb2 ho2
  go_wp2_with fail
  refine (EN.out _ _ HC2.out (HU.out.at HB2.out)).mono ?_
  rintro e w3 ⟨t, rfl, ht, hb3⟩
  have HB3 : Hid (Below w.heap.size w w3) := HB2.out.trans (hb3.mono HB2.out.size)
  have HS3 := Lib.hid (HS2.out.below hb3)
  have HT := Lib.hid ht
  clear hb3 ht
  by_cases hc : c = 0
  · subst hc
    obtain ⟨N, hN, hr, hts0⟩ := enc_read hK hbo HE.out
    have hts : t.size ≤ 140737488351232 := by
      rw [← tl_size, HT.out]
      exact Nat.le_trans hts0 (by decide)
    have hr2 : RunsC t.toList (limL 32 4096 262144) (.el [] [] 0) (.ok N) := by rw [HT.out]; exact hr
    have HNN := Lib.hid hN
    have D1 := Lib.hid (fun w' hU' => decode_any t 32 4096 262144 4096 w' hts hU')
    have SA := Lib.hid (fun v' u' w' h1 h2 => csame_anyO l l v' u' w' h1 h2 (by omega) (by omega))
    rw [decide_eq_true rfl] at SA
    have HR := Lib.hid hr2
    clear hts hr hr2 hts0 hN
    go_wp2_with fail
    refine (MO.out _).mono ?_
    rintro e w4 ⟨rfl, hb4⟩
    have HB4 : Hid (Below w.heap.size w w4) := HB3.out.trans (hb4.mono HB3.out.size)
    have HS4 := Lib.hid (HS3.out.below hb4)
    clear hb4
    go_wp2_with fail
    refine (D1.out _ (HU.out.at HB4.out)).mono ?_
    rintro e w5 ⟨r, hr, v5, rfl, ho5, hb5⟩
    have HB5 : Hid (Below w.heap.size w w5) := HB4.out.trans (hb5.mono HB4.out.size)
    have HS5 := Lib.hid (HS4.out.below hb5)
    have h9 := Runs.same _ _ _ _ HR.out (hr.1 (by kernel_rfl))
    subst h9
    have HV5 : Hid (Sr w5 v5 l) := by rw [HNN.out]; exact Sr.ofOwnA ho5
    rw [show decE (.ok N) = 0 from rfl, show ((decP (.ok N) : Nat) : Int) = 0 from rfl]
    have SB := Lib.hid (SA.out _ _ _ HS5.out HV5.out)
    clear hb5 ho5 hr
    go_wp2_with (first | (go_at_call 17; refine SB.out.mono ?_; rintro e w6 ⟨rfl, hb6⟩; have HB6 : Hid (Below w.heap.size w w6) := HB5.out.trans (hb6.mono HB5.out.size)))
    go_ret
    exact ⟨rfl, HB6.out⟩
  · have h1 := enc_no (l := l) (by rw [HE.out]; exact hc)
    rw [HE.out] at h1
    have h2 : S = [] := h1
    subst h2
    have h3 : t = ByteArray.empty := tl_inj (by rw [HT.out, show ByteArray.empty.toList = [] by rw [Lib.toList_data]; rfl])
    subst h3
    clear h1
    go_wp2_with fail
    go_ret
    exact ⟨rfl, HB3.out⟩
end Co
end Go.Proofs.YteanipjgpekncaaDoor
