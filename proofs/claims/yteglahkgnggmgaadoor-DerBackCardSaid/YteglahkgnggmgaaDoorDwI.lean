/- DerBack: the walk. -/
import Derived.Test.YteglahkgnggmgaaDoorDwG
namespace Go.Proofs.YteglahkgnggmgaaDoor
open Go.RowKit
set_option linter.unusedVariables false
set_option linter.unusedSimpArgs false
open Dr
theorem enc_size {l : List Nd} : (enc l).1.length ≤ 262144 := by
  rw [enc]
  repeat' split
  all_goals first | exact Nat.zero_le _ | (show ((jnS l).1.getD 0 []).length ≤ 262144; omega)
theorem enc_no {l : List Nd} (h : (enc l).2 ≠ 0) : (enc l).1 = [] := by
  by_cases h1 : 4096 < l.length
  · rw [enc, if_pos h1]
  by_cases h2 : (shp [1] 0 l).2 = false
  · rw [enc, if_neg h1, if_pos h2]
  by_cases h3 : l.all nodeOk = false
  · rw [enc, if_neg h1, if_neg h2, if_pos h3]
  by_cases h4 : 32 < (shp [1] 0 l).1 ∨ 262144 < bods l
  · rw [enc, if_neg h1, if_neg h2, if_neg h3, if_pos h4]
  by_cases h5 : 262144 < ((jnS l).1.getD 0 []).length
  · rw [enc, if_neg h1, if_neg h2, if_neg h3, if_neg h4, if_pos h5]
  by_cases h6 : (jnS l).2 = false
  · rw [enc, if_neg h1, if_neg h2, if_neg h3, if_neg h4, if_neg h5, if_pos h6]
  · rw [enc, if_neg h1, if_neg h2, if_neg h3, if_neg h4, if_neg h5, if_neg h6] at h
    exact absurd rfl h
theorem KidsOk.enc_len {l : List Nd} (h : (enc l).2 = 0) : l.length ≤ 4096 := by
  rw [enc] at h
  split at h
  · cases h
  · omega
set_option maxRecDepth 100000 in
set_option maxHeartbeats 1600000 in
theorem derBack_walk (l : List Nd) (v : Value) (w : World) (hS : SlO w v l) (hK : KidsOk l) (hbo : ∀ n ∈ l, n.body.length ≤ 140737488351232) (hn : l.length * 32 ≤ 140737488351232) (hU : UT w.heap.size w) :
    Calls Tryd.prog 5 #[v] w (RetT w) := by
  have HU := Lib.hid hU
  have WK := Lib.hid (fun w hU => wakes15_any w hU)
  have MO := Lib.hid (fun w' => most_any w')
  have CP := Lib.hid (fun v' w' hS' => copied_anyO l v' w' hS' (by omega))
  have EN := Lib.hid (fun v' w' hS' hU' => encode_any l v' w' hS' hK hbo (by omega) hU')
  have HS := Lib.hid hS
  obtain ⟨E, hE⟩ : ∃ E, enc l = E := ⟨_, rfl⟩
  have HE := Lib.hid hE
  rw [hE] at EN
  obtain ⟨S, c⟩ := E
  obtain ⟨a0, cap0, rfl, -⟩ := hS
  obtain ⟨n0, hn0⟩ : ∃ n, l.length = n := ⟨_, rfl⟩
  rw [hn0] at HS
  rw [hn0]
  have HN := Lib.hid hn0
  clear hU hK hbo hn hE hn0
  go_enter Tryd.func5, Tryd.ntmps5
  go_wp2_with fail
  refine (WK.out _ HU.out).mono ?_
  rintro e w1 ⟨rfl, hb1⟩
  have HB1 : Hid (Below w.heap.size w w1) := hb1
  have HS1 := Lib.hid (HS.out.below hb1)
  clear hb1
  go_wp2_with fail
  refine (CP.out _ _ HS1.out).mono ?_
  rintro e w2 ⟨v2, rfl, ho2, hb2⟩
  have HB2 : Hid (Below w.heap.size w w2) := HB1.out.trans (hb2.mono HB1.out.size)
  have HS2 := Lib.hid (HS1.out.below hb2)
  have HC2 := Lib.hid (Sl.ofOwn ho2)
  clear hb2 ho2
  go_wp2_with fail
  refine (EN.out _ _ HC2.out (HU.out.at HB2.out)).mono ?_
  rintro e w3 ⟨t, rfl, ht, hb3⟩
  have HB3 : Hid (Below w.heap.size w w3) := HB2.out.trans (hb3.mono HB2.out.size)
  have HS3 := Lib.hid (HS2.out.below hb3)
  have HT := Lib.hid ht
  clear hb3 ht
  by_cases hc : c = 0
  · subst hc
    have hl4 : l.length ≤ 4096 := KidsOk.enc_len (by rw [HE.out])
    have hts : t.size ≤ 140737488351232 := by
      have h1 := enc_size (l := l)
      rw [HE.out] at h1
      rw [← tl_size, HT.out]
      exact Nat.le_trans h1 (by decide)
    have hr := enc_read HE.out
    have hr2 : RunsD t.toList (limL 32 4096 262144) (.el [] [] 0) (.ok l) := by rw [HT.out]; exact hr
    have D1 := Lib.hid (fun w' hU' => decode_any t 32 4096 262144 4096 w' hts hU')
    have SA := Lib.hid (fun v' u' w' h1 h2 => dsame_anyO l l v' u' w' h1 h2 (by omega) (by omega))
    rw [decide_eq_true rfl] at SA
    have HR := Lib.hid hr2
    clear hl4 hts hr hr2
    go_wp2_with fail
    refine (MO.out _).mono ?_
    rintro e w4 ⟨rfl, hb4⟩
    have HB4 : Hid (Below w.heap.size w w4) := HB3.out.trans (hb4.mono HB3.out.size)
    have HS4 := Lib.hid (HS3.out.below hb4)
    clear hb4
    go_wp2_with fail
    refine (D1.out _ (HU.out.at HB4.out)).mono ?_
    rintro e w5 ⟨r, hr, v5, rfl, ho5, hb5⟩
    have HB5 : Hid (Below w.heap.size w w5) := HB4.out.trans (hb5.mono HB4.out.size)
    have HS5 := Lib.hid (HS4.out.below hb5)
    have h9 := Runs.same _ _ _ _ HR.out (hr.1 (by kernel_rfl))
    subst h9
    have HV5 := Lib.hid (Sl.ofOwn ho5)
    rw [show decL (.ok l) = l from rfl] at HV5
    rw [show decE (.ok l) = 0 from rfl, show ((decP (.ok l) : Nat) : Int) = 0 from rfl]
    have SB := Lib.hid (SA.out _ _ _ HS5.out HV5.out)
    clear hb5 ho5 hr
    go_wp2_with (first | (go_at_call 16; refine SB.out.mono ?_; rintro e w6 ⟨rfl, hb6⟩; have HB6 : Hid (Below w.heap.size w w6) := HB5.out.trans (hb6.mono HB5.out.size)))
    go_ret
    exact ⟨rfl, HB6.out⟩
  · have h1 := enc_no (l := l) (by rw [HE.out]; exact hc)
    rw [HE.out] at h1
    have h2 : S = [] := h1
    subst h2
    have h3 : t = ByteArray.empty := tl_inj (by rw [HT.out, tl_empty])
    subst h3
    clear h1
    go_wp2_with fail
    go_ret
    exact ⟨rfl, HB3.out⟩
end Go.Proofs.YteglahkgnggmgaaDoor
