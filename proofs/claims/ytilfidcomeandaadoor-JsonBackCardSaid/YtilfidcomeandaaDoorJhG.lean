/- JsonBack: the walk. -/
import Derived.Test.YtilfidcomeandaaDoorJhF
import Derived.Test.YtilfidcomeandaaDoorJbD
namespace Go.Proofs.YtilfidcomeandaaDoor
open Go.RowKit
set_option linter.unusedVariables false
set_option linter.unusedSimpArgs false
namespace Jg
open Js Je
open Jd (decL decP decE RetDec DecR)
open Dr (Rs Lm has lack)
theorem enc_no {l : List Vl} (h : (enc Lib.validD l).2 ≠ 0) : (enc Lib.validD l).1 = [] := by
  rw [enc] at h ⊢
  split at h
  · rename_i h1; rw [if_pos h1]
  · rename_i h1
    rw [if_neg h1]
    cases hr : run Lib.validD te0 l with
    | none => rfl
    | some t =>
      rw [hr] at h
      simp only at h ⊢
      split at h
      · rename_i h2
        rw [if_pos h2]
        split at h
        · rename_i h3; rw [if_pos h3]
        · exact absurd rfl h
      · rename_i h2; rw [if_neg h2]
theorem tl_inj' {s t : ByteArray} (h : s.toList = t.toList) : s = t := by
  rw [Lib.toList_data, Lib.toList_data] at h
  obtain ⟨⟨s⟩⟩ := s
  obtain ⟨⟨t⟩⟩ := t
  cases h; rfl
set_option maxRecDepth 100000 in
set_option maxHeartbeats 1600000 in
theorem jsonBack_walk (l : List Vl) (v : Value) (w : World) (hS : SvO w v l) (hK : ∀ n ∈ l, n.kids ≤ 9223372036854775807) (hbo : ∀ n ∈ l, n.text.length ≤ 140737488351232) (hn : l.length * 32 ≤ 140737488351232) (hU : UT w.heap.size w) :
    Calls Tryd.prog 5 #[v] w (RetT w) := by
  have HU := Lib.hid hU
  have WK := Lib.hid (fun w hU => wakes16_any w hU)
  have MO := Lib.hid (fun w' => most_any w')
  have CP := Lib.hid (fun v' w' hS' => jcopied_anyO l v' w' hS' (by omega))
  have EN := Lib.hid (fun v' w' hS' hU' => jencode_any l v' w' hS' (fun x hx => ⟨hbo x hx, hK x hx⟩) hU' (by omega))
  have HS := Lib.hid hS
  obtain ⟨E, hE⟩ : ∃ E, enc Lib.validD l = E := ⟨_, rfl⟩
  have HE := Lib.hid hE
  rw [hE] at EN
  obtain ⟨S, c⟩ := E
  obtain ⟨a0, cap0, rfl, -⟩ := hS
  obtain ⟨n0, hn0⟩ : ∃ n, l.length = n := ⟨_, rfl⟩
  rw [hn0] at HS
  rw [hn0]
  have HN := Lib.hid hn0
  clear hU hE hn0
  go_enter Tryd.func5, Tryd.ntmps5
  go_wp2_with fail
  refine (WK.out _ HU.out).mono ?_
  rintro e w1 ⟨rfl, hb1⟩
  have HB1 : Hid (Below w.heap.size w w1) := hb1
  have HS1 := Lib.hid (HS.out.below hb1)
  clear hb1
  go_wp2_with fail
  refine (CP.out _ _ HS1.out).mono ?_
  rintro e w2 ⟨v2, rfl, ho2, hb2⟩
  have HB2 : Hid (Below w.heap.size w w2) := HB1.out.trans (hb2.mono HB1.out.size)
  have HS2 := Lib.hid (HS1.out.below hb2)
  have HC2 := Lib.hid (SvE.ofOwn ho2)
  clear hb2 ho2
  go_wp2_with fail
  refine (EN.out _ _ HC2.out (HU.out.at HB2.out)).mono ?_
  rintro e w3 ⟨rfl, hb3⟩
  obtain ⟨t, ht0⟩ : ∃ t : ByteArray, (⟨S.toArray⟩ : ByteArray) = t := ⟨_, rfl⟩
  rw [show ((S, c) : List UInt8 × Int).1 = S from rfl, show ((S, c) : List UInt8 × Int).2 = c from rfl, ht0]
  have ht : t.toList = S := by rw [← ht0, Lib.toList_data]
  clear ht0
  have HB3 : Hid (Below w.heap.size w w3) := HB2.out.trans (hb3.mono HB2.out.size)
  have HS3 := Lib.hid (HS2.out.below hb3)
  have HT := Lib.hid ht
  clear hb3 ht
  by_cases hc : c = 0
  · subst hc
    obtain ⟨hl1, hts0, hr⟩ := Jb.back HE.out
    have hts : t.size ≤ 140737488351232 := by
      rw [← tl_size, HT.out]
      exact Nat.le_trans hts0 (by decide)
    have hr2 : ∃ tt k, RunsT t.toList (limL 32 4096 262144) st0 0 (.ok l) tt k := by rw [HT.out]; exact hr
    have D1 := Lib.hid (fun w' => Jd.decode_any t 32 4096 262144 4096 w' hts)
    have SA := Lib.hid (fun v' u' w' h1 h2 => vsame_o l v' u' w' h1 h2 (by omega))
    have HR := Lib.hid hr2
    clear hts hr hr2 hts0 hl1
    go_wp2_with fail
    refine (MO.out _).mono ?_
    rintro e w4 ⟨rfl, hb4⟩
    have HB4 : Hid (Below w.heap.size w w4) := HB3.out.trans (hb4.mono HB3.out.size)
    have HS4 := Lib.hid (HS3.out.below hb4)
    clear hb4
    go_wp2_with fail
    refine (D1.out _).mono ?_
    rintro e w5 ⟨r, hr, v5, rfl, ho5, hb5⟩
    have HB5 : Hid (Below w.heap.size w w5) := HB4.out.trans (hb5.mono HB4.out.size)
    have HS5 := Lib.hid (HS4.out.below hb5)
    obtain ⟨tt, kk, h8⟩ := HR.out
    obtain ⟨tt2, kk2, h7⟩ := hr.1 (by decide)
    obtain ⟨rfl, -, -⟩ := RunsT.same _ _ h8 h7
    have HV5 : Hid (SvE w5 v5 l) := SvE.ofOwn ho5
    rw [show decE (.ok l) = 0 from rfl, show ((decP (.ok l) : Nat) : Int) = 0 from rfl]
    clear h8 h7
    have SB := Lib.hid (SA.out _ _ _ HS5.out HV5.out)
    clear hb5 ho5 hr
    go_wp2_with (first | (go_at_call 12; refine SB.out.mono ?_; rintro e w6 ⟨rfl, hb6⟩; have HB6 : Hid (Below w.heap.size w w6) := HB5.out.trans (hb6.mono HB5.out.size)))
    go_ret
    exact ⟨rfl, HB6.out⟩
  · have h1 := enc_no (l := l) (by rw [HE.out]; exact hc)
    rw [HE.out] at h1
    have h2 : S = [] := h1
    subst h2
    have h3 : t = ByteArray.empty := tl_inj' (by rw [HT.out, show ByteArray.empty.toList = [] from by rw [Lib.toList_data]; rfl])
    subst h3
    clear h1
    go_wp2_with fail
    go_ret
    exact ⟨rfl, HB3.out⟩
end Jg
end Go.Proofs.YtilfidcomeandaaDoor
