/- JsonTells: the walk. -/
import Derived.Test.YtpaikjlcachabaaDoorJhF
import Derived.Test.YtpaikjlcachabaaDoorJqW
namespace Go.Proofs.YtpaikjlcachabaaDoor
open Go.RowKit
set_option linter.unusedVariables false
set_option linter.unusedSimpArgs false
namespace Jg
open Js Je Jq
theorem encR_code {l : List Vl} {R : List UInt8 × Int} (h : EncR l R) : R.2 = 0 ∨ R.2 = 9 ∨ R.2 = 10 := by
  cases h with
  | long _ => exact .inr (.inr rfl)
  | wrong _ _ _ => exact .inr (.inl rfl)
  | notree _ _ _ => exact .inr (.inl rfl)
  | tree _ _ _ =>
    rw [treeR]
    split
    · exact .inr (.inl rfl)
    · split
      · exact .inr (.inr rfl)
      · exact .inl rfl
set_option maxRecDepth 100000 in
set_option maxHeartbeats 1600000 in
theorem jsonTells_walk (l : List Vl) (v : Value) (w : World) (hS : SvO w v l) (hK : ∀ n ∈ l, n.kids ≤ 9223372036854775807) (hbo : ∀ n ∈ l, n.text.length ≤ 140737488351232) (hn : l.length * 32 ≤ 140737488351232) (hU : UT w.heap.size w) :
    Calls Tryd.prog 4 #[v] w (RetT w) := by
  have HU := Lib.hid hU
  have WK := Lib.hid (fun w hU => wakes16_any w hU)
  have CP := Lib.hid (fun v' w' hS' => jcopied_anyO l v' w' hS' (by omega))
  have EN := Lib.hid (fun v' w' hS' hU' => jencode_any l v' w' hS' (fun x hx => ⟨hbo x hx, hK x hx⟩) hU' (by omega))
  have HS := Lib.hid hS
  have hER := encR_any l
  obtain ⟨E, hE⟩ : ∃ E, enc Lib.validD l = E := ⟨_, rfl⟩
  have HE := Lib.hid hE
  rw [hE] at EN hER
  obtain ⟨S, c⟩ := E
  have hcc := encR_code hER
  obtain ⟨a0, cap0, rfl, -⟩ := hS
  have RE := Lib.hid (fun (w' : World) (hb : Below w.heap.size w w') => rencode_any l a0 cap0 w' (fun h => by
    obtain ⟨a9, c9, h9, h8⟩ := HS.out.below hb
    cases h9
    exact h8 h) (fun x hx => ⟨hbo x hx, hK x hx⟩) (S, c) hER)
  obtain ⟨n0, hn0⟩ : ∃ n, l.length = n := ⟨_, rfl⟩
  rw [hn0] at HS RE
  rw [hn0]
  have HN := Lib.hid hn0
  clear hU hE hn0 hER
  go_enter Tryd.func4, Tryd.ntmps4
  go_wp2_with fail
  refine (WK.out _ HU.out).mono ?_
  rintro e w1 ⟨rfl, hb1⟩
  have HB1 : Hid (Below w.heap.size w w1) := hb1
  have HS1 := Lib.hid (HS.out.below hb1)
  clear hb1
  go_wp2_with fail
  refine (CP.out _ _ HS1.out).mono ?_
  rintro e w2 ⟨v2, rfl, ho2, hb2⟩
  have HB2 : Hid (Below w.heap.size w w2) := HB1.out.trans (hb2.mono HB1.out.size)
  have HC2 := Lib.hid (SvE.ofOwn ho2)
  clear hb2 ho2
  go_wp2_with fail
  refine (EN.out _ _ HC2.out (HU.out.at HB2.out)).mono ?_
  rintro e w3 ⟨rfl, hb3⟩
  obtain ⟨t, ht0⟩ : ∃ t : ByteArray, (⟨S.toArray⟩ : ByteArray) = t := ⟨_, rfl⟩
  rw [show ((S, c) : List UInt8 × Int).1 = S from rfl, show ((S, c) : List UInt8 × Int).2 = c from rfl, ht0]
  rw [ht0] at RE
  clear ht0
  have HB3 : Hid (Below w.heap.size w w3) := HB2.out.trans (hb3.mono HB2.out.size)
  clear hb3
  rcases hcc with rfl | rfl | rfl
  all_goals
    go_wp2_with fail
    refine (RE.out _ HB3.out).mono ?_
    rintro e w4 ⟨rfl, hb4⟩
    have HB4 : Hid (Below w.heap.size w w4) := HB3.out.trans (hb4.mono HB3.out.size)
    clear hb4
    go_wp2_with fail
    go_ret
    exact ⟨rfl, HB4.out⟩
end Jg
end Go.Proofs.YtpaikjlcachabaaDoor
