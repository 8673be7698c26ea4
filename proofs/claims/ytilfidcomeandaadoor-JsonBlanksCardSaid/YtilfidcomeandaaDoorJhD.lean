/- JsonBlanks: the walk. -/
import Derived.Test.YtilfidcomeandaaDoorJhC
import Derived.Test.YtilfidcomeandaaDoorJhB
import Derived.Test.YtilfidcomeandaaDoorJhE
namespace Go.Proofs.YtilfidcomeandaaDoor
open Go.RowKit
set_option linter.unusedVariables false
set_option linter.unusedSimpArgs false
namespace Jg
open Js Je Jh
open Jd (decL decP decE RetDec DecR)
open Dr (Rs Lm has lack)
theorem tl_cat (a b : ByteArray) : (a ++ b).toList = a.toList ++ b.toList := by rw [Lib.toList_data, Lib.toList_data, Lib.toList_data]; simp [ByteArray.data_append]
theorem add_blank {A : ByteArray} {j : Nat} (h : ∀ x ∈ A.toList, Js.blank x = true) (hj : j < 4) :
    (A ++ (({ data := #[32, 9, 10, 13] } : ByteArray).extract j 4).extract 0 1).size = A.size + 1 ∧ ∀ x ∈ (A ++ (({ data := #[32, 9, 10, 13] } : ByteArray).extract j 4).extract 0 1).toList, Js.blank x = true := by
  have h1 : ∃ x, Js.blank x = true ∧ ((({ data := #[32, 9, 10, 13] } : ByteArray).extract j 4).extract 0 1).toList = [x] := by
    rw [tl_extract, tl_extract, Lib.toList_data]
    rcases j with _ | _ | _ | _ | j
    · exact ⟨32, rfl, rfl⟩
    · exact ⟨9, rfl, rfl⟩
    · exact ⟨10, rfl, rfl⟩
    · exact ⟨13, rfl, rfl⟩
    · omega
  obtain ⟨x, hx, h2⟩ := h1
  refine ⟨?_, ?_⟩
  · rw [← tl_size, tl_cat, h2, List.length_append, tl_size]; rfl
  · rw [tl_cat, h2]
    intro y hy
    rcases List.mem_append.1 hy with h3 | h3
    · exact h _ h3
    · rw [List.mem_singleton.1 h3]; exact hx
theorem dl_len {S : List UInt8} {d i b ro : Int} {r : Rs (List Vl)} (h : DecR S d i b ro r) : (decL r).length ≤ 4096 := by
  cases hm : mayOk d i b ro with
  | false => rw [h.2 hm]; exact Nat.zero_le _
  | true =>
    rw [(dec_of h hm).1]
    have h1 := ansL_len ((finv0 (limL d i b)).write S)
    have h2 := (lok hm).i
    omega
theorem shR_L (a : Nat) (r : Rs (List Vl)) : decL (shR a r) = decL r := by cases r <;> rfl
theorem shR_E (a : Nat) (r : Rs (List Vl)) : decE (shR a r) = decE r := by cases r <;> rfl
theorem may_most : mayOk 32 4096 262144 4096 = true := by decide
theorem blanks_ahead {A S : List UInt8} (hA : ∀ x ∈ A, Js.blank x = true) (hz : (A ++ S).length ≤ 262144) {r r2 : Rs (List Vl)} (h : DecR S 32 4096 262144 4096 r) (h2 : DecR (A ++ S) 32 4096 262144 4096 r2) : shR A.length r = r2 := by
  obtain ⟨t, k, h3⟩ := h.1 may_most
  obtain ⟨t2, k2, h4⟩ := h2.1 may_most
  obtain ⟨t3, k3, h5⟩ := runs_ahead (L := limL 32 4096 262144) hA hz h3
  exact (RunsT.same _ _ h5 h4).1
theorem blanks_behind {A S B : List UInt8} (hA : ∀ x ∈ A, Js.blank x = true) (hB : ∀ x ∈ B, Js.blank x = true) (hz : (A ++ S ++ B).length ≤ 262144) {l : List Vl} {r2 : Rs (List Vl)} (h : DecR S 32 4096 262144 4096 (.ok l)) (h2 : DecR (A ++ S ++ B) 32 4096 262144 4096 r2) : .ok l = r2 := by
  obtain ⟨t, k, h3⟩ := h.1 may_most
  obtain ⟨t2, k2, h4⟩ := h2.1 may_most
  have hz2 : (A ++ S).length ≤ 262144 := by rw [List.length_append] at hz; omega
  obtain ⟨t3, k3, h5⟩ := runs_ahead (L := limL 32 4096 262144) hA hz2 h3
  obtain ⟨t6, k6, h6⟩ := runs_behind hB hz h5 l rfl (Nat.zero_le _)
  exact (RunsT.same _ _ h6 h4).1
theorem dec_in {S : List UInt8} {e : Int} {q : Nat} {b : Bool} (h : DecR S 32 4096 262144 4096 (.no e q b)) : q ≤ S.length := by
  obtain ⟨t, k, h3⟩ := h.1 may_most
  exact runs_in h3 (fun a ha => by cases ha) e q b rfl
set_option maxRecDepth 100000 in
set_option maxHeartbeats 6400000 in
theorem jsonBlanks_walk (s : ByteArray) (a b : Nat) (ha : a < 256) (hb : b < 256) (hz : s.size ≤ 140737488351232) (w : World) (hU : UT w.heap.size w) :
    Calls Tryd.prog 8 #[.string s, .int .u8 (a : Int), .int .u8 (b : Int)] w (RetT w) := by
  have HU := Lib.hid hU
  have WK := Lib.hid (fun w hU => wakes16_any w hU)
  have HZ := Lib.hid hz
  have HA := Lib.hid ha
  have HBb := Lib.hid hb
  clear hU hz ha hb
  go_enter Tryd.func8, Tryd.ntmps8
  go_wp2_with fail
  refine (WK.out _ HU.out).mono ?_
  rintro e w1 ⟨rfl, hb1⟩
  have HB1 : Hid (Below w.heap.size w w1) := hb1
  clear hb1
  by_cases hbig : s.size ≤ 10000
  · obtain ⟨n, hn⟩ : ∃ n, s.size = n := ⟨_, rfl⟩
    have hn1 : ¬ (10000 < (n : Int)) := by omega
    obtain ⟨K, hK⟩ : ∃ K, a % 9 = K := ⟨_, rfl⟩
    have hK1 : (a : Int) % 9 = (K : Int) := by omega
    have hK9 : K < 9 := by omega
    clear hK
    go_wp2_with fail
    go_loopw [8, 26] (fun v8 v26 wr => ∃ (i : Nat) (A : ByteArray), i ≤ K ∧ v8 = .string A ∧ v26 = .int .i64 (i : Int) ∧ A.size = i ∧ (∀ x ∈ A.toList, Js.blank x = true) ∧ wr = w1) (fun _ v _ => K - (intOf v).toNat)
    case atStart => exact ⟨0, _, Nat.zero_le _, rfl, rfl, rfl, (fun x hx => by simp at hx), rfl⟩
    case round =>
      obtain ⟨i, A, hi, rfl, rfl, hAs, hAb, rfl⟩ := hrel
      have HAb := Lib.hid hAb
      clear hAb
      by_cases hlt : i < K
      · have hltI : (i : Int) < (K : Int) := by omega
        obtain ⟨j, hj⟩ : ∃ j, (i + a) % 4 = j := ⟨_, rfl⟩
        have hj1 : ((i : Int) + (a : Int)) % 4 = (j : Int) := by omega
        have hj4 : j < 4 := by omega
        have ha9 := HA.out
        clear hj
        go_wp2_with fail
        go_roundw
        case rel =>
          obtain ⟨h1, h2⟩ := add_blank HAb.out hj4
          exact ⟨i + 1, _, hlt, rfl, rfl, by rw [h1, hAs], h2, by trivial⟩
        all_goals (simp only [intOf]; omega)
      · have hiK : ¬ ((i : Int) < (K : Int)) := by omega
        obtain ⟨P, hP⟩ : ∃ P, b % 9 = P := ⟨_, rfl⟩
        have hP1 : (b : Int) % 9 = (P : Int) := by omega
        have hP9 : P < 9 := by omega
        have HAs := Lib.hid (show A.size ≤ 9 by omega)
        clear hP hAs hlt hi
        have hb9 := HBb.out
        go_wp2_with fail
        go_loopw [9, 43] (fun v9 v43 wx => ∃ (i : Nat) (B : ByteArray), i ≤ P ∧ v9 = .string B ∧ v43 = .int .i64 (i : Int) ∧ B.size = i ∧ (∀ x ∈ B.toList, Js.blank x = true) ∧ wx = wr) (fun _ v _ => P - (intOf v).toNat)
        case atStart => exact ⟨0, _, Nat.zero_le _, rfl, rfl, rfl, (fun x hx => by simp at hx), rfl⟩
        case round =>
          obtain ⟨i2, B, hi, rfl, rfl, hBs, hBb, rfl⟩ := hrel
          have HBbl := Lib.hid hBb
          clear hBb
          by_cases hlt : i2 < P
          · have hltI : (i2 : Int) < (P : Int) := by omega
            obtain ⟨j, hj⟩ : ∃ j, (i2 + b) % 4 = j := ⟨_, rfl⟩
            have hj1 : ((i2 : Int) + (b : Int)) % 4 = (j : Int) := by omega
            have hj4 : j < 4 := by omega
            clear hj
            go_wp2_with fail
            go_roundw
            case rel =>
              obtain ⟨h1, h2⟩ := add_blank HBbl.out hj4
              exact ⟨i2 + 1, _, hlt, rfl, rfl, by rw [h1, hBs], h2, by trivial⟩
            all_goals (simp only [intOf]; omega)
          · have hiP : ¬ ((i2 : Int) < (P : Int)) := by omega
            have HBs := Lib.hid (show B.size ≤ 9 by omega)
            clear hBs hlt hi
            go_wp2_with fail
            have HN := Lib.hid hn
            obtain ⟨m, hm⟩ : ∃ m, A.size = m := ⟨_, rfl⟩
            have HM := Lib.hid hm
            have hzA : (A ++ s).size ≤ 20000 := by rw [← tl_size, tl_cat, List.length_append, tl_size, tl_size]; have := HAs.out; omega
            have hzB : (A ++ s ++ B).size ≤ 30000 := by rw [← tl_size, tl_cat, List.length_append, tl_size, tl_size]; have := HBs.out; omega
            have D1 := Lib.hid (fun w => Jd.decode_any s 32 4096 262144 4096 w HZ.out)
            have D2 := Lib.hid (fun w => Jd.decode_any (A ++ s) 32 4096 262144 4096 w (by omega))
            have D3 := Lib.hid (fun w => Jd.decode_any (A ++ s ++ B) 32 4096 262144 4096 w (by omega))
            have HZA := Lib.hid hzA
            have HZB := Lib.hid hzB
            clear hzA hzB hm
            refine (most_any _).mono ?_
            rintro e w2 ⟨rfl, hb2⟩
            have HB2 : Hid (Below w.heap.size w w2) := HB1.out.trans (hb2.mono HB1.out.size)
            clear hb2
            go_wp2_with fail
            refine (D1.out _).mono ?_
            rintro e w3 ⟨r, hr, v, rfl, ho, hb3⟩
            have HB3 : Hid (Below w.heap.size w w3) := HB2.out.trans (hb3.mono HB2.out.size)
            have HS3 : Hid (SvE w3 v (decL r)) := SvE.ofOwn ho
            have HR := Lib.hid hr
            clear ho hr hb3
            obtain ⟨pp, hpp⟩ : ∃ x, decP r = x := ⟨_, rfl⟩
            obtain ⟨dd, hdd⟩ : ∃ x, decE r = x := ⟨_, rfl⟩
            rw [hpp, hdd]
            have HPD := Lib.hid (And.intro hpp hdd)
            clear hpp hdd
            have ha8 := HAs.out
            have hzA := HZA.out
            go_wp2_with fail
            refine (most_any _).mono ?_
            rintro e w4 ⟨rfl, hb4⟩
            have HB4 : Hid (Below w.heap.size w w4) := HB3.out.trans (hb4.mono HB3.out.size)
            have HS4 := Lib.hid (HS3.out.below hb4)
            clear hb4 ha8 hzA
            go_wp2_with fail
            refine (D2.out _).mono ?_
            rintro e w5 ⟨r2, hr2, v2, rfl, ho, hb5⟩
            obtain rfl := blanks_ahead HAb.out (by have := HZA.out; rw [← tl_cat, tl_size]; omega) HR.out (by rw [← tl_cat]; exact hr2)
            have HB5 : Hid (Below w.heap.size w w5) := HB4.out.trans (hb5.mono HB4.out.size)
            have HS5 := Lib.hid (HS4.out.below hb5)
            have HT5 : Hid (SvE w5 v2 (decL r)) := by have h := SvE.ofOwn ho; rw [shR_L] at h; exact h
            rw [shR_E, HPD.out.2]
            clear ho hr2 hb5
            have hln := dl_len HR.out
            cases r with
            | no e0 q b0 =>
              have hne : ¬ dd = 0 := by
                obtain ⟨t, k, h9⟩ := HR.out.1 may_most
                rw [← HPD.out.2]
                exact dec_ne ⟨t, k, h9⟩
              have SA := Lib.hid (vsame_eq [] v v2 w5 HS5.out HT5.out (by simp))
              have hq := dec_in HR.out
              rw [tl_size] at hq
              obtain rfl : q = pp := HPD.out.1
              rw [show decP (shR A.toList.length (.no e0 q b0)) = q + A.size by rw [tl_size]; rfl]
              have ha8 := HAs.out
              have hbb : (dd != dd) = false := by rw [bne_eq_false_iff_eq]
              clear hln
              go_wp2_with (first | (go_at_call 12; refine SA.out.mono ?_; rintro e w6 ⟨rfl, hb6⟩; have HB6 : Hid (Below w.heap.size w w6) := HB5.out.trans (hb6.mono HB5.out.size); clear hb6))
              go_ret
              exact ⟨rfl, HB6.out⟩
            | ok l =>
              have hl2 : l.length ≤ 140737488351232 := by have h9 : l.length ≤ _ := hln; omega
              have SA := Lib.hid (vsame_eq l v v2 w5 HS5.out HT5.out hl2)
              obtain rfl : 0 = dd := HPD.out.2
              obtain rfl : 0 = pp := HPD.out.1
              rw [show decP (shR A.toList.length (.ok l)) = 0 from rfl]
              clear hln
              have ha8 := HAs.out
              go_upto_region 23 with (first | (go_at_call 12; refine SA.out.mono ?_; rintro e w6 ⟨rfl, hb6⟩; have HB6 : Hid (Below w.heap.size w w6) := HB5.out.trans (hb6.mono HB5.out.size); have HS6 := Lib.hid (HS5.out.below hb6); clear hb6))
              have hza := HZA.out
              have hzb := HZB.out
              have hb8 := HBs.out
              go_wp2_with fail
              refine (most_any _).mono ?_
              rintro e w7 ⟨rfl, hb7⟩
              have HB7 : Hid (Below w.heap.size w w7) := HB6.out.trans (hb7.mono HB6.out.size)
              have HS7 := Lib.hid (HS6.out.below hb7)
              clear hb7
              go_wp2_with fail
              refine (D3.out _).mono ?_
              rintro e w8 ⟨r3, hr3, v3, rfl, ho, hb8w⟩
              obtain rfl := blanks_behind HAb.out HBbl.out (by have := HZB.out; rw [← tl_cat, ← tl_cat, tl_size]; omega) HR.out (by rw [← tl_cat, ← tl_cat]; exact hr3)
              have HB8 : Hid (Below w.heap.size w w8) := HB7.out.trans (hb8w.mono HB7.out.size)
              have HS8 := Lib.hid (HS7.out.below hb8w)
              have HT8 : Hid (SvE w8 v3 l) := SvE.ofOwn ho
              have SB := Lib.hid (vsame_eq l v v3 w8 HS8.out HT8.out hl2)
              rw [show decP (.ok l) = 0 from rfl, show decE (.ok l) = 0 from rfl]
              clear ho hr3 hb8w hza hzb hb8 ha8 hl2
              go_wp2_with (first | (go_at_call 12; refine SB.out.mono ?_; rintro e w9 ⟨rfl, hb9⟩; have HB9 : Hid (Below w.heap.size w w9) := HB8.out.trans (hb9.mono HB8.out.size); clear hb9))
              go_ret
              exact ⟨rfl, HB9.out⟩
  · have hn1 : 10000 < (s.size : Int) := by omega
    go_wp2_with fail
    go_ret
    exact ⟨rfl, HB1.out⟩
theorem b8_of_wf {a : Int} (h : (Lit.int .u8 a).wf = true) : ∃ n : Nat, a = (n : Int) ∧ n < 256 := by
  have h2 : IntKind.u8.min ≤ a ∧ a ≤ IntKind.u8.max := by simpa [Lit.wf] using h
  have e1 : IntKind.u8.min = 0 := by decide
  have e2 : IntKind.u8.max = 255 := by decide
  obtain ⟨n, rfl⟩ := Int.eq_ofNat_of_zero_le (a := a) (by omega)
  exact ⟨n, rfl, by omega⟩
theorem jsonBlanks_any (s : ByteArray) (a b : Int) (hz : s.size ≤ 140737488351232) (ha : (Lit.int .u8 a).wf = true) (hb : (Lit.int .u8 b).wf = true) (w : World) (hU : UT w.heap.size w) :
    Calls Tryd.prog 8 #[.string s, .int .u8 a, .int .u8 b] w (RetT w) := by
  obtain ⟨m, rfl, hm⟩ := b8_of_wf ha
  obtain ⟨n, rfl, hn⟩ := b8_of_wf hb
  exact jsonBlanks_walk s m n hm hn hz w hU
end Jg
end Go.Proofs.YtilfidcomeandaaDoor
