/- DerCut: the walk. -/
import Derived.Test.YteglahkgnggmgaaDoorDsX
import Derived.Test.YteglahkgnggmgaaDoorDtX
namespace Go.Proofs.YteglahkgnggmgaaDoor
open Go.RowKit
set_option linter.unusedVariables false
set_option linter.unusedSimpArgs false
open Dr
def MoL : Lm := limL 32 4096 262144
/-- reading within the greatest limits: what the answer is -/
def RetDm (s : ByteArray) (w : World) (e : Ending) (w' : World) : Prop :=
  ∃ r, RunsD s.toList MoL (.el [] [] 0) r ∧ ∃ v, e = .returned (.tuple #[v, .int .i64 (decP r : Int), .int .i64 (decE r)]) ∧ w'.ownsRow w.heap.size 63 3 v (decL r).length (ncells (decL r)) ∧ Below w.heap.size w w'
theorem decm_any (s : ByteArray) (w : World) (hz : s.size ≤ 140737488351232) (hU : UT w.heap.size w) : Calls Tryd.prog 14 #[.string s, .agg #[.int .i64 32, .int .i64 4096, .int .i64 262144, .int .i64 4096]] w (RetDm s w) := by
  refine (decode_any s 32 4096 262144 4096 w hz hU).mono ?_
  rintro e w' ⟨r, hr, v, he, ho, hb⟩
  exact ⟨r, hr.1 (by kernel_rfl), v, he, ho, hb⟩
theorem decm_is (s : ByteArray) (w : World) (hz : s.size ≤ 140737488351232) (hU : UT w.heap.size w) (r : Rs (List Nd)) (hr : RunsD s.toList MoL (.el [] [] 0) r) (p : Nat) (c : Int) (hp : decP r = p) (hc : decE r = c) :
    Calls Tryd.prog 14 #[.string s, .agg #[.int .i64 32, .int .i64 4096, .int .i64 262144, .int .i64 4096]] w (fun e w' => ∃ v, e = .returned (.tuple #[v, .int .i64 (p : Int), .int .i64 c]) ∧ Hid (Below w.heap.size w w')) := by
  refine (decm_any s w hz hU).mono ?_
  rintro e w' ⟨r', hr', v, he, ho, hb⟩
  have h1 := Runs.same _ _ _ _ hr hr'
  subst h1
  exact ⟨v, by rw [he, hp, hc], hb⟩
theorem dcv_after (f : Nat) (hf : f < 256) (c : ByteArray) (hc : c = ⟨[UInt8.ofNat f].toArray⟩) {w w3 : World} (hb : Below (w.alloc (Obj.cells #[.int .u8 (f : Int)] 5)).drew.heap.size (w.alloc (Obj.cells #[.int .u8 (f : Int)] 5)).drew w3) :
    (convert 42 9 (.slice (some ⟨w.heap.size, 0, none⟩) 1 1)).run Tryd.prog w3 = .ok (.string c) w3 := by
  have e9 : (f : Int) = ((UInt8.ofNat f).toNat : Int) := by simp; omega
  have hA : At (w.alloc (Obj.cells #[.int .u8 (f : Int)] 5)).drew w.heap.size 0 (bcells [UInt8.ofNat f]) := by
    have h := At.ofAlloc w #[.int .u8 ((UInt8.ofNat f).toNat : Int)] 5
    rw [← e9] at h
    have e : bcells [UInt8.ofNat f] = [.int .u8 (f : Int)] := by rw [e9]; rfl
    rw [e]
    exact h
  have hcv := dcv_at (P := Tryd.prog) (cap := 1) (hA.below hb (by simp)) 42 9 5 1 rfl Tryd.underlying42 Tryd.underlying5 Tryd.underlying9
  rw [← hc] at hcv
  exact hcv
theorem dcv_byteD (f : Nat) (hf : f < 256) (c : ByteArray) (hc : c = ⟨[UInt8.ofNat f].toArray⟩) : ∀ w' : World, (convert 42 9 (.slice (some ⟨w'.heap.size, 0, none⟩) 1 1)).run Tryd.prog (w'.alloc (Obj.cells #[.int .u8 (f : Int)] 5)).drew = .ok (.string c) (w'.alloc (Obj.cells #[.int .u8 (f : Int)] 5)).drew := fun w' => dcv_byte f hf c hc w'.drew
theorem u8_of_wf {a : Int} (h : (Lit.int .u8 a).wf = true) : ∃ n : Nat, a = (n : Int) ∧ n < 256 := by
  have h2 : IntKind.u8.min ≤ a ∧ a ≤ IntKind.u8.max := by simpa [Lit.wf] using h
  have e1 : IntKind.u8.min = 0 := by decide
  have e2 : IntKind.u8.max = 255 := by decide
  obtain ⟨n, rfl⟩ := Int.eq_ofNat_of_zero_le (a := a) (by omega)
  exact ⟨n, rfl, by omega⟩
theorem cut_runs {s : ByteArray} {l : List Nd} (hr : RunsD s.toList MoL (.el [] [] 0) (.ok l)) (k : Nat) (hk : k < s.size) (hz : s.size < 262144) : RunsD (s.extract 0 k).toList MoL (.el [] [] 0) (.no 9 k true) := by
  rw [tl_extract]
  have h := Runs.cut (a := k) (by rw [tl_size]; exact hk) (by rw [tl_size]; show s.size ≤ 262144; omega) hr l rfl (Nat.zero_le _)
  exact h
theorem behind_runs {s c : ByteArray} {l : List Nd} (m : UInt8) (hc : c.toList = [m]) (hr : RunsD s.toList MoL (.el [] [] 0) (.ok l)) (hz : s.size < 262144) : RunsD (s ++ c).toList MoL (.el [] [] 0) (.no 9 s.size false) := by
  rw [tl_app, hc, ← tl_size s]
  exact Runs.behind (m := m) (by rw [tl_size]; show s.size < 262144; omega) hr l rfl (Nat.zero_le _)
set_option maxRecDepth 100000 in
set_option maxHeartbeats 1600000 in
theorem derCut_walk (s : ByteArray) (a m : Int) (hz : s.size ≤ 140737488351232) (hm : (Lit.int .u8 m).wf = true) (w : World) (hU : UT w.heap.size w) : Calls Tryd.prog 8 #[.string s, .int .i64 a, .int .u8 m] w (RetT w) := by
  obtain ⟨f, rfl, hf⟩ := u8_of_wf hm
  have HU := Lib.hid hU
  have WK := Lib.hid (fun w hU => wakes15_any w hU)
  have MO := Lib.hid (fun w' => most_any w')
  have D1 := Lib.hid (fun w hU => decm_any s w hz hU)
  have D2 := Lib.hid (fun (u : ByteArray) w hz hU r hr p c hp hc => decm_is u w hz hU r hr p c hp hc)
  obtain ⟨n, hn⟩ : ∃ n, s.size = n := ⟨_, rfl⟩
  have HN := Lib.hid (And.intro hn hz)
  have HF := Lib.hid hf
  clear hm hU hz hf
  go_enter Tryd.func8, Tryd.ntmps8
  go_wp2_with fail
  refine (WK.out _ HU.out).mono ?_
  rintro e w1 ⟨rfl, hb1⟩
  have HB1 : Hid (Below w.heap.size w w1) := hb1
  clear hb1
  go_wp2_with fail
  refine (MO.out _).mono ?_
  rintro e w2 ⟨rfl, hb2⟩
  have HB2 : Hid (Below w.heap.size w w2) := HB1.out.trans (hb2.mono HB1.out.size)
  clear hb2
  go_wp2_with fail
  refine (D1.out _ (HU.out.at HB2.out)).mono ?_
  rintro e w3 ⟨r, hr, v, rfl, -, hb3⟩
  have HB3 : Hid (Below w.heap.size w w3) := HB2.out.trans (hb3.mono HB2.out.size)
  have HR := Lib.hid hr
  clear hb3 hr
  cases r with
  | no c q b =>
    have hc : ¬ c = 0 := Runs.ne HR.out _ _ _ rfl
    rw [show decE (.no c q b) = c from rfl]
    go_wp2_with fail
    go_ret
    exact ⟨rfl, HB3.out⟩
  | ok l =>
    rw [show decE (.ok l) = 0 from rfl]
    by_cases h1 : a < 0
    · go_wp2_with fail
      go_ret
      exact ⟨rfl, HB3.out⟩
    · obtain ⟨k, rfl⟩ := Int.eq_ofNat_of_zero_le (a := a) (by omega)
      by_cases h2 : n ≤ k
      · have e2 : (n : Int) ≤ (k : Int) := by omega
        go_wp2_with fail
        go_ret
        exact ⟨rfl, HB3.out⟩
      · by_cases h3 : 262144 ≤ n
        · have e2 : ¬ (n : Int) ≤ (k : Int) := by omega
          have e3 : (262144 : Int) ≤ (n : Int) := by omega
          go_wp2_with fail
          go_ret
          exact ⟨rfl, HB3.out⟩
        · have e2 : ¬ (n : Int) ≤ (k : Int) := by omega
          have e3 : decide ((262144 : Int) ≤ (n : Int)) = false := decide_eq_false (by omega)
          obtain ⟨u, hu⟩ : ∃ u, s.extract 0 k = u := ⟨_, rfl⟩
          have hk0 : k ≤ s.size := by omega
          have e4 : (k : Int) ≤ (n : Int) := by omega
          have hus : u.size ≤ 140737488351232 := by rw [← hu, ← tl_size, tl_extract, List.length_take, List.length_drop, tl_size]; omega
          have HRU := Lib.hid (cut_runs HR.out k (by omega) (by omega))
          rw [hu] at HRU
          obtain ⟨c, hc⟩ : ∃ c : ByteArray, c = ⟨[UInt8.ofNat f].toArray⟩ := ⟨_, rfl⟩
          have hcl : c.toList = [UInt8.ofNat f] := by rw [hc, tl_mk]
          have hcs : c.size = 1 := by rw [← tl_size, hcl]; rfl
          have HRB := Lib.hid (behind_runs (c := c) (UInt8.ofNat f) hcl HR.out (by omega))
          rw [hn] at HRB
          have hov : ¬ 9223372036854775807 < s.size + c.size := by omega
          have hcv := dcv_byte f HF.out c hc
          have hcvd := dcv_byteD f HF.out c hc
          have HCc := Lib.hid hc
          obtain ⟨sc, hsc⟩ : ∃ sc, s ++ c = sc := ⟨_, rfl⟩
          have hss : sc.size ≤ 140737488351232 := by rw [← hsc, ← tl_size, tl_app, List.length_append, tl_size, tl_size]; omega
          rw [hsc] at HRB
          have HSS := Lib.hid hss
          have HUS := Lib.hid hus
          clear hus hss hc hcl hcs h3 h2 h1
          go_wp2_with fail
          go_region_held3 (fun _ => True) (trivial) (first | (go_at_call 20; refine (MO.out _).mono ?_; rintro e w4 ⟨rfl, hb4⟩; have HB4 : Hid (Below w.heap.size w w4) := HB3.out.drew.trans (hb4.mono HB3.out.size); clear hb4) | (go_at_call 14; refine (D2.out u _ HUS.out (HU.out.at HB4.out) _ HRU.out k 9 rfl rfl).mono ?_; rintro e w5 ⟨v5, rfl, hb5⟩; have HB5 : Hid (Below w.heap.size w w5) := HB4.out.trans (hb5.out.mono HB4.out.size); clear hb5))
          go_wp2_with fail
          go_region_with (first
            | (go_at_call 20; refine (MO.out _).mono ?_; rintro e w6 ⟨rfl, hb6⟩; have HB6 : Hid (Below w.heap.size w w6) := (by first | exact HB5.out.drew.trans (hb6.mono HB5.out.size) | exact (HB5.out.alloc HB5.out.size _).drew.trans (hb6.mono (by have := HB5.out.size; simp; omega))); (first | have hcv3 := dcv_after f HF.out c HCc.out hb6 | skip))
            | (go_at_call 14; refine (D2.out sc _ HSS.out (HU.out.at (by first | exact HB6.out | exact HB6.out.drew | exact (HB6.out.alloc HB6.out.size _).drew | exact (HB6.out.alloc HB6.out.size _))) _ HRB.out n 9 rfl rfl).mono ?_; rintro e w7 ⟨v7, rfl, hb7⟩; have HB7 : Hid (Below w.heap.size w w7) := (by first | exact HB6.out.trans (hb7.out.mono HB6.out.size) | exact HB6.out.drew.trans (hb7.out.mono HB6.out.size) | exact (HB6.out.alloc HB6.out.size _).drew.trans (hb7.out.mono (by have := HB6.out.size; simp; omega)) | exact (HB6.out.alloc HB6.out.size _).trans (hb7.out.mono (by have := HB6.out.size; simp; omega)))))
          all_goals
            clear hcv hcvd
            go_wp2_with fail
            go_ret
            exact ⟨rfl, HB7.out⟩
end Go.Proofs.YteglahkgnggmgaaDoor
