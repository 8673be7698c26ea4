/- Joined by merge.py: DsF DsG DsH. -/
import Derived.Test.YteglahkgnggmgaaDoorDsE
namespace Go.Proofs.YteglahkgnggmgaaDoor
open Go.RowKit
set_option linter.unusedVariables false
set_option linter.unusedSimpArgs false
open Dr
def RetNds (l : List Nd) (w : World) (e : Ending) (w' : World) : Prop := ∃ v, e = .returned v ∧ w'.ownsRow w.heap.size 63 3 v l.length (ncells l) ∧ Below w.heap.size w w'
theorem ncells_one (l : List Nd) : ∀ u ∈ ncells l, u.oneCell' = true := by
  intro u hu
  simp only [ncells, List.mem_flatMap] at hu
  obtain ⟨n, _, hn⟩ := hu
  exact nv_one n u hn
theorem at_cells {w : World} {k : Nat} {cs : List Value} (h : At w k 0 cs) : ∀ j u, cs[j]? = some u → w.cell? ((⟨k, 0, none⟩ : Addr).add j) = some u := fun j u hu => by
  have := (h j u hu).1
  by_cases h0 : j = 0
  · subst h0; simpa [Addr.add] using this
  · simpa [Addr.add, h0] using this
set_option maxRecDepth 100000 in
set_option maxHeartbeats 1600000 in
theorem copied_ne (l : List Nd) (v : Value) (w : World) (hS : Sl w v l) (hn : l.length ≤ 1000000) (h0 : l ≠ []) : Calls Tryd.prog 18 #[v] w (RetNds l w) := by
  obtain ⟨i0, hi, hq⟩ := Option.map_eq_some_iff.1 infoN
  simp only [Prod.mk.injEq] at hq
  obtain ⟨hz0, hz1, hz2⟩ := hq
  obtain ⟨a, cap, rfl, hl⟩ := hS
  obtain ⟨g, rfl, hA, hg⟩ := hl h0
  obtain ⟨n, hn0⟩ : ∃ n, l.length = n := ⟨_, rfl⟩
  have HA := Lib.hid (And.intro hA (And.intro hg (And.intro hn hn0)))
  have hlen : (ncells l).length = n * 3 := by rw [ncells_length, hn0, Nat.mul_comm]
  have HLN := Lib.hid hlen
  have HO := Lib.hid (World.ownsRow_lit (base := w.heap.size) (e := 63) (size := 3) w #[] 0 (Nat.le_refl _) (by decide) rfl)
  rw [hn0]
  clear hl hA hg hn hn0 h0 hlen
  go_enter Tryd.func18, Tryd.ntmps18
  go_wp2_with (at_builtin; refine wpList_append_own _ rfl (.tmp 3) (.tmp 4) 25 rfl w.heap.size 63 i0 _ 3 32 Tryd.underlying25 hi hz0 hz1 hz2 rfl (by decide) _ 0 [] rfl HO.out ⟨g, 0, none⟩ n cap (ncells l) rfl HLN.out (at_cells ((HA.out.1).alloc _)) (ncells_one l) (by have := HA.out.2.2; unfold maxLen; omega) (by have := HA.out.2.2; omega) (by simp) ?_; intro v' w1 hown1 hgrow1 _; have HO1 := Lib.hid hown1; have HB1 : Hid (Below w.heap.size w w1) := Below.grown ((Below.refl _ _).alloc (Nat.le_refl _) _) hgrow1 (by simp) (fun k hk => (HO.out.lt k hk).1); clear hown1 hgrow1)
  go_ret
  exact ⟨v', rfl, by have h1 := HO1.out; rw [Nat.zero_add, List.nil_append] at h1; rw [HA.out.2.2.2]; exact h1, HB1.out⟩
set_option maxRecDepth 100000 in
set_option maxHeartbeats 1600000 in
theorem copied_nil (a : Option Addr) (cap : Nat) (w : World) : Calls Tryd.prog 18 #[.slice a 0 cap] w (RetNds [] w) := by
  have HO := Lib.hid (World.ownsRow_lit (base := w.heap.size) (e := 63) (size := 3) w #[] 0 (Nat.le_refl _) (by decide) rfl)
  cases a with
  | none =>
    go_enter Tryd.func18, Tryd.ntmps18
    go_wp2_with fail
    go_ret
    exact ⟨_, rfl, HO.out, (Below.refl _ _).alloc (Nat.le_refl _) _⟩
  | some A =>
    go_enter Tryd.func18, Tryd.ntmps18
    go_wp2_with fail
    go_ret
    exact ⟨_, rfl, HO.out, (Below.refl _ _).alloc (Nat.le_refl _) _⟩
theorem copied_any (l : List Nd) (v : Value) (w : World) (hS : Sl w v l) (hn : l.length ≤ 1000000) : Calls Tryd.prog 18 #[v] w (RetNds l w) := by
  by_cases h0 : l = []
  · subst h0
    obtain ⟨a, cap, rfl, -⟩ := hS
    exact copied_nil a cap w
  · exact copied_ne l v w hS hn h0
/-- limits that one is handed, in memory -/
structure Lm4 (w : World) (g : Nat) (d i b r : Int) : Prop where
  at0 : At w g 0 [.int .i64 d, .int .i64 i, .int .i64 b, .int .i64 r]
  lt : g < w.heap.size
theorem Lm4.below {w w' : World} {g : Nat} {d i b r : Int} (h : Lm4 w g d i b r) (hb : Below w.heap.size w w') : Lm4 w' g d i b r := ⟨h.at0.below hb h.lt, Nat.lt_of_lt_of_le h.lt hb.size⟩
theorem Lm4.ofAlloc (w : World) (d i b r : Int) : Lm4 (w.alloc (Obj.cells #[.int .i64 d, .int .i64 i, .int .i64 b, .int .i64 r] 23)) w.heap.size d i b r := ⟨At.ofAlloc w #[.int .i64 d, .int .i64 i, .int .i64 b, .int .i64 r] 23, by simp⟩
theorem Lm4.alloc {w : World} {g : Nat} {d i b r : Int} (h : Lm4 w g d i b r) (o : Obj) : Lm4 (w.alloc o) g d i b r := ⟨h.at0.alloc o, by have := h.lt; simp; omega⟩
end Go.Proofs.YteglahkgnggmgaaDoor
namespace Go.Proofs.YteglahkgnggmgaaDoor
open Go.RowKit
set_option linter.unusedVariables false
set_option linter.unusedSimpArgs false
open Dr
theorem enc_wake : enc [⟨0x30, 1, []⟩, ⟨4, -1, [97]⟩] = ([0x30, 3, 4, 1, 97], 0) := by decide +kernel
set_option maxRecDepth 100000 in
theorem runs_wake : RunsD [0x30, 3, 4, 1, 97] (limL 32 4096 262144) (.el [] [] 0) (.ok [⟨0x30, 1, []⟩, ⟨4, -1, [97]⟩]) := by
  refine Runs.el (s := .loop [⟨0x30, 0, 0, 5, 0, []⟩] [⟨0x30, 0, []⟩] 2) (by kernel_rfl) (Runs.loop ?_)
  refine Runs.el (s := .pend [⟨0x30, 0, 0, 5, 0, []⟩] [⟨0x30, 0, []⟩, ⟨4, -1, [97]⟩] 2 5) (by kernel_rfl) ?_
  refine Runs.pend (s := .loop [⟨0x30, 0, 0, 5, 1, [4, 1, 97]⟩] [⟨0x30, 0, []⟩, ⟨4, -1, [97]⟩] 5) (by kernel_rfl) (Runs.loop ?_)
  refine Runs.pend (s := .loop [] [⟨0x30, 1, []⟩, ⟨4, -1, [97]⟩] 5) (by kernel_rfl) ?_
  exact Runs.fin
set_option maxRecDepth 100000 in
theorem runs_wake2 : RunsD [4, 0x81, 5] (limL 32 4096 262144) (.el [] [] 0) (.no 9 2 false) := Runs.elNo (by kernel_rfl)
end Go.Proofs.YteglahkgnggmgaaDoor
namespace Go.Proofs.YteglahkgnggmgaaDoor
open Go.RowKit
set_option linter.unusedVariables false
set_option linter.unusedSimpArgs false
open Dr
def wkL : List Nd := [⟨0x30, 1, []⟩, ⟨4, -1, [97]⟩]
theorem wk_dec1 (w : World) (hU : UT w.heap.size w) : Calls Tryd.prog 14 #[.string ⟨#[48, 3, 4, 1, 97]⟩, .agg #[.int .i64 32, .int .i64 4096, .int .i64 262144, .int .i64 4096]] w (fun e w' => ∃ v, e = .returned (.tuple #[v, .int .i64 0, .int .i64 0]) ∧ w'.ownsRow w.heap.size 63 3 v 2 (ncells wkL) ∧ Below w.heap.size w w') := by
  refine (decode_any ⟨#[48, 3, 4, 1, 97]⟩ 32 4096 262144 4096 w (by rw [show (⟨#[48, 3, 4, 1, 97]⟩ : ByteArray).size = 5 from rfl]; omega) hU).mono ?_
  rintro e w' ⟨r, hr, v, he, ho, hb⟩
  have h1 := hr.1 (by kernel_rfl)
  rw [show (⟨#[48, 3, 4, 1, 97]⟩ : ByteArray).toList = [48, 3, 4, 1, 97] from tl_mk [48, 3, 4, 1, 97]] at h1
  have h2 := Runs.same _ _ _ _ h1 runs_wake
  subst h2
  exact ⟨v, he, ho, hb⟩
theorem wk_dec2 (w : World) (hU : UT w.heap.size w) : Calls Tryd.prog 14 #[.string ⟨#[4, 129, 5]⟩, .agg #[.int .i64 32, .int .i64 4096, .int .i64 262144, .int .i64 4096]] w (fun e w' => ∃ v, e = .returned (.tuple #[v, .int .i64 2, .int .i64 9]) ∧ Below w.heap.size w w') := by
  refine (decode_any ⟨#[4, 129, 5]⟩ 32 4096 262144 4096 w (by rw [show (⟨#[4, 129, 5]⟩ : ByteArray).size = 3 from rfl]; omega) hU).mono ?_
  rintro e w' ⟨r, hr, v, he, ho, hb⟩
  have h1 := hr.1 (by kernel_rfl)
  rw [show (⟨#[4, 129, 5]⟩ : ByteArray).toList = [4, 129, 5] from tl_mk [4, 129, 5]] at h1
  have h2 := Runs.same _ _ _ _ h1 runs_wake2
  subst h2
  exact ⟨v, he, hb⟩
theorem wk_enc (w : World) (v : Value) (hS : Sl w v wkL) (hU : UT w.heap.size w) : Calls Tryd.prog 17 #[v] w (fun e w' => e = .returned (.tuple #[.string ⟨#[48, 3, 4, 1, 97]⟩, .int .i64 0]) ∧ Below w.heap.size w w') := by
  refine (encode_any wkL v w hS (by intro n hn; simp [wkL] at hn; rcases hn with rfl | rfl <;> decide) (by intro n hn; simp [wkL] at hn; rcases hn with rfl | rfl <;> simp) (by simp [wkL]) hU).mono ?_
  rintro e w' ⟨s, he, hs, hb⟩
  rw [show enc wkL = ([0x30, 3, 4, 1, 97], 0) from enc_wake] at he hs
  have h1 : s = ⟨#[48, 3, 4, 1, 97]⟩ := by
    have h2 : (⟨s.toList.toArray⟩ : ByteArray) = s := by rw [Lib.toList_data]
    rw [← h2, hs]
  subst h1
  exact ⟨he, hb⟩
theorem UT.at {w w' : World} (h : UT w.heap.size w) (hb : Below w.heap.size w w') : UT w'.heap.size w' := (h.below hb).mono hb.size
set_option maxRecDepth 100000 in
set_option maxHeartbeats 1600000 in
theorem wakes15_any (w : World) (hU : UT w.heap.size w) : Calls Tryd.prog 13 #[] w (fun e w' => e = .returned (.bool true) ∧ Below w.heap.size w w') := by
  have HU := Lib.hid hU
  have D1 := Lib.hid (fun w' hU => wk_dec1 w' hU)
  have D2 := Lib.hid (fun w' hU => wk_dec2 w' hU)
  have EN := Lib.hid (fun w' v hS hU => wk_enc w' v hS hU)
  have MO := Lib.hid (fun w' => most_any w')
  have HA := Lib.hid (At.ofAlloc w #[.int .u8 48, .int .i64 1, .string ByteArray.empty, .int .u8 4, .int .i64 (-1), .string ⟨#[97]⟩] 63)
  have HS : Hid (Sl (w.alloc (Obj.cells #[.int .u8 48, .int .i64 1, .string ByteArray.empty, .int .u8 4, .int .i64 (-1), .string ⟨#[97]⟩] 63)) (.slice (some ⟨w.heap.size, 0, none⟩) 2 2) wkL) := ⟨_, _, rfl, fun _ => ⟨w.heap.size, rfl, HA.out, by simp⟩⟩
  have HB0 : Hid (Below w.heap.size w (w.alloc (Obj.cells #[.int .u8 48, .int .i64 1, .string ByteArray.empty, .int .u8 4, .int .i64 (-1), .string ⟨#[97]⟩] 63))) := (Below.refl _ _).alloc (Nat.le_refl _) _
  clear hU HA
  go_enter Tryd.func13, Tryd.ntmps13
  go_wp2_with (first | (go_at_call 17; refine (EN.out _ _ HS.out (HU.out.at HB0.out)).mono ?_; rintro e w1 ⟨rfl, hb1⟩; have HB1 : Hid (Below w.heap.size w w1) := HB0.out.trans (hb1.mono HB0.out.size); clear hb1))
  refine (MO.out _).mono ?_
  rintro e w2 ⟨rfl, hb2⟩
  have HB2 : Hid (Below w.heap.size w w2) := HB1.out.trans (hb2.mono HB1.out.size)
  clear hb2
  go_wp2_with fail
  refine (D1.out _ (HU.out.at HB2.out)).mono ?_
  rintro e w3 ⟨v, rfl, ho, hb3⟩
  have HB3 : Hid (Below w.heap.size w w3) := HB2.out.trans (hb3.mono HB2.out.size)
  obtain ⟨a, c, rfl, ha⟩ := own_form ho
  obtain ⟨g, rfl⟩ := ha (by decide)
  have HA3 := Lib.hid (And.intro (At.ofOwnN ho) (ho.lt g rfl).2)
  clear ho ha hb3
  go_wp2_with fail
  refine (MO.out _).mono ?_
  rintro e w4 ⟨rfl, hb4⟩
  have HB4 : Hid (Below w.heap.size w w4) := HB3.out.trans (hb4.mono HB3.out.size)
  have HA4 := Lib.hid (And.intro (HA3.out.1.below hb4 HA3.out.2) (Nat.lt_of_lt_of_le HA3.out.2 hb4.size))
  clear hb4
  go_wp2_with fail
  refine (D2.out _ (HU.out.at HB4.out)).mono ?_
  rintro e w5 ⟨v5, rfl, hb5⟩
  have HB5 : Hid (Below w.heap.size w w5) := HB4.out.trans (hb5.mono HB4.out.size)
  have hc := (HA4.out.1.below hb5 HA4.out.2).cell 5 (.string ⟨#[97]⟩) rfl
  rw [Nat.zero_add] at hc
  clear hb5
  go_wp2_with fail
  go_ret
  exact ⟨rfl, HB5.out⟩
end Go.Proofs.YteglahkgnggmgaaDoor
