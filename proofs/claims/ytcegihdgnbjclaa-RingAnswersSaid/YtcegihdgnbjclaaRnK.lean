/- Keys by their names: copies; the chapter's example. -/
import Derived.Test.YtcegihdgnbjclaaRnZ
import Derived.Test.YtcegihdgnbjclaaRnM
namespace Go.Proofs.Ytcegihdgnbjclaa
open Go.RowKit Go.Maps Go.Sort
open Go.Proofs (encStr)
set_option linter.unusedVariables false
set_option linter.unusedSimpArgs false
namespace Rn
theorem at_cellsO {w : World} {k o : Nat} {cs : List Value} (h : At w k o cs) : ∀ j u, cs[j]? = some u → w.cell? ((⟨k, o, none⟩ : Addr).add j) = some u := fun j u hu => by
  have := (h j u hu).1
  unfold Addr.add
  split
  · rename_i h0; simpa [h0] using this
  · exact this
def RetEns (l : List En) (w : World) (e : Ending) (w' : World) : Prop := ∃ v, e = .returned v ∧ w'.ownsRow w.heap.size 51 2 v l.length (ecells l) ∧ Below w.heap.size w w'
set_option maxRecDepth 100000 in
set_option maxHeartbeats 1600000 in
theorem copied_ne (l : List En) (v : Value) (w : World) (hS : El w v l) (hn : l.length ≤ 4398046510976) (h0 : l ≠ []) : Calls Try.prog 8 #[v] w (RetEns l w) := by
  obtain ⟨i0, hi, hz0, hz1, hz2⟩ := info_parts infoEn
  obtain ⟨a, cap, rfl, hl⟩ := hS
  obtain ⟨g, o, rfl, hA, hg⟩ := hl h0
  obtain ⟨n, hn0⟩ : ∃ n, l.length = n := ⟨_, rfl⟩
  have HA := Lib.hid (And.intro hA (And.intro hg (And.intro hn hn0)))
  have hlen : (ecells l).length = n * 2 := by rw [ecells_length, hn0, Nat.mul_comm]
  have HLN := Lib.hid hlen
  have HO := Lib.hid (World.ownsRow_lit (base := w.heap.size) (e := 51) (size := 2) w #[] 0 (Nat.le_refl _) (by decide) rfl)
  rw [hn0]
  clear hl hA hg hn hn0 h0 hlen
  go_enter Try.func8, Try.ntmps8
  go_wp2_with (at_builtin; refine wpList_append_own _ rfl (.tmp 3) (.tmp 4) 22 rfl w.heap.size 51 i0 _ 2 32 Try.underlying22 hi hz0 hz1 hz2 rfl (by decide) _ 0 [] rfl HO.out ⟨g, o, none⟩ n cap (ecells l) rfl HLN.out (at_cellsO ((HA.out.1).alloc _)) (ecells_one l) (by have := HA.out.2.2; unfold maxLen; omega) (by have := HA.out.2.2; omega) (by simp) ?_; intro v' w1 hown1 hgrow1 _; have HO1 := Lib.hid hown1; have HB1 : Hid (Below w.heap.size w w1) := Below.grown ((Below.refl _ _).alloc (Nat.le_refl _) _) hgrow1 (by simp) (fun k hk => (HO.out.lt k hk).1); clear hown1 hgrow1)
  go_ret
  exact ⟨v', rfl, by have h1 := HO1.out; rw [Nat.zero_add, List.nil_append] at h1; rw [HA.out.2.2.2]; exact h1, HB1.out⟩
set_option maxRecDepth 100000 in
set_option maxHeartbeats 1600000 in
theorem copied_nil (a : Option Addr) (cap : Nat) (w : World) : Calls Try.prog 8 #[.slice a 0 cap] w (RetEns [] w) := by
  have HO := Lib.hid (World.ownsRow_lit (base := w.heap.size) (e := 51) (size := 2) w #[] 0 (Nat.le_refl _) (by decide) rfl)
  cases a with
  | none =>
    go_enter Try.func8, Try.ntmps8
    go_wp2_with fail
    go_ret
    exact ⟨_, rfl, HO.out, (Below.refl _ _).alloc (Nat.le_refl _) _⟩
  | some A =>
    go_enter Try.func8, Try.ntmps8
    go_wp2_with fail
    go_ret
    exact ⟨_, rfl, HO.out, (Below.refl _ _).alloc (Nat.le_refl _) _⟩
theorem copied_any (l : List En) (v : Value) (w : World) (hS : El w v l) (hn : l.length ≤ 4398046510976) : Calls Try.prog 8 #[v] w (RetEns l w) := by
  by_cases h0 : l = []
  · subst h0
    obtain ⟨a, cap, rfl, -⟩ := hS
    exact copied_nil a cap w
  · exact copied_ne l v w hS hn h0
theorem El.own {w : World} {B : Nat} {v : Value} {l : List En} (h : w.ownsRow B 51 2 v l.length (ecells l)) : El w v l := by
  obtain ⟨a, c, rfl, hg⟩ := own_form h
  refine ⟨a, c, rfl, fun hl => ?_⟩
  obtain ⟨g, rfl⟩ := hg (List.length_pos_iff.2 hl)
  exact ⟨g, 0, rfl, At.ofOwnN h, (h.lt g rfl).2⟩
theorem El.below {w w' : World} {v : Value} {l : List En} (h : El w v l) (hb : Below w.heap.size w w') : El w' v l := h.same hb.block hb.size
def wl : List En := [⟨[98], [49]⟩, ⟨[97], [50]⟩]
theorem wl_new : newE wl = 0 := by decide +kernel
theorem wl_srt : srt wl = [[97], [98]] := by
  refine (sorted_eq (m := names wl) (l := [[97], [98]]) ?_ ?_).symm
  · show ([[97], [98]] : List (List UInt8)).Perm [[98], [97]]
    exact List.Perm.swap _ _ _
  · decide +kernel
theorem wl_cells : ecells wl = [Value.string ⟨#[98]⟩, Value.string ⟨#[49]⟩, Value.string ⟨#[97]⟩, Value.string ⟨#[50]⟩] := by
  rw [wl, ecells_cons, ecells_cons]; rfl
theorem tl1 (u : UInt8) : (⟨#[u]⟩ : ByteArray).toList = [u] := tl_mk [u]
theorem c00 : ∀ i, List.getD [0, 0] i 0 ≤ 1000000 := fun i => by
  rcases i with _ | _ | i <;> simp [List.getD]
theorem c01 : ∀ i, List.getD [0, 1] i 0 ≤ 1000000 := fun i => by
  rcases i with _ | _ | i <;> simp [List.getD]
section
variable (w : World) (B r b : Nat) (ps : List Nat) (v : Value) (dn : Bool)
theorem wfindA (hR : Rg w B r b ps v dn wl [0, 0]) : Calls Try.prog 14 #[.pointer (some ⟨r, 0, none⟩), .string ⟨#[97]⟩] w (fun e w' => e = .returned (.tuple #[.string ⟨#[50]⟩, .int .i64 0]) ∧ Rg w' B r b ps v dn wl [0, 1] ∧ Kp (fun k => k ∈ ps) w w') := by
  refine (find_any w B r b ps v dn wl [0, 0] hR c00 ⟨#[97]⟩ (by decide)).mono ?_
  rintro e w' ⟨rfl, h1, h2⟩
  rw [tl1] at h1 ⊢
  exact ⟨rfl, h1, h2⟩
theorem wfindC (hR : Rg w B r b ps v dn wl [0, 1]) : Calls Try.prog 14 #[.pointer (some ⟨r, 0, none⟩), .string ⟨#[99]⟩] w (fun e w' => e = .returned (.tuple #[.string ⟨#[]⟩, .int .i64 12]) ∧ Rg w' B r b ps v dn wl [0, 1] ∧ Kp (fun k => k ∈ ps) w w') := by
  refine (find_any w B r b ps v dn wl [0, 1] hR c01 ⟨#[99]⟩ (by decide)).mono ?_
  rintro e w' ⟨rfl, h1, h2⟩
  rw [tl1] at h1 ⊢
  exact ⟨rfl, h1, h2⟩
theorem wuses (hR : Rg w B r b ps v dn wl [0, 1]) : Calls Try.prog 20 #[.pointer (some ⟨r, 0, none⟩), .string ⟨#[97]⟩] w (fun e w' => e = .returned (.int .i64 1) ∧ w' = w) := by
  refine (uses_any w B r b ps v dn wl [0, 1] hR ⟨#[97]⟩ (by decide)).mono ?_
  rintro e w' ⟨rfl, h1⟩
  rw [tl1]
  exact ⟨rfl, h1⟩
end
set_option maxRecDepth 100000 in
set_option maxHeartbeats 1200000 in
theorem wakes_any (w : World) : Calls Try.prog 10 #[] w (fun e w' => e = .returned (.bool true) ∧ Below w.heap.size w w') := by
  have hE : El (w.alloc (Obj.cells #[Value.string ⟨#[98]⟩, Value.string ⟨#[49]⟩, Value.string ⟨#[97]⟩, Value.string ⟨#[50]⟩] 51)) (.slice (some ⟨w.heap.size, 0, none⟩) 2 2) wl :=
    ⟨_, _, rfl, fun _ => ⟨w.heap.size, 0, rfl, by rw [wl_cells]; exact At.ofAlloc w #[Value.string ⟨#[98]⟩, Value.string ⟨#[49]⟩, Value.string ⟨#[97]⟩, Value.string ⟨#[50]⟩] 51, by simp⟩⟩
  have NW : Calls Try.prog 7 #[.slice (some ⟨w.heap.size, 0, none⟩) 2 2] (w.alloc (Obj.cells #[Value.string ⟨#[98]⟩, Value.string ⟨#[49]⟩, Value.string ⟨#[97]⟩, Value.string ⟨#[50]⟩] 51)) (fun e w' => ∃ r b ps, e = .returned (.tuple #[.pointer (some ⟨r, 0, none⟩), .int .i64 0]) ∧ Hid (Rg w' w.heap.size r b ps nilS false wl [0, 0]) ∧ Hid (Below w.heap.size w w')) := by
    refine (new_any wl _ _ hE).mono ?_
    rintro e w1 (⟨-, r, b, ps, rfl, hR1, hB1⟩ | ⟨hbad, -, -⟩)
    · have h0 : w.heap.size ≤ (w.alloc (Obj.cells #[Value.string ⟨#[98]⟩, Value.string ⟨#[49]⟩, Value.string ⟨#[97]⟩, Value.string ⟨#[50]⟩] 51)).heap.size := by simp
      exact ⟨r, b, ps, rfl, { hR1 with ge := ⟨Nat.le_trans h0 hR1.ge.1, Nat.le_trans h0 hR1.ge.2.1, fun p hp => Nat.le_trans h0 (hR1.ge.2.2 p hp)⟩, ow := fun h => by cases h }, ((Below.refl w.heap.size w).alloc (Nat.le_refl _) _).trans (hB1.mono h0)⟩
    · exact absurd wl_new hbad
  replace NW := Lib.hid NW
  clear hE
  go_enter Try.func10, Try.ntmps10
  go_wp2_with (first
    | (go_at_call 7; refine (NW.out).mono ?_; rintro e w1 ⟨r, b, ps, rfl, HR1, HB1⟩)
    | (go_at_call 14; refine (wfindC w2 _ r b ps _ _ HR2.out).mono ?_; rintro e w3 ⟨rfl, hR3, hK3⟩; have HR3 := Lib.hid hR3; have HB3 : Hid (Below w.heap.size w w3) := HB2.out.trans (hK3.to (fun k hk => HR1.out.ge.2.2 k hk) HB2.out.size); clear hR3 hK3)
    | (go_at_call 14; refine (wfindA w1 _ r b ps _ _ HR1.out).mono ?_; rintro e w2 ⟨rfl, hR2, hK2⟩; have HR2 := Lib.hid hR2; have HB2 : Hid (Below w.heap.size w w2) := HB1.out.trans (hK2.to (fun k hk => HR1.out.ge.2.2 k hk) HB1.out.size); clear hR2 hK2)
    | (go_at_call 20; refine (wuses w3 _ r b ps _ _ HR3.out).mono ?_; rintro e w4 ⟨rfl, h4⟩; subst h4)
    | (go_at_call 12; refine (names_any w4 _ r b ps _ _ wl _ HR3.out HB3.out.size).mono ?_; rintro e w5 ⟨v5, u5, rfl, hR5, hK5, hO5, -, -⟩; have HO5 := Lib.hid hO5; have HB5 : Hid (Below w.heap.size w w5) := HB3.out.trans (hK5.to (fun k hk => by rw [hk]; exact HR1.out.ge.1) HB3.out.size); clear hR5 hK5 hO5)
    | (go_at_call 11; refine (same_any (w5.alloc (Obj.cells #[Value.string ⟨#[97]⟩, Value.string ⟨#[98]⟩] 9)) (srt wl) [[97], [98]] u5 (.slice (some ⟨w5.heap.size, 0, none⟩) 2 2) (Sl.of (B := w4.heap.size) (by rw [srt_len]; exact HO5.out.alloc _)) ⟨_, _, rfl, fun _ => ⟨w5.heap.size, rfl, At.ofAlloc w5 #[Value.string ⟨#[97]⟩, Value.string ⟨#[98]⟩] 9, by simp⟩⟩ (by rw [srt_len]; decide)).mono ?_; rintro e w6 ⟨rfl, hB6⟩; rw [show decide (srt wl = [[97], [98]]) = true by rw [wl_srt]; simp]; have HB6 : Hid (Below w.heap.size w w6) := ((HB5.out.alloc HB5.out.size _).trans (hB6.mono (by have := HB5.out.size; simp; omega))); clear hB6))
  go_ret
  exact ⟨rfl, HB6.out⟩
end Rn
end Go.Proofs.Ytcegihdgnbjclaa
