/- Keys by their names: the names are collected and sorted (the closure that Once calls). -/
import Derived.Test.YtcegihdgnbjclaaRnS
import Derived.Test.YtcegihdgnbjclaaShg
import Derived.Deep.CutRange
namespace Go.Proofs.Ytcegihdgnbjclaa
open Go.RowKit Go.Maps Go.Sort
open Go.Proofs (encStr)
set_option linter.unusedVariables false
set_option linter.unusedSimpArgs false
namespace Rn
theorem own_form2 {w : World} {B e size n : Nat} {v : Value} {xs : List Value} (h : w.ownsRow B e size v n xs) : ∃ a c, v = .slice a n c ∧ (0 < n → ∃ g, a = some ⟨g, 0, none⟩) := own_form h
theorem grown_set2 (w : World) (a : Addr) (u : Value) : w.grownBy (w.setCell a u) (some a.block) := ⟨rfl, rfl, rfl, by simp [World.setCell], fun k hk hne => Below.heap_setCell _ _ _ _ (fun h => hne (by rw [h]))⟩
theorem Kp.grown {S : Nat → Prop} {w w1 w2 : World} {row : Option Nat} (h : Kp S w w1) (hg : w1.grownBy w2 row) (hr : ∀ k, row = some k → k < w.heap.size → S k) : Kp S w w2 :=
  ⟨hg.os.trans h.os, hg.tape.trans h.tape, hg.output.trans h.output, Nat.le_trans h.size hg.size, fun k hk hS => (hg.block k (Nat.lt_of_lt_of_le hk h.size) (fun e => hS (hr k e.symm hk))).trans (h.keep k hk hS)⟩
theorem Kp.set {S : Nat → Prop} {w w1 : World} (h : Kp S w w1) (a : Addr) (u : Value) (hS : a.block < w.heap.size → S a.block) : Kp S w (w1.setCell a u) := h.grown (grown_set2 w1 a u) (fun k hk hlt => by cases hk; exact hS hlt)
theorem Kp.alloc {S : Nat → Prop} {w w1 : World} (h : Kp S w w1) (ob : Obj) : Kp S w (w1.alloc ob) := h.grown (World.grownBy_alloc w1 ob none) (fun k hk => by cases hk)
theorem Kp.drewN {S : Nat → Prop} {w w1 : World} (h : Kp S w w1) (n : Nat) : Kp S w (w1.drewN n) := ⟨h.os, h.tape, h.output, h.size, h.keep⟩
theorem Kp.below {S : Nat → Prop} {w w1 w2 : World} {B : Nat} (h : Kp S w w1) (hb : Below B w1 w2) (hB : w1.heap.size ≤ B) : Kp S w w2 :=
  ⟨hb.os.trans h.os, hb.tape.trans h.tape, hb.output.trans h.output, Nat.le_trans h.size hb.size, fun k hk hS => (hb.block k (by have := h.size; omega)).trans (h.keep k hk hS)⟩
theorem Kp.cell {S : Nat → Prop} {w w1 : World} (h : Kp S w w1) {a : Addr} {x : Value} (hc : w.cell? a = some x) (hS : ¬ S a.block) : w1.cell? a = some x := by
  have hlt : a.block < w.heap.size := by
    unfold World.cell? at hc
    cases hh : w.heap[a.block]? with
    | none => rw [hh] at hc; cases hc
    | some ob => exact (Array.getElem?_eq_some_iff.1 hh).1
  have h1 := h.keep a.block hlt hS
  unfold World.cell? at hc ⊢
  rw [h1]
  exact hc
theorem at_cells0 {w : World} {k : Nat} {cs : List Value} (h : At w k 0 cs) : ∀ j u, cs[j]? = some u → w.cell? ((⟨k, 0, none⟩ : Addr).add j) = some u := fun j u hu => by
  have := (h j u hu).1
  by_cases h0 : j = 0
  · subst h0; simpa [Addr.add] using this
  · simpa [Addr.add, h0] using this
def RetClos (w : World) (r b : Nat) (L : List En) (e : Ending) (w' : World) : Prop :=
  e = .returned (.tuple #[]) ∧ ∃ v, Hid (At w' r 0 [.map (some b), .int .u32 0, .int .i32 1, .int .u32 0, v]) ∧ Hid (w'.ownsRow w.heap.size 9 1 v L.length ((srt L).map encStr)) ∧ Hid (Kp (fun k => k = r) w w')
theorem one_encStr {w : World} {k : Nat} (x : List UInt8) (h : w.cell? ⟨k, 0, none⟩ = some (encStr x)) : ∀ j u, [encStr x][j]? = some u → w.cell? ((⟨k, 0, none⟩ : Addr).add j) = some u := fun j u hu => by
  cases j with
  | zero => cases hu; simpa [Addr.add] using h
  | succ j => simp at hu
set_option maxRecDepth 100000 in
set_option maxHeartbeats 3200000 in
theorem clos_any (w : World) (pl r b : Nat) (ps : List Nat) (L : List En) (hp : w.cell? ⟨pl, 0, none⟩ = some (.pointer (some ⟨r, 0, none⟩))) (hpr : pl ≠ r)
    (hA : At w r 0 [.map (some b), .int .u32 0, .int .i32 1, .int .u32 0, .slice none 0 0]) (hM : Pm w b ps L) (hnd : (names L).Nodup) (hL : L.length ≤ 64) :
    Calls Try.prog 30 #[.pointer (some ⟨pl, 0, none⟩)] w (RetClos w r b L) := by
  obtain ⟨i0, hi, hz0, hz1, hz2⟩ := info_parts infoS
  have hbr := hM.ne_at hA
  have hrs := hA.lt (by simp)
  obtain ⟨D, hown, hat, hhas, hsz⟩ := hM
  have HD := Lib.hid (And.intro hhas hsz)
  have HAA := Lib.hid hA
  have HND := Lib.hid (And.intro hnd hL)
  have HRS := Lib.hid (And.intro hbr (And.intro hrs hpr))
  have a0 := hA.cell 0 _ rfl
  rw [Nat.zero_add] at a0
  have HP := Lib.hid hp
  have HOWN := Lib.hid hown
  clear hhas hsz hat hA hnd hL hbr hrs hpr
  go_enter Try.func30, Try.ntmps30
  go_wp2_with (first | (at_range; refine wpList_range_own _ rfl _ 52 rfl 9 67 strK Try.underlying52 ptrElem b _ D rfl hown ?_; intro w0 hrg0 hg0 hs0) | go_in)
  go_frame
  obtain ⟨H0, hH0⟩ : ∃ k, w.heap.size = k := ⟨_, rfl⟩
  rw [hH0] at hrg0
  try rw [hH0]
  have HH0 := Lib.hid hH0
  have HWS : Hid (H0 ≤ w0.heap.size) := by show _ ≤ _; rw [hs0, hH0]; omega
  have HK0 : Hid (Kp (fun k => k = r) w w0) := (Kp.refl _ w).grown hg0 (fun k hk => by cases hk)
  have HA0 : Hid (At w0 r 0 [.map (some b), .int .u32 0, .int .i32 1, .int .u32 0, .slice none 0 0]) := At.grown HAA.out hg0 HRS.out.2.1 (by simp)
  have HRG0 := Lib.hid hrg0
  clear hp hown a0 hrg0 hg0 hs0 hH0
  go_loopw [1] (fun _ wr => ∃ left cnt ss v, Hid (wr.ranges Try.prog 9 ptrElem b H0 L.length D left cnt) ∧ Hid (Collected D left ss) ∧ Hid (ss.length + cnt ≤ L.length) ∧ Hid (At wr r 0 [.map (some b), .int .u32 0, .int .i32 1, .int .u32 0, v]) ∧ Hid (wr.ownsRow H0 9 1 v ss.length (ss.map encStr)) ∧ Hid (Kp (fun k => k = r) w wr) ∧ Hid (H0 ≤ wr.heap.size)) (fun _ wr => wr.rangeLeft b H0)
  case atStart => exact ⟨_, _, [], _, HRG0, Collected.start D, by show _ ≤ _; rw [HD.out.2]; simp, HA0, World.ownsRow_nil _ _ _ _, HK0, HWS⟩
  case round =>
    obtain ⟨left, cnt, ss, v, HRG, HC, HCN, HA, HOW, HK, HWR⟩ := hrel
    have hp1 := HK.out.cell HP.out (fun h => HRS.out.2.2 h)
    have a4 := HA.out.cell 4 _ rfl
    rw [Nat.zero_add] at a4
    go_wp2_with (first
      | (at_next; refine wpList_next_ranges _ rfl _ rfl 9 strK ptrElem encStr pv (fun key kl hk => by obtain ⟨x, hx, _⟩ := Maps.keyOf_str Try.underlying9 hk; exact ⟨x, hx⟩) (fun v y hv => by obtain ⟨c, hc, _⟩ := ptrElem_inv hv; exact ⟨c, hc⟩) b H0 L.length _ _ _ rfl HRG.out ?_ ?_)
      | go_in)
    · intro hc0 hl0
      have hperm : ss.Perm (names L) := (List.perm_ext_iff_of_nodup HC.out.1 HND.out.1).2 (fun x => by
        rw [HC.out.2 x, hl0, HD.out.1]; simp)
      have hsl : ss.length = L.length := by rw [hperm.length_eq, names, List.length_map]
      have hsrt : ss.mergeSort leB = srt L := mergeSort_of_perm hperm
      have HSR := Lib.hid (And.intro hsl hsrt)
      clear hperm hsrt hc0 hl0
      rcases HOW.out.2 with ⟨rfl, h0⟩ | ⟨g, cap, cur, rfl, hbase, hb, h1, h2, h3, h4⟩
      · obtain rfl : ss = [] := List.length_eq_zero_iff.1 h0
        clear h0 hsl
        go_wp2_with (go_at_call 31; refine (Sslices_Sort_string_none none 0 _).mono ?_; rintro e w' ⟨rfl, rfl⟩)
        go_end0
        refine ⟨rfl, _, HA, ?_, HK⟩
        have h9 := HSR.out
        show World.ownsRow _ _ _ _ _ _ _
        rw [← h9.1, ← h9.2, HH0.out]
        rw [show ([] : List (List UInt8)).mergeSort leB = [] by simp]
        exact HOW.out
      · have hH : Holds encStr wr g 0 ss.toArray := holds_of_block hb (by simpa using h4)
        have hgl : g < wr.heap.size := (Array.getElem?_eq_some_iff.1 hb).1
        have hss : ss.length < 4611686018427387904 := by have := HND.out.2; omega
        have HX := Lib.hid (And.intro hbase (And.intro hb (And.intro h1 (And.intro h2 (And.intro h3 h4)))))
        clear hbase hb h1 h2 h3 h4 hsl
        go_wp2_with (go_at_call 31; refine (Sslices_Sort_string g 0 cap ss wr hH hgl hss).mono ?_; rintro e w' ⟨rfl, nn, os, rfl⟩)
        go_end0
        obtain ⟨hbase, hb, h1, h2, h3, h4⟩ := HX.out
        have hgr := grownBy_sorted (w := wr) (g := g) (n := nn) (os := os) (ss.mergeSort fun x y => decide (x ≤ y)).toArray
        have hgr0 : g ≠ r := by have := HRS.out.2.1; have := HH0.out; omega
        refine ⟨rfl, _, At.grown HA.out hgr (HA.out.lt (by simp)) (by intro e; cases e; exact hgr0 rfl), ?_, HK.out.grown hgr (fun k hk hlt => by cases hk; have := HH0.out; omega)⟩
        show World.ownsRow _ _ _ _ _ _ _
        rw [← HSR.out.1, ← HSR.out.2, HH0.out]
        have h9 := ownsRow_sorted (n := nn) (os := os) (ts := ss.mergeSort fun x y => decide (x ≤ y)) (by rw [List.length_mergeSort]) hbase hb h1 h2 h3
        exact h9
    · intro x c kl yd yp w2 cnt2 hkey hlk hv hat hrg2 hlt hg2 hs2 hen
      obtain ⟨x', ex, rfl, hxl⟩ := Maps.keyOf_str Try.underlying9 hkey
      obtain rfl : x = x' := encStr_inj ex
      have hrow2 := HOW.out.kept hg2 (Or.inr (row_ne_iter HOW.out HRG.out).symm)
      have hrH : r < H0 := by have := HRS.out.2.1; have := HH0.out; omega
      have hA2 := At.grown HA.out hg2 (HA.out.lt (by simp)) (by intro e; cases e; omega)
      have hK2 := HK.out.grown hg2 (fun k hk hlt => by cases hk; have := HH0.out; omega)
      have hbH : b < H0 := by have h9 := HOWN.out.lt; have := HH0.out; omega
      have hw2 : H0 ≤ w2.heap.size := by have := HWR.out; rw [hs2]; exact this
      have HC2 := Lib.hid (HC.out.step hlk hat)
      have HCN2 : Hid ((ss ++ [x]).length + cnt2 ≤ L.length) := by show _ ≤ _; have h9 := HCN.out; rw [List.length_append, List.length_singleton]; omega
      have HXL := Lib.hid hxl
      have HLT := Lib.hid hlt
      obtain ⟨m, hm⟩ : ∃ m, ss.length = m := ⟨_, rfl⟩
      have hm64 : m ≤ 64 := by have h9 := HCN.out; have := HND.out.2; omega
      rw [hm] at hrow2
      have hp2 := hK2.cell HP.out (fun h => HRS.out.2.2 h)
      have hp2a : ∀ ob : Obj, (w2.alloc ob).cell? ⟨pl, 0, none⟩ = some (.pointer (some ⟨r, 0, none⟩)) := fun ob => (hK2.alloc ob).cell HP.out (fun h => HRS.out.2.2 h)
      have c4 := hA2.cell 4 _ rfl
      have c4a : ∀ ob : Obj, (w2.alloc ob).cell? ⟨r, 0 + 4, none⟩ = some v := fun ob => (hA2.alloc ob).cell 4 _ rfl
      have HR2 := Lib.hid hrow2
      have HA2 := Lib.hid hA2
      have HK2 := Lib.hid hK2
      have HRG2 := Lib.hid hrg2
      have HM := Lib.hid (And.intro hm (And.intro hm64 (And.intro hrH (And.intro hbH hw2))))
      have HSD : Hid (∀ ob : Obj, ((World.drew w2).alloc ob).ownsRow H0 9 1 v m (ss.map encStr)) := Lib.hid (fun ob => (own_drewN hrow2 1).alloc ob)
      rw [Nat.zero_add] at c4
      simp only [Nat.zero_add] at c4a
      clear hs2 hkey hlk hv hat hg2 hlt hxl ex hrow2 hA2 hK2 hrg2 hm hm64 hrH hbH hw2 hp1 a4
      have STEP : ∀ (w5 : World), ((w2.drewN 1).alloc (Obj.cells #[encStr x] 9)).grownBy w5 v.ownBlock → At w5 r 0 [.map (some b), .int .u32 0, .int .i32 1, .int .u32 0, v] ∧ Kp (fun k => k = r) w w5 ∧ w5.ranges Try.prog 9 ptrElem b H0 L.length D (fun z => left z && !z.sameKey (Lit.string x)) cnt2 ∧ H0 ≤ w5.heap.size := fun w5 hgrow5 => by
        have hm := HM.out
        have hJA := (HA2.out.drewN 1).alloc (Obj.cells #[encStr x] 9)
        refine ⟨At.grown hJA hgrow5 (hJA.lt (by simp)) (fun e => by have := (HR2.out.lt r e).1; omega), ((HK2.out.drewN 1).alloc (Obj.cells #[encStr x] 9)).grown hgrow5 (fun k hk hlt => by have := (HR2.out.lt k hk).1; have := HH0.out; omega), World.ranges.kept (w := (w2.drewN 1).alloc (Obj.cells #[encStr x] 9)) (HRG2.out.alloc (Obj.cells #[encStr x] 9)) hgrow5 (row_ne_low HR2.out hm.2.2.2.1) (row_ne_iter HR2.out HRG2.out), ?_⟩
        have h9 := hgrow5.size
        simp at h9
        omega
      have STEPH := Lib.hid STEP
      clear STEP
      go_wp2_with fail
      go_region_law (refine step_append_gen rfl (.tmp 15) (.tmp 17) 33 ?_ H0 9 i0 (.string ByteArray.empty) 1 16 ?_ ?_ ?_ ?_ ?_ ?_ ?_ v m (ss.map encStr) ?_ ?_ w2.heap.size 1 1 [encStr x] ?_ ?_ ?_ ?_ ?_ ?_ ?_ ?_; (focus rfl); exact Try.underlying33; exact hi; exact hz0; exact hz1; exact hz2; (focus rfl); decide; (focus rfl); exact HSD.out _; (focus rfl); (focus rfl); exact (at_cells0 (At.ofAlloc (w2.drewN 1) #[encStr x] 9)); (intro u hu; simp at hu; subst hu; rfl);  (have := HM.out; unfold maxLen; omega); (have := HM.out; omega); (have := HM.out; simp; omega); intro v5 w5 hown5 hgrow5; obtain ⟨a5, c5, hv5, -⟩ := own_form hown5; subst hv5; obtain ⟨hA5, hK5, hG5, hS5⟩ := STEPH.out w5 hgrow5; have f45 := hA5.froz 4 (by show 4 < 5; decide); have c45 := hA5.cell 4 _ rfl; have p5 := hK5.cell HP.out (fun h => HRS.out.2.2 h); rw [Nat.zero_add] at f45 c45; have HA5 := Lib.hid hA5; have HK5 := Lib.hid hK5; have HG5 := Lib.hid hG5; have HO5 := Lib.hid hown5; have HS5 := Lib.hid hS5; clear hA5 hK5 hG5 hown5 hgrow5 hS5)
      all_goals
        go_wp2_with fail
        go_roundw
        case rel =>
          refine ⟨_, cnt2, ss ++ [x], .slice a5 (m + 1) c5, ?_, HC2, HCN2, ?_, ?_, ?_, ?_⟩
          · exact HG5.out.kept (grown_set2 w5 ⟨r, 4, none⟩ _) (by intro e; cases e; exact HRS.out.1 rfl) (fun e => Nat.lt_irrefl _ (Nat.lt_of_lt_of_eq HM.out.2.2.1 (Option.some.inj e)))
          · have h9 := HA5.out.set 4 (.slice a5 (m + 1) c5)
            rw [Nat.zero_add] at h9
            exact h9
          · show World.ownsRow _ _ _ _ _ _ _
            rw [List.length_append, List.length_singleton, HM.out.1, List.map_append]
            exact own_set HO5.out _ _ (fun k hk e => by have h8 := (HO5.out.lt k hk).1; have h9 := HM.out.2.2.1; have : r = k := e; omega)
          · exact HK5.out.set ⟨r, 4, none⟩ _ (fun _ => rfl)
          · show H0 ≤ (w5.setCell _ _).heap.size
            rw [World.size_setCell]
            exact HS5.out
        case measure =>
          rw [HRG.out.left_eq]
          have h9 := HG5.out.kept (grown_set2 w5 ⟨r, 4, none⟩ (.slice a5 (m + 1) c5)) (by intro e; cases e; exact HRS.out.1 rfl) (fun e => Nat.lt_irrefl _ (Nat.lt_of_lt_of_eq HM.out.2.2.1 (Option.some.inj e)))
          rw [h9.left_eq]
          exact HLT.out
end Rn
end Go.Proofs.Ytcegihdgnbjclaa
