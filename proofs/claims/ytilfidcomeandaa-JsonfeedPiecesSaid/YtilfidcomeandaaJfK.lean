/- A feed of values in memory: New, State, End; a feed that is not there. -/
import Derived.Test.YtilfidcomeandaaJfJ
namespace Go.Proofs.Ytilfidcomeandaa
open Go.RowKit
set_option linter.unusedVariables false
set_option linter.unusedSimpArgs false
namespace Jf
open Js
open Dr (Rs Lm has lack)
def RetNew (d i b r : Int) (w : World) (e : Ending) (w' : World) : Prop := ∃ g, e = .returned (.tuple #[.pointer (some ⟨g, 0, none⟩), .int .i64 0]) ∧ w.heap.size ≤ g ∧ Hid (FM w' g (g + 1) (limL d i b) r f0) ∧ Hid (Below w.heap.size w w')
set_option maxRecDepth 100000 in
set_option maxHeartbeats 1600000 in
theorem new_yes (d i b r : Int) (w : World) (hm : mayOk d i b r = true) :
    Calls Try.prog 9 #[.agg #[.int .i64 d, .int .i64 i, .int .i64 b, .int .i64 r]] w (RetNew d i b r w) := by
  have h1 := mayOk_yes hm
  have MA := Lib.hid (fun w => may_any d i b r w)
  rw [hm] at MA
  have HD : Hid (((limL d i b).depth : Int) = d ∧ ((limL d i b).items : Int) = i ∧ ((limL d i b).bytes : Int) = b) := ⟨by show ((d.toNat : Nat) : Int) = d; omega, by show ((i.toNat : Nat) : Int) = i; omega, by show ((b.toNat : Nat) : Int) = b; omega⟩
  have HB0 : Hid (Below w.heap.size w (w.alloc (Obj.cells #[.int .i64 d, .int .i64 i, .int .i64 b, .int .i64 r] 24))) := (Below.refl _ _).alloc (Nat.le_refl _) _
  have HL0 := Lib.hid (Lm4.ofAlloc w d i b r)
  obtain ⟨B, hB⟩ : ∃ B, w.heap.size = B := ⟨_, rfl⟩
  rw [hB] at HL0
  have HBB := Lib.hid hB
  clear h1 hm
  go_enter Try.func9, Try.ntmps9
  go_wp2_with fail
  try rw [hB]
  clear hB
  obtain ⟨w0, hw0⟩ : ∃ x, w.alloc (Obj.cells #[.int .i64 d, .int .i64 i, .int .i64 b, .int .i64 r] 24) = x := ⟨_, rfl⟩
  rw [hw0] at HL0 HB0
  rw [hw0]
  clear hw0
  refine (MA.out _).mono ?_
  rintro e w1 ⟨rfl, hb1⟩
  have HB1 : Hid (Below w.heap.size w w1) := HB0.out.trans (hb1.mono HB0.out.size)
  have HL1 := Lib.hid (HL0.out.below hb1)
  clear hb1
  have l0 := HL1.out.at0.cell 0 _ rfl
  have l1 := HL1.out.at0.cell 1 _ rfl
  have l2 := HL1.out.at0.cell 2 _ rfl
  have l3 := HL1.out.at0.cell 3 _ rfl
  rw [Nat.zero_add] at l0 l1 l2 l3
  go_wp2_with fail
  go_ret2
  refine ⟨w1.heap.size, rfl, HB1.out.size, ⟨[], .slice none 0 0, .slice none 0 0, .nilIface, 0, ⟨?_, World.ownsRow_nil _ _ _ _, World.ownsRow_nil _ _ _ _, .nil, rfl, Nat.lt_succ_self _, by simp⟩, fun x hx => by cases hx⟩, HB1.out.alloc HB1.out.size _⟩
  show At _ _ 0 [.int .i64 ((limL d i b).depth : Int), .int .i64 ((limL d i b).items : Int), .int .i64 ((limL d i b).bytes : Int), .int .i64 r, .int .i64 0, .slice none 0 0, .slice none 0 0, .int .i64 0, .nilIface, .bool false, .int .i64 0, .int .i64 0, .int .i64 0]
  rw [HD.out.1, HD.out.2.1, HD.out.2.2]
  exact At.ofAlloc w1 #[.int .i64 d, .int .i64 i, .int .i64 b, .int .i64 r, .int .i64 0, .slice none 0 0, .slice none 0 0, .int .i64 0, .nilIface, .bool false, .int .i64 0, .int .i64 0, .int .i64 0] 48
set_option maxRecDepth 100000 in
set_option maxHeartbeats 1600000 in
theorem new_no (d i b r : Int) (w : World) (hm : mayOk d i b r = false) :
    Calls Try.prog 9 #[.agg #[.int .i64 d, .int .i64 i, .int .i64 b, .int .i64 r]] w (fun e w' => e = .returned (.tuple #[.pointer none, .int .i64 2]) ∧ Below w.heap.size w w') := by
  have MA := Lib.hid (fun w => may_any d i b r w)
  rw [hm] at MA
  have HB0 : Hid (Below w.heap.size w (w.alloc (Obj.cells #[.int .i64 d, .int .i64 i, .int .i64 b, .int .i64 r] 24))) := (Below.refl _ _).alloc (Nat.le_refl _) _
  clear hm
  go_enter Try.func9, Try.ntmps9
  go_wp2_with (first | (go_at_call 18; refine (MA.out _).mono ?_; rintro e w1 ⟨rfl, hb1⟩; have HB1 : Hid (Below w.heap.size w w1) := HB0.out.trans (hb1.mono HB0.out.size); clear hb1))
  go_ret2
  exact ⟨rfl, HB1.out⟩
set_option maxRecDepth 100000 in
set_option maxHeartbeats 1600000 in
theorem state_any (w : World) (g β : Nat) (L : Lm) (ro : Int) (f : Fs) (h : FM w g β L ro f) (hd : 0 < L.depth) :
    Calls Try.prog 15 #[.pointer (some ⟨g, 0, none⟩)] w (fun e w' => e = .returned (.tuple #[.int .i64 (f.taken : Int), .int .i64 (f.frames : Int)]) ∧ ∃ k, w' = w.drewN k) := by
  obtain ⟨vV, cc, cap, nx, vH, nm, a, pl, hA, hgb, hbs, -⟩ := h.cells
  have NO := Lib.hid (fnone_any w g _ L.depth hA hd)
  have c4 := hA.cell 4 _ rfl
  have c6 := hA.cell 6 _ rfl
  generalize f.taken = tk at *
  generalize f.frames = fr at *
  clear h hA
  go_enter Try.func15, Try.ntmps15
  go_wp2_with (first | (go_at_call 19; refine NO.out.mono ?_; rintro e w1 ⟨rfl, rfl⟩))
  go_quiet (fail)
  go_wp2_with fail
  go_ret2
  exact ⟨rfl, _, rfl⟩
/-- a list of values is handed back -/
def RetVs (l : List Vl) (w : World) (e : Ending) (w' : World) : Prop := ∃ v, e = .returned v ∧ w'.ownsRow w.heap.size 62 3 v l.length (vcells l) ∧ Below w.heap.size w w'
theorem run_eql_sv (a : Addr) (n c : Nat) (w : World) : (binOp BinOp.eql 32 (.slice (some a) n c) (.slice none 0 0)).run Try.prog w = .ok (.bool false) w := by
  kernel_rfl
theorem run_eql_sn (w : World) : (binOp BinOp.eql 32 (.slice none 0 0) (.slice none 0 0)).run Try.prog w = .ok (.bool true) w := by
  kernel_rfl
set_option maxRecDepth 100000 in
set_option maxHeartbeats 1600000 in
theorem clone_ne (l : List Vl) (g cap : Nat) (w : World) (hA : At w g 0 (vcells l)) (hg : l ≠ [] → g < w.heap.size) (hn : l.length ≤ 4096) : Calls Try.prog 24 #[.slice (some ⟨g, 0, none⟩) l.length cap] w (RetVs l w) := by
  obtain ⟨i0, hi, hq⟩ := Option.map_eq_some_iff.1 infoVl
  simp only [Prod.mk.injEq] at hq
  obtain ⟨hz0, hz1, hz2⟩ := hq
  obtain ⟨n, hn0⟩ : ∃ n, l.length = n := ⟨_, rfl⟩
  have HA := Lib.hid (And.intro hA (And.intro hg (And.intro hn hn0)))
  have hlen : (vcells l).length = n * 3 := by rw [vcells_length, hn0, Nat.mul_comm]
  have HLN := Lib.hid hlen
  have HO := Lib.hid (World.ownsRow_lit (base := w.heap.size) (e := 62) (size := 3) w #[] 0 (Nat.le_refl _) (by decide) rfl)
  have hqn := run_eql_sv ⟨g, 0, none⟩ n cap w
  rw [hn0]
  clear hA hg hn hn0 hlen
  go_enter Try.func24, Try.ntmps24
  go_wp2_with (at_builtin; refine wpList_append_own _ rfl (.tmp 5) (.tmp 6) 32 rfl w.heap.size 62 i0 _ 3 32 Try.underlying32 hi hz0 hz1 hz2 rfl (by decide) _ 0 [] rfl HO.out ⟨g, 0, none⟩ n cap (vcells l) rfl HLN.out (at_cellsV ((HA.out.1).alloc _)) (vcells_one l) (by have := HA.out.2.2; unfold maxLen; omega) (by have := HA.out.2.2; omega) (by simp) ?_; intro v' w1 hown1 hgrow1 _; have HO1 := Lib.hid hown1; have HB1 : Hid (Below w.heap.size w w1) := Below.grown ((Below.refl _ _).alloc (Nat.le_refl _) _) hgrow1 (by simp) (fun k hk => (HO.out.lt k hk).1); clear hown1 hgrow1)
  go_ret
  exact ⟨v', rfl, by have h1 := HO1.out; rw [Nat.zero_add, List.nil_append] at h1; rw [HA.out.2.2.2]; exact h1, HB1.out⟩
set_option maxRecDepth 100000 in
theorem clone_nil (w : World) : Calls Try.prog 24 #[.slice none 0 0] w (RetVs [] w) := by
  have hqn := run_eql_sn w
  go_enter Try.func24, Try.ntmps24
  go_wp2_with fail
  go_ret
  exact ⟨_, rfl, World.ownsRow_nil _ _ _ _, Below.refl _ _⟩
theorem clone_any (l : List Vl) (B : Nat) (v : Value) (w : World) (ho : w.ownsRow B 62 3 v l.length (vcells l)) (hn : l.length ≤ 4096) : Calls Try.prog 24 #[v] w (RetVs l w) := by
  rcases ho.2 with ⟨rfl, h0⟩ | ⟨g, cap, cur, rfl, _⟩
  · obtain rfl : l = [] := List.eq_nil_of_length_eq_zero h0
    exact clone_nil w
  · exact clone_ne l g cap w (At.ofOwnN ho) (fun _ => (ho.lt g rfl).2) hn
/-! number -/
def numT (s : St) : Option (List UInt8) := match s.hand with | .num wv t => if wholeN wv = true then some t else none | _ => none
def RetN (r : Option (List UInt8)) (w : World) (e : Ending) (w' : World) : Prop := (match r with | some t => e = .returned (.tuple #[.string ⟨t.toArray⟩, .bool true]) | none => e = .returned (.tuple #[.string ⟨#[]⟩, .bool false])) ∧ w = w'
set_option maxRecDepth 100000 in
set_option maxHeartbeats 1600000 in
theorem number_any (w : World) (g β : Nat) (L : Lm) (ro : Int) (s : St) (k : Nat) (h : FmS w g β L ro s k) :
    Calls Try.prog 23 #[.pointer (some ⟨g, 0, none⟩)] w (RetN (numT s) w) := by
  obtain ⟨R, hR⟩ : ∃ R, numT s = R := ⟨_, rfl⟩
  rw [hR]
  rw [numT] at hR
  obtain ⟨B, vV, vS, vH, a, h4, hn⟩ := h
  have hgb := h4.gb
  have hH := h4.hand
  have c8 := h4.at0.cell 8 _ rfl
  cases hh : s.hand with
  | none =>
    rw [hh] at hH hR
    obtain rfl : vH = .nilIface := hH
    have T1 := ta_no4
    have HR : Hid (R = none) := hR.symm
    clear h4 hn hR hh
    go_enter Try.func23, Try.ntmps23
    go_wp2_with fail
    go_ret2
    rw [HR.out]
    exact ⟨rfl, rfl⟩
  | word r =>
    rw [hh] at hH hR
    obtain ⟨q, rfl, -⟩ := hH
    have T1 := ta_no1
    have HR : Hid (R = none) := hR.symm
    clear h4 hn hR hh
    go_enter Try.func23, Try.ntmps23
    go_wp2_with fail
    go_ret2
    rw [HR.out]
    exact ⟨rfl, rfl⟩
  | str x =>
    rw [hh] at hH hR
    obtain ⟨q, rfl, -⟩ := hH
    have T1 := ta_no3
    have HR : Hid (R = none) := hR.symm
    clear h4 hn hR hh
    go_enter Try.func23, Try.ntmps23
    go_wp2_with fail
    go_ret2
    rw [HR.out]
    exact ⟨rfl, rfl⟩
  | num wv t =>
    rw [hh] at hH hR
    dsimp only at hR
    obtain ⟨q, vT, rfl, hN, -⟩ := hH
    have T1 := ta_num
    have WH := Lib.hid (nwhole_any q wv w (by have := hN.at0.cell 0 _ rfl; rw [Nat.zero_add] at this; exact this))
    have TX := Lib.hid (ntext_any q wv t vT w hN)
    cases hw : wholeN wv with
    | false =>
      rw [hw] at hR WH
      have HR : Hid (R = none) := hR.symm
      clear h4 hn hR hh hN hw
      go_enter Try.func23, Try.ntmps23
      go_wp2_with (first | (go_at_call 41; refine WH.out.mono ?_; rintro e w1 ⟨rfl, rfl⟩))
      go_ret2
      rw [HR.out]
      exact ⟨rfl, rfl⟩
    | true =>
      rw [hw] at hR WH
      have HR : Hid (R = some t) := hR.symm
      clear h4 hn hR hh hN hw
      go_enter Try.func23, Try.ntmps23
      go_wp2_with (first | (go_at_call 41; refine WH.out.mono ?_; rintro e w1 ⟨rfl, rfl⟩) | (go_at_call 42; refine TX.out.mono ?_; rintro e w1 ⟨rfl, rfl⟩))
      go_ret2
      rw [HR.out]
      exact ⟨rfl, rfl⟩
/-! End -/
def RetEnd (f : Fs) (w : World) (e : Ending) (w' : World) : Prop := ∃ v, e = .returned (.tuple #[v, .int .i64 (f.ansP : Int), .int .i64 f.ansE]) ∧ w'.ownsRow w.heap.size 62 3 v f.ansL.length (vcells f.ansL) ∧ Below w.heap.size w w'
theorem below_drewN (B : Nat) (w : World) (k : Nat) : Below B w (w.drewN k) := ⟨rfl, rfl, rfl, Nat.le_refl _, fun _ _ => rfl⟩
set_option maxRecDepth 100000 in
set_option maxHeartbeats 1600000 in
theorem end_dead (w : World) (g β : Nat) (L : Lm) (ro : Int) (c : Int) (q n k : Nat) (h : DeadM w g β L ro c q n k) (hc : c ≠ 0) (hd : 0 < L.depth) :
    Calls Try.prog 13 #[.pointer (some ⟨g, 0, none⟩)] w (RetEnd (.dead c q n k) w) := by
  obtain ⟨vV, cc, cap, nx, vH, nm, a, hA, hgb, hbs⟩ := h
  have NO := Lib.hid (fnone_any w g _ L.depth hA hd)
  have c11 := hA.cell 11 _ rfl
  have c12 := hA.cell 12 _ rfl
  have x1 : (c != 0) = true := by rw [bne_iff_ne]; exact hc
  clear hA hc
  go_enter Try.func13, Try.ntmps13
  go_wp2_with (first | (go_at_call 19; refine NO.out.mono ?_; rintro e w1 ⟨rfl, rfl⟩))
  go_quiet (fail)
  go_wp2_with fail
  go_ret3
  exact ⟨_, rfl, World.ownsRow_nil _ _ _ _, below_drewN _ _ _⟩
section
variable (w : World) (g β : Nat) (L : Lm) (ro : Int) (s : St) (k : Nat)
set_option maxRecDepth 100000 in
set_option maxHeartbeats 1600000 in
theorem end_more (h : FmS w g β L ro s k) (hG : s.G ≠ []) (hd : 0 < L.depth) :
    Calls Try.prog 13 #[.pointer (some ⟨g, 0, none⟩)] w (RetEnd (.run s k) w) := by
  have NU := Lib.hid (number_any w g β L ro s k h)
  have HA : Hid (s.last = none) := by
    show s.last = none
    rw [St.last]
    cases hg : s.G with
    | nil => exact absurd hg hG
    | cons f G => rfl
  obtain ⟨B, vV, vS, vH, a, h4, hn⟩ := h
  have NO := Lib.hid (fnone_any w g _ L.depth h4.at0 hd)
  obtain ⟨aS, cS, rfl, -⟩ := own_form h4.stack
  obtain ⟨m, hm⟩ : ∃ m, s.G.length = m := ⟨_, rfl⟩
  have hm0 : 0 < m := by rw [← hm]; exact List.length_pos_iff.2 hG
  have c11 := h4.at0.cell 11 _ rfl
  have c4 := h4.at0.cell 4 _ rfl
  have c6 := h4.at0.cell 6 _ rfl
  rw [hm] at c6
  have e1 : (0 : Int) < (m : Int) := by omega
  obtain ⟨r, hr⟩ : ∃ r, numT s = r := ⟨_, rfl⟩
  rw [hr] at NU
  clear h4 hn hm hr hG
  cases r with
  | none =>
    go_enter Try.func13, Try.ntmps13
    go_wp2_with (first | (go_at_call 19; refine NO.out.mono ?_; rintro e w1 ⟨rfl, rfl⟩) | (go_at_call 23; refine NU.out.mono ?_; rintro e w1 ⟨rfl, rfl⟩))
    go_quiet (fail)
    go_wp2_with fail
    go_ret3
    exact ⟨_, by show _ = Ending.returned (.tuple #[_, .int .i64 ((if s.last.isSome = true then 0 else k : Nat) : Int), .int .i64 (if s.last.isSome = true then 0 else 9)]); rw [HA.out]; rfl, by show World.ownsRow _ _ _ _ _ (s.last.getD []).length (vcells (s.last.getD [])); rw [HA.out]; exact World.ownsRow_nil _ _ _ _, below_drewN _ _ _⟩
  | some t =>
    go_enter Try.func13, Try.ntmps13
    go_wp2_with (first | (go_at_call 19; refine NO.out.mono ?_; rintro e w1 ⟨rfl, rfl⟩) | (go_at_call 23; refine NU.out.mono ?_; rintro e w1 ⟨rfl, rfl⟩))
    go_quiet (fail)
    go_wp2_with fail
    go_ret3
    exact ⟨_, by show _ = Ending.returned (.tuple #[_, .int .i64 ((if s.last.isSome = true then 0 else k : Nat) : Int), .int .i64 (if s.last.isSome = true then 0 else 9)]); rw [HA.out]; rfl, by show World.ownsRow _ _ _ _ _ (s.last.getD []).length (vcells (s.last.getD [])); rw [HA.out]; exact World.ownsRow_nil _ _ _ _, below_drewN _ _ _⟩
set_option maxRecDepth 100000 in
set_option maxHeartbeats 1600000 in
theorem end_lack (h : FmS w g β L ro s k) (hG : s.G = []) (hl : s.last = none) (hr : numT s = none) (h6 : s.nx ≠ 6) (hd : 0 < L.depth) :
    Calls Try.prog 13 #[.pointer (some ⟨g, 0, none⟩)] w (RetEnd (.run s k) w) := by
  have NU := Lib.hid (number_any w g β L ro s k h)
  have HA := Lib.hid hl
  obtain ⟨B, vV, vS, vH, a, h4, hn⟩ := h
  have NO := Lib.hid (fnone_any w g _ L.depth h4.at0 hd)
  obtain ⟨aS, cS, rfl, -⟩ := own_form h4.stack
  have c11 := h4.at0.cell 11 _ rfl
  have c4 := h4.at0.cell 4 _ rfl
  have c6 := h4.at0.cell 6 _ rfl
  have c7 := h4.at0.cell 7 _ rfl
  rw [hG] at c6
  obtain ⟨nx, hnx⟩ : ∃ m, s.nx = m := ⟨_, rfl⟩
  rw [hnx] at c7 h6
  have e1 : ((nx : Int) != 6) = true := by rw [bne_iff_ne]; omega
  rw [hr] at NU
  clear h4 hn hr hG hl h6 hnx
  go_enter Try.func13, Try.ntmps13
  go_wp2_with (first | (go_at_call 19; refine NO.out.mono ?_; rintro e w1 ⟨rfl, rfl⟩) | (go_at_call 23; refine NU.out.mono ?_; rintro e w1 ⟨rfl, rfl⟩))
  go_quiet (fail)
  go_wp2_with fail
  go_ret3
  exact ⟨_, by show _ = Ending.returned (.tuple #[_, .int .i64 ((if s.last.isSome = true then 0 else k : Nat) : Int), .int .i64 (if s.last.isSome = true then 0 else 9)]); rw [HA.out]; rfl, by show World.ownsRow _ _ _ _ _ (s.last.getD []).length (vcells (s.last.getD [])); rw [HA.out]; exact World.ownsRow_nil _ _ _ _, below_drewN _ _ _⟩
set_option maxRecDepth 100000 in
set_option maxHeartbeats 1600000 in
theorem end_ok (h : FmS w g β L ro s k) (hG : s.G = []) (hl : s.last = some s.cur) (hr : numT s = none) (h6 : s.nx = 6) (hd : 0 < L.depth) (hn4 : s.cur.length ≤ 4096) :
    Calls Try.prog 13 #[.pointer (some ⟨g, 0, none⟩)] w (RetEnd (.run s k) w) := by
  have NU := Lib.hid (number_any w g β L ro s k h)
  have HA := Lib.hid hl
  obtain ⟨B, vV, vS, vH, a, h4, hn⟩ := h
  have NO := Lib.hid (fnone_any w g _ L.depth h4.at0 hd)
  obtain ⟨aS, cS, rfl, -⟩ := own_form h4.stack
  have hv := h4.vals
  rw [hG] at hv
  have CL := Lib.hid (clone_any s.cur β vV w hv hn4)
  have c11 := h4.at0.cell 11 _ rfl
  have c5 := h4.at0.cell 5 _ rfl
  have c6 := h4.at0.cell 6 _ rfl
  have c7 := h4.at0.cell 7 _ rfl
  rw [hG] at c6
  rw [h6] at c7
  rw [hr] at NU
  clear h4 hn hr hG hl h6 hv hn4
  go_enter Try.func13, Try.ntmps13
  go_wp2_with (first | (go_at_call 19; refine NO.out.mono ?_; rintro e w1 ⟨rfl, rfl⟩) | (go_at_call 23; refine NU.out.mono ?_; rintro e w1 ⟨rfl, rfl⟩))
  refine CL.out.mono ?_
  rintro e w2 ⟨v, rfl, ho, hb⟩
  have HO := Lib.hid (And.intro ho hb)
  clear ho hb
  go_wp2_with fail
  go_ret3
  exact ⟨v, by show _ = Ending.returned (.tuple #[_, .int .i64 ((if s.last.isSome = true then 0 else k : Nat) : Int), .int .i64 (if s.last.isSome = true then 0 else 9)]); rw [HA.out]; rfl, by show World.ownsRow _ _ _ _ _ (s.last.getD []).length (vcells (s.last.getD [])); rw [HA.out]; exact HO.out.1, HO.out.2⟩
set_option maxRecDepth 100000 in
set_option maxHeartbeats 1600000 in
theorem end_num (h : FmS w g β L ro s k) (hG : s.G = []) (t : List UInt8) (hl : s.last = some (withText t s.cur)) (hr : numT s = some t) (hc : s.cur ≠ []) (hd : 0 < L.depth) (hn4 : s.cur.length ≤ 4096) :
    Calls Try.prog 13 #[.pointer (some ⟨g, 0, none⟩)] w (RetEnd (.run s k) w) := by
  have NU := Lib.hid (number_any w g β L ro s k h)
  have HA := Lib.hid hl
  obtain ⟨B, vV, vS, vH, a, h4, hn⟩ := h
  have NO := Lib.hid (fnone_any w g _ L.depth h4.at0 hd)
  obtain ⟨aS, cS, rfl, -⟩ := own_form h4.stack
  have hv := h4.vals
  rw [hG] at hv
  have CL := Lib.hid (clone_any s.cur β vV w hv hn4)
  obtain ⟨m, hm⟩ : ∃ m, s.cur.length = m + 1 := ⟨s.cur.length - 1, by have := List.length_pos_iff.2 hc; omega⟩
  have c11 := h4.at0.cell 11 _ rfl
  have c5 := h4.at0.cell 5 _ rfl
  have c6 := h4.at0.cell 6 _ rfl
  have c7 := h4.at0.cell 7 _ rfl
  rw [hG] at c6
  rw [hr] at NU
  have e1 : (m : Int) + 1 - 1 = (m : Int) := by omega
  have e2 : IntKind.i64.wrap (m : Int) = (m : Int) := wrap_fit m (by unfold maxLen; omega)
  have e3 : (m : Int) < (m : Int) + 1 := by omega
  have HM := Lib.hid (And.intro hm hc)
  clear h4 hn hr hG hl hv hn4 hm hc
  obtain ⟨nx, hnx⟩ : ∃ m, s.nx = m := ⟨_, rfl⟩
  rw [hnx] at c7
  clear hnx
  by_cases h6 : nx = 6
  case pos =>
    subst h6
    go_enter Try.func13, Try.ntmps13
    go_wp2_with (first | (go_at_call 19; refine NO.out.mono ?_; rintro e w1 ⟨rfl, rfl⟩) | (go_at_call 23; refine NU.out.mono ?_; rintro e w1 ⟨rfl, rfl⟩))
    refine CL.out.mono ?_
    rintro e w2 ⟨v, rfl, ho, hb⟩
    rw [HM.out.1] at ho
    obtain ⟨aV, cV, hvv, hgv⟩ := own_form ho
    obtain ⟨q, rfl⟩ := hgv (by omega)
    subst hvv
    have hAt := value_at (At.ofOwnN ho) m (by rw [HM.out.1]; omega)
    rw [Nat.zero_add] at hAt
    have d2 := hAt.cell 2 _ rfl
    have fd2 := hAt.froz 2 (by show 2 < 3; decide)
    have HO := Lib.hid (And.intro ho hb)
    have HS : Hid (((w2.setCell ⟨q, m * 3 + 2, none⟩ (.string ⟨t.toArray⟩)).ownsRow w.heap.size 62 3 (.slice (some ⟨q, 0, none⟩) (m + 1) cV) (withText t s.cur).length (vcells (withText t s.cur))) ∧ w.heap.size ≤ q) := by
      refine ⟨?_, (ho.lt q rfl).1⟩
      have h9 := (ho.stored (m * 3 + 2) (.string ⟨t.toArray⟩)).1
      rw [vcells_set s.cur m 2 (.string ⟨t.toArray⟩) (fun v => { v with text := t }) (by rw [HM.out.1]; omega) (by decide) rfl] at h9
      rw [withText_length, HM.out.1, withText, HM.out.1]
      exact h9
    clear ho hb hgv hAt
    go_wp2_with fail
    go_ret3
    exact ⟨_, by show _ = Ending.returned (.tuple #[_, .int .i64 ((if s.last.isSome = true then 0 else k : Nat) : Int), .int .i64 (if s.last.isSome = true then 0 else 9)]); rw [HA.out]; rfl, by show World.ownsRow _ _ _ _ _ (s.last.getD []).length (vcells (s.last.getD [])); rw [HA.out]; exact HS.out.1, HO.out.2.setCell (p := ⟨q, _, none⟩) HS.out.2 _⟩
  case neg =>
    have e6 : ((nx : Int) != 6) = true := by rw [bne_iff_ne]; omega
    clear h6
    go_enter Try.func13, Try.ntmps13
    go_wp2_with (first | (go_at_call 19; refine NO.out.mono ?_; rintro e w1 ⟨rfl, rfl⟩) | (go_at_call 23; refine NU.out.mono ?_; rintro e w1 ⟨rfl, rfl⟩))
    refine CL.out.mono ?_
    rintro e w2 ⟨v, rfl, ho, hb⟩
    rw [HM.out.1] at ho
    obtain ⟨aV, cV, hvv, hgv⟩ := own_form ho
    obtain ⟨q, rfl⟩ := hgv (by omega)
    subst hvv
    have hAt := value_at (At.ofOwnN ho) m (by rw [HM.out.1]; omega)
    rw [Nat.zero_add] at hAt
    have d2 := hAt.cell 2 _ rfl
    have fd2 := hAt.froz 2 (by show 2 < 3; decide)
    have HO := Lib.hid (And.intro ho hb)
    have HS : Hid (((w2.setCell ⟨q, m * 3 + 2, none⟩ (.string ⟨t.toArray⟩)).ownsRow w.heap.size 62 3 (.slice (some ⟨q, 0, none⟩) (m + 1) cV) (withText t s.cur).length (vcells (withText t s.cur))) ∧ w.heap.size ≤ q) := by
      refine ⟨?_, (ho.lt q rfl).1⟩
      have h9 := (ho.stored (m * 3 + 2) (.string ⟨t.toArray⟩)).1
      rw [vcells_set s.cur m 2 (.string ⟨t.toArray⟩) (fun v => { v with text := t }) (by rw [HM.out.1]; omega) (by decide) rfl] at h9
      rw [withText_length, HM.out.1, withText, HM.out.1]
      exact h9
    clear ho hb hgv hAt
    go_wp2_with fail
    go_ret3
    exact ⟨_, by show _ = Ending.returned (.tuple #[_, .int .i64 ((if s.last.isSome = true then 0 else k : Nat) : Int), .int .i64 (if s.last.isSome = true then 0 else 9)]); rw [HA.out]; rfl, by show World.ownsRow _ _ _ _ _ (s.last.getD []).length (vcells (s.last.getD [])); rw [HA.out]; exact HS.out.1, HO.out.2.setCell (p := ⟨q, _, none⟩) HS.out.2 _⟩
end
theorem end_any (w : World) (g β : Nat) (L : Lm) (ro : Int) (f : Fs) (h : FM w g β L ro f) (hi : FInv L f) (hL : Lok L) :
    Calls Try.prog 13 #[.pointer (some ⟨g, 0, none⟩)] w (RetEnd f w) := by
  cases f with
  | dead c q n k => exact end_dead w g β L ro c q n k h (by rcases hi.1 with h | h <;> omega) hL.p
  | run s k =>
    have hI : Inv L s k := hi.1
    cases hG : s.G with
    | cons t G => exact end_more w g β L ro s k h (by rw [hG]; simp) hL.p
    | nil =>
      have hcl : s.cur.length ≤ 4096 := by have := hI.size; rw [St.size, hG] at this; have h9 : s.cur.length ≤ L.items := this; have := hL.i; omega
      have hla : s.last = match s.hand with | .none => if s.nx = 6 then some s.cur else none | .num wv t => if wholeN wv = true then some (withText t s.cur) else none | _ => none := by rw [St.last, hG]; rfl
      have hnt : numT s = match s.hand with | .num wv t => if wholeN wv = true then some t else none | _ => none := rfl
      have h61 : s.hand ≠ .none → s.nx ≠ 6 := fun hne => by
        rcases hI.nx1 hne with ⟨_, h1 | h1⟩ | ⟨_, _, _, _, _, h1⟩
        · omega
        · have := h1.1; omega
        · omega
      cases hh : s.hand with
      | none =>
        rw [hh] at hla hnt
        by_cases h6 : s.nx = 6
        · exact end_ok w g β L ro s k h hG (by rw [hla]; dsimp only; rw [if_pos h6]) hnt h6 hL.p hcl
        · exact end_lack w g β L ro s k h hG (by rw [hla]; dsimp only; rw [if_neg h6]) hnt h6 hL.p
      | word r =>
        rw [hh] at hla hnt
        exact end_lack w g β L ro s k h hG hla hnt (h61 (by rw [hh]; simp)) hL.p
      | str x =>
        rw [hh] at hla hnt
        exact end_lack w g β L ro s k h hG hla hnt (h61 (by rw [hh]; simp)) hL.p
      | num wv t =>
        rw [hh] at hla hnt
        dsimp only at hla hnt
        by_cases hw : wholeN wv = true
        · rw [if_pos hw] at hla hnt
          exact end_num w g β L ro s k h hG t hla hnt (hI.cur (by rw [hh]; simp)) hL.p hcl
        · rw [if_neg hw] at hla hnt
          exact end_lack w g β L ro s k h hG hla hnt (h61 (by rw [hh]; simp)) hL.p
/-! none -/
set_option maxRecDepth 100000 in
theorem none_nil (w : World) : Calls Try.prog 19 #[.pointer none] w (fun x w' => x = .returned (.bool true) ∧ w = w') := by
  go_enter Try.func19, Try.ntmps19
  go_wp2_with fail
  go_ret
  exact ⟨rfl, rfl⟩
set_option maxRecDepth 100000 in
theorem none_zero (w : World) (g : Nat) (h7 : w.cell? ⟨g, 0, none⟩ = some (.int .i64 0)) : Calls Try.prog 19 #[.pointer (some ⟨g, 0, none⟩)] w (fun x w' => x = .returned (.bool true) ∧ w = w') := by
  go_enter Try.func19, Try.ntmps19
  go_wp2_with fail
  go_ret
  exact ⟨rfl, rfl⟩
section
variable (w : World) (v : Value) (hv : Calls Try.prog 19 #[v] w (fun x w' => x = .returned (.bool true) ∧ w = w'))
include hv
set_option maxRecDepth 100000 in
theorem write_none (s : ByteArray) : Calls Try.prog 11 #[v, .string s] w (fun x w' => x = .returned (.int .i64 1) ∧ w = w') := by
  have NO := Lib.hid hv
  clear hv
  go_enter Try.func11, Try.ntmps11
  go_wp2_with (first | (go_at_call 19; refine NO.out.mono ?_; rintro e w1 ⟨rfl, rfl⟩))
  go_ret
  exact ⟨rfl, rfl⟩
set_option maxRecDepth 100000 in
theorem end_none : Calls Try.prog 13 #[v] w (fun x w' => x = .returned (.tuple #[.slice none 0 0, .int .i64 0, .int .i64 1]) ∧ w = w') := by
  have NO := Lib.hid hv
  clear hv
  go_enter Try.func13, Try.ntmps13
  go_wp2_with (first | (go_at_call 19; refine NO.out.mono ?_; rintro e w1 ⟨rfl, rfl⟩))
  go_ret3
  exact ⟨rfl, rfl⟩
set_option maxRecDepth 100000 in
theorem state_none : Calls Try.prog 15 #[v] w (fun x w' => x = .returned (.tuple #[.int .i64 0, .int .i64 0]) ∧ w = w') := by
  have NO := Lib.hid hv
  clear hv
  go_enter Try.func15, Try.ntmps15
  go_wp2_with (first | (go_at_call 19; refine NO.out.mono ?_; rintro e w1 ⟨rfl, rfl⟩))
  go_ret2
  exact ⟨rfl, rfl⟩
end
end Jf
end Go.Proofs.Ytilfidcomeandaa
