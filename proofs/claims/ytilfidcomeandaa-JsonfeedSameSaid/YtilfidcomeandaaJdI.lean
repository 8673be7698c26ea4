/- json's reader in memory: a value is read. -/
import Derived.Test.YtilfidcomeandaaJdH
namespace Go.Proofs.Ytilfidcomeandaa
open Go.RowKit
set_option linter.unusedVariables false
set_option linter.unusedSimpArgs false
namespace Jd
open Js
open Dr (Rs Lm has lack)
open Jr (Cl sx wx)
theorem nextN0 (b : UInt8) (t : Nat) (ht : b.toNat = t) : nextN 0 b = if t = 45 then some 1 else if t = 48 then some 2 else if 48 ≤ t ∧ t ≤ 57 then some 3 else none := by
  have h45 := u8lit b t ht 45 (by decide)
  have h48 := u8lit b t ht 48 (by decide)
  have hd : isDigit b = decide (48 ≤ t ∧ t ≤ 57) := by rw [isDigit, ht]
  show (if b = 45 then some 1 else if b = 48 then some 2 else if isDigit b = true then some 3 else none) = _
  rw [hd]
  by_cases e1 : t = 45
  · rw [if_pos (show b = 45 from h45.2 e1), if_pos e1]
  rw [if_neg (show ¬ b = 45 from fun e => e1 (h45.1 e)), if_neg e1]
  by_cases e2 : t = 48
  · rw [if_pos (show b = 48 from h48.2 e2), if_pos e2]
  rw [if_neg (show ¬ b = 48 from fun e => e2 (h48.1 e)), if_neg e2]
  by_cases e3 : 48 ≤ t ∧ t ≤ 57
  · rw [if_pos (decide_eq_true e3), if_pos e3]
  · rw [if_neg (by rw [decide_eq_false e3]; decide), if_neg e3]
theorem nextN0_some (b : UInt8) (t : Nat) (ht : b.toNat = t) (h : t = 45 ∨ (48 ≤ t ∧ t ≤ 57)) : ∃ y, nextN 0 b = some y := by
  rw [nextN0 b t ht]
  by_cases e1 : t = 45
  · rw [if_pos e1]; exact ⟨_, rfl⟩
  rw [if_neg e1]
  by_cases e2 : t = 48
  · rw [if_pos e2]; exact ⟨_, rfl⟩
  rw [if_neg e2, if_pos (by omega)]
  exact ⟨_, rfl⟩
theorem JdB.new {w : World} {g : Nat} {s : ByteArray} {L : Lm} {ro : Int} {nx : Nat} {cur : List Vl} {G : List Fr} {p : Nat} {B : List (Option Nat)} (h : JdB w g s L ro nx cur G p B) : some w.heap.size ∉ B := by
  obtain ⟨vV, vS, h4⟩ := h
  intro hb
  have := (h4.maps.ge _ hb).2
  omega
/-- what was done ahead of it -/
theorem RStep.back {st0 st : St} {p0 p g : Nat} {s : ByteArray} {L : Lm} {ro : Int} {w0 w w' : World} {e : Ending} (hc : Cl s.toList L st p st0 p0) (hp : p0 ≤ p) (hb : Below g w0 w) (h : RStep st p g s L ro w e w') : RStep st0 p0 g s L ro w0 e w' := by
  rcases h with ⟨st', p', h1, h2, h3, h4, h5, h6, h7, h8, h9⟩ | ⟨c, q, b, t, k, h1, h2, h3⟩
  · exact .inl ⟨st', p', by omega, h2, h3, h4, h5, Cl.trans h6 hc, h7, h8, hb.trans h9.out⟩
  · exact .inr ⟨c, q, b, t, k, hc _ _ _ h1, h2, hb.trans h3⟩
theorem add_hand {L : Lm} {st st' : St} {p : Nat} {o : Option (List (List UInt8))} (hs : st.hand = .none) (h : st.add L p (if L.depth ≤ st.G.length then .fl 10 p else .go (st.hold o)) = .go st') : st'.hand = .none := by
  rw [St.add] at h
  split at h
  · cases h
  split at h
  · cases h
  cases h
  exact hs
section
variable (w : World) (g : Nat) (s : ByteArray) (L : Lm) (ro : Int) (st : St) (p : Nat) (B : List (Option Nat))
set_option maxRecDepth 100000 in
set_option maxHeartbeats 3200000 in
theorem dvalue_obj (h : JdB w g s L ro st.nx st.cur st.G p B) (hE : Env s L) (hI : Inv L st p) (hsh : st.hand = .none) (hh : has s.toList L p = true) (b : UInt8) (hx : s.toList.getD p 0 = b)
    (ha : st.act L b p = st.add L p (if L.depth ≤ st.G.length then .fl 10 p else .go (st.hold (some [])))) :
    Calls Try.prog 48 #[.pointer (some ⟨g, 0, none⟩), .int .u8 123] w (RStep st p g s L ro w) := by
  have hkd : ∀ f ∈ st.G, f.n ≤ 1000000 := fun f hf => by have := hI.kids f hf; have := (has_lt hh).2; have := hE.b; omega
  have hl : st.G.length ≤ 1000 := by have := hI.deep; have := hE.d; omega
  have HO := Lib.hid (dbegin_any (w.alloc (.map #[] 0)) g s L ro st p B (h.alloc _) hE hh (some []) (some w.heap.size) (.inr ⟨rfl, w.heap.size, rfl, NamesM.made w, h.lt, h.new⟩) 6 3 rfl rfl hl hkd)
  have HBX : Hid (Below g w (w.alloc (.map #[] 0))) := (Below.refl g w).alloc (Nat.le_of_lt h.lt) _
  have hnh : ∀ st', st.add L p (if L.depth ≤ st.G.length then .fl 10 p else .go (st.hold (some []))) = .go st' → st'.hand = .none := fun st' h => add_hand hsh h
  have hmm := @run_makeMap Try.prog
  obtain ⟨R, hR⟩ : ∃ R, st.add L p (if L.depth ≤ st.G.length then .fl 10 p else .go (st.hold (some []))) = R := ⟨_, rfl⟩
  rw [hR] at HO ha hnh
  have HS : Hid (∀ e w', RA R p g s L ro (w.alloc (.map #[] 0)) e w' → RStep st p g s L ro w e w') := fun e w' h => RStep.back (Jr.Cl.refl _ _ _ _) (Nat.le_refl _) HBX.out (RA.step hI hh hx ha hnh h)
  clear h hE hI hsh hh hx ha hkd hl hR hnh HBX
  go_enter Try.func48, Try.ntmps48
  go_wp2_with fail
  refine HO.out.mono ?_
  intro e w4 hR4
  have HS4 := Lib.hid (HS.out e w4 hR4)
  cases R with
  | fl c q =>
    obtain ⟨rfl, hb⟩ := hR4
    go_wp2_with fail
    exact ⟨rfl, HS4.out⟩
  | go st2 =>
    obtain ⟨rfl, hF, hb⟩ := hR4
    go_wp2_with fail
    first | go_end0 | refine bodyPost_ret (results_none rfl _ _ _) rfl ?_
    exact HS4.out
set_option maxRecDepth 100000 in
set_option maxHeartbeats 3200000 in
theorem dvalue_arr (h : JdB w g s L ro st.nx st.cur st.G p B) (hE : Env s L) (hI : Inv L st p) (hsh : st.hand = .none) (hh : has s.toList L p = true) (b : UInt8) (hx : s.toList.getD p 0 = b)
    (ha : st.act L b p = st.add L p (if L.depth ≤ st.G.length then .fl 10 p else .go (st.hold none))) :
    Calls Try.prog 48 #[.pointer (some ⟨g, 0, none⟩), .int .u8 91] w (RStep st p g s L ro w) := by
  have hkd : ∀ f ∈ st.G, f.n ≤ 1000000 := fun f hf => by have := hI.kids f hf; have := (has_lt hh).2; have := hE.b; omega
  have hl : st.G.length ≤ 1000 := by have := hI.deep; have := hE.d; omega
  have HO := Lib.hid (dbegin_any (w) g s L ro st p B h hE hh none none (.inl ⟨rfl, rfl⟩) 5 1 rfl rfl hl hkd)
  have HBX : Hid (Below g w (w)) := Below.refl g w
  have hnh : ∀ st', st.add L p (if L.depth ≤ st.G.length then .fl 10 p else .go (st.hold none)) = .go st' → st'.hand = .none := fun st' h => add_hand hsh h
  obtain ⟨R, hR⟩ : ∃ R, st.add L p (if L.depth ≤ st.G.length then .fl 10 p else .go (st.hold none)) = R := ⟨_, rfl⟩
  rw [hR] at HO ha hnh
  have HS : Hid (∀ e w', RA R p g s L ro (w) e w' → RStep st p g s L ro w e w') := fun e w' h => RStep.back (Jr.Cl.refl _ _ _ _) (Nat.le_refl _) HBX.out (RA.step hI hh hx ha hnh h)
  clear h hE hI hsh hh hx ha hkd hl hR hnh HBX
  go_enter Try.func48, Try.ntmps48
  go_wp2_with fail
  refine HO.out.mono ?_
  intro e w4 hR4
  have HS4 := Lib.hid (HS.out e w4 hR4)
  cases R with
  | fl c q =>
    obtain ⟨rfl, hb⟩ := hR4
    go_wp2_with fail
    exact ⟨rfl, HS4.out⟩
  | go st2 =>
    obtain ⟨rfl, hF, hb⟩ := hR4
    go_wp2_with fail
    first | go_end0 | refine bodyPost_ret (results_none rfl _ _ _) rfl ?_
    exact HS4.out
set_option maxRecDepth 100000 in
set_option maxHeartbeats 3200000 in
theorem dvalue_w116 (h : JdB w g s L ro st.nx st.cur st.G p B) (hE : Env s L) (hI : Inv L st p) (hsh : st.hand = .none) (hh : has s.toList L p = true) (b : UInt8) (hx : s.toList.getD p 0 = b) (hbc : b = 116)
    (ha : st.act L b p = st.add L p (.go (st.begin 2 (.word [114, 117, 101])))) :
    Calls Try.prog 48 #[.pointer (some ⟨g, 0, none⟩), .int .u8 116] w (RStep st p g s L ro w) := by
  have hkd : ∀ f ∈ st.G, f.n ≤ 1000000 := fun f hf => by have := hI.kids f hf; have := (has_lt hh).2; have := hE.b; omega
  have hl : st.G.length ≤ 1000 := by have := hI.deep; have := hE.d; omega
  subst hbc
  have CT := Lib.hid (dword_any w g s L ro st p B h hE hI hsh 116 [114, 117, 101] (by decide) hh hx 2 ha)
  clear h hE hI hsh hh hx ha hkd hl
  go_enter Try.func48, Try.ntmps48
  go_wp2_with fail
  refine CT.out.mono ?_
  rintro e w4 hS
  have HS := Lib.hid hS
  rcases hS with ⟨st', p', h1, h2, h3, h4, h5, h6, rfl, h8, h9⟩ | ⟨c, q, b2, t2, k2, h1, rfl, h3⟩
  · clear h1 h2 h3 h4 h5 h6 h8 h9
    go_wp2_with fail
    first | go_end0 | refine bodyPost_ret (results_none rfl _ _ _) rfl ?_
    exact HS.out
  · clear h1 h3
    go_wp2_with fail
    exact ⟨rfl, HS.out⟩
set_option maxRecDepth 100000 in
set_option maxHeartbeats 3200000 in
theorem dvalue_w102 (h : JdB w g s L ro st.nx st.cur st.G p B) (hE : Env s L) (hI : Inv L st p) (hsh : st.hand = .none) (hh : has s.toList L p = true) (b : UInt8) (hx : s.toList.getD p 0 = b) (hbc : b = 102)
    (ha : st.act L b p = st.add L p (.go (st.begin 1 (.word [97, 108, 115, 101])))) :
    Calls Try.prog 48 #[.pointer (some ⟨g, 0, none⟩), .int .u8 102] w (RStep st p g s L ro w) := by
  have hkd : ∀ f ∈ st.G, f.n ≤ 1000000 := fun f hf => by have := hI.kids f hf; have := (has_lt hh).2; have := hE.b; omega
  have hl : st.G.length ≤ 1000 := by have := hI.deep; have := hE.d; omega
  subst hbc
  have CT := Lib.hid (dword_any w g s L ro st p B h hE hI hsh 102 [97, 108, 115, 101] (by decide) hh hx 1 ha)
  clear h hE hI hsh hh hx ha hkd hl
  go_enter Try.func48, Try.ntmps48
  go_wp2_with fail
  refine CT.out.mono ?_
  rintro e w4 hS
  have HS := Lib.hid hS
  rcases hS with ⟨st', p', h1, h2, h3, h4, h5, h6, rfl, h8, h9⟩ | ⟨c, q, b2, t2, k2, h1, rfl, h3⟩
  · clear h1 h2 h3 h4 h5 h6 h8 h9
    go_wp2_with fail
    first | go_end0 | refine bodyPost_ret (results_none rfl _ _ _) rfl ?_
    exact HS.out
  · clear h1 h3
    go_wp2_with fail
    exact ⟨rfl, HS.out⟩
set_option maxRecDepth 100000 in
set_option maxHeartbeats 3200000 in
theorem dvalue_w110 (h : JdB w g s L ro st.nx st.cur st.G p B) (hE : Env s L) (hI : Inv L st p) (hsh : st.hand = .none) (hh : has s.toList L p = true) (b : UInt8) (hx : s.toList.getD p 0 = b) (hbc : b = 110)
    (ha : st.act L b p = st.add L p (.go (st.begin 0 (.word [117, 108, 108])))) :
    Calls Try.prog 48 #[.pointer (some ⟨g, 0, none⟩), .int .u8 110] w (RStep st p g s L ro w) := by
  have hkd : ∀ f ∈ st.G, f.n ≤ 1000000 := fun f hf => by have := hI.kids f hf; have := (has_lt hh).2; have := hE.b; omega
  have hl : st.G.length ≤ 1000 := by have := hI.deep; have := hE.d; omega
  subst hbc
  have CT := Lib.hid (dword_any w g s L ro st p B h hE hI hsh 110 [117, 108, 108] (by decide) hh hx 0 ha)
  clear h hE hI hsh hh hx ha hkd hl
  go_enter Try.func48, Try.ntmps48
  go_wp2_with fail
  refine CT.out.mono ?_
  rintro e w4 hS
  have HS := Lib.hid hS
  rcases hS with ⟨st', p', h1, h2, h3, h4, h5, h6, rfl, h8, h9⟩ | ⟨c, q, b2, t2, k2, h1, rfl, h3⟩
  · clear h1 h2 h3 h4 h5 h6 h8 h9
    go_wp2_with fail
    first | go_end0 | refine bodyPost_ret (results_none rfl _ _ _) rfl ?_
    exact HS.out
  · clear h1 h3
    go_wp2_with fail
    exact ⟨rfl, HS.out⟩
set_option maxRecDepth 100000 in
set_option maxHeartbeats 3200000 in
theorem dvalue_num45 (h : JdB w g s L ro st.nx st.cur st.G p B) (hE : Env s L) (hI : Inv L st p) (hsh : st.hand = .none) (hh : has s.toList L p = true) (b : UInt8) (hx : s.toList.getD p 0 = b) (y : Nat) (hy : nextN 0 b = some y)
    (ha : st.act L b p = st.add L p (.go (st.begin 3 (.num y [b])))) :
    Calls Try.prog 48 #[.pointer (some ⟨g, 0, none⟩), .int .u8 45] w (RStep st p g s L ro w) := by
  have hkd : ∀ f ∈ st.G, f.n ≤ 1000000 := fun f hf => by have := hI.kids f hf; have := (has_lt hh).2; have := hE.b; omega
  have hl : st.G.length ≤ 1000 := by have := hI.deep; have := hE.d; omega
  have CT := Lib.hid (dnumber_any w g s L ro st p B h hE hI hsh b y hy hh hx ha)
  clear h hE hI hsh hh hx ha hkd hl hy
  go_enter Try.func48, Try.ntmps48
  go_wp2_with fail
  refine CT.out.mono ?_
  rintro e w4 hS
  have HS := Lib.hid hS
  rcases hS with ⟨st', p', h1, h2, h3, h4, h5, h6, rfl, h8, h9⟩ | ⟨c, q, b2, t2, k2, h1, rfl, h3⟩
  · clear h1 h2 h3 h4 h5 h6 h8 h9
    go_wp2_with fail
    first | go_end0 | refine bodyPost_ret (results_none rfl _ _ _) rfl ?_
    exact HS.out
  · clear h1 h3
    go_wp2_with fail
    exact ⟨rfl, HS.out⟩
set_option maxRecDepth 100000 in
set_option maxHeartbeats 3200000 in
theorem dvalue_dig (h : JdB w g s L ro st.nx st.cur st.G p B) (hE : Env s L) (hI : Inv L st p) (hsh : st.hand = .none) (hh : has s.toList L p = true) (b : UInt8) (hx : s.toList.getD p 0 = b) (y : Nat) (hy : nextN 0 b = some y) (t : Nat) (hc : 48 ≤ t ∧ t ≤ 57)
    (ha : st.act L b p = st.add L p (.go (st.begin 3 (.num y [b])))) :
    Calls Try.prog 48 #[.pointer (some ⟨g, 0, none⟩), .int .u8 (t : Int)] w (RStep st p g s L ro w) := by
  have hkd : ∀ f ∈ st.G, f.n ≤ 1000000 := fun f hf => by have := hI.kids f hf; have := (has_lt hh).2; have := hE.b; omega
  have hl : st.G.length ≤ 1000 := by have := hI.deep; have := hE.d; omega
  have CT := Lib.hid (dnumber_any w g s L ro st p B h hE hI hsh b y hy hh hx ha)
  have e45 := eqF (n := t) (c := 45) (by omega)
  have e48 : (48 : Int) ≤ (t : Int) := by omega
  have e57 : (t : Int) ≤ 57 := by omega
  have e34 := eqF (n := t) (c := 34) (by omega)
  have e123 := eqF (n := t) (c := 123) (by omega)
  have e91 := eqF (n := t) (c := 91) (by omega)
  have e116 := eqF (n := t) (c := 116) (by omega)
  have e102 := eqF (n := t) (c := 102) (by omega)
  have e110 := eqF (n := t) (c := 110) (by omega)
  clear h hE hI hsh hh hx ha hkd hl hy
  go_enter Try.func48, Try.ntmps48
  go_wp2_with fail
  refine CT.out.mono ?_
  rintro e w4 hS
  have HS := Lib.hid hS
  rcases hS with ⟨st', p', h1, h2, h3, h4, h5, h6, rfl, h8, h9⟩ | ⟨c, q, b2, t2, k2, h1, rfl, h3⟩
  · clear h1 h2 h3 h4 h5 h6 h8 h9
    go_wp2_with fail
    first | go_end0 | refine bodyPost_ret (results_none rfl _ _ _) rfl ?_
    exact HS.out
  · clear h1 h3
    go_wp2_with fail
    exact ⟨rfl, HS.out⟩
set_option maxRecDepth 100000 in
set_option maxHeartbeats 3200000 in
theorem dvalue_lo (h : JdB w g s L ro st.nx st.cur st.G p B) (hE : Env s L) (hI : Inv L st p) (hsh : st.hand = .none) (hh : has s.toList L p = true) (b : UInt8) (hx : s.toList.getD p 0 = b) (t : Nat) (hc : t ≠ 34 ∧ t ≠ 45 ∧ t < 48)
    (ha : st.act L b p = .fl 9 p) :
    Calls Try.prog 48 #[.pointer (some ⟨g, 0, none⟩), .int .u8 (t : Int)] w (RStep st p g s L ro w) := by
  have hkd : ∀ f ∈ st.G, f.n ≤ 1000000 := fun f hf => by have := hI.kids f hf; have := (has_lt hh).2; have := hE.b; omega
  have hl : st.G.length ≤ 1000 := by have := hI.deep; have := hE.d; omega
  have HR : Hid (RunsT s.toList L st p (.no 9 p false) (p + 1) st.G.length) := fl_at hh hx ha
  have PL := Lib.hid (place_ok w g s L.bytes p h.tx.1)
  have FA := Lib.hid (fun w => fail_at 9 p g w)
  have e45 := eqF (n := t) (c := 45) (by omega)
  have e48 : ¬ (48 : Int) ≤ (t : Int) := by omega
  have e48b : decide ((48 : Int) ≤ (t : Int)) = false := decide_eq_false e48
  have e34 := eqF (n := t) (c := 34) (by omega)
  have e123 := eqF (n := t) (c := 123) (by omega)
  have e91 := eqF (n := t) (c := 91) (by omega)
  have e116 := eqF (n := t) (c := 116) (by omega)
  have e102 := eqF (n := t) (c := 102) (by omega)
  have e110 := eqF (n := t) (c := 110) (by omega)
  clear h hE hI hsh hh hx ha hkd hl
  go_enter Try.func48, Try.ntmps48
  go_wp2_with fail
  refine PL.out.mono ?_
  rintro e w1 ⟨rfl, rfl⟩
  go_wp2_with fail
  refine (FA.out _).mono ?_
  rintro e w1 ⟨rfl, hb⟩
  go_wp2_with fail
  exact ⟨rfl, .inr ⟨_, _, _, _, _, HR.out, rfl, hb⟩⟩
set_option maxRecDepth 100000 in
set_option maxHeartbeats 3200000 in
theorem dvalue_hi (h : JdB w g s L ro st.nx st.cur st.G p B) (hE : Env s L) (hI : Inv L st p) (hsh : st.hand = .none) (hh : has s.toList L p = true) (b : UInt8) (hx : s.toList.getD p 0 = b) (t : Nat) (hc : 57 < t ∧ t ≠ 123 ∧ t ≠ 91 ∧ t ≠ 116 ∧ t ≠ 102 ∧ t ≠ 110)
    (ha : st.act L b p = .fl 9 p) :
    Calls Try.prog 48 #[.pointer (some ⟨g, 0, none⟩), .int .u8 (t : Int)] w (RStep st p g s L ro w) := by
  have hkd : ∀ f ∈ st.G, f.n ≤ 1000000 := fun f hf => by have := hI.kids f hf; have := (has_lt hh).2; have := hE.b; omega
  have hl : st.G.length ≤ 1000 := by have := hI.deep; have := hE.d; omega
  have HR : Hid (RunsT s.toList L st p (.no 9 p false) (p + 1) st.G.length) := fl_at hh hx ha
  have PL := Lib.hid (place_ok w g s L.bytes p h.tx.1)
  have FA := Lib.hid (fun w => fail_at 9 p g w)
  have e45 := eqF (n := t) (c := 45) (by omega)
  have e48 : (48 : Int) ≤ (t : Int) := by omega
  have e57 : ¬ (t : Int) ≤ 57 := by omega
  have e57b : decide ((t : Int) ≤ 57) = false := decide_eq_false e57
  have e34 := eqF (n := t) (c := 34) (by omega)
  have e123 := eqF (n := t) (c := 123) (by omega)
  have e91 := eqF (n := t) (c := 91) (by omega)
  have e116 := eqF (n := t) (c := 116) (by omega)
  have e102 := eqF (n := t) (c := 102) (by omega)
  have e110 := eqF (n := t) (c := 110) (by omega)
  clear h hE hI hsh hh hx ha hkd hl
  go_enter Try.func48, Try.ntmps48
  go_wp2_with fail
  refine PL.out.mono ?_
  rintro e w1 ⟨rfl, rfl⟩
  go_wp2_with fail
  refine (FA.out _).mono ?_
  rintro e w1 ⟨rfl, hb⟩
  go_wp2_with fail
  exact ⟨rfl, .inr ⟨_, _, _, _, _, HR.out, rfl, hb⟩⟩
theorem dvalue_any (h : JdS w g s L ro st p) (hE : Env s L) (hI : Inv L st p) (hsh : st.hand = .none) (hh : has s.toList L p = true) (b : UInt8) (hx : s.toList.getD p 0 = b) (t : Nat) (ht : b.toNat = t) (ha : st.act L b p = st.value L b p) :
    Calls Try.prog 48 #[.pointer (some ⟨g, 0, none⟩), .int .u8 (t : Int)] w (RStep st p g s L ro w) := by
  obtain ⟨B, h⟩ := h
  have hb := u8lit b t ht
  have hnm : st.named = none := (hI.nx0 hsh).2
  rw [St.value] at ha
  by_cases h34 : t = 34
  · subst h34
    have hbc : b = 34 := (hb 34 (by decide)).2 rfl
    rw [if_pos hbc] at ha
    exact dvalue_str w g s L ro st p B h hE hI hsh hnm hh b hx ha
  by_cases h123 : t = 123
  · subst h123
    rw [if_neg (show ¬ b = 34 from fun e => absurd ((hb 34 (by decide)).1 e) (by decide))] at ha
    have hbc : b = 123 := (hb 123 (by decide)).2 rfl
    rw [if_pos hbc] at ha
    exact dvalue_obj w g s L ro st p B h hE hI hsh hh b hx ha
  by_cases h91 : t = 91
  · subst h91
    rw [if_neg (show ¬ b = 34 from fun e => absurd ((hb 34 (by decide)).1 e) (by decide))] at ha
    rw [if_neg (show ¬ b = 123 from fun e => absurd ((hb 123 (by decide)).1 e) (by decide))] at ha
    have hbc : b = 91 := (hb 91 (by decide)).2 rfl
    rw [if_pos hbc] at ha
    exact dvalue_arr w g s L ro st p B h hE hI hsh hh b hx ha
  by_cases h116 : t = 116
  · subst h116
    rw [if_neg (show ¬ b = 34 from fun e => absurd ((hb 34 (by decide)).1 e) (by decide))] at ha
    rw [if_neg (show ¬ b = 123 from fun e => absurd ((hb 123 (by decide)).1 e) (by decide))] at ha
    rw [if_neg (show ¬ b = 91 from fun e => absurd ((hb 91 (by decide)).1 e) (by decide))] at ha
    have hbc : b = 116 := (hb 116 (by decide)).2 rfl
    rw [if_pos hbc] at ha
    exact dvalue_w116 w g s L ro st p B h hE hI hsh hh b hx (by assumption) ha
  by_cases h102 : t = 102
  · subst h102
    rw [if_neg (show ¬ b = 34 from fun e => absurd ((hb 34 (by decide)).1 e) (by decide))] at ha
    rw [if_neg (show ¬ b = 123 from fun e => absurd ((hb 123 (by decide)).1 e) (by decide))] at ha
    rw [if_neg (show ¬ b = 91 from fun e => absurd ((hb 91 (by decide)).1 e) (by decide))] at ha
    rw [if_neg (show ¬ b = 116 from fun e => absurd ((hb 116 (by decide)).1 e) (by decide))] at ha
    have hbc : b = 102 := (hb 102 (by decide)).2 rfl
    rw [if_pos hbc] at ha
    exact dvalue_w102 w g s L ro st p B h hE hI hsh hh b hx (by assumption) ha
  by_cases h110 : t = 110
  · subst h110
    rw [if_neg (show ¬ b = 34 from fun e => absurd ((hb 34 (by decide)).1 e) (by decide))] at ha
    rw [if_neg (show ¬ b = 123 from fun e => absurd ((hb 123 (by decide)).1 e) (by decide))] at ha
    rw [if_neg (show ¬ b = 91 from fun e => absurd ((hb 91 (by decide)).1 e) (by decide))] at ha
    rw [if_neg (show ¬ b = 116 from fun e => absurd ((hb 116 (by decide)).1 e) (by decide))] at ha
    rw [if_neg (show ¬ b = 102 from fun e => absurd ((hb 102 (by decide)).1 e) (by decide))] at ha
    have hbc : b = 110 := (hb 110 (by decide)).2 rfl
    rw [if_pos hbc] at ha
    exact dvalue_w110 w g s L ro st p B h hE hI hsh hh b hx (by assumption) ha
  rw [if_neg (show ¬ b = 34 from fun e => h34 ((hb 34 (by decide)).1 e))] at ha
  rw [if_neg (show ¬ b = 123 from fun e => h123 ((hb 123 (by decide)).1 e))] at ha
  rw [if_neg (show ¬ b = 91 from fun e => h91 ((hb 91 (by decide)).1 e))] at ha
  rw [if_neg (show ¬ b = 116 from fun e => h116 ((hb 116 (by decide)).1 e))] at ha
  rw [if_neg (show ¬ b = 102 from fun e => h102 ((hb 102 (by decide)).1 e))] at ha
  rw [if_neg (show ¬ b = 110 from fun e => h110 ((hb 110 (by decide)).1 e))] at ha
  by_cases h45 : t = 45
  · subst h45
    obtain ⟨y, hy⟩ := nextN0_some b _ ht (.inl rfl)
    rw [hy] at ha
    exact dvalue_num45 w g s L ro st p B h hE hI hsh hh b hx y hy ha
  by_cases h8 : 48 ≤ t ∧ t ≤ 57
  · obtain ⟨y, hy⟩ := nextN0_some b _ ht (.inr h8)
    rw [hy] at ha
    exact dvalue_dig w g s L ro st p B h hE hI hsh hh b hx y hy t h8 ha
  have hy : nextN 0 b = none := by rw [nextN0 b t ht, if_neg h45, if_neg (by omega), if_neg h8]
  rw [hy] at ha
  by_cases h9 : t < 48
  · exact dvalue_lo w g s L ro st p B h hE hI hsh hh b hx t ⟨h34, h45, h9⟩ ha
  · exact dvalue_hi w g s L ro st p B h hE hI hsh hh b hx t ⟨by omega, h123, h91, h116, h102, h110⟩ ha
theorem dname_any (h : JdS w g s L ro st p) (hE : Env s L) (hI : Inv L st p) (hsh : st.hand = .none) (hO : isObj st.G) (hh : has s.toList L p = true) (b : UInt8) (hx : s.toList.getD p 0 = b) (t : Nat) (ht : b.toNat = t) (ha : st.act L b p = st.name L b p) :
    Calls Try.prog 47 #[.pointer (some ⟨g, 0, none⟩), .int .u8 (t : Int)] w (RStep st p g s L ro w) := by
  obtain ⟨B, h⟩ := h
  have hb := u8lit b t ht
  rw [St.name] at ha
  by_cases h34 : t = 34
  · subst h34
    rw [if_pos (show b = 34 from (hb 34 (by decide)).2 rfl)] at ha
    exact dname_yes w g s L ro st p B h hE hI hsh hO hh b hx ha
  · rw [if_neg (show ¬ b = 34 from fun e => h34 ((hb 34 (by decide)).1 e))] at ha
    exact dname_bad w g s L ro st p B h hh b hx t h34 ha
end
end Jd
end Go.Proofs.Ytilfidcomeandaa
