/- package token: a string in memory: a sign told by its number. -/
import Derived.Test.YtpaikjlcachabaaDoorJtE
import Derived.Test.YtpaikjlcachabaaDoorShg
namespace Go.Proofs.YtpaikjlcachabaaDoor
open Go.RowKit
set_option linter.unusedVariables false
set_option linter.unusedSimpArgs false
namespace Js
open Dr (Rs Lm has lack)
theorem u8v (x : Nat) (h : x < 256) : (Value.int .u8 ((UInt8.ofNat x).toNat : Int)) = .int .u8 (x : Int) := by
  rw [UInt8.toNat_ofNat', Nat.mod_eq_of_lt h]
def sur (n : Nat) : Prop := 55296 ≤ n ∧ n ≤ 57343
theorem rune_cells (n : Nat) (h : ¬ (55296 ≤ n ∧ n ≤ 57343)) (h2 : n ≤ 1114111) : Lib.runeCells (n : Int) = bcells (enc8 n) := by
  rw [Lib.runeCells, enc8]
  by_cases h1 : n < 128
  · rw [if_pos h1, Lib.encodeRuneZ_one (by omega) (by omega)]
    show [Value.int .u8 (n : Int)] = [Value.int .u8 ((UInt8.ofNat n).toNat : Int)]
    rw [u8v n (by omega)]
  rw [if_neg h1]
  by_cases h3 : n < 2048
  · rw [if_pos h3, Lib.encodeRuneZ_two (by omega) (by omega)]
    show [Value.int .u8 (192 + (n : Int) / 64), Value.int .u8 (128 + (n : Int) % 64)] = [Value.int .u8 ((UInt8.ofNat (192 + n / 64)).toNat : Int), Value.int .u8 ((UInt8.ofNat (128 + n % 64)).toNat : Int)]
    rw [u8v _ (by omega), u8v _ (by omega)]
    rfl
  rw [if_neg h3]
  by_cases h4 : n < 65536
  · rw [if_pos h4, Lib.encodeRuneZ_three (by omega)]
    show [Value.int .u8 (224 + (n : Int) / 4096), Value.int .u8 (128 + (n : Int) / 64 % 64), Value.int .u8 (128 + (n : Int) % 64)] = [Value.int .u8 ((UInt8.ofNat (224 + n / 4096)).toNat : Int), Value.int .u8 ((UInt8.ofNat (128 + n / 64 % 64)).toNat : Int), Value.int .u8 ((UInt8.ofNat (128 + n % 64)).toNat : Int)]
    rw [u8v _ (by omega), u8v _ (by omega), u8v _ (by omega)]
    rfl
  · rw [if_neg h4, Lib.encodeRuneZ_four (by omega) (by omega)]
    show [Value.int .u8 (240 + (n : Int) / 262144), Value.int .u8 (128 + (n : Int) / 4096 % 64), Value.int .u8 (128 + (n : Int) / 64 % 64), Value.int .u8 (128 + (n : Int) % 64)] = [Value.int .u8 ((UInt8.ofNat (240 + n / 262144)).toNat : Int), Value.int .u8 ((UInt8.ofNat (128 + n / 4096 % 64)).toNat : Int), Value.int .u8 ((UInt8.ofNat (128 + n / 64 % 64)).toNat : Int), Value.int .u8 ((UInt8.ofNat (128 + n % 64)).toNat : Int)]
    rw [u8v _ (by omega), u8v _ (by omega), u8v _ (by omega), u8v _ (by omega)]
    rfl
theorem enc8_len (n : Nat) : 1 ≤ (enc8 n).length ∧ (enc8 n).length ≤ 4 := by
  rw [enc8]
  repeat' split
  all_goals exact ⟨by simp, by simp⟩
def RetRune (h : Nat) (u : List UInt8) (w : World) (e : Ending) (w' : World) : Prop :=
  ∃ a c, e = .returned (.slice a u.length c) ∧ Hid (w'.ownsRow (h + 1) 5 1 (.slice a u.length c) u.length (bcells u)) ∧ Hid (Tk h w w') ∧ Hid (∀ cs, At w h 0 cs → At w' h 0 cs)
theorem arune_any (h : Nat) (v : Value) (t : List UInt8) (n : Nat) (w : World) (hs : ¬ (55296 ≤ n ∧ n ≤ 57343)) (h2 : n ≤ 1114111) (ht : t.length ≤ 140737488351232) (hw : h < w.heap.size) (ho : w.ownsRow (h + 1) 5 1 v t.length (bcells t)) :
    Calls Tryd.prog 99 #[v, .int .i32 (n : Int)] w (RetRune h (t ++ enc8 n) w) := by
  refine (Tryd.utf8_AppendRune_plain (h + 1) v t.length (bcells t) (n : Int) (by omega) (by omega) w ho (by omega) hw).mono ?_
  rintro e w' ⟨v', rfl, ho', o, hg⟩
  rw [rune_cells n hs h2] at ho'
  rw [bcells_length, ← bcells_append] at ho'
  have ho2 : w'.ownsRow (h + 1) 5 1 v' (t ++ enc8 n).length (bcells (t ++ enc8 n)) := by rw [List.length_append]; exact ho'
  obtain ⟨a, c, rfl, -⟩ := own_form ho2
  refine ⟨a, c, rfl, ho2, (((Tk.refl h w).alloc (Nat.le_of_lt hw) o).grown hg (by simp; omega) (u8_at ho (Nat.lt_succ_self h))), fun cs hA => At.grown (hA.alloc o) hg (by simp; omega) (fun e => by have := (ho.lt h e).1; omega)⟩
set_option maxRecDepth 100000 in
set_option maxHeartbeats 1600000 in
theorem numbered_one (h : Nat) (vT : Value) (left : Int) (n : Nat) (low high : Int) (t : List UInt8) (w : World) (hn : n < 65536) (ht : t.length ≤ 140737488351232) (m : Sx w h 2 vT left (n : Int) 0 low high t) :
    Calls Tryd.prog 97 #[.pointer (some ⟨h, 0, none⟩)] w (StrRet h ⟨.hex 1 0 0, t⟩ (numbered t n 0) w) := by
  have HM := Lib.hid m
  have hx0 : Hid (w.ownsRow (h + 1) 5 1 vT t.length (bcells t)) := m.text
  have c0 := m.at0.cell 0 _ rfl
  have c1 := m.at0.cell 1 _ rfl
  have c3 := m.at0.cell 3 _ rfl
  have c4 := m.at0.cell 4 _ rfl
  have f0 := m.at0.froz 0 (by show 0 < 7; decide)
  have f1 := m.at0.froz 1 (by show 1 < 7; decide)
  have f4 := m.at0.froz 4 (by show 4 < 7; decide)
  have hlt := m.lt
  have HSZ := Lib.hid hlt
  have HT := Lib.hid ht
  by_cases h1 : 56320 ≤ n ∧ n ≤ 57343
  · rw [numbered, decide_eq_true h1, decide_eq_false (show ¬ (0 ≠ 0) by decide), if_pos (by decide)]
    have e1 : (56320 : Int) ≤ n := by omega
    have e2 : (n : Int) ≤ 57343 := by omega
    clear h1 hn ht hlt m
    go_enter Tryd.func97, Tryd.ntmps97
    go_wp2_with fail
    go_ret
    exact ⟨rfl, Tk.refl h w⟩
  by_cases h2 : 55296 ≤ n ∧ n ≤ 56319
  · rw [numbered, decide_eq_false h1, decide_eq_false (show ¬ (0 ≠ 0) by decide), if_neg (by decide), if_pos h2]
    have e1 : ¬ (56320 : Int) ≤ n := by omega
    have e3 : (55296 : Int) ≤ n := by omega
    have e4 : (n : Int) ≤ 56319 := by omega
    clear h1 h2 hn ht hlt m
    go_enter Tryd.func97, Tryd.ntmps97
    go_wp2_with fail
    go_ret
    exact ⟨rfl, ⟨_, _, _, _, _, _, _, (HM.out.set (half' := (n : Int)) 4 _ rfl).set (wh' := 3) 0 _ rfl, rfl, rfl⟩, ((Tk.refl h w).setCell (p := ⟨h, 4, none⟩) (Nat.le_refl h) _).setCell (p := ⟨h, 0, none⟩) (Nat.le_refl h) _⟩
  rw [numbered, decide_eq_false h1, decide_eq_false (show ¬ (0 ≠ 0) by decide), if_neg (by decide), if_neg h2, if_neg h1]
  have AR := Lib.hid (fun q => arune_any h vT t n (w.drewN q) (fun h => by omega) (by omega) ht hlt (own_drewN hx0.out q))
  obtain ⟨u, hu⟩ : ∃ u, t ++ enc8 n = u := ⟨_, rfl⟩
  rw [hu] at AR ⊢
  clear hu
  by_cases h3 : n < 55296
  · have e1 : ¬ (56320 : Int) ≤ n := by omega
    have e3 : ¬ (55296 : Int) ≤ n := by omega
    clear h1 h2 h3 hn ht hlt m
    go_enter Tryd.func97, Tryd.ntmps97
    go_wp2_with fail
    go_region_with ((go_at_call 99; refine (AR.out _).mono ?_; rintro e w3 ⟨a3, cp3, rfl, ho3, hb3, hA3⟩; have HA3 : Hid (At w3 h 0 (scells 2 vT left (n : Int) 0 low high)) := Lib.hid (hA3.out _ (HM.out.at0.drewN _)); have HB3 : Hid (Tk h w w3) := Lib.hid ((tk_drewN h w _).trans hb3.out); have g1 := HA3.out.cell 1 _ rfl; have gf1 := HA3.out.froz 1 (by show 1 < 7; decide); have g0 := HA3.out.cell 0 _ rfl; have gf0 := HA3.out.froz 0 (by show 0 < 7; decide); clear hb3 hA3))
    all_goals
      go_wp2_with fail
      go_ret
      exact ⟨rfl, ⟨_, _, _, _, _, _, _, ⟨(HA3.out.set 1 _).set 0 _, ownsRow_setCell_below (ownsRow_setCell_below ho3.out (Nat.lt_succ_self h) _) (Nat.lt_succ_self h) _⟩, rfl, rfl⟩, (HB3.out.setCell (p := ⟨h, 1, none⟩) (Nat.le_refl h) _).setCell (p := ⟨h, 0, none⟩) (Nat.le_refl h) _⟩
  · have e1 : (56320 : Int) ≤ n := by omega
    have e3 : (55296 : Int) ≤ n := by omega
    have e2 : ¬ (n : Int) ≤ 57343 := by omega
    have e4 : ¬ (n : Int) ≤ 56319 := by omega
    clear h1 h2 h3 hn ht hlt m
    go_enter Tryd.func97, Tryd.ntmps97
    go_wp2_with fail
    go_region_with ((go_at_call 99; refine (AR.out _).mono ?_; rintro e w3 ⟨a3, cp3, rfl, ho3, hb3, hA3⟩; have HA3 : Hid (At w3 h 0 (scells 2 vT left (n : Int) 0 low high)) := Lib.hid (hA3.out _ (HM.out.at0.drewN _)); have HB3 : Hid (Tk h w w3) := Lib.hid ((tk_drewN h w _).trans hb3.out); have g1 := HA3.out.cell 1 _ rfl; have gf1 := HA3.out.froz 1 (by show 1 < 7; decide); have g0 := HA3.out.cell 0 _ rfl; have gf0 := HA3.out.froz 0 (by show 0 < 7; decide); clear hb3 hA3))
    all_goals
      go_wp2_with fail
      go_ret
      exact ⟨rfl, ⟨_, _, _, _, _, _, _, ⟨(HA3.out.set 1 _).set 0 _, ownsRow_setCell_below (ownsRow_setCell_below ho3.out (Nat.lt_succ_self h) _) (Nat.lt_succ_self h) _⟩, rfl, rfl⟩, (HB3.out.setCell (p := ⟨h, 1, none⟩) (Nat.le_refl h) _).setCell (p := ⟨h, 0, none⟩) (Nat.le_refl h) _⟩
end Js
end Go.Proofs.YtpaikjlcachabaaDoor
