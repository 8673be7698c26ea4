import Derived.Test.YtikgonlhdkknkaaGreatDoorCuZ
import Derived.Test.YtikgonlhdkknkaaGreatDoorCpQ
set_option maxRecDepth 100000
set_option maxHeartbeats 1600000
set_option linter.unusedVariables false
set_option linter.unusedSimpArgs false
namespace Go.Proofs.YtikgonlhdkknkaaGreatDoor
open Go.RowKit
namespace Co
open Dr (Rs Lm has lack at0S)
def RetBb (b : Bool) (w : World) (e : Ending) (w' : World) : Prop := e = .returned (.bool b) ∧ Below w.heap.size w w'
theorem nil_emp (l : List UInt8) : (l == ([] : List UInt8)) = l.isEmpty := by cases l <;> rfl
theorem cright_any (k : Int) (num : Nat) (s : ByteArray) (l : List UInt8) (hl : s.toList = l) (hz : s.size ≤ 140737488351232) (w : World) (hU : UT w.heap.size w) :
  Calls Tryz.prog 45 #[.agg #[.int .i64 k, .int .u64 (num : Int), .string s]] w (RetBb (rightR Lib.validD ⟨k, num, l⟩) w) := by
 subst hl
 obtain ⟨R, hR⟩ : ∃ R, rightR Lib.validD ⟨k, num, s.toList⟩ = R := ⟨_, rfl⟩
 rw [hR]
 rw [rightR, nil_emp] at hR
 dsimp only at hR
 have hB := (Below.refl w.heap.size w).alloc (nle _) (Obj.cells #[Value.int .i64 k, Value.int .u64 (num : Int), Value.string s] 60)
 have VA := Lib.hid (fun w hU => cvalid_any s w hz hU)
 have HUW := Lib.hid (hU.below hB).1
 have HB := Lib.hid hB
 have hsz : w.heap.size ≤ (w.alloc (Obj.cells #[Value.int .i64 k, Value.int .u64 (num : Int), Value.string s] 60)).heap.size := by simp
 have HSZ := Lib.hid hsz
 clear hB hU hz hsz
 by_cases h1 : k = 0 ∨ k = 1 ∨ k = 4 ∨ k = 5 ∨ k = 6
 ·rw [if_pos h1] at hR
  subst hR
  rcases h1 with rfl | rfl | rfl | rfl | rfl
  all_goals
   clear VA HUW
   go_enter Tryz.func45, Tryz.ntmps45
   go_wp2_with fail
   go_ret
   exact ⟨rfl, HB.out⟩
 ·rw [if_neg h1] at hR
  have e0 : (k == 0) = false := by rw [beq_eq_false_iff_ne]; omega
  have e1 : (k == 1) = false := by rw [beq_eq_false_iff_ne]; omega
  have e4 : (k == 4) = false := by rw [beq_eq_false_iff_ne]; omega
  have e5 : (k == 5) = false := by rw [beq_eq_false_iff_ne]; omega
  have e6 : (k == 6) = false := by rw [beq_eq_false_iff_ne]; omega
  by_cases h2 : k = 2
  ·rw [if_pos h2] at hR
   have hR2 : ((num : Int) == 0) = R := by
    rw [← hR]
    cases hq : (num == 0)
    ·rw [beq_eq_false_iff_ne] at hq ⊢; omega
    ·rw [beq_iff_eq] at hq ⊢; omega
   subst h2
   clear VA HUW hR h1 e0 e1 e4 e5 e6
   go_enter Tryz.func45, Tryz.ntmps45
   go_wp2_with fail
   go_ret
   exact ⟨by rw [← hR2]; first | rfl | simp, HB.out⟩
  ·rw [if_neg h2] at hR
   have e2 : (k == 2) = false := by rw [beq_eq_false_iff_ne]; omega
   by_cases h3 : k = 3
   ·rw [if_pos h3] at hR
    subst h3
    by_cases hn : num = 0
    ·subst hn
     have hR2 : Lib.validD s.toList = R := by rw [← hR]; rfl
     rw [hR2] at VA
     clear hR h1 e0 e1 e4 e5 e6 e2
     go_enter Tryz.func45, Tryz.ntmps45
     go_wp2_with (first | (go_at_call 68; refine (VA.out _ HUW.out).mono ?_; rintro e w5 ⟨rfl, hb5⟩))
     go_ret
     exact ⟨rfl, HB.out.trans (hb5.mono HSZ.out)⟩
    ·have e9 : ((num : Int) == 0) = false := by rw [beq_eq_false_iff_ne]; omega
     have hR2 : R = false := by
      rw [← hR]
      have : (num == 0) = false := by rw [beq_eq_false_iff_ne]; exact hn
      rw [this]
      rfl
     subst hR2
     clear hR h1 e0 e1 e4 e5 e6 e2 VA HUW hn
     go_enter Tryz.func45, Tryz.ntmps45
     go_wp2_with fail
     go_ret
     exact ⟨rfl, HB.out⟩
   ·rw [if_neg h3] at hR
    have e3 : (k == 3) = false := by rw [beq_eq_false_iff_ne]; omega
    by_cases h7 : k = 7
    ·rw [if_pos h7] at hR
     subst h7
     cases hs : s.toList.isEmpty with
     | false =>
      have hR2 : R = false := by rw [← hR, hs]; rfl
      subst hR2
      clear hR h1 e0 e1 e4 e5 e6 e2 e3 VA HUW
      go_enter Tryz.func45, Tryz.ntmps45
      go_wp2_with fail
      go_ret
      exact ⟨rfl, HB.out⟩
     | true =>
      by_cases h20 : 20 ≤ num
      ·have e20 : (20 : Int) ≤ (num : Int) := by omega
       have e20b : decide ((20 : Int) ≤ (num : Int)) = true := dtr e20
       have hR2 : decide ((num : Int) ≤ 23) = R := by
        rw [← hR, hs, Bool.true_and]
        exact decide_eq_decide.2 (by omega)
       clear hR h1 e0 e1 e4 e5 e6 e2 e3 VA HUW h20
       go_enter Tryz.func45, Tryz.ntmps45
       go_wp2_with fail
       go_ret
       exact ⟨by rw [← hR2]; first | rfl | simp, HB.out⟩
      ·have e20 : ¬ (20 : Int) ≤ (num : Int) := by omega
       have e20b : decide ((20 : Int) ≤ (num : Int)) = false := dfa e20
       have hR2 : R = false := by rw [← hR, hs, Bool.true_and]; exact dfa (by omega)
       subst hR2
       clear hR h1 e0 e1 e4 e5 e6 e2 e3 VA HUW h20
       go_enter Tryz.func45, Tryz.ntmps45
       go_wp2_with fail
       go_ret
       exact ⟨rfl, HB.out⟩
    ·rw [if_neg h7] at hR
     subst hR
     have e7 : (k == 7) = false := by rw [beq_eq_false_iff_ne]; omega
     clear h1 h2 h3 h7 VA HUW
     go_enter Tryz.func45, Tryz.ntmps45
     go_wp2_with fail
     go_ret
     exact ⟨rfl, HB.out⟩
def Sr (w : World) (v : Value) (l : List Ra) : Prop := ∃ a c, v = .slice a l.length c ∧ (l ≠ [] → ∃ g, a = some ⟨g, 0, none⟩ ∧ At w g 0 (rcells l) ∧ g < w.heap.size)
def ra0 : Ra := ⟨0, 0, []⟩
theorem rv_get (l : List Ra) (i : Nat) (hi : i < l.length) : ∃ A B, rcells l = A ++ rv (l.getD i ra0) ++ B ∧ A.length = i * 3 := by
 refine ⟨rcells (l.take i), rcells (l.drop (i + 1)), ?_, ?_⟩
 ·have h1 : l = l.take i ++ (l[i] :: l.drop (i + 1)) := by rw [List.getElem_cons_drop, List.take_append_drop]
  have h2 : l.getD i ra0 = l[i] := by rw [List.getD, List.getElem?_eq_getElem hi]; rfl
  rw [h2]
  conv => lhs; rw [h1]
  rw [rcells_append, show rcells (l[i] :: l.drop (i + 1)) = rv l[i] ++ rcells (l.drop (i + 1)) from rfl, List.append_assoc]
 ·rw [rcells_length, List.length_take, Nat.min_eq_left (Nat.le_of_lt hi), Nat.mul_comm]
theorem rdrop_cons {l : List Ra} {i : Nat} (hi : i < l.length) : l.drop i = l.getD i ra0 :: l.drop (i + 1) := by
 rw [← List.getElem_cons_drop (h := hi), List.getD, List.getElem?_eq_getElem hi]
 rfl
theorem rgetD_mem {l : List Ra} {i : Nat} (hi : i < l.length) : l.getD i ra0 ∈ l := by
 rw [List.getD, List.getElem?_eq_getElem hi]
 exact List.getElem_mem hi
def wsum (l : List Ra) : Nat := (l.map (fun a => 9 + a.text.length)).sum
theorem wsum_take (l : List Ra) (i : Nat) (hi : i < l.length) : wsum (l.take (i + 1)) = wsum (l.take i) + (9 + (l.getD i ra0).text.length) := by
 rw [wsum, wsum, List.take_add_one, List.getElem?_eq_getElem hi, List.map_append, List.sum_append, List.getD, List.getElem?_eq_getElem hi]
 simp
theorem wsum_app (l m : List Ra) : wsum (l ++ m) = wsum l + wsum m := by rw [wsum, wsum, wsum, List.map_append, List.sum_append]
theorem wsum_le (l : List Ra) (i : Nat) : wsum (l.take i) ≤ wsum l := by
 have h1 := wsum_app (l.take i) (l.drop i)
 rw [List.take_append_drop] at h1
 omega
theorem ends_gd (out : List UInt8) (p : Nat) : ∀ (G : List Fr) (a : Nat) (o : Bool), Gd G p → Gd (ends out a G o).1 p ∧ (ends out a G o).1.length ≤ G.length
 | [], a, o, _ => ⟨fun x hx => (by cases hx), nle _⟩
 | f :: G, a, o, h => by
  have hG : Gd G p := fun x hx => h x (List.mem_cons_of_mem _ hx)
  have hf := h f (List.mem_cons_self ..)
  rw [ends]
  split
  ·obtain ⟨h1, h2⟩ := ends_gd out p G f.p0 (o && okB f (out.drop a)) hG
   exact ⟨h1, by rw [lco]; omega⟩
  ·rename_i h0
   refine ⟨fun x hx => ?_, nle _⟩
   rcases List.mem_cons.1 hx with rfl | hx
   ·refine ⟨by omega, ?_⟩
    rw [adv]
    split
    ·exact ⟨hf.2.1, hf.2.2⟩
    ·exact ⟨by show f.left - 1 < _; omega, hf.2.2⟩
   ·exact hG x hx
theorem tops_gd {out : List UInt8} {p : Nat} {f : Fr} {G : List Fr} {o : Bool} (h1 : f.left < 18446744073709551616) (h2 : f.p0 ≤ p) (hG : Gd G p) : Gd (tops out f G o).1 p ∧ (tops out f G o).1.length ≤ G.length + 1 := by
 rw [tops]
 split
 ·obtain ⟨h3, h4⟩ := ends_gd out p G f.p0 o hG
  exact ⟨h3, by omega⟩
 ·rename_i h0
  refine ⟨fun x hx => ?_, nle _⟩
  rcases List.mem_cons.1 hx with rfl | hx
  ·exact ⟨by omega, h1, h2⟩
  ·exact hG x hx
theorem outT_len (o : List UInt8) (a : Am) : (outT false o a).length ≤ o.length + 9 + a.text.length := by
 have h8 : ∀ n, widN n ≤ 8 := fun n => by rw [widN]; (repeat' split); all_goals omega
 have h1 : ∀ k n, (hdN k n).length ≤ 9 := fun k n => by rw [hdN_length]; have := h8 n; omega
 rw [outT]
 split
 ·have h2 := putT_len false (putT false o (hdN a.kind a.text.length)) a.text
  have h3 := putT_len false o (hdN a.kind a.text.length)
  have h4 := h1 a.kind a.text.length
  omega
 ·have h3 := putT_len false o (hdN a.kind a.num)
  have h4 := h1 a.kind a.num
  omega
structure TInv (l : List Ra) (i : Nat) (t : Tl) : Prop where
 gd : Gd t.G t.out.length
 gl : t.G.length ≤ i
 out : t.out.length ≤ wsum (l.take i)
theorem TInv.next {l : List Ra} {i : Nat} {t : Tl} (h : TInv l i t) (hi : i < l.length) (hn : (l.getD i ra0).num < 18446744073709551616) : TInv l (i + 1) (atomT false t (dn (l.getD i ra0))) := by
 obtain ⟨a, ha⟩ : ∃ a, dn (l.getD i ra0) = a := ⟨_, rfl⟩
 have hat : a.text = (l.getD i ra0).text := by rw [← ha]; rfl
 have han : a.num = (l.getD i ra0).num := by rw [← ha]; rfl
 rw [ha]
 have h1 := outT_ge false t.out a
 have h2 := outT_len t.out a
 have h3 := wsum_take l i hi
 have h4 := h.out
 have h5 := h.gl
 have hgd := h.gd.mono h1
 rw [hat] at h2
 rw [atomT]
 split
 ·obtain ⟨h6, h7⟩ := tops_gd (out := outT false t.out a) (o := t.ord) (f := fr0 a t.out.length) (by show (if a.kind = 6 then 1 else a.num) < _; rw [han]; split <;> omega) (show t.out.length ≤ (outT false t.out a).length from h1) hgd
  exact ⟨h6, by show _ ≤ _; exact Nat.le_trans h7 (by omega), by show (outT false t.out a).length ≤ _; omega⟩
 ·obtain ⟨h6, h7⟩ := ends_gd (outT false t.out a) _ t.G t.out.length t.ord hgd
  exact ⟨h6, by show _ ≤ _; exact Nat.le_trans h7 (by omega), by show (outT false t.out a).length ≤ _; omega⟩
theorem atom_all (w : World) (g : Nat) (t : Tl) (vo vs : Value) (a : Am) (tx : ByteArray) (hyp : AtHyp w g t vo vs a tx) :
  Calls Tryz.prog 46 #[.pointer (some ⟨g, 0, none⟩), .agg #[.int .i64 (a.kind : Int), .int .u64 (a.num : Int), .string tx]] w (RsAtom (atomT false t a) g w) := by
 by_cases h2 : a.kind = 2
 ·exact atom_text2 w g t vo vs a tx hyp h2
 by_cases h3 : a.kind = 3
 ·exact atom_text3 w g t vo vs a tx hyp h3
 cases h : holds a.kind with
 | false => exact atom_plain w g t vo vs a tx hyp (by rintro (h4 | h4); exact h2 h4; exact h3 h4) h
 | true => exact atom_hold w g t vo vs a tx hyp h
def RetEnc (r : List UInt8 × Int) (w : World) (e : Ending) (w' : World) : Prop := ∃ s : ByteArray, e = .returned (.tuple #[.string s, .int .i64 r.2]) ∧ s.toList = r.1 ∧ Below w.heap.size w w'
theorem go_done {txt : List UInt8 → Bool} {a : Ra} {r : List Ra} {t : Tl} (h : t.done = true ∨ rightR txt a = false) : go txt false (a :: r) t = ([], 9) := by rw [go, if_pos h]
theorem go_next {txt : List UInt8 → Bool} {a : Ra} {r : List Ra} {t : Tl} (h : t.done = false) (h2 : rightR txt a = true) : go txt false (a :: r) t = go txt false r (atomT false t (dn a)) := by
 rw [go, if_neg]
 rintro (h3 | h3)
 ·rw [h] at h3; cases h3
 ·rw [h2] at h3; cases h3
theorem most_any (w : World) : Calls Tryz.prog 13 #[] w (fun e w' => e = .returned (.agg #[.int .i64 32, .int .i64 4096, .int .i64 262144, .int .i64 4096]) ∧ Below w.heap.size w w') := by
 go_enter Tryz.func13, Tryz.ntmps13
 go_wp2_with fail
 have hA := At.ofAlloc w #[.int .i64 32, .int .i64 4096, .int .i64 262144, .int .i64 4096] 23
 refine bodyPost_ret (results_at rfl _ w.heap.size _ _ rfl hA Tryz.underlying23 rfl (by kernel_rfl)) rfl ?_
 exact ⟨rfl, (Below.refl _ _).alloc (nle _) _⟩
theorem ra_ne {a b : Ra} (h : ¬ a = b) : ¬ a.kind = b.kind ∨ (a.kind = b.kind ∧ ¬ (a.num : Int) = (b.num : Int)) ∨ (a.kind = b.kind ∧ (a.num : Int) = (b.num : Int) ∧ ¬ a.text = b.text) := by
 by_cases h1 : a.kind = b.kind
 ·by_cases h2 : (a.num : Int) = (b.num : Int)
  ·refine .inr (.inr ⟨h1, h2, fun h3 => h ?_⟩)
   rcases a with ⟨t, k, l⟩
   rcases b with ⟨t', k', l'⟩
   have h6 : t = t' := h1
   have h7 : (k : Int) = (k' : Int) := h2
   have h8 : l = l' := h3
   have h9 : k = k' := by omega
   rw [h6, h9, h8]
  ·exact .inr (.inl ⟨h1, h2⟩)
 ·exact .inl h1
theorem rcells_one (l : List Ra) : ∀ u ∈ rcells l, u.oneCell' = true := by
 intro u hu
 simp only [rcells, List.mem_flatMap] at hu
 obtain ⟨n, _, hn⟩ := hu
 exact rv_one n u hn
structure Lm4 (w : World) (g : Nat) (d i b r : Int) : Prop where
 at0 : At w g 0 [.int .i64 d, .int .i64 i, .int .i64 b, .int .i64 r]
 lt : g < w.heap.size
theorem Lm4.below {w w' : World} {g : Nat} {d i b r : Int} (h : Lm4 w g d i b r) (hb : Below w.heap.size w w') : Lm4 w' g d i b r := ⟨h.at0.below hb h.lt, nlt h.lt hb.size⟩
theorem Lm4.ofAlloc (w : World) (d i b r : Int) : Lm4 (w.alloc (Obj.cells #[.int .i64 d, .int .i64 i, .int .i64 b, .int .i64 r] 23)) w.heap.size d i b r := ⟨At.ofAlloc w #[.int .i64 d, .int .i64 i, .int .i64 b, .int .i64 r] 23, by simp⟩
end Co
end Go.Proofs.YtikgonlhdkknkaaGreatDoor
