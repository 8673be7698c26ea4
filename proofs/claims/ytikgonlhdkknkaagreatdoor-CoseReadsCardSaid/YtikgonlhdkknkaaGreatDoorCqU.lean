import Derived.Test.YtikgonlhdkknkaaGreatDoorCuR
import Derived.Test.YtikgonlhdkknkaaGreatDoorCuO
import Derived.Test.YtikgonlhdkknkaaGreatDoorCqH
import Derived.BigRegion
set_option maxRecDepth 100000
set_option maxHeartbeats 3200000
set_option linter.unusedVariables false
set_option linter.unusedSimpArgs false
namespace Go.Proofs.YtikgonlhdkknkaaGreatDoor
open Go.RowKit
namespace Co
open Dr (Rs Lm has lack at0S)
structure Te (w : World) (g : Nat) (v : Value) (i : Nat) (lo ou : Bool) : Prop where
 at0 : At w g 0 [v, .int .i64 (i : Int), .bool lo, .bool ou]
 lt : g < w.heap.size
structure Lg (w : World) (g : Nat) (k o : Nat) (l : List Ra) : Prop where
 at0 : At w k o (rcells l)
 lt : k < g
structure Bw (g : Nat) (w w' : World) : Prop where
 os : w'.os = w.os
 tape : w'.tape = w.tape
 output : w'.output = w.output
 size : w.heap.size ≤ w'.heap.size
 block : ∀ k, k < w.heap.size → k ≠ g → w'.heap[k]? = w.heap[k]?
theorem Bw.trans {g : Nat} {a b c : World} (h : Bw g a b) (k : Bw g b c) : Bw g a c := ⟨k.os.trans h.os, k.tape.trans h.tape, k.output.trans h.output, Nat.le_trans h.size k.size, fun i hi hg => (k.block i (nlt hi h.size) hg).trans (h.block i hi hg)⟩
theorem Bw.of {g : Nat} {w w' : World} (hb : Below w.heap.size w w') : Bw g w w' := ⟨hb.os, hb.tape, hb.output, hb.size, fun k hk _ => hb.block k hk⟩
theorem Bw.low {g : Nat} {w w' : World} (h : Bw g w w') {B : Nat} (h1 : B ≤ g) (h2 : g < w.heap.size) : Below B w w' := ⟨h.os, h.tape, h.output, h.size, fun k hk => h.block k (by omega) (by omega)⟩
theorem Bw.setG {g : Nat} {a w : World} (h : Bw g a w) (o : Nat) (u : Value) : Bw g a (w.setCell ⟨g, o, none⟩ u) :=
 h.trans ⟨rfl, rfl, rfl, by simp [World.setCell], fun k hk hg => Below.heap_setCell _ _ _ _ (by show k ≠ g; exact hg)⟩
theorem Bw.drewN (g : Nat) (w : World) (k : Nat) : Bw g w (w.drewN k) := ⟨rfl, rfl, rfl, nle _, fun _ _ _ => rfl⟩
theorem atBw {g k o : Nat} {w w' : World} {cs : List Value} (h : At w k o cs) (hb : Bw g w w') (h1 : k < w.heap.size) (h2 : k ≠ g) : At w' k o cs := fun j v hv => by
 obtain ⟨h3, h4⟩ := h j v hv
 have h5 := hb.block k h1 h2
 refine ⟨?_, ?_⟩
 ·rw [← h3]; simp only [World.cell?, h5]
 ·rw [← h4]; simp only [World.frozen?, h5]
theorem Te.set {w : World} {g : Nat} {v : Value} {i : Nat} {lo ou : Bool} (h : Te w g v i lo ou) (k : Nat) (b lo' ou' : Bool) (he : ([v, .int .i64 (i : Int), .bool lo, .bool ou] : List Value).set k (.bool b) = [v, .int .i64 (i : Int), .bool lo', .bool ou']) : Te (w.setCell ⟨g, k, none⟩ (.bool b)) g v i lo' ou' := by
 refine ⟨by have h4 := h.at0.set k (.bool b); rw [he, Nat.zero_add] at h4; exact h4, by simp [World.setCell]; exact h.lt⟩
theorem widN_le (n : Nat) : widN n ≤ 8 := by
 rw [widN]
 repeat' split
 all_goals omega
theorem told_plain (w : World) (g k o n cap i : Nat) (lo ou : Bool) (l : List Ra) (hT : Te w g (.slice (some ⟨k, o, none⟩) n cap) i lo ou) (hL : Lg w g k o l) (hn : l.length = n) (hi : i < l.length) (hl : l.length ≤ 4096) (x : Ra) (hx : l.getD i ra0 = x) (kn : Nat) (hk : x.kind = (kn : Int)) (hk2 : kn < 2 ∨ kn = 7) (hnum : x.num < 18446744073709551616) (htx : x.text.length ≤ 140737488351232) :
  Calls Tryz.prog 94 #[.pointer (some ⟨g, 0, none⟩)] w (fun e w' => ∃ u : ByteArray, e = .returned (.string u) ∧ u.toList = hdN kn x.num ++ x.text ∧ Hid (Te w' g (.slice (some ⟨k, o, none⟩) n cap) (i + 1) lo ou) ∧ Hid (Bw g w w')) := by
 have HT := Lib.hid hT
 have HN := Lib.hid (aIn hn (aIn hi hl))
 have hX := rcell_atO hL.at0 i hi
 rw [hx] at hX
 have n0 := hX.cell 0 _ rfl
 have n1 := hX.cell 1 _ rfl
 have n2 := hX.cell 2 _ rfl
 rw [Nat.add_zero] at n0
 have k0 := hT.at0.z 0 _ rfl
 have k1 := hT.at0.cell 1 _ rfl
 have f1 := hT.at0.froz 1 (Nat.le_of_ble_eq_true rfl)
 have n0A : ∀ ob, (w.alloc ob).cell? ⟨k, o + i * 3, none⟩ = some (.int .i64 x.kind) := fun ob => by have h := (hX.alloc ob).cell 0 _ rfl; rw [Nat.add_zero] at h; exact h
 have n1A : ∀ ob, (w.alloc ob).cell? ⟨k, o + i * 3 + 1, none⟩ = some (.int .u64 (x.num : Int)) := fun ob => (hX.alloc ob).cell 1 _ rfl
 have n2A : ∀ ob, (w.alloc ob).cell? ⟨k, o + i * 3 + 2, none⟩ = some (.string ⟨x.text.toArray⟩) := fun ob => (hX.alloc ob).cell 2 _ rfl
 have k0A : ∀ ob, (w.alloc ob).cell? ⟨g, 0, none⟩ = some (.slice (some ⟨k, o, none⟩) n cap) := fun ob => by have h := (hT.at0.alloc ob).z 0 _ rfl; exact h
 have k1A : ∀ ob, (w.alloc ob).cell? ⟨g, 1, none⟩ = some (.int .i64 (i : Int)) := fun ob => (hT.at0.alloc ob).cell 1 _ rfl
 have e1 : (i : Int) < (n : Int) := by omega
 have e2 : (i : Int) ≤ 4096 := by omega
 clear hT hL hX hn hi hl hx
 go_enter Tryz.func94, Tryz.ntmps94
 go_wp2_with fail
 go_region
 have HTa : Hid (Te (w.alloc (Obj.cells #[Value.int .i64 x.kind, Value.int .u64 (x.num : Int), Value.string ⟨x.text.toArray⟩] 60)).drew g (.slice (some ⟨k, o, none⟩) n cap) i lo ou) := ⟨(HT.out.at0.alloc _).drewN 1, by have := HT.out.lt; simp; omega⟩
 have HAa : Hid (At (w.alloc (Obj.cells #[Value.int .i64 x.kind, Value.int .u64 (x.num : Int), Value.string ⟨x.text.toArray⟩] 60)).drew w.heap.size 0 [Value.int .i64 x.kind, Value.int .u64 (x.num : Int), Value.string ⟨x.text.toArray⟩]) := (At.ofAlloc w #[Value.int .i64 x.kind, Value.int .u64 (x.num : Int), Value.string ⟨x.text.toArray⟩] 60).drewN 1
 have HBa : Hid (Bw g w (w.alloc (Obj.cells #[Value.int .i64 x.kind, Value.int .u64 (x.num : Int), Value.string ⟨x.text.toArray⟩] 60)).drew) := Bw.of (((Below.refl _ w).alloc (nle _) _).drew)
 rw [hk] at HTa HAa HBa
 have HGT : Hid (g < w.heap.size) := HT.out.lt
 obtain ⟨T, hT⟩ : ∃ T, w.heap.size = T := ⟨_, rfl⟩
 rw [hT] at HAa HGT
 try rw [hk]
 obtain ⟨wa, hwa⟩ : ∃ v, (w.alloc (Obj.cells #[Value.int .i64 (kn : Int), Value.int .u64 (x.num : Int), Value.string ⟨x.text.toArray⟩] 60)).drew = v := ⟨_, rfl⟩
 rw [hwa] at HTa HAa HBa
 try rw [hwa]
 try rw [hT]
 clear hwa hT n0 n1 n2 k0 k1 f1 n0A n1A n2A k0A k1A
 have k1 := HTa.out.at0.cell 1 _ rfl
 have f1 := HTa.out.at0.froz 1 (Nat.le_of_ble_eq_true rfl)
 obtain ⟨i1, hi1⟩ : ∃ i1, i + 1 = i1 := ⟨_, rfl⟩
 have HI1 := Lib.hid hi1
 have e3 : (i : Int) + 1 = (i1 : Int) := by omega
 have e4 : IntKind.i64.wrap (i1 : Int) = (i1 : Int) := wrap_fit i1 (by unfold maxLen; omega)
 have g2 : ((kn : Int) == 2) = false := by rw [beq_eq_false_iff_ne]; omega
 have g3 : ((kn : Int) == 3) = false := by rw [beq_eq_false_iff_ne]; omega
 have g4 : ((kn : Int) == 4) = false := by rw [beq_eq_false_iff_ne]; omega
 have g5 : ((kn : Int) == 5) = false := by rw [beq_eq_false_iff_ne]; omega
 have g6 : ((kn : Int) == 6) = false := by rw [beq_eq_false_iff_ne]; omega
 have RH := Lib.hid (fun w => rhead_any kn x.num (by omega) hnum w)
 have hgT : ¬ g = T := by have := HGT.out; omega
 have HTb : Hid (Te (wa.setCell ⟨g, 1, none⟩ (.int .i64 (i1 : Int))) g (.slice (some ⟨k, o, none⟩) n cap) i1 lo ou) := ⟨HTa.out.at0.set 1 _, by rw [set_size]; exact HTa.out.lt⟩
 have HAb : Hid (At (wa.setCell ⟨g, 1, none⟩ (.int .i64 (i1 : Int))) T 0 [Value.int .i64 (kn : Int), Value.int .u64 (x.num : Int), Value.string ⟨x.text.toArray⟩]) := HAa.out.other g 1 _ (Or.inl hgT)
 have HBb : Hid (Bw g w (wa.setCell ⟨g, 1, none⟩ (.int .i64 (i1 : Int)))) := HBa.out.setG 1 _
 have b0 := HAb.out.z 0 _ rfl
 have b1 := HAb.out.cell 1 _ rfl
 have b2 := HAb.out.cell 2 _ rfl
 have HSZ : Hid ((⟨x.text.toArray⟩ : ByteArray).size ≤ 140737488351232) := by show (⟨x.text.toArray⟩ : ByteArray).size ≤ _; rw [← tl_size, tl_mk]; exact htx
 clear hk hk2 hi1 hnum hgT htx
 go_wp2_with fail
 obtain ⟨wb, hwb⟩ : ∃ v, wa.setCell ⟨g, 1, none⟩ (.int .i64 (i1 : Int)) = v := ⟨_, rfl⟩
 rw [hwb] at HTb HAb HBb
 try rw [hwb]
 clear hwb b0 b1 b2 k1 f1 HTa HAa HBa
 have HTS : Hid (T < wb.heap.size) := by have := HAb.out.lt (by simp); exact this
 have c0 := HAb.out.z 0 _ rfl
 have c2 := HAb.out.cell 2 _ rfl
 go_region_with ((go_at_call 48; refine (RH.out _).mono ?_; rintro e w3 ⟨u, rfl, hu, hb3⟩; have HU := Lib.hid hu; have hov : ¬ 9223372036854775807 < u.size + (⟨x.text.toArray⟩ : ByteArray).size := (by have h1 := HSZ.out; have h2 := widN_le x.num; have h3 : u.size = widN x.num + 1 := (by rw [← tl_size, hu, hdN_length]); omega); have HA3 : Hid (At w3 T 0 [Value.int .i64 (kn : Int), Value.int .u64 (x.num : Int), Value.string ⟨x.text.toArray⟩]) := (by first | exact (HAb.out).below hb3 HTS.out | exact (HAb.out.drewN 1).below hb3 HTS.out | exact (HAb.out.drewN 2).below hb3 HTS.out | exact (HAb.out.drewN 3).below hb3 HTS.out | exact (HAb.out.drewN 4).below hb3 HTS.out | exact (HAb.out.drewN 5).below hb3 HTS.out); have HT3 : Hid (Te w3 g (.slice (some ⟨k, o, none⟩) n cap) i1 lo ou) := (by first | exact ⟨(HTb.out.at0).below hb3 HTb.out.lt, nlt HTb.out.lt hb3.size⟩ | exact ⟨(HTb.out.at0.drewN 1).below hb3 HTb.out.lt, nlt HTb.out.lt hb3.size⟩ | exact ⟨(HTb.out.at0.drewN 2).below hb3 HTb.out.lt, nlt HTb.out.lt hb3.size⟩ | exact ⟨(HTb.out.at0.drewN 3).below hb3 HTb.out.lt, nlt HTb.out.lt hb3.size⟩ | exact ⟨(HTb.out.at0.drewN 4).below hb3 HTb.out.lt, nlt HTb.out.lt hb3.size⟩ | exact ⟨(HTb.out.at0.drewN 5).below hb3 HTb.out.lt, nlt HTb.out.lt hb3.size⟩); have HB3 : Hid (Bw g w w3) := (by first | exact HBb.out.trans (Bw.of hb3) | exact (HBb.out.trans (Bw.drewN _ _ _)).trans (Bw.of hb3)); have d2 := HA3.out.cell 2 _ rfl; have d0 := HA3.out.z 0 _ rfl; clear hu hb3))
 all_goals
  go_wp2_with fail
  go_loopw [5, 7, 8] (fun vs vl vi wr => vs = .string (u ++ ⟨x.text.toArray⟩) ∧ vi = .int .i64 0 ∧ Hid (Te wr g (.slice (some ⟨k, o, none⟩) n cap) i1 lo ou) ∧ Hid (Bw g w wr)) (fun _ _ _ _ => 0)
  case atStart => exact ⟨rfl, rfl, (by first | exact HT3 | exact HT3.out.drewN _), (by first | exact HB3 | exact HB3.out.trans (Bw.drewN _ _ _))⟩
  case round =>
   obtain ⟨rfl, rfl, HT5, HB5⟩ := hrel
   go_wp2_with fail
   go_ret
   exact ⟨_, rfl, by rw [tl_app, HU.out, tl_mk], by rw [HI1.out]; exact HT5, HB5⟩
end Co
end Go.Proofs.YtikgonlhdkknkaaGreatDoor
