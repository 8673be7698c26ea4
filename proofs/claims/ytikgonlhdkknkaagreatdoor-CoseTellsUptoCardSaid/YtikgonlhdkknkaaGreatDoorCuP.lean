import Derived.Test.YtikgonlhdkknkaaGreatDoorCqU
import Derived.Test.YtikgonlhdkknkaaGreatDoorCuO
set_option maxRecDepth 100000
set_option maxHeartbeats 3200000
set_option linter.unusedVariables false
set_option linter.unusedSimpArgs false
open Go.Lib (hid)
namespace Go.Proofs.YtikgonlhdkknkaaGreatDoor
open Go.RowKit
namespace Co
open Dr (Rs Lm has lack at0S)
theorem told_text2 (w : World) (g k o n cap i : Nat) (lo ou : Bool) (l : List Ra) (hT : Te w g (.slice (some ⟨k, o, none⟩) n cap) i lo ou) (hL : Lg w g k o l) (hn : l.length = n) (hi : i < l.length) (hl : l.length ≤ 4096) (x : Ra) (hx : l.getD i ra0 = x) (hk : x.kind = 2) (hnum : x.num < 18446744073709551616) (htx : x.text.length ≤ 140737488351232) :
  Calls Tryz.prog 94 #[.pointer (some ⟨g, 0, none⟩)] w (fun e w' => ∃ u : ByteArray, e = .returned (.string u) ∧ u.toList = hdN 2 x.text.length ++ x.text ∧ Hid (Te w' g (.slice (some ⟨k, o, none⟩) n cap) (i + 1) lo ou) ∧ Hid (Bw g w w')) := by
 have HT := hid hT
 have HN := hid (aIn hn (aIn hi hl))
 have hX := rcell_atO hL.at0 i hi
 rw [hx] at hX
 have n0 := hX.cell 0 _ rfl
 have n1 := hX.cell 1 _ rfl
 have n2 := hX.cell 2 _ rfl
 rw [Nat.add_zero] at n0
 have k0 := hT.at0.z 0 _ rfl
 have k1 := hT.at0.cell 1 _ rfl
 have f1 := hT.at0.froz 1 (Nat.le_of_ble_eq_true rfl)
 have n0A : ∀ ob, (w.alloc ob).cell? ⟨k, o + i * 3, none⟩ = some (.int .i64 x.kind) := fun ob => by have h := (hX.alloc ob).cell 0 _ rfl; rw [Nat.add_zero] at h; exact h
 have n1A : ∀ ob, (w.alloc ob).cell? ⟨k, o + i * 3 + 1, none⟩ = some (.int .u64 (x.num : Int)) := fun ob => (hX.alloc ob).cell 1 _ rfl
 have n2A : ∀ ob, (w.alloc ob).cell? ⟨k, o + i * 3 + 2, none⟩ = some (.string ⟨x.text.toArray⟩) := fun ob => (hX.alloc ob).cell 2 _ rfl
 have k0A : ∀ ob, (w.alloc ob).cell? ⟨g, 0, none⟩ = some (.slice (some ⟨k, o, none⟩) n cap) := fun ob => by have h := (hT.at0.alloc ob).z 0 _ rfl; exact h
 have k1A : ∀ ob, (w.alloc ob).cell? ⟨g, 1, none⟩ = some (.int .i64 (i : Int)) := fun ob => (hT.at0.alloc ob).cell 1 _ rfl
 have e1 : (i : Int) < (n : Int) := by omega
 have e2 : (i : Int) ≤ 4096 := by omega
 clear hT hL hX hn hi hl hx
 go_enter Tryz.func94, Tryz.ntmps94
 go_wp2_with fail
 go_region
 have HTa : Hid (Te (w.alloc (Obj.cells #[Value.int .i64 x.kind, Value.int .u64 (x.num : Int), Value.string ⟨x.text.toArray⟩] 60)).drew g (.slice (some ⟨k, o, none⟩) n cap) i lo ou) := ⟨(HT.out.at0.alloc _).drewN 1, by have := HT.out.lt; simp; omega⟩
 have HAa : Hid (At (w.alloc (Obj.cells #[Value.int .i64 x.kind, Value.int .u64 (x.num : Int), Value.string ⟨x.text.toArray⟩] 60)).drew w.heap.size 0 [Value.int .i64 x.kind, Value.int .u64 (x.num : Int), Value.string ⟨x.text.toArray⟩]) := (At.ofAlloc w #[Value.int .i64 x.kind, Value.int .u64 (x.num : Int), Value.string ⟨x.text.toArray⟩] 60).drewN 1
 have HBa : Hid (Bw g w (w.alloc (Obj.cells #[Value.int .i64 x.kind, Value.int .u64 (x.num : Int), Value.string ⟨x.text.toArray⟩] 60)).drew) := Bw.of (((Below.refl _ w).alloc (nle _) _).drew)
 rw [hk] at HTa HAa HBa
 have HGT : Hid (g < w.heap.size) := HT.out.lt
 obtain ⟨T, hT⟩ : ∃ T, w.heap.size = T := ⟨_, rfl⟩
 rw [hT] at HAa HGT
 try rw [hk]
 obtain ⟨wa, hwa⟩ : ∃ v, (w.alloc (Obj.cells #[Value.int .i64 2, Value.int .u64 (x.num : Int), Value.string ⟨x.text.toArray⟩] 60)).drew = v := ⟨_, rfl⟩
 rw [hwa] at HTa HAa HBa
 try rw [hwa]
 try rw [hT]
 clear hwa hT n0 n1 n2 k0 k1 f1 n0A n1A n2A k0A k1A
 have k1 := HTa.out.at0.cell 1 _ rfl
 have f1 := HTa.out.at0.froz 1 (Nat.le_of_ble_eq_true rfl)
 obtain ⟨i1, hi1⟩ : ∃ i1, i + 1 = i1 := ⟨_, rfl⟩
 have HI1 := hid hi1
 have e3 : (i : Int) + 1 = (i1 : Int) := by omega
 have e4 : IntKind.i64.wrap (i1 : Int) = (i1 : Int) := wrap_fit i1 (by unfold maxLen; omega)
 obtain ⟨sz, hsz⟩ : ∃ sz, (⟨x.text.toArray⟩ : ByteArray).size = sz := ⟨_, rfl⟩
 have hsz2 : sz = x.text.length := by rw [← hsz, ← tl_size, tl_mk]
 have HSL := hid hsz2
 have RH := hid (fun w => rhead_any 2 sz (by decide) (by omega) w)
 have g9 : IntKind.u64.wrap (sz : Int) = (sz : Int) := u64c sz (by omega)
 have hgT : ¬ g = T := by have := HGT.out; omega
 have HTb : Hid (Te (wa.setCell ⟨g, 1, none⟩ (.int .i64 (i1 : Int))) g (.slice (some ⟨k, o, none⟩) n cap) i1 lo ou) := ⟨HTa.out.at0.set 1 _, by rw [set_size]; exact HTa.out.lt⟩
 have HAb : Hid (At (wa.setCell ⟨g, 1, none⟩ (.int .i64 (i1 : Int))) T 0 [Value.int .i64 2, Value.int .u64 (x.num : Int), Value.string ⟨x.text.toArray⟩]) := HAa.out.other g 1 _ (Or.inl hgT)
 have HBb : Hid (Bw g w (wa.setCell ⟨g, 1, none⟩ (.int .i64 (i1 : Int)))) := HBa.out.setG 1 _
 have b0 := HAb.out.z 0 _ rfl
 have b1 := HAb.out.cell 1 _ rfl
 have b2 := HAb.out.cell 2 _ rfl
 have HSZ : Hid (sz ≤ 140737488351232) := by show sz ≤ _; rw [hsz2]; exact htx
 clear hk hi1 hnum hgT htx hsz2
 go_wp2_with fail
 obtain ⟨wb, hwb⟩ : ∃ v, wa.setCell ⟨g, 1, none⟩ (.int .i64 (i1 : Int)) = v := ⟨_, rfl⟩
 rw [hwb] at HTb HAb HBb
 try rw [hwb]
 clear hwb b0 b1 b2 k1 f1 HTa HAa HBa
 have HTS : Hid (T < wb.heap.size) := by have := HAb.out.lt (by simp); exact this
 have c0 := HAb.out.z 0 _ rfl
 have c2 := HAb.out.cell 2 _ rfl
 go_region_with ((go_at_call 48; refine (RH.out _).mono ?_; rintro e w3 ⟨u, rfl, hu, hb3⟩; have HU := hid hu; have hov : ¬ 9223372036854775807 < u.size + sz := (by have h1 := HSZ.out; have h2 := widN_le sz; have h3 : u.size = widN sz + 1 := (by rw [← tl_size, hu, hdN_length]); omega); have HA3 : Hid (At w3 T 0 [Value.int .i64 2, Value.int .u64 (x.num : Int), Value.string ⟨x.text.toArray⟩]) := (by first | exact (HAb.out).below hb3 HTS.out | exact (HAb.out.drewN 1).below hb3 HTS.out | exact (HAb.out.drewN 2).below hb3 HTS.out | exact (HAb.out.drewN 3).below hb3 HTS.out | exact (HAb.out.drewN 4).below hb3 HTS.out | exact (HAb.out.drewN 5).below hb3 HTS.out); have HT3 : Hid (Te w3 g (.slice (some ⟨k, o, none⟩) n cap) i1 lo ou) := (by first | exact ⟨(HTb.out.at0).below hb3 HTb.out.lt, nlt HTb.out.lt hb3.size⟩ | exact ⟨(HTb.out.at0.drewN 1).below hb3 HTb.out.lt, nlt HTb.out.lt hb3.size⟩ | exact ⟨(HTb.out.at0.drewN 2).below hb3 HTb.out.lt, nlt HTb.out.lt hb3.size⟩ | exact ⟨(HTb.out.at0.drewN 3).below hb3 HTb.out.lt, nlt HTb.out.lt hb3.size⟩ | exact ⟨(HTb.out.at0.drewN 4).below hb3 HTb.out.lt, nlt HTb.out.lt hb3.size⟩ | exact ⟨(HTb.out.at0.drewN 5).below hb3 HTb.out.lt, nlt HTb.out.lt hb3.size⟩); have HB3 : Hid (Bw g w w3) := (by first | exact HBb.out.trans (Bw.of hb3) | exact (HBb.out.trans (Bw.drewN _ _ _)).trans (Bw.of hb3)); have d2 := HA3.out.cell 2 _ rfl; have d0 := HA3.out.z 0 _ rfl; clear hu hb3))
 all_goals
  go_wp2_with fail
  go_loopw [5, 7, 8] (fun vs vl vi wr => vs = .string (u ++ ⟨x.text.toArray⟩) ∧ vi = .int .i64 0 ∧ Hid (Te wr g (.slice (some ⟨k, o, none⟩) n cap) i1 lo ou) ∧ Hid (Bw g w wr)) (fun _ _ _ _ => 0)
  case atStart => exact ⟨rfl, rfl, (by first | exact HT3 | exact HT3.out.drewN _), (by first | exact HB3 | exact HB3.out.trans (Bw.drewN _ _ _))⟩
  case round =>
   obtain ⟨rfl, rfl, HT5, HB5⟩ := hrel
   go_wp2_with fail
   go_ret
   exact ⟨_, rfl, by rw [tl_app, HU.out, tl_mk, HSL.out], by rw [HI1.out]; exact HT5, HB5⟩
theorem told_text3 (w : World) (g k o n cap i : Nat) (lo ou : Bool) (l : List Ra) (hT : Te w g (.slice (some ⟨k, o, none⟩) n cap) i lo ou) (hL : Lg w g k o l) (hn : l.length = n) (hi : i < l.length) (hl : l.length ≤ 4096) (x : Ra) (hx : l.getD i ra0 = x) (hk : x.kind = 3) (hnum : x.num < 18446744073709551616) (htx : x.text.length ≤ 140737488351232) :
  Calls Tryz.prog 94 #[.pointer (some ⟨g, 0, none⟩)] w (fun e w' => ∃ u : ByteArray, e = .returned (.string u) ∧ u.toList = hdN 3 x.text.length ++ x.text ∧ Hid (Te w' g (.slice (some ⟨k, o, none⟩) n cap) (i + 1) lo ou) ∧ Hid (Bw g w w')) := by
 have HT := hid hT
 have HN := hid (aIn hn (aIn hi hl))
 have hX := rcell_atO hL.at0 i hi
 rw [hx] at hX
 have n0 := hX.cell 0 _ rfl
 have n1 := hX.cell 1 _ rfl
 have n2 := hX.cell 2 _ rfl
 rw [Nat.add_zero] at n0
 have k0 := hT.at0.z 0 _ rfl
 have k1 := hT.at0.cell 1 _ rfl
 have f1 := hT.at0.froz 1 (Nat.le_of_ble_eq_true rfl)
 have n0A : ∀ ob, (w.alloc ob).cell? ⟨k, o + i * 3, none⟩ = some (.int .i64 x.kind) := fun ob => by have h := (hX.alloc ob).cell 0 _ rfl; rw [Nat.add_zero] at h; exact h
 have n1A : ∀ ob, (w.alloc ob).cell? ⟨k, o + i * 3 + 1, none⟩ = some (.int .u64 (x.num : Int)) := fun ob => (hX.alloc ob).cell 1 _ rfl
 have n2A : ∀ ob, (w.alloc ob).cell? ⟨k, o + i * 3 + 2, none⟩ = some (.string ⟨x.text.toArray⟩) := fun ob => (hX.alloc ob).cell 2 _ rfl
 have k0A : ∀ ob, (w.alloc ob).cell? ⟨g, 0, none⟩ = some (.slice (some ⟨k, o, none⟩) n cap) := fun ob => by have h := (hT.at0.alloc ob).z 0 _ rfl; exact h
 have k1A : ∀ ob, (w.alloc ob).cell? ⟨g, 1, none⟩ = some (.int .i64 (i : Int)) := fun ob => (hT.at0.alloc ob).cell 1 _ rfl
 have e1 : (i : Int) < (n : Int) := by omega
 have e2 : (i : Int) ≤ 4096 := by omega
 clear hT hL hX hn hi hl hx
 go_enter Tryz.func94, Tryz.ntmps94
 go_wp2_with fail
 go_region
 have HTa : Hid (Te (w.alloc (Obj.cells #[Value.int .i64 x.kind, Value.int .u64 (x.num : Int), Value.string ⟨x.text.toArray⟩] 60)).drew g (.slice (some ⟨k, o, none⟩) n cap) i lo ou) := ⟨(HT.out.at0.alloc _).drewN 1, by have := HT.out.lt; simp; omega⟩
 have HAa : Hid (At (w.alloc (Obj.cells #[Value.int .i64 x.kind, Value.int .u64 (x.num : Int), Value.string ⟨x.text.toArray⟩] 60)).drew w.heap.size 0 [Value.int .i64 x.kind, Value.int .u64 (x.num : Int), Value.string ⟨x.text.toArray⟩]) := (At.ofAlloc w #[Value.int .i64 x.kind, Value.int .u64 (x.num : Int), Value.string ⟨x.text.toArray⟩] 60).drewN 1
 have HBa : Hid (Bw g w (w.alloc (Obj.cells #[Value.int .i64 x.kind, Value.int .u64 (x.num : Int), Value.string ⟨x.text.toArray⟩] 60)).drew) := Bw.of (((Below.refl _ w).alloc (nle _) _).drew)
 rw [hk] at HTa HAa HBa
 have HGT : Hid (g < w.heap.size) := HT.out.lt
 obtain ⟨T, hT⟩ : ∃ T, w.heap.size = T := ⟨_, rfl⟩
 rw [hT] at HAa HGT
 try rw [hk]
 obtain ⟨wa, hwa⟩ : ∃ v, (w.alloc (Obj.cells #[Value.int .i64 3, Value.int .u64 (x.num : Int), Value.string ⟨x.text.toArray⟩] 60)).drew = v := ⟨_, rfl⟩
 rw [hwa] at HTa HAa HBa
 try rw [hwa]
 try rw [hT]
 clear hwa hT n0 n1 n2 k0 k1 f1 n0A n1A n2A k0A k1A
 have k1 := HTa.out.at0.cell 1 _ rfl
 have f1 := HTa.out.at0.froz 1 (Nat.le_of_ble_eq_true rfl)
 obtain ⟨i1, hi1⟩ : ∃ i1, i + 1 = i1 := ⟨_, rfl⟩
 have HI1 := hid hi1
 have e3 : (i : Int) + 1 = (i1 : Int) := by omega
 have e4 : IntKind.i64.wrap (i1 : Int) = (i1 : Int) := wrap_fit i1 (by unfold maxLen; omega)
 obtain ⟨sz, hsz⟩ : ∃ sz, (⟨x.text.toArray⟩ : ByteArray).size = sz := ⟨_, rfl⟩
 have hsz2 : sz = x.text.length := by rw [← hsz, ← tl_size, tl_mk]
 have HSL := hid hsz2
 have RH := hid (fun w => rhead_any 3 sz (by decide) (by omega) w)
 have g9 : IntKind.u64.wrap (sz : Int) = (sz : Int) := u64c sz (by omega)
 have hgT : ¬ g = T := by have := HGT.out; omega
 have HTb : Hid (Te (wa.setCell ⟨g, 1, none⟩ (.int .i64 (i1 : Int))) g (.slice (some ⟨k, o, none⟩) n cap) i1 lo ou) := ⟨HTa.out.at0.set 1 _, by rw [set_size]; exact HTa.out.lt⟩
 have HAb : Hid (At (wa.setCell ⟨g, 1, none⟩ (.int .i64 (i1 : Int))) T 0 [Value.int .i64 3, Value.int .u64 (x.num : Int), Value.string ⟨x.text.toArray⟩]) := HAa.out.other g 1 _ (Or.inl hgT)
 have HBb : Hid (Bw g w (wa.setCell ⟨g, 1, none⟩ (.int .i64 (i1 : Int)))) := HBa.out.setG 1 _
 have b0 := HAb.out.z 0 _ rfl
 have b1 := HAb.out.cell 1 _ rfl
 have b2 := HAb.out.cell 2 _ rfl
 have HSZ : Hid (sz ≤ 140737488351232) := by show sz ≤ _; rw [hsz2]; exact htx
 clear hk hi1 hnum hgT htx hsz2
 go_wp2_with fail
 obtain ⟨wb, hwb⟩ : ∃ v, wa.setCell ⟨g, 1, none⟩ (.int .i64 (i1 : Int)) = v := ⟨_, rfl⟩
 rw [hwb] at HTb HAb HBb
 try rw [hwb]
 clear hwb b0 b1 b2 k1 f1 HTa HAa HBa
 have HTS : Hid (T < wb.heap.size) := by have := HAb.out.lt (by simp); exact this
 have c0 := HAb.out.z 0 _ rfl
 have c2 := HAb.out.cell 2 _ rfl
 go_region_with ((go_at_call 48; refine (RH.out _).mono ?_; rintro e w3 ⟨u, rfl, hu, hb3⟩; have HU := hid hu; have hov : ¬ 9223372036854775807 < u.size + sz := (by have h1 := HSZ.out; have h2 := widN_le sz; have h3 : u.size = widN sz + 1 := (by rw [← tl_size, hu, hdN_length]); omega); have HA3 : Hid (At w3 T 0 [Value.int .i64 3, Value.int .u64 (x.num : Int), Value.string ⟨x.text.toArray⟩]) := (by first | exact (HAb.out).below hb3 HTS.out | exact (HAb.out.drewN 1).below hb3 HTS.out | exact (HAb.out.drewN 2).below hb3 HTS.out | exact (HAb.out.drewN 3).below hb3 HTS.out | exact (HAb.out.drewN 4).below hb3 HTS.out | exact (HAb.out.drewN 5).below hb3 HTS.out); have HT3 : Hid (Te w3 g (.slice (some ⟨k, o, none⟩) n cap) i1 lo ou) := (by first | exact ⟨(HTb.out.at0).below hb3 HTb.out.lt, nlt HTb.out.lt hb3.size⟩ | exact ⟨(HTb.out.at0.drewN 1).below hb3 HTb.out.lt, nlt HTb.out.lt hb3.size⟩ | exact ⟨(HTb.out.at0.drewN 2).below hb3 HTb.out.lt, nlt HTb.out.lt hb3.size⟩ | exact ⟨(HTb.out.at0.drewN 3).below hb3 HTb.out.lt, nlt HTb.out.lt hb3.size⟩ | exact ⟨(HTb.out.at0.drewN 4).below hb3 HTb.out.lt, nlt HTb.out.lt hb3.size⟩ | exact ⟨(HTb.out.at0.drewN 5).below hb3 HTb.out.lt, nlt HTb.out.lt hb3.size⟩); have HB3 : Hid (Bw g w w3) := (by first | exact HBb.out.trans (Bw.of hb3) | exact (HBb.out.trans (Bw.drewN _ _ _)).trans (Bw.of hb3)); have d2 := HA3.out.cell 2 _ rfl; have d0 := HA3.out.z 0 _ rfl; clear hu hb3))
 all_goals
  go_wp2_with fail
  go_loopw [5, 7, 8] (fun vs vl vi wr => vs = .string (u ++ ⟨x.text.toArray⟩) ∧ vi = .int .i64 0 ∧ Hid (Te wr g (.slice (some ⟨k, o, none⟩) n cap) i1 lo ou) ∧ Hid (Bw g w wr)) (fun _ _ _ _ => 0)
  case atStart => exact ⟨rfl, rfl, (by first | exact HT3 | exact HT3.out.drewN _), (by first | exact HB3 | exact HB3.out.trans (Bw.drewN _ _ _))⟩
  case round =>
   obtain ⟨rfl, rfl, HT5, HB5⟩ := hrel
   go_wp2_with fail
   go_ret
   exact ⟨_, rfl, by rw [tl_app, HU.out, tl_mk, HSL.out], by rw [HI1.out]; exact HT5, HB5⟩
end Co
end Go.Proofs.YtikgonlhdkknkaaGreatDoor
namespace Go.Proofs.YtikgonlhdkknkaaGreatDoor
namespace Co
theorem keysOk_value : ∀ (A : List (List UInt8)) (y : List UInt8), A.length % 2 = 1 → keysOk (A ++ [y]) = keysOk A
 | [], y, h => by simp at h
 | [a], y, h => rfl
 | [a, b], y, h => by simp at h
 | a :: b :: c :: A, y, h => by
  have ih := keysOk_value (c :: A) y (by rw [lco, lco] at h; omega)
  show (Op.bytesLess a c && keysOk (c :: A ++ [y])) = (Op.bytesLess a c && keysOk (c :: A))
  rw [ih]
theorem keysOk_key : ∀ (A : List (List UInt8)) (x : List UInt8), A.length % 2 = 0 → A ≠ [] → keysOk (A ++ [x]) = (keysOk A && Op.bytesLess (A.getD (A.length - 2) []) x)
 | [], x, h, h0 => absurd rfl h0
 | [a], x, h, _ => by simp at h
 | [a, b], x, h, _ => by
  show (Op.bytesLess a x && true) = (true && Op.bytesLess a x)
  rw [Bool.and_true, Bool.true_and]
 | [a, b, c], x, h, _ => by simp at h
 | a :: b :: c :: d :: A, x, h, _ => by
  have ih := keysOk_key (c :: d :: A) x (by rw [lco, lco] at h; exact (by omega)) (List.cons_ne_nil _ _)
  show (Op.bytesLess a c && keysOk (c :: d :: A ++ [x])) = (Op.bytesLess a c && keysOk (c :: d :: A) && Op.bytesLess ((a :: b :: c :: d :: A).getD (A.length + 1 + 1 + 1 + 1 - 2) []) x)
  rw [ih, Bool.and_assoc]
  congr 3
end Co
end Go.Proofs.YtikgonlhdkknkaaGreatDoor
namespace Go.Proofs.YtikgonlhdkknkaaGreatDoor
open Go.RowKit
namespace Co
open Dr (Rs Lm has lack at0S)
def lastK (P : List (List UInt8)) : List UInt8 := P.getD (if P.length % 2 = 0 then P.length - 2 else P.length - 1) []
theorem lastK_key (P : List (List UInt8)) (x : List UInt8) (h : P.length % 2 = 0) : lastK (P ++ [x]) = x := by
 rw [lastK, lap, List.length_singleton, if_neg (by omega), Nat.add_sub_cancel]
 simp [List.getD]
theorem lastK_value (P : List (List UInt8)) (x : List UInt8) (h : P.length % 2 = 1) : lastK (P ++ [x]) = lastK P := by
 rw [lastK, lastK, lap, List.length_singleton, if_pos (by omega), if_neg (by omega), show P.length + 1 - 2 = P.length - 1 by omega, List.getD, List.getD, List.getElem?_append_left (by omega)]
theorem ordA_no (k : Nat) (M : List (List UInt8)) (h : k ≠ 5) : ordA k M = true := by rw [ordA, dtr h, Bool.true_or]
theorem ordA_5 (M : List (List UInt8)) : ordA 5 M = keysOk M := rfl
theorem ordA_key (P : List (List UInt8)) (x : List UInt8) (h : P.length % 2 = 0) (h0 : 0 < P.length) : ordA 5 (P ++ [x]) = (ordA 5 P && Op.bytesLess (lastK P) x) := by
 rw [ordA_5, ordA_5, lastK, if_pos h]
 exact keysOk_key P x h (fun e => by rw [e] at h0; exact absurd h0 (Nat.lt_irrefl 0))
theorem ordA_value (P : List (List UInt8)) (x : List UInt8) (h : P.length % 2 = 1) : ordA 5 (P ++ [x]) = ordA 5 P := keysOk_value P x h
theorem flag_and (ou o1 o3 q : Bool) : ((ou || !(o1 && q)) || !o3) = (ou || !((o1 && o3) && q)) := by cases ou <;> cases o1 <;> cases o3 <;> cases q <;> rfl
theorem flag_no (ou o1 o3 q : Bool) : true = (ou || !((o1 && o3) && (q && false))) := by cases ou <;> cases o1 <;> cases o3 <;> cases q <;> rfl
theorem flag_yes (ou o1 o3 q : Bool) : ((ou || !(o1 && q)) || !o3) = (ou || !((o1 && o3) && (q && true))) := by cases ou <;> cases o1 <;> cases o3 <;> cases q <;> rfl
structure CN (k g : Nat) (v : Value) (p : Nat) (H : List UInt8) (K : List Am) (MK : List (List UInt8)) (oK ou : Bool) (j : Nat) (v5 v7 : Value) (wr : World) (P Q : List (List UInt8)) (K1 R1 : List Am) (d2 : Nat) (o1 o2 : Bool) (sb sl : ByteArray) : Prop where
 pl : P.length = j
 mq : MK = P ++ Q
 kk : K = K1 ++ R1
 el : Its d2 R1 Q o2
 ok : oK = (o1 && o2)
 e5 : v5 = .string sb
 hb : sb.toList = H ++ P.flatten
 le : (H ++ P.flatten).length ≤ 262144
 e7 : v7 = .string sl
 hs : k = 5 → sl.toList = lastK P
 te : Hid (Te wr g v (p + 1 + K1.length) false (ou || !(o1 && ordA k P)))
structure CL (g : Nat) (v : Value) (H : List UInt8) (K : List Am) (MK : List (List UInt8)) (v5 v7 : Value) (wr : World) (sb sl : ByteArray) (x : Nat) (ou' : Bool) : Prop where
 big : 262144 < (H ++ MK.flatten).length
 e5 : v5 = .string sb
 hb : sb.size ≤ 262144 + 300000 * K.length
 e7 : v7 = .string sl
 hx : x ≤ 100000
 te : Hid (Te wr g v x true ou')
def CTold (g : Nat) (v : Value) (K : List Am) (B : List UInt8) (o : Bool) (p : Nat) (ou : Bool) (w : World) (e : Ending) (w' : World) : Prop :=
 (∃ s : ByteArray, e = .returned (.string s) ∧ s.toList = B ∧ B.length ≤ 300000 ∧ Hid (Te w' g v (p + K.length) false (ou || !o)) ∧ Hid (Bw g w w')) ∨
 (∃ (s : ByteArray) (x : Nat) (ou' : Bool), e = .returned (.string s) ∧ 262144 < B.length ∧ s.size ≤ 300000 * K.length ∧ x ≤ 100000 ∧ Hid (Te w' g v x true ou') ∧ Hid (Bw g w w'))
theorem CTold.done {g : Nat} {v : Value} {K : List Am} {B : List UInt8} {o ou : Bool} {p q : Nat} {w w' : World} {s : ByteArray} (hs : s.toList = B) (hB : B.length ≤ 300000) (hq : p + K.length = q) (hx : Te w' g v q false (ou || !o)) (hb : Bw g w w') : CTold g v K B o p ou w (.returned (.string s)) w' := by
 subst hq
 exact .inl ⟨s, rfl, hs, hB, hx, hb⟩
theorem CTold.long {g : Nat} {v : Value} {K : List Am} {B : List UInt8} {o ou ou' : Bool} {p x : Nat} {w w' : World} {s : ByteArray} (hB : 262144 < B.length) (hs : s.size ≤ 300000 * K.length) (hq : x ≤ 100000) (hx : Te w' g v x true ou') (hb : Bw g w w') : CTold g v K B o p ou w (.returned (.string s)) w' := .inr ⟨s, x, ou', rfl, hB, hs, hq, hx, hb⟩
theorem CN.next {k g : Nat} {v : Value} {p : Nat} {H : List UInt8} {K : List Am} {MK : List (List UInt8)} {oK ou : Bool} {j j1 : Nat} {wz : World} {P Q' : List (List UInt8)} {x : List UInt8} {K1 R1 Kc Rc : List Am} {d4 : Nat} {o1 o2 o3 o4 : Bool} {sb s sl : ByteArray} {q q5 : Nat}
  (hpl : P.length = j) (hmk : MK = P ++ x :: Q') (hkk : K = K1 ++ R1) (hok : oK = (o1 && o2)) (hbb : sb.toList = H ++ P.flatten) (hR : R1 = Kc ++ Rc) (hr : Its d4 Rc Q' o4) (ho : o2 = (o3 && o4)) (hs5 : s.toList = x) (hq : p + 1 + K1.length = q) (hq5 : q + Kc.length = q5) (hj1 : j + 1 = j1) (hle : sb.size + s.size ≤ 262144)
  (hsl : k = 5 → sl.toList = lastK (P ++ [x])) (hx : Te wz g v q5 false (ou || !((o1 && o3) && ordA k (P ++ [x])))) :
  ∃ P Q K1 R1 d2 o1 o2 sb' sl', CN k g v p H K MK oK ou j1 (.string (sb ++ s)) (.string sl) wz P Q K1 R1 d2 o1 o2 sb' sl' := by
 refine ⟨P ++ [x], Q', K1 ++ Kc, Rc, d4, o1 && o3, o4, sb ++ s, sl, ⟨by simp [hpl, hj1], by rw [hmk]; simp, by rw [hkk, hR, List.append_assoc], hr, by rw [hok, ho, Bool.and_assoc], rfl, by rw [tl_app, hbb, hs5]; simp, ?_, rfl, hsl, by rw [lap, ← Nat.add_assoc, hq, hq5]; exact hx⟩⟩
 rw [← tl_size, ← tl_size, hbb, hs5] at hle
 simp only [lap, List.flatten_append, List.flatten_cons, List.flatten_nil, List.append_nil] at hle ⊢
 omega
theorem CL.next {g : Nat} {v : Value} {H : List UInt8} {K : List Am} {MK : List (List UInt8)} {wz : World} {P Q' : List (List UInt8)} {x : List UInt8} {sb s sl : ByteArray} {q5 : Nat} {ou' : Bool}
  (hmk : MK = P ++ x :: Q') (hbb : sb.toList = H ++ P.flatten) (hbig : 262144 < (H ++ P.flatten).length + x.length) (hz1 : sb.size ≤ 262144) (hs : s.size ≤ 300000 * K.length) (hq5 : q5 ≤ 100000) (hx : Te wz g v q5 true ou') :
  ∃ sb' sl' x ou', CL g v H K MK (.string (sb ++ s)) (.string sl) wz sb' sl' x ou' := by
 refine ⟨sb ++ s, sl, q5, ou', ⟨?_, rfl, ?_, rfl, hq5, hx⟩⟩
 ·rw [hmk]
  simp only [List.flatten_append, List.flatten_cons, lap] at hbig ⊢
  omega
 ·rw [← tl_size, tl_app, lap, tl_size, tl_size]
  omega
def CR (k g : Nat) (v : Value) (p m T : Nat) (cs : List Value) (H : List UInt8) (K : List Am) (MK : List (List UInt8)) (oK ou : Bool) (w : World) (v5 v7 v8 : Value) (wr : World) : Prop :=
 ∃ i : Nat, v8 = .int .i64 (i : Int) ∧ i ≤ m ∧ Hid (At wr T 0 cs) ∧ Hid (Bw g w wr) ∧
  ((∃ P Q K1 R1 d2 o1 o2 sb sl, CN k g v p H K MK oK ou i v5 v7 wr P Q K1 R1 d2 o1 o2 sb sl) ∨ (∃ sb sl x ou', CL g v H K MK v5 v7 wr sb sl x ou'))
def CToldOk (l : List Ra) (K : List Am) : Prop := ∀ d B o, Its d K [B] o → ∀ A R, l = A ++ K.map up ++ R → ∀ w g k o0 n cap ou, Te w g (.slice (some ⟨k, o0, none⟩) n cap) A.length false ou → Lg w g k o0 l → l.length = n →
  Calls Tryz.prog 94 #[.pointer (some ⟨g, 0, none⟩)] w (CTold g (.slice (some ⟨k, o0, none⟩) n cap) K B o A.length ou w)
theorem Lg.bw {w w' : World} {g k o : Nat} {l : List Ra} (h : Lg w g k o l) (hb : Bw g w w') (hg : g < w.heap.size) : Lg w' g k o l := ⟨atBw h.at0 hb (by have := h.lt; omega) (by have := h.lt; omega), h.lt⟩
end Co
end Go.Proofs.YtikgonlhdkknkaaGreatDoor
