/- The document's teller: an item with a text is told. -/
import Derived.Test.YteanipjgpekncaaDoorCqU
namespace Go.Proofs.YteanipjgpekncaaDoor
open Go.RowKit
set_option linter.unusedVariables false
set_option linter.unusedSimpArgs false
namespace Co
open Dr (Rs Lm has lack at0S)
set_option maxRecDepth 100000 in
set_option maxHeartbeats 3200000 in
theorem told_text2 (w : World) (g k o n cap i : Nat) (lo ou : Bool) (l : List Ra) (hT : Te w g (.slice (some ⟨k, o, none⟩) n cap) i lo ou) (hL : Lg w g k o l) (hn : l.length = n) (hi : i < l.length) (hl : l.length ≤ 4096) (x : Ra) (hx : l.getD i ra0 = x) (hk : x.kind = 2) (hnum : x.num < 18446744073709551616) (htx : x.text.length ≤ 140737488351232) :
    Calls Tryd.prog 38 #[.pointer (some ⟨g, 0, none⟩)] w (fun e w' => ∃ u : ByteArray, e = .returned (.string u) ∧ u.toList = hdN 2 x.text.length ++ x.text ∧ Hid (Te w' g (.slice (some ⟨k, o, none⟩) n cap) (i + 1) lo ou) ∧ Hid (Bw g w w')) := by
  have HT := Lib.hid hT
  have HN := Lib.hid (And.intro hn (And.intro hi hl))
  have hX := rcell_atO hL.at0 i hi
  rw [hx] at hX
  have n0 := hX.cell 0 _ rfl
  have n1 := hX.cell 1 _ rfl
  have n2 := hX.cell 2 _ rfl
  rw [Nat.add_zero] at n0
  have k0 := hT.at0.cell 0 _ rfl
  have k1 := hT.at0.cell 1 _ rfl
  rw [Nat.zero_add] at k0
  have f1 := hT.at0.froz 1 (Nat.le_of_ble_eq_true rfl)
  have n0A : ∀ ob, (w.alloc ob).cell? ⟨k, o + i * 3, none⟩ = some (.int .i64 x.kind) := fun ob => by have h := (hX.alloc ob).cell 0 _ rfl; rw [Nat.add_zero] at h; exact h
  have n1A : ∀ ob, (w.alloc ob).cell? ⟨k, o + i * 3 + 1, none⟩ = some (.int .u64 (x.num : Int)) := fun ob => (hX.alloc ob).cell 1 _ rfl
  have n2A : ∀ ob, (w.alloc ob).cell? ⟨k, o + i * 3 + 2, none⟩ = some (.string ⟨x.text.toArray⟩) := fun ob => (hX.alloc ob).cell 2 _ rfl
  have k0A : ∀ ob, (w.alloc ob).cell? ⟨g, 0, none⟩ = some (.slice (some ⟨k, o, none⟩) n cap) := fun ob => by have h := (hT.at0.alloc ob).cell 0 _ rfl; rw [Nat.zero_add] at h; exact h
  have k1A : ∀ ob, (w.alloc ob).cell? ⟨g, 1, none⟩ = some (.int .i64 (i : Int)) := fun ob => (hT.at0.alloc ob).cell 1 _ rfl
  have e1 : (i : Int) < (n : Int) := by omega
  have e2 : (i : Int) ≤ 4096 := by omega
  clear hT hL hX hn hi hl hx
  go_enter Tryd.func38, Tryd.ntmps38
  go_wp2_with fail
  go_region
  have HTa : Hid (Te (w.alloc (Obj.cells #[Value.int .i64 x.kind, Value.int .u64 (x.num : Int), Value.string ⟨x.text.toArray⟩] 75)).drew g (.slice (some ⟨k, o, none⟩) n cap) i lo ou) := ⟨(HT.out.at0.alloc _).drewN 1, by have := HT.out.lt; simp; omega⟩
  have HAa : Hid (At (w.alloc (Obj.cells #[Value.int .i64 x.kind, Value.int .u64 (x.num : Int), Value.string ⟨x.text.toArray⟩] 75)).drew w.heap.size 0 [Value.int .i64 x.kind, Value.int .u64 (x.num : Int), Value.string ⟨x.text.toArray⟩]) := (At.ofAlloc w #[Value.int .i64 x.kind, Value.int .u64 (x.num : Int), Value.string ⟨x.text.toArray⟩] 75).drewN 1
  have HBa : Hid (Bw g w (w.alloc (Obj.cells #[Value.int .i64 x.kind, Value.int .u64 (x.num : Int), Value.string ⟨x.text.toArray⟩] 75)).drew) := Bw.of (((Below.refl _ w).alloc (Nat.le_refl _) _).drew)
  rw [hk] at HTa HAa HBa
  have HGT : Hid (g < w.heap.size) := HT.out.lt
  obtain ⟨T, hT⟩ : ∃ T, w.heap.size = T := ⟨_, rfl⟩
  rw [hT] at HAa HGT
  try rw [hk]
  obtain ⟨wa, hwa⟩ : ∃ v, (w.alloc (Obj.cells #[Value.int .i64 2, Value.int .u64 (x.num : Int), Value.string ⟨x.text.toArray⟩] 75)).drew = v := ⟨_, rfl⟩
  rw [hwa] at HTa HAa HBa
  try rw [hwa]
  try rw [hT]
  clear hwa hT n0 n1 n2 k0 k1 f1 n0A n1A n2A k0A k1A
  have k1 := HTa.out.at0.cell 1 _ rfl
  have f1 := HTa.out.at0.froz 1 (Nat.le_of_ble_eq_true rfl)
  obtain ⟨i1, hi1⟩ : ∃ i1, i + 1 = i1 := ⟨_, rfl⟩
  have HI1 := Lib.hid hi1
  have e3 : (i : Int) + 1 = (i1 : Int) := by omega
  have e4 : IntKind.i64.wrap (i1 : Int) = (i1 : Int) := wrap_fit i1 (by unfold maxLen; omega)
  obtain ⟨sz, hsz⟩ : ∃ sz, (⟨x.text.toArray⟩ : ByteArray).size = sz := ⟨_, rfl⟩
  have hsz2 : sz = x.text.length := by rw [← hsz, ← tl_size, tl_mk]
  have HSL := Lib.hid hsz2
  have RH := Lib.hid (fun w => rhead_any 2 sz (by decide) (by omega) w)
  have g9 : IntKind.u64.wrap (sz : Int) = (sz : Int) := u64c sz (by omega)
  have hgT : ¬ g = T := by have := HGT.out; omega
  have HTb : Hid (Te (wa.setCell ⟨g, 1, none⟩ (.int .i64 (i1 : Int))) g (.slice (some ⟨k, o, none⟩) n cap) i1 lo ou) := ⟨HTa.out.at0.set 1 _, by rw [set_size]; exact HTa.out.lt⟩
  have HAb : Hid (At (wa.setCell ⟨g, 1, none⟩ (.int .i64 (i1 : Int))) T 0 [Value.int .i64 2, Value.int .u64 (x.num : Int), Value.string ⟨x.text.toArray⟩]) := HAa.out.other g 1 _ (Or.inl hgT)
  have HBb : Hid (Bw g w (wa.setCell ⟨g, 1, none⟩ (.int .i64 (i1 : Int)))) := HBa.out.setG 1 _
  have b0 := HAb.out.cell 0 _ rfl
  have b1 := HAb.out.cell 1 _ rfl
  have b2 := HAb.out.cell 2 _ rfl
  rw [Nat.zero_add] at b0
  have HSZ : Hid (sz ≤ 140737488351232) := by show sz ≤ _; rw [hsz2]; exact htx
  clear hk hi1 hnum hgT htx hsz2
  go_wp2_with fail
  obtain ⟨wb, hwb⟩ : ∃ v, wa.setCell ⟨g, 1, none⟩ (.int .i64 (i1 : Int)) = v := ⟨_, rfl⟩
  rw [hwb] at HTb HAb HBb
  try rw [hwb]
  clear hwb b0 b1 b2 k1 f1 HTa HAa HBa
  have HTS : Hid (T < wb.heap.size) := by have := HAb.out.lt (by simp); exact this
  have c0 := HAb.out.cell 0 _ rfl
  have c2 := HAb.out.cell 2 _ rfl
  rw [Nat.zero_add] at c0
  go_region_with ((go_at_call 61; refine (RH.out _).mono ?_; rintro e w3 ⟨u, rfl, hu, hb3⟩; have HU := Lib.hid hu; have hov : ¬ 9223372036854775807 < u.size + sz := (by have h1 := HSZ.out; have h2 := widN_le sz; have h3 : u.size = widN sz + 1 := (by rw [← tl_size, hu, hdN_length]); omega); have HA3 : Hid (At w3 T 0 [Value.int .i64 2, Value.int .u64 (x.num : Int), Value.string ⟨x.text.toArray⟩]) := (by first | exact (HAb.out).below hb3 HTS.out | exact (HAb.out.drewN 1).below hb3 HTS.out | exact (HAb.out.drewN 2).below hb3 HTS.out | exact (HAb.out.drewN 3).below hb3 HTS.out | exact (HAb.out.drewN 4).below hb3 HTS.out | exact (HAb.out.drewN 5).below hb3 HTS.out); have HT3 : Hid (Te w3 g (.slice (some ⟨k, o, none⟩) n cap) i1 lo ou) := (by first | exact ⟨(HTb.out.at0).below hb3 HTb.out.lt, Nat.lt_of_lt_of_le HTb.out.lt hb3.size⟩ | exact ⟨(HTb.out.at0.drewN 1).below hb3 HTb.out.lt, Nat.lt_of_lt_of_le HTb.out.lt hb3.size⟩ | exact ⟨(HTb.out.at0.drewN 2).below hb3 HTb.out.lt, Nat.lt_of_lt_of_le HTb.out.lt hb3.size⟩ | exact ⟨(HTb.out.at0.drewN 3).below hb3 HTb.out.lt, Nat.lt_of_lt_of_le HTb.out.lt hb3.size⟩ | exact ⟨(HTb.out.at0.drewN 4).below hb3 HTb.out.lt, Nat.lt_of_lt_of_le HTb.out.lt hb3.size⟩ | exact ⟨(HTb.out.at0.drewN 5).below hb3 HTb.out.lt, Nat.lt_of_lt_of_le HTb.out.lt hb3.size⟩); have HB3 : Hid (Bw g w w3) := (by first | exact HBb.out.trans (Bw.of hb3) | exact (HBb.out.trans (Bw.drewN _ _ _)).trans (Bw.of hb3)); have d2 := HA3.out.cell 2 _ rfl; have d0 := HA3.out.cell 0 _ rfl; rw [Nat.zero_add] at d0; clear hu hb3))
  all_goals
    go_wp2_with fail
    go_loopw [5, 7, 8] (fun vs vl vi wr => vs = .string (u ++ ⟨x.text.toArray⟩) ∧ vi = .int .i64 0 ∧ Hid (Te wr g (.slice (some ⟨k, o, none⟩) n cap) i1 lo ou) ∧ Hid (Bw g w wr)) (fun _ _ _ _ => 0)
    case atStart => exact ⟨rfl, rfl, (by first | exact HT3 | exact HT3.out.drewN _), (by first | exact HB3 | exact HB3.out.trans (Bw.drewN _ _ _))⟩
    case round =>
      obtain ⟨rfl, rfl, HT5, HB5⟩ := hrel
      go_wp2_with fail
      go_ret
      exact ⟨_, rfl, by rw [tl_app, HU.out, tl_mk, HSL.out], by rw [HI1.out]; exact HT5, HB5⟩
set_option maxRecDepth 100000 in
set_option maxHeartbeats 3200000 in
theorem told_text3 (w : World) (g k o n cap i : Nat) (lo ou : Bool) (l : List Ra) (hT : Te w g (.slice (some ⟨k, o, none⟩) n cap) i lo ou) (hL : Lg w g k o l) (hn : l.length = n) (hi : i < l.length) (hl : l.length ≤ 4096) (x : Ra) (hx : l.getD i ra0 = x) (hk : x.kind = 3) (hnum : x.num < 18446744073709551616) (htx : x.text.length ≤ 140737488351232) :
    Calls Tryd.prog 38 #[.pointer (some ⟨g, 0, none⟩)] w (fun e w' => ∃ u : ByteArray, e = .returned (.string u) ∧ u.toList = hdN 3 x.text.length ++ x.text ∧ Hid (Te w' g (.slice (some ⟨k, o, none⟩) n cap) (i + 1) lo ou) ∧ Hid (Bw g w w')) := by
  have HT := Lib.hid hT
  have HN := Lib.hid (And.intro hn (And.intro hi hl))
  have hX := rcell_atO hL.at0 i hi
  rw [hx] at hX
  have n0 := hX.cell 0 _ rfl
  have n1 := hX.cell 1 _ rfl
  have n2 := hX.cell 2 _ rfl
  rw [Nat.add_zero] at n0
  have k0 := hT.at0.cell 0 _ rfl
  have k1 := hT.at0.cell 1 _ rfl
  rw [Nat.zero_add] at k0
  have f1 := hT.at0.froz 1 (Nat.le_of_ble_eq_true rfl)
  have n0A : ∀ ob, (w.alloc ob).cell? ⟨k, o + i * 3, none⟩ = some (.int .i64 x.kind) := fun ob => by have h := (hX.alloc ob).cell 0 _ rfl; rw [Nat.add_zero] at h; exact h
  have n1A : ∀ ob, (w.alloc ob).cell? ⟨k, o + i * 3 + 1, none⟩ = some (.int .u64 (x.num : Int)) := fun ob => (hX.alloc ob).cell 1 _ rfl
  have n2A : ∀ ob, (w.alloc ob).cell? ⟨k, o + i * 3 + 2, none⟩ = some (.string ⟨x.text.toArray⟩) := fun ob => (hX.alloc ob).cell 2 _ rfl
  have k0A : ∀ ob, (w.alloc ob).cell? ⟨g, 0, none⟩ = some (.slice (some ⟨k, o, none⟩) n cap) := fun ob => by have h := (hT.at0.alloc ob).cell 0 _ rfl; rw [Nat.zero_add] at h; exact h
  have k1A : ∀ ob, (w.alloc ob).cell? ⟨g, 1, none⟩ = some (.int .i64 (i : Int)) := fun ob => (hT.at0.alloc ob).cell 1 _ rfl
  have e1 : (i : Int) < (n : Int) := by omega
  have e2 : (i : Int) ≤ 4096 := by omega
  clear hT hL hX hn hi hl hx
  go_enter Tryd.func38, Tryd.ntmps38
  go_wp2_with fail
  go_region
  have HTa : Hid (Te (w.alloc (Obj.cells #[Value.int .i64 x.kind, Value.int .u64 (x.num : Int), Value.string ⟨x.text.toArray⟩] 75)).drew g (.slice (some ⟨k, o, none⟩) n cap) i lo ou) := ⟨(HT.out.at0.alloc _).drewN 1, by have := HT.out.lt; simp; omega⟩
  have HAa : Hid (At (w.alloc (Obj.cells #[Value.int .i64 x.kind, Value.int .u64 (x.num : Int), Value.string ⟨x.text.toArray⟩] 75)).drew w.heap.size 0 [Value.int .i64 x.kind, Value.int .u64 (x.num : Int), Value.string ⟨x.text.toArray⟩]) := (At.ofAlloc w #[Value.int .i64 x.kind, Value.int .u64 (x.num : Int), Value.string ⟨x.text.toArray⟩] 75).drewN 1
  have HBa : Hid (Bw g w (w.alloc (Obj.cells #[Value.int .i64 x.kind, Value.int .u64 (x.num : Int), Value.string ⟨x.text.toArray⟩] 75)).drew) := Bw.of (((Below.refl _ w).alloc (Nat.le_refl _) _).drew)
  rw [hk] at HTa HAa HBa
  have HGT : Hid (g < w.heap.size) := HT.out.lt
  obtain ⟨T, hT⟩ : ∃ T, w.heap.size = T := ⟨_, rfl⟩
  rw [hT] at HAa HGT
  try rw [hk]
  obtain ⟨wa, hwa⟩ : ∃ v, (w.alloc (Obj.cells #[Value.int .i64 3, Value.int .u64 (x.num : Int), Value.string ⟨x.text.toArray⟩] 75)).drew = v := ⟨_, rfl⟩
  rw [hwa] at HTa HAa HBa
  try rw [hwa]
  try rw [hT]
  clear hwa hT n0 n1 n2 k0 k1 f1 n0A n1A n2A k0A k1A
  have k1 := HTa.out.at0.cell 1 _ rfl
  have f1 := HTa.out.at0.froz 1 (Nat.le_of_ble_eq_true rfl)
  obtain ⟨i1, hi1⟩ : ∃ i1, i + 1 = i1 := ⟨_, rfl⟩
  have HI1 := Lib.hid hi1
  have e3 : (i : Int) + 1 = (i1 : Int) := by omega
  have e4 : IntKind.i64.wrap (i1 : Int) = (i1 : Int) := wrap_fit i1 (by unfold maxLen; omega)
  obtain ⟨sz, hsz⟩ : ∃ sz, (⟨x.text.toArray⟩ : ByteArray).size = sz := ⟨_, rfl⟩
  have hsz2 : sz = x.text.length := by rw [← hsz, ← tl_size, tl_mk]
  have HSL := Lib.hid hsz2
  have RH := Lib.hid (fun w => rhead_any 3 sz (by decide) (by omega) w)
  have g9 : IntKind.u64.wrap (sz : Int) = (sz : Int) := u64c sz (by omega)
  have hgT : ¬ g = T := by have := HGT.out; omega
  have HTb : Hid (Te (wa.setCell ⟨g, 1, none⟩ (.int .i64 (i1 : Int))) g (.slice (some ⟨k, o, none⟩) n cap) i1 lo ou) := ⟨HTa.out.at0.set 1 _, by rw [set_size]; exact HTa.out.lt⟩
  have HAb : Hid (At (wa.setCell ⟨g, 1, none⟩ (.int .i64 (i1 : Int))) T 0 [Value.int .i64 3, Value.int .u64 (x.num : Int), Value.string ⟨x.text.toArray⟩]) := HAa.out.other g 1 _ (Or.inl hgT)
  have HBb : Hid (Bw g w (wa.setCell ⟨g, 1, none⟩ (.int .i64 (i1 : Int)))) := HBa.out.setG 1 _
  have b0 := HAb.out.cell 0 _ rfl
  have b1 := HAb.out.cell 1 _ rfl
  have b2 := HAb.out.cell 2 _ rfl
  rw [Nat.zero_add] at b0
  have HSZ : Hid (sz ≤ 140737488351232) := by show sz ≤ _; rw [hsz2]; exact htx
  clear hk hi1 hnum hgT htx hsz2
  go_wp2_with fail
  obtain ⟨wb, hwb⟩ : ∃ v, wa.setCell ⟨g, 1, none⟩ (.int .i64 (i1 : Int)) = v := ⟨_, rfl⟩
  rw [hwb] at HTb HAb HBb
  try rw [hwb]
  clear hwb b0 b1 b2 k1 f1 HTa HAa HBa
  have HTS : Hid (T < wb.heap.size) := by have := HAb.out.lt (by simp); exact this
  have c0 := HAb.out.cell 0 _ rfl
  have c2 := HAb.out.cell 2 _ rfl
  rw [Nat.zero_add] at c0
  go_region_with ((go_at_call 61; refine (RH.out _).mono ?_; rintro e w3 ⟨u, rfl, hu, hb3⟩; have HU := Lib.hid hu; have hov : ¬ 9223372036854775807 < u.size + sz := (by have h1 := HSZ.out; have h2 := widN_le sz; have h3 : u.size = widN sz + 1 := (by rw [← tl_size, hu, hdN_length]); omega); have HA3 : Hid (At w3 T 0 [Value.int .i64 3, Value.int .u64 (x.num : Int), Value.string ⟨x.text.toArray⟩]) := (by first | exact (HAb.out).below hb3 HTS.out | exact (HAb.out.drewN 1).below hb3 HTS.out | exact (HAb.out.drewN 2).below hb3 HTS.out | exact (HAb.out.drewN 3).below hb3 HTS.out | exact (HAb.out.drewN 4).below hb3 HTS.out | exact (HAb.out.drewN 5).below hb3 HTS.out); have HT3 : Hid (Te w3 g (.slice (some ⟨k, o, none⟩) n cap) i1 lo ou) := (by first | exact ⟨(HTb.out.at0).below hb3 HTb.out.lt, Nat.lt_of_lt_of_le HTb.out.lt hb3.size⟩ | exact ⟨(HTb.out.at0.drewN 1).below hb3 HTb.out.lt, Nat.lt_of_lt_of_le HTb.out.lt hb3.size⟩ | exact ⟨(HTb.out.at0.drewN 2).below hb3 HTb.out.lt, Nat.lt_of_lt_of_le HTb.out.lt hb3.size⟩ | exact ⟨(HTb.out.at0.drewN 3).below hb3 HTb.out.lt, Nat.lt_of_lt_of_le HTb.out.lt hb3.size⟩ | exact ⟨(HTb.out.at0.drewN 4).below hb3 HTb.out.lt, Nat.lt_of_lt_of_le HTb.out.lt hb3.size⟩ | exact ⟨(HTb.out.at0.drewN 5).below hb3 HTb.out.lt, Nat.lt_of_lt_of_le HTb.out.lt hb3.size⟩); have HB3 : Hid (Bw g w w3) := (by first | exact HBb.out.trans (Bw.of hb3) | exact (HBb.out.trans (Bw.drewN _ _ _)).trans (Bw.of hb3)); have d2 := HA3.out.cell 2 _ rfl; have d0 := HA3.out.cell 0 _ rfl; rw [Nat.zero_add] at d0; clear hu hb3))
  all_goals
    go_wp2_with fail
    go_loopw [5, 7, 8] (fun vs vl vi wr => vs = .string (u ++ ⟨x.text.toArray⟩) ∧ vi = .int .i64 0 ∧ Hid (Te wr g (.slice (some ⟨k, o, none⟩) n cap) i1 lo ou) ∧ Hid (Bw g w wr)) (fun _ _ _ _ => 0)
    case atStart => exact ⟨rfl, rfl, (by first | exact HT3 | exact HT3.out.drewN _), (by first | exact HB3 | exact HB3.out.trans (Bw.drewN _ _ _))⟩
    case round =>
      obtain ⟨rfl, rfl, HT5, HB5⟩ := hrel
      go_wp2_with fail
      go_ret
      exact ⟨_, rfl, by rw [tl_app, HU.out, tl_mk, HSL.out], by rw [HI1.out]; exact HT5, HB5⟩
end Co
end Go.Proofs.YteanipjgpekncaaDoor
