/- Joined by merge.py: JqJ JqK JqL. -/
import Derived.Test.YtpaikjlcachabaaDoorJqU
import Derived.Test.YtpaikjlcachabaaDoorJqY
import Derived.BigRegion
import Derived.Deep.CutRange
namespace Go.Proofs.YtpaikjlcachabaaDoor
open Go.RowKit
set_option linter.unusedVariables false
set_option linter.unusedSimpArgs false
namespace Jq
open Js Je
/-- the document's teller -/
structure Tj (w : World) (g : Nat) (v : Value) (i : Nat) (de : Int) (lo : Bool) : Prop where
  at0 : At w g 0 [v, .int .i64 (i : Int), .int .i64 de, .bool false, .bool lo]
  lt : g < w.heap.size
/-- all that was there stays, the teller beside -/
structure Bw (g : Nat) (w w' : World) : Prop where
  os : w'.os = w.os
  tape : w'.tape = w.tape
  output : w'.output = w.output
  size : w.heap.size ≤ w'.heap.size
  block : ∀ k, k < w.heap.size → k ≠ g → w'.heap[k]? = w.heap[k]?
theorem Bw.refl (g : Nat) (w : World) : Bw g w w := ⟨rfl, rfl, rfl, Nat.le_refl _, fun _ _ _ => rfl⟩
theorem Bw.trans {g : Nat} {a b c : World} (h : Bw g a b) (k : Bw g b c) : Bw g a c := ⟨k.os.trans h.os, k.tape.trans h.tape, k.output.trans h.output, Nat.le_trans h.size k.size, fun i hi hg => (k.block i (Nat.lt_of_lt_of_le hi h.size) hg).trans (h.block i hi hg)⟩
theorem Bw.of {g : Nat} {w w' : World} (hb : Below w.heap.size w w') : Bw g w w' := ⟨hb.os, hb.tape, hb.output, hb.size, fun k hk _ => hb.block k hk⟩
theorem Bw.low {g : Nat} {w w' : World} (h : Bw g w w') {B : Nat} (h1 : B ≤ g) (h2 : g < w.heap.size) : Below B w w' := ⟨h.os, h.tape, h.output, h.size, fun k hk => h.block k (by omega) (by omega)⟩
theorem Bw.setG {g : Nat} {a w : World} (h : Bw g a w) (o : Nat) (u : Value) : Bw g a (w.setCell ⟨g, o, none⟩ u) :=
  h.trans ⟨rfl, rfl, rfl, by simp [World.setCell], fun k hk hg => Below.heap_setCell _ _ _ _ (by show k ≠ g; exact hg)⟩
theorem Bw.drewN (g : Nat) (w : World) (k : Nat) : Bw g w (w.drewN k) := ⟨rfl, rfl, rfl, Nat.le_refl _, fun _ _ _ => rfl⟩
theorem atBw {g k o : Nat} {w w' : World} {cs : List Value} (h : At w k o cs) (hb : Bw g w w') (h1 : k < w.heap.size) (h2 : k ≠ g) : At w' k o cs := fun j v hv => by
  obtain ⟨h3, h4⟩ := h j v hv
  have h5 := hb.block k h1 h2
  refine ⟨?_, ?_⟩
  · rw [← h3]; simp only [World.cell?, h5]
  · rw [← h4]; simp only [World.frozen?, h5]
theorem Tj.below {w w' : World} {g : Nat} {v : Value} {i : Nat} {de : Int} {lo : Bool} (h : Tj w g v i de lo) (hb : Below w.heap.size w w') : Tj w' g v i de lo := ⟨h.at0.below hb h.lt, Nat.lt_of_lt_of_le h.lt hb.size⟩
theorem Tj.drewN {w : World} {g : Nat} {v : Value} {i : Nat} {de : Int} {lo : Bool} (h : Tj w g v i de lo) (k : Nat) : Tj (w.drewN k) g v i de lo := ⟨h.at0.drewN k, h.lt⟩
/-- what telling a value comes to -/
def JTold (g : Nat) (v : Value) (N : List Vl) (B : List UInt8) (i : Nat) (w : World) (e : Ending) (w' : World) : Prop :=
  (∃ u de, e = .returned (.string u) ∧ u.toList = B ∧ B.length ≤ 2000000 ∧ Hid (Tj w' g v (i + N.length) de false) ∧ Hid (Bw g w w')) ∨
  (∃ u i' de, e = .returned (.string u) ∧ 262144 < B.length ∧ u.size ≤ 2000000 * N.length ∧ Hid (Tj w' g v i' de true) ∧ Hid (Bw g w w'))
theorem quoted_len (t : List UInt8) (h : t.length ≤ 262144) : (Jb.quoted t).length ≤ 1600000 := by
  have h1 := qso_len t
  rw [Jb.quoted, show (34 :: t.flatMap qb ++ [34] : List UInt8) = qso t ++ [34] from rfl, List.length_append]
  simp
  omega
theorem leaf_len {x : Vl} (h : x.text.length ≤ 262144) : (leafT x).length ≤ 2000000 := by
  rw [leafT]
  have := quoted_len x.text h
  repeat' split
  all_goals simp
  all_goals omega
set_option maxRecDepth 100000 in
set_option maxHeartbeats 3200000 in
theorem told_leaf (w : World) (g k o n cap i : Nat) (de dp : Int) (l : List Vl) (hT : Tj w g (.slice (some ⟨k, o, none⟩) n cap) i de false) (hL : At w k o (vcells l)) (hkg : k < g) (hn : l.length = n) (hi : i < l.length) (hl : l.length ≤ 4096) (x : Vl) (hx : l.getD i v0 = x) (hk : 0 ≤ x.kind ∧ x.kind ≤ 4) (htx : x.text.length ≤ 262144) :
    Calls Tryd.prog 34 #[.pointer (some ⟨g, 0, none⟩), .int .i64 dp] w (JTold g (.slice (some ⟨k, o, none⟩) n cap) [x] (leafT x) i w) := by
  have HT := Lib.hid hT
  have HN := Lib.hid (And.intro hn (And.intro hi hl))
  obtain ⟨kk, hkk⟩ : ∃ kk, x.kind = kk := ⟨_, rfl⟩
  obtain ⟨kd, hkd⟩ : ∃ kk, x.kids = kk := ⟨_, rfl⟩
  obtain ⟨X, hX0⟩ : ∃ X : ByteArray, ⟨x.text.toArray⟩ = X := ⟨_, rfl⟩
  have hXL : X.toList = x.text := by rw [← hX0, tl_mk]
  have hX := value_at hL i hi
  rw [hx] at hX
  have hvv : vv x = [.int .i64 kk, .int .i64 kd, .string X] := by rw [vv, hkk, hkd, hX0]
  rw [hvv] at hX
  have HLF : Hid (leafT x = if kk = 0 then [110, 117, 108, 108] else if kk = 1 then [102, 97, 108, 115, 101] else if kk = 2 then [116, 114, 117, 101] else if kk = 3 then X.toList else Jb.quoted X.toList) := by show leafT x = _; rw [leafT, hkk, hXL]
  have HLN := Lib.hid (leaf_len htx)
  have RQ := Lib.hid (fun w => jrquoted_any X (by rw [← tl_size, hXL]; exact htx) w)
  have HXZ : Hid (X.toList = x.text ∧ kd = x.kids) := ⟨hXL, hkd.symm⟩
  rw [hkk] at hk
  have HKK := Lib.hid hk
  obtain ⟨B, hB⟩ : ∃ B, leafT x = B := ⟨_, rfl⟩
  rw [hB] at HLF HLN
  rw [hB]
  have k0 := hT.at0.cell 0 _ rfl
  have k1 := hT.at0.cell 1 _ rfl
  have k3 := hT.at0.cell 3 _ rfl
  rw [Nat.zero_add] at k0
  have HXX := Lib.hid hX
  have HSW : Hid (k < w.heap.size ∧ k ≠ g) := ⟨by have := hT.lt; omega, by omega⟩
  have e1 : (i : Int) < (n : Int) := by omega
  have e1b : ¬ (n : Int) ≤ (i : Int) := by omega
  have e2 : (i : Int) ≤ 4096 := by omega
  clear hT hL hX hn hi hl hx hkk hkd hX0 hvv hk htx hXL hkg hB
  go_enter Tryd.func34, Tryd.ntmps34
  go_upto_region 1 with fail
  go_quiet (fail)
  go_upto_region 4 with fail
  obtain ⟨w1, hw1⟩ : ∃ x, w.drewN nq = x := ⟨_, rfl⟩
  have HT1 : Hid (Tj w1 g (.slice (some ⟨k, o, none⟩) n cap) i de false) := by rw [← hw1]; exact HT.out.drewN _
  have HX1 : Hid (At w1 k (o + i * 3) [.int .i64 kk, .int .i64 kd, .string X]) := by rw [← hw1]; exact HXX.out.drewN _
  have HB1 : Hid (Bw g w w1) := by rw [← hw1]; exact Bw.drewN _ _ _
  rw [hw1]
  clear k0 k1 k3 hw1
  have n0 := HX1.out.cell 0 _ rfl
  have n1 := HX1.out.cell 1 _ rfl
  have n2 := HX1.out.cell 2 _ rfl
  rw [Nat.add_zero] at n0
  have k0 := HT1.out.at0.cell 0 _ rfl
  have k1 := HT1.out.at0.cell 1 _ rfl
  rw [Nat.zero_add] at k0
  have n0A : ∀ ob, (w1.alloc ob).cell? ⟨k, o + i * 3, none⟩ = some (.int .i64 kk) := fun ob => by have h := (HX1.out.alloc ob).cell 0 _ rfl; rw [Nat.add_zero] at h; exact h
  have n1A : ∀ ob, (w1.alloc ob).cell? ⟨k, o + i * 3 + 1, none⟩ = some (.int .i64 kd) := fun ob => (HX1.out.alloc ob).cell 1 _ rfl
  have n2A : ∀ ob, (w1.alloc ob).cell? ⟨k, o + i * 3 + 2, none⟩ = some (.string X) := fun ob => (HX1.out.alloc ob).cell 2 _ rfl
  have k0A : ∀ ob, (w1.alloc ob).cell? ⟨g, 0, none⟩ = some (.slice (some ⟨k, o, none⟩) n cap) := fun ob => by have h := (HT1.out.at0.alloc ob).cell 0 _ rfl; rw [Nat.zero_add] at h; exact h
  have k1A : ∀ ob, (w1.alloc ob).cell? ⟨g, 1, none⟩ = some (.int .i64 (i : Int)) := fun ob => (HT1.out.at0.alloc ob).cell 1 _ rfl
  go_region
  have HTa : Hid (Tj (w1.alloc (Obj.cells #[Value.int .i64 kk, Value.int .i64 kd, Value.string X] 61)).drew g (.slice (some ⟨k, o, none⟩) n cap) i de false) := ⟨(HT1.out.at0.alloc _).drewN 1, by have := HT1.out.lt; simp; omega⟩
  have HAa : Hid (At (w1.alloc (Obj.cells #[Value.int .i64 kk, Value.int .i64 kd, Value.string X] 61)).drew w1.heap.size 0 [Value.int .i64 kk, Value.int .i64 kd, Value.string X]) := (At.ofAlloc w1 #[Value.int .i64 kk, Value.int .i64 kd, Value.string X] 61).drewN 1
  have HBa : Hid (Bw g w (w1.alloc (Obj.cells #[Value.int .i64 kk, Value.int .i64 kd, Value.string X] 61)).drew) := HB1.out.trans (Bw.of (((Below.refl _ w1).alloc (Nat.le_refl _) _).drew))
  have HGT : Hid (g < w1.heap.size) := HT1.out.lt
  obtain ⟨T, hT⟩ : ∃ T, w1.heap.size = T := ⟨_, rfl⟩
  rw [hT] at HAa HGT
  obtain ⟨wa, hwa⟩ : ∃ v, (w1.alloc (Obj.cells #[Value.int .i64 kk, Value.int .i64 kd, Value.string X] 61)).drew = v := ⟨_, rfl⟩
  rw [hwa] at HTa HAa HBa
  try rw [hwa]
  try rw [hT]
  clear hwa hT n0 n1 n2 k0 k1 n0A n1A n2A k0A k1A
  have k1 := HTa.out.at0.cell 1 _ rfl
  have f1 := HTa.out.at0.froz 1 (Nat.le_of_ble_eq_true rfl)
  obtain ⟨i1, hi1⟩ : ∃ i1, i + 1 = i1 := ⟨_, rfl⟩
  have e3 : (i : Int) + 1 = (i1 : Int) := by omega
  have e4 : IntKind.i64.wrap (i1 : Int) = (i1 : Int) := w64b i1 (by omega)
  have hgT : ¬ g = T := by have := HGT.out; omega
  have HTb : Hid (Tj (wa.setCell ⟨g, 1, none⟩ (.int .i64 (i1 : Int))) g (.slice (some ⟨k, o, none⟩) n cap) i1 de false) := ⟨HTa.out.at0.set 1 _, by rw [set_size]; exact HTa.out.lt⟩
  have HAb : Hid (At (wa.setCell ⟨g, 1, none⟩ (.int .i64 (i1 : Int))) T 0 [Value.int .i64 kk, Value.int .i64 kd, Value.string X]) := HAa.out.other g 1 _ (Or.inl hgT)
  have HBb : Hid (Bw g w (wa.setCell ⟨g, 1, none⟩ (.int .i64 (i1 : Int)))) := HBa.out.setG 1 _
  go_upto_region 6 with fail
  obtain ⟨wb, hwb⟩ : ∃ v, wa.setCell ⟨g, 1, none⟩ (.int .i64 (i1 : Int)) = v := ⟨_, rfl⟩
  rw [hwb] at HTb HAb HBb
  try rw [hwb]
  clear hwb k1 f1 HTa HAa HBa HT1 HX1 HB1 hgT
  have c0 := HAb.out.cell 0 _ rfl
  have c2 := HAb.out.cell 2 _ rfl
  rw [Nat.zero_add] at c0
  have HI1 := Lib.hid hi1
  clear hi1
  have hk := HKK.out
  have hlf := HLF.out
  obtain rfl | rfl | rfl | rfl | rfl : kk = 0 ∨ kk = 1 ∨ kk = 2 ∨ kk = 3 ∨ kk = 4 := by omega
  · clear hk hlf
    go_wp2_with fail
    go_ret
    exact .inl ⟨⟨#[110, 117, 108, 108]⟩, de, rfl, by rw [HLF.out]; exact tl_mk _, HLN.out, by rw [List.length_singleton, HI1.out]; exact HTb, HBb⟩
  · clear hk hlf
    go_wp2_with fail
    go_ret
    exact .inl ⟨⟨#[102, 97, 108, 115, 101]⟩, de, rfl, by rw [HLF.out]; exact tl_mk _, HLN.out, by rw [List.length_singleton, HI1.out]; exact HTb, HBb⟩
  · clear hk hlf
    go_wp2_with fail
    go_ret
    exact .inl ⟨⟨#[116, 114, 117, 101]⟩, de, rfl, by rw [HLF.out]; exact tl_mk _, HLN.out, by rw [List.length_singleton, HI1.out]; exact HTb, HBb⟩
  · clear hk hlf
    go_wp2_with fail
    go_ret
    exact .inl ⟨X, de, rfl, by rw [HLF.out]; rfl, HLN.out, by rw [List.length_singleton, HI1.out]; exact HTb, HBb⟩
  · clear hk hlf
    go_wp2_with fail
    refine (RQ.out _).mono ?_
    rintro e w3 ⟨rfl, hb3⟩
    have HT3 := Lib.hid (HTb.out.below hb3)
    have HB3 := Lib.hid (HBb.out.trans (Bw.of hb3))
    clear hb3
    go_wp2_with fail
    go_ret
    exact .inl ⟨_, de, rfl, by rw [HLF.out]; exact tl_mk _, HLN.out, by rw [List.length_singleton, HI1.out]; exact HT3, HB3⟩
end Jq
end Go.Proofs.YtpaikjlcachabaaDoor
namespace Go.Proofs.YtpaikjlcachabaaDoor
open Go.RowKit
set_option linter.unusedVariables false
set_option linter.unusedSimpArgs false
namespace Jq
open Js Je
theorem tl_appJ (a b : ByteArray) : (a ++ b).toList = a.toList ++ b.toList := by rw [Lib.toList_data, Lib.toList_data, Lib.toList_data]; simp [ByteArray.data_append]
theorem t58 : (⟨#[58]⟩ : ByteArray).toList = [58] := tl_mk [58]
theorem t44 : (⟨#[44]⟩ : ByteArray).toList = [44] := tl_mk [44]
theorem t91 : (⟨#[91]⟩ : ByteArray).toList = [91] := tl_mk [91]
theorem t93 : (⟨#[93]⟩ : ByteArray).toList = [93] := tl_mk [93]
theorem t123 : (⟨#[123]⟩ : ByteArray).toList = [123] := tl_mk [123]
theorem t125 : (⟨#[125]⟩ : ByteArray).toList = [125] := tl_mk [125]
theorem joinT_append (k : Int) (B : List (List UInt8)) : ∀ (A : List (List UInt8)) (i : Nat), joinT k i (A ++ B) = joinT k i A ++ joinT k (i + A.length) B
  | [], i => rfl
  | m :: A, i => by rw [List.cons_append, joinT, joinT, joinT_append k B A (i + 1), List.length_cons, show i + (A.length + 1) = i + 1 + A.length by omega, List.append_assoc, List.append_assoc, List.append_assoc]
theorem joinT_step {k : Int} {M : List (List UInt8)} {j : Nat} {b : List UInt8} (h : M[j]? = some b) : joinT k 0 (M.take (j + 1)) = joinT k 0 (M.take j) ++ sepT k j ++ b := by
  obtain ⟨hj, hb⟩ := List.getElem?_eq_some_iff.1 h
  rw [List.take_succ_eq_append_getElem hj, hb, joinT_append, List.length_take, Nat.min_eq_left (by omega), Nat.zero_add, joinT, joinT, List.append_nil, List.append_assoc]
theorem joinT_le (k : Int) (M : List (List UInt8)) (j : Nat) : (joinT k 0 (M.take j)).length ≤ (nodeT k M).length := by
  have h : joinT k 0 M = joinT k 0 (M.take j) ++ joinT k (0 + (M.take j).length) (M.drop j) := by rw [← joinT_append, List.take_append_drop]
  rw [nodeT, h, List.length_append, List.length_append, List.length_append]
  omega
theorem one_le {k : Int} {M : List (List UInt8)} {j : Nat} {b : List UInt8} (h : M[j]? = some b) : b.length ≤ (nodeT k M).length := by
  have h1 := joinT_le k M (j + 1)
  rw [joinT_step h, List.length_append] at h1
  omega
theorem sep_len (k : Int) (j : Nat) : (sepT k j).length ≤ 1 := by
  rw [sepT]
  repeat' split
  all_goals simp
/-- every value of a list is told, behind any place -/
def ToldOk (l : List Vl) (N : List Vl) : Prop := ∀ (v : Vl) (B : List UInt8) (d : Nat) (q : Bool) (i : Nat) (r : List Vl) (w : World) (g k o n cap dp : Nat) (de : Int), Fo N [v] [B] d q → l.drop i = N ++ r → l.length = n → Tj w g (.slice (some ⟨k, o, none⟩) n cap) i de false → At w k o (vcells l) → k < g → dp + N.length ≤ 10000 →
  Calls Tryd.prog 34 #[.pointer (some ⟨g, 0, none⟩), .int .i64 (dp : Int)] w (JTold g (.slice (some ⟨k, o, none⟩) n cap) N B i w)
/-- the loop of told, in order -/
structure NL (l r HK : List Vl) (MK : List (List UInt8)) (kk : Int) (i j : Nat) (A : ByteArray) (N1 : List Vl) : Prop where
  ex : ∃ N2 d1 d2 q1 q2, l.drop (i + 1) = N1 ++ (N2 ++ r) ∧ Fo N1 (HK.take j) (MK.take j) d1 q1 ∧ Fo N2 (HK.drop j) (MK.drop j) d2 q2
  tx : A.toList = joinT kk 0 (MK.take j)
  sz : A.size ≤ 262144
theorem NL.step {l r K HK : List Vl} {MK : List (List UInt8)} {kk : Int} {i j : Nat} {A : ByteArray} {N1 : List Vl} (h : NL l r HK MK kk i j A N1) (hj : j < HK.length) (hm : MK.length = HK.length) (hdK : l.drop (i + 1) = K ++ r) :
    ∃ Na b d q r2, MK[j]? = some b ∧ Fo Na [HK.getD j v0] [b] d q ∧ l.drop (i + 1 + N1.length) = Na ++ r2 ∧ Na.length + (i + 1 + N1.length) ≤ l.length ∧ 1 ≤ Na.length ∧ N1.length + Na.length ≤ K.length ∧ ∀ A' : ByteArray, A'.toList = joinT kk 0 (MK.take j) ++ sepT kk j ++ b → A'.size ≤ 262144 → NL l r HK MK kk i (j + 1) A' (N1 ++ Na) := by
  obtain ⟨N2, d1, d2, q1, q2, hd, h1, h2⟩ := h.ex
  obtain ⟨Na, Nb, da, db, qa, qb, rfl, ha, hb, -, -⟩ := h2.split 1 (by rw [List.length_drop]; omega)
  have hj1 : HK.drop j = HK.getD j v0 :: HK.drop (j + 1) := by rw [List.drop_eq_getElem_cons hj, List.getD, List.getElem?_eq_getElem hj]; rfl
  have hj2 : MK.drop j = MK[j]'(by omega) :: MK.drop (j + 1) := List.drop_eq_getElem_cons (by omega)
  rw [hj1, hj2] at ha hb
  rw [List.take_succ_cons, List.take_zero, List.take_succ_cons, List.take_zero] at ha
  rw [List.drop_succ_cons, List.drop_zero, List.drop_succ_cons, List.drop_zero] at hb
  have hdn : l.drop (i + 1 + N1.length) = Na ++ (Nb ++ r) := by
    have h9 := drop_more N1 hd
    rw [h9, List.append_assoc]
  obtain ⟨Na', hNa⟩ := ha.first
  have h8 : 1 ≤ Na.length := by rw [hNa, List.length_cons]; omega
  have hlk : N1.length + Na.length ≤ K.length := by
    have hd0 := hd
    rw [hdK, ← List.append_assoc] at hd0
    have h9 := List.append_cancel_right hd0
    rw [h9, List.length_append, List.length_append]
    omega
  refine ⟨Na, _, da, qa, _, List.getElem?_eq_getElem (by omega), ha, hdn, ?_, h8, hlk, fun A' hA' hs' => ⟨⟨Nb, max d1 da, db, (q1 && qa), qb, ?_, ?_, hb⟩, ?_, hs'⟩⟩
  · have h9 := congrArg List.length hdn
    rw [List.length_drop, List.length_append] at h9
    omega
  · rw [hd, List.append_assoc, List.append_assoc]
  · have h9 := h1.append ha
    rw [show HK.take j ++ [HK.getD j v0] = HK.take (j + 1) by rw [List.take_succ_eq_append_getElem hj, List.getD, List.getElem?_eq_getElem hj]; rfl, ← List.take_succ_eq_append_getElem (by omega)] at h9
    exact h9
  · rw [hA', joinT_step (List.getElem?_eq_getElem (by omega))]
theorem NL.done {l K r HK : List Vl} {MK : List (List UInt8)} {kk : Int} {i j : Nat} {A : ByteArray} {N1 : List Vl} (h : NL l r HK MK kk i j A N1) (hj : HK.length ≤ j) (hm : MK.length = HK.length) (hd : l.drop (i + 1) = K ++ r) : N1.length = K.length ∧ A.toList = joinT kk 0 MK := by
  obtain ⟨N2, d1, d2, q1, q2, hd2, h1, h2⟩ := h.ex
  rw [List.drop_eq_nil_of_le hj] at h2
  obtain ⟨rfl, -, -, -⟩ := h2.empty
  rw [hd, List.nil_append] at hd2
  have := List.append_cancel_right hd2
  refine ⟨by rw [this], ?_⟩
  rw [h.tx, List.take_of_length_le (by omega)]
set_option maxRecDepth 100000 in
set_option maxHeartbeats 12800000 in
theorem told_node (l : List Vl) (hl : l.length ≤ 4096) (x : Vl) (kk : Int) (hk : x.kind = kk) (hk2 : kk = 5 ∨ kk = 6) (htx : x.text = []) (HK K r : List Vl) (MK : List (List UInt8)) (dK : Nat) (qK : Bool) (hF : Fo K HK MK dK qK) (hkx : x.kids = (HK.length : Int)) (IH : ∀ N : List Vl, N.length ≤ K.length → ToldOk l N)
    (i : Nat) (hd : l.drop i = x :: (K ++ r)) (w : World) (g k o n cap dp : Nat) (de : Int) (hn : l.length = n) (hT : Tj w g (.slice (some ⟨k, o, none⟩) n cap) i de false) (hL : At w k o (vcells l)) (hkg : k < g) (hdp : dp + (K.length + 1) ≤ 10000) :
    Calls Tryd.prog 34 #[.pointer (some ⟨g, 0, none⟩), .int .i64 (dp : Int)] w (JTold g (.slice (some ⟨k, o, none⟩) n cap) (x :: K) (nodeT kk MK) i w) := by
  obtain ⟨hd1, hx, hi⟩ := drop_next hd
  have HT := Lib.hid hT
  obtain ⟨m, hm⟩ : ∃ m, HK.length = m := ⟨_, rfl⟩
  have hmk := hF.lens.1
  have hml := hF.lens.2
  have hkl : i + 1 + K.length ≤ l.length := by
    have h9 := congrArg List.length hd1
    rw [List.length_drop, List.length_append] at h9
    omega
  have HC : Hid (l.length ≤ 4096 ∧ l.length = n ∧ HK.length = m ∧ MK.length = HK.length ∧ i + 1 + K.length ≤ l.length ∧ m ≤ K.length ∧ l.drop (i + 1) = K ++ r ∧ k < g ∧ dp + (K.length + 1) ≤ 10000) := ⟨hl, hn, hm, hmk, hkl, by omega, hd1, hkg, hdp⟩
  have HN := Lib.hid (And.intro hn (And.intro hi hl))
  have HF := Lib.hid hF
  have HIH := Lib.hid IH
  have HLL := Lib.hid hL
  obtain ⟨X, hX0⟩ : ∃ X : ByteArray, ⟨x.text.toArray⟩ = X := ⟨_, rfl⟩
  have hX := value_at hL i hi
  rw [show l.getD i v0 = x from hx] at hX
  rw [hm] at hkx
  have hvv : vv x = [.int .i64 kk, .int .i64 (m : Int), .string X] := by rw [vv, hk, hkx, hX0]
  rw [hvv] at hX
  have HKK := Lib.hid hk2
  have k0 := hT.at0.cell 0 _ rfl
  have k1 := hT.at0.cell 1 _ rfl
  have k3 := hT.at0.cell 3 _ rfl
  rw [Nat.zero_add] at k0
  have HXX := Lib.hid hX
  have HSW : Hid (k < w.heap.size ∧ k ≠ g) := ⟨by have := hT.lt; omega, by omega⟩
  have e1 : (i : Int) < (n : Int) := by omega
  have e1b : ¬ (n : Int) ≤ (i : Int) := by omega
  have e2 : (i : Int) ≤ 4096 := by omega
  clear hT hL hkg hX hn hi hl hx hkx hvv hX0 hk hd hdp
  go_enter Tryd.func34, Tryd.ntmps34
  go_upto_region 1 with fail
  go_quiet (fail)
  go_upto_region 4 with fail
  obtain ⟨w1, hw1⟩ : ∃ x, w.drewN nq = x := ⟨_, rfl⟩
  have HT1 : Hid (Tj w1 g (.slice (some ⟨k, o, none⟩) n cap) i de false) := by rw [← hw1]; exact HT.out.drewN _
  have HX1 : Hid (At w1 k (o + i * 3) [.int .i64 kk, .int .i64 (m : Int), .string X]) := by rw [← hw1]; exact HXX.out.drewN _
  have HB1 : Hid (Bw g w w1) := by rw [← hw1]; exact Bw.drewN _ _ _
  rw [hw1]
  clear k0 k1 k3 hw1
  have n0 := HX1.out.cell 0 _ rfl
  have n1 := HX1.out.cell 1 _ rfl
  have n2 := HX1.out.cell 2 _ rfl
  rw [Nat.add_zero] at n0
  have k0 := HT1.out.at0.cell 0 _ rfl
  have k1 := HT1.out.at0.cell 1 _ rfl
  rw [Nat.zero_add] at k0
  have n0A : ∀ ob, (w1.alloc ob).cell? ⟨k, o + i * 3, none⟩ = some (.int .i64 kk) := fun ob => by have h := (HX1.out.alloc ob).cell 0 _ rfl; rw [Nat.add_zero] at h; exact h
  have n1A : ∀ ob, (w1.alloc ob).cell? ⟨k, o + i * 3 + 1, none⟩ = some (.int .i64 (m : Int)) := fun ob => (HX1.out.alloc ob).cell 1 _ rfl
  have n2A : ∀ ob, (w1.alloc ob).cell? ⟨k, o + i * 3 + 2, none⟩ = some (.string X) := fun ob => (HX1.out.alloc ob).cell 2 _ rfl
  have k0A : ∀ ob, (w1.alloc ob).cell? ⟨g, 0, none⟩ = some (.slice (some ⟨k, o, none⟩) n cap) := fun ob => by have h := (HT1.out.at0.alloc ob).cell 0 _ rfl; rw [Nat.zero_add] at h; exact h
  have k1A : ∀ ob, (w1.alloc ob).cell? ⟨g, 1, none⟩ = some (.int .i64 (i : Int)) := fun ob => (HT1.out.at0.alloc ob).cell 1 _ rfl
  go_region
  have HTa : Hid (Tj (w1.alloc (Obj.cells #[Value.int .i64 kk, Value.int .i64 (m : Int), Value.string X] 61)).drew g (.slice (some ⟨k, o, none⟩) n cap) i de false) := ⟨(HT1.out.at0.alloc _).drewN 1, by have := HT1.out.lt; simp; omega⟩
  have HAa : Hid (At (w1.alloc (Obj.cells #[Value.int .i64 kk, Value.int .i64 (m : Int), Value.string X] 61)).drew w1.heap.size 0 [Value.int .i64 kk, Value.int .i64 (m : Int), Value.string X]) := (At.ofAlloc w1 #[Value.int .i64 kk, Value.int .i64 (m : Int), Value.string X] 61).drewN 1
  have HBa : Hid (Bw g w (w1.alloc (Obj.cells #[Value.int .i64 kk, Value.int .i64 (m : Int), Value.string X] 61)).drew) := HB1.out.trans (Bw.of (((Below.refl _ w1).alloc (Nat.le_refl _) _).drew))
  have HGT : Hid (g < w1.heap.size) := HT1.out.lt
  obtain ⟨T, hT⟩ : ∃ T, w1.heap.size = T := ⟨_, rfl⟩
  rw [hT] at HAa HGT
  obtain ⟨wa, hwa⟩ : ∃ v, (w1.alloc (Obj.cells #[Value.int .i64 kk, Value.int .i64 (m : Int), Value.string X] 61)).drew = v := ⟨_, rfl⟩
  rw [hwa] at HTa HAa HBa
  try rw [hwa]
  try rw [hT]
  clear hwa hT n0 n1 n2 k0 k1 n0A n1A n2A k0A k1A
  have k1 := HTa.out.at0.cell 1 _ rfl
  have f1 := HTa.out.at0.froz 1 (Nat.le_of_ble_eq_true rfl)
  obtain ⟨i1, hi1⟩ : ∃ i1, i + 1 = i1 := ⟨_, rfl⟩
  have e3 : (i : Int) + 1 = (i1 : Int) := by omega
  have e4 : IntKind.i64.wrap (i1 : Int) = (i1 : Int) := w64b i1 (by omega)
  have hgT : ¬ g = T := by have := HGT.out; omega
  have HTb : Hid (Tj (wa.setCell ⟨g, 1, none⟩ (.int .i64 (i1 : Int))) g (.slice (some ⟨k, o, none⟩) n cap) i1 de false) := ⟨HTa.out.at0.set 1 _, by rw [set_size]; exact HTa.out.lt⟩
  have HAb : Hid (At (wa.setCell ⟨g, 1, none⟩ (.int .i64 (i1 : Int))) T 0 [Value.int .i64 kk, Value.int .i64 (m : Int), Value.string X]) := HAa.out.other g 1 _ (Or.inl hgT)
  have HBb : Hid (Bw g w (wa.setCell ⟨g, 1, none⟩ (.int .i64 (i1 : Int)))) := HBa.out.setG 1 _
  go_upto_region 6 with fail
  obtain ⟨wb, hwb⟩ : ∃ v, wa.setCell ⟨g, 1, none⟩ (.int .i64 (i1 : Int)) = v := ⟨_, rfl⟩
  rw [hwb] at HTb HAb HBb
  try rw [hwb]
  clear hwb k1 f1 HTa HAa HBa HT1 HX1 HB1 hgT
  have c0 := HAb.out.cell 0 _ rfl
  have c2 := HAb.out.cell 2 _ rfl
  rw [Nat.zero_add] at c0
  have HI1 := Lib.hid hi1
  clear hi1
  have x2 := HTb.out.at0.cell 2 _ rfl
  have z2 := HTb.out.at0.froz 2 (by show 2 < 5; decide)
  rw [Nat.zero_add] at x2 z2
  obtain ⟨dp1, hdp1⟩ : ∃ x, dp + 1 = x := ⟨_, rfl⟩
  have e5 : (dp : Int) + 1 = (dp1 : Int) := by omega
  have e6 : IntKind.i64.wrap (dp1 : Int) = (dp1 : Int) := w64b dp1 (by have := HC.out; omega)
  have HDP := Lib.hid hdp1
  clear hdp1
  have g0 : (kk == 0) = false := by rw [beq_eq_false_iff_ne]; rcases HKK.out with h | h <;> omega
  have g1 : (kk == 1) = false := by rw [beq_eq_false_iff_ne]; rcases HKK.out with h | h <;> omega
  have g2 : (kk == 2) = false := by rw [beq_eq_false_iff_ne]; rcases HKK.out with h | h <;> omega
  have g3 : (kk == 3) = false := by rw [beq_eq_false_iff_ne]; rcases HKK.out with h | h <;> omega
  have g4 : (kk == 4) = false := by rw [beq_eq_false_iff_ne]; rcases HKK.out with h | h <;> omega
  go_upto_if 67 with fail
  go_cut [] from 67 to 72 (fun wx => ∃ de' : Int, Hid (Tj wx g (.slice (some ⟨k, o, none⟩) n cap) i1 de' false) ∧ Hid (At wx T 0 [Value.int .i64 kk, Value.int .i64 (m : Int), Value.string X]) ∧ Hid (Bw g w wx))
  case first =>
    by_cases hde : de < (dp1 : Int)
    · have HT9 : Hid (Tj (wb.setCell ⟨g, 2, none⟩ (.int .i64 (dp1 : Int))) g (.slice (some ⟨k, o, none⟩) n cap) i1 (dp1 : Int) false) := ⟨HTb.out.at0.set 2 _, by rw [set_size]; exact HTb.out.lt⟩
      have HA9 : Hid (At (wb.setCell ⟨g, 2, none⟩ (.int .i64 (dp1 : Int))) T 0 [Value.int .i64 kk, Value.int .i64 (m : Int), Value.string X]) := HAb.out.other g 2 _ (Or.inl (by have := HGT.out; omega))
      have HB9 : Hid (Bw g w (wb.setCell ⟨g, 2, none⟩ (.int .i64 (dp1 : Int)))) := HBb.out.setG 2 _
      go_wp2_with fail
      go_meet
      case rel => exact ⟨_, HT9, HA9, HB9⟩
    · go_wp2_with fail
      go_meet
      case rel => exact ⟨_, HTb, HAb, HBb⟩
  case rest =>
    obtain ⟨de2, HT2, HA2, HB2⟩ := hcut
    obtain ⟨wd, hwd⟩ : ∃ x, x = wc := ⟨_, rfl⟩
    subst hwd
    clear x2 z2 c0 c2
    have c0 := HA2.out.cell 0 _ rfl
    have c1 := HA2.out.cell 1 _ rfl
    rw [Nat.zero_add] at c0
    have HNL : Hid (NL l r HK MK kk i 0 ByteArray.empty []) := ⟨⟨K, 0, dK, true, qK, HC.out.2.2.2.2.2.2.1, .nil, HF.out⟩, tl_mk [], by show 0 ≤ 262144; omega⟩
    go_wp2_with fail
    go_loopw [6, 7] (fun vo vj wr => ∃ j : Nat, vj = .int .i64 (j : Int) ∧ Hid (j ≤ m) ∧ Hid (At wr T 0 [Value.int .i64 kk, Value.int .i64 (m : Int), Value.string X]) ∧ Hid (Bw g w wr) ∧
      ((∃ A N1 de', vo = .string A ∧ Hid (NL l r HK MK kk i j A N1) ∧ Hid (Tj wr g (.slice (some ⟨k, o, none⟩) n cap) (i1 + N1.length) de' false)) ∨
       (∃ A i' de', vo = .string A ∧ Hid (262144 < (nodeT kk MK).length ∧ A.size + 2 ≤ 2000000 * (K.length + 1)) ∧ Hid (Tj wr g (.slice (some ⟨k, o, none⟩) n cap) i' de' true)))) (fun _ vj _ => m - (intOf vj).toNat)
    case atStart => exact ⟨0, rfl, Nat.zero_le _, HA2, HB2, .inl ⟨ByteArray.empty, [], de2, rfl, HNL, HT2⟩⟩
    case round =>
      obtain ⟨j, rfl, HJ, HA, HB, ⟨A, N1, de', rfl, HS, HTj⟩ | ⟨A, i', de', rfl, HS, HTj⟩⟩ := hrel
      · have c0 := HA.out.cell 0 _ rfl
        have c1 := HA.out.cell 1 _ rfl
        have y3 := HTj.out.at0.cell 3 _ rfl
        have y4 := HTj.out.at0.cell 4 _ rfl
        rw [Nat.zero_add] at c0 y3 y4
        by_cases hjm : j < m
        · have e8 : (j : Int) < (m : Int) := by omega
          obtain ⟨Na, b, d3, q3, r3, hb, hfa, hdn, hla, hna, hlk, hnext⟩ := HS.out.step (by rw [HC.out.2.2.1]; exact hjm) HC.out.2.2.2.1 HC.out.2.2.2.2.2.2.1
          have HJM := Lib.hid hjm
          obtain ⟨az, haz⟩ : ∃ az, A.size = az := ⟨_, rfl⟩
          have hazb : az ≤ 262144 := by rw [← haz]; exact HS.out.sz
          have hnk : Na.length ≤ K.length ∧ Na.length + 1 ≤ K.length + 1 := by omega
          obtain ⟨qi, hqi⟩ : ∃ z, i1 + N1.length = z := ⟨_, rfl⟩
          rw [hqi] at HTj
          have hqj : i + 1 + N1.length = qi := by rw [← hqi, ← HI1.out]
          rw [hqj] at hdn hla
          have HLw : Hid (At wr k o (vcells l)) := atBw HLL.out HB.out HSW.out.1 HSW.out.2
          have CH := HIH.out Na hnk.1 (HK.getD j v0) b d3 q3 qi r3 wr g k o n cap dp1 de' hfa hdn HC.out.2.1 HTj.out HLw.out HC.out.2.2.2.2.2.2.2.1 (by have := HC.out; have := HDP.out; omega)
          have CHH := Lib.hid CH
          have HSS := Lib.hid (And.intro hb (And.intro hna (And.intro hnk (And.intro hazb (And.intro haz (And.intro hqi (And.intro hla hjm)))))))
          have HNX := Lib.hid hnext
          have HTW : Hid (T < wr.heap.size) := HA.out.lt (by simp)
          have ej : (j : Int) ≤ 4096 := by have := HC.out; omega
          obtain ⟨bb, hbb⟩ : ∃ bb, decide (kk = 6 ∧ j % 2 = 1) = bb := ⟨_, rfl⟩
          have HBB := Lib.hid hbb
          clear hb hfa hdn hla hna hlk hnext haz hazb hnk hqi hqj CH hjm hbb
          go_upto_region 23 with fail
          go_cut [100] from 93 to 100 (fun v wx => v = .bool bb ∧ wx = wr)
          case first =>
            by_cases q6 : kk = 6
            · have q6b : (kk == 6) = true := by rw [q6]; rfl
              by_cases q2 : j % 2 = 0
              · have e9 : (j : Int).tmod 2 = 0 := mod2_0 q2
                have : bb = false := by rw [← HBB.out]; simp [q2]
                clear q6
                subst this
                go_wp2_with fail
                go_meet
                case rel => exact ⟨rfl, rfl⟩
              · have e9 : (j : Int).tmod 2 = 1 := mod2_1 q2
                have : bb = true := by rw [← HBB.out]; simp [q6]; omega
                clear q6
                subst this
                go_wp2_with fail
                go_meet
                case rel => exact ⟨rfl, rfl⟩
            · have q6b : (kk == 6) = false := by rw [beq_eq_false_iff_ne]; exact q6
              have : bb = false := by rw [← HBB.out]; simp [q6]
              subst this
              go_wp2_with fail
              go_meet
              case rel => exact ⟨rfl, rfl⟩
          case rest =>
            obtain ⟨rfl, hwc⟩ := hcut
            have hwc := hwc.symm
            subst hwc
            go_upto_if 100 with fail
            have ov3 : ¬ 9223372036854775807 < A.size + 1 := by have := HSS.out.2.2.2; omega
            go_cut [6] from 100 to 106 (fun v wx => ∃ A2 : ByteArray, v = .string A2 ∧ A2.toList = A.toList ++ sepT kk j ∧ wx = wr)
            case first =>
              cases bb with
              | true =>
                have h9 : Hid (kk = 6 ∧ j % 2 = 1) := by show kk = 6 ∧ j % 2 = 1; exact of_decide_eq_true HBB.out
                go_wp2_with fail
                go_meet
                case rel => exact ⟨_, rfl, by rw [tl_appJ, sepT, if_pos h9.out, t58], rfl⟩
              | false =>
                have h9 : Hid (¬ (kk = 6 ∧ j % 2 = 1)) := by show ¬ (kk = 6 ∧ j % 2 = 1); exact of_decide_eq_false HBB.out
                by_cases h0 : 0 < j
                · have f0 : (0 : Int) < (j : Int) := by omega
                  go_wp2_with fail
                  go_meet
                  case rel => exact ⟨_, rfl, by rw [tl_appJ, sepT, if_neg h9.out, if_pos h0, t44], rfl⟩
                · have f0 : ¬ (0 : Int) < (j : Int) := by omega
                  go_wp2_with fail
                  go_meet
                  case rel => exact ⟨_, rfl, by rw [sepT, if_neg h9.out, if_neg h0, List.append_nil], rfl⟩
            case rest =>
              obtain ⟨A2, rfl, hA2, hwc⟩ := hcut
              have hwc := hwc.symm
              subst hwc
              have HA2 := Lib.hid hA2
              have HAZ2 : Hid (A2.size ≤ 262145) := by
                show A2.size ≤ _
                rw [← tl_size, hA2, List.length_append, tl_size]
                have := sep_len kk j
                have := HSS.out.2.2.2
                omega
              clear hA2 ov3
              go_wp2_with fail
              refine CHH.out.mono ?_
              rintro e w5 (⟨u, de5, rfl, hu, hul, HT5, HB5⟩ | ⟨u, i5, de5, rfl, hbig, hus, HT5, HB5⟩)
              · have A5 := atBw HA.out HB5.out HTW.out (by have := HGT.out; omega)
                have HA5 := Lib.hid A5
                have HB6 := Lib.hid (HB.out.trans HB5.out)
                have y5 := HT5.out.at0.cell 4 _ rfl
                have z5 := HT5.out.at0.froz 4 (by show 4 < 5; decide)
                rw [Nat.zero_add] at y5 z5
                have hus : u.size ≤ 2000000 := by rw [← tl_size, hu]; exact hul
                have ov4 : ¬ 9223372036854775807 < A2.size + u.size := by have := HAZ2.out; omega
                have HUS := Lib.hid hus
                have HU := Lib.hid hu
                clear A5 hu hul hus
                by_cases hbig : 262144 < A2.size + u.size
                · have eb1 : (262144 : Int) < (A2.size : Int) + (u.size : Int) := by omega
                  have HBG : Hid (262144 < (nodeT kk MK).length ∧ (A2 ++ u).size + 2 ≤ 2000000 * (K.length + 1)) := by
                    refine ⟨?_, ?_⟩
                    · have h1 := joinT_le kk MK (j + 1)
                      rw [joinT_step HSS.out.1, ← HS.out.tx, ← HA2.out, ← HU.out, List.length_append, tl_size, tl_size] at h1
                      omega
                    · rw [← tl_size, tl_appJ, List.length_append, tl_size, tl_size]
                      have h1 := HAZ2.out
                      have h2 := HUS.out
                      have h3 := HSS.out.2.1
                      have h4 := HSS.out.2.2.1
                      omega
                  have HT6 : Hid (Tj (w5.setCell ⟨g, 4, none⟩ (.bool true)) g (.slice (some ⟨k, o, none⟩) n cap) (qi + Na.length) de5 true) := ⟨HT5.out.at0.set 4 _, by rw [set_size]; exact HT5.out.lt⟩
                  have HA6 : Hid (At (w5.setCell ⟨g, 4, none⟩ (.bool true)) T 0 [Value.int .i64 kk, Value.int .i64 (m : Int), Value.string X]) := HA5.out.other g 4 _ (Or.inl (by have := HGT.out; omega))
                  have HB7 : Hid (Bw g w (w5.setCell ⟨g, 4, none⟩ (.bool true))) := HB6.out.setG 4 _
                  clear hbig
                  go_wp2_with fail
                  go_roundw
                  case rel => exact ⟨j + 1, by go_num, HJM.out, HA6, HB7, .inr ⟨_, _, _, rfl, HBG, HT6⟩⟩
                  case measure => have := HJM.out; simp [intOf]; omega
                · have eb1 : ¬ (262144 : Int) < (A2.size : Int) + (u.size : Int) := by omega
                  have HNN : Hid (NL l r HK MK kk i (j + 1) (A2 ++ u) (N1 ++ Na)) := HNX.out (A2 ++ u) (by rw [tl_appJ, HA2.out, HS.out.tx, HU.out]) (by rw [← tl_size, tl_appJ, List.length_append, tl_size, tl_size]; omega)
                  have HT6 : Hid (Tj w5 g (.slice (some ⟨k, o, none⟩) n cap) (i1 + (N1 ++ Na).length) de5 false) := by
                    have h9 := HT5.out
                    rw [← HSS.out.2.2.2.2.2.1, Nat.add_assoc, ← List.length_append] at h9
                    exact h9
                  clear hbig
                  go_wp2_with fail
                  go_roundw
                  case rel => exact ⟨j + 1, by go_num, HJM.out, HA5, HB6, .inl ⟨_, _, _, rfl, HNN, HT6⟩⟩
                  case measure => have := HJM.out; simp [intOf]; omega
              · have A5 := atBw HA.out HB5.out HTW.out (by have := HGT.out; omega)
                have HA5 := Lib.hid A5
                have HB6 := Lib.hid (HB.out.trans HB5.out)
                have y5 := HT5.out.at0.cell 4 _ rfl
                have z5 := HT5.out.at0.froz 4 (by show 4 < 5; decide)
                rw [Nat.zero_add] at y5 z5
                have ov4 : ¬ 9223372036854775807 < A2.size + u.size := by have := HAZ2.out; have := HSS.out.2.2.1; have := HC.out; omega
                have HBG : Hid (262144 < (nodeT kk MK).length ∧ (A2 ++ u).size + 2 ≤ 2000000 * (K.length + 1)) := by
                  refine ⟨?_, ?_⟩
                  · have h1 := one_le (k := kk) HSS.out.1
                    omega
                  · rw [← tl_size, tl_appJ, List.length_append, tl_size, tl_size]
                    have h1 := HAZ2.out
                    have h4 := HSS.out.2.2.1
                    omega
                have HT6 : Hid (Tj (w5.setCell ⟨g, 4, none⟩ (.bool true)) g (.slice (some ⟨k, o, none⟩) n cap) i5 de5 true) := ⟨HT5.out.at0.set 4 _, by rw [set_size]; exact HT5.out.lt⟩
                have HA6 : Hid (At (w5.setCell ⟨g, 4, none⟩ (.bool true)) T 0 [Value.int .i64 kk, Value.int .i64 (m : Int), Value.string X]) := HA5.out.other g 4 _ (Or.inl (by have := HGT.out; omega))
                have HB7 : Hid (Bw g w (w5.setCell ⟨g, 4, none⟩ (.bool true))) := HB6.out.setG 4 _
                clear A5 hbig hus
                by_cases hbig : 262144 < A2.size + u.size
                · have eb1 : (262144 : Int) < (A2.size : Int) + (u.size : Int) := by omega
                  clear hbig
                  go_wp2_with fail
                  go_roundw
                  case rel => exact ⟨j + 1, by go_num, HJM.out, HA6, HB7, .inr ⟨_, _, _, rfl, HBG, HT6⟩⟩
                  case measure => have := HJM.out; simp [intOf]; omega
                · have eb1 : ¬ (262144 : Int) < (A2.size : Int) + (u.size : Int) := by omega
                  clear hbig
                  go_wp2_with fail
                  go_roundw
                  case rel => exact ⟨j + 1, by go_num, HJM.out, HA5, HB6, .inr ⟨_, _, _, rfl, HBG, HT5⟩⟩
                  case measure => have := HJM.out; simp [intOf]; omega
        · have e8 : ¬ (j : Int) < (m : Int) := by omega
          obtain ⟨hq1, hq2⟩ := HS.out.done (by rw [HC.out.2.2.1]; omega) HC.out.2.2.2.1 HC.out.2.2.2.2.2.2.1
          obtain ⟨az, haz⟩ : ∃ az, A.size = az := ⟨_, rfl⟩
          have hazb : az ≤ 262144 := by rw [← haz]; exact HS.out.sz
          have HTE : Hid (Tj wr g (.slice (some ⟨k, o, none⟩) n cap) (i + (x :: K).length) de' false) := by
            have h9 := HTj.out
            rw [hq1] at h9
            rw [show i + (x :: K).length = i1 + K.length by rw [List.length_cons, ← HI1.out]; omega]
            exact h9
          have HA9 := Lib.hid (And.intro hq2 (And.intro haz hazb))
          have ov1 : ¬ 9223372036854775807 < 1 + A.size := by omega
          have ov2 : ¬ 9223372036854775807 < 1 + A.size + 1 := by omega
          have HNB : Hid ((nodeT kk MK).length ≤ 2000000) := by
            show _ ≤ _
            rw [nodeT, ← hq2, List.length_append, List.length_append, tl_size]
            have h5 : (openT kk).length = 1 := by rw [openT]; split <;> rfl
            have h6 : (closeT kk).length = 1 := by rw [closeT]; split <;> rfl
            omega
          clear hq1 hq2 hjm haz hazb
          rcases HKK.out with rfl | rfl
          · go_wp2_with fail
            go_ret
            exact .inl ⟨_, _, rfl, (by rw [tl_appJ, tl_appJ, HA9.out.1]; first | (rw [t91, t93]; rfl) | (rw [t123, t125]; rfl)), HNB.out, HTE, HB⟩
          · go_wp2_with fail
            go_ret
            exact .inl ⟨_, _, rfl, (by rw [tl_appJ, tl_appJ, HA9.out.1]; first | (rw [t91, t93]; rfl) | (rw [t123, t125]; rfl)), HNB.out, HTE, HB⟩
      · have c0 := HA.out.cell 0 _ rfl
        have c1 := HA.out.cell 1 _ rfl
        have y3 := HTj.out.at0.cell 3 _ rfl
        have y4 := HTj.out.at0.cell 4 _ rfl
        rw [Nat.zero_add] at c0 y3 y4
        have hsz : A.size ≤ 2000000 * (K.length + 1) := by have := HS.out.2; omega
        have ov1 : ¬ 9223372036854775807 < 1 + A.size := by have := HC.out; omega
        have ov2 : ¬ 9223372036854775807 < 1 + A.size + 1 := by have := HC.out; omega
        have HRS : Hid (∀ a b : ByteArray, a.size = 1 → b.size = 1 → (a ++ A ++ b).size ≤ 2000000 * (x :: K).length) := by
          show ∀ a b : ByteArray, _
          intro a b ha hb
          rw [← tl_size, tl_appJ, tl_appJ, List.length_append, List.length_append, tl_size, tl_size, tl_size, ha, hb, List.length_cons]
          have := HS.out.2
          omega
        clear hsz
        by_cases hjm : j < m
        · have e8 : (j : Int) < (m : Int) := by omega
          clear hjm
          rcases HKK.out with h9 | h9
          · have h9b : (kk == 5) = true := by rw [h9]; rfl
            clear h9
            go_wp2_with fail
            go_ret
            exact .inr ⟨_, _, _, rfl, HS.out.1, HRS.out _ _ rfl rfl, HTj, HB⟩
          · have h9b : (kk == 5) = false := by rw [h9]; rfl
            clear h9
            go_wp2_with fail
            go_ret
            exact .inr ⟨_, _, _, rfl, HS.out.1, HRS.out _ _ rfl rfl, HTj, HB⟩
        · have e8 : ¬ (j : Int) < (m : Int) := by omega
          clear hjm
          rcases HKK.out with h9 | h9
          · have h9b : (kk == 5) = true := by rw [h9]; rfl
            clear h9
            go_wp2_with fail
            go_ret
            exact .inr ⟨_, _, _, rfl, HS.out.1, HRS.out _ _ rfl rfl, HTj, HB⟩
          · have h9b : (kk == 5) = false := by rw [h9]; rfl
            clear h9
            go_wp2_with fail
            go_ret
            exact .inr ⟨_, _, _, rfl, HS.out.1, HRS.out _ _ rfl rfl, HTj, HB⟩
end Jq
end Go.Proofs.YtpaikjlcachabaaDoor
namespace Go.Proofs.YtpaikjlcachabaaDoor
open Go.RowKit
set_option linter.unusedVariables false
set_option linter.unusedSimpArgs false
namespace Jq
open Js Je
theorem told_all (l : List Vl) (hl : l.length ≤ 4096) (htx : ∀ x ∈ l, x.text.length ≤ 262144) : ∀ (n : Nat) (N : List Vl), N.length ≤ n → ToldOk l N := by
  intro n
  induction n with
  | zero =>
    intro N hN v B d q i r w g k o n cap dp de hF
    obtain ⟨N', hN'⟩ := hF.first
    rw [hN'] at hN
    simp at hN
  | succ n ih =>
    intro N hN v B d q i r w g k o n' cap dp de hF hd hn hT hL hkg hdp
    generalize hH : [v] = H at hF
    generalize hM : [B] = M at hF
    cases hF with
    | nil => cases hH
    | @leaf v' N' H' M' d' q' hk0 hk4 hkd h =>
      injection hH with h1 h2
      injection hM with h3 h4
      subst h1 h2 h3 h4
      obtain ⟨rfl, -, -, -⟩ := h.empty
      obtain ⟨hd1, hx, hi⟩ := drop_next hd
      exact told_leaf w g k o n' cap i de (dp : Int) l hT hL hkg hn hi hl v hx ⟨hk0, hk4⟩ (htx v (by
        have h9 := List.mem_of_mem_drop (show v ∈ l.drop i by rw [hd]; exact List.mem_cons_self ..)
        exact h9))
    | @node v' K HK MK dK qK N' H' M' d' q' hk ht hkd ho hK h =>
      injection hH with h1 h2
      injection hM with h3 h4
      subst h1 h2 h3 h4
      obtain ⟨rfl, -, -, -⟩ := h.empty
      rw [List.append_nil] at hd hN hdp ⊢
      exact told_node l hl v v.kind rfl hk ht HK K r MK dK qK hK hkd (fun N hN2 => ih N (by rw [List.length_cons] at hN; omega)) i hd w g k o n' cap dp de hn hT hL hkg (by rw [List.length_cons] at hdp; exact hdp)
end Jq
end Go.Proofs.YtpaikjlcachabaaDoor
