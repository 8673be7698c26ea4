/- The document's telling: an element with elements. -/
import Derived.Test.YteglahkgnggmgaaDoorDwM
namespace Go.Proofs.YteglahkgnggmgaaDoor
open Go.RowKit
set_option linter.unusedVariables false
set_option linter.unusedSimpArgs false
open Dr
def lastL (P : List (List UInt8)) : List UInt8 := P.getLast?.getD []
theorem lastL_snoc (P : List (List UInt8)) (x : List UInt8) : lastL (P ++ [x]) = x := by simp [lastL]
theorem less_nil (x : List UInt8) : Op.bytesLess x [] = false := by cases x <;> rfl
theorem ordL_step (P : List (List UInt8)) (x : List UInt8) : ordL (P ++ [x]) = (ordL P && !(Op.bytesLess x (lastL P))) := by
  rcases List.eq_nil_or_concat P with rfl | ⟨Q, a, rfl⟩
  · simp [ordL, lastL, less_nil]
  · rw [List.concat_eq_append, ordL_snoc, lastL_snoc]
theorem Els.pos {d T B o} (h : Els d T [B] o) : 1 ≤ T.length := by
  cases h with
  | leaf _ _ => simp
  | node _ _ _ => simp
theorem flag_keep (ou o1 o3 dec ord less : Bool) (h : dec = true ∨ less = false) : ((ou || !(o1 && (dec || ord))) || !o3) = (ou || !((o1 && o3) && (dec || (ord && !less)))) := by
  rcases h with rfl | rfl
  · cases ou <;> cases o1 <;> cases o3 <;> rfl
  · cases ou <;> cases o1 <;> cases o3 <;> cases dec <;> cases ord <;> rfl
theorem flag_set (ou o1 o3 ord : Bool) : true = (ou || !((o1 && o3) && (false || (ord && !true)))) := by
  cases ou <;> cases o1 <;> cases o3 <;> cases ord <;> rfl
/-- while nothing is too long -/
structure TN (g : Nat) (a : Option Addr) (cap : Nat) (l : List Nd) (n : Nd) (p : Nat) (K : List Nd) (MK : List (List UInt8)) (oK ou : Bool) (i : Nat) (v7 v8 v9 : Value) (wr : World) (P Q : List (List UInt8)) (K1 R1 : List Nd) (d2 : Nat) (o1 o2 : Bool) (sb sl : ByteArray) : Prop where
  pl : P.length = i
  mq : MK = P ++ Q
  kk : K = K1 ++ R1
  el : Els d2 R1 Q o2
  ok : oK = (o1 && o2)
  e7 : v7 = .string sb
  hb : sb.toList = P.flatten
  le : P.flatten.length ≤ 262144
  e8 : v8 = .string sl
  hs : sl.toList = lastL P
  e9 : v9 = .int .i64 ((p + 1 + K1.length : Nat) : Int)
  xe : Hid (Xe wr g a cap l false (ou || !(o1 && (decide (n.tag ≠ 0x31) || ordL P))))
/-- once it is too long -/
structure TL (g : Nat) (a : Option Addr) (cap : Nat) (l : List Nd) (K : List Nd) (MK : List (List UInt8)) (v7 v8 v9 : Value) (wr : World) (sb sl : ByteArray) (x : Nat) (ou' : Bool) : Prop where
  big : 262144 < MK.flatten.length
  e7 : v7 = .string sb
  hb : sb.size ≤ 262144 + 300000 * K.length
  e8 : v8 = .string sl
  e9 : v9 = .int .i64 (x : Int)
  hx : x ≤ 100000
  xe : Hid (Xe wr g a cap l true ou')
theorem DTold.node {g : Nat} {a : Option Addr} {cap : Nat} {l T : List Nd} {B : List UInt8} {o ou : Bool} {p q : Nat} {w w' : World} {s : ByteArray} (hs : s.toList = B) (hB : B.length ≤ 300000) (hq : p + T.length = q) (hx : Xe w' g a cap l false (ou || !o)) (hb : Bw g w w') :
    DTold g a cap l T B o p ou w (.returned (.tuple #[.string s, .int .i64 (q : Int)])) w' := by
  subst hq
  exact .inl ⟨s, rfl, hs, hB, hx, hb⟩
theorem DTold.long {g : Nat} {a : Option Addr} {cap : Nat} {l T : List Nd} {B : List UInt8} {o ou ou' : Bool} {p x : Nat} {w w' : World} {s : ByteArray} (hB : 262144 < B.length) (hs : s.size ≤ 300000 * T.length) (hq : x ≤ 100000) (hx : Xe w' g a cap l true ou') (hb : Bw g w w') :
    DTold g a cap l T B o p ou w (.returned (.tuple #[.string s, .int .i64 (x : Int)])) w' := .inr ⟨s, x, ou', rfl, hB, hs, hq, hx, hb⟩
theorem TN.next {g : Nat} {a : Option Addr} {cap : Nat} {l : List Nd} {n : Nd} {p : Nat} {K : List Nd} {MK : List (List UInt8)} {oK ou : Bool} {j j1 : Nat} {wz : World} {P Q' : List (List UInt8)} {x : List UInt8} {K1 R1 Kc Rc : List Nd} {d4 : Nat} {o1 o2 o3 o4 : Bool} {sb s : ByteArray} {q q5 : Nat}
    (hpl : P.length = j) (hmk : MK = P ++ x :: Q') (hkk : K = K1 ++ R1) (hok : oK = (o1 && o2)) (hbb : sb.toList = P.flatten) (hR : R1 = Kc ++ Rc) (hr : Els d4 Rc Q' o4) (ho : o2 = (o3 && o4)) (hs5 : s.toList = x) (hq : p + 1 + K1.length = q) (hq5 : q + Kc.length = q5) (hj1 : j + 1 = j1) (hle : sb.size + s.size ≤ 262144)
    (hx : Xe wz g a cap l false (ou || !((o1 && o3) && (decide (n.tag ≠ 0x31) || (ordL P && !(Op.bytesLess x (lastL P))))))) :
    ∃ P Q K1 R1 d2 o1 o2 sb' sl, TN g a cap l n p K MK oK ou j1 (.string (sb ++ s)) (.string s) (.int .i64 (q5 : Int)) wz P Q K1 R1 d2 o1 o2 sb' sl := by
  refine ⟨P ++ [x], Q', K1 ++ Kc, Rc, d4, o1 && o3, o4, sb ++ s, s, ⟨by simp [hpl, hj1], by rw [hmk]; simp, by rw [hkk, hR, List.append_assoc], hr, by rw [hok, ho, Bool.and_assoc], rfl, by rw [tl_app, hbb, hs5]; simp, ?_, rfl, by rw [lastL_snoc]; exact hs5, by rw [List.length_append, ← Nat.add_assoc, hq, hq5], ?_⟩⟩
  · rw [← tl_size, ← tl_size, hbb, hs5] at hle
    simpa using hle
  · rw [ordL_step]
    exact hx
theorem TL.next {g : Nat} {a : Option Addr} {cap : Nat} {l : List Nd} {K : List Nd} {MK : List (List UInt8)} {wz : World} {P Q' : List (List UInt8)} {x : List UInt8} {sb s : ByteArray} {q5 : Nat} {ou' : Bool}
    (hmk : MK = P ++ x :: Q') (hbb : sb.toList = P.flatten) (hbig : 262144 < P.flatten.length + x.length) (hz1 : sb.size ≤ 262144) (hs : s.size ≤ 300000 * K.length) (hq5 : q5 ≤ 100000) (hx : Xe wz g a cap l true ou') :
    ∃ sb' sl x ou', TL g a cap l K MK (.string (sb ++ s)) (.string s) (.int .i64 (q5 : Int)) wz sb' sl x ou' := by
  refine ⟨sb ++ s, s, q5, ou', ⟨?_, rfl, ?_, rfl, rfl, hq5, hx⟩⟩
  · rw [hmk]
    simp only [List.flatten_append, List.flatten_cons, List.length_append] at hbig ⊢
    omega
  · rw [← tl_size, tl_app, List.length_append, tl_size, tl_size]
    omega
theorem Els.lens {d N M o} (h : Els d N M o) : M.length ≤ N.length := by
  induction h with
  | nil => exact Nat.le_refl _
  | leaf _ _ ih => rw [List.length_cons, List.length_cons]; omega
  | node _ _ _ ihK ih => rw [List.length_cons, List.length_cons, List.length_append]; omega
def TR (g : Nat) (a : Option Addr) (cap : Nat) (l : List Nd) (n : Nd) (p m J : Nat) (bd : ByteArray) (K : List Nd) (MK : List (List UInt8)) (oK ou : Bool) (w : World) (v7 v8 v9 v10 : Value) (wr : World) : Prop :=
  ∃ i : Nat, v10 = .int .i64 (i : Int) ∧ i ≤ m ∧ Hid (At wr J 0 [.int .u8 (n.tag.toNat : Int), .int .i64 (m : Int), .string bd]) ∧ Hid (Bw g w wr) ∧
    ((∃ P Q K1 R1 d2 o1 o2 sb sl, TN g a cap l n p K MK oK ou i v7 v8 v9 wr P Q K1 R1 d2 o1 o2 sb sl) ∨ (∃ sb sl x ou', TL g a cap l K MK v7 v8 v9 wr sb sl x ou'))
def ToldOk (l T : List Nd) : Prop := ∀ d B o, Els d T [B] o → ∀ A R, l = A ++ T ++ R → ∀ w g a cap ou, Xe w g a cap l false ou → Calls Tryd.prog 39 #[.pointer (some ⟨g, 0, none⟩), .int .i64 (A.length : Int)] w (DTold g a cap l T B o A.length ou w)
set_option maxRecDepth 100000 in
set_option maxHeartbeats 12800000 in
theorem told_node (l A R K : List Nd) (n : Nd) (MK : List (List UInt8)) (dK : Nat) (oK : Bool) (hln : l.length ≤ 4096) (hb : n.body.length ≤ 262144) (IH : ∀ T : List Nd, T.length ≤ K.length → ToldOk l T) (hk : n.kids = (MK.length : Int)) (hK : Els dK K MK oK)
    (hl : l = A ++ (n :: K) ++ R) (w : World) (g : Nat) (a : Option Addr) (cap : Nat) (ou : Bool) (hX : Xe w g a cap l false ou) :
    Calls Tryd.prog 39 #[.pointer (some ⟨g, 0, none⟩), .int .i64 (A.length : Int)] w (DTold g a cap l (n :: K) (encN n.tag MK.flatten) (oK && (decide (n.tag ≠ 0x31) || ordL MK)) A.length ou w) := by
  obtain ⟨gl, o, rfl, hA, hgl⟩ := hX.ls
  have HX := Lib.hid hX
  obtain ⟨i, hi⟩ : ∃ i, A.length = i := ⟨_, rfl⟩
  have hil : i < l.length := by rw [hl, List.length_append, List.length_append, List.length_cons]; omega
  have hkl : i + 1 + K.length ≤ 4096 := by have h1 := hln; rw [hl, List.length_append, List.length_append, List.length_cons] at h1; omega
  have hnd : l.getD i ⟨0, 0, []⟩ = n := by rw [hl, ← hi]; simp [List.getD]
  have hNc := ncell_atO hA i hil
  rw [hnd] at hNc
  have n0 := hNc.cell 0 _ rfl
  have n1 := hNc.cell 1 _ rfl
  have n2 := hNc.cell 2 _ rfl
  rw [Nat.add_zero] at n0
  obtain ⟨t, ht⟩ : ∃ t, n.tag.toNat = t := ⟨_, rfl⟩
  have ht2 : t < 256 := by rw [← ht]; exact n.tag.toNat_lt
  obtain ⟨bd, hbd⟩ : ∃ b : ByteArray, (⟨n.body.toArray⟩ : ByteArray) = b := ⟨_, rfl⟩
  obtain ⟨m, hm⟩ : ∃ m, MK.length = m := ⟨_, rfl⟩
  rw [hm] at hk
  rw [ht] at n0
  rw [hk] at n1
  rw [hbd] at n2
  have x0 := hX.at0.cell 0 _ rfl
  rw [Nat.zero_add] at x0
  obtain ⟨ln, hlnn⟩ : ∃ n, l.length = n := ⟨_, rfl⟩
  rw [hlnn] at x0
  have e0 : ¬ (m : Int) < 0 := by omega
  have e1 : (i : Int) < (ln : Int) := by omega
  have e1n : i < ln := by omega
  obtain ⟨i1, hi1⟩ : ∃ j, i + 1 = j := ⟨_, rfl⟩
  have e4 : (i : Int) + 1 = (i1 : Int) := by omega
  have e5 : IntKind.i64.wrap (i1 : Int) = (i1 : Int) := wrap_fit i1 (by unfold maxLen; omega)
  have HC := Lib.hid (And.intro ht (And.intro ht2 (And.intro hi (And.intro hi1 (And.intro hm (And.intro hkl (And.intro hl hK)))))))
  have HIH := Lib.hid IH
  have HB0 : Hid (Below w.heap.size w (w.alloc (Obj.cells #[.int .u8 (t : Int), .int .i64 (m : Int), .string bd] 63))) := (Below.refl _ w).alloc (Nat.le_refl _) _
  have HT := Lib.hid (At.ofAlloc w #[.int .u8 (t : Int), .int .i64 (m : Int), .string bd] 63)
  have HX0 := Lib.hid (hX.alloc (Obj.cells #[.int .u8 (t : Int), .int .i64 (m : Int), .string bd] 63))
  have HGW : Hid (g < w.heap.size) := hX.lt
  rw [hi]
  clear hX hl hln hb hA hNc hil hnd hlnn ht hbd hK hm hi hi1 IH hkl
  go_enter Tryd.func39, Tryd.ntmps39
  go_wp2_with fail
  obtain ⟨J, hJ⟩ : ∃ J, w.heap.size = J := ⟨_, rfl⟩
  have HJJ := Lib.hid hJ
  rw [hJ] at HT
  rw [hJ]
  clear hJ
  obtain ⟨w0, hw0⟩ : ∃ x, w.alloc (Obj.cells #[.int .u8 (t : Int), .int .i64 (m : Int), .string bd] 63) = x := ⟨_, rfl⟩
  rw [hw0] at HT HX0 HB0
  rw [hw0]
  clear hw0 n0 n1 n2 x0
  have hJg : ¬ J = g := by have := HGW.out; have := HJJ.out; omega
  go_loopw [7, 8, 9, 10] (fun v7 v8 v9 v10 wr => TR g (some ⟨gl, o, none⟩) cap l n i m J bd K MK oK ou w v7 v8 v9 v10 wr) (fun _ _ _ v10 _ => m - (intOf v10).toNat)
  case atStart =>
    have hE : ByteArray.empty.toList = [] := tl_mk []
    refine ⟨0, rfl, Nat.zero_le _, ?_, Bw.of HB0.out, .inl ⟨[], MK, [], K, dK, true, oK, ByteArray.empty, ByteArray.empty, rfl, rfl, rfl, HC.out.2.2.2.2.2.2.2, by simp, rfl, hE, Nat.zero_le _, rfl, hE, ?_, ?_⟩⟩
    · rw [HC.out.1]; exact HT
    · rw [← HC.out.2.2.2.1]; rfl
    · rw [show (ou || !(true && (decide (n.tag ≠ 0x31) || ordL []))) = ou by simp [ordL]]; exact HX0
  case round =>
    obtain ⟨j, rfl, hj, HA, HB, hN | hL⟩ := hrel
    · obtain ⟨P, Q, K1, R1, d2, o1, o2, sb, sl, h⟩ := hN
      obtain ⟨hpl, hmk, hkk, hel, hok, rfl, hbb, hle, rfl, hss, rfl, HXR⟩ := h
      have hJw : J < wr.heap.size := HA.out.lt (by simp)
      have c0 := HA.out.cell 0 _ rfl
      have c1 := HA.out.cell 1 _ rfl
      rw [HC.out.1, Nat.zero_add] at c0
      rw [Nat.zero_add] at c1
      have l1 := HXR.out.at0.cell 1 _ rfl
      rw [Nat.zero_add] at l1
      by_cases hin : j < m
      · have e8 : (j : Int) < (m : Int) := by omega
        have hQ : ∃ x Q', Q = x :: Q' := by
          cases Q with
          | nil => exfalso; have h1 := HC.out.2.2.2.2.1; rw [hmk, List.append_nil] at h1; omega
          | cons x Q' => exact ⟨x, Q', rfl⟩
        obtain ⟨x, Q', rfl⟩ := hQ
        obtain ⟨Kc, Rc, d3, d4, o3, o4, hR, hc, hr, -, ho⟩ := hel.split 1 (by simp)
        rw [show (x :: Q').take 1 = [x] from rfl] at hc
        rw [show (x :: Q').drop 1 = Q' from rfl] at hr
        have hq : (A ++ n :: K1).length = i + 1 + K1.length := by rw [List.length_append, List.length_cons, HC.out.2.2.1]; omega
        have hKl : K.length = K1.length + (Kc.length + Rc.length) := by rw [hkk, hR, List.length_append, List.length_append]
        have CH := HIH.out Kc (by omega) d3 x o3 hc (A ++ n :: K1) (Rc ++ R) (by rw [HC.out.2.2.2.2.2.2.1, hkk, hR]; simp) wr g _ cap _ HXR.out
        rw [hq] at CH
        obtain ⟨q, hqq⟩ : ∃ q, i + 1 + K1.length = q := ⟨_, rfl⟩
        rw [hqq] at CH ⊢
        have CHH := Lib.hid CH
        have HS := Lib.hid (And.intro hpl (And.intro hmk (And.intro hkk (And.intro hok (And.intro hbb (And.intro hle (And.intro hss (And.intro hin (And.intro hR (And.intro hc (And.intro hr (And.intro ho (And.intro hKl hqq)))))))))))))
        have HJW := Lib.hid hJw
        have hcpos : Hid (1 ≤ Kc.length) := hc.pos
        obtain ⟨j1, hj1⟩ : ∃ y, j + 1 = y := ⟨_, rfl⟩
        have e9 : (j : Int) + 1 = (j1 : Int) := by omega
        have ew : IntKind.i64.wrap (j1 : Int) = (j1 : Int) := wrap_fit j1 (by have := HC.out; have := HC.out.2.2.2.2.2.2.2.lens; unfold maxLen; omega)
        have HJ1 : Hid (j + 1 = j1 ∧ j1 ≤ m) := ⟨hj1, by omega⟩
        clear hj1
        have hjm : j + 1 ≤ m := hin
        clear CH hel hpl hmk hkk hok hbb hle hss hin hR hc hr ho hKl hqq hq hJw
        go_wp2_with fail
        refine CHH.out.mono ?_
        rintro e w5 h5
        obtain ⟨s, rfl, hs5, hxl, HX5, HB5⟩ | ⟨s, y, ou5, rfl, hbig, hsz, hy, HX5, HB5⟩ := h5
        · obtain ⟨q5, hq5⟩ : ∃ r, q + Kc.length = r := ⟨_, rfl⟩
          rw [hq5]
          have HQ5 := Lib.hid hq5
          clear hq5
          have A5 := At.bw HA.out HB5.out HJW.out hJg
          have d0 := A5.cell 0 _ rfl
          have d1 := A5.cell 1 _ rfl
          rw [HC.out.1, Nat.zero_add] at d0
          rw [Nat.zero_add] at d1
          have f1 := HX5.out.at0.froz 1 (by show 1 < 3; decide)
          have f2 := HX5.out.at0.froz 2 (by show 2 < 3; decide)
          have y1 := HX5.out.at0.cell 1 _ rfl
          have y2 := HX5.out.at0.cell 2 _ rfl
          rw [Nat.zero_add] at f1 f2 y1 y2
          obtain ⟨z1, hz1⟩ : ∃ z, sb.size = z := ⟨_, rfl⟩
          obtain ⟨z2, hz2⟩ : ∃ z, s.size = z := ⟨_, rfl⟩
          have hz1b : z1 ≤ 262144 := by rw [← hz1, ← tl_size, HS.out.2.2.2.2.1]; exact HS.out.2.2.2.2.2.1
          have hz2b : z2 ≤ 300000 := by rw [← hz2, ← tl_size, hs5]; exact hxl
          have ov : ¬ 9223372036854775807 < z1 + z2 := by omega
          have HS5 := Lib.hid (And.intro hs5 (And.intro hz1 (And.intro hz2 (And.intro hz1b hz2b))))
          have HA5 := Lib.hid A5
          clear A5 hs5 hxl c0 c1 l1
          have hKc := hcpos.out
          have hdec9 : t = 49 → decide (n.tag ≠ 0x31) = false := fun h9 => by
            have h1 : n.tag = 0x31 := UInt8.toNat_inj.1 (by rw [HC.out.1, h9]; rfl)
            rw [h1]; rfl
          have hdec0 : t ≠ 49 → decide (n.tag ≠ 0x31) = true := fun h9 => by
            refine decide_eq_true fun h1 => h9 ?_
            rw [← HC.out.1, h1]; rfl
          have HDC := Lib.hid (And.intro hdec9 hdec0)
          have HKC := Lib.hid hKc
          clear hdec9 hdec0 hKc
          by_cases hbq : 262144 < z1 + z2
          · have eb1 : (262144 : Int) < (z1 : Int) + (z2 : Int) := by omega
            have NX : ∀ wz ou', Xe wz g (some ⟨gl, o, none⟩) cap l true ou' → _ := fun wz ou' hx => TL.next (K := K) (s := s) (q5 := q5) HS.out.2.1 HS.out.2.2.2.2.1 (by rw [← HS.out.2.2.2.2.1, ← HS5.out.1, tl_size, tl_size, hz1, hz2]; exact hbq) (by rw [hz1]; exact hz1b) (by rw [hz2]; have := HS.out; have := HKC.out; omega) (by have := HS.out; have := HQ5.out; have := HC.out; omega) hx
            have HNX := Lib.hid NX
            clear NX
            by_cases ht9 : t = 49
            · rw [ht9] at d0
              obtain ⟨lb, hlb⟩ : ∃ b, Op.bytesLess s.toList sl.toList = b := ⟨_, rfl⟩
              clear ht9
              cases lb
              · go_wp2_with fail
                go_roundw
                case rel => exact ⟨j1, rfl, HJ1.out.2, HA5.out.other g 1 _ (.inl (fun e => hJg e.symm)), (HB.out.trans HB5.out).setG 1 _, .inr (HNX.out _ _ (HX5.out.set 1 true true _ rfl))⟩
                case measure => have h9 := HJ1.out; simp [intOf]; omega
              · go_wp2_with fail
                go_roundw
                case rel => exact ⟨j1, rfl, HJ1.out.2, (HA5.out.other g 1 _ (.inl (fun e => hJg e.symm))).other g 2 _ (.inl (fun e => hJg e.symm)), ((HB.out.trans HB5.out).setG 1 _).setG 2 _, .inr (HNX.out _ _ ((HX5.out.set 1 true true _ rfl).set 2 true true true rfl))⟩
                case measure => have h9 := HJ1.out; simp [intOf]; omega
            · have eT : ((t : Int) == 49) = false := by rw [beq_eq_false_iff_ne]; omega
              go_wp2_with fail
              go_roundw
              case rel => exact ⟨j1, rfl, HJ1.out.2, HA5.out.other g 1 _ (.inl (fun e => hJg e.symm)), (HB.out.trans HB5.out).setG 1 _, .inr (HNX.out _ _ (HX5.out.set 1 true true _ rfl))⟩
              case measure => have h9 := HJ1.out; simp [intOf]; omega
          · have eb1 : ¬ (262144 : Int) < (z1 : Int) + (z2 : Int) := by omega
            have NX : ∀ wz, Xe wz g (some ⟨gl, o, none⟩) cap l false (ou || !((o1 && o3) && (decide (n.tag ≠ 0x31) || (ordL P && !(Op.bytesLess x (lastL P)))))) → _ := fun wz hx => TN.next (j1 := j1) (q5 := q5) (p := i) HS.out.1 HS.out.2.1 HS.out.2.2.1 HS.out.2.2.2.1 HS.out.2.2.2.2.1 HS.out.2.2.2.2.2.2.2.2.1 HS.out.2.2.2.2.2.2.2.2.2.2.1 HS.out.2.2.2.2.2.2.2.2.2.2.2.1 HS5.out.1 HS.out.2.2.2.2.2.2.2.2.2.2.2.2.2 HQ5.out HJ1.out.1 (by rw [hz1, hz2]; omega) hx
            have HNX := Lib.hid NX
            clear NX
            by_cases ht9 : t = 49
            · rw [ht9] at d0
              obtain ⟨lb, hlb⟩ : ∃ b, Op.bytesLess s.toList sl.toList = b := ⟨_, rfl⟩
              have hlb2 : Op.bytesLess x (lastL P) = lb := by rw [← HS5.out.1, ← HS.out.2.2.2.2.2.2.1]; exact hlb
              have HLB := Lib.hid (And.intro hlb2 (HDC.out.1 ht9))
              clear hlb2
              clear ht9
              cases lb
              · go_wp2_with fail
                go_roundw
                case rel => exact ⟨j1, rfl, HJ1.out.2, HA5.out, HB.out.trans HB5.out, .inl (HNX.out _ (by rw [← flag_keep _ _ _ _ _ _ (.inr HLB.out.1)]; exact HX5.out))⟩
                case measure => have h9 := HJ1.out; simp [intOf]; omega
              · go_wp2_with fail
                go_roundw
                case rel => exact ⟨j1, rfl, HJ1.out.2, HA5.out.other g 2 _ (.inl (fun e => hJg e.symm)), (HB.out.trans HB5.out).setG 2 _, .inl (HNX.out _ (by rw [HLB.out.1, HLB.out.2, ← flag_set]; exact HX5.out.set 2 true false true rfl))⟩
                case measure => have h9 := HJ1.out; simp [intOf]; omega
            · have eT : ((t : Int) == 49) = false := by rw [beq_eq_false_iff_ne]; omega
              go_wp2_with fail
              go_roundw
              case rel => exact ⟨j1, rfl, HJ1.out.2, HA5.out, HB.out.trans HB5.out, .inl (HNX.out _ (by rw [← flag_keep _ _ _ _ _ _ (.inl (HDC.out.2 ht9))]; exact HX5.out))⟩
              case measure => have h9 := HJ1.out; simp [intOf]; omega
        · have A5 := At.bw HA.out HB5.out HJW.out hJg
          have d0 := A5.cell 0 _ rfl
          have d1 := A5.cell 1 _ rfl
          rw [HC.out.1, Nat.zero_add] at d0
          rw [Nat.zero_add] at d1
          have f1 := HX5.out.at0.froz 1 (by show 1 < 3; decide)
          have f2 := HX5.out.at0.froz 2 (by show 2 < 3; decide)
          have y1 := HX5.out.at0.cell 1 _ rfl
          have y2 := HX5.out.at0.cell 2 _ rfl
          rw [Nat.zero_add] at f1 f2 y1 y2
          obtain ⟨z1, hz1⟩ : ∃ z, sb.size = z := ⟨_, rfl⟩
          obtain ⟨z2, hz2⟩ : ∃ z, s.size = z := ⟨_, rfl⟩
          have hz1b : z1 ≤ 262144 := by rw [← hz1, ← tl_size, HS.out.2.2.2.2.1]; exact HS.out.2.2.2.2.2.1
          have hz2b : z2 ≤ 300000 * Kc.length := by rw [← hz2]; exact hsz
          have ov : ¬ 9223372036854775807 < z1 + z2 := by have := HS.out; have := HC.out; omega
          have HS5 := Lib.hid (And.intro hbig (And.intro hz1 (And.intro hz2 (And.intro hz1b (And.intro hz2b hy)))))
          have HA5 := Lib.hid A5
          clear A5 hsz hy hbig c0 c1 l1
          have NX : ∀ wz ou', Xe wz g (some ⟨gl, o, none⟩) cap l true ou' → _ := fun wz ou' hx => TL.next (K := K) (s := s) (q5 := y) HS.out.2.1 HS.out.2.2.2.2.1 (by have := HS5.out.1; omega) (by rw [hz1]; exact hz1b) (by rw [hz2]; have := HS.out; omega) HS5.out.2.2.2.2.2 hx
          have HNX := Lib.hid NX
          clear NX hz2b
          by_cases hbq : 262144 < z1 + z2
          · have eb1 : (262144 : Int) < (z1 : Int) + (z2 : Int) := by omega
            by_cases ht9 : t = 49
            · rw [ht9] at d0
              obtain ⟨lb, hlb⟩ : ∃ b, Op.bytesLess s.toList sl.toList = b := ⟨_, rfl⟩
              clear ht9
              cases lb
              · go_wp2_with fail
                go_roundw
                case rel => exact ⟨j1, rfl, HJ1.out.2, HA5.out.other g 1 _ (.inl (fun e => hJg e.symm)), (HB.out.trans HB5.out).setG 1 _, .inr (HNX.out _ _ (HX5.out.set 1 true true _ rfl))⟩
                case measure => have h9 := HJ1.out; simp [intOf]; omega
              · go_wp2_with fail
                go_roundw
                case rel => exact ⟨j1, rfl, HJ1.out.2, (HA5.out.other g 1 _ (.inl (fun e => hJg e.symm))).other g 2 _ (.inl (fun e => hJg e.symm)), ((HB.out.trans HB5.out).setG 1 _).setG 2 _, .inr (HNX.out _ _ ((HX5.out.set 1 true true _ rfl).set 2 true true true rfl))⟩
                case measure => have h9 := HJ1.out; simp [intOf]; omega
            · have eT : ((t : Int) == 49) = false := by rw [beq_eq_false_iff_ne]; omega
              go_wp2_with fail
              go_roundw
              case rel => exact ⟨j1, rfl, HJ1.out.2, HA5.out.other g 1 _ (.inl (fun e => hJg e.symm)), (HB.out.trans HB5.out).setG 1 _, .inr (HNX.out _ _ (HX5.out.set 1 true true _ rfl))⟩
              case measure => have h9 := HJ1.out; simp [intOf]; omega
          · have eb1 : ¬ (262144 : Int) < (z1 : Int) + (z2 : Int) := by omega
            by_cases ht9 : t = 49
            · rw [ht9] at d0
              obtain ⟨lb, hlb⟩ : ∃ b, Op.bytesLess s.toList sl.toList = b := ⟨_, rfl⟩
              clear ht9
              cases lb
              · go_wp2_with fail
                go_roundw
                case rel => exact ⟨j1, rfl, HJ1.out.2, HA5.out, HB.out.trans HB5.out, .inr (HNX.out _ _ HX5.out)⟩
                case measure => have h9 := HJ1.out; simp [intOf]; omega
              · go_wp2_with fail
                go_roundw
                case rel => exact ⟨j1, rfl, HJ1.out.2, (HA5.out).other g 2 _ (.inl (fun e => hJg e.symm)), (HB.out.trans HB5.out).setG 2 _, .inr (HNX.out _ _ (HX5.out.set 2 true true true rfl))⟩
                case measure => have h9 := HJ1.out; simp [intOf]; omega
            · have eT : ((t : Int) == 49) = false := by rw [beq_eq_false_iff_ne]; omega
              go_wp2_with fail
              go_roundw
              case rel => exact ⟨j1, rfl, HJ1.out.2, HA5.out, HB.out.trans HB5.out, .inr (HNX.out _ _ HX5.out)⟩
              case measure => have h9 := HJ1.out; simp [intOf]; omega
      · have hjm2 : j = m := by omega
        subst hjm2
        have e8 : ¬ (j : Int) < (j : Int) := by omega
        have hQ : Q = [] := by
          have h1 := HC.out.2.2.2.2.1
          rw [hmk, List.length_append, hpl] at h1
          exact List.length_eq_zero_iff.1 (by omega)
        subst hQ
        obtain ⟨hR0, -, ho2⟩ := hel.none
        obtain ⟨z, hz⟩ : ∃ z, sb.size = z := ⟨_, rfl⟩
        have hMP : P = MK := by rw [hmk, List.append_nil]
        have hoK : o1 = oK := by rw [hok, ho2, Bool.and_true]
        have hKK : K1 = K := by rw [hkk, hR0, List.append_nil]
        rw [hMP, hoK] at HXR
        rw [hMP] at hbb hle
        rw [hKK]
        obtain ⟨q, hqq⟩ : ∃ q, i + 1 + K.length = q := ⟨_, rfl⟩
        rw [hqq]
        have HZ : Hid (z ≤ 262144) := by show _ ≤ _; rw [← hz, ← tl_size, hbb]; exact hle
        have HD : Hid (sb.toList = MK.flatten ∧ i + (n :: K).length = q) := ⟨hbb, by rw [List.length_cons]; omega⟩
        clear hpl hmk hkk hel hok hbb hle hss hin hR0 ho2 hMP hoK hKK hqq hj
        have RL := Lib.hid (fun w' => rlen_any z (by have := HZ.out; omega) w')
        obtain ⟨c, hc⟩ : ∃ c : ByteArray, c = ⟨[UInt8.ofNat t].toArray⟩ := ⟨_, rfl⟩
        have hcl : c.toList = [n.tag] := by rw [hc, tl_mk, ← HC.out.1]; simp
        have hcs : c.size = 1 := by rw [← tl_size, hcl]; rfl
        have hcv := dcv_byte t ht2 c hc
        have hcw := dcv_byteN t ht2 c hc
        have hcw1 : ∀ w' : World, (convert 42 9 (.slice (some ⟨w'.heap.size, 0, none⟩) 1 1)).run Tryd.prog ((w'.alloc (Obj.cells #[.int .u8 (t : Int)] 5)).drew) = .ok (.string c) ((w'.alloc (Obj.cells #[.int .u8 (t : Int)] 5)).drew) := fun w' => hcw w' 1
        have HU : Hid (∀ h : ByteArray, h.toList = hd z → (c ++ h ++ sb).toList = encN n.tag sb.toList) := fun h hh => by rw [tl_app, tl_app, hcl, hh, encN, tl_size, hz]; simp
        have HSZ : Hid (∀ h : ByteArray, h.toList = hd z → (¬ 9223372036854775807 < c.size + h.size ∧ ¬ 9223372036854775807 < c.size + h.size + z) ∧ (c ++ h ++ sb).size ≤ z + 8) := fun h hh => by
          have h1 := congrArg List.length hh
          rw [tl_size] at h1
          have h2 := hd_len z (by have := HZ.out; omega)
          have h3 := HZ.out
          have h4 : (c ++ h ++ sb).size = c.size + h.size + sb.size := by rw [← tl_size, tl_app, tl_app, List.length_append, List.length_append, tl_size, tl_size, tl_size]
          omega
        have HCC : Hid (c = ⟨[UInt8.ofNat t].toArray⟩ ∧ t < 256) := ⟨hc, ht2⟩
        have HJW := Lib.hid hJw
        have HAJ : Hid (At wr J 0 [Value.int .u8 (t : Int), Value.int .i64 (j : Int), Value.string bd]) := by have h9 := HA.out; rw [HC.out.1] at h9; exact h9
        have cA : ∀ ob : Obj, (wr.alloc ob).cell? ⟨J, 0, none⟩ = some (.int .u8 (t : Int)) := fun ob => (HAJ.out.alloc ob).cell 0 _ rfl
        clear hcl hcs hc hJw
        go_wp2_with fail
        go_region_law (go_simp; go_at_call 61; refine (RL.out _).mono ?_; rintro e w3 ⟨h, rfl, hh, hb3⟩; have hs3 := HSZ.out h hh; obtain ⟨⟨hs4, hs5⟩, hs6⟩ := hs3; have HH := Lib.hid (And.intro (HU.out h hh) hs6); have HX3 : Hid (Xe w3 g (some ⟨gl, o, none⟩) cap l false (ou || !(oK && (decide (n.tag ≠ 0x31) || ordL MK)))) := Xe.below (by repeat (first | exact (HXR).out | refine Xe.alloc ?_ _ | refine Xe.drewN ?_ 1 | refine Xe.drewN ?_ _)) hb3; have HB3 : Hid (Below wr.heap.size wr w3) := Below.trans (by repeat (first | exact Below.refl _ _ | refine below_alloc1 ?_ (Nat.le_refl _) _ | refine Below.drew ?_)) (hb3.mono (by simp)); (first | (have hcv3 := conv3 (g := wr.heap.size) t HCC.out.2 c HCC.out.1 (by first | exact (At.ofAlloc wr #[Value.int .u8 (t : Int)] 5).drewN 1 | exact (At.ofAlloc wr #[Value.int .u8 (t : Int)] 5)) hb3 (by simp); have hcv4 := conv3 (g := wr.heap.size) t HCC.out.2 c HCC.out.1 (by first | exact (At.ofAlloc wr #[Value.int .u8 (t : Int)] 5).drewN 1 | exact (At.ofAlloc wr #[Value.int .u8 (t : Int)] 5)) hb3.drew (by simp)) | skip); have HA3 : Hid (At w3 J 0 [Value.int .u8 (t : Int), Value.int .i64 (j : Int), Value.string bd]) := At.below (by repeat (first | exact (HAJ).out | refine At.alloc ?_ _ | refine At.drewN ?_ 1 | refine At.drewN ?_ _)) hb3 (by have := HJW.out; simp; omega); have ht3 := HA3.out.cell 0 _ rfl; rw [Nat.zero_add] at ht3; have ht4 := (HA3.out.drewN 1).cell 0 _ rfl; rw [Nat.zero_add] at ht4; have ht7 : ∀ ob : Obj, (w3.alloc ob).cell? ⟨J, 0, none⟩ = some (.int .u8 (t : Int)) := (fun ob => (HA3.out.alloc ob).cell 0 _ rfl); clear hh hb3)
        all_goals
          go_wp2_with fail
          go_ret2
          exact DTold.node (by rw [← HD.out.1]; exact HH.out.1) (by rw [← HD.out.1, ← HH.out.1, tl_size]; have := HH.out.2; have := HZ.out; omega) HD.out.2 (by repeat (first | exact (HX3).out | refine Xe.alloc ?_ _ | refine Xe.drewN ?_ 1 | refine Xe.drewN ?_ _)) (HB.out.trans (Bw.of (by repeat (first | exact (HB3).out | refine below_alloc1 ?_ (Nat.le_refl _) _ | refine Below.drew ?_))))
    · obtain ⟨sb, sl, x, ou', h⟩ := hL
      obtain ⟨hbig, rfl, hbs, rfl, rfl, hx, HXR⟩ := h
      have hJw : J < wr.heap.size := HA.out.lt (by simp)
      have c0 := HA.out.cell 0 _ rfl
      have c1 := HA.out.cell 1 _ rfl
      rw [HC.out.1, Nat.zero_add] at c0
      rw [Nat.zero_add] at c1
      have l1 := HXR.out.at0.cell 1 _ rfl
      rw [Nat.zero_add] at l1
      obtain ⟨z, hz⟩ : ∃ z, sb.size = z := ⟨_, rfl⟩
      have HZ : Hid (z ≤ 262144 + 300000 * K.length ∧ K.length ≤ 4096) := ⟨by rw [← hz]; exact hbs, by have := HC.out; omega⟩
      have HD : Hid (262144 < (encN n.tag MK.flatten).length ∧ x ≤ 100000) := ⟨by rw [encN]; simp only [List.length_cons, List.length_append]; omega, hx⟩
      clear hbig hbs hx
      have e8 : (j : Int) < (m : Int) ∨ ¬ (j : Int) < (m : Int) := Classical.em _
      rcases e8 with e8 | e8
      all_goals
        have RL := Lib.hid (fun w' => rlen_any z (by have := HZ.out; omega) w')
        obtain ⟨c, hc⟩ : ∃ c : ByteArray, c = ⟨[UInt8.ofNat t].toArray⟩ := ⟨_, rfl⟩
        have hcl : c.toList = [n.tag] := by rw [hc, tl_mk, ← HC.out.1]; simp
        have hcs : c.size = 1 := by rw [← tl_size, hcl]; rfl
        have hcv := dcv_byte t ht2 c hc
        have hcw := dcv_byteN t ht2 c hc
        have hcw1 : ∀ w' : World, (convert 42 9 (.slice (some ⟨w'.heap.size, 0, none⟩) 1 1)).run Tryd.prog ((w'.alloc (Obj.cells #[.int .u8 (t : Int)] 5)).drew) = .ok (.string c) ((w'.alloc (Obj.cells #[.int .u8 (t : Int)] 5)).drew) := fun w' => hcw w' 1
        have HU : Hid (∀ h : ByteArray, h.toList = hd z → (c ++ h ++ sb).toList = encN n.tag sb.toList) := fun h hh => by rw [tl_app, tl_app, hcl, hh, encN, tl_size, hz]; simp
        have HSZ : Hid (∀ h : ByteArray, h.toList = hd z → (¬ 9223372036854775807 < c.size + h.size ∧ ¬ 9223372036854775807 < c.size + h.size + z) ∧ (c ++ h ++ sb).size ≤ z + 8) := fun h hh => by
          have h1 := congrArg List.length hh
          rw [tl_size] at h1
          have h2 := hd_len z (by have := HZ.out; omega)
          have h3 := HZ.out
          have h4 : (c ++ h ++ sb).size = c.size + h.size + sb.size := by rw [← tl_size, tl_app, tl_app, List.length_append, List.length_append, tl_size, tl_size, tl_size]
          omega
        have HCC : Hid (c = ⟨[UInt8.ofNat t].toArray⟩ ∧ t < 256) := ⟨hc, ht2⟩
        have HJW := Lib.hid hJw
        have HAJ : Hid (At wr J 0 [Value.int .u8 (t : Int), Value.int .i64 (m : Int), Value.string bd]) := by have h9 := HA.out; rw [HC.out.1] at h9; exact h9
        have cA : ∀ ob : Obj, (wr.alloc ob).cell? ⟨J, 0, none⟩ = some (.int .u8 (t : Int)) := fun ob => (HAJ.out.alloc ob).cell 0 _ rfl
        clear hcl hcs hc hJw
        go_wp2_with fail
        go_region_law (go_simp; go_at_call 61; refine (RL.out _).mono ?_; rintro e w3 ⟨h, rfl, hh, hb3⟩; have hs3 := HSZ.out h hh; obtain ⟨⟨hs4, hs5⟩, hs6⟩ := hs3; have HH := Lib.hid (And.intro (HU.out h hh) hs6); have HX3 : Hid (Xe w3 g (some ⟨gl, o, none⟩) cap l true ou') := Xe.below (by repeat (first | exact (HXR).out | refine Xe.alloc ?_ _ | refine Xe.drewN ?_ 1 | refine Xe.drewN ?_ _)) hb3; have HB3 : Hid (Below wr.heap.size wr w3) := Below.trans (by repeat (first | exact Below.refl _ _ | refine below_alloc1 ?_ (Nat.le_refl _) _ | refine Below.drew ?_)) (hb3.mono (by simp)); (first | (have hcv3 := conv3 (g := wr.heap.size) t HCC.out.2 c HCC.out.1 (by first | exact (At.ofAlloc wr #[Value.int .u8 (t : Int)] 5).drewN 1 | exact (At.ofAlloc wr #[Value.int .u8 (t : Int)] 5)) hb3 (by simp); have hcv4 := conv3 (g := wr.heap.size) t HCC.out.2 c HCC.out.1 (by first | exact (At.ofAlloc wr #[Value.int .u8 (t : Int)] 5).drewN 1 | exact (At.ofAlloc wr #[Value.int .u8 (t : Int)] 5)) hb3.drew (by simp)) | skip); have HA3 : Hid (At w3 J 0 [Value.int .u8 (t : Int), Value.int .i64 (m : Int), Value.string bd]) := At.below (by repeat (first | exact (HAJ).out | refine At.alloc ?_ _ | refine At.drewN ?_ 1 | refine At.drewN ?_ _)) hb3 (by have := HJW.out; simp; omega); have ht3 := HA3.out.cell 0 _ rfl; rw [Nat.zero_add] at ht3; have ht4 := (HA3.out.drewN 1).cell 0 _ rfl; rw [Nat.zero_add] at ht4; have ht7 : ∀ ob : Obj, (w3.alloc ob).cell? ⟨J, 0, none⟩ = some (.int .u8 (t : Int)) := (fun ob => (HA3.out.alloc ob).cell 0 _ rfl); clear hh hb3)
        all_goals
          go_wp2_with fail
          go_ret2
          exact DTold.long (ou' := ou') HD.out.1 (by have := HH.out.2; have := HZ.out; rw [List.length_cons]; omega) HD.out.2 (by repeat (first | exact (HX3).out | refine Xe.alloc ?_ _ | refine Xe.drewN ?_ 1 | refine Xe.drewN ?_ _)) (HB.out.trans (Bw.of (by repeat (first | exact (HB3).out | refine below_alloc1 ?_ (Nat.le_refl _) _ | refine Below.drew ?_))))
end Go.Proofs.YteglahkgnggmgaaDoor
