/- The document's teller: an item that holds others, in plain words. -/
import Derived.Test.YteanipjgpekncaaDoorCrA
import Derived.Test.YteanipjgpekncaaDoorCrB
namespace Go.Proofs.YteanipjgpekncaaDoor
open Go.RowKit
set_option linter.unusedVariables false
set_option linter.unusedSimpArgs false
namespace Co
open Dr (Rs Lm has lack at0S)
/-- the key that was told last -/
def lastK (P : List (List UInt8)) : List UInt8 := P.getD (if P.length % 2 = 0 then P.length - 2 else P.length - 1) []
theorem lastK_key (P : List (List UInt8)) (x : List UInt8) (h : P.length % 2 = 0) : lastK (P ++ [x]) = x := by
  rw [lastK, List.length_append, List.length_singleton, if_neg (by omega), Nat.add_sub_cancel]
  simp [List.getD]
theorem lastK_value (P : List (List UInt8)) (x : List UInt8) (h : P.length % 2 = 1) : lastK (P ++ [x]) = lastK P := by
  rw [lastK, lastK, List.length_append, List.length_singleton, if_pos (by omega), if_neg (by omega), show P.length + 1 - 2 = P.length - 1 by omega, List.getD, List.getD, List.getElem?_append_left (by omega)]
theorem ordA_no (k : Nat) (M : List (List UInt8)) (h : k ≠ 5) : ordA k M = true := by rw [ordA, decide_eq_true h, Bool.true_or]
theorem ordA_5 (M : List (List UInt8)) : ordA 5 M = keysOk M := rfl
theorem ordA_key (P : List (List UInt8)) (x : List UInt8) (h : P.length % 2 = 0) (h0 : 0 < P.length) : ordA 5 (P ++ [x]) = (ordA 5 P && Op.bytesLess (lastK P) x) := by
  rw [ordA_5, ordA_5, lastK, if_pos h]
  exact keysOk_key P x h (fun e => by rw [e] at h0; exact absurd h0 (Nat.lt_irrefl 0))
theorem ordA_value (P : List (List UInt8)) (x : List UInt8) (h : P.length % 2 = 1) : ordA 5 (P ++ [x]) = ordA 5 P := keysOk_value P x h
theorem flag_and (ou o1 o3 q : Bool) : ((ou || !(o1 && q)) || !o3) = (ou || !((o1 && o3) && q)) := by cases ou <;> cases o1 <;> cases o3 <;> cases q <;> rfl
theorem flag_no (ou o1 o3 q : Bool) : true = (ou || !((o1 && o3) && (q && false))) := by cases ou <;> cases o1 <;> cases o3 <;> cases q <;> rfl
theorem flag_yes (ou o1 o3 q : Bool) : ((ou || !(o1 && q)) || !o3) = (ou || !((o1 && o3) && (q && true))) := by cases ou <;> cases o1 <;> cases o3 <;> cases q <;> rfl
/-- while nothing is too long -/
structure CN (k g : Nat) (v : Value) (p : Nat) (H : List UInt8) (K : List Am) (MK : List (List UInt8)) (oK ou : Bool) (j : Nat) (v5 v7 : Value) (wr : World) (P Q : List (List UInt8)) (K1 R1 : List Am) (d2 : Nat) (o1 o2 : Bool) (sb sl : ByteArray) : Prop where
  pl : P.length = j
  mq : MK = P ++ Q
  kk : K = K1 ++ R1
  el : Its d2 R1 Q o2
  ok : oK = (o1 && o2)
  e5 : v5 = .string sb
  hb : sb.toList = H ++ P.flatten
  le : (H ++ P.flatten).length ≤ 262144
  e7 : v7 = .string sl
  hs : k = 5 → sl.toList = lastK P
  te : Hid (Te wr g v (p + 1 + K1.length) false (ou || !(o1 && ordA k P)))
/-- once it is too long -/
structure CL (g : Nat) (v : Value) (H : List UInt8) (K : List Am) (MK : List (List UInt8)) (v5 v7 : Value) (wr : World) (sb sl : ByteArray) (x : Nat) (ou' : Bool) : Prop where
  big : 262144 < (H ++ MK.flatten).length
  e5 : v5 = .string sb
  hb : sb.size ≤ 262144 + 300000 * K.length
  e7 : v7 = .string sl
  hx : x ≤ 100000
  te : Hid (Te wr g v x true ou')
def CTold (g : Nat) (v : Value) (K : List Am) (B : List UInt8) (o : Bool) (p : Nat) (ou : Bool) (w : World) (e : Ending) (w' : World) : Prop :=
  (∃ s : ByteArray, e = .returned (.string s) ∧ s.toList = B ∧ B.length ≤ 300000 ∧ Hid (Te w' g v (p + K.length) false (ou || !o)) ∧ Hid (Bw g w w')) ∨
  (∃ (s : ByteArray) (x : Nat) (ou' : Bool), e = .returned (.string s) ∧ 262144 < B.length ∧ s.size ≤ 300000 * K.length ∧ x ≤ 100000 ∧ Hid (Te w' g v x true ou') ∧ Hid (Bw g w w'))
theorem CTold.done {g : Nat} {v : Value} {K : List Am} {B : List UInt8} {o ou : Bool} {p q : Nat} {w w' : World} {s : ByteArray} (hs : s.toList = B) (hB : B.length ≤ 300000) (hq : p + K.length = q) (hx : Te w' g v q false (ou || !o)) (hb : Bw g w w') : CTold g v K B o p ou w (.returned (.string s)) w' := by
  subst hq
  exact .inl ⟨s, rfl, hs, hB, hx, hb⟩
theorem CTold.long {g : Nat} {v : Value} {K : List Am} {B : List UInt8} {o ou ou' : Bool} {p x : Nat} {w w' : World} {s : ByteArray} (hB : 262144 < B.length) (hs : s.size ≤ 300000 * K.length) (hq : x ≤ 100000) (hx : Te w' g v x true ou') (hb : Bw g w w') : CTold g v K B o p ou w (.returned (.string s)) w' := .inr ⟨s, x, ou', rfl, hB, hs, hq, hx, hb⟩
theorem CN.next {k g : Nat} {v : Value} {p : Nat} {H : List UInt8} {K : List Am} {MK : List (List UInt8)} {oK ou : Bool} {j j1 : Nat} {wz : World} {P Q' : List (List UInt8)} {x : List UInt8} {K1 R1 Kc Rc : List Am} {d4 : Nat} {o1 o2 o3 o4 : Bool} {sb s sl : ByteArray} {q q5 : Nat}
    (hpl : P.length = j) (hmk : MK = P ++ x :: Q') (hkk : K = K1 ++ R1) (hok : oK = (o1 && o2)) (hbb : sb.toList = H ++ P.flatten) (hR : R1 = Kc ++ Rc) (hr : Its d4 Rc Q' o4) (ho : o2 = (o3 && o4)) (hs5 : s.toList = x) (hq : p + 1 + K1.length = q) (hq5 : q + Kc.length = q5) (hj1 : j + 1 = j1) (hle : sb.size + s.size ≤ 262144)
    (hsl : k = 5 → sl.toList = lastK (P ++ [x])) (hx : Te wz g v q5 false (ou || !((o1 && o3) && ordA k (P ++ [x])))) :
    ∃ P Q K1 R1 d2 o1 o2 sb' sl', CN k g v p H K MK oK ou j1 (.string (sb ++ s)) (.string sl) wz P Q K1 R1 d2 o1 o2 sb' sl' := by
  refine ⟨P ++ [x], Q', K1 ++ Kc, Rc, d4, o1 && o3, o4, sb ++ s, sl, ⟨by simp [hpl, hj1], by rw [hmk]; simp, by rw [hkk, hR, List.append_assoc], hr, by rw [hok, ho, Bool.and_assoc], rfl, by rw [tl_app, hbb, hs5]; simp, ?_, rfl, hsl, by rw [List.length_append, ← Nat.add_assoc, hq, hq5]; exact hx⟩⟩
  rw [← tl_size, ← tl_size, hbb, hs5] at hle
  simp only [List.length_append, List.flatten_append, List.flatten_cons, List.flatten_nil, List.append_nil] at hle ⊢
  omega
theorem CL.next {g : Nat} {v : Value} {H : List UInt8} {K : List Am} {MK : List (List UInt8)} {wz : World} {P Q' : List (List UInt8)} {x : List UInt8} {sb s sl : ByteArray} {q5 : Nat} {ou' : Bool}
    (hmk : MK = P ++ x :: Q') (hbb : sb.toList = H ++ P.flatten) (hbig : 262144 < (H ++ P.flatten).length + x.length) (hz1 : sb.size ≤ 262144) (hs : s.size ≤ 300000 * K.length) (hq5 : q5 ≤ 100000) (hx : Te wz g v q5 true ou') :
    ∃ sb' sl' x ou', CL g v H K MK (.string (sb ++ s)) (.string sl) wz sb' sl' x ou' := by
  refine ⟨sb ++ s, sl, q5, ou', ⟨?_, rfl, ?_, rfl, hq5, hx⟩⟩
  · rw [hmk]
    simp only [List.flatten_append, List.flatten_cons, List.length_append] at hbig ⊢
    omega
  · rw [← tl_size, tl_app, List.length_append, tl_size, tl_size]
    omega
def CR (k g : Nat) (v : Value) (p m T : Nat) (cs : List Value) (H : List UInt8) (K : List Am) (MK : List (List UInt8)) (oK ou : Bool) (w : World) (v5 v7 v8 : Value) (wr : World) : Prop :=
  ∃ i : Nat, v8 = .int .i64 (i : Int) ∧ i ≤ m ∧ Hid (At wr T 0 cs) ∧ Hid (Bw g w wr) ∧
    ((∃ P Q K1 R1 d2 o1 o2 sb sl, CN k g v p H K MK oK ou i v5 v7 wr P Q K1 R1 d2 o1 o2 sb sl) ∨ (∃ sb sl x ou', CL g v H K MK v5 v7 wr sb sl x ou'))
/-- the items of these are told -/
def CToldOk (l : List Ra) (K : List Am) : Prop := ∀ d B o, Its d K [B] o → ∀ A R, l = A ++ K.map up ++ R → ∀ w g k o0 n cap ou, Te w g (.slice (some ⟨k, o0, none⟩) n cap) A.length false ou → Lg w g k o0 l → l.length = n →
    Calls Tryd.prog 38 #[.pointer (some ⟨g, 0, none⟩)] w (CTold g (.slice (some ⟨k, o0, none⟩) n cap) K B o A.length ou w)
theorem Lg.bw {w w' : World} {g k o : Nat} {l : List Ra} (h : Lg w g k o l) (hb : Bw g w w') (hg : g < w.heap.size) : Lg w' g k o l := ⟨atBw h.at0 hb (by have := h.lt; omega) (by have := h.lt; omega), h.lt⟩
end Co
end Go.Proofs.YteanipjgpekncaaDoor
