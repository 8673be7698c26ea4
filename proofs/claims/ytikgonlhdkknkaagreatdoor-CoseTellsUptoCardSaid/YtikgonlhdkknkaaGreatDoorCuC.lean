import Derived.Test.YtikgonlhdkknkaaGreatDoorCoZ
import Derived.Test.YtikgonlhdkknkaaGreatDoorCuJ
set_option linter.unusedVariables false
set_option linter.unusedSimpArgs false
namespace Go.Proofs.YtikgonlhdkknkaaGreatDoor
namespace Ce
open Co (Am Its need holds tell hdN okA)
def hld (a : Am) : Nat := if holds a.kind = true then need a else 0
def fl : Nat → List Am → Nat
 | 0, _ => 0
 | _ + 1, [] => 0
 | k + 1, a :: r => 1 + fl (k + hld a) r
def Fits : Nat → List Am → Prop
 | 0, _ => True
 | _ + 1, [] => False
 | k + 1, a :: r => Fits (k + hld a) r
theorem Fits.zero (l : List Am) : Fits 0 l := by cases l <;> exact trivial
theorem hld_leaf {a : Am} (h : holds a.kind = false) : hld a = 0 := by rw [hld, if_neg (by rw [h]; decide)]
theorem hld_node {a : Am} (h : holds a.kind = true) : hld a = need a := by rw [hld, if_pos h]
theorem fl_app {d N M o} (h : Its d N M o) : ∀ (k : Nat) (R : List Am), fl (M.length + k) (N ++ R) = N.length + fl k R ∧ (Fits (M.length + k) (N ++ R) ↔ Fits k R) := by
 induction h with
 | nil => intro k R; simp
 | @leaf a d N M o hx h ih =>
  intro k R
  have h1 := ih k R
  rw [lco, show M.length + 1 + k = (M.length + k) + 1 by omega, List.cons_append, fl, Fits, hld_leaf hx, Nat.add_zero, h1.1, lco]
  exact ⟨by omega, h1.2⟩
 | @node a dK K MK oK d N M o hx hm hK h ihK ih =>
  intro k R
  have h1 := ihK (M.length + k) (N ++ R)
  have h2 := ih k R
  rw [lco, show M.length + 1 + k = (M.length + k) + 1 by omega, List.cons_append, fl, Fits, hld_node hx, ← hm, List.append_assoc, show M.length + k + MK.length = MK.length + (M.length + k) by omega, h1.1, h2.1, lco, lap]
  exact ⟨by omega, h1.2.trans h2.2⟩
theorem Fits.le : ∀ {k : Nat} {l : List Am}, Fits k l → k ≤ l.length ∧ fl k l ≤ l.length ∧ k ≤ fl k l
 | 0, l, _ => ⟨Nat.zero_le _, by cases l <;> simp [fl], Nat.zero_le _⟩
 | k + 1, [], h => h.elim
 | k + 1, a :: r, h => by
  have h1 := Fits.le (k := k + hld a) (l := r) h
  rw [fl, lco]
  omega
theorem fl_zero (l : List Am) : fl 0 l = 0 := by cases l <;> rfl
def pts : Nat → List Am → List (List Am)
 | 0, _ => []
 | k + 1, l => l.take (fl 1 l) :: pts k (l.drop (fl 1 l))
def Part (D : Nat) (P : List Am) (B : List UInt8) : Prop := ∃ d, Its d P [B] true ∧ d ≤ D
theorem Part.ne {D P B} (h : Part D P B) : P ≠ [] := by
 obtain ⟨d, h, _⟩ := h
 intro h0
 subst h0
 cases h
theorem Part.fl {D P B} (h : Part D P B) (R : List Am) : fl 1 (P ++ R) = P.length ∧ Fits 1 (P ++ R) := by
 obtain ⟨d, h, _⟩ := h
 have h1 := fl_app h 0 R
 rw [fl_zero] at h1
 exact ⟨h1.1, h1.2.2 (Fits.zero _)⟩
inductive Fo (D : Nat) : List (List Am) → List (List UInt8) → Prop
 | nil : Fo D [] []
 | cons {P B Ps Bs} : Part D P B → Fo D Ps Bs → Fo D (P :: Ps) (B :: Bs)
theorem Fo.length {D Ps Bs} (h : Fo D Ps Bs) : Ps.length = Bs.length := by
 induction h with
 | nil => rfl
 | cons _ _ ih => rw [lco, lco, ih]
theorem Fo.of {d N M o} (h : Its d N M o) : ∀ {D : Nat}, o = true → d ≤ D → ∃ Ps, Fo D Ps M ∧ N = Ps.flatten := by
 induction h with
 | nil => exact fun _ _ => ⟨[], .nil, rfl⟩
 | @leaf a d N M o hx h ih =>
  intro D ho hd
  obtain ⟨Ps, h1, h2⟩ := ih ho hd
  refine ⟨[a] :: Ps, .cons ⟨0, .leaf hx .nil, Nat.zero_le _⟩ h1, ?_⟩
  rw [List.flatten_cons, ← h2]; rfl
 | @node a dK K MK oK d N M o hx hm hK h ihK ih =>
  intro D ho hd
  have ho' : (oK && Co.ordA a.kind MK) = true ∧ o = true := by rwa [Bool.and_eq_true] at ho
  obtain ⟨Ps, h1, h2⟩ := ih (D := D) ho'.2 (by omega)
  have hn := Its.node hx hm hK Its.nil
  rw [List.append_nil, ho'.1] at hn
  refine ⟨(a :: K) :: Ps, .cons ⟨max (dK + 1) 0, hn, by omega⟩ h1, ?_⟩
  rw [List.flatten_cons, ← h2]; rfl
theorem Fo.fits {D Ps Bs} (h : Fo D Ps Bs) (R : List Am) : Fits Ps.length (Ps.flatten ++ R) ∧ fl Ps.length (Ps.flatten ++ R) = Ps.flatten.length ∧ pts Ps.length (Ps.flatten ++ R) = Ps := by
 induction h with
 | nil => exact ⟨Fits.zero _, fl_zero _, rfl⟩
 | @cons P B Ps Bs hP h ih =>
  obtain ⟨d, hI, hd⟩ := hP
  have h1 := fl_app hI Ps.length (Ps.flatten ++ R)
  have h2 := Part.fl ⟨d, hI, hd⟩ (Ps.flatten ++ R)
  rw [List.flatten_cons, List.append_assoc, lco, show Ps.length + 1 = [B].length + Ps.length by simp; omega]
  refine ⟨h1.2.2 ih.1, ?_, ?_⟩
  ·rw [h1.1, ih.2.1, lap]
  ·rw [show [B].length + Ps.length = Ps.length + 1 by simp; omega, pts, h2.1, List.take_left' rfl, List.drop_left' rfl, ih.2.2]
theorem Part.open {D a r B} (h : Part D (a :: r) B) : ∃ Ps Bs, Fo D Ps Bs ∧ r = Ps.flatten ∧ Ps.length = hld a := by
 obtain ⟨d, h, hd⟩ := h
 generalize hN : a :: r = N at h
 generalize hM : [B] = M at h
 generalize ho : true = o at h
 cases h with
 | nil => cases hN
 | @leaf x d N M o hx h =>
  obtain ⟨rfl, rfl⟩ := List.cons.inj hN
  obtain ⟨_, rfl⟩ := List.cons.inj hM
  cases h with
  | nil => exact ⟨[], [], .nil, rfl, by rw [hld_leaf hx]; rfl⟩
 | @node x dK K MK oK d N M o hx hm hK h =>
  obtain ⟨rfl, rfl⟩ := List.cons.inj hN
  obtain ⟨_, rfl⟩ := List.cons.inj hM
  cases h with
  | nil =>
   have ho' : oK = true := by
    cases oK
    ·rw [Bool.false_and, Bool.false_and] at ho; cases ho
    ·rfl
   obtain ⟨Ps, h1, h2⟩ := Fo.of hK (D := D) ho' (by omega)
   exact ⟨Ps, MK, h1, by rw [List.append_nil, h2], by rw [h1.length, hm, hld_node hx]⟩
theorem Part.leaf {D a r B} (h : Part D (a :: r) B) (hx : holds a.kind = false) : r = [] := by
 obtain ⟨Ps, Bs, h1, h2, h3⟩ := h.open
 rw [hld_leaf hx] at h3
 obtain rfl : Ps = [] := List.length_eq_zero_iff.1 h3
 rw [h2]; rfl
end Ce
end Go.Proofs.YtikgonlhdkknkaaGreatDoor
namespace Go.Proofs.YtikgonlhdkknkaaGreatDoor
namespace Ce
open Co (Am Its need holds tell hdN okA DecR decL decE up)
open Dr (Rs)
structure Rp where
 way : Int
 size : Int
 kind : Int
 name : List UInt8
 key : List UInt8
 salt : List UInt8
 rounds : Int
 iv : List UInt8
 loose : List UInt8
deriving DecidableEq
structure Ev where
 format : Int
 alg : Int
 rcs : List Rp
 header : List UInt8
 loose : List UInt8
 aad : List UInt8
 iv : List UInt8
 cipher : List UInt8
 tag : List UInt8
deriving DecidableEq
def Ev0 : Ev := ⟨0, 0, [], [], [], [], [], [], []⟩
def a0 : Am := ⟨0, 0, []⟩
def rowOf (n : Int) : Option (Int × Int × Int) :=
 if n = 1 then some (16, 12, 16) else if n = 2 then some (24, 12, 16) else if n = 3 then some (32, 12, 16)
 else if n = 4 then some (32, 16, 16) else if n = 5 then some (48, 16, 24) else if n = 6 then some (64, 16, 32)
 else if n = 10 then some (16, 13, 8) else if n = 11 then some (32, 13, 8) else if n = 12 then some (16, 7, 8) else if n = 13 then some (32, 7, 8)
 else if n = 30 then some (16, 13, 16) else if n = 31 then some (32, 13, 16) else if n = 32 then some (16, 7, 16) else if n = 33 then some (32, 7, 16)
 else if n = 104 then some (32, 0, 8) else if n = 105 then some (32, 0, 32) else if n = 106 then some (48, 0, 48) else if n = 107 then some (64, 0, 64)
 else if n = 114 then some (16, 0, 8) else if n = 115 then some (32, 0, 8) else if n = 125 then some (16, 0, 16) else if n = 126 then some (32, 0, 16)
 else none
def fmtOf (n : Int) : Int := match rowOf n with
 | none => 0
 | some r => if 4 ≤ n ∧ n ≤ 6 then 0 else if r.2.1 = 0 then 6 else 5
def ivOf (n : Int) : Int := match rowOf n with
 | none => 0
 | some r => r.2.1
def tagOf (n : Int) : Int := match rowOf n with
 | none => 0
 | some r => r.2.2
def heads (Ps : List (List Am)) : List Am := Ps.map fun P => P.headD a0
def twos : List Am → List (Am × Am)
 | a :: b :: r => (a, b) :: twos r
 | _ => []
def prs (m : List Am) : List (Am × Am) := twos (heads (pts (hld (m.headD a0)) m.tail))
def isLab (a : Am) : Bool := decide (a.kind = 0 ∨ a.kind = 1 ∨ a.kind = 3)
def find (n : Nat) (ps : List (Am × Am)) : Option Am := (ps.find? fun p => decide (p.1 = ⟨0, n, []⟩)).map Prod.snd
def labE (pr lo : List (Am × Am)) : Int :=
 if (pr.all fun p => isLab p.1) = false ∨ (lo.all fun p => isLab p.1) = false then 9
 else if (lo.any fun p => (pr.map Prod.fst).contains p.1) = true then 9
 else if (find 2 (pr ++ lo)).isSome = true ∨ (find 6 (pr ++ lo)).isSome = true then 11 else 0
def algP (F : Int) (ps : List (Am × Am)) : Int × Int := match find 1 ps with
 | none => (9, 0)
 | some v => if v.kind ≠ 0 ∨ 255 < v.num then (11, 0) else
  if fmtOf ((v.num : Int) + if F = 6 then 100 else 0) ≠ F then (11, 0) else (0, (v.num : Int) + if F = 6 then 100 else 0)
def nameP (ps : List (Am × Am)) : Int × List UInt8 := match find 4 ps with
 | none => (0, [])
 | some v => if v.kind ≠ 2 ∨ v.text.length < 1 ∨ 128 < v.text.length then (9, []) else (0, v.text)
def lenP (F alg : Int) (ps : List (Am × Am)) (cip tag : List UInt8) : Int × List UInt8 × List UInt8 × List UInt8 :=
 if F = 6 then (if (tag.length : Int) ≠ tagOf alg then (9, [], [], []) else if 70000 < cip.length then (10, [], [], []) else (0, [], cip, tag))
 else match find 5 ps with
  | none => (9, [], [], [])
  | some v => if v.kind ≠ 2 ∨ (v.text.length : Int) ≠ ivOf alg ∨ (cip.length : Int) < tagOf alg then (9, [], [], [])
   else if 70000 < cip.length - (tagOf alg).toNat ∨ ivOf alg = 13 ∧ 65536 ≤ cip.length - (tagOf alg).toNat then (10, [], [], [])
   else (0, v.text, cip.take (cip.length - (tagOf alg).toNat), cip.drop (cip.length - (tagOf alg).toNat))
def prot (t : List UInt8) (H : Rs (List Am)) : List Am := if t = [] then [] else decL H
def hdE (t : List UInt8) (H : Rs (List Am)) : Int := if t = [] then 0 else if decE H ≠ 0 then decE H else if ((decL H).headD a0).kind ≠ 5 ∨ ((decL H).headD a0).num = 0 then 9 else 0
def fmtN (l : List Am) : Int := if (l.getD 0 a0).num = 16 then 5 else 6
def wantN (l : List Am) : Nat := if (l.getD 0 a0).num = 16 then 3 else 4
def partN (l : List Am) (j : Nat) : List Am := (pts (wantN l) (l.drop 2)).getD j []
def headN (l : List Am) (j : Nat) : Am := (partN l j).headD a0
def preE (l : List Am) : Int :=
 if (l.getD 0 a0).kind ≠ 6 then 9 else if (l.getD 0 a0).num ≠ 16 ∧ (l.getD 0 a0).num ≠ 17 then 11
 else if (l.getD 1 a0).kind ≠ 4 ∨ (l.getD 1 a0).num ≠ wantN l then 9 else if (l.getD 2 a0).kind ≠ 2 then 9 else 0
def hdrN (l : List Am) : List UInt8 := (l.getD 2 a0).text
def posE (l : List Am) : Int :=
 if (headN l 1).kind ≠ 5 then 9 else if (headN l 2).kind = 7 ∧ (headN l 2).num = 22 then 11
 else if (headN l 2).kind ≠ 2 ∨ (headN l (wantN l - 1)).kind ≠ 2 then 9 else 0
def itE (l : List Am) (H : Rs (List Am)) : Int := if preE l ≠ 0 then preE l else if hdE (hdrN l) H ≠ 0 then hdE (hdrN l) H else posE l
def psN (l : List Am) (H : Rs (List Am)) : List (Am × Am) := prs (prot (hdrN l) H) ++ prs (partN l 1)
def algN (l : List Am) (H : Rs (List Am)) : Int × Int := algP (fmtN l) (psN l H)
def tagN (l : List Am) : List UInt8 := if fmtN l = 6 then (headN l 3).text else []
def lenN (l : List Am) (H : Rs (List Am)) : Int × List UInt8 × List UInt8 × List UInt8 := lenP (fmtN l) (algN l H).2 (psN l H) (headN l 2).text (tagN l)
def rdE (l : List Am) (H : Rs (List Am)) : Int :=
 if itE l H ≠ 0 then itE l H
 else if labE (prs (prot (hdrN l) H)) (prs (partN l 1)) ≠ 0 then labE (prs (prot (hdrN l) H)) (prs (partN l 1))
 else if (algN l H).1 ≠ 0 then (algN l H).1 else if (nameP (psN l H)).1 ≠ 0 then (nameP (psN l H)).1 else (lenN l H).1
def looseN (l : List Am) : List UInt8 := (Co.enc Lib.validD ((partN l 1).map up)).1
def rdV (l : List Am) (H : Rs (List Am)) : Ev :=
 if rdE l H ≠ 0 then Ev0 else ⟨fmtN l, (algN l H).2, [⟨1, 0, 0, (nameP (psN l H)).2, [], [], 0, [], []⟩], hdrN l, looseN l, [], (lenN l H).2.1, (lenN l H).2.2.1, (lenN l H).2.2.2⟩
def Hd (t : List UInt8) (d i b ro : Int) (H : Rs (List Am)) : Prop := t ≠ [] → DecR t d i b ro H
inductive Rd (S : List UInt8) (d i b ro : Int) : Int × Ev → Prop
 | no {e p f} : DecR S d i b ro (.no e p f) → Rd S d i b ro (e, Ev0)
 | pre {l} : DecR S d i b ro (.ok l) → preE l ≠ 0 → Rd S d i b ro (preE l, Ev0)
 | all {l H} : DecR S d i b ro (.ok l) → preE l = 0 → Hd (hdrN l) d i b ro H → Rd S d i b ro (rdE l H, rdV l H)
theorem rdE_hd {l : List Am} {H H' : Rs (List Am)} (h : hdrN l = []) : rdE l H = rdE l H' ∧ rdV l H = rdV l H' := by
 have h1 : prot (hdrN l) H = prot (hdrN l) H' := by rw [prot, prot, if_pos h, if_pos h]
 have h2 : hdE (hdrN l) H = hdE (hdrN l) H' := by rw [hdE, hdE, if_pos h, if_pos h]
 have h3 : itE l H = itE l H' := by rw [itE, itE, h2]
 have h4 : psN l H = psN l H' := by rw [psN, psN, h1]
 have h5 : algN l H = algN l H' := by rw [algN, algN, h4]
 have h6 : lenN l H = lenN l H' := by rw [lenN, lenN, h4, h5]
 have h7 : rdE l H = rdE l H' := by rw [rdE, rdE, h1, h3, h4, h5, h6]
 exact ⟨h7, by rw [rdV, rdV, h7, h4, h5, h6]⟩
theorem Rd.same {S : List UInt8} {d i b ro : Int} {y z : Int × Ev} (h : Rd S d i b ro y) (h' : Rd S d i b ro z) : y = z := by
 cases h with
 | no h1 =>
  cases h' with
  | no h2 => cases DecR.same h1 h2; rfl
  | pre h2 _ => cases DecR.same h1 h2
  | all h2 _ _ => cases DecR.same h1 h2
 | pre h1 p1 =>
  cases h' with
  | no h2 => cases DecR.same h1 h2
  | pre h2 _ => cases DecR.same h1 h2; rfl
  | all h2 p2 _ => cases DecR.same h1 h2; exact absurd p2 p1
 | @all l H h1 p1 q1 =>
  cases h' with
  | no h2 => cases DecR.same h1 h2
  | pre h2 p2 => cases DecR.same h1 h2; exact absurd p1 p2
  | @all l' H' h2 p2 q2 =>
   cases DecR.same h1 h2
   by_cases ht : hdrN l = []
   ·have := rdE_hd (H := H) (H' := H') ht
    rw [this.1, this.2]
   ·cases DecR.same (q1 ht) (q2 ht); rfl
end Ce
end Go.Proofs.YtikgonlhdkknkaaGreatDoor
namespace Go.Proofs.YtikgonlhdkknkaaGreatDoor
namespace Ce
open Co (Am Ra Its need holds tell hdN okA DecR decL decE up enc mayOk mayOk_yes RunsC Runs limL)
open Dr (Rs Lm)
theorem Part.openB {D a r B} (h : Part D (a :: r) B) (hx : holds a.kind = true) : ∃ Ps Bs, Fo D Ps Bs ∧ r = Ps.flatten ∧ Ps.length = need a ∧ B = hdN a.kind a.num ++ Bs.flatten := by
 obtain ⟨d, h, hd⟩ := h
 generalize hN : a :: r = N at h
 generalize hM : [B] = M at h
 generalize ho : true = o at h
 cases h with
 | nil => cases hN
 | @leaf x d N M o hx2 h =>
  obtain ⟨rfl, rfl⟩ := List.cons.inj hN
  rw [hx] at hx2; cases hx2
 | @node x dK K MK oK d N M o hx hm hK h =>
  obtain ⟨rfl, rfl⟩ := List.cons.inj hN
  obtain ⟨rfl, rfl⟩ := List.cons.inj hM
  cases h with
  | nil =>
   have ho' : oK = true := by
    cases oK
    ·rw [Bool.false_and, Bool.false_and] at ho; cases ho
    ·rfl
   obtain ⟨Ps, h1, h2⟩ := Fo.of hK (D := D) ho' (by omega)
   exact ⟨Ps, MK, h1, by rw [List.append_nil, h2], by rw [h1.length, hm], rfl⟩
theorem Part.leafB {D a r B} (h : Part D (a :: r) B) (hx : holds a.kind = false) : r = [] ∧ B = tell a := by
 obtain ⟨d, h, hd⟩ := h
 generalize hN : a :: r = N at h
 generalize hM : [B] = M at h
 generalize ho : true = o at h
 cases h with
 | nil => cases hN
 | @leaf x d N M o hx2 h =>
  obtain ⟨rfl, rfl⟩ := List.cons.inj hN
  obtain ⟨rfl, rfl⟩ := List.cons.inj hM
  cases h with
  | nil => exact ⟨rfl, rfl⟩
 | @node x dK K MK oK d N M o hx2 hm hK h =>
  obtain ⟨rfl, rfl⟩ := List.cons.inj hN
  rw [hx] at hx2; cases hx2
def byt (s : List UInt8) : List UInt8 := hdN 2 s.length ++ s
def canon (x : Ev) : List UInt8 := if x.format = 6 then [0xd1, 0x84] ++ byt x.header ++ x.loose ++ byt x.cipher ++ byt x.tag else [0xd0, 0x83] ++ byt x.header ++ x.loose ++ byt (x.cipher ++ x.tag)
theorem tell_bytes {a : Am} (h : a.kind = 2) : tell a = byt a.text := by rw [tell, if_pos (.inl h), byt, h]
structure Apart (S : List UInt8) (l : List Am) (d : Nat) : Prop where
 one : Part d l S
 ok : ∀ a ∈ l, okA Lib.validD a
 len : l.length ≤ 4096
 deep : d ≤ 32
 bytes : S.length ≤ 262144
theorem apart {S : List UInt8} {d i b ro : Int} {l : List Am} (h : DecR S d i b ro (.ok l)) : Apart S l d.toNat := by
 cases hm : mayOk d i b ro with
 | false => have := h.2 hm; cases this
 | true =>
  have hr := h.1 hm
  have hy := mayOk_yes hm
  obtain ⟨dd, hE, hall, hdd⟩ := Co.Runs.tellOne hr
  have h1 : l.length ≤ i.toNat := Co.Runs.ini hr l rfl (Nat.zero_le _)
  have h2 : S.length ≤ b.toNat := Co.Runs.inb hr l rfl (Nat.zero_le _)
  exact ⟨⟨dd, hE, hdd⟩, hall, by omega, by omega, by omega⟩
theorem mostOk : mayOk 32 4096 262144 4096 = true := by decide
theorem Apart.dec {S : List UInt8} {l : List Am} {d : Nat} (h : Apart S l d) : DecR S 32 4096 262144 4096 (.ok l) := by
 obtain ⟨dd, hE, hdd⟩ := h.one
 refine ⟨fun _ => ?_, fun hm => (by rw [mostOk] at hm; cases hm)⟩
 have h1 := h.len
 have h2 := h.deep
 exact Co.Its.readOne (L := limL 32 4096 262144) (by have := h.bytes; exact this) hE h.ok (by show l.length ≤ 4096; omega) (by show dd ≤ 32; omega)
structure Laid (S : List UInt8) (l : List Am) (d : Nat) (Ps : List (List Am)) (Bs : List (List UInt8)) : Prop where
 fo : Fo d Ps Bs
 eq : l = l.getD 0 a0 :: l.getD 1 a0 :: Ps.flatten
 cnt : Ps.length = wantN l
 bytes : S = hdN 6 (l.getD 0 a0).num ++ (hdN 4 (wantN l) ++ Bs.flatten)
 parts : pts (wantN l) (l.drop 2) = Ps
theorem preE_zero {l : List Am} (h : preE l = 0) : (l.getD 0 a0).kind = 6 ∧ ((l.getD 0 a0).num = 16 ∨ (l.getD 0 a0).num = 17) ∧ (l.getD 1 a0).kind = 4 ∧ (l.getD 1 a0).num = wantN l ∧ (l.getD 2 a0).kind = 2 := by
 rw [preE] at h
 by_cases h1 : (l.getD 0 a0).kind ≠ 6
 ·rw [if_pos h1] at h; cases h
 rw [if_neg h1] at h
 by_cases h2 : (l.getD 0 a0).num ≠ 16 ∧ (l.getD 0 a0).num ≠ 17
 ·rw [if_pos h2] at h; cases h
 rw [if_neg h2] at h
 by_cases h3 : (l.getD 1 a0).kind ≠ 4 ∨ (l.getD 1 a0).num ≠ wantN l
 ·rw [if_pos h3] at h; cases h
 rw [if_neg h3] at h
 by_cases h4 : (l.getD 2 a0).kind ≠ 2
 ·rw [if_pos h4] at h; cases h
 exact ⟨by omega, by omega, by omega, by omega, by omega⟩
theorem laid {S : List UInt8} {l : List Am} {d : Nat} (h : Part d l S) (h0 : (l.getD 0 a0).kind = 6) (h1 : (l.getD 1 a0).kind = 4) (h2 : (l.getD 1 a0).num = wantN l) : ∃ Ps Bs, Laid S l d Ps Bs := by
 cases l with
 | nil => exact absurd rfl h.ne
 | cons t l =>
  have ht : t.kind = 6 := h0
  obtain ⟨Ps, Bs, hF, hr, hn, hB⟩ := h.openB (by rw [ht]; rfl)
  have hn1 : Ps.length = 1 := by rw [hn, need, if_pos ht]
  cases hF with
  | nil => cases hn1
  | @cons P B Ps Bs hP hF =>
   obtain rfl : Ps = [] := by cases Ps with
    | nil => rfl
    | cons _ _ => simp at hn1
   cases hF
   rw [List.flatten_cons, List.flatten_nil, List.append_nil] at hr
   subst hr
   cases l with
   | nil => exact absurd rfl hP.ne
   | cons r l =>
    have hk : r.kind = 4 := h1
    have hrn : r.num = wantN (t :: r :: l) := h2
    obtain ⟨Qs, Cs, hQ, hlq, hqn, hqB⟩ := hP.openB (by rw [hk]; rfl)
    have hcnt : Qs.length = wantN (t :: r :: l) := by rw [hqn, need, if_neg (by omega), if_neg (by omega), hrn]
    refine ⟨Qs, Cs, hQ, by rw [← hlq]; rfl, hcnt, ?_, ?_⟩
    ·rw [hB, List.flatten_cons, List.flatten_nil, List.append_nil, hqB, ht, hk, hrn]; rfl
    ·have h9 := (hQ.fits []).2.2
     rw [List.append_nil, hcnt, ← hlq] at h9
     exact h9
theorem Fo.get {D Ps Bs} (h : Fo D Ps Bs) : ∀ (j : Nat), j < Ps.length → Part D (Ps.getD j []) (Bs.getD j []) := by
 induction h with
 | nil => intro j hj; simp at hj
 | @cons P B Ps Bs hP h ih =>
  intro j hj
  cases j with
  | zero => exact hP
  | succ j => exact ih j (by rw [lco] at hj; omega)
theorem head_cons {P : List Am} (h : P ≠ []) : P = P.headD a0 :: P.tail := by cases P with
 | nil => exact absurd rfl h
 | cons _ _ => rfl
theorem Part.bytes {D P B} (h : Part D P B) (hk : (P.headD a0).kind = 2) : P = [P.headD a0] ∧ B = byt (P.headD a0).text := by
 have h1 := head_cons h.ne
 rw [h1] at h
 have h2 := h.leafB (by rw [hk]; rfl)
 rw [h2.1] at h1
 exact ⟨h1, by rw [h2.2, tell_bytes hk]⟩
theorem okA_sub {l : List Am} {Ps : List (List Am)} {j : Nat} (h : ∀ a ∈ l, okA Lib.validD a) {x y : Am} (hl : l = x :: y :: Ps.flatten) : ∀ a ∈ Ps.getD j [], okA Lib.validD a := by
 intro a ha
 refine h a ?_
 rw [hl]
 refine List.mem_cons_of_mem _ (List.mem_cons_of_mem _ (List.mem_flatten.2 ⟨Ps.getD j [], ?_, ha⟩))
 rw [List.getD] at ha ⊢
 cases hq : Ps[j]? with
 | none => rw [hq] at ha; cases ha
 | some P => exact List.mem_of_getElem? hq
theorem flatten_mem_le {l : List (List UInt8)} (j : Nat) : (l.getD j []).length ≤ l.flatten.length := by
 induction l generalizing j with
 | nil => simp
 | cons a l ih =>
  rw [List.flatten_cons, lap]
  cases j with
  | zero => exact Nat.le_add_right _ _
  | succ j => exact Nat.le_trans (ih j) (Nat.le_add_left _ _)
theorem flatten_memA_le {l : List (List Am)} (j : Nat) : (l.getD j []).length ≤ l.flatten.length := by
 induction l generalizing j with
 | nil => simp
 | cons a l ih =>
  rw [List.flatten_cons, lap]
  cases j with
  | zero => exact Nat.le_add_right _ _
  | succ j => exact Nat.le_trans (ih j) (Nat.le_add_left _ _)
theorem Laid.part {S : List UInt8} {l : List Am} {d : Nat} {Ps Bs} (h : Laid S l d Ps Bs) (ha : Apart S l d) (j : Nat) (hj : j < wantN l) : Apart (Bs.getD j []) (partN l j) d := by
 have h0 : partN l j = Ps.getD j [] := by rw [partN, h.parts]
 rw [h0]
 refine ⟨h.fo.get j (by rw [h.cnt]; exact hj), okA_sub ha.ok h.eq, ?_, ha.deep, ?_⟩
 ·have h1 := ha.len
  have h2 := flatten_memA_le (l := Ps) j
  have h3 : l.length = Ps.flatten.length + 2 := (congrArg List.length h.eq).trans (by simp)
  omega
 ·have h1 := ha.bytes
  have h2 := flatten_mem_le (l := Bs) j
  rw [h.bytes, lap, lap] at h1
  omega
theorem Apart.enc {S : List UInt8} {l : List Am} {d : Nat} (h : Apart S l d) : Co.enc Lib.validD (l.map up) = (S, 0) := (Co.read_ok h.dec).1
theorem getD_two {Ps : List (List Am)} (h : Ps.length = 3) : Ps = [Ps.getD 0 [], Ps.getD 1 [], Ps.getD 2 []] := by
 match Ps, h with
 | [a, b, c], _ => rfl
theorem getD_two4 {Ps : List (List Am)} (h : Ps.length = 4) : Ps = [Ps.getD 0 [], Ps.getD 1 [], Ps.getD 2 [], Ps.getD 3 []] := by
 match Ps, h with
 | [a, b, c, d], _ => rfl
theorem getB_two {Ps : List (List UInt8)} (h : Ps.length = 3) : Ps = [Ps.getD 0 [], Ps.getD 1 [], Ps.getD 2 []] := by
 match Ps, h with
 | [a, b, c], _ => rfl
theorem getB_two4 {Ps : List (List UInt8)} (h : Ps.length = 4) : Ps = [Ps.getD 0 [], Ps.getD 1 [], Ps.getD 2 [], Ps.getD 3 []] := by
 match Ps, h with
 | [a, b, c, d], _ => rfl
theorem posE_zero {l : List Am} (h : posE l = 0) : (headN l 1).kind = 5 ∧ (headN l 2).kind = 2 ∧ (headN l (wantN l - 1)).kind = 2 := by
 rw [posE] at h
 by_cases h1 : (headN l 1).kind ≠ 5
 ·rw [if_pos h1] at h; cases h
 rw [if_neg h1] at h
 by_cases h2 : (headN l 2).kind = 7 ∧ (headN l 2).num = 22
 ·rw [if_pos h2] at h; cases h
 rw [if_neg h2] at h
 by_cases h3 : (headN l 2).kind ≠ 2 ∨ (headN l (wantN l - 1)).kind ≠ 2
 ·rw [if_pos h3] at h; cases h
 exact ⟨by omega, by omega, by omega⟩
theorem rdE_zero {l : List Am} {H : Rs (List Am)} (h : rdE l H = 0) : itE l H = 0 ∧ labE (prs (prot (hdrN l) H)) (prs (partN l 1)) = 0 ∧ (algN l H).1 = 0 ∧ (nameP (psN l H)).1 = 0 ∧ (lenN l H).1 = 0 := by
 rw [rdE] at h
 by_cases h1 : itE l H = 0
 case neg => rw [if_pos h1] at h; exact absurd h h1
 rw [if_neg (by simp [h1])] at h
 by_cases h2 : labE (prs (prot (hdrN l) H)) (prs (partN l 1)) = 0
 case neg => rw [if_pos h2] at h; exact absurd h h2
 rw [if_neg (by simp [h2])] at h
 by_cases h3 : (algN l H).1 = 0
 case neg => rw [if_pos h3] at h; exact absurd h h3
 rw [if_neg (by simp [h3])] at h
 by_cases h4 : (nameP (psN l H)).1 = 0
 case neg => rw [if_pos h4] at h; exact absurd h h4
 rw [if_neg (by simp [h4])] at h
 exact ⟨h1, h2, h3, h4, h⟩
theorem itE_zero {l : List Am} {H : Rs (List Am)} (h : itE l H = 0) : preE l = 0 ∧ hdE (hdrN l) H = 0 ∧ posE l = 0 := by
 rw [itE] at h
 by_cases h1 : preE l = 0
 case neg => rw [if_pos h1] at h; exact absurd h h1
 rw [if_neg (by simp [h1])] at h
 by_cases h2 : hdE (hdrN l) H = 0
 case neg => rw [if_pos h2] at h; exact absurd h h2
 rw [if_neg (by simp [h2])] at h
 exact ⟨h1, h2, h⟩
theorem lenP_zero {F alg : Int} {ps : List (Am × Am)} {cip tag : List UInt8} (h : (lenP F alg ps cip tag).1 = 0) (ht : F ≠ 6 → tag = []) :
  (F = 6 → (lenP F alg ps cip tag).2.2.1 = cip ∧ (lenP F alg ps cip tag).2.2.2 = tag) ∧ (F ≠ 6 → (lenP F alg ps cip tag).2.2.1 ++ (lenP F alg ps cip tag).2.2.2 = cip) ∧ (lenP F alg ps cip tag).2.2.1.length ≤ 70000 ∧ (((lenP F alg ps cip tag).2.2.2).length : Int) ≤ max (tagOf alg) 0 := by
 rw [lenP] at h ⊢
 by_cases hF : F = 6
 ·rw [if_pos hF] at h ⊢
  by_cases h1 : (tag.length : Int) ≠ tagOf alg
  ·rw [if_pos h1] at h; cases h
  rw [if_neg h1] at h ⊢
  by_cases h2 : 70000 < cip.length
  ·rw [if_pos h2] at h; cases h
  rw [if_neg h2]
  exact ⟨fun _ => ⟨rfl, rfl⟩, fun h => absurd hF h, by simpa using h2, by show (tag.length : Int) ≤ _; omega⟩
 ·rw [if_neg hF] at h ⊢
  cases hf : find 5 ps with
  | none => rw [hf] at h; cases h
  | some v =>
   rw [hf] at h
   simp only at h ⊢
   by_cases h1 : v.kind ≠ 2 ∨ (v.text.length : Int) ≠ ivOf alg ∨ (cip.length : Int) < tagOf alg
   ·rw [if_pos h1] at h; cases h
   rw [if_neg h1] at h ⊢
   by_cases h2 : 70000 < cip.length - (tagOf alg).toNat ∨ ivOf alg = 13 ∧ 65536 ≤ cip.length - (tagOf alg).toNat
   ·rw [if_pos h2] at h; cases h
   rw [if_neg h2]
   refine ⟨fun h => absurd h hF, fun _ => List.take_append_drop _ _, ?_, ?_⟩
   ·show (cip.take _).length ≤ _
    rw [List.length_take]; omega
   ·show ((cip.drop _).length : Int) ≤ _
    rw [List.length_drop]; omega
theorem canon_of {S : List UInt8} {d i b ro : Int} {x : Ev} (h : Rd S d i b ro (0, x)) : ∃ l H, DecR S d i b ro (.ok l) ∧ preE l = 0 ∧ Hd (hdrN l) d i b ro H ∧ rdE l H = 0 ∧ x = rdV l H ∧ S = canon x ∧ ∃ Bs, Laid S l d.toNat (pts (wantN l) (l.drop 2)) Bs ∧ x.loose = Bs.getD 1 [] ∧ wantN l = (if x.format = 6 then 4 else 3) ∧ l = (if x.format = 6 then ⟨6, 17, []⟩ :: ⟨4, 4, []⟩ :: ⟨2, 0, x.header⟩ :: (partN l 1 ++ [⟨2, 0, x.cipher⟩, ⟨2, 0, x.tag⟩]) else ⟨6, 16, []⟩ :: ⟨4, 3, []⟩ :: ⟨2, 0, x.header⟩ :: (partN l 1 ++ [⟨2, 0, x.cipher ++ x.tag⟩])) := by
 generalize hy : ((0 : Int), x) = y at h
 cases h with
 | no h1 =>
  rename_i e p f
  obtain ⟨h2, h3⟩ := Prod.mk.inj hy
  have h5 : decE (Rs.no e p f) ≠ 0 := by
   cases hm : mayOk d i b ro with
   | false => cases h1.2 hm; decide
   | true => exact Co.Runs.ne (h1.1 hm) e p f rfl
  exact absurd h2.symm h5
 | pre h1 h2 =>
  obtain ⟨h3, _⟩ := Prod.mk.inj hy
  exact absurd h3.symm h2
 | @all l H h1 h2 h3 =>
  obtain ⟨h4, h5⟩ := Prod.mk.inj hy
  have h4' := h4.symm
  have hz := rdE_zero h4'
  have hi := itE_zero hz.1
  have hp := preE_zero hi.1
  have hq := posE_zero hi.2.2
  have ha := apart h1
  obtain ⟨Ps, Bs, hL⟩ := laid ha.one hp.1 hp.2.2.1 hp.2.2.2.1
  have hx : x = ⟨fmtN l, (algN l H).2, [⟨1, 0, 0, (nameP (psN l H)).2, [], [], 0, [], []⟩], hdrN l, looseN l, [], (lenN l H).2.1, (lenN l H).2.2.1, (lenN l H).2.2.2⟩ := by rw [h5, rdV, if_neg (by rw [h4']; decide)]
  have hPs := hL.parts
  have hpN : ∀ j, partN l j = Ps.getD j [] := fun j => by rw [partN, hPs]
  have h1w : 3 ≤ wantN l := by rw [wantN]; split <;> omega
  have hp0 := hL.part ha 0 (by omega)
  have hp1 := hL.part ha 1 (by omega)
  have hp2 := hL.part ha 2 (by omega)
  have hl2 : l.getD 2 a0 = (partN l 0).headD a0 := by
   have hne := hp0.one.ne
   have h9 := head_cons hne
   have h8 := hL.eq
   have h7 : Ps.flatten = Ps.getD 0 [] ++ (Ps.tail).flatten := by
    cases Ps with
    | nil => exact absurd hL.cnt (by simp; omega)
    | cons P Ps => rfl
   rw [h7, ← hpN 0, h9] at h8
   exact (congrArg (fun x => x.getD 2 a0) h8).trans rfl
  have hb0 := hp0.one.bytes (by rw [← hl2]; exact hp.2.2.2.2)
  have hb2 := hp2.one.bytes hq.2.1
  have hlo : looseN l = Bs.getD 1 [] := by rw [looseN, hp1.enc]
  have hn0 : ∀ a ∈ l, a.kind = 2 → a = ⟨2, 0, a.text⟩ := fun a hm hk => by
   have h9 := (ha.ok a hm).2.2
   rcases h9 with ⟨h, -⟩ | ⟨-, h⟩ | ⟨h, -⟩ | ⟨h, -⟩
   ·omega
   ·cases a; simp only at hk h; subst hk h; rfl
   ·omega
   ·omega
  have hn6 : ∀ a ∈ l, a.kind = 6 ∨ a.kind = 4 → a.text = [] := fun a hm hk => by
   have h9 := (ha.ok a hm).2.2
   rcases h9 with ⟨-, h⟩ | ⟨h, -⟩ | ⟨h, -⟩ | ⟨h, -⟩
   ·exact h
   all_goals omega
  have hin : ∀ y, y ∈ l.getD 0 a0 :: l.getD 1 a0 :: Ps.flatten → y ∈ l := fun y hy => by rw [hL.eq]; exact hy
  have hm0 : l.getD 0 a0 ∈ l := hin _ (List.mem_cons_self ..)
  have hm1 : l.getD 1 a0 ∈ l := hin _ (List.mem_cons_of_mem _ (List.mem_cons_self ..))
  have hmP : ∀ j, j < wantN l → (partN l j).headD a0 ∈ l := fun j hj => by
   have h9 := (hL.part ha j hj).one.ne
   have h8 := head_cons h9
   refine hin _ (List.mem_cons_of_mem _ (List.mem_cons_of_mem _ (List.mem_flatten.2 ⟨partN l j, ?_, by rw [h8]; exact List.mem_cons_self ..⟩)))
   rw [hpN j, List.getD, List.getElem?_eq_getElem (by rw [hL.cnt]; exact hj)]
   exact List.getElem_mem _
  have e0 : (partN l 0).headD a0 = ⟨2, 0, hdrN l⟩ := by
   rw [hn0 _ (hmP 0 (by omega)) (by rw [← hl2]; exact hp.2.2.2.2), ← hl2]; rfl
  have e2 : headN l 2 = ⟨2, 0, (headN l 2).text⟩ := hn0 _ (hmP 2 (by omega)) hq.2.1
  have eP0 : Ps.getD 0 [] = [⟨2, 0, hdrN l⟩] := by rw [← hpN, hb0.1, e0]
  have eP2 : Ps.getD 2 [] = [⟨2, 0, (headN l 2).text⟩] := by
   rw [← hpN, hb2.1, show (partN l 2).headD a0 = headN l 2 from rfl, e2]
  have eB0 : Bs.getD 0 [] = byt (hdrN l) := by rw [hb0.2, e0]
  have eB2 : Bs.getD 2 [] = byt (headN l 2).text := hb2.2
  have hFo := hL.fo.length
  have hlen := lenP_zero (F := fmtN l) (alg := (algN l H).2) (ps := psN l H) (cip := (headN l 2).text) (tag := tagN l) hz.2.2.2.2 (fun hf => by rw [tagN, if_neg hf])
  refine ⟨l, H, h1, hi.1, h3, h4', h5, ?_, Bs, by rw [hPs]; exact hL, by rw [hx]; exact hlo, ?_, ?_⟩
  all_goals (rcases hp.2.1 with hn | hn)
  ·have hw : wantN l = 3 := by rw [wantN, if_pos hn]
   have hf : fmtN l = 5 := by rw [fmtN, if_pos hn]
   have h9 := hlen.2.1 (by omega)
   rw [hL.bytes, hn, hw, getB_two (Ps := Bs) (by rw [← hFo, hL.cnt, hw]), eB0, eB2, hx, canon, if_neg (by show ¬ fmtN l = 6; omega), ← hlo]
   show _ = [0xd0, 0x83] ++ byt (hdrN l) ++ looseN l ++ byt ((lenN l H).2.2.1 ++ (lenN l H).2.2.2)
   rw [show (lenN l H).2.2.1 ++ (lenN l H).2.2.2 = (headN l 2).text from h9]
   simp [hdN, Co.bytesN, Co.infN, Co.widN]
  ·have hw : wantN l = 4 := by rw [wantN, if_neg (by omega)]
   have hf : fmtN l = 6 := by rw [fmtN, if_neg (by omega)]
   have h9 := hlen.1 hf
   have hp3 := hL.part ha 3 (by omega)
   have h8 : (headN l 3).kind = 2 := by have := hq.2.2; rwa [hw] at this
   have hb3 := hp3.one.bytes h8
   have eB3 : Bs.getD 3 [] = byt (headN l 3).text := hb3.2
   rw [hL.bytes, hn, hw, getB_two4 (Ps := Bs) (by rw [← hFo, hL.cnt, hw]), eB0, eB2, eB3, hx, canon, if_pos (by show fmtN l = 6; exact hf), ← hlo]
   show _ = [0xd1, 0x84] ++ byt (hdrN l) ++ looseN l ++ byt (lenN l H).2.2.1 ++ byt (lenN l H).2.2.2
   rw [show (lenN l H).2.2.1 = (headN l 2).text from h9.1, show (lenN l H).2.2.2 = tagN l from h9.2, tagN, if_pos hf]
   simp [hdN, Co.bytesN, Co.infN, Co.widN]
  ·have hf : fmtN l = 5 := by rw [fmtN, if_pos hn]
   have hw : wantN l = 3 := by rw [wantN, if_pos hn]
   rw [hx, hw]; show _ = if fmtN l = 6 then 4 else 3; rw [hf]; rfl
  ·have hf : fmtN l = 6 := by rw [fmtN, if_neg (by omega)]
   have hw : wantN l = 4 := by rw [wantN, if_neg (by omega)]
   rw [hx, hw]; show _ = if fmtN l = 6 then 4 else 3; rw [hf]; rfl
  ·have hw : wantN l = 3 := by rw [wantN, if_pos hn]
   have hf : fmtN l = 5 := by rw [fmtN, if_pos hn]
   have h9 := hlen.2.1 (by omega)
   have h10 := hL.eq
   rw [getD_two (Ps := Ps) (by rw [hL.cnt, hw]), eP0, eP2] at h10
   have h11 : x.format = 5 := by rw [hx]; exact hf
   rw [if_neg (by omega)]
   have h12 : l.getD 0 a0 = ⟨6, 16, []⟩ := by
    have := hn6 _ hm0 (.inl hp.1)
    cases hq0 : l.getD 0 a0; rw [hq0] at this hn hp; simp only at this hn hp; rw [this, hn, hp.1]
   have h13 : l.getD 1 a0 = ⟨4, 3, []⟩ := by
    have := hn6 _ hm1 (.inr hp.2.2.1)
    have h14 := hp.2.2.2.1
    rw [hw] at h14
    cases hq0 : l.getD 1 a0; rw [hq0] at this h14 hp; simp only at this h14 hp; rw [this, h14, hp.2.2.1]
   rw [h12, h13, ← hpN 1] at h10
   have h14 : x.cipher ++ x.tag = (headN l 2).text := by rw [hx]; exact h9
   have h15 : x.header = hdrN l := by rw [hx]
   rw [h14, h15]
   refine h10.trans ?_
   simp
  ·have hw : wantN l = 4 := by rw [wantN, if_neg (by omega)]
   have hf : fmtN l = 6 := by rw [fmtN, if_neg (by omega)]
   have h9 := hlen.1 hf
   have hp3 := hL.part ha 3 (by omega)
   have h8 : (headN l 3).kind = 2 := by have := hq.2.2; rwa [hw] at this
   have hb3 := hp3.one.bytes h8
   have e3 : headN l 3 = ⟨2, 0, (headN l 3).text⟩ := hn0 _ (hmP 3 (by omega)) h8
   have eP3 : Ps.getD 3 [] = [⟨2, 0, (headN l 3).text⟩] := by
    rw [← hpN, hb3.1, show (partN l 3).headD a0 = headN l 3 from rfl, e3]
   have h10 := hL.eq
   rw [getD_two4 (Ps := Ps) (by rw [hL.cnt, hw]), eP0, eP2, eP3] at h10
   have h11 : x.format = 6 := by rw [hx]; exact hf
   rw [if_pos h11]
   have h12 : l.getD 0 a0 = ⟨6, 17, []⟩ := by
    have := hn6 _ hm0 (.inl hp.1)
    cases hq0 : l.getD 0 a0; rw [hq0] at this hn hp; simp only at this hn hp; rw [this, hn, hp.1]
   have h13 : l.getD 1 a0 = ⟨4, 4, []⟩ := by
    have := hn6 _ hm1 (.inr hp.2.2.1)
    have h14 := hp.2.2.2.1
    rw [hw] at h14
    cases hq0 : l.getD 1 a0; rw [hq0] at this h14 hp; simp only at this h14 hp; rw [this, h14, hp.2.2.1]
   rw [h12, h13, ← hpN 1] at h10
   have h14 : x.cipher = (headN l 2).text := by rw [hx]; exact h9.1
   have h16 : x.tag = (headN l 3).text := by rw [hx]; show (lenN l H).2.2.2 = _; rw [show (lenN l H).2.2.2 = tagN l from h9.2, tagN, if_pos hf]
   have h15 : x.header = hdrN l := by rw [hx]
   rw [h14, h15, h16]
   refine h10.trans ?_
   simp
end Ce
end Go.Proofs.YtikgonlhdkknkaaGreatDoor
