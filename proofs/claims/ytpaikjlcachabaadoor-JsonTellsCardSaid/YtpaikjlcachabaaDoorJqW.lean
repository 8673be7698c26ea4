/- Joined by merge.py: JqM JqN JqO JqP JqR. -/
import Derived.Test.YtpaikjlcachabaaDoorJqV
import Derived.Test.YtpaikjlcachabaaDoorJqY
import Derived.Test.YtpaikjlcachabaaDoorJeA
namespace Go.Proofs.YtpaikjlcachabaaDoor
open Go.RowKit
set_option linter.unusedVariables false
set_option linter.unusedSimpArgs false
namespace Jq
open Js Je
/-- what an object at a place holds, value by value -/
def kidsAt (l : List Vl) : Nat → Nat → List Vl
  | _, 0 => []
  | nx, k + 1 => l.getD nx v0 :: kidsAt l (bhc l [] 0 nx (l.drop nx)).1.toNat k
theorem TwS.kids {l HK r : List Vl} {at0 : Nat} : ∀ (k j nx : Nat), HK.length - j = k → TwS l HK r at0 j nx → kidsAt l nx k = HK.drop j
  | 0, j, nx, hk, _ => by rw [List.drop_eq_nil_of_le (by omega)]; rfl
  | k + 1, j, nx, hk, h => by
    have hj : j < HK.length := by omega
    obtain ⟨nx2, h1, h2, -, h3, -⟩ := h.step hj
    rw [kidsAt, h1, h2, show ((nx2 : Nat) : Int).toNat = nx2 from rfl, TwS.kids k (j + 1) nx2 (by omega) h3, List.drop_eq_getElem_cons hj, List.getD, List.getElem?_eq_getElem hj]
    rfl
def okO (l : List Vl) (i : Nat) : Prop := (nmE 0 (kidsAt l (i + 1) (l.getD i v0).kids.toNat)).Nodup
/-- what is to be known of an object at a place -/
def ObjAt (l : List Vl) (i : Nat) : Prop := ∃ v K r HK MK dK qK, l.drop i = v :: (K ++ r) ∧ Fo K HK MK dK qK ∧ v.kids = (HK.length : Int) ∧ (okO l i ↔ (nmE 0 HK).Nodup)
theorem objAt_mk {l : List Vl} {i : Nat} {v : Vl} {K r HK : List Vl} {MK : List (List UInt8)} {dK : Nat} {qK : Bool} (hd : l.drop i = v :: (K ++ r)) (hF : Fo K HK MK dK qK) (hk : v.kids = (HK.length : Int)) : okO l i ↔ (nmE 0 HK).Nodup := by
  obtain ⟨hd1, hx, hi⟩ := drop_next hd
  rw [okO, show l.getD i v0 = v from hx, hk, show ((HK.length : Nat) : Int).toNat = HK.length from rfl]
  rw [(TwS.zero hd1 hF).kids HK.length 0 (i + 1) rfl, List.drop_zero]
theorem Fo.objs {l : List Vl} {N H M d q} (h : Fo N H M d q) : ∀ (i0 : Nat) (r : List Vl), l.drop i0 = N ++ r →
    (∀ i, i0 ≤ i → i < i0 + N.length → (l.getD i v0).kind = 6 → ObjAt l i) ∧ (q = true ↔ ∀ i, i0 ≤ i → i < i0 + N.length → (l.getD i v0).kind = 6 → okO l i) := by
  induction h with
  | nil =>
    intro i0 r hd
    refine ⟨fun i h1 h2 => ?_, ⟨fun _ i h1 h2 => ?_, fun _ => rfl⟩⟩
    · simp at h2; omega
    · simp at h2; omega
  | @leaf v N H M d q hk0 hk4 hkd h ih =>
    intro i0 r hd
    obtain ⟨hd1, hx, hi⟩ := drop_next hd
    obtain ⟨h1, h2⟩ := ih (i0 + 1) r hd1
    have hnk : ¬ (l.getD i0 v0).kind = 6 := by rw [show l.getD i0 v0 = v from hx]; omega
    have hcase : ∀ i, i0 ≤ i → i < i0 + (v :: N).length → (l.getD i v0).kind = 6 → i0 + 1 ≤ i ∧ i < i0 + 1 + N.length := by
      intro i g1 g2 g3
      rw [List.length_cons] at g2
      have : i ≠ i0 := fun e => hnk (e ▸ g3)
      omega
    refine ⟨fun i g1 g2 g3 => ?_, ?_⟩
    · obtain ⟨g4, g5⟩ := hcase i g1 g2 g3
      exact h1 i g4 g5 g3
    · rw [h2]
      refine ⟨fun g i g1 g2 g3 => ?_, fun g i g1 g2 g3 => g i (by omega) (by rw [List.length_cons]; omega) g3⟩
      obtain ⟨g4, g5⟩ := hcase i g1 g2 g3
      exact g i g4 g5 g3
  | @node v K HK MK dK qK N H M d q hk ht hkd ho hK h ihK ih =>
    intro i0 r hd
    obtain ⟨hd1', hx, hi⟩ := drop_next hd
    have hd1 : l.drop (i0 + 1) = K ++ (N ++ r) := by rw [← List.append_assoc]; exact hd1'
    have hd0 : l.drop i0 = v :: (K ++ (N ++ r)) := by rw [← List.append_assoc]; exact hd
    have hd4 := drop_more K hd1
    obtain ⟨a1, a2⟩ := ihK (i0 + 1) (N ++ r) hd1
    obtain ⟨b1, b2⟩ := ih (i0 + 1 + K.length) r hd4
    have hob := objAt_mk hd0 hK hkd
    have hlen : (v :: (K ++ N)).length = K.length + N.length + 1 := by simp
    have hv : (l.getD i0 v0) = v := hx
    refine ⟨fun i g1 g2 g3 => ?_, ?_⟩
    · rw [hlen] at g2
      rcases (by omega : i = i0 ∨ (i0 + 1 ≤ i ∧ i < i0 + 1 + K.length) ∨ (i0 + 1 + K.length ≤ i ∧ i < i0 + 1 + K.length + N.length)) with rfl | ⟨g4, g5⟩ | ⟨g4, g5⟩
      · exact ⟨v, K, N ++ r, HK, MK, dK, qK, hd0, hK, hkd, hob⟩
      · exact a1 i g4 g5 g3
      · exact b1 i g4 g5 g3
    · rw [Bool.and_eq_true, Bool.and_eq_true, a2, b2, Bool.or_eq_true, decide_eq_true_iff, decide_eq_true_iff, ← hob, hlen]
      constructor
      · rintro ⟨⟨g1, g2⟩, g3⟩ i g4 g5 g6
        rcases (by omega : i = i0 ∨ (i0 + 1 ≤ i ∧ i < i0 + 1 + K.length) ∨ (i0 + 1 + K.length ≤ i ∧ i < i0 + 1 + K.length + N.length)) with rfl | ⟨g7, g8⟩ | ⟨g7, g8⟩
        · rcases g2 with g2 | g2
          · exact absurd (hv ▸ g6) g2
          · exact g2
        · exact g1 i g7 g8 g6
        · exact g3 i g7 g8 g6
      · intro g
        refine ⟨⟨fun i g1 g2 g3 => g i (by omega) (by omega) g3, ?_⟩, fun i g1 g2 g3 => g i (by omega) (by omega) g3⟩
        by_cases h6 : v.kind = 6
        · exact .inr (g i0 (by omega) (by omega) (by rw [hv]; exact h6))
        · exact .inl h6
/-- how long the texts are -/
def sumT (l : List Vl) : Nat := (l.map fun v => v.text.length).sum
def treeR (B : List UInt8) (d : Nat) (q : Bool) (s : Nat) : List UInt8 × Int := if q = false then ([], 9) else if 32 < d ∨ 262144 < s ∨ 262144 < B.length then ([], 10) else (B, 0)
/-- what the document's Encode comes to -/
inductive EncR (l : List Vl) : List UInt8 × Int → Prop
  | long : 4096 < l.length → EncR l ([], 10)
  | wrong {x : Vl} : l.length ≤ 4096 → x ∈ l → rightV Lib.validD x = false → EncR l ([], 9)
  | notree : l.length ≤ 4096 → (∀ x ∈ l, rightV Lib.validD x = true) → ¬ ((bhc l [] 0 0 l).1 = (l.length : Int) ∧ l ≠ []) → EncR l ([], 9)
  | tree {v : Vl} {B : List UInt8} {d : Nat} {q : Bool} : l.length ≤ 4096 → (∀ x ∈ l, rightV Lib.validD x = true) → Fo l [v] [B] d q → EncR l (treeR B d q (sumT l))
theorem EncR.any (l : List Vl) : ∃ R, EncR l R := by
  by_cases h1 : l.length ≤ 4096
  · by_cases h2 : ∀ x ∈ l, rightV Lib.validD x = true
    · by_cases h3 : (bhc l [] 0 0 l).1 = (l.length : Int) ∧ l ≠ []
      · obtain ⟨v, B, d, q, h4, -⟩ := bh_tree h2 h3.1 h3.2
        exact ⟨_, .tree h1 h2 h4⟩
      · exact ⟨_, .notree h1 h2 h3⟩
    · obtain ⟨x, hx⟩ := Classical.not_forall.1 h2
      obtain ⟨hx1, hx2⟩ := Classical.not_imp.1 hx
      exact ⟨_, .wrong h1 hx1 (Bool.eq_false_iff.2 hx2)⟩
  · exact ⟨_, .long (by omega)⟩
end Jq
end Go.Proofs.YtpaikjlcachabaaDoor
namespace Go.Proofs.YtpaikjlcachabaaDoor
open Go.RowKit
set_option linter.unusedVariables false
set_option linter.unusedSimpArgs false
namespace Jq
open Js Je
theorem EncR.wrong_inv {l : List Vl} {R : List UInt8 × Int} (h : EncR l R) (h1 : l.length ≤ 4096) {x : Vl} (hx : x ∈ l) (hr : rightV Lib.validD x = false) : R = ([], 9) := by
  cases h with
  | long h => omega
  | wrong _ _ _ => rfl
  | notree _ _ _ => rfl
  | tree _ h _ => exact absurd (h x hx) (by rw [hr]; decide)
theorem Fo.whole {l : List Vl} {v : Vl} {B d q} (h : Fo l [v] [B] d q) : bhc l [] 0 0 l = ((l.length : Int), d) ∧ l ≠ [] := by
  have h1 := h.bhOne (l := l) 0 [] (by simp)
  rw [List.append_nil, Nat.zero_add] at h1
  obtain ⟨N', hN⟩ := h.first
  exact ⟨h1, by rw [hN]; exact List.cons_ne_nil _ _⟩
theorem EncR.notree_inv {l : List Vl} {R : List UInt8 × Int} (h : EncR l R) (h1 : l.length ≤ 4096) (hr : ∀ x ∈ l, rightV Lib.validD x = true) (hn : ¬ ((bhc l [] 0 0 l).1 = (l.length : Int) ∧ l ≠ [])) : R = ([], 9) := by
  cases h with
  | long h => omega
  | wrong _ _ _ => rfl
  | notree _ _ _ => rfl
  | tree _ _ h => exact absurd ⟨by rw [h.whole.1], h.whole.2⟩ hn
theorem EncR.tree_inv {l : List Vl} {R : List UInt8 × Int} (h : EncR l R) (h1 : l.length ≤ 4096) (hr : ∀ x ∈ l, rightV Lib.validD x = true) (hn : (bhc l [] 0 0 l).1 = (l.length : Int) ∧ l ≠ []) : ∃ v B d q, Fo l [v] [B] d q ∧ (bhc l [] 0 0 l).2 = d ∧ R = treeR B d q (sumT l) := by
  cases h with
  | long h => omega
  | wrong _ hx h => exact absurd (hr _ hx) (by rw [h]; decide)
  | notree _ _ h => exact absurd hn h
  | tree _ _ h => exact ⟨_, _, _, _, h, by rw [h.whole.1], rfl⟩
theorem sum_step {l : List Vl} {i : Nat} (hi : i < l.length) : sumT (l.take (i + 1)) = sumT (l.take i) + (l.getD i v0).text.length := by
  rw [List.take_succ_eq_append_getElem hi, sumT, List.map_append, List.sum_append, List.getD, List.getElem?_eq_getElem hi]
  simp [sumT]
theorem sum_le (l : List Vl) (i : Nat) : sumT (l.take i) ≤ sumT l := by
  have h : sumT l = sumT (l.take i) + sumT (l.drop i) := by rw [sumT, sumT, sumT, ← List.sum_append, ← List.map_append, List.take_append_drop]
  omega
theorem sum_mem {l : List Vl} {x : Vl} (h : x ∈ l) : x.text.length ≤ sumT l := by
  induction l with
  | nil => cases h
  | cons y l ih =>
    rw [sumT, List.map_cons, List.sum_cons]
    rcases List.mem_cons.1 h with rfl | h
    · omega
    · have := ih h
      rw [sumT] at this
      omega
set_option maxRecDepth 100000 in
set_option maxHeartbeats 12800000 in
theorem rencode_any (l : List Vl) (a : Option Addr) (cap0 : Nat) (w : World) (hl : l ≠ [] → ∃ g o, a = some ⟨g, o, none⟩ ∧ At w g o (vcells l) ∧ g < w.heap.size) (hfit : ∀ x ∈ l, Fit x) (R : List UInt8 × Int) (hR : EncR l R) :
    Calls Tryd.prog 15 #[.slice a l.length cap0] w (fun e w' => e = .returned (.tuple #[.string ⟨R.1.toArray⟩, .int .i64 R.2]) ∧ Below w.heap.size w w') := by
  obtain ⟨n, hn0⟩ : ∃ n, l.length = n := ⟨_, rfl⟩
  have HR := Lib.hid hR
  have HL := Lib.hid hl
  have HFI := Lib.hid hfit
  rw [hn0]
  by_cases h4 : 4096 < n
  · have e1 : (4096 : Int) < (n : Int) := by omega
    have HF : Hid (R = ([], 10)) := by
      show R = _
      cases HR.out with
      | long _ => rfl
      | wrong h _ _ => omega
      | notree h _ _ => omega
      | tree h _ _ => omega
    clear hR hl hfit h4
    go_enter Tryd.func15, Tryd.ntmps15
    go_wp2_with fail
    go_ret2
    exact ⟨by rw [HF.out]; rfl, Below.refl _ _⟩
  · have e1 : ¬ (4096 : Int) < (n : Int) := by omega
    have HN : Hid (l.length = n ∧ n ≤ 4096) := ⟨hn0, by omega⟩
    clear hR hl hfit h4 hn0
    go_enter Tryd.func15, Tryd.ntmps15
    go_wp2_with fail
    go_loopw [4] (fun vi wr => ∃ i : Nat, vi = .int .i64 (i : Int) ∧ Hid (i ≤ n) ∧ Hid (∀ p, p < i → rightV Lib.validD (l.getD p v0) = true) ∧ Hid (Below w.heap.size w wr)) (fun vi _ => n - (intOf vi).toNat)
    case atStart => exact ⟨0, rfl, Nat.zero_le _, (fun p hp => absurd hp (Nat.not_lt_zero _)), Below.refl _ _⟩
    case round =>
      obtain ⟨i, rfl, HI, HG, HB⟩ := hrel
      by_cases hin : i < n
      · have hil : i < l.length := by rw [HN.out.1]; exact hin
        obtain ⟨g, o, rfl, hAg, hgl⟩ := HL.out (fun h => by rw [h] at hil; simp at hil)
        have hX := value_at (hAg.below HB.out hgl) i hil
        obtain ⟨x, hx⟩ : ∃ x, l.getD i v0 = x := ⟨_, rfl⟩
        have hmem : x ∈ l := by rw [← hx, List.getD, List.getElem?_eq_getElem hil]; exact List.getElem_mem hil
        rw [hx] at hX
        obtain ⟨X, hX0⟩ : ∃ X : ByteArray, ⟨x.text.toArray⟩ = X := ⟨_, rfl⟩
        have hXL : X.toList = x.text := by rw [← hX0, tl_mk]
        have hvv : vv x = [.int .i64 x.kind, .int .i64 x.kids, .string X] := by rw [vv, hX0]
        rw [hvv] at hX
        have n0 := hX.cell 0 _ rfl
        have n1 := hX.cell 1 _ rfl
        have n2 := hX.cell 2 _ rfl
        rw [Nat.add_zero] at n0
        have e2 : (i : Int) < (n : Int) := by omega
        have e3 : (i : Int) ≤ 4096 := by have := HN.out.2; omega
        have RI := Lib.hid (fun w => jrright_any x.kind x.kids X (by rw [← tl_size, hXL]; exact (HFI.out x hmem).1) w)
        have HRX : Hid ((⟨x.kind, x.kids, X.toList⟩ : Vl) = x) := by show (⟨x.kind, x.kids, X.toList⟩ : Vl) = x; rw [hXL]
        obtain ⟨b, hb⟩ : ∃ b, rightV Lib.validD x = b := ⟨_, rfl⟩
        rw [HRX.out, hb] at RI
        have HBX : Hid (rightV Lib.validD x = b ∧ l.getD i v0 = x ∧ x ∈ l ∧ i < n) := ⟨hb, hx, hmem, hin⟩
        clear hX hvv hX0 hXL hmem hx hb hil hin hAg hgl
        go_wp2_with fail
        refine (RI.out _).mono ?_
        rintro e w2 ⟨rfl, hb2⟩
        have HB2 := Lib.hid (HB.out.trans (hb2.mono HB.out.size))
        clear hb2
        cases b with
        | false =>
          have HF : Hid (R = ([], 9)) := HR.out.wrong_inv (by rw [HN.out.1]; exact HN.out.2) HBX.out.2.2.1 HBX.out.1
          go_wp2_with fail
          go_ret2
          exact ⟨by rw [HF.out]; rfl, HB2.out⟩
        | true =>
          go_wp2_with fail
          go_roundw
          case rel => exact ⟨i + 1, by go_num, HBX.out.2.2.2, (by
              show ∀ p, _
              intro p hp
              rcases (by omega : p < i ∨ p = i) with h9 | rfl
              · exact HG.out p h9
              · rw [HBX.out.2.1]; exact HBX.out.1), HB2⟩
          case measure => have := HBX.out.2.2.2; simp [intOf]; omega
      · obtain rfl : i = n := by have := HI.out; omega
        have hall : ∀ x ∈ l, rightV Lib.validD x = true := by
          intro x hx
          obtain ⟨p, hp, hpe⟩ := List.getElem_of_mem hx
          have h9 := HG.out p (by rw [← HN.out.1]; exact hp)
          rw [List.getD, List.getElem?_eq_getElem hp, hpe] at h9
          exact h9
        have HALL := Lib.hid hall
        have e2 : ¬ (i : Int) < (i : Int) := by omega
        have BH := Lib.hid (behind_any l a cap0 0 _ (fun h => by obtain ⟨g, o, h1, h2, h3⟩ := HL.out h; exact ⟨g, o, h1, h2.below HB.out h3, Nat.lt_of_lt_of_le h3 HB.out.size⟩) (fun x hx => ⟨(right_kids (hall x hx)).1, (HFI.out x hx).2⟩) (by rw [HN.out.1]; exact HN.out.2) (Nat.zero_le _))
        rw [HN.out.1, List.drop_zero] at BH
        obtain ⟨T, hT⟩ : ∃ T, bhc l [] 0 0 l = T := ⟨_, rfl⟩
        rw [hT] at BH
        have HT := Lib.hid hT
        clear hT hin hall
        go_wp2_with fail
        refine BH.out.mono ?_
        rintro e w2 ⟨rfl, hb2⟩
        have HB2 := Lib.hid (HB.out.trans (hb2.mono HB.out.size))
        clear hb2
        by_cases hnt : T.1 = (i : Int) ∧ l ≠ []
        · obtain ⟨v, B, d, q, hF, hTd, hRT⟩ := HR.out.tree_inv (by rw [HN.out.1]; exact HN.out.2) HALL.out (by rw [HT.out, HN.out.1]; exact hnt)
          rw [HT.out] at hTd
          have e5 : (T.1 == (i : Int)) = true := by rw [hnt.1]; exact beq_self_eq_true _
          have hipos : 0 < i := by rw [← HN.out.1]; exact List.length_pos_iff.2 hnt.2
          have e6 : ((i : Int) == 0) = false := by rw [beq_eq_false_iff_ne]; omega
          obtain ⟨g, o, rfl, hAg, hgl⟩ := HL.out hnt.2
          have HAG := Lib.hid hAg
          have HGL := Lib.hid hgl
          have HF := Lib.hid hF
          have HRT := Lib.hid hRT
          have HOB := Lib.hid (hF.objs (l := l) 0 [] (by simp))
          have HIP := Lib.hid hipos
          have KOK : Hid (∀ x ∈ l, 0 ≤ x.kids ∧ x.kids ≤ 9223372036854775807) := fun x hx => ⟨(right_kids (HALL.out x hx)).1, (HFI.out x hx).2⟩
          obtain ⟨T1, T2⟩ := T
          dsimp only at hTd hnt e5
          obtain ⟨hnt1, hnt2⟩ := hnt
          subst hTd
          subst hnt1
          clear hF hRT hAg hgl hipos hnt2 BH HB
          go_wp2_with fail
          go_loopw [7] (fun vj wr => ∃ j : Nat, vj = .int .i64 (j : Int) ∧ Hid (j ≤ i) ∧ Hid (∀ p, p < j → (l.getD p v0).kind = 6 → okO l p) ∧ Hid (Below w.heap.size w wr)) (fun vj _ => i - (intOf vj).toNat)
          case atStart => exact ⟨0, rfl, Nat.zero_le _, (fun p hp => absurd hp (Nat.not_lt_zero _)), HB2⟩
          case round =>
            rename World => wq
            obtain ⟨j, rfl, HJ, HG2, HBq⟩ := hrel
            by_cases hji : j < i
            · have hjl : j < l.length := by rw [HN.out.1]; exact hji
              have f1 : (j : Int) < (i : Int) := by omega
              have f2 : (j : Int) ≤ 4096 := by have := HN.out.2; omega
              have hX := value_at (HAG.out.below HBq.out HGL.out) j hjl
              have c0 := hX.cell 0 _ rfl
              rw [Nat.add_zero] at c0
              obtain ⟨kk, hkk⟩ : ∃ kk, (l.getD j v0).kind = kk := ⟨_, rfl⟩
              rw [hkk] at c0
              have HJI := Lib.hid (And.intro hji (And.intro hkk hjl))
              by_cases h6 : kk = 6
              · subst h6
                obtain ⟨x, K, r, HK, MK, dK, qK, hd, hFo, hkd, hok⟩ := HOB.out.1 j (Nat.zero_le _) (by rw [Nat.zero_add]; exact hjl) hkk
                have TW := Lib.hid (fun (w' : World) (hb : Below w.heap.size w w') => twice_any l (some ⟨g, o, none⟩) cap0 j w' (fun _ => ⟨g, o, rfl, HAG.out.below hb HGL.out, Nat.lt_of_lt_of_le HGL.out hb.size⟩) KOK.out (by rw [HN.out.1]; exact HN.out.2) x HK K r MK dK qK hd hFo hkd)
                rw [HN.out.1] at TW
                have HOK := Lib.hid hok
                clear hX hkk hd hFo hkd hok hji hjl
                obtain ⟨bd, hbd⟩ : ∃ bd, decide (nmE 0 HK).Nodup = bd := ⟨_, rfl⟩
                rw [hbd] at TW
                have HBD := Lib.hid hbd
                clear hbd
                go_wp2_with fail
                refine (TW.out _ HBq.out).mono ?_
                rintro e w3 ⟨rfl, hb3⟩
                have HB3 := Lib.hid (HBq.out.trans (hb3.mono HBq.out.size))
                clear hb3
                cases bd with
                | false =>
                  have HRF : Hid (R = ([], 9)) := by
                    show R = _
                    have hq : q = false := by
                      cases q with
                      | false => rfl
                      | true =>
                        have h9 := (HOB.out.2.1 rfl) j (Nat.zero_le _) (by rw [Nat.zero_add]; exact HJI.out.2.2) HJI.out.2.1
                        exact absurd (HOK.out.1 h9) (of_decide_eq_false HBD.out)
                    rw [HRT.out, treeR, if_pos hq]
                  go_wp2_with fail
                  go_ret2
                  exact ⟨by rw [HRF.out]; rfl, HB3.out⟩
                | true =>
                  go_wp2_with fail
                  go_roundw
                  case rel => exact ⟨j + 1, by go_num, HJI.out.1, (by
                      show ∀ p, _
                      intro p hp
                      rcases (by omega : p < j ∨ p = j) with h9 | rfl
                      · exact HG2.out p h9
                      · intro _; exact HOK.out.2 (of_decide_eq_true HBD.out)), HB3⟩
                  case measure => have := HJI.out.1; simp [intOf]; omega
              · have h6b : (kk == 6) = false := by rw [beq_eq_false_iff_ne]; exact h6
                have H6 := Lib.hid h6
                clear hX hkk hji hjl h6
                go_wp2_with fail
                go_roundw
                case rel => exact ⟨j + 1, by go_num, HJI.out.1, (by
                    show ∀ p, _
                    intro p hp
                    rcases (by omega : p < j ∨ p = j) with h9 | rfl
                    · exact HG2.out p h9
                    · intro h9; exact absurd (HJI.out.2.1.symm.trans h9) H6.out), HBq⟩
                case measure => have := HJI.out.1; simp [intOf]; omega
            · obtain rfl : j = i := by have := HJ.out; omega
              have f1 : ¬ (j : Int) < (j : Int) := by omega
              have HQ : Hid (q = true) := by
                show q = true
                refine HOB.out.2.2 fun p _ h2 h3 => HG2.out p (by rw [← HN.out.1]; omega) h3
              clear hji
              go_wp2_with fail
              go_loopw [8, 9] (fun vt vz wr => ∃ z t : Nat, vz = .int .i64 (z : Int) ∧ vt = .int .i64 (t : Int) ∧ Hid (z ≤ j) ∧ Hid (t = sumT (l.take z)) ∧ Hid (t ≤ 262144 + 262144) ∧ Hid (Below w.heap.size w wr)) (fun _ vz _ => j - (intOf vz).toNat)
              case atStart => exact ⟨0, 0, rfl, rfl, Nat.zero_le _, rfl, Nat.zero_le _, HBq⟩
              case round =>
                rename World => ws
                obtain ⟨z, t, rfl, rfl, HZ, HTS, HTB, HBs⟩ := hrel
                by_cases hgo : z < j ∧ t ≤ 262144
                · have hzl : z < l.length := by rw [HN.out.1]; exact hgo.1
                  have f1 : (z : Int) < (j : Int) := by omega
                  have f2 : (t : Int) ≤ 262144 := by omega
                  have f3 : (z : Int) ≤ 4096 := by have := HN.out.2; omega
                  have hX := value_at (HAG.out.below HBs.out HGL.out) z hzl
                  obtain ⟨X, hX0⟩ : ∃ X : ByteArray, ⟨(l.getD z v0).text.toArray⟩ = X := ⟨_, rfl⟩
                  have c2 : ws.cell? ⟨g, o + z * 3 + 2, none⟩ = some (.string X) := by rw [← hX0]; exact hX.cell 2 _ rfl
                  obtain ⟨y, hy⟩ : ∃ y, X.size = y := ⟨_, rfl⟩
                  have hxl : (l.getD z v0).text.length = y := by rw [← hy, ← hX0, ← tl_size, tl_mk]
                  have hst := sum_step hzl
                  have hmm : l.getD z v0 ∈ l := by rw [List.getD, List.getElem?_eq_getElem hzl]; exact List.getElem_mem hzl
                  have hyi : (X.size : Int) = (y : Int) := by omega
                  by_cases hbig : 262144 < y
                  · have f4 : (262144 : Int) < (y : Int) := by omega
                    have HRF : Hid (R = ([], 10)) := by
                      show R = _
                      have h9 := sum_mem hmm
                      rw [HRT.out, treeR, if_neg (by rw [HQ.out]; decide), if_pos (Or.inr (Or.inl (by omega)))]
                    clear hbig hst hmm hxl hX hgo hzl hy
                    go_wp2_with fail
                    go_ret2
                    exact ⟨by rw [HRF.out]; rfl, HBs.out⟩
                  · have f4 : ¬ (262144 : Int) < (y : Int) := by omega
                    obtain ⟨t2, ht2⟩ : ∃ t2, t + y = t2 := ⟨_, rfl⟩
                    have f5 : (t : Int) + (y : Int) = (t2 : Int) := by omega
                    have f6 : IntKind.i64.wrap (t2 : Int) = (t2 : Int) := w64b t2 (by omega)
                    have HT3 : Hid (t2 = sumT (l.take (z + 1)) ∧ t2 ≤ 262144 + 262144 ∧ z < j) := ⟨by rw [hst, ← HTS.out, hxl, ht2], by omega, hgo.1⟩
                    clear hbig hst hmm hxl hX hgo hzl hy ht2
                    go_wp2_with fail
                    go_roundw
                    case rel => exact ⟨z + 1, t2, by go_num, rfl, HT3.out.2.2, HT3.out.1, HT3.out.2.1, HBs⟩
                    case measure => have := HT3.out.2.2; simp [intOf]; omega
                · have hend : Hid ((262144 < t ∧ 262144 < sumT l) ∨ (¬ 262144 < t ∧ t = sumT l)) := by
                    show _ ∨ _
                    by_cases ht : 262144 < t
                    · left
                      have h9 := sum_le l z
                      have h8 := HTS.out
                      exact ⟨ht, by omega⟩
                    · right
                      have hz : z = l.length := by
                        have := HZ.out
                        rw [HN.out.1]
                        omega
                      exact ⟨ht, by rw [HTS.out, hz, List.take_length]⟩
                  rcases hend.out with ⟨ht, hs⟩ | ⟨ht, hs⟩
                  · have HRF : Hid (R = ([], 10)) := by
                      show R = _
                      rw [HRT.out, treeR, if_neg (by rw [HQ.out]; decide), if_pos (Or.inr (Or.inl hs))]
                    have f2 : ¬ (t : Int) ≤ 262144 := by omega
                    have f4 : (262144 : Int) < (t : Int) := by omega
                    by_cases hz : z < j
                    · have f1 : (z : Int) < (j : Int) := by omega
                      clear hgo hz ht hs hend
                      by_cases h32 : 32 < T2
                      · have f5 : (32 : Int) < (T2 : Int) := by omega
                        clear h32
                        go_wp2_with fail
                        go_ret2
                        exact ⟨by rw [HRF.out]; rfl, HBs.out⟩
                      · have f5 : ¬ (32 : Int) < (T2 : Int) := by omega
                        clear h32
                        go_wp2_with fail
                        go_ret2
                        exact ⟨by rw [HRF.out]; rfl, HBs.out⟩
                    · have f1 : ¬ (z : Int) < (j : Int) := by omega
                      clear hgo hz ht hs hend
                      by_cases h32 : 32 < T2
                      · have f5 : (32 : Int) < (T2 : Int) := by omega
                        clear h32
                        go_wp2_with fail
                        go_ret2
                        exact ⟨by rw [HRF.out]; rfl, HBs.out⟩
                      · have f5 : ¬ (32 : Int) < (T2 : Int) := by omega
                        clear h32
                        go_wp2_with fail
                        go_ret2
                        exact ⟨by rw [HRF.out]; rfl, HBs.out⟩
                  · have hz : ¬ z < j := fun h => hgo ⟨h, by omega⟩
                    have f1 : ¬ (z : Int) < (j : Int) := by omega
                    have f4 : ¬ (262144 : Int) < (t : Int) := by omega
                    have hsl : sumT l ≤ 262144 := by omega
                    by_cases h32 : 32 < T2
                    · have HRF : Hid (R = ([], 10)) := by
                        show R = _
                        rw [HRT.out, treeR, if_neg (by rw [HQ.out]; decide), if_pos (Or.inl h32)]
                      have f5 : (32 : Int) < (T2 : Int) := by omega
                      clear hgo hz ht hs hend h32 hsl
                      go_wp2_with fail
                      go_ret2
                      exact ⟨by rw [HRF.out]; rfl, HBs.out⟩
                    · have f5 : ¬ (32 : Int) < (T2 : Int) := by omega
                      have HRE : Hid (R = if 262144 < B.length then ([], 10) else (B, 0)) := by
                        show R = _
                        rw [HRT.out, treeR, if_neg (by rw [HQ.out]; decide)]
                        by_cases hB : 262144 < B.length
                        · rw [if_pos (Or.inr (Or.inr hB)), if_pos hB]
                        · rw [if_neg (by omega), if_neg hB]
                      have TO := Lib.hid (fun (w' : World) (g' : Nat) (hT : Tj w' g' (.slice (some ⟨g, o, none⟩) l.length cap0) 0 0 false) (hL : At w' g o (vcells l)) (hg : g < g') => told_all l (by rw [HN.out.1]; exact HN.out.2) (fun x hx => Nat.le_trans (sum_mem hx) hsl) l.length l (Nat.le_refl _) v B T2 q 0 [] w' g' g o l.length cap0 0 0 HF.out (by simp) rfl hT hL hg (by rw [HN.out.1]; have := HN.out.2; omega))
                      rw [HN.out.1] at TO
                      have HALs : Hid (At ws g o (vcells l) ∧ g < ws.heap.size) := ⟨HAG.out.below HBs.out HGL.out, Nat.lt_of_lt_of_le HGL.out HBs.out.size⟩
                      clear hgo hz ht hs hend h32 hsl
                      go_wp2_with fail
                      refine (TO.out _ _ ?_ ?_ ?_).mono ?_
                      · exact ⟨At.ofAlloc ws #[.slice (some ⟨g, o, none⟩) j cap0, .int .i64 0, .int .i64 0, .bool false, .bool false] _, by simp⟩
                      · exact HALs.out.1.alloc _
                      · exact HALs.out.2
                      · rintro e w6 (⟨u, de, rfl, hu, hul, HT6, HB6⟩ | ⟨u, i6, de, rfl, hbig, hus, HT6, HB6⟩)
                        · have HB7 : Hid (Below w.heap.size w w6) := (HBs.out.alloc HBs.out.size _).trans (HB6.out.low HBs.out.size (by simp))
                          have c4 := HT6.out.at0.cell 4 _ rfl
                          rw [Nat.zero_add] at c4
                          have hbl : B.length = u.size := by rw [← hu, tl_size]
                          have HUE : Hid (u = ⟨B.toArray⟩) := by show u = _; exact tl_inj (by rw [hu, tl_mk])
                          by_cases hz2 : 262144 < u.size
                          · have f8 : (262144 : Int) < (u.size : Int) := by omega
                            have HRF : Hid (R = ([], 10)) := by show R = _; rw [HRE.out, if_pos (by omega)]
                            clear hbl hz2 hu hul HBs
                            go_wp2_with fail
                            go_ret2
                            exact ⟨by rw [HRF.out]; rfl, HB7.out⟩
                          · have f8 : ¬ (262144 : Int) < (u.size : Int) := by omega
                            have HRF : Hid (R = (B, 0)) := by show R = _; rw [HRE.out, if_neg (by omega)]
                            clear hbl hz2 hu hul HBs
                            go_wp2_with fail
                            go_ret2
                            exact ⟨by rw [HRF.out, HUE.out]; rfl, HB7.out⟩
                        · have HB7 : Hid (Below w.heap.size w w6) := (HBs.out.alloc HBs.out.size _).trans (HB6.out.low HBs.out.size (by simp))
                          have c4 := HT6.out.at0.cell 4 _ rfl
                          rw [Nat.zero_add] at c4
                          have HRF : Hid (R = ([], 10)) := by show R = _; rw [HRE.out, if_pos hbig]
                          clear hbig hus HBs
                          go_wp2_with fail
                          go_ret2
                          exact ⟨by rw [HRF.out]; rfl, HB7.out⟩
        · have HF : Hid (R = ([], 9)) := HR.out.notree_inv (by rw [HN.out.1]; exact HN.out.2) HALL.out (by rw [HT.out, HN.out.1]; exact hnt)
          by_cases hT1 : T.1 = (i : Int)
          · have hi0 : i = 0 := by
              have h9 : l = [] := Classical.byContradiction fun h => hnt ⟨hT1, h⟩
              have h8 := HN.out.1
              rw [h9] at h8
              exact h8.symm
            have e5 : (T.1 == (i : Int)) = true := by rw [hT1]; exact beq_self_eq_true _
            have e6 : ((i : Int) == 0) = true := by rw [hi0]; rfl
            have e7 : T.1 = 0 := by rw [hT1, hi0]; rfl
            clear hnt hT1
            go_wp2_with fail
            go_ret2
            exact ⟨by rw [HF.out]; rfl, HB2.out⟩
          · have e5 : (T.1 == (i : Int)) = false := by rw [beq_eq_false_iff_ne]; exact hT1
            clear hnt
            go_wp2_with fail
            go_ret2
            exact ⟨by rw [HF.out]; rfl, HB2.out⟩
end Jq
end Go.Proofs.YtpaikjlcachabaaDoor
namespace Go.Proofs.YtpaikjlcachabaaDoor
set_option linter.unusedVariables false
set_option linter.unusedSimpArgs false
namespace Jq
open Js Je
theorem contB_consQ {l : List Vl} {f : Bf} {S : List Bf} {m i : Nat} {r : List Vl} : contB l (f :: S) m i r = bhc l (f :: S) m i r := by rw [contB, if_neg (by simp)]
theorem popB_idemQ (W : List Bf) : popB (popB W) = popB W := popB_idem W
/-- the program's holders beside Behind's frames -/
inductive Mt (l : List Vl) : List Hf → List Bf → Prop
  | base {b : Hf} : b.left = 0 → Mt l [b] []
  | cons {h : Hf} {f : Bf} {G S} : h.left = f.left → (h.names.isSome = objB l f) → f.left ≤ f.all → (objB l f = true → f.all % 2 = 0) → Mt l G S → Mt l (h :: G) (f :: S)
theorem Mt.ends {l : List Vl} {st : List Hf} {S : List Bf} (h : Mt l st S) : ∀ o, (popB S = [] → (endS o st).2 = []) ∧ (popB S ≠ [] → Mt l (endS o st).2 (popB S)) := by
  induction h with
  | base hb =>
    intro o
    refine ⟨fun _ => ?_, fun h => absurd rfl h⟩
    rw [endS, if_pos hb]
    rfl
  | @cons h f G S h1 h2 h3 h4 hm ih =>
    intro o
    by_cases h0 : f.left = 0
    · rw [popB_dead h0, endS, if_pos (by rw [h1]; exact h0)]
      exact ih _
    · rw [popB_live h0, endS, if_neg (by rw [h1]; exact h0)]
      exact ⟨fun h => absurd h (by simp), fun _ => .cons h1 h2 h3 h4 hm⟩
theorem run_end {t : Te} {r : List Vl} (h : (endS t.out t.st).2 = []) (hr : r ≠ []) : run Lib.validD t r = none := by
  cases r with
  | nil => exact absurd rfl hr
  | cons v r =>
    have hv : valueS t v = none := by
      rw [valueS]
      generalize endS t.out t.st = E at h ⊢
      obtain ⟨o, G⟩ := E
      dsimp only at h
      subst h
      rfl
    rw [run, hv]
    split <;> rfl
theorem tell_st {l : List Vl} {o : List UInt8} {st : List Hf} {dp : Nat} {v : Vl} {S : List Bf} {i : Nat} (hm : Mt l st S) (hr : rightV Lib.validD v = true) (hi : l.getD i ⟨0, 0, []⟩ = v) : Mt l (tellV o st dp v).st (pushB v i S) := by
  have hs := right_shape hr
  rw [tellV, pushB]
  rcases hs with ⟨h1, h2, h3⟩ | ⟨h1, h2, h3, h4⟩
  · rw [if_neg (show ¬ (v.kind = 5 ∨ v.kind = 6) by omega)]
    rcases (by omega : v.kind = 0 ∨ v.kind = 1 ∨ v.kind = 2 ∨ v.kind = 3 ∨ v.kind = 4) with h | h | h | h | h <;> simp [h] <;> exact hm
  · rw [if_pos h1]
    rcases h1 with h | h
    · simp [h]
      refine .cons rfl ?_ (Nat.le_refl _) ?_ hm
      · show false = objB l ⟨v.kids.toNat, v.kids.toNat, i⟩
        rw [objB, hi, h]; rfl
      · intro h9
        rw [objB, hi, h] at h9
        exact absurd h9 (by decide)
    · simp [h]
      refine .cons rfl ?_ (Nat.le_refl _) ?_ hm
      · show true = objB l ⟨v.kids.toNat, v.kids.toNat, i⟩
        rw [objB, hi, h]; rfl
      · intro h9
        have := h4 h
        show v.kids.toNat % 2 = 0
        omega
theorem place_st {h h' : Hf} {v : Vl} {p : List UInt8} (hp : placed h v = some (h', p)) : h'.left = h.left - 1 ∧ h'.names.isSome = h.names.isSome ∧ (isName h = true → v.kind = 4) := by
  rw [placed] at hp
  split at hp
  · rename_i hn
    split at hp
    · cases hp
    · rename_i hk
      cases hp
      refine ⟨rfl, ?_, fun _ => ?_⟩
      · rw [isName, Bool.and_eq_true] at hn
        rw [hn.1]; rfl
      · exact Classical.byContradiction fun h9 => hk (.inr h9)
  · rename_i hn
    split at hp
    · cases hp
      exact ⟨rfl, rfl, fun h9 => absurd h9 hn⟩
    · cases hp
      exact ⟨rfl, rfl, fun h9 => absurd h9 hn⟩
/-- what is told to the end is one tree: Behind comes to the end -/
theorem run_bh {l : List Vl} : ∀ (r : List Vl) (t t' : Te) (S : List Bf) (m i : Nat), l.drop i = r → (∀ v ∈ r, rightV Lib.validD v = true) → popB S = S → (S = [] → (endS t.out t.st).2 = []) → (S ≠ [] → Mt l (endS t.out t.st).2 S) →
    run Lib.validD t r = some t' → (endS t'.out t'.st).2 = [] → (contB l S m i r).1 = ((i + r.length : Nat) : Int) := by
  intro r
  induction r with
  | nil =>
    intro t t' S m i hd hr hp h1 h2 hrun hend
    rw [run] at hrun
    cases hrun
    have hS : S = [] := by
      refine Classical.byContradiction fun h => ?_
      have h9 := h2 h
      rw [hend] at h9
      cases h9
    subst hS
    rfl
  | cons v r ih =>
    intro t t' S m i hd hr hp h1 h2 hrun hend
    obtain ⟨hd1, hx, hi⟩ := drop_next hd
    have hrv := hr v (List.mem_cons_self ..)
    cases S with
    | nil =>
      rw [run_end (h1 rfl) (by simp)] at hrun
      cases hrun
    | cons f S =>
      have hm := h2 (by simp)
      have hf0 : f.left ≠ 0 := popB_head hp
      rw [run, if_pos hrv] at hrun
      cases hv : valueS t v with
      | none => rw [hv] at hrun; cases hrun
      | some t1 =>
        rw [hv] at hrun
        dsimp only at hrun
        rw [valueS] at hv
        generalize endS t.out t.st = E at hm hv
        obtain ⟨o, st⟩ := E
        dsimp only at hm hv
        cases hm with
        | @cons h f G S' e1 e2 e3 e4 hm =>
          dsimp only at hv
          cases hpl : placed h v with
          | none => rw [hpl] at hv; cases hv
          | some x =>
            obtain ⟨h', pre⟩ := x
            rw [hpl] at hv
            dsimp only at hv
            cases hv
            obtain ⟨p1, p2, p3⟩ := place_st hpl
            have hbad : badB l (f :: S) v = false := by
              rw [badB]
              cases ho : objB l f with
              | false => rfl
              | true =>
                by_cases hev : (f.all - f.left) % 2 = 0
                · have hn : isName h = true := by
                    rw [isName, e2, ho, e1]
                    have := e4 ho
                    simp
                    omega
                  rw [p3 hn]
                  simp
                · simp [hev]
            have hk0 : 0 ≤ v.kids := by
              rcases right_shape hrv with ⟨_, _, h9⟩ | ⟨_, _, h9, _⟩
              · omega
              · exact h9
            have hm2 : Mt l (h' :: G) (dec1B (f :: S)) := .cons (by rw [p1, e1]) (by rw [p2, e2]; rfl) (by show f.left - 1 ≤ f.all; omega) (by exact e4) hm
            have hm3 := tell_st (o := if pre = [] then o else put o pre) (dp := t.deep) (i := i) hm2 hrv hx
            have hq := hm3.ends (tellV (if pre = [] then o else put o pre) (h' :: G) t.deep v).out
            rw [contB_consQ, bhc_step hk0 hbad]
            have h9 := ih _ t' (popB (pushB v i (dec1B (f :: S)))) (max m (pushB v i (dec1B (f :: S))).length) (i + 1) hd1 (fun y hy => hr y (List.mem_cons_of_mem _ hy)) (popB_idemQ _) hq.1 hq.2 hrun hend
            rw [h9, List.length_cons]
            congr 1
            omega
end Jq
end Go.Proofs.YtpaikjlcachabaaDoor
namespace Go.Proofs.YtpaikjlcachabaaDoor
set_option linter.unusedVariables false
set_option linter.unusedSimpArgs false
namespace Jq
open Js Je
def base0 : Hf := ⟨1, 0, none, 0⟩
theorem first_step (v : Vl) : valueS te0 v = some (tellV [] [base0] 0 v) := rfl
theorem run_wrong_any {x : Vl} (hr : rightV Lib.validD x = false) : ∀ (l : List Vl) (t : Te), x ∈ l → run Lib.validD t l = none := by
  intro l
  induction l with
  | nil => intro t h; cases h
  | cons v l ih =>
    intro t h
    rw [run]
    rcases List.mem_cons.1 h with rfl | h
    · rw [if_neg (by rw [hr]; decide)]
    · split
      · cases hv : valueS t v with
        | none => rfl
        | some t1 => exact ih t1 h
      · rfl
theorem enc_none {l : List Vl} (h1 : l.length ≤ 4096) (h : ∀ t', run Lib.validD te0 l = some t' → (endS t'.out t'.st).2 ≠ []) : enc Lib.validD l = ([], 9) := by
  rw [enc, if_neg (by omega)]
  cases hr : run Lib.validD te0 l with
  | none => rfl
  | some t' =>
    dsimp only
    rw [if_neg (h t' hr)]
theorem enc_wrong {l : List Vl} (h1 : l.length ≤ 4096) {x : Vl} (hx : x ∈ l) (hr : rightV Lib.validD x = false) : enc Lib.validD l = ([], 9) :=
  enc_none h1 fun t' h => by rw [run_wrong_any hr l te0 hx] at h; cases h
theorem run_first {v : Vl} {r : List Vl} (hr : rightV Lib.validD v = true) : run Lib.validD te0 (v :: r) = run Lib.validD (tellV [] [base0] 0 v) r := by
  rw [run, if_pos hr, first_step]
theorem enc_notree {l : List Vl} (h1 : l.length ≤ 4096) (hr : ∀ x ∈ l, rightV Lib.validD x = true) (hn : ¬ ((bhc l [] 0 0 l).1 = (l.length : Int) ∧ l ≠ [])) : enc Lib.validD l = ([], 9) := by
  refine enc_none h1 fun t' h hend => hn ?_
  cases hl : l with
  | nil =>
    rw [hl] at h
    cases h
    cases hend
  | cons v r =>
    rw [← hl]
    refine ⟨?_, by rw [hl]; simp⟩
    have hrv := hr v (by rw [hl]; exact List.mem_cons_self ..)
    have hd : l.drop 0 = v :: r := by rw [List.drop_zero, hl]
    obtain ⟨hd1, hx, hi⟩ := drop_next hd
    rw [hl, run_first hrv] at h
    have hm := tell_st (l := l) (o := []) (dp := 0) (i := 0) (S := []) (st := [base0]) (.base rfl) hrv hx
    have hq := hm.ends (tellV [] [base0] 0 v).out
    have hk0 : 0 ≤ v.kids := by
      rcases right_shape hrv with ⟨_, _, h9⟩ | ⟨_, _, h9, _⟩
      · omega
      · exact h9
    have h9 := run_bh r _ t' (popB (pushB v 0 [])) (max 0 (pushB v 0 []).length) 1 hd1 (fun y hy => hr y (by rw [hl]; exact List.mem_cons_of_mem _ hy)) (popB_idem _) hq.1 hq.2 h hend
    have h8 : bhc l [] 0 0 l = contB l (popB (pushB v 0 [])) (max 0 (pushB v 0 []).length) 1 r := by
      have h7 := bhc_step (l := l) (S := []) (m := 0) (i := 0) (v := v) (r := r) hk0 rfl
      rw [← hl] at h7
      exact h7
    rw [h8, h9, hl, List.length_cons]
    congr 1
    omega
end Jq
end Go.Proofs.YtpaikjlcachabaaDoor
namespace Go.Proofs.YtpaikjlcachabaaDoor
set_option linter.unusedVariables false
set_option linter.unusedSimpArgs false
namespace Jq
open Js Je
/-- what the program has told, beside what there is to tell -/
def Tr (o w : List UInt8) : Prop := o = w ∨ (262144 < o.length ∧ 262144 < w.length)
theorem Tr.put {o w : List UInt8} (h : Tr o w) (s : List UInt8) : Tr (Je.put o s) (w ++ s) := by
  by_cases hl : o.length ≤ 262144
  · rw [put_le s hl]
    rcases h with rfl | h
    · exact .inl rfl
    · omega
  · rw [put_gt s hl]
    rcases h with rfl | h
    · exact .inr ⟨by omega, by rw [List.length_append]; omega⟩
    · exact .inr ⟨by omega, by rw [List.length_append]; omega⟩
theorem Tr.loop : ∀ (l : List UInt8) {o w : List UInt8}, Tr o w → Tr (qloop o l) (w ++ (l.flatMap qb ++ [34]))
  | [], o, w, h => by rw [qloop]; exact h.put [34]
  | b :: l, o, w, h => by
    rw [qloop]
    by_cases hl : 262144 < o.length
    · rw [if_pos hl]
      rcases h with rfl | h
      · exact .inr ⟨hl, by rw [List.length_append]; omega⟩
      · exact .inr ⟨hl, by rw [List.length_append]; omega⟩
    · rw [if_neg hl]
      rcases h with rfl | h
      · have h1 := Tr.loop l (o := o ++ qb b) (w := o ++ qb b) (.inl rfl)
        rw [List.flatMap_cons, List.append_assoc, ← List.append_assoc o]
        exact h1
      · omega
theorem Tr.quote {o w : List UInt8} (h : Tr o w) (s : List UInt8) : Tr (Je.quote o s) (w ++ Jb.quoted s) := by
  rw [Je.quote, Jb.quoted]
  have h1 := (h.put [34]).loop s
  rw [List.append_assoc] at h1
  exact h1
theorem Tr.opt {o w : List UInt8} (h : Tr o w) (p : List UInt8) : Tr (if p = [] then o else Je.put o p) (w ++ p) := by
  by_cases hp : p = []
  · rw [if_pos hp, hp, List.append_nil]; exact h
  · rw [if_neg hp]; exact h.put p
theorem tell_leaf {o w : List UInt8} (h : Tr o w) {st : List Hf} {dp : Nat} {v : Vl} (h0 : 0 ≤ v.kind) (h4 : v.kind ≤ 4) : Tr (tellV o st dp v).out (w ++ leafT v) ∧ (tellV o st dp v).st = st ∧ (tellV o st dp v).deep = dp := by
  rw [tellV, leafT]
  rcases (by omega : v.kind = 0 ∨ v.kind = 1 ∨ v.kind = 2 ∨ v.kind = 3 ∨ v.kind = 4) with h9 | h9 | h9 | h9 | h9 <;> simp [h9]
  · exact h.put _
  · exact h.put _
  · exact h.put _
  · exact h.put _
  · exact h.quote _
/-- where a holder is -/
structure Pos (h : Hf) (k : Int) (p : Nat) (ns : List (List UInt8)) : Prop where
  sum : h.left + p = h.kids
  ob : k = 6 → h.names = some ns ∧ h.kids % 2 = 0
  ar : k ≠ 6 → h.names = none
def nsx (p : Nat) (ns : List (List UInt8)) (v : Vl) : List (List UInt8) := if p % 2 = 0 then ns ++ [v.text] else ns
theorem nsx_nm (p : Nat) (ns : List (List UInt8)) (v : Vl) (H : List Vl) : ns ++ nmE p (v :: H) = nsx p ns v ++ nmE (p + 1) H := by
  rw [nmE, nsx]
  split
  · rw [List.append_assoc]; rfl
  · rfl
theorem placed_ok {h : Hf} {k : Int} {p : Nat} {ns : List (List UInt8)} {v : Vl} (hp : Pos h k p ns) (h0 : h.left ≠ 0) (hs : k = 6 → p % 2 = 0 → v.kind = 4 ∧ v.text ∉ ns) :
    ∃ h', placed h v = some (h', sepT k p) ∧ Pos h' k (p + 1) (nsx p ns v) ∧ h'.left = h.left - 1 ∧ h'.e = h.e := by
  have hsum := hp.sum
  by_cases hk : k = 6
  · obtain ⟨hn, hev⟩ := hp.ob hk
    by_cases he : p % 2 = 0
    · obtain ⟨h4, hni⟩ := hs hk he
      refine ⟨{ h with left := h.left - 1, names := some (ns ++ [v.text]) }, ?_, ⟨?_, fun _ => ⟨?_, hev⟩, fun h9 => absurd hk h9⟩, rfl, rfl⟩
      · rw [placed, if_pos (by rw [isName, hn]; simp; omega), hn, if_neg (by simp [h4, hni])]
        rw [sepT, if_neg (show ¬ (k = 6 ∧ p % 2 = 1) by omega)]
        by_cases h9 : 0 < p
        · rw [if_pos h9, if_pos (show h.left < h.kids by omega)]; rfl
        · rw [if_neg h9, if_neg (show ¬ h.left < h.kids by omega)]; rfl
      · show h.left - 1 + (p + 1) = h.kids; omega
      · rw [nsx, if_pos he]
    · refine ⟨{ h with left := h.left - 1 }, ?_, ⟨?_, fun _ => ⟨?_, hev⟩, fun h9 => absurd hk h9⟩, rfl, rfl⟩
      · rw [placed, if_neg (by rw [isName, hn]; simp; omega), if_pos (by rw [hn]; rfl), sepT, if_pos ⟨hk, by omega⟩]
      · show h.left - 1 + (p + 1) = h.kids; omega
      · rw [nsx, if_neg he]; exact hn
  · have hn := hp.ar hk
    refine ⟨{ h with left := h.left - 1 }, ?_, ⟨?_, fun h9 => absurd h9 hk, fun _ => hn⟩, rfl, rfl⟩
    · rw [placed, if_neg (by rw [isName, hn]; simp), if_neg (by rw [hn]; simp), sepT, if_neg (show ¬ (k = 6 ∧ p % 2 = 1) from fun h9 => hk h9.1)]
      by_cases h9 : 0 < p
      · rw [if_pos h9, if_pos (show h.left < h.kids by omega)]
      · rw [if_neg h9, if_neg (show ¬ h.left < h.kids by omega)]
    · show h.left - 1 + (p + 1) = h.kids; omega
theorem placed_dup {h : Hf} {p : Nat} {ns : List (List UInt8)} {v : Vl} (hp : Pos h 6 p ns) (he : p % 2 = 0) (hd : v.text ∈ ns) : placed h v = none := by
  obtain ⟨hn, hev⟩ := hp.ob rfl
  have hsum := hp.sum
  rw [placed, if_pos (by rw [isName, hn]; simp; omega), hn, if_pos (by left; exact hd)]
theorem value_at_top {t : Te} {o : List UInt8} {h : Hf} {G : List Hf} (hE : endS t.out t.st = endS o (h :: G)) (h0 : h.left ≠ 0) (v : Vl) : valueS t v = match placed h v with | none => none | some (h', pre) => some (tellV (if pre = [] then o else put o pre) (h' :: G) t.deep v) := by
  rw [valueS, hE, endS, if_neg h0]
  rfl
theorem hl_step {a b c : Nat} (h1 : a + 1 ≤ b) (h2 : c = b - 1) : a ≤ c := by omega
theorem left_eq {a b c e : Nat} (h1 : e = c - a) (h2 : c = b - 1) : e = b - (a + 1) := by omega
theorem deep_node (td g dK d : Nat) : max (max (max td (g + 1)) (if dK = 0 then 0 else (g + 1) + dK)) (if d = 0 then 0 else g + d) = max td (if max (dK + 1) d = 0 then 0 else g + max (dK + 1) d) := by
  rw [if_neg (show ¬ max (dK + 1) d = 0 by omega)]
  by_cases h1 : dK = 0
  · by_cases h2 : d = 0
    · rw [if_pos h1, if_pos h2]; omega
    · rw [if_pos h1, if_neg h2]; omega
  · by_cases h2 : d = 0
    · rw [if_neg h1, if_pos h2]; omega
    · rw [if_neg h1, if_neg h2]; omega
/-- a forest is told -/
theorem Fo.run {N H M d q} (hF : Fo N H M d q) : ∀ (k : Int) (p : Nat) (ns : List (List UInt8)) (t : Te) (o w : List UInt8) (h : Hf) (G : List Hf) (r : List Vl), (∀ x ∈ N, rightV Lib.validD x = true) → endS t.out t.st = endS o (h :: G) → Tr o w → Pos h k p ns → H.length ≤ h.left → (k = 6 → strE p H) → (k = 6 → ns.Nodup) →
    ((q = true ∧ (k = 6 → (ns ++ nmE p H).Nodup)) → ∃ t' o' h', Je.run Lib.validD t (N ++ r) = Je.run Lib.validD t' r ∧ endS t'.out t'.st = endS o' (h' :: G) ∧ Tr o' (w ++ joinT k p M) ∧ h'.left = h.left - H.length ∧ h'.e = h.e ∧ t'.deep = max t.deep (if d = 0 then 0 else G.length + d)) ∧
    (¬ (q = true ∧ (k = 6 → (ns ++ nmE p H).Nodup)) → Je.run Lib.validD t (N ++ r) = Option.none) := by
  induction hF with
  | nil =>
    intro k p ns t o w h G r hr hE hT hP hl hs hn
    refine ⟨fun _ => ⟨t, o, h, rfl, hE, by rw [joinT, List.append_nil]; exact hT, rfl, rfl, by simp⟩, fun hc => absurd ⟨rfl, fun h6 => ?_⟩ hc⟩
    rw [nmE, List.append_nil]; exact hn h6
  | @leaf v N H M d q hk0 hk4 hkd hF ih =>
    intro k p ns t o w h G r hr hE hT hP hl hs hn
    rw [List.length_cons] at hl
    have h0 : h.left ≠ 0 := by omega
    have hrv := hr v (List.mem_cons_self ..)
    rw [nsx_nm, List.cons_append, Je.run, if_pos hrv, value_at_top hE h0]
    by_cases hdup : k = 6 ∧ p % 2 = 0 ∧ v.text ∈ ns
    · obtain ⟨rfl, he, hd⟩ := hdup
      rw [placed_dup hP he hd]
      refine ⟨fun hc => ?_, fun _ => rfl⟩
      have h1 := hc.2 rfl
      rw [nsx, if_pos he] at h1
      have h2 := (List.nodup_append.1 h1).1
      exact absurd rfl ((List.nodup_append.1 h2).2.2 _ hd _ (List.mem_singleton.2 rfl))
    · obtain ⟨h', hpl, hP', hl', he'⟩ := placed_ok (v := v) hP h0 (fun h6 he => ⟨(hs h6).1 he, fun hd => hdup ⟨h6, he, hd⟩⟩)
      rw [hpl]
      dsimp only
      obtain ⟨a1, a2, a3⟩ := tell_leaf (hT.opt (sepT k p)) (st := h' :: G) (dp := t.deep) hk0 hk4
      have hn' : k = 6 → (nsx p ns v).Nodup := fun h6 => by
        rw [nsx]
        split
        · exact nm_nodup (hn h6) (fun hd => hdup ⟨h6, ‹_›, hd⟩)
        · exact hn h6
      have IH := ih k (p + 1) (nsx p ns v) (tellV (if sepT k p = [] then o else put o (sepT k p)) (h' :: G) t.deep v) _ _ h' G r (fun x hx => hr x (List.mem_cons_of_mem _ hx)) (by rw [a2]) a1 hP' (hl_step hl hl') (fun h6 => (hs h6).2) hn'
      refine ⟨fun hc => ?_, fun hc => IH.2 hc⟩
      obtain ⟨t', o', h2, b1, b2, b3, b4, b5, b6⟩ := IH.1 hc
      refine ⟨t', o', h2, b1, b2, ?_, by rw [List.length_cons]; exact left_eq b4 hl', by rw [b5, he'], by rw [b6, a3]⟩
      rw [joinT, ← List.append_assoc, ← List.append_assoc]
      exact b3
  | @node v K HK MK dK qK N H M d q hk ht hkd ho hK hF ihK ih =>
    intro k p ns t o w h G r hr hE hT hP hl hs hn
    rw [List.length_cons] at hl
    have h0 : h.left ≠ 0 := by omega
    have hrv := hr v (List.mem_cons_self ..)
    rw [nsx_nm, List.cons_append, List.append_assoc, Je.run, if_pos hrv, value_at_top hE h0]
    by_cases hdup : k = 6 ∧ p % 2 = 0 ∧ v.text ∈ ns
    · obtain ⟨rfl, he, hd⟩ := hdup
      rw [placed_dup hP he hd]
      refine ⟨fun hc => ?_, fun _ => rfl⟩
      have h1 := hc.2 rfl
      rw [nsx, if_pos he] at h1
      have h2 := (List.nodup_append.1 h1).1
      exact absurd rfl ((List.nodup_append.1 h2).2.2 _ hd _ (List.mem_singleton.2 rfl))
    · obtain ⟨h', hpl, hP', hl', he'⟩ := placed_ok (v := v) hP h0 (fun h6 he => ⟨(hs h6).1 he, fun hd => hdup ⟨h6, he, hd⟩⟩)
      rw [hpl]
      dsimp only
      have hn' : k = 6 → (nsx p ns v).Nodup := fun h6 => by
        rw [nsx]
        split
        · exact nm_nodup (hn h6) (fun hd => hdup ⟨h6, ‹_›, hd⟩)
        · exact hn h6
      obtain ⟨o1, ho1⟩ : ∃ x, (if sepT k p = [] then o else put o (sepT k p)) = x := ⟨_, rfl⟩
      have hT1 := hT.opt (sepT k p)
      rw [ho1] at hT1 ⊢
      -- what begins
      obtain ⟨h2, e2, c1, c2, c3, c4, c5, c6⟩ : ∃ (h2 : Hf) (e2 : Nat), tellV o1 (h' :: G) t.deep v = ⟨put o1 (openT v.kind), h2 :: h' :: G, max t.deep (G.length + 1)⟩ ∧ Pos h2 v.kind 0 [] ∧ h2.left = HK.length ∧ h2.e = e2 ∧ [UInt8.ofNat e2] = closeT v.kind ∧ (v.kind = 6 → HK.length % 2 = 0) := by
        have hkn : v.kids.toNat = HK.length := by omega
        rcases hk with h9 | h9
        · refine ⟨⟨v.kids.toNat, v.kids.toNat, Option.none, 93⟩, 93, ?_, ⟨rfl, fun h6 => ?_, fun _ => rfl⟩, hkn, rfl, ?_, fun h6 => (ho h6).2⟩
          · rw [tellV, openT]; simp [h9]
          · rw [h9] at h6; exact absurd h6 (by decide)
          · rw [closeT, if_pos h9]; rfl
        · refine ⟨⟨v.kids.toNat, v.kids.toNat, some [], 125⟩, 125, ?_, ⟨rfl, fun h6 => ⟨rfl, ?_⟩, fun h6 => absurd h9 h6⟩, hkn, rfl, ?_, fun h6 => (ho h6).2⟩
          · rw [tellV, openT]; simp [h9]
          · show v.kids.toNat % 2 = 0
            rw [hkn]; exact (ho h9).2
          · rw [closeT, if_neg (by rw [h9]; decide)]; rfl
      rw [c1]
      have IHK := ihK v.kind 0 [] ⟨put o1 (openT v.kind), h2 :: h' :: G, max t.deep (G.length + 1)⟩ (put o1 (openT v.kind)) _ h2 (h' :: G) (N ++ r) (fun x hx => hr x (List.mem_cons_of_mem _ (List.mem_append_left _ hx))) rfl (hT1.put (openT v.kind)) c2 (Nat.le_of_eq c3.symm) (fun h6 => (ho h6).1) (fun _ => List.nodup_nil)
      rw [List.nil_append] at IHK
      by_cases hcK : qK = true ∧ (v.kind = 6 → (nmE 0 HK).Nodup)
      · obtain ⟨t2, o2, h3, b1, b2, b3, b4, b5, b6⟩ := IHK.1 hcK
        have hz : h3.left = 0 := by rw [b4, c3, Nat.sub_self]
        rw [endS, if_pos hz, if_neg (List.cons_ne_nil _ _), b5, c4, c5] at b2
        rw [b1]
        have hq1 : (qK && (decide (v.kind ≠ 6) || decide ((nmE 0 HK).Nodup))) = true := by
          rw [Bool.and_eq_true, Bool.or_eq_true, decide_eq_true_iff, decide_eq_true_iff]
          refine ⟨hcK.1, ?_⟩
          by_cases h6 : v.kind = 6
          · exact .inr (hcK.2 h6)
          · exact .inl h6
        rw [hq1, Bool.true_and]
        have IH := ih k (p + 1) (nsx p ns v) t2 (put o2 (closeT v.kind)) _ h' G r (fun x hx => hr x (List.mem_cons_of_mem _ (List.mem_append_right _ hx))) b2 (b3.put (closeT v.kind)) hP' (hl_step hl hl') (fun h6 => (hs h6).2) hn'
        refine ⟨fun hc => ?_, fun hc => IH.2 hc⟩
        obtain ⟨t', o', h4, d1, d2, d3, d4, d5, d6⟩ := IH.1 hc
        refine ⟨t', o', h4, d1, d2, ?_, by rw [List.length_cons]; exact left_eq d4 hl', by rw [d5, he'], ?_⟩
        · rw [joinT, nodeT]
          simp only [List.append_assoc] at d3 ⊢
          exact d3
        · rw [d6, b6, List.length_cons]
          exact deep_node _ _ _ _
      · have hq1 : (qK && (decide (v.kind ≠ 6) || decide ((nmE 0 HK).Nodup))) = false := by
          refine Bool.eq_false_iff.2 fun h9 => hcK ?_
          rw [Bool.and_eq_true, Bool.or_eq_true, decide_eq_true_iff, decide_eq_true_iff] at h9
          exact ⟨h9.1, fun h6 => by rcases h9.2 with h8 | h8; exact absurd h6 h8; exact h8⟩
        rw [hq1, Bool.false_and]
        exact ⟨fun hc => absurd hc.1 (by decide), fun _ => IHK.2 hcK⟩
theorem len_qbJ : ∀ t : List UInt8, t.length ≤ (t.flatMap qb).length
  | [] => Nat.le_refl _
  | b :: t => by
    have h1 : 1 ≤ (qb b).length := by
      rw [qb]
      repeat' split
      all_goals simp
    have h2 := len_qbJ t
    rw [List.flatMap_cons, List.length_append, List.length_cons]
    omega
theorem join_sum (k : Int) : ∀ (M : List (List UInt8)) (i : Nat), (M.map List.length).sum ≤ (joinT k i M).length
  | [], i => Nat.le_refl _
  | m :: M, i => by
    have h := join_sum k M (i + 1)
    rw [List.map_cons, List.sum_cons, joinT, List.length_append, List.length_append]
    omega
theorem Fo.texts {N H M d q} (hF : Fo N H M d q) : (∀ x ∈ N, rightV Lib.validD x = true) → sumT N ≤ (M.map List.length).sum := by
  induction hF with
  | nil => intro _; exact Nat.le_refl _
  | @leaf v N H M d q hk0 hk4 hkd hF ih =>
    intro hr
    have h1 := ih (fun x hx => hr x (List.mem_cons_of_mem _ hx))
    have h2 : v.text.length ≤ (leafT v).length := by
      have h3 := hr v (List.mem_cons_self ..)
      have h4 := len_qbJ v.text
      rw [rightV] at h3
      rw [leafT]
      rcases (by omega : v.kind = 0 ∨ v.kind = 1 ∨ v.kind = 2 ∨ v.kind = 3 ∨ v.kind = 4) with h9 | h9 | h9 | h9 | h9 <;> simp [h9] at h3 ⊢
      · rw [h3.1]; simp
      · rw [h3.1]; simp
      · rw [h3.1]; simp
      · rw [Jb.quoted]
        simp only [List.length_cons, List.length_append]
        omega
    rw [sumT, List.map_cons, List.sum_cons, List.map_cons, List.sum_cons]
    rw [sumT] at h1
    omega
  | @node v K HK MK dK qK N H M d q hk ht hkd ho hK hF ihK ih =>
    intro hr
    have h1 := ihK (fun x hx => hr x (List.mem_cons_of_mem _ (List.mem_append_left _ hx)))
    have h2 := ih (fun x hx => hr x (List.mem_cons_of_mem _ (List.mem_append_right _ hx)))
    have h3 := join_sum v.kind MK 0
    have h4 : (joinT v.kind 0 MK).length ≤ (nodeT v.kind MK).length := by rw [nodeT, List.length_append, List.length_append]; omega
    rw [sumT, List.map_cons, List.sum_cons, List.map_append, List.sum_append, List.map_cons, List.sum_cons, ht]
    rw [sumT] at h1 h2
    simp only [List.length_nil]
    omega
theorem enc_tree {l : List Vl} {v : Vl} {B : List UInt8} {d : Nat} {q : Bool} (h1 : l.length ≤ 4096) (hr : ∀ x ∈ l, rightV Lib.validD x = true) (hF : Fo l [v] [B] d q) : enc Lib.validD l = treeR B d q (sumT l) := by
  have h := hF.run 5 0 [] te0 [] [] base [] [] hr rfl (.inl rfl) ⟨rfl, fun h => absurd h (by decide), fun _ => rfl⟩ (Nat.le_refl _) (fun h => absurd h (by decide)) (fun h => absurd h (by decide))
  rw [List.append_nil] at h
  have hs := hF.texts hr
  rw [enc, if_neg (by omega), treeR]
  cases q with
  | false =>
    rw [h.2 (fun hc => absurd hc.1 (by decide)), if_pos rfl]
  | true =>
    obtain ⟨t', o', h', b1, b2, b3, b4, b5, b6⟩ := h.1 ⟨rfl, fun h => absurd h (by decide)⟩
    have hz : h'.left = 0 := b4
    rw [b1, Je.run, if_neg (by decide)]
    dsimp only
    rw [b2, endS, if_pos hz, if_pos rfl, endS]
    dsimp only
    rw [if_pos rfl]
    have hd : t'.deep = d := by
      rw [b6]
      by_cases h0 : d = 0
      · rw [if_pos h0, h0]; rfl
      · rw [if_neg h0]
        show max 0 (0 + d) = d
        omega
    have hB : ([] : List UInt8) ++ joinT 5 0 [B] = B := by
      rw [joinT, joinT, List.append_nil, List.nil_append]
      rfl
    rw [hB] at b3
    rw [hd]
    rw [List.map_cons, List.sum_cons] at hs
    have hs2 : sumT l ≤ B.length := hs
    rcases b3 with rfl | ⟨g1, g2⟩
    · by_cases hc : 32 < d ∨ 262144 < o'.length
      · rw [if_pos hc, if_pos (by omega)]
      · rw [if_neg hc, if_neg (by omega)]
    · rw [if_pos (.inr g1), if_pos (.inr (.inr g2))]
/-- the program's Encode is the document's -/
theorem encR_any (l : List Vl) : EncR l (enc Lib.validD l) := by
  by_cases h1 : l.length ≤ 4096
  · by_cases h2 : ∀ x ∈ l, rightV Lib.validD x = true
    · by_cases h3 : (bhc l [] 0 0 l).1 = (l.length : Int) ∧ l ≠ []
      · obtain ⟨v, B, d, q, h4, -⟩ := bh_tree h2 h3.1 h3.2
        rw [enc_tree h1 h2 h4]
        exact .tree h1 h2 h4
      · rw [enc_notree h1 h2 h3]
        exact .notree h1 h2 h3
    · obtain ⟨x, hx⟩ := Classical.not_forall.1 h2
      obtain ⟨hx1, hx2⟩ := Classical.not_imp.1 hx
      rw [enc_wrong h1 hx1 (Bool.eq_false_iff.2 hx2)]
      exact .wrong h1 hx1 (Bool.eq_false_iff.2 hx2)
  · rw [enc, if_pos (by omega)]
    exact .long (by omega)
end Jq
end Go.Proofs.YtpaikjlcachabaaDoor
