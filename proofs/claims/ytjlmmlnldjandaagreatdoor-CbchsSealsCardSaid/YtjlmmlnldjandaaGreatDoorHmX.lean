/- Joined by merge.py: HmP HmA HmB HmC HmD HmE HmF HmG. -/
import Derived.Test.YtjlmmlnldjandaaGreatDoorShV
import Derived.Deep.CutRange
import Derived.BigQuiet
import Derived.Test.YtjlmmlnldjandaaGreatDoorRowX
import Derived.Test.YtjlmmlnldjandaaGreatDoorShf
namespace Go.Proofs.YtjlmmlnldjandaaGreatDoor
open Go.RowKit
set_option linter.unusedVariables false
set_option linter.unusedSimpArgs false
namespace Hm
/-- the key's bytes -/
def keyB (kind : Int) (K : List UInt8) : List UInt8 := if 2 * Sh.bits kind < K.length then Sh.shL kind K else K
/-- the key's block -/
def blk (kind : Int) (K : List UInt8) : List UInt8 := keyB kind K ++ List.replicate (2 * Sh.bits kind - (keyB kind K).length) 0
def xk (kind : Int) (K : List UInt8) (u : UInt8) : List UInt8 := (blk kind K).map fun c => c ^^^ u
/-- the digest -/
def mac (kind : Int) (K T : List UInt8) : List UInt8 := Sh.shL kind (xk kind K 92 ++ Sh.shL kind (xk kind K 54 ++ T))
theorem keyB_le (kind : Int) (hk : Sh.known kind = true) (K : List UInt8) : (keyB kind K).length ≤ 2 * Sh.bits kind := by
  rw [keyB]
  split
  · rw [sh_len kind hk]
    have := (size_known kind hk).2.2.2.1
    omega
  · omega
theorem blk_length (kind : Int) (hk : Sh.known kind = true) (K : List UInt8) : (blk kind K).length = 2 * Sh.bits kind := by
  have := keyB_le kind hk K
  rw [blk, List.length_append, List.length_replicate]
  omega
theorem xk_length (kind : Int) (hk : Sh.known kind = true) (K : List UInt8) (u : UInt8) : (xk kind K u).length = 2 * Sh.bits kind := by
  rw [xk, List.length_map, blk_length kind hk]
/-- a key as it counts counts as itself -/
theorem keyB_same (kind : Int) (hk : Sh.known kind = true) (K : List UInt8) : keyB kind (keyB kind K) = keyB kind K := by
  have := keyB_le kind hk K
  rw [keyB, if_neg (by omega)]
theorem mac_keyB (kind : Int) (hk : Sh.known kind = true) (K T : List UInt8) : mac kind (keyB kind K) T = mac kind K T := by
  rw [mac, mac, xk, xk, xk, xk, blk, blk, keyB_same kind hk]
/-- a nought behind a short key changes nothing -/
theorem mac_nought (kind : Int) (K T : List UInt8) (h : K.length < 2 * Sh.bits kind) : mac kind (K ++ [0]) T = mac kind K T := by
  have h1 : keyB kind K = K := by rw [keyB, if_neg (by omega)]
  have h2 : keyB kind (K ++ [0]) = K ++ [0] := by rw [keyB, if_neg (by rw [List.length_append]; show ¬ _ < K.length + 1; omega)]
  have h3 : blk kind (K ++ [0]) = blk kind K := by
    rw [blk, blk, h1, h2, List.append_assoc, List.length_append]
    show K ++ ([0] ++ List.replicate (2 * Sh.bits kind - (K.length + 1)) 0) = _
    rw [show 2 * Sh.bits kind - K.length = (2 * Sh.bits kind - (K.length + 1)) + 1 by omega, List.replicate_succ]
    rfl
  rw [mac, mac, xk, xk, xk, xk, h3]
end Hm
/-- a Mac of a key, to which the text T was written; all its blocks lie from B on -/
structure Mc (w : World) (B m : Nat) (kind : Int) (K T : List UInt8) : Prop where
  ptrs : ∃ g1 g2 g3, At w m 0 [.pointer (some ⟨g1, 0, none⟩), .pointer (some ⟨g2, 0, none⟩), .pointer (some ⟨g3, 0, none⟩)] ∧ Hst w g1 kind (Sh.bits kind) (Hm.xk kind K 54) ∧ Hst w g2 kind (Sh.bits kind) (Hm.xk kind K 92) ∧ Hst w g3 kind (Sh.bits kind) (Hm.xk kind K 54 ++ T) ∧ g3 ≠ g1 ∧ g3 ≠ g2 ∧ g3 ≠ m ∧ g1 ≠ m ∧ g2 ≠ m ∧ B ≤ g1 ∧ B ≤ g2 ∧ B ≤ g3 ∧ B ≤ m
theorem Mc.below {w w' : World} {B m : Nat} {kind : Int} {K T : List UInt8} (h : Mc w B m kind K T) (hb : Below w.heap.size w w') : Mc w' B m kind K T := by
  obtain ⟨g1, g2, g3, hA, h1, h2, h3, hr⟩ := h.ptrs
  exact ⟨g1, g2, g3, hA.below hb (hA.lt (by simp)), h1.below hb h1.lt, h2.below hb h2.lt, h3.below hb h3.lt, hr⟩
theorem Mc.lt {w : World} {B m : Nat} {kind : Int} {K T : List UInt8} (h : Mc w B m kind K T) : B ≤ m ∧ m < w.heap.size := by
  obtain ⟨g1, g2, g3, hA, h1, h2, h3, _, _, _, _, _, _, _, _, hm⟩ := h.ptrs
  exact ⟨hm, hA.lt (by simp)⟩
theorem Mc.moved {w : World} {B C m : Nat} {kind : Int} {K T : List UInt8} (h : Mc w B m kind K T) (hC : C ≤ B) : Mc w C m kind K T := by
  obtain ⟨g1, g2, g3, hA, h1, h2, h3, n1, n2, n3, n4, n5, b1, b2, b3, b4⟩ := h.ptrs
  exact ⟨g1, g2, g3, hA, h1, h2, h3, n1, n2, n3, n4, n5, by omega, by omega, by omega, by omega⟩
end Go.Proofs.YtjlmmlnldjandaaGreatDoor
namespace Go.Proofs.YtjlmmlnldjandaaGreatDoor
open Go.RowKit
set_option linter.unusedVariables false
set_option linter.unusedSimpArgs false
/-- rows with unlike first cells lie in unlike blocks -/
theorem own_unlike {w : World} {B1 B2 e1 e2 n1 n2 : Nat} {v1 v2 : Value} {xs ys : List Value} (h1 : w.ownsRow B1 e1 1 v1 n1 xs) (h2 : w.ownsRow B2 e2 1 v2 n2 ys) (p1 : 0 < n1) (p2 : 0 < n2) (hne : xs[0]? ≠ ys[0]?) : ∀ k, v1.ownBlock = some k → v2.ownBlock ≠ some k := by
  intro k hk hk2
  obtain ⟨g1, c1, rfl⟩ := own_isU h1 p1
  obtain ⟨g2, c2, rfl⟩ := own_isU h2 p2
  have l1 : xs.length = n1 := by have := h1.1; simpa using this
  have l2 : ys.length = n2 := by have := h2.1; simpa using this
  have e1 : g1 = k := Option.some.inj hk
  have e2 : g2 = k := Option.some.inj hk2
  subst e1 e2
  have a1 := (At.ofOwn h1).cell 0 xs[0] (List.getElem?_eq_getElem (by omega))
  have a2 := (At.ofOwn h2).cell 0 ys[0] (List.getElem?_eq_getElem (by omega))
  rw [a1] at a2
  refine hne ?_
  rw [List.getElem?_eq_getElem (by omega), List.getElem?_eq_getElem (by omega)]
  exact a2
theorem own_grown {w w' : World} {B e n : Nat} {v : Value} {xs : List Value} {row : Option Nat} (h : w.ownsRow B e 1 v n xs) (hg : w.grownBy w' row) (hne : ∀ k, v.ownBlock = some k → row ≠ some k) : w'.ownsRow B e 1 v n xs :=
  own_same h fun k hk => hg.block k (h.lt k hk).2 (fun e => hne k hk e.symm)
def xm (L : List UInt8) (u : UInt8) : List UInt8 := L.map fun c => c ^^^ u
theorem xm_take (L : List UInt8) (u : UInt8) (i : Nat) (c : UInt8) (h : L[i]? = some c) : xm (L.take (i + 1)) u = xm (L.take i) u ++ [c ^^^ u] := by
  rw [List.take_add_one, h]
  simp [xm]
theorem xm_unlike (L : List UInt8) (i j : Nat) (hi : 0 < i) (hj : 0 < j) (hl : 0 < L.length) : (bcells (xm (L.take i) 54))[0]? ≠ (bcells (xm (L.take j) 92))[0]? := by
  match L, hl with
  | c :: L, _ =>
    obtain ⟨i, rfl⟩ : ∃ k, i = k + 1 := ⟨i - 1, by omega⟩
    obtain ⟨j, rfl⟩ : ∃ k, j = k + 1 := ⟨j - 1, by omega⟩
    simp only [List.take_succ_cons, xm, List.map_cons, bcells, List.getElem?_cons_zero]
    intro h
    have h2 : ((c ^^^ 54).toNat : Int) = ((c ^^^ 92).toNat : Int) := by simpa using h
    have h3 : c ^^^ 54 = c ^^^ 92 := UInt8.toNat_inj.1 (by omega)
    have h4 : c ^^^ (c ^^^ 54) = c ^^^ (c ^^^ 92) := by rw [h3]
    rw [← UInt8.xor_assoc, ← UInt8.xor_assoc, UInt8.xor_self, UInt8.zero_xor, UInt8.zero_xor] at h4
    exact absurd h4 (by decide)
theorem xm_length (L : List UInt8) (i : Nat) (u : UInt8) (hi : i ≤ L.length) : (xm (L.take i) u).length = i := by
  rw [xm, List.length_map, List.length_take]; omega
/-- two own rows of bytes, the rule as it was -/
structure Tw (w wr : World) (r : Nat) (kind : Int) (b : Nat) (X Y : List UInt8) (va vb : Value) : Prop where
  ru : Ru w r kind b
  oa : wr.ownsRow w.heap.size 5 1 va X.length (bcells X)
  ob : wr.ownsRow w.heap.size 5 1 vb Y.length (bcells Y)
  ap : ∀ k, va.ownBlock = some k → vb.ownBlock ≠ some k
  nb : Y = [] → vb = .slice none 0 0
  bel : Below w.heap.size w wr
theorem Tw.ruw {w wr : World} {r b : Nat} {kind : Int} {X Y : List UInt8} {va vb : Value} (h : Tw w wr r kind b X Y va vb) : Ru wr r kind b := h.ru.below h.bel (Nat.le_refl _)
theorem Tw.start {w wr : World} {r b : Nat} {kind : Int} (h : Ru w r kind b) (hb : Below w.heap.size w wr) : Tw w wr r kind b [] [] (.slice none 0 0) (.slice none 0 0) :=
  ⟨h, World.ownsRow_nil _ _ _ _, World.ownsRow_nil _ _ _ _, (by intro k hk; cases hk), fun _ => rfl, hb⟩
theorem Tw.one {w wr w1 : World} {r b : Nat} {kind : Int} {X Y : List UInt8} {x : UInt8} {va vb va' : Value} {o : Obj} (h : Tw w wr r kind b X Y va vb)
    (hown1 : w1.ownsRow w.heap.size 5 1 va' (X.length + 1) (bcells (X ++ [x]))) (hg : (wr.alloc o).grownBy w1 va.ownBlock) (hun : 0 < Y.length → (bcells (X ++ [x]))[0]? ≠ (bcells Y)[0]?) : Tw w w1 r kind b (X ++ [x]) Y va' vb := by
  have hob : w1.ownsRow w.heap.size 5 1 vb Y.length (bcells Y) := own_grown (h.ob.alloc o) hg (fun k hk e => h.ap k e hk)
  have hs := h.bel.size
  refine ⟨h.ru, by rw [List.length_append]; exact hown1, hob, ?_, h.nb, below_own (h.bel.alloc h.bel.size o) hg (by simp; omega) (h.oa.alloc _)⟩
  by_cases hY : Y = []
  · rw [h.nb hY]
    intro k _ e
    cases e
  · have hp : 0 < Y.length := List.length_pos_iff.2 hY
    exact own_unlike hown1 hob (by omega) hp (hun hp)
theorem Tw.two {w wr w1 : World} {r b : Nat} {kind : Int} {X Y : List UInt8} {y : UInt8} {va vb vb' : Value} {o : Obj} (h : Tw w wr r kind b X Y va vb)
    (hown1 : w1.ownsRow w.heap.size 5 1 vb' (Y.length + 1) (bcells (Y ++ [y]))) (hg : (wr.alloc o).grownBy w1 vb.ownBlock) (hX : 0 < X.length) (hun : (bcells X)[0]? ≠ (bcells (Y ++ [y]))[0]?) : Tw w w1 r kind b X (Y ++ [y]) va vb' := by
  have hoa : w1.ownsRow w.heap.size 5 1 va X.length (bcells X) := own_grown (h.oa.alloc o) hg (fun k hk e => h.ap k hk e)
  have hs := h.bel.size
  exact ⟨h.ru, hoa, by rw [List.length_append]; exact hown1, own_unlike hoa hown1 hX (by omega) hun, (fun e => by simp at e), below_own (h.bel.alloc h.bel.size o) hg (by simp; omega) (h.ob.alloc _)⟩
end Go.Proofs.YtjlmmlnldjandaaGreatDoor
namespace Go.Proofs.YtjlmmlnldjandaaGreatDoor
open Go.RowKit
set_option linter.unusedVariables false
set_option linter.unusedSimpArgs false
/-- the byte of the block at i: a part of the key, or nought -/
theorem pad_get (K : ByteArray) (n i : Nat) (hi : i < n) (hK : K.size ≤ n) : (K.toList ++ List.replicate (n - K.size) (0 : UInt8))[i]? = some (if h : i < K.size then K[i] else 0) := by
  by_cases h : i < K.size
  · rw [List.getElem?_append_left (by rw [tl_size]; exact h), dif_pos h]
    exact tl_get K _ h
  · rw [List.getElem?_append_right (by rw [tl_size]; omega), dif_neg h, List.getElem?_replicate, if_pos (by rw [tl_size]; omega)]
set_option maxRecDepth 100000 in
set_option maxHeartbeats 16000000 in
theorem rwith_short (w : World) (r : Nat) (kind : Int) (hk : Sh.known kind = true) (b : Nat) (hb : Sh.bits kind = b) (hr : Ru w r kind b) (K T : ByteArray) (hK : K.size ≤ 2 * b) (hT : T.size ≤ 17592186044416) :
    Calls Tryz.prog 56 #[.pointer (some ⟨r, 0, none⟩), .string K, .string T] w (RetSS (Hm.mac kind K.toList T.toList) w) := by
  obtain ⟨i0, hi, hz0, hz1, hz2⟩ := info_parts info5
  have hb6 : b ≤ 64 := by rcases kb_or hr.kb with rfl | rfl <;> decide
  have hbp : 32 ≤ b := by rcases kb_or hr.kb with rfl | rfl <;> decide
  obtain ⟨n, hn⟩ : ∃ n, n = 2 * b := ⟨_, rfl⟩
  obtain ⟨L, hL⟩ : ∃ L, L = K.toList ++ List.replicate (n - K.size) (0 : UInt8) := ⟨_, rfl⟩
  have hLl : L.length = n := by rw [hL, List.length_append, List.length_replicate, tl_size]; omega
  have hLg : ∀ i, i < n → L[i]? = some (if h : i < K.size then K[i] else 0) := fun i h => by rw [hL]; exact pad_get K n i h (by omega)
  have hbk : Hm.blk kind K.toList = L := by
    have : Hm.keyB kind K.toList = K.toList := by rw [Hm.keyB, if_neg (by rw [tl_size, hb]; omega)]
    rw [Hm.blk, this, hL, tl_size, hb, hn]
  have hm : Hm.mac kind K.toList T.toList = Sh.shL kind (xm L 92 ++ Sh.shL kind (xm L 54 ++ T.toList)) := by
    rw [Hm.mac, Hm.xk, Hm.xk, hbk]; rfl
  rw [hm]
  have c2 := hr.hd.cell 2 _ rfl
  rw [← hn] at c2
  have hKs : K.size ≤ n := by omega
  have hn1 : n ≤ 128 := by omega
  have hn0 : 64 ≤ n := by omega
  have hKI : ¬ ((n : Int) < (K.size : Int)) := by omega
  have HG := Lib.hid hLg
  have HR := Lib.hid hr
  have HL := Lib.hid hLl
  have HN := Lib.hid hn
  have HBB := Lib.hid hb
  have HKN := Lib.hid hk
  clear hL hbk hm hr hLl hLg hn hK hb hbp hb6 hk hKs
  go_enter Tryz.func56, Tryz.ntmps56
  go_wp2_with fail
  go_loopw [7, 8, 9] (fun av bv iv wr => ∃ (i : Nat), i ≤ n ∧ iv = .int .i64 (i : Int) ∧ Tw w wr r kind b (xm (L.take i) 54) (xm (L.take i) 92) av bv) (fun _ _ iv _ => n - (intOf iv).toNat)
  case atStart => exact ⟨0, by omega, rfl, Tw.start HR.out (Below.refl _ _)⟩
  case round =>
    obtain ⟨i, hin, rfl, hTw⟩ := hrel
    have d2 := hTw.ruw.hd.cell 2 _ rfl
    rw [← HN.out] at d2
    clear c2
    have HT := Lib.hid hTw
    clear hTw
    by_cases hlt : i < n
    · have hltI : (i : Int) < (n : Int) := by omega
      obtain ⟨c, hc⟩ : ∃ c : UInt8, (if h : i < K.size then K[i] else 0) = c := ⟨_, rfl⟩
      have hg := HG.out i hlt
      rw [hc] at hg
      have HA := Lib.hid (xm_take L 54 i c hg)
      have HB := Lib.hid (xm_take L 92 i c hg)
      clear hg
      have hxa := xm_length L i 54 (by have := HL.out; omega)
      have hxb := xm_length L i 92 (by have := HL.out; omega)
      have hxc := xm_length L (i + 1) 54 (by have := HL.out; omega)
      have hun1 : 0 < (xm (L.take i) 92).length → (bcells (xm (L.take i) 54 ++ [c ^^^ 54]))[0]? ≠ (bcells (xm (L.take i) 92))[0]? := by
        intro h0
        rw [← HA.out]
        exact xm_unlike L (i + 1) i (by omega) (by omega) (by have := HL.out; omega)
      have hun2 : (bcells (xm (L.take i) 54 ++ [c ^^^ 54]))[0]? ≠ (bcells (xm (L.take i) 92 ++ [c ^^^ 92]))[0]? := by
        rw [← HA.out, ← HB.out]
        exact xm_unlike L (i + 1) (i + 1) (by omega) (by omega) (by have := HL.out; omega)
      obtain ⟨p, hp, hp2⟩ : ∃ p : UInt8, bits .xor .u8 (c.toNat : Int) (54 : Int) = (p.toNat : Int) ∧ c ^^^ 54 = p := ⟨_, by rw [show (54 : Int) = ((54 : UInt8).toNat : Int) by rfl, u8x], rfl⟩
      obtain ⟨q, hq, hq2⟩ : ∃ q : UInt8, bits .xor .u8 (c.toNat : Int) (92 : Int) = (q.toNat : Int) ∧ c ^^^ 92 = q := ⟨_, by rw [show (92 : Int) = ((92 : UInt8).toNat : Int) by rfl, u8x], rfl⟩
      rw [hp2] at HA hun1 hun2
      rw [hq2] at HB hun2
      clear hp2 hq2
      have HU1 := Lib.hid hun1
      have HU2 := Lib.hid hun2
      have HXA := Lib.hid hxa
      have HXB := Lib.hid hxb
      have HXC := Lib.hid hxc
      clear hun1 hun2 hxa hxb hxc
      by_cases hik : i < K.size
      · have hikI : (i : Int) < (K.size : Int) := by omega
        rw [dif_pos hik] at hc
        go_wp2_with (first | (at_builtin; refine wpList_append_u8 rfl (.tmp 36) (.tmp 39) 54 rfl w.heap.size 5 i0 Tryz.underlying54 hi hz0 hz1 hz2 u7 (xm (L.take i) 54).length _ rfl (HT.out.oa.alloc _) wr.heap.size 1 1 [p] rfl rfl (cells_one (by simp)) (by rw [HXA.out]; omega) (by have := HT.out.bel.size; simp; omega) ?_; intro va' w1 hown1 hgrow1; have HT1 := Lib.hid (HT.out.one hown1 hgrow1 HU1.out); clear hown1 hgrow1 HT d2) | (at_builtin; refine wpList_append_u8 rfl (.tmp 41) (.tmp 44) 54 rfl w.heap.size 5 i0 Tryz.underlying54 hi hz0 hz1 hz2 u8 (xm (L.take i) 92).length _ rfl (HT1.out.ob.alloc _) w1.heap.size 1 1 [q] rfl rfl (cells_one (by simp)) (by rw [HXB.out]; omega) (by have := HT1.out.bel.size; simp; omega) ?_; intro vb' w2 hown2 hgrow2; have HT2 := Lib.hid (HT1.out.two hown2 hgrow2 (by rw [← HA.out, HXC.out]; omega) HU2.out); clear hown2 hgrow2 HT1))
        go_roundw
        case rel => exact ⟨i + 1, by omega, by go_num, by rw [HA.out, HB.out]; exact HT2.out⟩
        case measure => simp [intOf]; omega
      · have hikI : ¬ ((i : Int) < (K.size : Int)) := by omega
        rw [dif_neg hik] at hc
        subst hc
        change bits .xor .u8 0 54 = (p.toNat : Int) at hp
        change bits .xor .u8 0 92 = (q.toNat : Int) at hq
        go_wp2_with (first | (at_builtin; refine wpList_append_u8 rfl (.tmp 36) (.tmp 39) 54 rfl w.heap.size 5 i0 Tryz.underlying54 hi hz0 hz1 hz2 u7 (xm (L.take i) 54).length _ rfl (HT.out.oa.alloc _) wr.heap.size 1 1 [p] rfl rfl (cells_one (by simp)) (by rw [HXA.out]; omega) (by have := HT.out.bel.size; simp; omega) ?_; intro va' w1 hown1 hgrow1; have HT1 := Lib.hid (HT.out.one hown1 hgrow1 HU1.out); clear hown1 hgrow1 HT d2) | (at_builtin; refine wpList_append_u8 rfl (.tmp 41) (.tmp 44) 54 rfl w.heap.size 5 i0 Tryz.underlying54 hi hz0 hz1 hz2 u8 (xm (L.take i) 92).length _ rfl (HT1.out.ob.alloc _) w1.heap.size 1 1 [q] rfl rfl (cells_one (by simp)) (by rw [HXB.out]; omega) (by have := HT1.out.bel.size; simp; omega) ?_; intro vb' w2 hown2 hgrow2; have HT2 := Lib.hid (HT1.out.two hown2 hgrow2 (by rw [← HA.out, HXC.out]; omega) HU2.out); clear hown2 hgrow2 HT1))
        go_roundw
        case rel => exact ⟨i + 1, by omega, by go_num, by rw [HA.out, HB.out]; exact HT2.out⟩
        case measure => simp [intOf]; omega
    · have hie : i = n := by omega
      subst hie
      have hltI : ¬ ((i : Int) < (i : Int)) := by omega
      rw [List.take_of_length_le (by rw [HL.out]; omega)] at HT
      have hru := HT.out.ruw
      rw [← HBB.out] at hru
      obtain ⟨c1, hc1⟩ : ∃ z : ByteArray, (⟨(xm L 54).toArray⟩ : ByteArray) = z := ⟨_, rfl⟩
      obtain ⟨c2, hc2⟩ : ∃ z : ByteArray, (⟨(xm L 92).toArray⟩ : ByteArray) = z := ⟨_, rfl⟩
      have HCA : Hid (∀ w', Below wr.heap.size wr w' → (convert 54 9 u7).run Tryz.prog w' = .ok (.string c1) w') := by
        intro w' hb
        have := run_convert_own (P := Tryz.prog) (own_below HT.out.oa hb (Nat.le_refl _)) 54 9 Tryz.underlying54 Tryz.underlying5 Tryz.underlying9
        rw [hc1] at this
        exact this
      have HCB : Hid (∀ w', Below wr.heap.size wr w' → (convert 54 9 u8).run Tryz.prog w' = .ok (.string c2) w') := by
        intro w' hb
        have := run_convert_own (P := Tryz.prog) (own_below HT.out.ob hb (Nat.le_refl _)) 54 9 Tryz.underlying54 Tryz.underlying5 Tryz.underlying9
        rw [hc2] at this
        exact this
      have hl1 : c1.toList = xm L 54 := by rw [← hc1, tl_mk]
      have hl2 : c2.toList = xm L 92 := by rw [← hc2, tl_mk]
      have hs1 : c1.size = i := by rw [← tl_size, hl1, xm, List.length_map, HL.out]
      have hs2 : c2.size = i := by rw [← tl_size, hl2, xm, List.length_map, HL.out]
      have hcat1 : ¬ 9223372036854775807 < c1.size + T.size := by omega
      have hsz1 : (c1 ++ T).size ≤ 35184372088832 := by rw [← tl_size, tl_cat, List.length_append, tl_size, tl_size]; omega
      have HS1 := Lib.hid hsz1
      have HS2 := Lib.hid hs2
      have HL1 := Lib.hid hl1
      have HL2 := Lib.hid hl2
      have HRU := Lib.hid hru
      have HBW := Lib.hid HT.out.bel
      have HBR : Hid (Below wr.heap.size wr wr) := Below.refl _ _
      clear hru hc1 hc2 hl1 hl2 hs1 hs2 hsz1
      go_wp2_with fail
      refine wp_region_held_drew (S := (fun w' => (convert 54 9 u7).run Tryz.prog w' = .ok (.string c1) w' ∧ (convert 54 9 u8).run Tryz.prog w' = .ok (.string c2) w')) (by kernel_rfl) ⟨HCA.out _ HBR.out.drew, HCB.out _ HBR.out.drew⟩ (fun hHeld => ?_)
      refine wpAnyH_take (i := 0) (v := ?_) rfl (by kernel_rfl) (by kernel_rfl) (by kernel_rfl) (fun _ _ _ h => h) (Or.inl ⟨by rfl, ?_⟩) (by assumption) ?_
      rotate_left
      · intro w hSw
        have hSw1 := hSw.1
        have hSw2 := hSw.2
        clear hSw
        go_simp
        try with_reducible rfl
      try simp only [Act.put, List.getElem_toArray, List.getElem_cons_zero, List.getElem_cons_succ, List.setIfInBounds_toArray, List.set_cons_zero, List.set_cons_succ]
      refine wpAnyH_take (i := 1) (v := ?_) rfl (by kernel_rfl) (by kernel_rfl) (by kernel_rfl) (fun _ _ _ h => h) (Or.inl ⟨by rfl, ?_⟩) (by assumption) ?_
      rotate_left
      · intro w hSw
        have hSw1 := hSw.1
        have hSw2 := hSw.2
        clear hSw
        go_simp
        try with_reducible rfl
      try simp only [Act.put, List.getElem_toArray, List.getElem_cons_zero, List.getElem_cons_succ, List.setIfInBounds_toArray, List.set_cons_zero, List.set_cons_succ]
      refine wpAnyH_take (i := 2) (v := ?_) rfl (by kernel_rfl) (by kernel_rfl) (by kernel_rfl) (fun _ _ _ h => h) (Or.inl ⟨by rfl, ?_⟩) (by assumption) ?_
      rotate_left
      · intro w hSw
        have hSw1 := hSw.1
        have hSw2 := hSw.2
        clear hSw
        go_simp
        try with_reducible rfl
      try simp only [Act.put, List.getElem_toArray, List.getElem_cons_zero, List.getElem_cons_succ, List.setIfInBounds_toArray, List.set_cons_zero, List.set_cons_succ]
      refine wpAnyH_take (i := 3) (v := ?_) rfl (by kernel_rfl) (by kernel_rfl) (by kernel_rfl) (fun _ _ _ h => h) (Or.inl ⟨by rfl, ?_⟩) (by assumption) ?_
      rotate_left
      · intro w hSw
        have hSw1 := hSw.1
        have hSw2 := hSw.2
        clear hSw
        go_simp
        try with_reducible rfl
      try simp only [Act.put, List.getElem_toArray, List.getElem_cons_zero, List.getElem_cons_succ, List.setIfInBounds_toArray, List.set_cons_zero, List.set_cons_succ]
      refine wpAnyH_take (i := 4) (v := ?_) rfl (by kernel_rfl) (by kernel_rfl) (by kernel_rfl) (fun _ _ _ h => h) (Or.inl ⟨by rfl, ?_⟩) (by assumption) ?_
      rotate_left
      · intro w hSw
        have hSw1 := hSw.1
        have hSw2 := hSw.2
        clear hSw
        go_simp
        try with_reducible rfl
      try simp only [Act.put, List.getElem_toArray, List.getElem_cons_zero, List.getElem_cons_succ, List.setIfInBounds_toArray, List.set_cons_zero, List.set_cons_succ]
      refine wpAnyH_take (i := 5) (v := ?_) rfl (by kernel_rfl) (by kernel_rfl) (by kernel_rfl) (fun _ _ _ h => h) (Or.inl ⟨by rfl, ?_⟩) (by assumption) ?_
      rotate_left
      · intro w hSw
        have hSw1 := hSw.1
        have hSw2 := hSw.2
        clear hSw
        go_simp
        try with_reducible rfl
      try simp only [Act.put, List.getElem_toArray, List.getElem_cons_zero, List.getElem_cons_succ, List.setIfInBounds_toArray, List.set_cons_zero, List.set_cons_succ]
      refine wpAnyH_take (i := 6) (v := ?_) rfl (by kernel_rfl) (by kernel_rfl) (by kernel_rfl) (fun _ _ _ h => h) (Or.inl ⟨by rfl, ?_⟩) (by assumption) ?_
      rotate_left
      · intro w hSw
        have hSw1 := hSw.1
        have hSw2 := hSw.2
        clear hSw
        go_simp
        try with_reducible rfl
      try simp only [Act.put, List.getElem_toArray, List.getElem_cons_zero, List.getElem_cons_succ, List.setIfInBounds_toArray, List.set_cons_zero, List.set_cons_succ]
      refine wpAnyH_take (i := 7) (v := ?_) rfl (by kernel_rfl) (by kernel_rfl) (by kernel_rfl) (fun _ _ _ h => h) (Or.inl ⟨by rfl, ?_⟩) (by assumption) ?_
      rotate_left
      · intro w hSw
        have hSw1 := hSw.1
        have hSw2 := hSw.2
        clear hSw
        go_simp
        try with_reducible rfl
      try simp only [Act.put, List.getElem_toArray, List.getElem_cons_zero, List.getElem_cons_succ, List.setIfInBounds_toArray, List.set_cons_zero, List.set_cons_succ]
      clear hHeld
      refine wpAnyH_ready (rs := [8]) (by kernel_rfl) (by simp) ?_
      refine AllReadyH.cons (o := _) rfl (fun K hK => ?_) AllReadyH.nil
      go_simp
      go_at_call 80
      refine (rsum_ru _ r kind HKN.out (HRU.out.below HBR.out.drew (Nat.le_refl _)) (c1 ++ T) HS1.out).mono ?_
      rintro e w3 ⟨x, rfl, hx, hb3⟩
      have HX := Lib.hid hx
      have HB3 : Hid (Below wr.heap.size wr w3) := HBR.out.drew.trans hb3
      have HXS : Hid (x.size ≤ 64) := (by show _ ≤ _; rw [← tl_size, HX.out, sh_len kind HKN.out]; have := (size_known kind HKN.out).2.2.2.1; have := HBB.out; have := HN.out; omega)
      have hcat2 : ¬ 9223372036854775807 < c2.size + x.size := (by have := HXS.out; have := HS2.out; omega)
      have HS3 : Hid ((c2 ++ x).size ≤ 35184372088832) := (by show _ ≤ _; rw [← tl_size, tl_cat, List.length_append, tl_size, tl_size]; have := HXS.out; have := HS2.out; omega)
      clear hx hb3 hcat1
      go_wp2_with fail
      refine hK.out _ _ (⟨HCA.out _ HB3.out, HCB.out _ HB3.out⟩) (fun hHeld => ?_)
      clear hK K hHeld
      try simp only [Act.put, List.getElem_toArray, List.getElem_cons_zero, List.getElem_cons_succ, List.setIfInBounds_toArray, List.set_cons_zero, List.set_cons_succ]
      refine wpAnyH_ready (rs := [9]) (by kernel_rfl) (by simp) ?_
      refine AllReadyH.cons (o := _) rfl (fun K hK => ?_) AllReadyH.nil
      go_simp
      refine hK.out _ _ (⟨HCA.out _ HB3.out, HCB.out _ HB3.out⟩) (fun hHeld => ?_)
      clear hK K hHeld
      try simp only [Act.put, List.getElem_toArray, List.getElem_cons_zero, List.getElem_cons_succ, List.setIfInBounds_toArray, List.set_cons_zero, List.set_cons_succ]
      refine wpAnyH_ready (rs := [10]) (by kernel_rfl) (by simp) ?_
      refine AllReadyH.cons (o := _) rfl (fun K hK => ?_) AllReadyH.nil
      go_simp
      go_at_call 80
      refine (rsum_ru _ r kind HKN.out (HRU.out.below HB3.out (Nat.le_refl _)) (c2 ++ x) HS3.out).mono ?_
      rintro e w4 ⟨y, rfl, hy, hb4⟩
      have HY := Lib.hid hy
      have HB4 : Hid (Below wr.heap.size wr w4) := HB3.out.trans (hb4.mono HB3.out.size)
      clear hy hb4
      go_wp2_with fail
      refine hK.out _ _ (⟨HCA.out _ HB4.out, HCB.out _ HB4.out⟩) (fun hHeld => ?_)
      clear hK K hHeld
      try simp only [Act.put, List.getElem_toArray, List.getElem_cons_zero, List.getElem_cons_succ, List.setIfInBounds_toArray, List.set_cons_zero, List.set_cons_succ]
      refine wpAnyH_ready (rs := [11]) (by kernel_rfl) (by simp) ?_
      refine AllReadyH.cons (o := _) rfl (fun K hK => ?_) AllReadyH.nil
      go_simp
      refine hK.out _ _ (⟨HCA.out _ HB4.out, HCB.out _ HB4.out⟩) (fun hHeld => ?_)
      clear hK K hHeld
      try simp only [Act.put, List.getElem_toArray, List.getElem_cons_zero, List.getElem_cons_succ, List.setIfInBounds_toArray, List.set_cons_zero, List.set_cons_succ]
      refine wpAnyH_done (by kernel_rfl) ?_ _
      go_wp2_with fail
      go_ret
      exact ⟨y, rfl, by rw [HY.out, tl_cat, HL2.out, HX.out, tl_cat, HL1.out], HBW.out.trans (HB4.out.mono HBW.out.size)⟩
set_option maxRecDepth 100000 in
set_option maxHeartbeats 16000000 in
theorem rwith_long (w : World) (r : Nat) (kind : Int) (hk : Sh.known kind = true) (b : Nat) (hb : Sh.bits kind = b) (hr : Ru w r kind b) (K T : ByteArray) (hK : 2 * b < K.size) (hK2 : K.size ≤ 17592186044416) (hT : T.size ≤ 17592186044416) :
    Calls Tryz.prog 56 #[.pointer (some ⟨r, 0, none⟩), .string K, .string T] w (RetSS (Hm.mac kind K.toList T.toList) w) := by
  obtain ⟨i0, hi, hz0, hz1, hz2⟩ := info_parts info5
  have hb6 : b ≤ 64 := by rcases kb_or hr.kb with rfl | rfl <;> decide
  have hbp : 32 ≤ b := by rcases kb_or hr.kb with rfl | rfl <;> decide
  obtain ⟨n, hn⟩ : ∃ n, n = 2 * b := ⟨_, rfl⟩
  have c2 := hr.hd.cell 2 _ rfl
  rw [← hn] at c2
  have hn1 : n ≤ 128 := by omega
  have hn0 : 64 ≤ n := by omega
  have hKI : (n : Int) < (K.size : Int) := by omega
  have HRS := Lib.hid (rsum_ru w r kind hk (by rw [hb]; exact hr) K (by omega))
  have hkb : Hm.keyB kind K.toList = Sh.shL kind K.toList := by rw [Hm.keyB, if_pos (by rw [tl_size, hb]; omega)]
  have hsl : (Sh.shL kind K.toList).length ≤ n := by
    rw [sh_len kind hk]
    have := (size_known kind hk).2.2.2.1
    omega
  have HSL := Lib.hid hsl
  have HKB := Lib.hid hkb
  have HR := Lib.hid hr
  have HN := Lib.hid hn
  have HBB := Lib.hid hb
  have HKN := Lib.hid hk
  clear hkb hr hn hK hK2 hb hbp hb6 hk hsl
  go_enter Tryz.func56, Tryz.ntmps56
  go_wp2_with fail
  refine HRS.out.mono ?_
  rintro e w1 ⟨K2, rfl, hK2, hb1⟩
  have HB1 := Lib.hid hb1
  have hKs : K2.size ≤ n := by rw [← tl_size, hK2]; exact HSL.out
  obtain ⟨L, hL⟩ : ∃ L, L = K2.toList ++ List.replicate (n - K2.size) (0 : UInt8) := ⟨_, rfl⟩
  have hLl : L.length = n := by rw [hL, List.length_append, List.length_replicate, tl_size]; omega
  have hLg : ∀ i, i < n → L[i]? = some (if h : i < K2.size then K2[i] else 0) := fun i h => by rw [hL]; exact pad_get K2 n i h (by omega)
  have hbk : Hm.blk kind K.toList = L := by
    rw [Hm.blk, HKB.out, ← hK2, hL, tl_size, HBB.out, HN.out]
  have hm : Hm.mac kind K.toList T.toList = Sh.shL kind (xm L 92 ++ Sh.shL kind (xm L 54 ++ T.toList)) := by
    rw [Hm.mac, Hm.xk, Hm.xk, hbk]; rfl
  have HM := Lib.hid hm
  have HG := Lib.hid hLg
  have HL := Lib.hid hLl
  clear c2
  have c2 := (HR.out.below hb1 (Nat.le_refl _)).hd.cell 2 _ rfl
  rw [← HN.out] at c2
  clear hL hbk hm hLl hLg hb1 hK2 hKs hKI
  go_wp2_with fail
  go_loopw [7, 8, 9] (fun av bv iv wr => ∃ (i : Nat), i ≤ n ∧ iv = .int .i64 (i : Int) ∧ Tw w wr r kind b (xm (L.take i) 54) (xm (L.take i) 92) av bv) (fun _ _ iv _ => n - (intOf iv).toNat)
  case atStart => exact ⟨0, by omega, rfl, Tw.start HR.out HB1.out⟩
  case round =>
    obtain ⟨i, hin, rfl, hTw⟩ := hrel
    have d2 := hTw.ruw.hd.cell 2 _ rfl
    rw [← HN.out] at d2
    clear c2
    have HT := Lib.hid hTw
    clear hTw
    by_cases hlt : i < n
    · have hltI : (i : Int) < (n : Int) := by omega
      obtain ⟨c, hc⟩ : ∃ c : UInt8, (if h : i < K2.size then K2[i] else 0) = c := ⟨_, rfl⟩
      have hg := HG.out i hlt
      rw [hc] at hg
      have HA := Lib.hid (xm_take L 54 i c hg)
      have HB := Lib.hid (xm_take L 92 i c hg)
      clear hg
      have hxa := xm_length L i 54 (by have := HL.out; omega)
      have hxb := xm_length L i 92 (by have := HL.out; omega)
      have hxc := xm_length L (i + 1) 54 (by have := HL.out; omega)
      have hun1 : 0 < (xm (L.take i) 92).length → (bcells (xm (L.take i) 54 ++ [c ^^^ 54]))[0]? ≠ (bcells (xm (L.take i) 92))[0]? := by
        intro h0
        rw [← HA.out]
        exact xm_unlike L (i + 1) i (by omega) (by omega) (by have := HL.out; omega)
      have hun2 : (bcells (xm (L.take i) 54 ++ [c ^^^ 54]))[0]? ≠ (bcells (xm (L.take i) 92 ++ [c ^^^ 92]))[0]? := by
        rw [← HA.out, ← HB.out]
        exact xm_unlike L (i + 1) (i + 1) (by omega) (by omega) (by have := HL.out; omega)
      obtain ⟨p, hp, hp2⟩ : ∃ p : UInt8, bits .xor .u8 (c.toNat : Int) (54 : Int) = (p.toNat : Int) ∧ c ^^^ 54 = p := ⟨_, by rw [show (54 : Int) = ((54 : UInt8).toNat : Int) by rfl, u8x], rfl⟩
      obtain ⟨q, hq, hq2⟩ : ∃ q : UInt8, bits .xor .u8 (c.toNat : Int) (92 : Int) = (q.toNat : Int) ∧ c ^^^ 92 = q := ⟨_, by rw [show (92 : Int) = ((92 : UInt8).toNat : Int) by rfl, u8x], rfl⟩
      rw [hp2] at HA hun1 hun2
      rw [hq2] at HB hun2
      clear hp2 hq2
      have HU1 := Lib.hid hun1
      have HU2 := Lib.hid hun2
      have HXA := Lib.hid hxa
      have HXB := Lib.hid hxb
      have HXC := Lib.hid hxc
      clear hun1 hun2 hxa hxb hxc
      by_cases hik : i < K2.size
      · have hikI : (i : Int) < (K2.size : Int) := by omega
        rw [dif_pos hik] at hc
        go_wp2_with (first | (at_builtin; refine wpList_append_u8 rfl (.tmp 36) (.tmp 39) 54 rfl w.heap.size 5 i0 Tryz.underlying54 hi hz0 hz1 hz2 u7 (xm (L.take i) 54).length _ rfl (HT.out.oa.alloc _) wr.heap.size 1 1 [p] rfl rfl (cells_one (by simp)) (by rw [HXA.out]; omega) (by have := HT.out.bel.size; simp; omega) ?_; intro va' w1 hown1 hgrow1; have HT1 := Lib.hid (HT.out.one hown1 hgrow1 HU1.out); clear hown1 hgrow1 HT d2) | (at_builtin; refine wpList_append_u8 rfl (.tmp 41) (.tmp 44) 54 rfl w.heap.size 5 i0 Tryz.underlying54 hi hz0 hz1 hz2 u8 (xm (L.take i) 92).length _ rfl (HT1.out.ob.alloc _) w1.heap.size 1 1 [q] rfl rfl (cells_one (by simp)) (by rw [HXB.out]; omega) (by have := HT1.out.bel.size; simp; omega) ?_; intro vb' w2 hown2 hgrow2; have HT2 := Lib.hid (HT1.out.two hown2 hgrow2 (by rw [← HA.out, HXC.out]; omega) HU2.out); clear hown2 hgrow2 HT1))
        go_roundw
        case rel => exact ⟨i + 1, by omega, by go_num, by rw [HA.out, HB.out]; exact HT2.out⟩
        case measure => simp [intOf]; omega
      · have hikI : ¬ ((i : Int) < (K2.size : Int)) := by omega
        rw [dif_neg hik] at hc
        subst hc
        change bits .xor .u8 0 54 = (p.toNat : Int) at hp
        change bits .xor .u8 0 92 = (q.toNat : Int) at hq
        go_wp2_with (first | (at_builtin; refine wpList_append_u8 rfl (.tmp 36) (.tmp 39) 54 rfl w.heap.size 5 i0 Tryz.underlying54 hi hz0 hz1 hz2 u7 (xm (L.take i) 54).length _ rfl (HT.out.oa.alloc _) wr.heap.size 1 1 [p] rfl rfl (cells_one (by simp)) (by rw [HXA.out]; omega) (by have := HT.out.bel.size; simp; omega) ?_; intro va' w1 hown1 hgrow1; have HT1 := Lib.hid (HT.out.one hown1 hgrow1 HU1.out); clear hown1 hgrow1 HT d2) | (at_builtin; refine wpList_append_u8 rfl (.tmp 41) (.tmp 44) 54 rfl w.heap.size 5 i0 Tryz.underlying54 hi hz0 hz1 hz2 u8 (xm (L.take i) 92).length _ rfl (HT1.out.ob.alloc _) w1.heap.size 1 1 [q] rfl rfl (cells_one (by simp)) (by rw [HXB.out]; omega) (by have := HT1.out.bel.size; simp; omega) ?_; intro vb' w2 hown2 hgrow2; have HT2 := Lib.hid (HT1.out.two hown2 hgrow2 (by rw [← HA.out, HXC.out]; omega) HU2.out); clear hown2 hgrow2 HT1))
        go_roundw
        case rel => exact ⟨i + 1, by omega, by go_num, by rw [HA.out, HB.out]; exact HT2.out⟩
        case measure => simp [intOf]; omega
    · have hie : i = n := by omega
      subst hie
      have hltI : ¬ ((i : Int) < (i : Int)) := by omega
      rw [List.take_of_length_le (by rw [HL.out]; omega)] at HT
      have hru := HT.out.ruw
      rw [← HBB.out] at hru
      obtain ⟨c1, hc1⟩ : ∃ z : ByteArray, (⟨(xm L 54).toArray⟩ : ByteArray) = z := ⟨_, rfl⟩
      obtain ⟨c2, hc2⟩ : ∃ z : ByteArray, (⟨(xm L 92).toArray⟩ : ByteArray) = z := ⟨_, rfl⟩
      have HCA : Hid (∀ w', Below wr.heap.size wr w' → (convert 54 9 u7).run Tryz.prog w' = .ok (.string c1) w') := by
        intro w' hb
        have := run_convert_own (P := Tryz.prog) (own_below HT.out.oa hb (Nat.le_refl _)) 54 9 Tryz.underlying54 Tryz.underlying5 Tryz.underlying9
        rw [hc1] at this
        exact this
      have HCB : Hid (∀ w', Below wr.heap.size wr w' → (convert 54 9 u8).run Tryz.prog w' = .ok (.string c2) w') := by
        intro w' hb
        have := run_convert_own (P := Tryz.prog) (own_below HT.out.ob hb (Nat.le_refl _)) 54 9 Tryz.underlying54 Tryz.underlying5 Tryz.underlying9
        rw [hc2] at this
        exact this
      have hl1 : c1.toList = xm L 54 := by rw [← hc1, tl_mk]
      have hl2 : c2.toList = xm L 92 := by rw [← hc2, tl_mk]
      have hs1 : c1.size = i := by rw [← tl_size, hl1, xm, List.length_map, HL.out]
      have hs2 : c2.size = i := by rw [← tl_size, hl2, xm, List.length_map, HL.out]
      have hcat1 : ¬ 9223372036854775807 < c1.size + T.size := by omega
      have hsz1 : (c1 ++ T).size ≤ 35184372088832 := by rw [← tl_size, tl_cat, List.length_append, tl_size, tl_size]; omega
      have HS1 := Lib.hid hsz1
      have HS2 := Lib.hid hs2
      have HL1 := Lib.hid hl1
      have HL2 := Lib.hid hl2
      have HRU := Lib.hid hru
      have HBW := Lib.hid HT.out.bel
      have HBR : Hid (Below wr.heap.size wr wr) := Below.refl _ _
      clear hru hc1 hc2 hl1 hl2 hs1 hs2 hsz1
      go_wp2_with fail
      refine wp_region_held_drew (S := (fun w' => (convert 54 9 u7).run Tryz.prog w' = .ok (.string c1) w' ∧ (convert 54 9 u8).run Tryz.prog w' = .ok (.string c2) w')) (by kernel_rfl) ⟨HCA.out _ HBR.out.drew, HCB.out _ HBR.out.drew⟩ (fun hHeld => ?_)
      refine wpAnyH_take (i := 0) (v := ?_) rfl (by kernel_rfl) (by kernel_rfl) (by kernel_rfl) (fun _ _ _ h => h) (Or.inl ⟨by rfl, ?_⟩) (by assumption) ?_
      rotate_left
      · intro w hSw
        have hSw1 := hSw.1
        have hSw2 := hSw.2
        clear hSw
        go_simp
        try with_reducible rfl
      try simp only [Act.put, List.getElem_toArray, List.getElem_cons_zero, List.getElem_cons_succ, List.setIfInBounds_toArray, List.set_cons_zero, List.set_cons_succ]
      refine wpAnyH_take (i := 1) (v := ?_) rfl (by kernel_rfl) (by kernel_rfl) (by kernel_rfl) (fun _ _ _ h => h) (Or.inl ⟨by rfl, ?_⟩) (by assumption) ?_
      rotate_left
      · intro w hSw
        have hSw1 := hSw.1
        have hSw2 := hSw.2
        clear hSw
        go_simp
        try with_reducible rfl
      try simp only [Act.put, List.getElem_toArray, List.getElem_cons_zero, List.getElem_cons_succ, List.setIfInBounds_toArray, List.set_cons_zero, List.set_cons_succ]
      refine wpAnyH_take (i := 2) (v := ?_) rfl (by kernel_rfl) (by kernel_rfl) (by kernel_rfl) (fun _ _ _ h => h) (Or.inl ⟨by rfl, ?_⟩) (by assumption) ?_
      rotate_left
      · intro w hSw
        have hSw1 := hSw.1
        have hSw2 := hSw.2
        clear hSw
        go_simp
        try with_reducible rfl
      try simp only [Act.put, List.getElem_toArray, List.getElem_cons_zero, List.getElem_cons_succ, List.setIfInBounds_toArray, List.set_cons_zero, List.set_cons_succ]
      refine wpAnyH_take (i := 3) (v := ?_) rfl (by kernel_rfl) (by kernel_rfl) (by kernel_rfl) (fun _ _ _ h => h) (Or.inl ⟨by rfl, ?_⟩) (by assumption) ?_
      rotate_left
      · intro w hSw
        have hSw1 := hSw.1
        have hSw2 := hSw.2
        clear hSw
        go_simp
        try with_reducible rfl
      try simp only [Act.put, List.getElem_toArray, List.getElem_cons_zero, List.getElem_cons_succ, List.setIfInBounds_toArray, List.set_cons_zero, List.set_cons_succ]
      refine wpAnyH_take (i := 4) (v := ?_) rfl (by kernel_rfl) (by kernel_rfl) (by kernel_rfl) (fun _ _ _ h => h) (Or.inl ⟨by rfl, ?_⟩) (by assumption) ?_
      rotate_left
      · intro w hSw
        have hSw1 := hSw.1
        have hSw2 := hSw.2
        clear hSw
        go_simp
        try with_reducible rfl
      try simp only [Act.put, List.getElem_toArray, List.getElem_cons_zero, List.getElem_cons_succ, List.setIfInBounds_toArray, List.set_cons_zero, List.set_cons_succ]
      refine wpAnyH_take (i := 5) (v := ?_) rfl (by kernel_rfl) (by kernel_rfl) (by kernel_rfl) (fun _ _ _ h => h) (Or.inl ⟨by rfl, ?_⟩) (by assumption) ?_
      rotate_left
      · intro w hSw
        have hSw1 := hSw.1
        have hSw2 := hSw.2
        clear hSw
        go_simp
        try with_reducible rfl
      try simp only [Act.put, List.getElem_toArray, List.getElem_cons_zero, List.getElem_cons_succ, List.setIfInBounds_toArray, List.set_cons_zero, List.set_cons_succ]
      refine wpAnyH_take (i := 6) (v := ?_) rfl (by kernel_rfl) (by kernel_rfl) (by kernel_rfl) (fun _ _ _ h => h) (Or.inl ⟨by rfl, ?_⟩) (by assumption) ?_
      rotate_left
      · intro w hSw
        have hSw1 := hSw.1
        have hSw2 := hSw.2
        clear hSw
        go_simp
        try with_reducible rfl
      try simp only [Act.put, List.getElem_toArray, List.getElem_cons_zero, List.getElem_cons_succ, List.setIfInBounds_toArray, List.set_cons_zero, List.set_cons_succ]
      refine wpAnyH_take (i := 7) (v := ?_) rfl (by kernel_rfl) (by kernel_rfl) (by kernel_rfl) (fun _ _ _ h => h) (Or.inl ⟨by rfl, ?_⟩) (by assumption) ?_
      rotate_left
      · intro w hSw
        have hSw1 := hSw.1
        have hSw2 := hSw.2
        clear hSw
        go_simp
        try with_reducible rfl
      try simp only [Act.put, List.getElem_toArray, List.getElem_cons_zero, List.getElem_cons_succ, List.setIfInBounds_toArray, List.set_cons_zero, List.set_cons_succ]
      clear hHeld
      refine wpAnyH_ready (rs := [8]) (by kernel_rfl) (by simp) ?_
      refine AllReadyH.cons (o := _) rfl (fun K hK => ?_) AllReadyH.nil
      go_simp
      go_at_call 80
      refine (rsum_ru _ r kind HKN.out (HRU.out.below HBR.out.drew (Nat.le_refl _)) (c1 ++ T) HS1.out).mono ?_
      rintro e w3 ⟨x, rfl, hx, hb3⟩
      have HX := Lib.hid hx
      have HB3 : Hid (Below wr.heap.size wr w3) := HBR.out.drew.trans hb3
      have HXS : Hid (x.size ≤ 64) := (by show _ ≤ _; rw [← tl_size, HX.out, sh_len kind HKN.out]; have := (size_known kind HKN.out).2.2.2.1; have := HBB.out; have := HN.out; omega)
      have hcat2 : ¬ 9223372036854775807 < c2.size + x.size := (by have := HXS.out; have := HS2.out; omega)
      have HS3 : Hid ((c2 ++ x).size ≤ 35184372088832) := (by show _ ≤ _; rw [← tl_size, tl_cat, List.length_append, tl_size, tl_size]; have := HXS.out; have := HS2.out; omega)
      clear hx hb3 hcat1
      go_wp2_with fail
      refine hK.out _ _ (⟨HCA.out _ HB3.out, HCB.out _ HB3.out⟩) (fun hHeld => ?_)
      clear hK K hHeld
      try simp only [Act.put, List.getElem_toArray, List.getElem_cons_zero, List.getElem_cons_succ, List.setIfInBounds_toArray, List.set_cons_zero, List.set_cons_succ]
      refine wpAnyH_ready (rs := [9]) (by kernel_rfl) (by simp) ?_
      refine AllReadyH.cons (o := _) rfl (fun K hK => ?_) AllReadyH.nil
      go_simp
      refine hK.out _ _ (⟨HCA.out _ HB3.out, HCB.out _ HB3.out⟩) (fun hHeld => ?_)
      clear hK K hHeld
      try simp only [Act.put, List.getElem_toArray, List.getElem_cons_zero, List.getElem_cons_succ, List.setIfInBounds_toArray, List.set_cons_zero, List.set_cons_succ]
      refine wpAnyH_ready (rs := [10]) (by kernel_rfl) (by simp) ?_
      refine AllReadyH.cons (o := _) rfl (fun K hK => ?_) AllReadyH.nil
      go_simp
      go_at_call 80
      refine (rsum_ru _ r kind HKN.out (HRU.out.below HB3.out (Nat.le_refl _)) (c2 ++ x) HS3.out).mono ?_
      rintro e w4 ⟨y, rfl, hy, hb4⟩
      have HY := Lib.hid hy
      have HB4 : Hid (Below wr.heap.size wr w4) := HB3.out.trans (hb4.mono HB3.out.size)
      clear hy hb4
      go_wp2_with fail
      refine hK.out _ _ (⟨HCA.out _ HB4.out, HCB.out _ HB4.out⟩) (fun hHeld => ?_)
      clear hK K hHeld
      try simp only [Act.put, List.getElem_toArray, List.getElem_cons_zero, List.getElem_cons_succ, List.setIfInBounds_toArray, List.set_cons_zero, List.set_cons_succ]
      refine wpAnyH_ready (rs := [11]) (by kernel_rfl) (by simp) ?_
      refine AllReadyH.cons (o := _) rfl (fun K hK => ?_) AllReadyH.nil
      go_simp
      refine hK.out _ _ (⟨HCA.out _ HB4.out, HCB.out _ HB4.out⟩) (fun hHeld => ?_)
      clear hK K hHeld
      try simp only [Act.put, List.getElem_toArray, List.getElem_cons_zero, List.getElem_cons_succ, List.setIfInBounds_toArray, List.set_cons_zero, List.set_cons_succ]
      refine wpAnyH_done (by kernel_rfl) ?_ _
      go_wp2_with fail
      go_ret
      exact ⟨y, rfl, by rw [HM.out, HY.out, tl_cat, HL2.out, HX.out, tl_cat, HL1.out], HBW.out.trans (HB4.out.mono HBW.out.size)⟩
theorem rwith_any (w : World) (r : Nat) (kind : Int) (hk : Sh.known kind = true) (hr : Ru w r kind (Sh.bits kind)) (K T : ByteArray) (hK : K.size ≤ 17592186044416) (hT : T.size ≤ 17592186044416) :
    Calls Tryz.prog 56 #[.pointer (some ⟨r, 0, none⟩), .string K, .string T] w (RetSS (Hm.mac kind K.toList T.toList) w) := by
  by_cases h : K.size ≤ 2 * Sh.bits kind
  · exact rwith_short w r kind hk _ rfl hr K T h hT
  · exact rwith_long w r kind hk _ rfl hr K T (by omega) hK hT
end Go.Proofs.YtjlmmlnldjandaaGreatDoor
namespace Go.Proofs.YtjlmmlnldjandaaGreatDoor
open Go.RowKit
set_option linter.unusedVariables false
set_option linter.unusedSimpArgs false
theorem convert_atH {P : Program} {w : World} {g cap : Nat} {l : List UInt8} (h : At w g 0 (bcells l)) (src dst e : TypeId) (n : Nat) (hn : l.length = n)
    (hs : P.underlying src = some (.slice e)) (he : P.underlying e = some (.int .u8)) (hd : P.underlying dst = some .string) : (convert src dst (.slice (some ⟨g, 0, none⟩) n cap)).run P w = .ok (.string ⟨l.toArray⟩) w := by
  subst hn
  refine run_convert_bytes_back w src dst e ⟨g, 0, none⟩ cap l hs he hd fun j hj => ?_
  have hc := h.cell j _ (bcells_get l j hj)
  have : (⟨g, 0, none⟩ : Addr).add j = ⟨g, j, none⟩ := by unfold Addr.add; split <;> simp_all
  rw [this]
  rw [Nat.zero_add] at hc
  exact hc
theorem Bag.fullH {w : World} {B : Nat} {v : Value} {l : List UInt8} (h : Bag w B v l) : ∃ g cap, v = .slice (some ⟨g, 0, none⟩) l.length cap ∧ B ≤ g ∧ l.length ≤ cap ∧ At w g 0 (bcells l) := by
  obtain ⟨g, cap, sp, hv, hb, hc, hs, ha⟩ := h
  exact ⟨g, cap, hv, hb, hc, ha.sub (a := []) (b := bcells l) (c := sp)⟩
theorem wpList_bytes_atH {P : Program} (w : World) {ops : Array Oper} {rest : List Oper} {o : Oper} {a : Act} {Q : Exit → Act → World → Prop}
    (hg : o.guard = none) (x : Operand) (src dst e : TypeId) (hop : o.op = Op.convert src dst x) (h1 : P.underlying src = some .string) (h2 : P.underlying dst = some (.slice e)) (h3 : P.underlying e = some (.int .u8))
    (s : ByteArray) (hx : a.eval x = .string s) (B : Nat) (hB : B ≤ w.heap.size) (N : Nat) (hN : s.size = N)
    (hK : ∀ g cap w', B ≤ g → N ≤ cap → Hid (At w' g 0 (bcells s.toList)) → Below B w w' → wpList P ops Q rest (a.put o.dst (.slice (some ⟨g, 0, none⟩) N cap)) w') :
    wpList P ops Q (o :: rest) a w := by
  refine wpList_bytes_bag w hg x src dst e hop h1 h2 h3 s hx B hB ?_
  intro v w' hb hbel
  obtain ⟨g, cap, rfl, hgB, hcap, hA⟩ := hb.fullH
  rw [tl_size, hN] at hcap ⊢
  exact hK g cap w' hgB hcap hA hbel
/-- the first i bytes are joined with u -/
def xmP (L : List UInt8) (u : UInt8) (i : Nat) : List UInt8 := xm (L.take i) u ++ L.drop i
theorem xmP_zero (L : List UInt8) (u : UInt8) : xmP L u 0 = L := rfl
theorem xmP_all (L : List UInt8) (u : UInt8) (i : Nat) (h : L.length ≤ i) : xmP L u i = xm L u := by
  rw [xmP, List.take_of_length_le h, List.drop_of_length_le h, List.append_nil]
theorem xmP_get (L : List UInt8) (u c : UInt8) (i : Nat) (h : L[i]? = some c) : (xmP L u i)[i]? = some c := by
  have hi : i < L.length := (List.getElem?_eq_some_iff.1 h).1
  have hl := xm_length L i u (by omega)
  rw [xmP, List.getElem?_append_right (by omega), hl, Nat.sub_self, List.getElem?_drop, Nat.add_zero, h]
theorem xmP_set (L : List UInt8) (u c : UInt8) (i : Nat) (h : L[i]? = some c) : (xmP L u i).set i (c ^^^ u) = xmP L u (i + 1) := by
  have hi : i < L.length := (List.getElem?_eq_some_iff.1 h).1
  have hl := xm_length L i u (by omega)
  have hd : L.drop i = c :: L.drop (i + 1) := by
    rw [List.drop_eq_getElem_cons hi, (List.getElem?_eq_some_iff.1 h).2]
  rw [xmP, xmP, xm_take L u i c h, List.set_append_right _ _ (by omega), hl, Nat.sub_self, hd, List.set_cons_zero, List.append_assoc]
  rfl
def RetBg (kind : Int) (D : List UInt8) (w : World) (e : Ending) (w' : World) : Prop := ∃ g, e = .returned (.pointer (some ⟨g, 0, none⟩)) ∧ w.heap.size ≤ g ∧ Hst w' g kind (Sh.bits kind) D ∧ Below w.heap.size w w'
set_option maxRecDepth 100000 in
set_option maxHeartbeats 3200000 in
theorem begun_any (kind : Int) (hk : Sh.known kind = true) (K : ByteArray) (hK0 : 0 < K.size) (hK : K.size ≤ 1024) (u : UInt8) (z : Int) (hz : (u.toNat : Int) = z) (w : World) (hT : Tb w) :
    Calls Tryz.prog 86 #[.int .i64 kind, .string K, .int .u8 z] w (RetBg kind (xm K.toList u) w) := by
  subst hz
  obtain ⟨n, hn⟩ : ∃ n, K.size = n := ⟨_, rfl⟩
  obtain ⟨L, hL⟩ : ∃ L, K.toList = L := ⟨_, rfl⟩
  have hLn : L.length = n := by rw [← hL, tl_size, hn]
  rw [hL]
  have HT := Lib.hid hT
  have HK := Lib.hid hk
  have HN := Lib.hid hn
  have HL := Lib.hid hL
  have HLN := Lib.hid hLn
  have hn1 : n ≤ 1024 := by omega
  have hn0 : 0 < n := by omega
  clear hT hk hn hLn hL hK hK0
  go_enter Tryz.func86, Tryz.ntmps86
  go_wp2_with (refine wpList_bytes_atH _ rfl (.tmp 11) 9 54 5 rfl Tryz.underlying9 Tryz.underlying54 Tryz.underlying5 K rfl w.heap.size (Nat.le_refl _) n HN.out ?_; intro g cap w1 hgB hcap HA hbel)
  have hA0 := HA.out
  rw [HL.out] at hA0
  clear HA
  go_loopw [15] (fun iv wr => ∃ i : Nat, i ≤ n ∧ iv = .int .i64 (i : Int) ∧ At wr g 0 (bcells (xmP L u i)) ∧ Below w.heap.size w wr) (fun iv _ => n - (intOf iv).toNat)
  case atStart => exact ⟨0, Nat.zero_le _, rfl, hA0, hbel⟩
  case round =>
    clear hA0 hbel
    obtain ⟨i, hin, rfl, hA, hb⟩ := hrel
    have HA := Lib.hid hA
    have HB := Lib.hid hb
    clear hA hb
    by_cases hlt : i < n
    · have hltI : (i : Int) < (n : Int) := by omega
      obtain ⟨c, hc⟩ : ∃ c, L[i]? = some c := ⟨_, List.getElem?_eq_getElem (by rw [HLN.out]; exact hlt)⟩
      have hx : bits .xor .u8 (c.toNat : Int) (u.toNat : Int) = ((c ^^^ u).toNat : Int) := u8x c u
      have hcell := HA.out.cell i (.int .u8 (c.toNat : Int)) (by rw [show bcells (xmP L u i) = (xmP L u i).map fun b => Value.int .u8 (b.toNat : Int) from rfl, List.getElem?_map, xmP_get L u c i hc]; rfl)
      have hfz := HA.out.froz i (by rw [bcells_length, ← List.length_set (i := i) (a := c ^^^ u), xmP_set L u c i hc, xmP, List.length_append, xm_length L (i + 1) u (by rw [HLN.out]; omega), List.length_drop, HLN.out]; omega)
      rw [Nat.zero_add] at hcell hfz
      have HC := Lib.hid hc
      clear hc
      go_wp2_with fail
      go_roundw
      case rel =>
        refine ⟨i + 1, by omega, by go_num, ?_, HB.out.setCell (p := ⟨g, i, none⟩) hgB _⟩
        have h1 := HA.out.set i (.int .u8 ((c ^^^ u).toNat : Int))
        rw [Nat.zero_add, bcells_set, xmP_set L u c i HC.out] at h1
        exact h1
      case measure => simp [intOf]; omega
    · have hie : i = n := by omega
      subst hie
      have hltI : ¬ ((i : Int) < (i : Int)) := by omega
      have hA2 := HA.out
      rw [xmP_all L u i (by rw [HLN.out]; exact Nat.le_refl _)] at hA2
      have HA2 := Lib.hid hA2
      have HT1 := Lib.hid (HT.out.below HB.out HT.out.2.2)
      clear hA2 HA
      go_wp2_with fail
      refine (new_yes kind HK.out _ HT1.out).mono ?_
      rintro e w2 ⟨rfl, h2, hb2⟩
      have hxl : (xm L u).length = i := by rw [xm, List.length_map, HLN.out]
      have hgl : g < wr.heap.size := HA2.out.lt (by intro e; have := congrArg List.length e; rw [bcells_length, hxl] at this; simp at this; omega)
      have hA3 := HA2.out.below hb2 hgl
      obtain ⟨s, hs⟩ : ∃ s : ByteArray, (⟨(xm L u).toArray⟩ : ByteArray) = s := ⟨_, rfl⟩
      have hcv := convert_atH (P := Tryz.prog) (cap := cap) hA3 54 9 5 i hxl Tryz.underlying54 Tryz.underlying5 Tryz.underlying9
      rw [hs] at hcv
      have hsl : s.toList = xm L u := by rw [← hs, tl_mk]
      have hss : s.size ≤ 1024 := by rw [← tl_size, hsl, hxl]; exact hn1
      have HSL := Lib.hid hsl
      have H2 := Lib.hid h2
      have HB2 := Lib.hid (HB.out.trans (hb2.mono HB.out.size))
      have HT2 := Lib.hid (HT1.out.below hb2 HT1.out.2.2)
      have hgw : 2 < wr.heap.size := HT1.out.2.2
      have hsz := HB.out.size
      clear hA3 hsl hs hxl h2 hb2 HA2 HT1 HT HL HLN HN
      go_wp2_with fail
      refine (write_any w2 wr.heap.size kind HK.out [] s H2.out HT2.out hgw (by show 0 + s.size ≤ _; omega)).mono ?_
      rintro e w3 ⟨rfl, h3, hc3⟩
      rw [List.nil_append, HSL.out] at h3
      have H3 := Lib.hid h3
      have HB3 := Lib.hid (HB2.out.trans (hc3.toBelow (B := w.heap.size) hsz HB2.out.size))
      clear h3 hc3 H2 HB2 HT2
      go_wp2_with fail
      go_ret
      exact ⟨wr.heap.size, rfl, hsz, H3.out, HB3.out⟩
end Go.Proofs.YtjlmmlnldjandaaGreatDoor
namespace Go.Proofs.YtjlmmlnldjandaaGreatDoor
open Go.RowKit
set_option linter.unusedVariables false
set_option linter.unusedSimpArgs false
theorem repeatL_nought : ∀ n, Lib.repeatL [(0 : UInt8)] n = List.replicate n 0
  | 0 => rfl
  | n + 1 => by rw [Lib.repeatL_add, repeatL_nought n, Lib.repeatL_one, List.replicate_succ']
theorem rep_nought (s : ByteArray) (n : Nat) (w : World) (hs : s.toList = [0]) (hn : n ≤ 140737488355328) : Calls Tryz.prog 73 #[.string s, .int .i64 (n : Int)] w (RetS (List.replicate n 0) w) := by
  have h1 : s.size = 1 := by rw [← tl_size, hs]; rfl
  refine (Sstrings_Repeat s n w (by omega) (by rw [h1, Nat.one_mul]; exact hn)).mono ?_
  rintro e w' ⟨rfl, hb⟩
  refine ⟨_, rfl, ?_, hb⟩
  rw [tl_mk, ← Lib.toList_data, hs, repeatL_nought]
theorem noughtH_tl : (ByteArray.mk #[0]).toList = [0] := tl_mk _
/-- the Mac is there -/
def RetMc (kind : Int) (K : List UInt8) (w : World) (e : Ending) (w' : World) : Prop := ∃ m, e = .returned (.tuple #[.pointer (some ⟨m, 0, none⟩), .int .i64 0]) ∧ Mc w' w.heap.size m kind K [] ∧ Below w.heap.size w w'
def RetMn (w : World) (e : Ending) (w' : World) : Prop := e = .returned (.tuple #[.pointer none, .int .i64 11]) ∧ w = w'
theorem szBE (kind : Int) (hk : Sh.known kind = false) : Sh.shE kind = 11 := by rw [Sh.shE, hk]; rfl
set_option maxRecDepth 100000 in
theorem hnew_no (kind : Int) (hk : Sh.known kind = false) (K : ByteArray) (w : World) : Calls Tryz.prog 69 #[.int .i64 kind, .string K] w (RetMn w) := by
  have HE := Lib.hid (szBE kind hk)
  clear hk
  go_enter Tryz.func69, Tryz.ntmps69
  go_wp2_with fail
  refine (size_any kind _).mono ?_
  rintro e w1 ⟨rfl, rfl⟩
  rw [HE.out]
  go_wp2_with fail
  go_ret2
  exact ⟨rfl, rfl⟩
set_option maxRecDepth 100000 in
set_option maxHeartbeats 6400000 in
theorem hnew_short (kind : Int) (hk : Sh.known kind = true) (n : Nat) (hn : n = 2 * Sh.bits kind) (K : ByteArray) (hK : K.size ≤ n) (w : World) (hT : Tb w) : Calls Tryz.prog 69 #[.int .i64 kind, .string K] w (RetMc kind K.toList w) := by
  obtain ⟨hkb, hsB, hsA, hoN, hsE⟩ := size_known kind hk
  rw [← hn] at hsB
  have hn1 : n ≤ 128 := by rcases kb_or hkb with h | h <;> omega
  have hn0 : 64 ≤ n := by rcases kb_or hkb with h | h <;> omega
  have HN := Lib.hid hn
  have HSB := Lib.hid hsB
  have HSE := Lib.hid hsE
  have HON := Lib.hid hoN
  have HKN := Lib.hid hk
  have HT := Lib.hid hT
  have hKI : ¬ ((n : Int) < (K.size : Int)) := by omega
  have HKEY : Hid (K.toList = Hm.keyB kind K.toList) := by
    show _ = _
    rw [Hm.keyB, if_neg (by rw [tl_size, ← hn]; omega)]
  have HB1 : Hid (Below w.heap.size w w) := Below.refl _ _
  clear hn hsB hsA hoN hsE hk hT hkb
  go_enter Tryz.func69, Tryz.ntmps69
  go_wp2_with fail
  refine (size_any kind _).mono ?_
  rintro e w1 ⟨rfl, rfl⟩
  rw [HSB.out, HSE.out]
  obtain ⟨d, hd⟩ : ∃ d, d = n - K.size := ⟨_, rfl⟩
  have hdI : (n : Int) - (K.size : Int) = (d : Int) := by omega
  have hdW : IntKind.i64.wrap (d : Int) = (d : Int) := i64_fit d (by omega)
  have hKn : K.size + d = n := by omega
  have HKn := Lib.hid hKn
  have hd1 : d ≤ 128 := by omega
  clear hd hKn
  go_wp2_with fail
  refine (rep_nought (ByteArray.mk #[0]) d _ noughtH_tl (by omega)).mono ?_
  rintro e w2 ⟨R, rfl, hR, hb2⟩
  have hRs : R.size = d := by rw [← tl_size, hR, List.length_replicate]
  have hcat : ¬ 9223372036854775807 < K.size + R.size := by have := HKn.out; omega
  obtain ⟨KB, hKB⟩ : ∃ KB, K ++ R = KB := ⟨_, rfl⟩
  have hKBl : KB.toList = Hm.blk kind K.toList := by
    rw [← hKB, tl_cat, hR, Hm.blk, ← HKEY.out, ← HN.out, tl_size]
    congr 2
    have := HKn.out
    omega
  have hKBs : KB.size = n := by rw [← tl_size, hKBl, Hm.blk_length kind HKN.out, HN.out]
  have HKBl := Lib.hid hKBl
  have HKBs := Lib.hid hKBs
  have HB2 : Hid (Below w.heap.size w w2) := HB1.out.trans (hb2.mono HB1.out.size)
  have HT2 := Lib.hid (HT.out.below HB2.out HT.out.2.2)
  clear hR hb2 hRs hKBl hKBs
  go_wp2_with fail
  refine (begun_any kind HKN.out KB (by rw [HKBs.out]; omega) (by rw [HKBs.out]; omega) 54 54 rfl w2 HT2.out).mono ?_
  rw [HKBl.out]
  clear hKB hcat
  rintro e w3 ⟨g1, rfl, hg1, h1, hb3⟩
  have H1 := Lib.hid h1
  have HB3 : Hid (Below w.heap.size w w3) := HB2.out.trans (hb3.mono HB2.out.size)
  have HT3 := Lib.hid (HT.out.below HB3.out HT.out.2.2)
  have HG1 : Hid (w.heap.size ≤ g1) := Nat.le_trans HB2.out.size hg1
  clear hg1 h1 hb3
  go_wp2_with fail
  refine (begun_any kind HKN.out KB (by rw [HKBs.out]; omega) (by rw [HKBs.out]; omega) 92 92 rfl w3 HT3.out).mono ?_
  rw [HKBl.out]
  rintro e w4 ⟨g2, rfl, hg2, h2, hb4⟩
  have H2 := Lib.hid h2
  have HB4 : Hid (Below w.heap.size w w4) := HB3.out.trans (hb4.mono HB3.out.size)
  have H14 := Lib.hid (H1.out.below hb4 H1.out.lt)
  have HG2 : Hid (w.heap.size ≤ g2) := Nat.le_trans HB3.out.size hg2
  clear hg2 h2 hb4
  go_wp2_with fail
  refine (copy_any w4 g1 kind HKN.out _ H14.out).mono ?_
  rintro e w5 ⟨rfl, h3, hb5⟩
  have H3 := Lib.hid h3
  have HB5 : Hid (Below w.heap.size w w5) := HB4.out.trans (hb5.mono HB4.out.size)
  have H15 := Lib.hid (H14.out.below hb5 H14.out.lt)
  have H25 := Lib.hid (H2.out.below hb5 H2.out.lt)
  have HL1 := Lib.hid H14.out.lt
  have HL2 := Lib.hid H2.out.lt
  clear h3 hb5
  go_wp2_with fail
  go_ret2
  have hA := At.ofAlloc w5 #[.pointer (some ⟨g1, 0, none⟩), .pointer (some ⟨g2, 0, none⟩), .pointer (some ⟨w4.heap.size, 0, none⟩)] 115
  have hb6 : Below w5.heap.size w5 (w5.alloc (.cells #[.pointer (some ⟨g1, 0, none⟩), .pointer (some ⟨g2, 0, none⟩), .pointer (some ⟨w4.heap.size, 0, none⟩)] 115)) := (Below.refl _ _).alloc (Nat.le_refl _) _
  have hl1 := HL1.out
  have hl2 := HL2.out
  have hl3 := H3.out.lt
  have hz4 := HB4.out.size
  have hz5 := HB5.out.size
  refine ⟨w5.heap.size, rfl, ⟨g1, g2, w4.heap.size, hA, ?_, ?_, ?_, by omega, by omega, by omega, by omega, by omega, HG1.out, HG2.out, hz4, hz5⟩, HB5.out.trans (hb6.mono hz5)⟩
  · exact H15.out.below hb6 H15.out.lt
  · exact H25.out.below hb6 H25.out.lt
  · rw [List.append_nil]
    exact H3.out.below hb6 hl3
set_option maxRecDepth 100000 in
set_option maxHeartbeats 6400000 in
theorem hnew_long (kind : Int) (hk : Sh.known kind = true) (n : Nat) (hn : n = 2 * Sh.bits kind) (K : ByteArray) (hK : n < K.size) (hK2 : K.size ≤ 281474976710656) (w : World) (hT : Tb w) : Calls Tryz.prog 69 #[.int .i64 kind, .string K] w (RetMc kind K.toList w) := by
  obtain ⟨hkb, hsB, hsA, hoN, hsE⟩ := size_known kind hk
  rw [← hn] at hsB
  have hn1 : n ≤ 128 := by rcases kb_or hkb with h | h <;> omega
  have hn0 : 64 ≤ n := by rcases kb_or hkb with h | h <;> omega
  have HN := Lib.hid hn
  have HSB := Lib.hid hsB
  have HSE := Lib.hid hsE
  have HON := Lib.hid hoN
  have HKN := Lib.hid hk
  have HT := Lib.hid hT
  have hKI : (n : Int) < (K.size : Int) := by omega
  have SS := Lib.hid (shasum_any kind K w hT hK2)
  clear hn hsB hsA hoN hsE hk hT hkb
  go_enter Tryz.func69, Tryz.ntmps69
  go_wp2_with fail
  refine (size_any kind _).mono ?_
  rintro e w1 ⟨rfl, rfl⟩
  rw [HSB.out, HSE.out]
  go_wp2_with fail
  refine SS.out.mono ?_
  rintro e w1 ⟨K2, rfl, hK2l, hb1⟩
  have hkey : K2.toList = Hm.keyB kind K.toList := by
    rw [hK2l, shaS, HKN.out, if_pos rfl, Hm.keyB, if_pos (by rw [tl_size, ← HN.out]; omega)]
  have hK3 : K2.size ≤ n := by rw [← tl_size, hkey, HN.out]; exact Hm.keyB_le kind HKN.out _
  have HKEY := Lib.hid hkey
  have HB1 := Lib.hid hb1
  clear hK2l hb1 hkey
  obtain ⟨d, hd⟩ : ∃ d, d = n - K2.size := ⟨_, rfl⟩
  have hdI : (n : Int) - (K2.size : Int) = (d : Int) := by omega
  have hdW : IntKind.i64.wrap (d : Int) = (d : Int) := i64_fit d (by omega)
  have hKn : K2.size + d = n := by omega
  have HKn := Lib.hid hKn
  have hd1 : d ≤ 128 := by omega
  clear hd hKn
  go_wp2_with fail
  refine (rep_nought (ByteArray.mk #[0]) d _ noughtH_tl (by omega)).mono ?_
  rintro e w2 ⟨R, rfl, hR, hb2⟩
  have hRs : R.size = d := by rw [← tl_size, hR, List.length_replicate]
  have hcat : ¬ 9223372036854775807 < K2.size + R.size := by have := HKn.out; omega
  obtain ⟨KB, hKB⟩ : ∃ KB, K2 ++ R = KB := ⟨_, rfl⟩
  have hKBl : KB.toList = Hm.blk kind K.toList := by
    rw [← hKB, tl_cat, hR, Hm.blk, ← HKEY.out, ← HN.out, tl_size]
    congr 2
    have := HKn.out
    omega
  have hKBs : KB.size = n := by rw [← tl_size, hKBl, Hm.blk_length kind HKN.out, HN.out]
  have HKBl := Lib.hid hKBl
  have HKBs := Lib.hid hKBs
  have HB2 : Hid (Below w.heap.size w w2) := HB1.out.trans (hb2.mono HB1.out.size)
  have HT2 := Lib.hid (HT.out.below HB2.out HT.out.2.2)
  clear hR hb2 hRs hKBl hKBs
  go_wp2_with fail
  refine (begun_any kind HKN.out KB (by rw [HKBs.out]; omega) (by rw [HKBs.out]; omega) 54 54 rfl w2 HT2.out).mono ?_
  rw [HKBl.out]
  clear hKB hcat
  rintro e w3 ⟨g1, rfl, hg1, h1, hb3⟩
  have H1 := Lib.hid h1
  have HB3 : Hid (Below w.heap.size w w3) := HB2.out.trans (hb3.mono HB2.out.size)
  have HT3 := Lib.hid (HT.out.below HB3.out HT.out.2.2)
  have HG1 : Hid (w.heap.size ≤ g1) := Nat.le_trans HB2.out.size hg1
  clear hg1 h1 hb3
  go_wp2_with fail
  refine (begun_any kind HKN.out KB (by rw [HKBs.out]; omega) (by rw [HKBs.out]; omega) 92 92 rfl w3 HT3.out).mono ?_
  rw [HKBl.out]
  rintro e w4 ⟨g2, rfl, hg2, h2, hb4⟩
  have H2 := Lib.hid h2
  have HB4 : Hid (Below w.heap.size w w4) := HB3.out.trans (hb4.mono HB3.out.size)
  have H14 := Lib.hid (H1.out.below hb4 H1.out.lt)
  have HG2 : Hid (w.heap.size ≤ g2) := Nat.le_trans HB3.out.size hg2
  clear hg2 h2 hb4
  go_wp2_with fail
  refine (copy_any w4 g1 kind HKN.out _ H14.out).mono ?_
  rintro e w5 ⟨rfl, h3, hb5⟩
  have H3 := Lib.hid h3
  have HB5 : Hid (Below w.heap.size w w5) := HB4.out.trans (hb5.mono HB4.out.size)
  have H15 := Lib.hid (H14.out.below hb5 H14.out.lt)
  have H25 := Lib.hid (H2.out.below hb5 H2.out.lt)
  have HL1 := Lib.hid H14.out.lt
  have HL2 := Lib.hid H2.out.lt
  clear h3 hb5
  go_wp2_with fail
  go_ret2
  have hA := At.ofAlloc w5 #[.pointer (some ⟨g1, 0, none⟩), .pointer (some ⟨g2, 0, none⟩), .pointer (some ⟨w4.heap.size, 0, none⟩)] 115
  have hb6 : Below w5.heap.size w5 (w5.alloc (.cells #[.pointer (some ⟨g1, 0, none⟩), .pointer (some ⟨g2, 0, none⟩), .pointer (some ⟨w4.heap.size, 0, none⟩)] 115)) := (Below.refl _ _).alloc (Nat.le_refl _) _
  have hl1 := HL1.out
  have hl2 := HL2.out
  have hl3 := H3.out.lt
  have hz4 := HB4.out.size
  have hz5 := HB5.out.size
  refine ⟨w5.heap.size, rfl, ⟨g1, g2, w4.heap.size, hA, ?_, ?_, ?_, by omega, by omega, by omega, by omega, by omega, HG1.out, HG2.out, hz4, hz5⟩, HB5.out.trans (hb6.mono hz5)⟩
  · exact H15.out.below hb6 H15.out.lt
  · exact H25.out.below hb6 H25.out.lt
  · rw [List.append_nil]
    exact H3.out.below hb6 hl3
theorem hnew_any (kind : Int) (hk : Sh.known kind = true) (K : ByteArray) (hK2 : K.size ≤ 281474976710656) (w : World) (hT : Tb w) : Calls Tryz.prog 69 #[.int .i64 kind, .string K] w (RetMc kind K.toList w) := by
  by_cases h : K.size ≤ 2 * Sh.bits kind
  · exact hnew_short kind hk _ rfl K h w hT
  · exact hnew_long kind hk _ rfl K (by omega) hK2 w hT
end Go.Proofs.YtjlmmlnldjandaaGreatDoor
namespace Go.Proofs.YtjlmmlnldjandaaGreatDoor
open Go.RowKit
set_option linter.unusedVariables false
set_option linter.unusedSimpArgs false
set_option maxRecDepth 100000 in
theorem hnone_nil (w : World) : Calls Tryz.prog 104 #[.pointer none] w (RetKn true w) := by
  go_enter Tryz.func104, Tryz.ntmps104
  go_wp2_with fail
  go_ret
  exact ⟨rfl, rfl⟩
set_option maxRecDepth 100000 in
theorem hnone_zero (g : Nat) (w : World) (h : w.cell? ⟨g, 2, none⟩ = some (.pointer none)) : Calls Tryz.prog 104 #[.pointer (some ⟨g, 0, none⟩)] w (RetKn true w) := by
  go_enter Tryz.func104, Tryz.ntmps104
  go_wp2_with fail
  go_ret
  exact ⟨rfl, rfl⟩
set_option maxRecDepth 100000 in
theorem hnone_no (g g3 : Nat) (w : World) (h : w.cell? ⟨g, 2, none⟩ = some (.pointer (some ⟨g3, 0, none⟩))) : Calls Tryz.prog 104 #[.pointer (some ⟨g, 0, none⟩)] w (RetKn false w) := by
  go_enter Tryz.func104, Tryz.ntmps104
  go_wp2_with fail
  go_ret
  exact ⟨rfl, rfl⟩
def RetMw (B m : Nat) (kind : Int) (K T : List UInt8) (w : World) (e : Ending) (w' : World) : Prop := e = .returned (.int .i64 0) ∧ Mc w' B m kind K T ∧ Below B w w'
set_option maxRecDepth 100000 in
set_option maxHeartbeats 1600000 in
theorem hwrite_any (w : World) (B m : Nat) (kind : Int) (hk : Sh.known kind = true) (K T : List UInt8) (s : ByteArray) (h : Mc w B m kind K T) (hB : 2 < B) (hT : Tb w) (hl : 128 + T.length + s.size ≤ 1125899906842624) :
    Calls Tryz.prog 76 #[.pointer (some ⟨m, 0, none⟩), .string s] w (RetMw B m kind K (T ++ s.toList) w) := by
  obtain ⟨g1, g2, g3, hA, h1, h2, h3, n1, n2, n3, n4, n5, b1, b2, b3, b4⟩ := h.ptrs
  have hb6 : 2 * Sh.bits kind ≤ 128 := by rcases kb_or (size_known kind hk).1 with e | e <;> omega
  have c2 := hA.cell 2 _ rfl
  rw [Nat.zero_add] at c2
  have NN := Lib.hid (hnone_no m g3 w c2)
  have WR := Lib.hid (write_any w g3 kind hk _ s h3 hT (by omega) (by rw [List.length_append, Hm.xk_length kind hk]; omega))
  have HM : Hid (∀ w', Chg g3 w w' → Hst w' g3 kind (Sh.bits kind) (Hm.xk kind K 54 ++ T ++ s.toList) → Mc w' B m kind K (T ++ s.toList) ∧ Below B w w') := by
    intro w' hc h4
    rw [List.append_assoc] at h4
    have hmw := h.lt
    exact ⟨⟨g1, g2, g3, hA.chg hc (by omega), h1.chg hc (by omega), h2.chg hc (by omega), h4, n1, n2, n3, n4, n5, b1, b2, b3, b4⟩, hc.toBelow (by omega) (by omega)⟩
  clear h hA h1 h2 h3 hT hl hk hb6 n1 n2 n3 n4 n5 b1 b2 b3 b4 hB
  go_enter Tryz.func76, Tryz.ntmps76
  go_wp2_with fail
  refine NN.out.mono ?_
  rintro e w1 ⟨rfl, rfl⟩
  go_wp2_with fail
  refine WR.out.mono ?_
  rintro e w2 ⟨rfl, h4, hc⟩
  have HF := Lib.hid (HM.out w2 hc h4)
  clear h4 hc
  go_wp2_with fail
  go_ret
  exact ⟨rfl, HF.out.1, HF.out.2⟩
set_option maxRecDepth 100000 in
set_option maxHeartbeats 1600000 in
theorem hagain_any (w : World) (B m : Nat) (kind : Int) (hk : Sh.known kind = true) (K T : List UInt8) (h : Mc w B m kind K T) :
    Calls Tryz.prog 88 #[.pointer (some ⟨m, 0, none⟩)] w (RetMw B m kind K [] w) := by
  have hmw := h.lt
  obtain ⟨g1, g2, g3, hA, h1, h2, h3, n1, n2, n3, n4, n5, b1, b2, b3, b4⟩ := h.ptrs
  have c0 := hA.cell 0 _ rfl
  have c2 := hA.cell 2 _ rfl
  rw [Nat.zero_add] at c0 c2
  have NN := Lib.hid (hnone_no m g3 w c2)
  have CP := Lib.hid (copy_any w g1 kind hk _ h1)
  have HM : Hid (∀ w', Below w.heap.size w w' → Hst w' w.heap.size kind (Sh.bits kind) (Hm.xk kind K 54) → w'.frozen? ⟨m, 2, none⟩ = false ∧ w'.cell? ⟨m, 2, none⟩ = some (.pointer (some ⟨g3, 0, none⟩)) ∧ Mc (w'.setCell ⟨m, 2, none⟩ (.pointer (some ⟨w.heap.size, 0, none⟩))) B m kind K [] ∧ Below B w (w'.setCell ⟨m, 2, none⟩ (.pointer (some ⟨w.heap.size, 0, none⟩)))) := by
    intro w' hb h4
    have hA2 := hA.below hb hmw.2
    have l1 := h1.lt
    have l2 := h2.lt
    have hc : Chg m w' (w'.setCell ⟨m, 2, none⟩ (.pointer (some ⟨w.heap.size, 0, none⟩))) := (Chg.refl m w').setCell 2 _
    have hs := hA2.set 2 (.pointer (some ⟨w.heap.size, 0, none⟩))
    rw [Nat.zero_add] at hs
    have f2 := hA2.froz 2 (by simp)
    have d2 := hA2.cell 2 _ rfl
    rw [Nat.zero_add] at f2 d2
    refine ⟨f2, d2, ⟨g1, g2, w.heap.size, hs, (h1.below hb l1).chg hc n4, (h2.below hb l2).chg hc n5, ?_, by omega, by omega, by omega, n4, n5, b1, b2, by omega, b4⟩, (hb.mono (by omega)).trans (hc.toBelow b4 (by have := hb.size; omega))⟩
    rw [List.append_nil]
    exact h4.chg hc (by omega)
  clear h hA h1 h2 h3 hk n1 n2 n3 n4 n5 b1 b2 b3 b4 hmw
  go_enter Tryz.func88, Tryz.ntmps88
  go_wp2_with fail
  refine NN.out.mono ?_
  rintro e w1 ⟨rfl, rfl⟩
  go_wp2_with fail
  refine CP.out.mono ?_
  rintro e w2 ⟨rfl, h4, hb⟩
  obtain ⟨f2, d2, hm3, hb3⟩ := HM.out w2 hb h4
  have HF := Lib.hid (And.intro hm3 hb3)
  clear h4 hb hm3 hb3 c0 c2
  go_wp2_with fail
  go_ret
  exact ⟨rfl, HF.out.1, HF.out.2⟩
set_option maxRecDepth 100000 in
set_option maxHeartbeats 1600000 in
theorem hmacsum_any (w : World) (B m : Nat) (kind : Int) (hk : Sh.known kind = true) (K T : List UInt8) (h : Mc w B m kind K T) (hB : 2 < B) (hT : Tb w) (hl : 128 + T.length ≤ 562949953421312) :
    Calls Tryz.prog 77 #[.pointer (some ⟨m, 0, none⟩)] w (RetSE (Hm.mac kind K T) 0 w) := by
  have hmw := h.lt
  obtain ⟨g1, g2, g3, hA, h1, h2, h3, n1, n2, n3, n4, n5, b1, b2, b3, b4⟩ := h.ptrs
  have hb6 : 2 * Sh.bits kind ≤ 128 := by rcases kb_or (size_known kind hk).1 with e | e <;> omega
  have hoN := (size_known kind hk).2.2.2.1
  have c2 := hA.cell 2 _ rfl
  rw [Nat.zero_add] at c2
  have NN := Lib.hid (hnone_no m g3 w c2)
  have HS := Lib.hid (hsum_any w g3 kind hk _ h3 hT (by rw [List.length_append, Hm.xk_length kind hk]; omega))
  have HA := Lib.hid hA
  have H2 := Lib.hid h2
  have HT := Lib.hid hT
  have HK := Lib.hid hk
  have HW : Hid (2 < w.heap.size) := by show _ < _; omega
  have HO : Hid (Sh.outN kind ≤ 64 ∧ 2 * Sh.bits kind ≤ 128) := by show _ ∧ _; omega
  have HMW := Lib.hid hmw.2
  clear h hA h1 h2 h3 hk n1 n2 n3 n4 n5 b1 b2 b3 b4 hmw hT hl hB hb6 hoN
  go_enter Tryz.func77, Tryz.ntmps77
  go_wp2_with fail
  refine NN.out.mono ?_
  rintro e w1 ⟨rfl, rfl⟩
  go_wp2_with fail
  refine HS.out.mono ?_
  rintro e w2 ⟨x, rfl, hx, hb2⟩
  have HX := Lib.hid hx
  have HB2 := Lib.hid hb2
  have H22 := Lib.hid (H2.out.below hb2 H2.out.lt)
  have HT2 := Lib.hid (HT.out.below hb2 HT.out.2.2)
  have c1 := (HA.out.below hb2 HMW.out).cell 1 _ rfl
  rw [Nat.zero_add] at c1
  have HW2 : Hid (2 < w2.heap.size) := Nat.lt_of_lt_of_le HW.out hb2.size
  clear hx hb2 c2
  go_wp2_with fail
  refine (copy_any w2 g2 kind HK.out _ H22.out).mono ?_
  rintro e w3 ⟨rfl, h3, hb3⟩
  have H3 := Lib.hid h3
  have HT3 := Lib.hid (HT2.out.below hb3 HT2.out.2.2)
  have HB3 := Lib.hid (HB2.out.trans (hb3.mono HB2.out.size))
  clear h3 hb3 c1
  go_wp2_with fail
  refine (write_any w3 w2.heap.size kind HK.out _ x H3.out HT3.out HW2.out (by have := HO.out; have h5 := sh_len kind HK.out (Hm.xk kind K 54 ++ T); rw [← HX.out, tl_size] at h5; rw [Hm.xk_length kind HK.out]; omega)).mono ?_
  rintro e w4 ⟨rfl, h4, hc4⟩
  have H4 := Lib.hid h4
  have HT4 := Lib.hid (HT3.out.chg hc4 HW2.out)
  have HB4 : Hid (Below w.heap.size w w4) := HB3.out.trans (hc4.toBelow HB2.out.size HB3.out.size)
  clear h4 hc4
  go_wp2_with fail
  refine (hsum_any w4 w2.heap.size kind HK.out _ H4.out HT4.out (by have := HO.out; have h5 := sh_len kind HK.out (Hm.xk kind K 54 ++ T); rw [← HX.out, tl_size] at h5; rw [List.length_append, tl_size, Hm.xk_length kind HK.out]; omega)).mono ?_
  rintro e w5 ⟨y, rfl, hy, hb5⟩
  have HY := Lib.hid hy
  have HB5 : Hid (Below w.heap.size w w5) := HB4.out.trans (hb5.mono HB4.out.size)
  clear hy hb5
  go_wp2_with fail
  go_ret2
  exact ret_se HY.out (by rw [HX.out, Hm.mac]) rfl HB5.out
/-- a digest at once -/
def hmS (kind : Int) (K T : List UInt8) : List UInt8 := if Sh.known kind then Hm.mac kind K T else []
set_option maxRecDepth 100000 in
set_option maxHeartbeats 1600000 in
theorem hmS_any (kind : Int) (K T : ByteArray) (w : World) (hT : Tb w) (hK : K.size ≤ 281474976710656) (hl : T.size ≤ 281474976710656) :
    Calls Tryz.prog 50 #[.int .i64 kind, .string K, .string T] w (RetSE (hmS kind K.toList T.toList) (Sh.shE kind) w) := by
  cases hk : Sh.known kind
  · have NW := Lib.hid (hnew_no kind hk K w)
    have HK := Lib.hid hk
    clear hk hT hl hK
    go_enter Tryz.func50, Tryz.ntmps50
    go_wp2_with fail
    refine NW.out.mono ?_
    rintro e w1 ⟨rfl, rfl⟩
    go_wp2_with fail
    go_ret2
    exact ret_se (tl_mk []) (by rw [hmS, HK.out]; rfl) (by rw [Sh.shE, HK.out]; rfl) (Below.refl _ _)
  · have NW := Lib.hid (hnew_any kind hk K hK w hT)
    have HK := Lib.hid hk
    have HTB := Lib.hid hT
    have HL := Lib.hid hl
    clear hk hT hK hl
    go_enter Tryz.func50, Tryz.ntmps50
    go_wp2_with fail
    refine NW.out.mono ?_
    rintro e w1 ⟨m, rfl, h1, hb1⟩
    have H1 := Lib.hid h1
    have HB1 := Lib.hid hb1
    have HT1 := Lib.hid (HTB.out.below hb1 HTB.out.2.2)
    clear h1 hb1
    go_wp2_with fail
    refine (hwrite_any w1 w.heap.size m kind HK.out _ [] T H1.out HTB.out.2.2 HT1.out (by have := HL.out; simp; omega)).mono ?_
    rintro e w2 ⟨rfl, h2, hb2⟩
    rw [List.nil_append] at h2
    have H2 := Lib.hid h2
    have HB2 := Lib.hid (HB1.out.trans hb2)
    have HT2 := Lib.hid (HTB.out.below HB2.out HTB.out.2.2)
    clear h2 hb2
    go_wp2_with fail
    refine (hmacsum_any w2 w.heap.size m kind HK.out _ _ H2.out HTB.out.2.2 HT2.out (by rw [tl_size]; have := HL.out; omega)).mono ?_
    rintro e w3 ⟨y, rfl, hy, hb3⟩
    have HY := Lib.hid hy
    have HB3 : Hid (Below w.heap.size w w3) := HB2.out.trans (hb3.mono HB2.out.size)
    clear hy hb3
    go_wp2_with fail
    go_ret2
    exact ret_se HY.out (by rw [hmS, HK.out]; rfl) (by rw [Sh.shE, HK.out]; rfl) HB3.out
set_option maxRecDepth 100000 in
set_option maxHeartbeats 1600000 in
theorem rhmS_any (kind : Int) (K T : ByteArray) (w : World) (hK : K.size ≤ 17592186044416) (hl : T.size ≤ 17592186044416) :
    Calls Tryz.prog 32 #[.int .i64 kind, .string K, .string T] w (RetSE (hmS kind K.toList T.toList) (Sh.shE kind) w) := by
  cases hk : Sh.known kind
  · have HK := Lib.hid hk
    have KN := known_any kind w
    rw [hk] at KN
    clear hk hl hK
    go_enter Tryz.func32, Tryz.ntmps32
    go_wp2_with fail
    refine KN.mono ?_
    rintro e w1 ⟨rfl, rfl⟩
    go_wp2_with fail
    go_ret2
    exact ret_se (tl_mk []) (by rw [hmS, HK.out]; rfl) (by rw [Sh.shE, HK.out]; rfl) (Below.refl _ _)
  · have HK := Lib.hid hk
    have KN := known_any kind w
    rw [hk] at KN
    have HL := Lib.hid (And.intro hK hl)
    clear hk hK hl
    go_enter Tryz.func32, Tryz.ntmps32
    go_wp2_with fail
    refine KN.mono ?_
    rintro e w1 ⟨rfl, rfl⟩
    go_wp2_with fail
    refine (make_any kind w HK.out).mono ?_
    rintro e w2 ⟨rfl, hru, hb2⟩
    have HRU := Lib.hid hru
    clear hru
    go_wp2_with fail
    refine (rwith_any w2 w.heap.size kind HK.out HRU.out K T HL.out.1 HL.out.2).mono ?_
    rintro e w3 ⟨y, rfl, hy, hb3⟩
    have HY := Lib.hid hy
    clear hy
    go_wp2_with fail
    go_ret2
    exact ret_se HY.out (by rw [hmS, HK.out]; rfl) (by rw [Sh.shE, HK.out]; rfl) (hb2.trans (hb3.mono hb2.size))
end Go.Proofs.YtjlmmlnldjandaaGreatDoor
namespace Go.Proofs.YtjlmmlnldjandaaGreatDoor
open Go.RowKit
set_option linter.unusedVariables false
set_option linter.unusedSimpArgs false
def foxL : List UInt8 := [84, 104, 101, 32, 113, 117, 105, 99, 107, 32, 98, 114, 111, 119, 110, 32, 102, 111, 120, 32, 106, 117, 109, 112, 115, 32, 111, 118, 101, 114, 32, 116, 104, 101, 32, 108, 97, 122, 121, 32, 100, 111, 103]
theorem Hm.fox : (Hm.mac 256 [107, 101, 121] foxL).take 4 = [247, 188, 131, 244] := by decide +kernel
theorem mac_len (kind : Int) (hk : Sh.known kind = true) (K T : List UInt8) : (Hm.mac kind K T).length = Sh.outN kind := by rw [Hm.mac, sh_len kind hk]
theorem hmS_keyB (kind : Int) (hk : Sh.known kind = true) (K T : List UInt8) (h : 2 * Sh.bits kind < K.length) : hmS kind (Sh.shL kind K) T = hmS kind K T := by
  rw [hmS, hmS, if_pos hk, if_pos hk]
  have := Hm.mac_keyB kind hk K T
  rwa [Hm.keyB, if_pos h] at this
theorem hmS_nought (kind : Int) (K T : List UInt8) (h : K.length < 2 * Sh.bits kind) : hmS kind (K ++ [0]) T = hmS kind K T := by
  rw [hmS, hmS, Hm.mac_nought kind K T h]
set_option maxRecDepth 100000 in
theorem mSum_nil (w : World) : Calls Tryz.prog 77 #[.pointer none] w (fun e w' => e = .returned (.tuple #[.string ByteArray.empty, .int .i64 1]) ∧ w = w') := by
  have NN := Lib.hid (hnone_nil w)
  go_enter Tryz.func77, Tryz.ntmps77
  go_wp2_with fail
  refine NN.out.mono ?_
  rintro e w1 ⟨rfl, rfl⟩
  go_wp2_with fail
  go_ret2
  exact ⟨rfl, rfl⟩
set_option maxRecDepth 100000 in
theorem mWrite_nil (s : ByteArray) (w : World) : Calls Tryz.prog 76 #[.pointer none, .string s] w (fun e w' => e = .returned (.int .i64 1) ∧ w = w') := by
  have NN := Lib.hid (hnone_nil w)
  go_enter Tryz.func76, Tryz.ntmps76
  go_wp2_with fail
  refine NN.out.mono ?_
  rintro e w1 ⟨rfl, rfl⟩
  go_wp2_with fail
  go_ret
  exact ⟨rfl, rfl⟩
set_option maxRecDepth 100000 in
theorem mAgain_nil (w : World) : Calls Tryz.prog 88 #[.pointer none] w (fun e w' => e = .returned (.int .i64 1) ∧ w = w') := by
  have NN := Lib.hid (hnone_nil w)
  go_enter Tryz.func88, Tryz.ntmps88
  go_wp2_with fail
  refine NN.out.mono ?_
  rintro e w1 ⟨rfl, rfl⟩
  go_wp2_with fail
  go_ret
  exact ⟨rfl, rfl⟩
set_option maxRecDepth 100000 in
theorem mSum_zero (g : Nat) (w : World) (h : w.cell? ⟨g, 2, none⟩ = some (.pointer none)) : Calls Tryz.prog 77 #[.pointer (some ⟨g, 0, none⟩)] w (fun e w' => e = .returned (.tuple #[.string ByteArray.empty, .int .i64 1]) ∧ w = w') := by
  have NN := Lib.hid (hnone_zero g w h)
  clear h
  go_enter Tryz.func77, Tryz.ntmps77
  go_wp2_with fail
  refine NN.out.mono ?_
  rintro e w1 ⟨rfl, rfl⟩
  go_wp2_with fail
  go_ret2
  exact ⟨rfl, rfl⟩
set_option maxRecDepth 100000 in
theorem mWrite_zero (g : Nat) (s : ByteArray) (w : World) (h : w.cell? ⟨g, 2, none⟩ = some (.pointer none)) : Calls Tryz.prog 76 #[.pointer (some ⟨g, 0, none⟩), .string s] w (fun e w' => e = .returned (.int .i64 1) ∧ w = w') := by
  have NN := Lib.hid (hnone_zero g w h)
  clear h
  go_enter Tryz.func76, Tryz.ntmps76
  go_wp2_with fail
  refine NN.out.mono ?_
  rintro e w1 ⟨rfl, rfl⟩
  go_wp2_with fail
  go_ret
  exact ⟨rfl, rfl⟩
set_option maxRecDepth 100000 in
theorem mAgain_zero (g : Nat) (w : World) (h : w.cell? ⟨g, 2, none⟩ = some (.pointer none)) : Calls Tryz.prog 88 #[.pointer (some ⟨g, 0, none⟩)] w (fun e w' => e = .returned (.int .i64 1) ∧ w = w') := by
  have NN := Lib.hid (hnone_zero g w h)
  clear h
  go_enter Tryz.func88, Tryz.ntmps88
  go_wp2_with fail
  refine NN.out.mono ?_
  rintro e w1 ⟨rfl, rfl⟩
  go_wp2_with fail
  go_ret
  exact ⟨rfl, rfl⟩
end Go.Proofs.YtjlmmlnldjandaaGreatDoor
namespace Go.Proofs.YtjlmmlnldjandaaGreatDoor
open Go.RowKit
set_option linter.unusedVariables false
set_option linter.unusedSimpArgs false
/-- a slice of texts that came in -/
structure TextsH (W : World) (ad : Option Addr) (len : Nat) (ss : List ByteArray) : Prop where
  at_ : 0 < len → ∃ b off, ad = some ⟨b, off, none⟩ ∧ b < W.heap.size ∧ ∀ j, j < len → W.cell? ⟨b, off + j, none⟩ = some (.string (ss.getD j ByteArray.empty))
  small : ∀ j, j < len → (ss.getD j ByteArray.empty).size ≤ maxLen
end Go.Proofs.YtjlmmlnldjandaaGreatDoor
