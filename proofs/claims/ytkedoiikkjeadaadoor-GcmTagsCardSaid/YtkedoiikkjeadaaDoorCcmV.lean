/- Joined by merge.py: CtrC CtrD CbcX CbcY CcmP CcmA CcmB CcmC CcmD CcmE CcmF CcmG CcmH CcmI CcmX CcmJ CcmK. -/
import Derived.Test.YtkedoiikkjeadaaDoorCtrB
import Derived.Test.YtkedoiikkjeadaaDoorOctC
import Derived.Test.YtkedoiikkjeadaaDoorAesBe
import Derived.Test.YtkedoiikkjeadaaDoorAesBo
import Derived.Test.YtkedoiikkjeadaaDoorRowC
import Derived.ArgAppend
import Derived.Test.YtkedoiikkjeadaaDoorCtrP
import Derived.Test.YtkedoiikkjeadaaDoorAesM
import Derived.Test.YtkedoiikkjeadaaDoorShf
import Derived.Test.YtkedoiikkjeadaaDoorOctA
import Derived.IntWalk
namespace Go.Proofs.YtkedoiikkjeadaaDoor
open Go.RowKit
set_option linter.unusedVariables false
set_option linter.unusedSimpArgs false
theorem At.take {w : World} {g : Nat} {l : List UInt8} (h : At w g 0 (bcells l)) (n : Nat) : At w g 0 (bcells (l.take n)) := by
  rw [← List.take_append_drop n l, bcells_append] at h
  exact h.split.1
theorem rcnext_ok (s : ByteArray) (wd n : Nat) (w : World) (hn : n < 2 ^ 64) (hs : s.size = 16) (h1 : 1 ≤ wd) (h16 : wd ≤ 16) : Calls Tryd.prog 62 #[.string s, .int .i64 (wd : Int), .int .u64 (n : Int)] w (RetSE (nxt s.toList wd n) 0 w) := by
  have h := rcnext_any s (wd : Int) n w hn
  have hE : mayE s.size (wd : Int) = 0 := by rw [mayE, if_pos hs, if_neg (by omega)]
  have hL : nextL s.toList (wd : Int) n = nxt s.toList wd n := by rw [nextL, tl_size, if_pos hE, Int.toNat_natCast]
  rwa [hE, hL] at h
theorem own_slice {w : World} {B e n : Nat} {v : Value} {xs : List Value} (h : w.ownsRow B e 1 v n xs) : ∃ p cap, v = .slice p n cap := by
  rcases h.2 with ⟨rfl, rfl⟩ | ⟨g, cap, cur, rfl, _⟩
  · exact ⟨none, 0, rfl⟩
  · exact ⟨some ⟨g, 0, none⟩, cap, rfl⟩
set_option maxRecDepth 100000 in
set_option maxHeartbeats 3200000 in
theorem rstream_zero (start : ByteArray) (wd : Nat) (w : World) (g : Nat) : Calls Tryd.prog 63 #[.pointer (some ⟨g, 0, none⟩), .string start, .int .i64 (wd : Int), .int .i64 0] w (RetS [] w) := by
  go_enter Tryd.func63, Tryd.ntmps63
  go_wp2_with fail
  go_loopw [9] (fun v wr => v = .slice none 0 0 ∧ w = wr) (fun _ _ => 0)
  case atStart => exact ⟨rfl, rfl⟩
  case round =>
    obtain ⟨rfl, rfl⟩ := hrel
    have hcv := run_convert_bytes_nil (P := Tryd.prog) w 56 5 Tryd.underlying56 Tryd.underlying5 0 0 9 Tryd.underlying9
    go_wp2_with fail
    go_ret
    exact ⟨_, rfl, tl_mk [], Below.refl _ _⟩
set_option maxRecDepth 100000 in
set_option maxHeartbeats 3200000 in
theorem rstream_pos (start : ByteArray) (wd n : Nat) (w : World) (g : Nat) (K : List UInt8) (hB : Box w g K) (hK : K.length = 16 ∨ K.length = 24 ∨ K.length = 32) (hs : start.size = 16) (h1 : 1 ≤ wd) (h16 : wd ≤ 16) (hn : n ≤ 70000) (hn0 : 0 < n) :
    Calls Tryd.prog 63 #[.pointer (some ⟨g, 0, none⟩), .string start, .int .i64 (wd : Int), .int .i64 (n : Int)] w (RetS ((ctrS K start.toList wd (blk n)).take n) w) := by
  obtain ⟨i0, hi, hz0, hz1, hz2⟩ := info_parts info5
  have HB := Lib.hid hB
  have HS := Lib.hid hs
  clear hB hs
  go_enter Tryd.func63, Tryd.ntmps63
  go_wp2_with fail
  go_loopw [9, 10] (fun v i wr => ∃ k m : Nat, m = 16 * k ∧ m ≤ n + 15 ∧ i = .int .u64 k ∧ wr.ownsRow w.heap.size 5 1 v m (bcells (ctrS K start.toList wd k)) ∧ Below w.heap.size w wr) (fun v _ _ => n - lenOf v)
  case atStart => exact ⟨0, 0, rfl, by omega, rfl, World.ownsRow_nil _ _ _ _, Below.refl _ _⟩
  case round =>
    obtain ⟨k, m, hm, hmn, rfl, hO, hbl⟩ := hrel
    obtain ⟨p, cap, rfl⟩ := own_slice hO
    have HO := Lib.hid hO
    have HMK := Lib.hid hm
    have hsz := hbl.size
    clear hO
    by_cases hlt : m < n
    · have hltI : (m : Int) < (n : Int) := by omega
      have hkb : k < 2 ^ 64 := by omega
      have hk1 : (k : Int) < 100000 := by omega
      clear hm
      go_wp2_with fail
      refine (rcnext_ok start wd k _ hkb HS.out h1 h16).mono ?_
      rintro e w1 ⟨c, rfl, hc, hb1⟩
      have hcs : c.size = 16 := by rw [← tl_size, hc, nxt_length _ _ _ (by rw [tl_size]; exact HS.out)]
      have hb01 := hbl.trans (hb1.mono hsz)
      have HC := Lib.hid hc
      have HO1 := Lib.hid (own_below HO.out hb1 (Nat.le_refl _))
      clear hc hb1
      go_wp2_with fail
      refine (rencrypt_any c _ g K (HB.out.below hb01 (Nat.le_refl _)) hK hcs).mono ?_
      rintro e w2 ⟨s, rfl, hs2, hb2⟩
      have hss : s.size = 16 := by rw [← tl_size, hs2, encL_length]
      have hb02 := hb01.trans (hb2.mono hb01.size)
      have HO2 := Lib.hid (own_below HO1.out hb2 (Nat.le_refl _))
      have HSS := Lib.hid hss
      have HX := Lib.hid hs2
      have hbs := hb02.size
      clear hss hs2 hb2 HO1 hcs
      go_wp2_with (at_builtin; refine Lib.wpList_append_own_string _ rfl (.tmp 26) (.tmp 29) 56 9 rfl w.heap.size 5 i0 Tryd.underlying56 Tryd.underlying9 hi hz0 hz1 hz2 (.slice p m cap) m _ rfl HO2.out s rfl (by rw [HSS.out]; unfold maxLen; omega) (by rw [HSS.out]; omega) hbs ?_; intro v' w3 hown3 hgrow3 _)
      have e1 : Lib.strCells s = bcells s.toList := by
        rw [Lib.toList_data]
        simp [Lib.strCells, bcells]
      rw [e1, ← bcells_append, HX.out, HC.out, HSS.out] at hown3
      have hb03 := hb02.grown hgrow3 hbs (fun b hb => (HO2.out.lt b hb).1)
      obtain ⟨p', cap', rfl⟩ := own_slice hown3
      have HO3 := Lib.hid hown3
      clear hown3 hgrow3 e1 HO2
      go_wp2_with fail
      go_roundw
      case rel => exact ⟨k + 1, m + 16, by have := HMK.out; omega, by omega, by go_num, HO3.out, hb03⟩
      case measure => simp [lenOf]; omega
    · have hm0 : 0 < m := by omega
      obtain ⟨gv, cap', hv⟩ := own_is HO.out hm0
      injection hv with hp _ hcap
      subst hp hcap
      have hcapm : m ≤ cap := by
        rcases HO.out.2 with ⟨h, _⟩ | ⟨g', cap', cur, hv, _, _, hc, _⟩
        · cases h
        · cases hv; exact hc
      have hA := At.ofOwnN HO.out
      have hA2 := hA.take n
      have hl : ((ctrS K start.toList wd k).take n).length = n := by rw [List.length_take, ctrS_length]; omega
      have hk2 : ∃ j, k = blk n + j := ⟨k - blk n, by unfold blk; omega⟩
      obtain ⟨j, hj⟩ := hk2
      have hfin : (ctrS K start.toList wd k).take n = (ctrS K start.toList wd (blk n)).take n := by
        rw [hj, ← ctrS_take K start.toList wd j (blk n), List.take_take, Nat.min_eq_left (by unfold blk; omega)]
      have hcv := convert_at (P := Tryd.prog) (cap := cap) hA2 56 9 5 n hl Tryd.underlying56 Tryd.underlying5 Tryd.underlying9
      have HF := Lib.hid hfin
      have hltI : ¬ (m : Int) < (n : Int) := by omega
      have hncI : (n : Int) ≤ (cap : Int) := by omega
      have hnc : n ≤ cap := by omega
      have hn0I : (0 : Int) ≤ (n : Int) := by omega
      clear hA hA2 hl hj hfin hm HO HMK
      go_wp2_with fail
      go_ret
      exact ⟨_, rfl, by rw [tl_mk, HF.out], hbl⟩
end Go.Proofs.YtkedoiikkjeadaaDoor
namespace Go.Proofs.YtkedoiikkjeadaaDoor
open Go.RowKit
set_option linter.unusedVariables false
set_option linter.unusedSimpArgs false
theorem keyOk_yes {n : Nat} (h : n = 16 ∨ n = 24 ∨ n = 32) : keyOk n = true := by simp [keyOk, h]
theorem keyOk_no {n : Nat} (h1 : n ≠ 16) (h2 : n ≠ 24) (h3 : n ≠ 32) : keyOk n = false := by simp [keyOk, h1, h2, h3]
theorem ctrR_ne {K S T : List UInt8} {wd : Int} (h : ctrE K.length S.length wd T.length ≠ 0) : ctrR K S wd T = [] := by rw [ctrR, if_neg h]
theorem ctrR_ok {K S T : List UInt8} {wd : Nat} (h : ctrE K.length S.length (wd : Int) T.length = 0) : ctrR K S (wd : Int) T = ctrL K S wd T := by rw [ctrR, if_pos h, Int.toNat_natCast]
theorem ctrE_zero {k n t : Nat} {wd : Int} (h : ctrE k n wd t = 0) : (k = 16 ∨ k = 24 ∨ k = 32) ∧ n = 16 ∧ 1 ≤ wd ∧ wd ≤ 16 ∧ t ≤ 70000 := by
  unfold ctrE at h
  split at h
  · rename_i hk
    split at h
    · rename_i hm
      split at h
      · cases h
      · obtain ⟨a, b, c⟩ := may_zero hm
        exact ⟨by simpa [keyOk] using hk, a, b, c, by omega⟩
    · rename_i hm; exact absurd h hm
  · cases h
theorem may_range (n : Nat) (wd : Int) : mayE n wd = 0 ∨ mayE n wd = 2 ∨ mayE n wd = 4 := by
  unfold mayE
  split
  · split <;> simp
  · simp
set_option maxRecDepth 100000 in
set_option maxHeartbeats 1600000 in
theorem cxor_any (key start text : ByteArray) (wd : Int) (w : World) : Calls Tryd.prog 57 #[.string key, .string start, .int .i64 wd, .string text] w (RetSE (ctrR key.toList start.toList wd text.toList) (ctrE key.size start.size wd text.size) w) := by
  have htl : ctrE key.toList.length start.toList.length wd text.toList.length = ctrE key.size start.size wd text.size := by rw [tl_size, tl_size, tl_size]
  rcases key_cases key with hk | ⟨h1, h2, h3⟩
  · by_cases hm : mayE start.size wd = 0
    · obtain ⟨hs, hw1, hw2⟩ := may_zero hm
      obtain ⟨k, rfl⟩ := Int.eq_ofNat_of_zero_le (a := wd) (by omega)
      by_cases ht : text.size ≤ 70000
      · have hE : ctrE key.size start.size (k : Int) text.size = 0 := by rw [ctrE, if_pos (keyOk_yes hk), if_pos hm, if_neg (by omega)]
        rw [ctrR_ok (by rw [htl, hE]), hE]
        exact cxor_ok key start text k w hk hs (by omega) (by omega) ht
      · have hE : ctrE key.size start.size (k : Int) text.size = 6 := by rw [ctrE, if_pos (keyOk_yes hk), if_pos hm, if_pos (by omega)]
        rw [ctrR_ne (by rw [htl, hE]; decide), hE]
        have hTI : (70000 : Int) < (text.size : Int) := by omega
        have HM := Lib.hid hm
        clear hm hE htl hs ht
        go_enter Tryd.func57, Tryd.ntmps57
        go_wp2_with fail
        refine (new_q key _ hk).mono ?_
        rintro e w1 ⟨g, hg, rfl, hQ, hb1⟩
        go_wp2_with fail
        refine (may_any start _ _).mono ?_
        rintro e w1' ⟨rfl, rfl⟩
        rw [HM.out]
        go_wp2_with fail
        go_ret2
        exact ret_se (tl_mk []) rfl rfl hb1
    · obtain ⟨c, hc⟩ : ∃ c, mayE start.size wd = c := ⟨_, rfl⟩
      have hE : ctrE key.size start.size wd text.size = c := by rw [ctrE, if_pos (keyOk_yes hk), if_neg hm, hc]
      rw [hc] at hm
      rw [ctrR_ne (by rw [htl, hE]; exact hm), hE]
      have e1 : (c == 0) = false := by rw [beq_eq_false_iff_ne]; exact hm
      have e2 : (c != 0) = true := by rw [bne_iff_ne]; exact hm
      have HC := Lib.hid hc
      clear hc hE htl hm
      go_enter Tryd.func57, Tryd.ntmps57
      go_wp2_with fail
      refine (new_q key _ hk).mono ?_
      rintro e w1 ⟨g, hg, rfl, hQ, hb1⟩
      go_wp2_with fail
      refine (may_any start _ _).mono ?_
      rintro e w1' ⟨rfl, rfl⟩
      rw [HC.out]
      go_wp2_with fail
      go_ret2
      exact ret_se (tl_mk []) rfl rfl hb1
  · have hE : ctrE key.size start.size wd text.size = 3 := by rw [ctrE, keyOk_no h1 h2 h3]; rfl
    rw [ctrR_ne (by rw [htl, hE]; decide), hE]
    clear hE htl
    go_enter Tryd.func57, Tryd.ntmps57
    go_wp2_with fail
    refine (new_bad key _ h1 h2 h3).mono ?_
    rintro e w1 ⟨rfl, rfl⟩
    go_wp2_with fail
    go_ret2
    exact ret_se (tl_mk []) rfl rfl (Below.refl _ _)
end Go.Proofs.YtkedoiikkjeadaaDoor
namespace Go.Proofs.YtkedoiikkjeadaaDoor
open Go.RowKit
set_option linter.unusedVariables false
set_option linter.unusedSimpArgs false
section
variable {P : Program} {w : World}
theorem run_copy_text (dT sT ty elem : TypeId) (g o dLen dCap : Nat) (s : ByteArray) (old : List Value) (hu : P.underlying dT = some (.slice elem)) (hi : (P.info? elem).map (·.size) = some 1)
    (hc : At w g o old) (m : Nat) (hm : Nat.min s.size dLen = m) (ho : old.length = m) :
    (Builtin.copy_ #[dT, sT] ty #[.slice (some ⟨g, o, none⟩) dLen dCap, .string s]).run P w = .ok (goInt m) (w.setCells g o (bcells (s.toList.take m))) := by
  have hl : (bcells (s.toList.take m)).length = m := by
    rw [bcells_length, List.length_take, tl_size]
    have : Nat.min s.size dLen ≤ s.size := Nat.min_le_left _ _
    omega
  have hst := run_store_at (P := P) hc (cs := bcells (s.toList.take m)) (by rw [hl, ho]) (bcells_one _)
  have e1 : List.take m (s.data.toList.map fun x => Value.int .u8 (x.toNat : Int)) = bcells (s.toList.take m) := by
    rw [Lib.toList_data, bcells, List.map_take]
  cases hq : P.info? elem with
  | none => simp [hq] at hi
  | some i =>
    have hi1 : i.size = 1 := by simpa [hq] using hi
    simp [Builtin.copy_, run_underlying hu, Builtin.lenOf, Builtin.firstCells, sizeOf, typeInfo, hq, hi1, hm]
    rw [e1, hst]
    rfl
theorem wpList_copy_text {ops : Array Oper} {rest : List Oper} {o : Oper} {a : Act} {Q : Exit → Act → World → Prop} (hgd : o.guard = none) (d x : Operand) (dT sT : TypeId)
    (ho : o.op = .call { callee := .builtin .copy, args := #[d, x], argTypes := #[dT, sT] }) (elem : TypeId) (hu : P.underlying dT = some (.slice elem)) (hi : (P.info? elem).map (·.size) = some 1)
    (g off dLen dCap : Nat) (hd : a.eval d = .slice (some ⟨g, off, none⟩) dLen dCap) (s : ByteArray) (hx : a.eval x = .string s) (old : List Value) (hc : At w g off old) (m : Nat) (hm : Nat.min s.size dLen = m) (hol : old.length = m)
    (h : ∀ w', Hid (w' = w.setCells g off (bcells (s.toList.take m))) → wpList P ops Q rest (a.put o.dst (goInt m)) w') : wpList P ops Q (o :: rest) a w := by
  refine wpList_plain hgd fun K hK => ?_
  have hrun := run_copy_text (P := P) dT sT o.type elem g off dLen dCap s old hu hi hc m hm hol
  unfold Oper.wp
  simp [execOp, ho, resolve, invoke, builtin, hd, hx, hrun, Result.andThen]
  exact hK _ _ (h _ rfl)
theorem step_copy_text {ops : Array Oper} {o : Oper} {a : Act} {K : Act → World → Prop} {Q : Exit → Act → World → Prop} {E : Prop} (hgd : o.guard = none) (d x : Operand) (dT sT : TypeId)
    (ho : o.op = .call { callee := .builtin .copy, args := #[d, x], argTypes := #[dT, sT] }) (elem : TypeId) (hu : P.underlying dT = some (.slice elem)) (hi : (P.info? elem).map (·.size) = some 1)
    (g off dLen dCap : Nat) (hd : a.eval d = .slice (some ⟨g, off, none⟩) dLen dCap) (s : ByteArray) (hx : a.eval x = .string s) (old : List Value) (hc : At w g off old) (m : Nat) (hm : Nat.min s.size dLen = m) (hol : old.length = m)
    (h : ∀ w', Hid (w' = w.setCells g off (bcells (s.toList.take m))) → K (a.put o.dst (goInt m)) w') :
    if Region.wanted o (yielded ops a.tmps) = true then Oper.wp P o a w K Q else E := by
  have hw : Region.wanted o (yielded ops a.tmps) = true := by simp [Region.wanted, hgd]
  rw [if_pos hw]
  have hrun := run_copy_text (P := P) dT sT o.type elem g off dLen dCap s old hu hi hc m hm hol
  unfold Oper.wp
  simp [execOp, ho, resolve, invoke, builtin, hd, hx, hrun, Result.andThen]
  exact h _ rfl
end
/-- what stays as it was -/
theorem At.ofCopy {w w' : World} {g o : Nat} {old new : List Value} (h : At w g o old) (hl : old.length = new.length) (hw : w' = w.setCells g o new) : At w' g o new := by
  subst hw
  exact h.ofSets hl
theorem At.byCopy {w w' : World} {g o g' o' : Nat} {cs new : List Value} (h : At w g o cs) (hw : w' = w.setCells g' o' new) (hne : g' ≠ g ∨ o' + new.length ≤ o ∨ o + cs.length ≤ o') : At w' g o cs := by
  subst hw
  exact h.apartSets hne
theorem below_copy {B g o : Nat} {a w w' : World} {new : List Value} (h : Below B a w) (hg : B ≤ g) (hw : w' = w.setCells g o new) : Below B a w' := by
  subst hw
  exact below_sets _ _ hg _ _ _ _ h
theorem At.join {w : World} {g o : Nat} {a b : List Value} (h1 : At w g o a) (h2 : At w g (o + a.length) b) : At w g o (a ++ b) := fun j v hv => by
  rcases Nat.lt_or_ge j a.length with hj | hj
  · exact h1 j v (by rw [List.getElem?_append_left hj] at hv; exact hv)
  · have := h2 (j - a.length) v (by rw [List.getElem?_append_right hj] at hv; exact hv)
    rw [Nat.add_assoc, show a.length + (j - a.length) = j by omega] at this
    exact this
theorem At.midOf {w : World} {g o : Nat} {A Z R : List UInt8} (h : At w g 0 (bcells (A ++ (Z ++ R)))) (hA : A.length = o) : At w g o (bcells Z) := by
  rw [← List.append_assoc, bcells_append, bcells_append] at h
  have h2 := h.sub
  rwa [bcells_length, hA, Nat.zero_add] at h2
theorem At.midSet {w w' : World} {g o : Nat} {A Z R X : List UInt8} (h : At w g 0 (bcells (A ++ (Z ++ R)))) (hA : A.length = o) (hZ : Z.length = X.length) (hw : w' = w.setCells g o (bcells X)) : At w' g 0 (bcells (A ++ (X ++ R))) := by
  have hz := h.midOf hA
  rw [bcells_append, bcells_append] at h
  have h1 : At w g 0 (bcells A) := At.sub (a := []) h
  have h3 : At w g (o + Z.length) (bcells R) := by
    have h0 : At w g 0 ((bcells A ++ bcells Z) ++ bcells R ++ []) := by rw [List.append_nil, List.append_assoc]; exact h
    have h2 := h0.sub
    rwa [List.length_append, bcells_length, bcells_length, hA, Nat.zero_add] at h2
  have k1 : At w' g 0 (bcells A) := h1.byCopy hw (.inr (.inr (by rw [bcells_length]; omega)))
  have k2 : At w' g o (bcells X) := hz.ofCopy (by rw [bcells_length, bcells_length, hZ]) hw
  have k3 : At w' g (o + X.length) (bcells R) := by
    rw [← hZ]
    exact h3.byCopy hw (.inr (.inl (by rw [bcells_length]; omega)))
  rw [bcells_append, bcells_append]
  refine k1.join ?_
  rw [bcells_length, hA, Nat.zero_add]
  refine k2.join ?_
  rw [bcells_length]
  exact k3
end Go.Proofs.YtkedoiikkjeadaaDoor
namespace Go.Proofs.YtkedoiikkjeadaaDoor
open Go.RowKit
set_option linter.unusedVariables false
set_option linter.unusedSimpArgs false
theorem At.ofHeap {w : World} {g : Nat} {cur : Array Value} {e : TypeId} {fz : Nat × Nat} (h : w.heap[g]? = some (.cells cur e fz)) (hf : fz.2 = 0 ∨ cur.size ≤ fz.1) : At w g 0 cur.toList := fun j v hv => by
  rw [Nat.zero_add]
  have hj : j < cur.size := by have := (List.getElem?_eq_some_iff.1 hv).1; simpa using this
  constructor
  · rw [cell_of_row w g j cur e fz h]; simpa using hv
  · obtain ⟨lo, hi⟩ := fz
    simp only [World.frozen?, h, Bool.and_eq_false_iff, decide_eq_false_iff_not]
    simp only at hf
    omega
/-- bytes in a row of the call's own, and room behind them -/
def Bag (w : World) (B : Nat) (v : Value) (l : List UInt8) : Prop := ∃ g cap spare, v = .slice (some ⟨g, 0, none⟩) l.length cap ∧ B ≤ g ∧ l.length ≤ cap ∧ spare.length = cap - l.length ∧ At w g 0 (bcells l ++ spare)
theorem Bag.alloc {w : World} {B : Nat} {v : Value} {l : List UInt8} (h : Bag w B v l) (o : Obj) : Bag (w.alloc o) B v l := by
  obtain ⟨g, cap, sp, hv, hb, hc, hs, ha⟩ := h
  exact ⟨g, cap, sp, hv, hb, hc, hs, ha.alloc o⟩
theorem Bag.drew {w : World} {B : Nat} {v : Value} {l : List UInt8} (h : Bag w B v l) : Bag w.drew B v l := h
theorem Bag.is {w : World} {B : Nat} {v : Value} {l : List UInt8} (h : Bag w B v l) : ∃ g cap, v = .slice (some ⟨g, 0, none⟩) l.length cap ∧ At w g 0 (bcells l) := by
  obtain ⟨g, cap, sp, hv, hb, hc, hs, ha⟩ := h
  exact ⟨g, cap, hv, ha.sub (a := []) (b := bcells l) (c := sp)⟩
theorem Bag.ofOwn {w : World} {B e n : Nat} {v : Value} {l : List UInt8} (h : w.ownsRow B e 1 v n (bcells l)) (hn : 0 < n) : Bag w B v l := by
  have hl : l.length = n := by have := h.1; rw [bcells_length] at this; simpa using this
  rcases h.2 with ⟨_, h0⟩ | ⟨g, cap, cur, hv, hb, hg, hnc, hcm, hcs, htake⟩
  · omega
  · refine ⟨g, cap, cur.toList.drop n, by rw [hv, hl], hb, by omega, by rw [List.length_drop, Array.length_toList, hcs]; omega, ?_⟩
    have h2 := At.ofHeap hg (.inl rfl)
    rw [← htake, Nat.mul_one, List.take_append_drop]
    exact h2
theorem wpList_bytes_bag {P : Program} (w : World) {ops : Array Oper} {rest : List Oper} {o : Oper} {a : Act} {Q : Exit → Act → World → Prop}
    (hg : o.guard = none) (x : Operand) (src dst e : TypeId) (hop : o.op = Op.convert src dst x) (h1 : P.underlying src = some .string) (h2 : P.underlying dst = some (.slice e)) (h3 : P.underlying e = some (.int .u8))
    (s : ByteArray) (hx : a.eval x = .string s) (B : Nat) (hB : B ≤ w.heap.size)
    (hK : ∀ v w', Bag w' B v s.toList → Below B w w' → wpList P ops Q rest (a.put o.dst v) w') :
    wpList P ops Q (o :: rest) a w := by
  refine wpList_plain hg fun K hK' => ?_
  have hrun := run_bytes_of_string (P := P) w src dst e s h1 h2 h3
  unfold Oper.wp
  simp [execOp, hop, hx, hrun, Result.andThen]
  have hcap := grownCap_ge w s.size 0 e
  refine hK' _ _ (hK _ _ ⟨w.heap.size, _, Array.toList (Array.replicate (grownCap w s.size 0 e - s.size) (.int .u8 0)), by rw [tl_size], hB, by rw [tl_size]; exact hcap, by rw [tl_size]; simp, ?_⟩ ((Below.refl _ _).drew.alloc hB _))
  have hA := At.ofHeap (heap_alloc_new w.drew (Obj.cells (bytesRow s (grownCap w s.size 0 e)) e ((bytesRow s (grownCap w s.size 0 e)).size, (bytesRow s (grownCap w s.size 0 e)).size + 1))) (.inr (Nat.le_refl _))
  have e1 : (bytesRow s (grownCap w s.size 0 e)).toList = bcells s.toList ++ (Array.replicate (grownCap w s.size 0 e - s.size) (Value.int .u8 0)).toList := by
    unfold bytesRow
    rw [Array.toList_append, Lib.toList_data]
    simp [bcells]
  rw [e1] at hA
  exact hA
theorem wpList_append_bag {P : Program} (w : World) {ops : Array Oper} {rest : List Oper} {o : Oper} {a : Act} {Q : Exit → Act → World → Prop} (hgd : o.guard = none) (s x : Operand) (t : TypeId)
    (ho : o.op = .call { callee := .builtin .append, args := #[s, x], argTypes := #[t, t] })
    (e : TypeId) (i : TypeInfo) (ht : P.underlying t = some (.slice e)) (hi : P.info? e = some i) (hz : i.zero = some (.int .u8 0)) (hsize : i.size = 1) (hby : i.bytes = 1)
    (v : Value) (B : Nat) (l : List UInt8) (hs : a.eval s = v) (hb : Bag w B v l) (gx : Nat) (hx : a.eval x = .slice (some ⟨gx, 0, none⟩) 1 1) (u : UInt8) (hu : w.cell? ⟨gx, 0, none⟩ = some (.int .u8 (u.toNat : Int)))
    (hB : B ≤ w.heap.size) (hn : l.length + 1 ≤ 140737488355328)
    (h : ∀ v' w', Bag w' B v' (l ++ [u]) → Below B w w' → wpList P ops Q rest (a.put o.dst v') w') : wpList P ops Q (o :: rest) a w := by
  obtain ⟨g, cap, sp, rfl, hbg, hlc, hsp, ha⟩ := hb
  refine wpList_plain hgd fun K hK => ?_
  have hnews : ∀ j w0, [Value.int .u8 (u.toNat : Int)][j]? = some w0 → w.cell? ((⟨gx, 0, none⟩ : Addr).add j) = some w0 := by
    intro j w0 hj
    match j with
    | 0 => simp at hj; rw [← hj]; exact hu
    | j + 1 => simp at hj
  have hone : ∀ w0 ∈ [Value.int .u8 (u.toNat : Int)], w0.oneCell' = true := by intro w0 hw0; simp at hw0; rw [hw0]; rfl
  by_cases hroom : l.length + 1 ≤ cap
  · obtain ⟨z, r, rfl⟩ : ∃ z r, sp = z :: r := by
      cases sp with
      | nil => simp at hsp; omega
      | cons z r => exact ⟨z, r, rfl⟩
    have ha3 : At w g 0 (bcells l ++ [z] ++ r) := by rw [List.append_assoc]; exact ha
    have hm := ha3.sub
    rw [bcells_length, Nat.zero_add] at hm
    have hr := run_append_room_cells (P := P) (w := w) t o.type e i ht hi g 0 l.length cap ⟨gx, 0, none⟩ 1 1 [Value.int .u8 (u.toNat : Int)] (by rw [hsize]; rfl) hnews hone hroom
      (by intro j hj; have hj0 : j = 0 := by simpa using hj
          subst hj0; rw [hsize, Nat.zero_add, Nat.mul_one, (hm 0 z rfl).1]; rfl)
      (by intro j hj; have hj0 : j = 0 := by simpa using hj
          subst hj0; rw [hsize, Nat.zero_add, Nat.mul_one]; exact (hm 0 z rfl).2)
    rw [hsize, Nat.zero_add, Nat.mul_one] at hr
    unfold Oper.wp
    simp only [execOp, ho, resolve, invoke, builtin, Sem.run_bind, Sem.run_pure, Result.andThen_ok, List.map_toArray, List.map_cons, List.map_nil, hs, hx, hr]
    refine hK _ _ (h _ _ ⟨g, cap, r, by rw [List.length_append]; rfl, hbg, by rw [List.length_append]; exact hroom, by rw [List.length_append]; simp at hsp ⊢; omega, ?_⟩ (below_sets _ _ hbg _ _ _ _ (Below.refl _ _)))
    have hw : w.setCells g l.length [Value.int .u8 (u.toNat : Int)] = w.setCells g l.length [Value.int .u8 (u.toNat : Int)] := rfl
    have k1 : At (w.setCells g l.length [Value.int .u8 (u.toNat : Int)]) g 0 (bcells l) := (At.sub (a := []) (b := bcells l) (c := [z] ++ r) ha).byCopy hw (.inr (.inr (by rw [bcells_length]; simp)))
    have k2 : At (w.setCells g l.length [Value.int .u8 (u.toNat : Int)]) g l.length [Value.int .u8 (u.toNat : Int)] := hm.ofCopy rfl hw
    have h3 : At w g (l.length + 1) r := by
      have h0 : At w g 0 ((bcells l ++ [z]) ++ r ++ []) := by rw [List.append_nil]; exact ha3
      have h2 := h0.sub
      rwa [List.length_append, bcells_length, Nat.zero_add] at h2
    have k3 : At (w.setCells g l.length [Value.int .u8 (u.toNat : Int)]) g (l.length + 1) r := h3.byCopy hw (.inr (.inl (by simp)))
    rw [bcells_append, List.append_assoc]
    refine k1.join ?_
    rw [bcells_length, Nat.zero_add]
    exact k2.join k3
  · obtain ⟨v', w', hr, h2, h3⟩ := run_append_arg_grows (P := P) (w := w) t o.type e i (.int .u8 0) 1 1 ht hi hz hsize hby rfl (by decide) ⟨g, 0, none⟩ l.length cap (bcells l) (by rw [bcells_length, Nat.mul_one])
      (by intro j w0 hj
          have h4 := (At.sub (a := []) (b := bcells l) (c := sp) ha) j w0 hj
          have hadd : (⟨g, 0, none⟩ : Addr).add j = ⟨g, j, none⟩ := by unfold Addr.add; split <;> simp_all
          rw [hadd]
          simpa using h4.1)
      ⟨gx, 0, none⟩ 1 1 [Value.int .u8 (u.toNat : Int)] rfl hnews (by omega) (by unfold maxLen; omega) (by omega)
    unfold Oper.wp
    simp only [execOp, ho, resolve, invoke, builtin, Sem.run_bind, Sem.run_pure, Result.andThen_ok, List.map_toArray, List.map_cons, List.map_nil, hs, hx, hr]
    have e1 : bcells l ++ [Value.int .u8 (u.toNat : Int)] = bcells (l ++ [u]) := by rw [bcells_append]; rfl
    rw [e1] at h2
    obtain ⟨g', cap', sp', hv', hb', hc', hs', ha'⟩ := Bag.ofOwn h2 (by omega)
    exact hK _ _ (h _ _ ⟨g', cap', sp', hv', Nat.le_trans hB hb', hc', hs', ha'⟩ ((Below.refl _ _).grown h3 hB (fun k hk => by cases hk)))
end Go.Proofs.YtkedoiikkjeadaaDoor
namespace Go.Proofs.YtkedoiikkjeadaaDoor
open Go.RowKit
set_option linter.unusedVariables false
set_option linter.unusedSimpArgs false
def blkL (T : List UInt8) (i : Nat) : List UInt8 := (T.drop (16 * i)).take 16
theorem blkL_length (T : List UInt8) (i : Nat) (h : 16 * (i + 1) ≤ T.length) : (blkL T i).length = 16 := by
  rw [blkL, List.length_take, List.length_drop]
  omega
def chA (K V T : List UInt8) : Nat → List UInt8
  | 0 => V
  | i + 1 => encL K (xorL (blkL T i) (chA K V T i))
theorem chA_length (K V T : List UInt8) (h : V.length = 16) : ∀ i, (chA K V T i).length = 16
  | 0 => h
  | i + 1 => by rw [chA, encL_length]
def chS (K V T : List UInt8) : Nat → List UInt8
  | 0 => []
  | i + 1 => chS K V T i ++ chA K V T (i + 1)
theorem chS_length (K V T : List UInt8) : ∀ i, (chS K V T i).length = 16 * i
  | 0 => rfl
  | i + 1 => by rw [chS, List.length_append, chS_length K V T i, chA, encL_length]; omega
def pvL (V T : List UInt8) : Nat → List UInt8
  | 0 => V
  | i + 1 => blkL T i
theorem pvL_length (V T : List UInt8) (h : V.length = 16) : ∀ i, 16 * i ≤ T.length → (pvL V T i).length = 16
  | 0, _ => h
  | i + 1, hi => blkL_length T i hi
def unS (K V T : List UInt8) : Nat → List UInt8
  | 0 => []
  | i + 1 => unS K V T i ++ xorL (decL K (blkL T i)) (pvL V T i)
theorem unS_length (K V T : List UInt8) (h : V.length = 16) : ∀ i, 16 * i ≤ T.length → (unS K V T i).length = 16 * i
  | 0, _ => rfl
  | i + 1, hi => by rw [unS, List.length_append, unS_length K V T h i (by omega), xorL_length, decL_length, pvL_length V T h i (by omega)]; omega
theorem blk_chS (K V T : List UInt8) (i : Nat) : ∀ n, i < n → blkL (chS K V T n) i = chA K V T (i + 1)
  | 0, h => absurd h (Nat.not_lt_zero _)
  | n + 1, h => by
    by_cases hi : i = n
    · subst hi
      rw [blkL, chS, List.drop_append_of_le_length (by rw [chS_length]; exact Nat.le_refl _), List.drop_of_length_le (by rw [chS_length]; exact Nat.le_refl _), List.nil_append, List.take_of_length_le]
      rw [chA, encL_length]
      exact Nat.le_refl _
    · have ih := blk_chS K V T i n (by omega)
      rw [← ih, blkL, blkL, chS, List.drop_append_of_le_length (by rw [chS_length]; omega), List.take_append_of_le_length (by rw [List.length_drop, chS_length]; omega)]
theorem pv_chS (K V T : List UInt8) (n : Nat) : ∀ i, i ≤ n → pvL V (chS K V T n) i = chA K V T i
  | 0, _ => rfl
  | i + 1, h => blk_chS K V T i n h
theorem un_ch (K V T : List UInt8) (n : Nat) (hv : V.length = 16) (hT : T.length = 16 * n) : unS K V (chS K V T n) n = T := by
  have h : ∀ i, i ≤ n → unS K V (chS K V T n) i = T.take (16 * i) := by
    intro i
    induction i with
    | zero => intro _; simp [unS]
    | succ i ih =>
      intro hi
      have hb := blkL_length T i (by omega)
      have ha := chA_length K V T hv i
      rw [unS, ih (by omega), blk_chS K V T i n (by omega), pv_chS K V T n i (by omega), chA, dec_enc _ _ (by rw [xorL_length, hb, ha]; rfl), xorL_twice _ _ (by omega), blkL, Nat.mul_succ, List.take_add]
  rw [h n (Nat.le_refl _), List.take_of_length_le (by omega)]
def padN (n size : Nat) : Nat := size - n % size
theorem padN_pos (n size : Nat) (h : 1 ≤ size) : 1 ≤ padN n size ∧ padN n size ≤ size := by
  have := Nat.mod_lt n (y := size) (by omega)
  unfold padN
  omega
theorem padN_mod (n size : Nat) (h : 1 ≤ size) : (n + padN n size) % size = 0 := by
  have h1 := Nat.mod_lt n (y := size) (by omega)
  have h2 := Nat.div_add_mod n size
  have h3 : n + padN n size = size * (n / size + 1) := by rw [Nat.mul_add, Nat.mul_one]; unfold padN; omega
  rw [h3, Nat.mul_mod_right]
/-- the least number that fills up is the one -/
theorem padN_least (n size k : Nat) (h : 1 ≤ size) (h1 : 1 ≤ k) (hk : k < padN n size) : (n + k) % size ≠ 0 := by
  have h1' := Nat.mod_lt n (y := size) (by omega)
  have h4 : (n + k) % size = n % size + k := by
    rw [← Nat.mod_add_mod, Nat.mod_eq_of_lt]
    unfold padN at hk
    omega
  omega
theorem padN_back (m size n : Nat) (h : 1 ≤ size) (hm : m % size = 0) (h1 : 1 ≤ n) (hn : n ≤ size) (hnm : n ≤ m) : padN (m - n) size = n := by
  obtain ⟨q, hq⟩ : ∃ q, m = size * q := ⟨m / size, by have := Nat.div_add_mod m size; omega⟩
  have hq1 : 1 ≤ q := by
    rcases Nat.eq_zero_or_pos q with h0 | h0
    · rw [h0] at hq; omega
    · exact h0
  have e : m - n = (size - n) + size * (q - 1) := by
    have : size * q = size * (q - 1) + size := by rw [← Nat.mul_succ]; congr 1; omega
    omega
  rw [padN, e, Nat.add_mul_mod_self_left]
  rcases Nat.lt_or_ge n size with h2 | h2
  · rw [Nat.mod_eq_of_lt (by omega)]; omega
  · have : size - n = 0 := by omega
    rw [this, Nat.zero_mod]; omega
def filL (n : Nat) : List UInt8 := List.replicate n (UInt8.ofNat n)
def padL (S : List UInt8) (size : Nat) : List UInt8 := S ++ filL (padN S.length size)
def lastN (S : List UInt8) : Nat := (S.getD (S.length - 1) 0).toNat
def unpN (S : List UInt8) (size : Nat) : Bool := decide (1 ≤ lastN S ∧ lastN S ≤ size ∧ S.drop (S.length - lastN S) = filL (lastN S))
def unpE (S : List UInt8) (size : Nat) : Int := if S.length = 0 ∨ S.length % size ≠ 0 then 6 else if unpN S size then 0 else 7
def unpL (S : List UInt8) (size : Nat) : List UInt8 := if unpE S size = 0 then S.take (S.length - lastN S) else []
theorem filL_length (n : Nat) : (filL n).length = n := by simp [filL]
theorem lastN_pad (A : List UInt8) (n : Nat) (h1 : 1 ≤ n) (h2 : n ≤ 255) : lastN (A ++ filL n) = n := by
  have hl : (A ++ filL n).length - 1 = A.length + (n - 1) := by rw [List.length_append, filL_length]; omega
  rw [lastN, hl, List.getD_eq_getElem?_getD, List.getElem?_append_right (by omega), Nat.add_sub_cancel_left, filL, List.getElem?_replicate, if_pos (by omega)]
  simp
  omega
theorem pad_iff (S : List UInt8) (size n : Nat) (hs : 1 ≤ size) (hs2 : size ≤ 255) (hm : S.length % size = 0) (h1 : 1 ≤ n) (hn : n ≤ size) (hnl : n ≤ S.length) :
    padL (S.take (S.length - n)) size = S ↔ (lastN S = n ∧ S.drop (S.length - n) = filL n) := by
  have hp : padN (S.take (S.length - n)).length size = n := by
    rw [List.length_take, Nat.min_eq_left (by omega)]
    exact padN_back _ _ _ hs hm h1 hn hnl
  rw [padL, hp]
  constructor
  · intro h
    constructor
    · rw [← h]; exact lastN_pad _ _ h1 (by omega)
    · have h2 : S.take (S.length - n) ++ filL n = S.take (S.length - n) ++ S.drop (S.length - n) := by rw [h, List.take_append_drop]
      exact (List.append_cancel_left h2).symm
  · rintro ⟨_, h⟩
    rw [← h, List.take_append_drop]
theorem pad_back (S : List UInt8) (size : Nat) (hs : 1 ≤ size) (hs2 : size ≤ 255) : unpE (padL S size) size = 0 ∧ unpL (padL S size) size = S := by
  obtain ⟨h1, h2⟩ := padN_pos S.length size hs
  have hl : (padL S size).length = S.length + padN S.length size := by rw [padL, List.length_append, filL_length]
  have hn : lastN (padL S size) = padN S.length size := lastN_pad _ _ h1 (by omega)
  have hE : unpE (padL S size) size = 0 := by
    rw [unpE, if_neg (by rw [hl]; have := padN_mod S.length size hs; omega), if_pos]
    rw [unpN, decide_eq_true_iff, hn, hl]
    refine ⟨h1, h2, ?_⟩
    rw [Nat.add_sub_cancel, padL, List.drop_left]
  refine ⟨hE, ?_⟩
  rw [unpL, if_pos hE, hn, hl, Nat.add_sub_cancel, padL, List.take_left]
/-- the last block -/
def macL (K T : List UInt8) (n : Nat) : List UInt8 := chA K (List.replicate 16 0) T n
end Go.Proofs.YtkedoiikkjeadaaDoor
namespace Go.Proofs.YtkedoiikkjeadaaDoor
open Go.RowKit
set_option linter.unusedVariables false
set_option linter.unusedSimpArgs false
def cbgE (k n : Nat) (fits : Bool) : Int := if keyOk k then if n = 16 then if fits then 0 else 6 else 4 else 3
def RetNo (c : Int) (w : World) (e : Ending) (w' : World) : Prop := e = .returned (.tuple #[.pointer none, .int .i64 c]) ∧ Below w.heap.size w w'
end Go.Proofs.YtkedoiikkjeadaaDoor
namespace Go.Proofs.YtkedoiikkjeadaaDoor
open Go.RowKit
set_option linter.unusedVariables false
set_option linter.unusedSimpArgs false
def zer (n : Nat) : List UInt8 := List.replicate n 0
theorem zer_length (n : Nat) : (zer n).length = n := by simp [zer]
theorem zer_add (n m : Nat) : zer (n + m) = zer n ++ zer m := by simp [zer, List.replicate_append_replicate]
end Go.Proofs.YtkedoiikkjeadaaDoor
namespace Go.Proofs.YtkedoiikkjeadaaDoor
open Go.RowKit
set_option linter.unusedVariables false
set_option linter.unusedSimpArgs false
def RetSd (l : List UInt8) (K : List UInt8) (g : Nat) (w : World) (e : Ending) (w' : World) : Prop := ∃ s : ByteArray, e = .returned (.string s) ∧ s.toList = l ∧ Ciq w' g K ∧ Turn g 513 w w'
end Go.Proofs.YtkedoiikkjeadaaDoor
namespace Go.Proofs.YtkedoiikkjeadaaDoor
open Go.RowKit
set_option linter.unusedVariables false
set_option linter.unusedSimpArgs false
theorem repeatL_one_byte (b : UInt8) : ∀ n, Lib.repeatL [b] n = List.replicate n b
  | 0 => rfl
  | n + 1 => by rw [Lib.repeatL_add, repeatL_one_byte b n, Lib.repeatL_one, List.replicate_succ']
theorem rep_any (s : ByteArray) (b : UInt8) (n : Nat) (w : World) (hs : s.toList = [b]) (hn : n ≤ 140737488355328) : Calls Tryd.prog 54 #[.string s, .int .i64 (n : Int)] w (RetS (List.replicate n b) w) := by
  have h1 : s.size = 1 := by rw [← tl_size, hs]; rfl
  refine (Sstrings_Repeat s n w (by omega) (by rw [h1, Nat.one_mul]; exact hn)).mono ?_
  rintro e w' ⟨rfl, hb⟩
  refine ⟨_, rfl, ?_, hb⟩
  rw [tl_mk, ← Lib.toList_data, hs, repeatL_one_byte]
end Go.Proofs.YtkedoiikkjeadaaDoor
namespace Go.Proofs.YtkedoiikkjeadaaDoor
open Go.RowKit
set_option linter.unusedVariables false
set_option linter.unusedSimpArgs false
theorem unpE_6 {S : List UInt8} {size : Nat} (h : S.length = 0 ∨ S.length % size ≠ 0) : unpE S size = 6 := by rw [unpE, if_pos h]
theorem unpL_no {S : List UInt8} {size : Nat} {c : Int} (h : unpE S size = c) (hc : c ≠ 0) : unpL S size = [] := by rw [unpL, if_neg (by rw [h]; exact hc)]
theorem unpE_7 {S : List UInt8} {size : Nat} (h : ¬ (S.length = 0 ∨ S.length % size ≠ 0)) (hn : unpN S size = false) : unpE S size = 7 := by rw [unpE, if_neg h, hn]; rfl
theorem unpE_0 {S : List UInt8} {size : Nat} (h : ¬ (S.length = 0 ∨ S.length % size ≠ 0)) (hn : unpN S size = true) : unpE S size = 0 := by rw [unpE, if_neg h, hn]; rfl
end Go.Proofs.YtkedoiikkjeadaaDoor
namespace Go.Proofs.YtkedoiikkjeadaaDoor
open Go.RowKit
set_option linter.unusedVariables false
set_option linter.unusedSimpArgs false
theorem cbg_false {k n : Nat} : cbgE k n false ≠ 0 := by
  unfold cbgE
  split
  · split <;> simp
  · simp
theorem cbg_true {k n : Nat} (h : cbgE k n true = 0) : (k = 16 ∨ k = 24 ∨ k = 32) ∧ n = 16 := by
  unfold cbgE at h
  split at h
  · rename_i hk
    split at h
    · rename_i hn; exact ⟨by simpa [keyOk] using hk, hn⟩
    · cases h
  · cases h
def cfit (n : Nat) : Bool := decide (n % 16 = 0 ∧ n ≤ 70016)
def cfitS (n : Nat) : Bool := decide (n ≤ 70000)
def cfitO (n : Nat) : Bool := decide (0 < n ∧ n % 16 = 0 ∧ n ≤ 70016)
def chaL (K V T : List UInt8) : List UInt8 := if cbgE K.length V.length (cfit T.length) = 0 then chS K V T (T.length / 16) else []
def uchL (K V T : List UInt8) : List UInt8 := if cbgE K.length V.length (cfit T.length) = 0 then unS K V T (T.length / 16) else []
def selL (K V T : List UInt8) : List UInt8 := if cbgE K.length V.length (cfitS T.length) = 0 then chS K V (padL T 16) ((padL T 16).length / 16) else []
def opeX (K V T : List UInt8) : List UInt8 := unS K V T (T.length / 16)
def opeE (K V T : List UInt8) : Int := if cbgE K.length V.length (cfitO T.length) = 0 then unpE (opeX K V T) 16 else cbgE K.length V.length (cfitO T.length)
def opeL (K V T : List UInt8) : List UInt8 := if cbgE K.length V.length (cfitO T.length) = 0 then unpL (opeX K V T) 16 else []
end Go.Proofs.YtkedoiikkjeadaaDoor
namespace Go.Proofs.YtkedoiikkjeadaaDoor
open Go.RowKit
set_option linter.unusedVariables false
set_option linter.unusedSimpArgs false
theorem padL_mod (T : List UInt8) : (padL T 16).length = 16 * ((padL T 16).length / 16) := by
  have h := padN_mod T.length 16 (by decide)
  have hl : (padL T 16).length = T.length + padN T.length 16 := by rw [padL, List.length_append, filL_length]
  omega
theorem padL_size (T : List UInt8) : T.length < (padL T 16).length ∧ (padL T 16).length ≤ T.length + 16 := by
  have h := padN_pos T.length 16 (by decide)
  have hl : (padL T 16).length = T.length + padN T.length 16 := by rw [padL, List.length_append, filL_length]
  omega
theorem cbg_fit {k n : Nat} {b c : Bool} (h : cbgE k n b = 0) (hc : c = true) : cbgE k n c = 0 := by
  have hb : b = true := by
    cases b
    · exact absurd h cbg_false
    · rfl
  rw [hc]; rw [hb] at h; exact h
theorem cbg_b {k n : Nat} {b : Bool} (h : cbgE k n b = 0) : b = true := by
  cases b
  · exact absurd h cbg_false
  · rfl
theorem selL_length (K V T : List UInt8) (h : cbgE K.length V.length (cfitS T.length) = 0) : (selL K V T).length = (padL T 16).length := by
  rw [selL, if_pos h, chS_length]
  exact (padL_mod T).symm
theorem seal_open (K V T : List UInt8) (h : cbgE K.length V.length (cfitS T.length) = 0) : opeE K V (selL K V T) = 0 ∧ opeL K V (selL K V T) = T := by
  have hl := selL_length K V T h
  have hT := of_decide_eq_true (cbg_b h)
  have hm := padL_mod T
  have hz := padL_size T
  have hf : cfitO (selL K V T).length = true := by rw [cfitO, decide_eq_true_iff, hl]; omega
  have hg := cbg_fit h hf
  have hv : V.length = 16 := by rw [cbg_b h] at h; exact (cbg_true h).2
  have hX : opeX K V (selL K V T) = padL T 16 := by
    rw [opeX, hl, selL, if_pos h]
    exact un_ch K V (padL T 16) _ hv hm
  have hp := pad_back T 16 (by decide) (by decide)
  rw [opeE, opeL, if_pos hg, if_pos hg, hX]
  exact hp
theorem chain_back (K V T : List UInt8) (h : cbgE K.length V.length (cfit T.length) = 0) : (chaL K V T).length = T.length ∧ uchL K V (chaL K V T) = T := by
  have hT := of_decide_eq_true (cbg_b h)
  have hv : V.length = 16 := by rw [cbg_b h] at h; exact (cbg_true h).2
  have hm : T.length = 16 * (T.length / 16) := by omega
  have hl : (chaL K V T).length = T.length := by rw [chaL, if_pos h, chS_length]; exact hm.symm
  refine ⟨hl, ?_⟩
  rw [uchL, hl, if_pos h, chaL, if_pos h]
  exact un_ch K V T _ hv hm
end Go.Proofs.YtkedoiikkjeadaaDoor
namespace Go.Proofs.YtkedoiikkjeadaaDoor
open Go.RowKit
set_option linter.unusedVariables false
set_option linter.unusedSimpArgs false
theorem pad_abc : (padL [97, 98, 99] 16).length = 16 := by decide
end Go.Proofs.YtkedoiikkjeadaaDoor
namespace Go.Proofs.YtkedoiikkjeadaaDoor
open Go.RowKit
set_option linter.unusedVariables false
set_option linter.unusedSimpArgs false
end Go.Proofs.YtkedoiikkjeadaaDoor
namespace Go.Proofs.YtkedoiikkjeadaaDoor
open Go.RowKit
set_option linter.unusedVariables false
set_option linter.unusedSimpArgs false
end Go.Proofs.YtkedoiikkjeadaaDoor
namespace Go.Proofs.YtkedoiikkjeadaaDoor
open Go.RowKit
set_option linter.unusedVariables false
set_option linter.unusedSimpArgs false
end Go.Proofs.YtkedoiikkjeadaaDoor
namespace Go.Proofs.YtkedoiikkjeadaaDoor
open Go.RowKit
set_option linter.unusedVariables false
set_option linter.unusedSimpArgs false
def rdecN (W : List UInt32) (M : Nat) : Nat → List UInt32 → List UInt32
  | 0, s => s
  | j + 1, s => rdecN W M j (lasL gback 3 2 1 (if j + 1 < M then colL 14 11 13 9 (addL s W (4 * (j + 1))) else addL s W (4 * (j + 1))))
theorem rdecN_dec (W : List UInt32) (M : Nat) : ∀ (n : Nat) (s : List UInt32), n < M → rdecN W M n s = decN W n s
  | 0, s, h => rfl
  | n + 1, s, h => by rw [rdecN, if_pos h, rdecN_dec W M n _ (by omega), decN, umxL_col _ (addL_length _ _ _)]
theorem rdecN_all (W : List UInt32) (m : Nat) (s : List UInt32) : rdecN W (m + 1) (m + 1) s = decN W m (lasL gback 3 2 1 (addL s W (4 * (m + 1)))) := by
  rw [rdecN, if_neg (Nat.lt_irrefl _), rdecN_dec W (m + 1) m _ (by omega)]
theorem lasb_byte (f : UInt8 → UInt8) (S : List UInt32) (i r : Nat) (hr : r < 4) (hi : i < 4) : rw_ (lasF f 3 2 1 S i) r = f (rw_ (S.getD ((i + 4 - r) % 4) 0) r) := by
  match r, hr with
  | 0, _ => rw [lasF, rw_wd0, show (i + 4 - 0) % 4 = i by omega]
  | 1, _ => rw [lasF, rw_wd1]; rfl
  | 2, _ => rw [lasF, rw_wd2]; rfl
  | 3, _ => rw [lasF, rw_wd3]; rfl
theorem txt_lasb (f : UInt8 → UInt8) (S : List UInt32) (k : Nat) (hk : k < 16) : txtF (lasL f 3 2 1 S) k = f (rw_ (S.getD ((k / 4 + 4 - k % 4) % 4) 0) (k % 4)) := by
  have h4 : k / 4 < 4 := by omega
  rw [txtF, ← lasb_byte f S (k / 4) (k % 4) (by omega) h4]
  congr 1
  simp [lasL, List.getD, h4]
def pos (k : Nat) : Nat := 4 * ((k / 4 + k % 4) % 4) + k % 4
def pin (k : Nat) : Nat := 4 * ((k / 4 + 4 - k % 4) % 4) + k % 4
theorem pos_pin : ∀ i : Fin 16, ∀ k : Fin 16, (pin i.val = k.val) ↔ (i.val = pos k.val) := by decide +kernel
theorem pos_q : ∀ k : Fin 16, (pos k.val / 4 + 4 - pos k.val % 4) % 4 = k.val / 4 ∧ pos k.val % 4 = k.val % 4 := by decide +kernel
theorem pin_lt : ∀ i : Fin 16, pin i.val < 16 := by decide +kernel
/-- the first c columns mixed back -/
def myP (T : List UInt32) (c : Nat) : List UInt32 := mixP 4 (fun i => colG 14 11 13 9 (T.getD i 0)) (fun i => T.getD i 0) c
theorem myP_zero (T : List UInt32) (h : T.length = 4) : myP T 0 = T := by rw [myP, mixP_zero, map_getD _ _ _ h]
theorem myP_four (T : List UInt32) (h : T.length = 4) : myP T 4 = colL 14 11 13 9 T := by
  rw [myP, mixP_full]
  obtain ⟨a, b, c, d, rfl⟩ := four T h
  rfl
theorem myP_step (T : List UInt32) (c : Nat) (hc : c < 4) : (myP T c).set c (colG 14 11 13 9 ((myP T c).getD c 0)) = myP T (c + 1) := by
  rw [myP, mixP_at _ _ _ _ _ _ hc, if_neg (Nat.lt_irrefl c)]
  exact mixP_set 4 (fun i => colG 14 11 13 9 (T.getD i 0)) (fun i => T.getD i 0) c
theorem myP_length (T : List UInt32) (c : Nat) : (myP T c).length = 4 := by rw [myP, mixP_length]
theorem col_myx (S : List UInt32) (c : Nat) (w : World) (hS : S.length = 4) (hc : c < 4) :
    Calls Tryd.prog 66 #[.agg (bcells (txtL S)).toArray, .int .i64 (c : Int), .agg #[.int .u8 14, .int .u8 11, .int .u8 13, .int .u8 9]] w (RetA8 (txtL (S.set c (colG 14 11 13 9 (S.getD c 0)))) w) := column_any S c 14 11 13 9 w hS hc
end Go.Proofs.YtkedoiikkjeadaaDoor
namespace Go.Proofs.YtkedoiikkjeadaaDoor
open Go.RowKit
set_option linter.unusedVariables false
set_option linter.unusedSimpArgs false
theorem infoS : (Tryd.prog.info? 9).map (fun i => (i.zero, i.size, i.bytes)) = some (some (.string ByteArray.empty), 1, 16) := by kernel_rfl
def scells (l : List ByteArray) : List Value := l.map Value.string
theorem scells_length (l : List ByteArray) : (scells l).length = l.length := by simp [scells]
theorem scells_append (l m : List ByteArray) : scells (l ++ m) = scells l ++ scells m := by simp [scells]
theorem scells_get (l : List ByteArray) (j : Nat) (hj : j < l.length) : (scells l)[j]? = some (.string l[j]) := by simp [scells, hj]
theorem scells_one (l : List ByteArray) : ∀ u ∈ scells l, u.oneCell' = true := by
  intro u hu
  simp only [scells, List.mem_map] at hu
  obtain ⟨b, _, rfl⟩ := hu
  rfl
theorem scells_one1 {w : World} {g : Nat} {u : ByteArray} (h : w.cell? ⟨g, 0, none⟩ = some (.string u)) : ∀ j x, (scells [u])[j]? = some x → w.cell? ((⟨g, 0, none⟩ : Addr).add j) = some x := by
  intro j x hx
  match j, hx with
  | 0, hx => simp [scells] at hx; subst hx; exact h
section
variable {P : Program} {w : World}
theorem wpList_append_str {ops : Array Oper} {rest : List Oper} {o : Oper} {a : Act} {Q : Exit → Act → World → Prop} (hgd : o.guard = none) (s x : Operand) (t : TypeId)
    (ho : o.op = .call { callee := .builtin .append, args := #[s, x], argTypes := #[t, t] })
    (base : Nat) (e : TypeId) (i : TypeInfo) (ht : P.underlying t = some (.slice e)) (hi : P.info? e = some i) (hz : i.zero = some (.string ByteArray.empty)) (hsize : i.size = 1) (hby : i.bytes = 16)
    (v : Value) (n : Nat) (l : List ByteArray) (hs : a.eval s = v) (hown : w.ownsRow base e 1 v n (scells l))
    (g c : Nat) (u : ByteArray) (hx : a.eval x = .slice (some ⟨g, 0, none⟩) 1 c) (hcell : w.cell? ⟨g, 0, none⟩ = some (.string u))
    (hn : n ≤ 8796093022207) (hbase : base ≤ w.heap.size)
    (h : ∀ v' w', w'.ownsRow base e 1 v' (n + 1) (scells (l ++ [u])) → w.grownBy w' v.ownBlock → wpList P ops Q rest (a.put o.dst v') w') : wpList P ops Q (o :: rest) a w := by
  refine wpList_append_own w hgd s x t ho base e i (.string ByteArray.empty) 1 16 ht hi hz hsize hby rfl (by decide) v n (scells l) hs hown ⟨g, 0, none⟩ 1 c (scells [u]) hx (by rw [scells_length]; rfl) (scells_one1 hcell) (scells_one _) (by unfold maxLen; omega) (by omega) hbase ?_
  intro v' w' h1 h2 _
  rw [← scells_append] at h1
  exact h v' w' h1 h2
end
theorem own_formS {w : World} {B e size n : Nat} {v : Value} {xs : List Value} (h : w.ownsRow B e size v n xs) : ∃ a c, v = .slice a n c ∧ (0 < n → ∃ g, a = some ⟨g, 0, none⟩) := by
  rcases h.2 with ⟨rfl, rfl⟩ | ⟨g, cap, cur, rfl, _⟩
  · exact ⟨none, 0, rfl, fun h => absurd h (by omega)⟩
  · exact ⟨_, _, rfl, fun _ => ⟨g, rfl⟩⟩
theorem scell {w : World} {B e n cap g : Nat} {l : List ByteArray} (h : w.ownsRow B e 1 (.slice (some ⟨g, 0, none⟩) n cap) n (scells l)) (k : Nat) (u : ByteArray) (hu : l[k]? = some u) :
    w.cell? ⟨g, k, none⟩ = some (.string u) := by
  obtain ⟨hk, rfl⟩ := List.getElem?_eq_some_iff.1 hu
  rw [h.cellAt k (by have := h.1; rw [scells_length] at this; omega), scells_get _ _ hk]
/-- a row of texts is handed back -/
def RetL (l : List ByteArray) (w : World) (e : Ending) (w' : World) : Prop := ∃ v, e = .returned v ∧ w'.ownsRow w.heap.size 9 1 v l.length (scells l) ∧ Below w.heap.size w w'
end Go.Proofs.YtkedoiikkjeadaaDoor
namespace Go.Proofs.YtkedoiikkjeadaaDoor
open Go.RowKit
set_option linter.unusedVariables false
set_option linter.unusedSimpArgs false
def wroE (k n : Nat) : Int := if keyOk k then if n = 16 then 0 else 4 else 3
end Go.Proofs.YtkedoiikkjeadaaDoor
namespace Go.Proofs.YtkedoiikkjeadaaDoor
open Go.RowKit
set_option linter.unusedVariables false
set_option linter.unusedSimpArgs false
def blkB (s : ByteArray) (i : Nat) : ByteArray := s.extract (16 * i) (16 * i + 16)
def blksB (s : ByteArray) (n : Nat) : List ByteArray := (List.range n).map (blkB s)
theorem blksB_length (s : ByteArray) (n : Nat) : (blksB s n).length = n := by simp [blksB]
theorem blksB_succ (s : ByteArray) (n : Nat) : blksB s (n + 1) = blksB s n ++ [blkB s n] := by simp [blksB, List.range_succ]
theorem blksB_get (s : ByteArray) (n i : Nat) (h : i < n) : (blksB s n)[i]? = some (blkB s i) := by simp [blksB, h]
theorem blkB_tl (s : ByteArray) (i : Nat) : (blkB s i).toList = blkL s.toList i := by
  rw [blkB, tl_ext, blkL]
  congr 1
  omega
theorem blkB_size (s : ByteArray) (i : Nat) (h : 16 * (i + 1) ≤ s.size) : (blkB s i).size = 16 := by
  rw [← tl_size, blkB_tl, blkL_length _ _ (by rw [tl_size]; exact h)]
end Go.Proofs.YtkedoiikkjeadaaDoor
namespace Go.Proofs.YtkedoiikkjeadaaDoor
open Go.RowKit
set_option linter.unusedVariables false
set_option linter.unusedSimpArgs false
theorem xorL_comm (A B : List UInt8) : xorL A B = xorL B A := by
  unfold xorL
  rw [List.zipWith_comm]
  congr 1
  funext a b
  exact UInt8.xor_comm _ _
def filM (T : List UInt8) : List UInt8 := T ++ zer ((16 - T.length % 16) % 16)
theorem filM_mod (T : List UInt8) : (filM T).length = 16 * ((filM T).length / 16) := by
  have hl : (filM T).length = T.length + (16 - T.length % 16) % 16 := by rw [filM, List.length_append, zer_length]
  omega
theorem filM_size (T : List UInt8) : (filM T).length < T.length + 16 := by
  have hl : (filM T).length = T.length + (16 - T.length % 16) % 16 := by rw [filM, List.length_append, zer_length]
  omega
theorem filM_more (T : List UInt8) (h : T.length % 16 ≠ 0) : filM (T ++ [0]) = filM T := by
  have hl : (T ++ [(0 : UInt8)]).length = T.length + 1 := by rw [List.length_append]; rfl
  rw [filM, filM, hl, List.append_assoc]
  congr 1
  rw [show ([0] : List UInt8) = zer 1 from rfl, ← zer_add]
  congr 1
  omega
def macE (k n : Nat) : Int := if keyOk k then if n ≤ 140000 then 0 else 6 else 3
def macF (K T : List UInt8) : List UInt8 := chA K (zer 16) (filM T) ((filM T).length / 16)
def macR (K T : List UInt8) : List UInt8 := if macE K.length T.length = 0 then macF K T else []
theorem chA_last (K V T : List UInt8) (h : V.length = 16) : ∀ n, (V ++ chS K V T n).drop (16 * n) = chA K V T n
  | 0 => by simp [chS, chA]
  | n + 1 => by
    have : (V ++ chS K V T n).length = 16 * (n + 1) := by rw [List.length_append, chS_length, h]; omega
    rw [chS, ← List.append_assoc, ← this, List.drop_left]
end Go.Proofs.YtkedoiikkjeadaaDoor
namespace Go.Proofs.YtkedoiikkjeadaaDoor
open Go.RowKit
set_option linter.unusedVariables false
set_option linter.unusedSimpArgs false
theorem cbg_wro (k n : Nat) (b : Bool) : cbgE k n b = if wroE k n = 0 then (if b then 0 else 6) else wroE k n := by
  unfold cbgE wroE
  by_cases h1 : keyOk k = true
  · by_cases h2 : n = 16
    · simp [h1, h2]
    · simp [h1, h2]
  · simp [h1]
theorem wro_zero {k n : Nat} (h : wroE k n = 0) : (k = 16 ∨ k = 24 ∨ k = 32) ∧ n = 16 := by
  unfold wroE at h
  split at h
  · rename_i hk
    split at h
    · rename_i hn; exact ⟨by simpa [keyOk] using hk, hn⟩
    · cases h
  · cases h
section
variable {P : Program} {w : World}
/-- append of a text to a row of the call's own -/
theorem wpList_append_txt {ops : Array Oper} {rest : List Oper} {o : Oper} {a : Act} {Q : Exit → Act → World → Prop} (hgd : o.guard = none) (sl x : Operand) (t u : TypeId)
    (ho : o.op = .call { callee := .builtin .append, args := #[sl, x], argTypes := #[t, u] })
    (base : Nat) (e : TypeId) (i : TypeInfo) (ht : P.underlying t = some (.slice e)) (hu : P.underlying u = some .string) (hi : P.info? e = some i) (hz : i.zero = some (.int .u8 0)) (hsize : i.size = 1) (hby : i.bytes = 1)
    (v : Value) (n m : Nat) (l : List UInt8) (hs : a.eval sl = v) (hown : w.ownsRow base e 1 v n (bcells l)) (s : ByteArray) (hx : a.eval x = .string s) (hm : s.size = m) (hb : n + m ≤ 140737488355328) (hbase : base ≤ w.heap.size)
    (h : ∀ v' w', w'.ownsRow base e 1 v' (n + m) (bcells (l ++ s.toList)) → w.grownBy w' v.ownBlock → wpList P ops Q rest (a.put o.dst v') w') : wpList P ops Q (o :: rest) a w := by
  subst hm
  refine Lib.wpList_append_own_string w hgd sl x t u ho base e i ht hu hi hz hsize hby v n _ hs hown s hx (by unfold maxLen; omega) hb hbase ?_
  intro v' w' h1 h2 _
  have e1 : Lib.strCells s = bcells s.toList := by
    rw [Lib.toList_data]
    simp [Lib.strCells, bcells]
  rw [e1, ← bcells_append] at h1
  exact h v' w' h1 h2
theorem step_append_txt {ops : Array Oper} {o : Oper} {a : Act} {K : Act → World → Prop} {Q : Exit → Act → World → Prop} {E : Prop} (hgd : o.guard = none) (sl x : Operand) (t u : TypeId)
    (ho : o.op = .call { callee := .builtin .append, args := #[sl, x], argTypes := #[t, u] })
    (base : Nat) (e : TypeId) (i : TypeInfo) (ht : P.underlying t = some (.slice e)) (hu : P.underlying u = some .string) (hi : P.info? e = some i) (hz : i.zero = some (.int .u8 0)) (hsize : i.size = 1) (hby : i.bytes = 1)
    (v : Value) (n m : Nat) (l : List UInt8) (hs : a.eval sl = v) (hown : w.ownsRow base e 1 v n (bcells l)) (s : ByteArray) (hx : a.eval x = .string s) (hm : s.size = m) (hb : n + m ≤ 140737488355328) (hbase : base ≤ w.heap.size)
    (h : ∀ v' w', w'.ownsRow base e 1 v' (n + m) (bcells (l ++ s.toList)) → w.grownBy w' v.ownBlock → K (a.put o.dst v') w') :
    if Region.wanted o (yielded ops a.tmps) = true then Oper.wp P o a w K Q else E := by
  subst hm
  have hw : Region.wanted o (yielded ops a.tmps) = true := by simp [Region.wanted, hgd]
  rw [if_pos hw]
  obtain ⟨v', w', hr, h2, h3, h4⟩ := Lib.run_append_own_string (P := P) w base t u o.type e i ht hu hi hz hsize hby v n _ hown s (by unfold maxLen; omega) hb hbase
  have e1 : Lib.strCells s = bcells s.toList := by
    rw [Lib.toList_data]
    simp [Lib.strCells, bcells]
  rw [e1, ← bcells_append] at h2
  unfold Oper.wp execOp
  simp only [ho, resolve, invoke, builtin, Sem.run_bind, Sem.run_pure, Result.andThen_ok, List.map_toArray, List.map_cons, List.map_nil, hs, hx, hr]
  exact h v' w' h2 h3
end
theorem blk_pv (V T : List UInt8) (hv : V.length = 16) (i : Nat) : blkL (V ++ T) i = if i = 0 then V else blkL T (i - 1) := by
  cases i with
  | zero => rw [blkL, Nat.mul_zero, List.drop_zero, List.take_left' hv]; rfl
  | succ j =>
    rw [blkL, if_neg (by omega), Nat.add_sub_cancel, blkL, show 16 * (j + 1) = 16 + 16 * j by omega, ← List.drop_drop, List.drop_left' hv]
theorem blk_pvL (V T : List UInt8) (hv : V.length = 16) (i : Nat) : blkL (V ++ T) i = pvL V T i := by
  rw [blk_pv V T hv]
  cases i with
  | zero => rfl
  | succ j => rw [if_neg (by omega), Nat.add_sub_cancel]; rfl
end Go.Proofs.YtkedoiikkjeadaaDoor
namespace Go.Proofs.YtkedoiikkjeadaaDoor
open Go.RowKit
set_option linter.unusedVariables false
set_option linter.unusedSimpArgs false
theorem RetSE.of {l l' : List UInt8} {c c' : Int} {w w' : World} {e : Ending} (h : RetSE l c w e w') (hl : l = l') (hc : c = c') : RetSE l' c' w e w' := by
  subst hl hc
  exact h
theorem fitO_ne {n : Nat} (h : n ≠ 0) : cfitO n = cfit n := by
  rw [cfitO, cfit]
  congr 1
  apply propext
  omega
end Go.Proofs.YtkedoiikkjeadaaDoor
namespace Go.Proofs.YtkedoiikkjeadaaDoor
open Go.RowKit
set_option linter.unusedVariables false
set_option linter.unusedSimpArgs false
def lonB (n : Nat) : Bool := decide (3000 < n ∧ n ≤ 140000)
def RetBq (b : Bool) (w : World) (e : Ending) (w' : World) : Prop := e = .returned (.bool b) ∧ w = w'
end Go.Proofs.YtkedoiikkjeadaaDoor
namespace Go.Proofs.YtkedoiikkjeadaaDoor
open Go.RowKit
set_option linter.unusedVariables false
set_option linter.unusedSimpArgs false
theorem macE_key {k n : Nat} (h1 : k ≠ 16) (h2 : k ≠ 24) (h3 : k ≠ 32) : macE k n = 3 := by rw [macE, keyOk_no h1 h2 h3]; rfl
theorem macE_yes {k n : Nat} (hk : k = 16 ∨ k = 24 ∨ k = 32) : macE k n = if n ≤ 140000 then 0 else 6 := by rw [macE, if_pos (keyOk_yes hk)]
theorem nought_tl : (ByteArray.mk #[0]).toList = [0] := tl_mk _
end Go.Proofs.YtkedoiikkjeadaaDoor
namespace Go.Proofs.YtkedoiikkjeadaaDoor
open Go.RowKit
set_option linter.unusedVariables false
set_option linter.unusedSimpArgs false
theorem Bag.whole {w : World} {B : Nat} {v : Value} {l : List UInt8} (h : Bag w B v l) : ∃ g cap, v = .slice (some ⟨g, 0, none⟩) l.length cap ∧ B ≤ g ∧ l.length ≤ cap := by
  obtain ⟨g, cap, sp, hv, hb, hc, hs, ha⟩ := h
  exact ⟨g, cap, hv, hb, hc⟩
theorem wpList_bytes_len {P : Program} (w : World) {ops : Array Oper} {rest : List Oper} {o : Oper} {a : Act} {Q : Exit → Act → World → Prop}
    (hg : o.guard = none) (x : Operand) (src dst e : TypeId) (hop : o.op = Op.convert src dst x) (h1 : P.underlying src = some .string) (h2 : P.underlying dst = some (.slice e)) (h3 : P.underlying e = some (.int .u8))
    (s : ByteArray) (hx : a.eval x = .string s) (B : Nat) (hB : B ≤ w.heap.size)
    (hK : ∀ g cap w', Hid (Bag w' B (.slice (some ⟨g, 0, none⟩) s.size cap) s.toList) → Below B w w' → wpList P ops Q rest (a.put o.dst (.slice (some ⟨g, 0, none⟩) s.size cap)) w') :
    wpList P ops Q (o :: rest) a w := by
  refine wpList_bytes_bag w hg x src dst e hop h1 h2 h3 s hx B hB ?_
  intro v w' hb hbel
  obtain ⟨g, cap, rfl, hgB, hcap⟩ := hb.whole
  rw [tl_size] at hb ⊢
  exact hK g cap w' hb hbel
end Go.Proofs.YtkedoiikkjeadaaDoor
namespace Go.Proofs.YtkedoiikkjeadaaDoor
open Go.RowKit
set_option linter.unusedVariables false
set_option linter.unusedSimpArgs false
theorem macE_zero {k n : Nat} (h : macE k n = 0) : (k = 16 ∨ k = 24 ∨ k = 32) ∧ n ≤ 140000 := by
  unfold macE at h
  split at h
  · rename_i hk
    split at h
    · exact ⟨by simpa [keyOk] using hk, by assumption⟩
    · omega
  · omega
end Go.Proofs.YtkedoiikkjeadaaDoor
namespace Go.Proofs.YtkedoiikkjeadaaDoor
open Go.RowKit
set_option linter.unusedVariables false
set_option linter.unusedSimpArgs false
/-! ### chains go on -/
theorem blk_app (A B : List UInt8) (n i : Nat) (hA : A.length = 16 * n) : blkL (A ++ B) (n + i) = blkL B i := by
  rw [blkL, blkL, show 16 * (n + i) = A.length + 16 * i by omega, ← List.drop_drop, List.drop_left]
theorem blk_left (A B : List UInt8) (n i : Nat) (hA : A.length = 16 * n) (h : i < n) : blkL (A ++ B) i = blkL A i := by
  rw [blkL, blkL, List.drop_append_of_le_length (by omega), List.take_append_of_le_length (by rw [List.length_drop]; omega)]
theorem chA_left (K V A B : List UInt8) (n : Nat) (hA : A.length = 16 * n) : ∀ i, i ≤ n → chA K V (A ++ B) i = chA K V A i
  | 0, _ => rfl
  | i + 1, h => by rw [chA, chA, chA_left K V A B n hA i (by omega), blk_left A B n i hA (by omega)]
theorem chA_app (K V A B : List UInt8) (n : Nat) (hA : A.length = 16 * n) : ∀ i, chA K V (A ++ B) (n + i) = chA K (chA K V A n) B i
  | 0 => chA_left K V A B n hA n (Nat.le_refl _)
  | i + 1 => by rw [← Nat.add_assoc, chA, chA, chA_app K V A B n hA i, blk_app A B n i hA]
/-! ### counters -/
theorem addL_be (q m n : Nat) : oaddL (be q m) n = be q (m + n) := by
  rw [oaddL, be_length, ofBe_be, ← be_mod q (m + n), ← be_mod q (m % 256 ^ q + n), Nat.mod_add_mod]
def ccCnt (V : List UInt8) (i : Nat) : List UInt8 := UInt8.ofNat (14 - V.length) :: (V ++ be (15 - V.length) i)
theorem ccCnt_length (V : List UInt8) (i : Nat) (h : V.length ≤ 13) : (ccCnt V i).length = 16 := by
  rw [ccCnt, List.length_cons, List.length_append, be_length]
  omega
theorem nxt_cnt (V : List UInt8) (i n : Nat) (h : V.length ≤ 13) : nxt (ccCnt V i) (15 - V.length) n = ccCnt V (i + n) := by
  have e1 : ccCnt V i = (UInt8.ofNat (14 - V.length) :: V) ++ be (15 - V.length) i := rfl
  have hl : (UInt8.ofNat (14 - V.length) :: V).length = 16 - (15 - V.length) := by rw [List.length_cons]; omega
  rw [nxt, e1, List.take_left' hl, List.drop_left' hl, addL_be]
  rfl
/-! ### what goes through the chain -/
def ccFlag (v a s : Nat) : Nat := 8 * ((s - 2) / 2) + (14 - v) + (if a = 0 then 0 else 64)
def ccFirst (V A : List UInt8) (n s : Nat) : List UInt8 := UInt8.ofNat (ccFlag V.length A.length s) :: (V ++ be (15 - V.length) n)
def ccBes (A : List UInt8) : List UInt8 := if A.length = 0 then [] else if A.length < 65280 then filM (be 2 A.length ++ A) else filM (([255, 254] ++ be 4 A.length) ++ A)
def ccHead (V A : List UInt8) (n s : Nat) : List UInt8 := ccFirst V A n s ++ ccBes A
def ccAll (V A T : List UInt8) (s : Nat) : List UInt8 := ccHead V A T.length s ++ filM T
def ccX (K V A T : List UInt8) (s : Nat) : List UInt8 := chA K (zer 16) (ccAll V A T s) ((ccAll V A T s).length / 16)
def ccTag (K V A T : List UInt8) (s : Nat) : List UInt8 := (xorL (ccX K V A T s) (encL K (ccCnt V 0))).take s
def ccJoin (K V : List UInt8) (T : List UInt8) (i : Nat) : List UInt8 := ctrL K (ccCnt V i) (15 - V.length) T
theorem ccFirst_length (V A : List UInt8) (n s : Nat) (h : V.length ≤ 13) : (ccFirst V A n s).length = 16 := by
  rw [ccFirst, List.length_cons, List.length_append, be_length]
  omega
theorem ccBes_mod (A : List UInt8) : (ccBes A).length = 16 * ((ccBes A).length / 16) := by
  unfold ccBes
  split
  · rfl
  · split
    · exact filM_mod _
    · exact filM_mod _
theorem ccBes_size (A : List UInt8) : (ccBes A).length ≤ A.length + 22 := by
  unfold ccBes
  split
  · simp
  · split
    · have := filM_size (be 2 A.length ++ A)
      rw [List.length_append, be_length] at this
      omega
    · have := filM_size (([255, 254] ++ be 4 A.length) ++ A)
      rw [List.length_append, List.length_append, be_length] at this
      simp only [List.length_cons, List.length_nil] at this
      omega
theorem ccHead_mod (V A : List UInt8) (n s : Nat) (h : V.length ≤ 13) : (ccHead V A n s).length = 16 * ((ccHead V A n s).length / 16) := by
  have h1 := ccFirst_length V A n s h
  have h2 := ccBes_mod A
  rw [ccHead, List.length_append, h1]
  omega
theorem ccX_split (K V A T : List UInt8) (s : Nat) (h : V.length ≤ 13) :
    ccX K V A T s = chA K (chA K (zer 16) (ccHead V A T.length s) ((ccHead V A T.length s).length / 16)) (filM T) ((filM T).length / 16) := by
  have h1 := ccHead_mod V A T.length s h
  have h2 := filM_mod T
  rw [ccX, ccAll, List.length_append, show ((ccHead V A T.length s).length + (filM T).length) / 16 = (ccHead V A T.length s).length / 16 + (filM T).length / 16 by omega]
  exact chA_app K _ _ _ _ h1 _
theorem filM_whole (T : List UInt8) (h : T.length % 16 = 0) : filM T = T := by
  rw [filM, h]
  exact List.append_nil T
/-- layer 6's Mac of what is ahead -/
theorem ccMac (K V A : List UInt8) (n s : Nat) (h : V.length ≤ 13) : macF K (ccHead V A n s) = chA K (zer 16) (ccHead V A n s) ((ccHead V A n s).length / 16) := by
  rw [macF, filM_whole _ (by have := ccHead_mod V A n s h; omega)]
theorem ccJoin_tag (K V X : List UInt8) (s : Nat) (h : V.length ≤ 13) (hX : X.length = 16) (hs : s ≤ 16) (h1 : 1 ≤ s) : ccJoin K V (X.take s) 0 = (xorL X (encL K (ccCnt V 0))).take s := by
  have hb : blk (X.take s).length = 1 := by rw [List.length_take, blk]; omega
  rw [ccJoin, ctrL, hb, ctrS, ctrS, List.nil_append, nxt_zero]
  unfold xorL
  rw [List.take_zipWith]
  apply List.ext_getElem
  · simp [encL_length]; omega
  · intro i h1 h2
    simp
theorem ccX_length (K V A T : List UInt8) (s : Nat) : (ccX K V A T s).length = 16 := chA_length _ _ _ (zer_length 16) _
theorem ccTag_length (K V A T : List UInt8) (s : Nat) (h : s ≤ 16) : (ccTag K V A T s).length = s := by
  rw [ccTag, List.length_take, xorL_length, ccX_length, encL_length]
  omega
/-- the counters, one after the other -/
def ccStr (K V : List UInt8) : Nat → List UInt8
  | 0 => []
  | m + 1 => ccStr K V m ++ encL K (ccCnt V (m + 1))
theorem ccStr_ctr (K V : List UInt8) (h : V.length ≤ 13) : ∀ m, ctrS K (ccCnt V 1) (15 - V.length) m = ccStr K V m
  | 0 => rfl
  | m + 1 => by rw [ctrS, ccStr, ccStr_ctr K V h m, nxt_cnt V 1 m h, Nat.add_comm 1 m]
theorem ccStr_length (K V : List UInt8) : ∀ m, (ccStr K V m).length = 16 * m
  | 0 => rfl
  | m + 1 => by rw [ccStr, List.length_append, ccStr_length K V m, encL_length]; omega
/-! ### errors -/
def ccFits (v : Nat) (n : Int) : Bool := decide (7 ≤ v ∧ v ≤ 13 ∧ 0 ≤ n ∧ n ≤ 70000 ∧ (v = 13 → n < 65536))
def ccE (k v a : Nat) (s n : Int) : Int :=
  if keyOk k then if v < 7 ∨ 13 < v then 4 else if s < 4 ∨ 16 < s ∨ s % 2 ≠ 0 then 5 else if 70000 < a ∨ ccFits v n = false then 6 else 0 else 3
theorem ccE_zero {k v a : Nat} {s n : Int} (h : ccE k v a s n = 0) : (k = 16 ∨ k = 24 ∨ k = 32) ∧ 7 ≤ v ∧ v ≤ 13 ∧ 4 ≤ s ∧ s ≤ 16 ∧ s % 2 = 0 ∧ a ≤ 70000 ∧ 0 ≤ n ∧ n ≤ 70000 ∧ (v = 13 → n < 65536) := by
  unfold ccE at h
  split at h
  · rename_i hk
    split at h
    · cases h
    · split at h
      · cases h
      · split at h
        · cases h
        · rename_i h4
          have hf : ccFits v n = true := by
            cases hf : ccFits v n
            · exact absurd (.inr hf) h4
            · rfl
          have := of_decide_eq_true hf
          exact ⟨by simpa [keyOk] using hk, by omega, by omega, by omega, by omega, by omega, by omega, by omega, by omega, this.2.2.2.2⟩
  · cases h
end Go.Proofs.YtkedoiikkjeadaaDoor
namespace Go.Proofs.YtkedoiikkjeadaaDoor
open Go.RowKit
set_option linter.unusedVariables false
set_option linter.unusedSimpArgs false
/-- what s says of a size -/
theorem ccE_key {k v a : Nat} {s n : Int} (h1 : k ≠ 16) (h2 : k ≠ 24) (h3 : k ≠ 32) : ccE k v a s n = 3 := by rw [ccE, keyOk_no h1 h2 h3]; rfl
theorem ccE_iv {k v a : Nat} {s n : Int} (hk : k = 16 ∨ k = 24 ∨ k = 32) (h : v < 7 ∨ 13 < v) : ccE k v a s n = 4 := by rw [ccE, if_pos (keyOk_yes hk), if_pos h]
theorem ccE_tag {k v a : Nat} {s n : Int} (hk : k = 16 ∨ k = 24 ∨ k = 32) (h : ¬ (v < 7 ∨ 13 < v)) (hs : s < 4 ∨ 16 < s ∨ s % 2 ≠ 0) : ccE k v a s n = 5 := by rw [ccE, if_pos (keyOk_yes hk), if_neg h, if_pos hs]
theorem ccE_aad {k v a : Nat} {s n : Int} (hk : k = 16 ∨ k = 24 ∨ k = 32) (h : ¬ (v < 7 ∨ 13 < v)) (hs : ¬ (s < 4 ∨ 16 < s ∨ s % 2 ≠ 0)) (ha : 70000 < a) : ccE k v a s n = 6 := by rw [ccE, if_pos (keyOk_yes hk), if_neg h, if_neg hs, if_pos (.inl ha)]
theorem ccE_fits {k v a : Nat} {s n : Int} (hk : k = 16 ∨ k = 24 ∨ k = 32) (h : ¬ (v < 7 ∨ 13 < v)) (hs : ¬ (s < 4 ∨ 16 < s ∨ s % 2 ≠ 0)) (ha : ¬ 70000 < a) : ccE k v a s n = if ccFits v n then 0 else 6 := by
  rw [ccE, if_pos (keyOk_yes hk), if_neg h, if_neg hs]
  cases ccFits v n
  · rw [if_pos (.inr rfl)]; rfl
  · rw [if_neg (by intro hc; rcases hc with hc | hc; exact ha hc; cases hc)]; rfl
end Go.Proofs.YtkedoiikkjeadaaDoor
namespace Go.Proofs.YtkedoiikkjeadaaDoor
open Go.RowKit
set_option linter.unusedVariables false
set_option linter.unusedSimpArgs false
theorem u64_in6 (t : Nat) (h : t < 1000000) : IntKind.u64.wrap (t : Int) = (t : Int) := by simp [IntKind.wrap, IntKind.bits, IntKind.signed]; omega
theorem u8_in (t : Nat) (h : t < 256) : IntKind.u8.wrap (t : Int) = (t : Int) := by simp [IntKind.wrap, IntKind.bits, IntKind.signed]; omega
/-- a byte as a text -/
theorem cv_byte (f : Nat) (hf : f < 256) (c : ByteArray) (hc : c = ⟨[UInt8.ofNat f].toArray⟩) : ∀ w' : World, (convert 56 9 (.slice (some ⟨w'.heap.size, 0, none⟩) 1 1)).run Tryd.prog (w'.alloc (Obj.cells #[.int .u8 (f : Int)] 5)) = .ok (.string c) (w'.alloc (Obj.cells #[.int .u8 (f : Int)] 5)) := fun w' => by
  have e9 : (f : Int) = ((UInt8.ofNat f).toNat : Int) := by simp; omega
  have hcv := convert_at (P := Tryd.prog) (cap := 1) (l := [UInt8.ofNat f]) (At.ofAlloc w' #[.int .u8 ((UInt8.ofNat f).toNat : Int)] 5) 56 9 5 1 rfl Tryd.underlying56 Tryd.underlying5 Tryd.underlying9
  rw [← hc, ← e9] at hcv
  exact hcv
theorem put_fit (n q : Nat) (h2 : 2 ≤ q) (h8 : q ≤ 8) (h : n < 65536 ∨ (3 ≤ q ∧ n < 1000000)) : putL n (q : Int) = be q n ∧ putE n (q : Int) = 0 := by
  have hp : n < 256 ^ q := by
    rcases h with h | ⟨h3, h⟩
    · exact Nat.lt_of_lt_of_le h (Nat.pow_le_pow_right (by decide) h2 : 256 ^ 2 ≤ 256 ^ q)
    · exact Nat.lt_of_lt_of_le (by omega) (Nat.pow_le_pow_right (by decide) h3 : 256 ^ 3 ≤ 256 ^ q)
  have : putOk n (q : Int) = true := by
    rw [putOk, decide_eq_true_iff]
    exact ⟨by omega, by omega, by rw [Int.toNat_natCast]; exact hp⟩
  rw [putL, putE, this, Int.toNat_natCast]
  exact ⟨rfl, rfl⟩
end Go.Proofs.YtkedoiikkjeadaaDoor
namespace Go.Proofs.YtkedoiikkjeadaaDoor
open Go.RowKit
set_option linter.unusedVariables false
set_option linter.unusedSimpArgs false
theorem chS_last (K V T : List UInt8) (n : Nat) (h : 1 ≤ n) : (chS K V T n).drop (16 * n - 16) = chA K V T n := by
  obtain ⟨m, rfl⟩ : ∃ m, n = m + 1 := ⟨n - 1, by omega⟩
  have : (chS K V T m).length = 16 * (m + 1) - 16 := by rw [chS_length]; omega
  rw [chS, ← this, List.drop_left]
theorem cc_nil (T : List UInt8) (h : T.length = 0) : filM T = [] := by
  rw [List.eq_nil_of_length_eq_zero h]
  rfl
end Go.Proofs.YtkedoiikkjeadaaDoor
namespace Go.Proofs.YtkedoiikkjeadaaDoor
open Go.RowKit
set_option linter.unusedVariables false
set_option linter.unusedSimpArgs false
set_option maxRecDepth 100000 in
set_option maxHeartbeats 1600000 in
theorem rfilled_any (text : ByteArray) (w : World) (ht : text.size ≤ 1000000) : Calls Tryd.prog 46 #[.string text] w (RetS (filM text.toList) w) := by
  obtain ⟨i0, hi, hz0, hz1, hz2⟩ := info_parts info5
  obtain ⟨p, hp⟩ : ∃ p, p = (16 - text.size % 16) % 16 := ⟨_, rfl⟩
  have HP := Lib.hid hp
  have hpb : p ≤ 15 := by omega
  have hMP : filM text.toList = text.toList ++ zer p := by rw [filM, tl_size, hp]
  have HMP := Lib.hid hMP
  clear hp hMP
  go_enter Tryd.func46, Tryd.ntmps46
  go_wp2_with (refine wpList_bytes_len _ rfl (.tmp 4) 9 56 5 rfl Tryd.underlying9 Tryd.underlying56 Tryd.underlying5 text rfl w.heap.size (Nat.le_refl _) ?_; intro g0 cap0 w1 HBAG hb1)
  go_loopw [3] (fun v wr => ∃ (g cap j m : Nat), m = text.size + j ∧ v = .slice (some ⟨g, 0, none⟩) m cap ∧ j ≤ p ∧ Bag wr w.heap.size v (text.toList ++ zer j) ∧ Below w.heap.size w wr) (fun v _ => text.size + p - lenOf v)
  case atStart => exact ⟨g0, cap0, 0, text.size, rfl, rfl, Nat.zero_le _, by rw [show zer 0 = [] from rfl, List.append_nil]; exact HBAG.out, hb1⟩
  case round =>
    clear HBAG hb1
    obtain ⟨g, cap, j, m, hm, rfl, hjp, hbag, hbel⟩ := hrel
    obtain ⟨r, hr⟩ : ∃ r, m % 16 = r := ⟨_, rfl⟩
    have hmb : m ≤ 1000015 := by omega
    have f3 : (m : Int).tmod 16 = (r : Int) := tmod_nat m 16 r hr.symm
    have f4 : IntKind.i64.wrap (r : Int) = (r : Int) := wrap_in _ (by omega) (by omega)
    have HBAG := Lib.hid hbag
    have HM := Lib.hid hm
    by_cases hr0 : r = 0
    · have hjp2 : j = p := by have := HP.out; omega
      have f5 : ((r : Int) != 0) = false := by rw [bne_eq_false_iff_eq]; omega
      have hbag2 := hbag
      rw [hjp2, ← HMP.out] at hbag2
      obtain ⟨gq, capq, hv, hA⟩ := hbag2.is
      injection hv with hv1 hv2 hv3
      injection hv1 with hv4
      injection hv4 with hv5
      subst hv5 hv3
      have hcv := convert_at (P := Tryd.prog) (cap := cap) hA 56 9 5 m hv2.symm Tryd.underlying56 Tryd.underlying5 Tryd.underlying9
      clear hm hr hr0 hbag hbag2 hA hjp2 HBAG hv2
      go_wp2_with fail
      go_ret
      exact ⟨_, rfl, tl_mk _, hbel⟩
    · have f5 : ((r : Int) != 0) = true := by rw [bne_iff_ne]; omega
      have hjp2 : j < p := by have := HP.out; omega
      have hsz : w.heap.size ≤ wr.heap.size := hbel.size
      clear hm hr hr0 hbag
      go_wp2_with (at_builtin; refine wpList_append_bag _ rfl (.tmp 10) (.tmp 11) 56 rfl 5 i0 Tryd.underlying56 hi hz0 hz1 hz2 _ w.heap.size (text.toList ++ zer j) rfl (HBAG.out.alloc _) wr.heap.size rfl 0 ((At.ofAlloc wr #[Value.int .u8 0] 5).cell 0 _ rfl) (by simp; omega) (by rw [List.length_append, zer_length, tl_size]; omega) ?_; intro v' w2 hbag2 hbel2)
      have hb12 := (hbel.alloc hsz (Obj.cells #[Value.int .u8 0] 5)).trans hbel2
      have hz1 : text.toList ++ zer j ++ [0] = text.toList ++ zer (j + 1) := by rw [List.append_assoc, show ([0] : List UInt8) = zer 1 from rfl, ← zer_add]
      rw [hz1] at hbag2
      obtain ⟨g2, cap2, rfl, hgB2, hcap2⟩ := hbag2.whole
      have hlen : (text.toList ++ zer (j + 1)).length = m + 1 := by rw [List.length_append, zer_length, tl_size, HM.out]; omega
      rw [hlen] at hbag2 ⊢
      have HBAG2 := Lib.hid hbag2
      clear hbag2 hbel2 hz1 hlen
      go_wp2_with fail
      go_roundw
      case rel => exact ⟨g2, cap2, j + 1, m + 1, by have := HM.out; omega, rfl, hjp2, HBAG2.out, hb12⟩
      case measure => simp [lenOf]; have := HM.out; omega
theorem cv_after (f : Nat) (hf : f < 256) (c : ByteArray) (hc : c = ⟨[UInt8.ofNat f].toArray⟩) {w w3 : World} (hb : Below (w.alloc (Obj.cells #[.int .u8 (f : Int)] 5)).drew.heap.size (w.alloc (Obj.cells #[.int .u8 (f : Int)] 5)).drew w3) :
    (convert 56 9 (.slice (some ⟨w.heap.size, 0, none⟩) 1 1)).run Tryd.prog w3 = .ok (.string c) w3 := by
  have e9 : (f : Int) = ((UInt8.ofNat f).toNat : Int) := by simp; omega
  have hA : At (w.alloc (Obj.cells #[.int .u8 (f : Int)] 5)).drew w.heap.size 0 (bcells [UInt8.ofNat f]) := by
    have h := At.ofAlloc w #[.int .u8 ((UInt8.ofNat f).toNat : Int)] 5
    rw [← e9] at h
    have e : bcells [UInt8.ofNat f] = [.int .u8 (f : Int)] := by rw [e9]; rfl
    rw [e]
    exact h
  have hcv := convert_at (P := Tryd.prog) (cap := 1) (hA.below hb (by simp)) 56 9 5 1 rfl Tryd.underlying56 Tryd.underlying5 Tryd.underlying9
  rw [← hc] at hcv
  exact hcv
theorem cv_byteD (f : Nat) (hf : f < 256) (c : ByteArray) (hc : c = ⟨[UInt8.ofNat f].toArray⟩) : ∀ w' : World, (convert 56 9 (.slice (some ⟨w'.heap.size, 0, none⟩) 1 1)).run Tryd.prog (w'.alloc (Obj.cells #[.int .u8 (f : Int)] 5)).drew = .ok (.string c) (w'.alloc (Obj.cells #[.int .u8 (f : Int)] 5)).drew := fun w' => cv_byte f hf c hc w'.drew
end Go.Proofs.YtkedoiikkjeadaaDoor
namespace Go.Proofs.YtkedoiikkjeadaaDoor
open Go.RowKit
set_option linter.unusedVariables false
set_option linter.unusedSimpArgs false
end Go.Proofs.YtkedoiikkjeadaaDoor
namespace Go.Proofs.YtkedoiikkjeadaaDoor
open Go.RowKit
set_option linter.unusedVariables false
set_option linter.unusedSimpArgs false
/-- kept aside -/
structure Sm (p : Prop) : Prop where
  out : p
end Go.Proofs.YtkedoiikkjeadaaDoor
namespace Go.Proofs.YtkedoiikkjeadaaDoor
open Go.RowKit
set_option linter.unusedVariables false
set_option linter.unusedSimpArgs false
theorem blkL_ext (s : ByteArray) (k o e : Nat) (ho : o = 16 * k) (he : e = o + 16) : (s.extract o e).toList = blkL s.toList k := by
  rw [tl_ext, he, ho, blkL]
  congr 1
  omega
end Go.Proofs.YtkedoiikkjeadaaDoor
namespace Go.Proofs.YtkedoiikkjeadaaDoor
open Go.RowKit
set_option linter.unusedVariables false
set_option linter.unusedSimpArgs false
theorem below_dN10 {B : Nat} {a w : World} (h : Below B a w) (n : Nat) : Below B a (w.drewN n) := ⟨h.os, h.tape, h.output, h.size, h.block⟩
/-- what comes out -/
def ccSealL (K V A T : List UInt8) (s : Int) : List UInt8 := if ccE K.length V.length A.length s (T.length : Int) = 0 then ccJoin K V T 1 ++ ccTag K V A T s.toNat else []
def ccTagL (K V A T : List UInt8) (s : Int) : List UInt8 := if ccE K.length V.length A.length s (T.length : Int) = 0 then ccTag K V A T s.toNat else []
def ccOp (K V T : List UInt8) (s : Int) : List UInt8 := ccJoin K V (T.take (T.length - s.toNat)) 1
def ccOpenE (K V A T : List UInt8) (s : Int) : Int :=
  if ccE K.length V.length A.length s ((T.length : Int) - s) = 0 then if ccTag K V A (ccOp K V T s) s.toNat = T.drop (T.length - s.toNat) then 0 else 8 else ccE K.length V.length A.length s ((T.length : Int) - s)
def ccOpenL (K V A T : List UInt8) (s : Int) : List UInt8 := if ccOpenE K V A T s = 0 then ccOp K V T s else []
theorem ccE_size {k v a : Nat} {s : Int} (n n' : Int) (h : s < 4 ∨ 16 < s ∨ s % 2 ≠ 0) : ccE k v a s n = ccE k v a s n' := by
  unfold ccE
  split
  · split
    · rfl
    · first | rfl | rw [if_pos h, if_pos h]
  · rfl
theorem ccE_none {k v a : Nat} {s : Int} (n : Int) (h : ccE k v a s 0 ≠ 0) : ccE k v a s n = ccE k v a s 0 := by
  by_cases hk : keyOk k = true
  · by_cases hv : v < 7 ∨ 13 < v
    · rw [ccE, ccE, if_pos hk, if_pos hv, if_pos hk, if_pos hv]
    · by_cases hs : s < 4 ∨ 16 < s ∨ s % 2 ≠ 0
      · exact ccE_size _ _ hs
      · by_cases ha : 70000 < a
        · rw [ccE, ccE, if_pos hk, if_neg hv, if_neg hs, if_pos (.inl ha), if_pos hk, if_neg hv, if_neg hs, if_pos (.inl ha)]
        · exfalso
          apply h
          have hf : ccFits v 0 = true := by rw [ccFits, decide_eq_true_iff]; omega
          rw [ccE, if_pos hk, if_neg hv, if_neg hs, if_neg (by rw [hf]; simp; omega)]
  · rw [ccE, ccE, if_neg hk, if_neg hk]
end Go.Proofs.YtkedoiikkjeadaaDoor
namespace Go.Proofs.YtkedoiikkjeadaaDoor
open Go.RowKit
set_option linter.unusedVariables false
set_option linter.unusedSimpArgs false
end Go.Proofs.YtkedoiikkjeadaaDoor
namespace Go.Proofs.YtkedoiikkjeadaaDoor
open Go.RowKit
set_option linter.unusedVariables false
def cxK : List UInt8 := [64, 65, 66, 67, 68, 69, 70, 71, 72, 73, 74, 75, 76, 77, 78, 79]
def cxV : List UInt8 := [16, 17, 18, 19, 20, 21, 22]
def cxA : List UInt8 := [0, 1, 2, 3, 4, 5, 6, 7]
def cxT : List UInt8 := [32, 33, 34, 35]
set_option maxRecDepth 100000 in
theorem ccEx : ccJoin cxK cxV cxT 1 ++ ccTag cxK cxV cxA cxT 4 = [113, 98, 1, 91, 77, 172, 37, 93] := by decide +kernel
end Go.Proofs.YtkedoiikkjeadaaDoor
namespace Go.Proofs.YtkedoiikkjeadaaDoor
open Go.RowKit
set_option linter.unusedVariables false
set_option linter.unusedSimpArgs false
/-- a box in memory -/
def Bx (w : World) (B : Nat) (key nonce aad : ByteArray) (s : Int) : Prop :=
  w.cell? ⟨B, 0, none⟩ = some (.string key) ∧ w.cell? ⟨B, 1, none⟩ = some (.string nonce) ∧ w.cell? ⟨B, 2, none⟩ = some (.string aad) ∧ w.cell? ⟨B, 3, none⟩ = some (.int .i64 s)
theorem Bx.below {w w' : World} {B B' : Nat} {key nonce aad : ByteArray} {s : Int} (h : Bx w B key nonce aad s) (hb : Below B' w w') (hB : B < B') : Bx w' B key nonce aad s :=
  ⟨(hb.cell (p := ⟨B, 0, none⟩) hB).trans h.1, (hb.cell (p := ⟨B, 1, none⟩) hB).trans h.2.1, (hb.cell (p := ⟨B, 2, none⟩) hB).trans h.2.2.1, (hb.cell (p := ⟨B, 3, none⟩) hB).trans h.2.2.2⟩
def RetBb (w : World) (e : Ending) (w' : World) : Prop := ∃ b : Bool, e = .returned (.bool b) ∧ Below w.heap.size w w'
end Go.Proofs.YtkedoiikkjeadaaDoor
namespace Go.Proofs.YtkedoiikkjeadaaDoor
open Go.RowKit
set_option linter.unusedVariables false
set_option linter.unusedSimpArgs false
theorem ccBack (K V A T : List UInt8) (m : Nat) (h : ccE K.length V.length A.length (m : Int) (T.length : Int) = 0) :
    (ccSealL K V A T (m : Int)).length = T.length + m ∧ ccOpenE K V A (ccSealL K V A T (m : Int)) (m : Int) = 0 ∧ ccOpenL K V A (ccSealL K V A T (m : Int)) (m : Int) = T := by
  obtain ⟨hk, h7, h13, s4, s16, sev, ha, hn0, hn7, hnv⟩ := ccE_zero h
  have m16 : m ≤ 16 := by omega
  have hS : ccSealL K V A T (m : Int) = ccJoin K V T 1 ++ ccTag K V A T m := by rw [ccSealL, if_pos h, Int.toNat_natCast]
  have hj : (ccJoin K V T 1).length = T.length := by rw [ccJoin, ctrL_length]
  have ht : (ccTag K V A T m).length = m := ccTag_length _ _ _ _ _ m16
  have hl : (ccSealL K V A T (m : Int)).length = T.length + m := by rw [hS, List.length_append, hj, ht]
  have hE : ccE K.length V.length A.length (m : Int) (((ccSealL K V A T (m : Int)).length : Int) - (m : Int)) = 0 := by
    rw [hl, show ((T.length + m : Nat) : Int) - (m : Int) = (T.length : Int) by omega]
    exact h
  have hO : ccOp K V (ccSealL K V A T (m : Int)) (m : Int) = T := by
    rw [ccOp, Int.toNat_natCast, hl, Nat.add_sub_cancel, hS, List.take_left' hj, ccJoin, ccJoin, ctrL_twice]
  have hD : (ccSealL K V A T (m : Int)).drop ((ccSealL K V A T (m : Int)).length - m) = ccTag K V A T m := by
    rw [hl, Nat.add_sub_cancel, hS, List.drop_left' hj]
  have hOE : ccOpenE K V A (ccSealL K V A T (m : Int)) (m : Int) = 0 := by
    rw [ccOpenE, if_pos hE, hO, Int.toNat_natCast, hD, if_pos rfl]
  exact ⟨hl, hOE, by rw [ccOpenL, if_pos hOE, hO]⟩
theorem emptyB {s : ByteArray} (h : s.toList = []) : s = ByteArray.mk #[] := tl_inj (by rw [h]; exact (tl_mk []).symm)
end Go.Proofs.YtkedoiikkjeadaaDoor
