/- Joined by merge.py: CtrP CtrB CtrC CtrD. -/
import Derived.Test.YtflofbimecnakaaGreatAesQb
import Derived.Test.YtflofbimecnakaaGreatOctX
import Derived.Test.YtflofbimecnakaaGreatRowX
import Derived.Room.AppendFits
import Derived.Test.YtflofbimecnakaaGreatAesBe
import Derived.Test.YtflofbimecnakaaGreatAesBo
namespace Go.Proofs.YtflofbimecnakaaGreat
open Go.RowKit
set_option linter.unusedVariables false
set_option linter.unusedSimpArgs false
theorem tl_append (a b : ByteArray) : (a ++ b).toList = a.toList ++ b.toList := by
  rw [Lib.toList_data, Lib.toList_data, Lib.toList_data, ByteArray.data_append]
  simp
theorem tl_ext (s : ByteArray) (a b : Nat) : (s.extract a b).toList = (s.toList.drop a).take (b - a) := by rw [Lib.extract_toList, ← Lib.toList_data]
theorem tl_ext0 (s : ByteArray) (b : Nat) : (s.extract 0 b).toList = s.toList.take b := by rw [tl_ext]; simp
theorem tl_extE (s : ByteArray) (a n : Nat) (h : n = s.size) : (s.extract a n).toList = s.toList.drop a := by
  rw [tl_ext, h, ← tl_size, List.take_of_length_le (by simp)]
def nxt (S : List UInt8) (w n : Nat) : List UInt8 := S.take (16 - w) ++ oaddL (S.drop (16 - w)) n
theorem nxt_length (S : List UInt8) (w n : Nat) (h : S.length = 16) : (nxt S w n).length = 16 := by
  rw [nxt, List.length_append, oaddL_length, List.length_take, List.length_drop]
  omega
theorem nxt_zero (S : List UInt8) (w : Nat) : nxt S w 0 = S := by
  rw [nxt, oaddL, Nat.add_zero, be_ofBe, List.take_append_drop]
theorem nxt_add (S : List UInt8) (w n m : Nat) (h : S.length = 16) : nxt (nxt S w n) w m = nxt S w (n + m) := by
  have hl : (S.take (16 - w)).length = 16 - w := by rw [List.length_take]; omega
  rw [nxt, nxt, nxt, List.take_left' hl, List.drop_left' hl, oaddL_addL]
/-- what a text is joined with: the first m blocks -/
def ctrS (K S : List UInt8) (w : Nat) : Nat → List UInt8
  | 0 => []
  | m + 1 => ctrS K S w m ++ encL K (nxt S w m)
theorem ctrS_length (K S : List UInt8) (w : Nat) : ∀ m, (ctrS K S w m).length = 16 * m
  | 0 => rfl
  | m + 1 => by rw [ctrS, List.length_append, ctrS_length K S w m, encL_length]; omega
theorem ctrS_take (K S : List UInt8) (w : Nat) : ∀ (k m : Nat), (ctrS K S w (m + k)).take (16 * m) = ctrS K S w m
  | 0, m => by rw [Nat.add_zero, List.take_of_length_le (by rw [ctrS_length]; exact Nat.le_refl _)]
  | k + 1, m => by
    rw [← Nat.add_assoc, ctrS, List.take_append_of_le_length (by rw [ctrS_length]; omega), ctrS_take K S w k m]
/-- how many blocks n bytes want -/
def blk (n : Nat) : Nat := (n + 15) / 16
def ctrL (K S : List UInt8) (w : Nat) (T : List UInt8) : List UInt8 := xorL T (ctrS K S w (blk T.length))
theorem xorL_length (A B : List UInt8) : (xorL A B).length = min A.length B.length := by simp [xorL]
theorem ctrL_length (K S : List UInt8) (w : Nat) (T : List UInt8) : (ctrL K S w T).length = T.length := by
  rw [ctrL, xorL_length, ctrS_length, blk]
  omega
theorem xorL_cut (A B : List UInt8) (n : Nat) (h : A.length ≤ n) : xorL A (B.take n) = xorL A B := by
  unfold xorL
  conv => lhs; rw [← List.take_of_length_le h, ← List.take_zipWith]
  rw [List.take_of_length_le (by simp; omega)]
theorem xorL_cutL (A B : List UInt8) (n : Nat) (h : B.length ≤ n) : xorL (A.take n) B = xorL A B := by
  unfold xorL
  conv => lhs; rw [← List.take_of_length_le h, ← List.take_zipWith]
  rw [List.take_of_length_le (by simp; omega)]
/-- any number of blocks that is great enough will do -/
theorem ctrL_any (K S : List UInt8) (w : Nat) (T : List UInt8) (m : Nat) (h : T.length ≤ 16 * m) : xorL T (ctrS K S w m) = ctrL K S w T := by
  have hb : blk T.length ≤ m := by unfold blk; omega
  obtain ⟨k, rfl⟩ : ∃ k, m = blk T.length + k := ⟨m - blk T.length, by omega⟩
  rw [ctrL, ← ctrS_take K S w k (blk T.length), xorL_cut _ _ _ (by unfold blk; omega)]
theorem xorL_app (A B C D : List UInt8) (h : A.length = C.length) : xorL (A ++ B) (C ++ D) = xorL A C ++ xorL B D := by
  unfold xorL
  exact List.zipWith_append h
theorem xorL_twice (A B : List UInt8) (h : A.length ≤ B.length) : xorL (xorL A B) B = A := by
  apply List.ext_getElem
  · simp [xorL]; omega
  · intro i h1 h2
    have hb : i < B.length := by omega
    simp [xorL, UInt8.xor_assoc]
theorem ctrL_twice (K S : List UInt8) (w : Nat) (T : List UInt8) : ctrL K S w (ctrL K S w T) = T := by
  rw [ctrL, ctrL_length, ctrL]
  exact xorL_twice _ _ (by rw [ctrS_length]; unfold blk; omega)
/-- what shorter texts are joined with is the beginning -/
theorem ctrL_take (K S : List UInt8) (w : Nat) (T : List UInt8) (n : Nat) (h : n ≤ T.length) : ctrL K S w (T.take n) = (ctrL K S w T).take n := by
  rw [← ctrL_any K S w (T.take n) (blk T.length) (by rw [List.length_take]; unfold blk; omega), ctrL]
  unfold xorL
  rw [List.take_zipWith]
  apply List.ext_getElem
  · simp [ctrS_length, blk]; omega
  · intro i h1 h2
    simp
theorem nxt_mod (K S : List UInt8) (w n i : Nat) (h : S.length = 16) : encL K (nxt (nxt S w n) w i) = encL K (nxt S w (n + i)) := by rw [nxt_add S w n i h]
theorem ctrS_app (K S : List UInt8) (w n : Nat) (h : S.length = 16) : ∀ m, ctrS K S w (n + m) = ctrS K S w n ++ ctrS K (nxt S w n) w m
  | 0 => by rw [ctrS, Nat.add_zero, List.append_nil]
  | m + 1 => by rw [← Nat.add_assoc, ctrS, ctrS, ctrS_app K S w n h m, nxt_add S w n m h, List.append_assoc]
/-- a text behind whole blocks -/
theorem ctrL_app (K S : List UInt8) (w n : Nat) (A B : List UInt8) (h : S.length = 16) (hA : A.length = 16 * n) : ctrL K S w (A ++ B) = ctrL K S w A ++ ctrL K (nxt S w n) w B := by
  rw [← ctrL_any K S w (A ++ B) (n + blk B.length) (by rw [List.length_append, hA]; unfold blk; omega), ctrS_app K S w n h, xorL_app _ _ _ _ (by rw [hA, ctrS_length]), ctrL_any K S w A n (by omega)]
  rfl
/-- one block more -/
theorem ctr_step (K S : List UInt8) (w i : Nat) (T : List UInt8) (h : 16 * i ≤ T.length) : xorL (T.take (16 * i)) (ctrS K S w i) ++ xorL (T.drop (16 * i)) (encL K (nxt S w i)) = xorL (T.take (16 * (i + 1))) (ctrS K S w (i + 1)) := by
  rw [ctrS]
  have hl : (T.take (16 * i)).length = (ctrS K S w i).length := by rw [List.length_take, ctrS_length]; omega
  rw [show T.take (16 * (i + 1)) = T.take (16 * i) ++ (T.drop (16 * i)).take 16 by rw [show 16 * (i + 1) = 16 * i + 16 by omega, List.take_add], xorL_app _ _ _ _ hl]
  congr 1
  exact (xorL_cutL _ _ 16 (by rw [encL_length]; exact Nat.le_refl _)).symm
/-! ### what is refused -/
def keyOk (n : Nat) : Bool := decide (n = 16 ∨ n = 24 ∨ n = 32)
def mayE (n : Nat) (w : Int) : Int := if n = 16 then (if w < 1 ∨ 16 < w then 2 else 0) else 4
def ctrE (k n : Nat) (w : Int) (t : Nat) : Int := if keyOk k then (if mayE n w = 0 then (if 70000 < t then 6 else 0) else mayE n w) else 3
end Go.Proofs.YtflofbimecnakaaGreat
namespace Go.Proofs.YtflofbimecnakaaGreat
open Go.RowKit
set_option linter.unusedVariables false
set_option linter.unusedSimpArgs false
theorem below_of_drew {w w' : World} (h : Below w.drew.heap.size w.drew w') : Below w.heap.size w w' := ⟨h.os, h.tape, h.output, h.size, h.block⟩
def RetI64 (c : Int) (w : World) (e : Ending) (w' : World) : Prop := e = .returned (.int .i64 c) ∧ w = w'
set_option maxRecDepth 100000 in
theorem may_any (s : ByteArray) (wd : Int) (w : World) : Calls Tryz.prog 70 #[.string s, .int .i64 wd] w (RetI64 (mayE s.size wd) w) := by
  by_cases hs : s.size = 16
  · have e1 : ((s.size : Int) != 16) = false := by rw [bne_eq_false_iff_eq]; omega
    by_cases h1 : wd < 1
    · have hE : mayE s.size wd = 2 := by rw [mayE, if_pos hs, if_pos (.inl h1)]
      rw [hE]
      clear hs hE
      go_enter Tryz.func70, Tryz.ntmps70
      go_wp2
      go_ret
      exact ⟨rfl, rfl⟩
    · by_cases h2 : 16 < wd
      · have hE : mayE s.size wd = 2 := by rw [mayE, if_pos hs, if_pos (.inr h2)]
        rw [hE]
        clear hs hE
        go_enter Tryz.func70, Tryz.ntmps70
        go_wp2
        go_ret
        exact ⟨rfl, rfl⟩
      · have hE : mayE s.size wd = 0 := by rw [mayE, if_pos hs, if_neg (by omega)]
        rw [hE]
        clear hs hE
        go_enter Tryz.func70, Tryz.ntmps70
        go_wp2
        go_ret
        exact ⟨rfl, rfl⟩
  · have e1 : ((s.size : Int) != 16) = true := by rw [bne_iff_ne]; omega
    have hE : mayE s.size wd = 4 := by rw [mayE, if_neg hs]
    rw [hE]
    clear hs hE
    go_enter Tryz.func70, Tryz.ntmps70
    go_wp2
    go_ret
    exact ⟨rfl, rfl⟩
set_option maxRecDepth 100000 in
set_option maxHeartbeats 800000 in
theorem grown_any (s : ByteArray) (wd n : Nat) (w : World) (hs : s.size = 16) (h1 : 1 ≤ wd) (h16 : wd ≤ 16) (hn : n < 2 ^ 64) : Calls Tryz.prog 71 #[.string s, .int .i64 (wd : Int), .int .u64 (n : Int)] w (RetS (nxt s.toList wd n) w) := by
  obtain ⟨k, hk⟩ : ∃ k : Nat, k = 16 - wd := ⟨_, rfl⟩
  have hk1 : (16 : Int) - (wd : Int) = (k : Int) := by omega
  have hk2 : IntKind.i64.wrap (k : Int) = (k : Int) := wrap_in _ (by omega) (by omega)
  have hks : k ≤ s.size := by omega
  have hksI : (k : Int) ≤ (s.size : Int) := by omega
  have hk0 : (0 : Int) ≤ (k : Int) := by omega
  have hss : s.size ≤ s.size := Nat.le_refl _
  have hex : (s.extract k s.size).size ≤ 140737488351232 := by rw [← tl_size, tl_extE _ _ _ rfl, List.length_drop, tl_size]; omega
  have HK := Lib.hid hk
  have HS := Lib.hid hs
  have HEX := Lib.hid hex
  clear hk hs hex h1 h16
  go_enter Tryz.func71, Tryz.ntmps71
  go_wp2_with fail
  go_region_held3 (fun _ => True) (trivial) (first | (go_at_call 84; refine (oadd_any _ n _ HEX.out hn).mono ?_; rintro e w1 ⟨t, rfl, ht, hb⟩; have hcat : ¬ 9223372036854775807 < k + t.size := by rw [← tl_size t, ht, oaddL_length, tl_size]; have := HEX.out; omega))
  all_goals
    go_wp2_with fail
    go_ret
    refine ⟨_, rfl, ?_, below_of_drew hb⟩
    rw [tl_append, tl_ext0, ht, tl_extE _ _ _ rfl, nxt, ← HK.out]
/-- what Next answers -/
def nextL (S : List UInt8) (wd : Int) (n : Nat) : List UInt8 := if mayE S.length wd = 0 then nxt S wd.toNat n else []
theorem may_zero {n : Nat} {wd : Int} (h : mayE n wd = 0) : n = 16 ∧ 1 ≤ wd ∧ wd ≤ 16 := by
  unfold mayE at h
  split at h
  · rename_i h16
    split at h
    · cases h
    · rename_i h2; exact ⟨h16, by omega⟩
  · cases h
set_option maxRecDepth 100000 in
set_option maxHeartbeats 800000 in
theorem cnext_any (s : ByteArray) (wd : Int) (n : Nat) (w : World) (hn : n < 2 ^ 64) : Calls Tryz.prog 47 #[.string s, .int .i64 wd, .int .u64 (n : Int)] w (RetSE (nextL s.toList wd n) (mayE s.size wd) w) := by
  by_cases h : mayE s.size wd = 0
  · obtain ⟨h16, h1, h2⟩ := may_zero h
    obtain ⟨k, rfl⟩ := Int.eq_ofNat_of_zero_le (a := wd) (by omega)
    have hL : nextL s.toList (k : Int) n = nxt s.toList k n := by rw [nextL, tl_size, if_pos h, Int.toNat_natCast]
    have HL := Lib.hid hL
    have H := Lib.hid h
    clear h hL
    go_enter Tryz.func47, Tryz.ntmps47
    go_wp2_with fail
    refine (may_any s _ _).mono ?_
    rintro e w1 ⟨rfl, rfl⟩
    rw [H.out]
    go_wp2_with fail
    refine (grown_any s k n _ h16 (by omega) (by omega) hn).mono ?_
    rintro e w1 ⟨t, rfl, ht, hb⟩
    go_wp2_with fail
    go_ret2
    rw [H.out]
    exact ret_se ht HL.out.symm rfl hb
  · have hne : (mayE s.size wd != 0) = true := by rw [bne_iff_ne]; exact h
    have hL : nextL s.toList wd n = [] := by rw [nextL, tl_size, if_neg h]
    rw [hL]
    clear h hL
    obtain ⟨c, hc⟩ : ∃ c, mayE s.size wd = c := ⟨_, rfl⟩
    rw [hc] at hne ⊢
    have HC := Lib.hid hc
    clear hc
    go_enter Tryz.func47, Tryz.ntmps47
    go_wp2_with fail
    refine (may_any s _ _).mono ?_
    rintro e w1 ⟨rfl, rfl⟩
    rw [HC.out]
    go_wp2_with fail
    go_ret2
    exact ret_se (tl_mk []) rfl rfl (Below.refl _ _)
end Go.Proofs.YtflofbimecnakaaGreat
namespace Go.Proofs.YtflofbimecnakaaGreat
open Go.RowKit
set_option linter.unusedVariables false
set_option linter.unusedSimpArgs false
/-- append of a text where there is room, as one step of a region that draws its order -/
theorem step_append_text {P : Program} {w : World} {ops : Array Oper} {o : Oper} {a : Act} {K : Act → World → Prop} {Q : Exit → Act → World → Prop} {E : Prop} (hgd : o.guard = none) (sl x : Operand) (t u : TypeId)
    (ho : o.op = .call { callee := .builtin .append, args := #[sl, x], argTypes := #[t, u] })
    (base : Nat) (e : TypeId) (i : TypeInfo) (ht : P.underlying t = some (.slice e)) (hu : P.underlying u = some .string) (hi : P.info? e = some i) (hsize : i.size = 1)
    (p : Option Addr) (n cap : Nat) (l : List UInt8) (hs : a.eval sl = .slice p n cap) (hown : w.ownsRow base e 1 (.slice p n cap) n (bcells l)) (s : ByteArray) (hx : a.eval x = .string s)
    (h1 : 0 < cap) (hroom : n + s.size ≤ cap)
    (h : ∀ w', w'.ownsRow base e 1 (.slice p (n + s.size) cap) (n + s.size) (bcells (l ++ s.toList)) → w.grownBy w' (Value.ownBlock (.slice p n cap)) → K (a.put o.dst (.slice p (n + s.size) cap)) w') :
    if Region.wanted o (yielded ops a.tmps) = true then Oper.wp P o a w K Q else E := by
  have hw : Region.wanted o (yielded ops a.tmps) = true := by simp [Region.wanted, hgd]
  rw [if_pos hw]
  obtain ⟨w', hr, h2, h3⟩ := Lib.run_append_fits_string (P := P) w base t u o.type e i ht hu hi hsize p n cap (bcells l) hown s h1 hroom
  have e1 : Lib.strCells s = bcells s.toList := by
    rw [Lib.toList_data]
    simp [Lib.strCells, bcells]
  rw [e1, ← bcells_append] at h2
  unfold Oper.wp execOp
  simp only [ho, resolve, invoke, builtin, Sem.run_bind, Sem.run_pure, Result.andThen_ok, List.map_toArray, List.map_cons, List.map_nil, hs, hx, hr]
  exact h w' h2 h3
/-- one block after the other: the cipher, the width and the counter lie in three blocks from B on -/
structure Gen (w : World) (B g : Nat) (K C : List UInt8) (wd : Nat) : Prop where
  ci : At w B 0 [.pointer (some ⟨g, 0, none⟩)]
  wi : At w (B + 1) 0 [.int .i64 (wd : Int)]
  co : ∃ c : ByteArray, c.toList = C ∧ At w (B + 2) 0 [.string c]
  q : Ciq w g K
  lt : g < B
  len : C.length = 16
theorem Gen.size {w : World} {B g wd : Nat} {K C : List UInt8} (h : Gen w B g K C wd) : B + 2 < w.heap.size := by
  obtain ⟨c, _, hc⟩ := h.co
  exact hc.lt (by simp)
theorem Gen.below {w w' : World} {B g wd : Nat} {K C : List UInt8} (h : Gen w B g K C wd) (hb : Below w.heap.size w w') : Gen w' B g K C wd := by
  have hs := h.size
  obtain ⟨c, hc, ha⟩ := h.co
  exact ⟨h.ci.below hb (by omega), h.wi.below hb (by omega), ⟨c, hc, ha.below hb hs⟩, h.q.below hb h.q.lt, h.lt, h.len⟩
theorem Gen.grown {w w' : World} {B g wd b : Nat} {K C : List UInt8} (h : Gen w B g K C wd) (hg : w.grownBy w' (some b)) (hb : b < B) (hgb : g < b) : Gen w' B g K C wd := by
  have hs := h.size
  obtain ⟨c, hc, ha⟩ := h.co
  have hbel : Below b w w' := (Below.refl b w).grown hg (by omega) (fun k hk => by cases hk; exact Nat.le_refl _)
  have hne : ∀ j, b < j → (some b : Option Nat) ≠ some j := fun j hj e => by cases e; omega
  exact ⟨h.ci.grown hg (by omega) (hne _ hb), h.wi.grown hg (by omega) (hne _ (by omega)), ⟨c, hc, ha.grown hg hs (hne _ (by omega))⟩, h.q.below hbel hgb, h.lt, h.len⟩
def RetG (B g : Nat) (K C : List UInt8) (wd : Nat) (w : World) (e : Ending) (w' : World) : Prop := ∃ s : ByteArray, e = .returned (.string s) ∧ s.toList = encL K C ∧ Gen w' B g K (nxt C wd 1) wd ∧ Turn (B + 2) 0 w w'
set_option maxRecDepth 100000 in
set_option maxHeartbeats 800000 in
theorem next_any (w : World) (B g wd : Nat) (K C : List UInt8) (hG : Gen w B g K C wd) (h1 : 1 ≤ wd) (h16 : wd ≤ 16) :
    Calls Tryz.prog 85 #[.pointer (some ⟨B, 0, none⟩), .pointer (some ⟨B + 2, 0, none⟩), .pointer (some ⟨B + 1, 0, none⟩)] w (RetG B g K C wd w) := by
  have hsz := hG.size
  obtain ⟨c, hc, hco⟩ := hG.co
  have hc0 := hG.ci.cell 0 _ rfl
  have hc1 := hG.wi.cell 0 _ rfl
  have hc2 := hco.cell 0 _ rfl
  rw [Nat.add_zero] at hc0 hc1 hc2
  have hcs : c.size = 16 := by rw [← tl_size, hc]; exact hG.len
  have HG := Lib.hid hG
  have HC := Lib.hid hc
  have HCO := Lib.hid hco
  have HCS := Lib.hid hcs
  clear hG hc hco hcs
  go_enter Tryz.func85, Tryz.ntmps85
  go_wp2_with fail
  refine (enc_q c _ g K HG.out.q HCS.out).mono ?_
  rintro e w1 ⟨s, rfl, hs, hQ1, hb1⟩
  have HS := Lib.hid hs
  have hc1' := (HG.out.wi.below hb1 (by omega)).cell 0 _ rfl
  have hc2' := (HCO.out.below hb1 hsz).cell 0 _ rfl
  rw [Nat.add_zero] at hc1' hc2'
  clear hs hc0 hc1 hc2
  go_wp2_with fail
  refine (grown_any c wd 1 _ HCS.out h1 h16 (by decide)).mono ?_
  rintro e w2 ⟨t, rfl, ht, hb2⟩
  have hb12 := hb1.trans (hb2.mono hb1.size)
  have hG2 := HG.out.below hb12
  have hco2 := HCO.out.below hb12 hsz
  have hcc := hco2.cell 0 _ rfl
  have hff := hco2.froz 0 (by simp)
  rw [Nat.add_zero] at hcc hff
  have HT := Lib.hid ht
  have HG2 := Lib.hid hG2
  have HCO2 := Lib.hid hco2
  clear hc1' hc2' ht hG2 hco2
  go_wp2_with fail
  go_ret
  have hT := (Turn.ofBelow (lo := 0) hb12 hsz).setCell 0 (Nat.zero_le _) (.string t)
  refine ⟨s, rfl, by rw [HS.out, HC.out], ⟨HG2.out.ci.other _ _ _ (.inl (by omega)), HG2.out.wi.other _ _ _ (.inl (by omega)), ⟨t, by rw [HT.out, HC.out], HCO2.out.set 0 (.string t)⟩, ?_, HG2.out.lt, nxt_length _ _ _ HG2.out.len⟩, hT⟩
  have hl := HG2.out.lt
  exact HG2.out.q.below (B := B) ((Below.refl _ _).setCell (by simp only; omega) _) hl
set_option maxRecDepth 100000 in
theorem blocks_any (w : World) (g wd : Nat) (K : List UInt8) (s : ByteArray) (hQ : Ciq w g K) (hs : s.size = 16) :
    Calls Tryz.prog 72 #[.pointer (some ⟨g, 0, none⟩), .string s, .int .i64 (wd : Int)] w
    (fun e w' => e = .returned (.func (.func 85) #[] #[.pointer (some ⟨w.heap.size, 0, none⟩), .pointer (some ⟨w.heap.size + 2, 0, none⟩), .pointer (some ⟨w.heap.size + 1, 0, none⟩)]) ∧ Gen w' w.heap.size g K s.toList wd ∧ Below w.heap.size w w') := by
  have hmf : ∀ (fn : Fn) (first cap : Array Value) (w : World), (Instr.makeFunc fn first cap).run Tryz.prog w = .ok (.func fn first cap) w := fun _ _ _ _ => rfl
  have HQ := Lib.hid hQ
  have HS := Lib.hid hs
  clear hQ hs
  go_enter Tryz.func72, Tryz.ntmps72
  go_wp2
  go_ret
  have hA := ((At.ofAlloc w #[.pointer (some ⟨g, 0, none⟩)] 76).alloc (Obj.cells #[.int .i64 (wd : Int)] 3)).alloc (Obj.cells #[.string s] 9)
  have hB := (At.ofAlloc (w.alloc (Obj.cells #[.pointer (some ⟨g, 0, none⟩)] 76)) #[.int .i64 (wd : Int)] 3).alloc (Obj.cells #[.string s] 9)
  have hC := At.ofAlloc ((w.alloc (Obj.cells #[.pointer (some ⟨g, 0, none⟩)] 76)).alloc (Obj.cells #[.int .i64 (wd : Int)] 3)) #[.string s] 9
  rw [World.size_alloc] at hB
  rw [World.size_alloc, World.size_alloc] at hC
  have hb : Below w.heap.size w (((w.alloc (Obj.cells #[.pointer (some ⟨g, 0, none⟩)] 76)).alloc (Obj.cells #[.int .i64 (wd : Int)] 3)).alloc (Obj.cells #[.string s] 9)) :=
    (((Below.refl _ _).alloc (Nat.le_refl _) _).alloc (by simp) _).alloc (by simp; omega) _
  exact ⟨rfl, ⟨hA, hB, ⟨s, rfl, hC⟩, HQ.out.below hb HQ.out.lt, HQ.out.lt, by rw [tl_size]; exact HS.out⟩, hb⟩
def lenOf : Value → Nat
  | .slice _ n _ => n
  | _ => 0
def ctrR (K S : List UInt8) (wd : Int) (T : List UInt8) : List UInt8 := if ctrE K.length S.length wd T.length = 0 then ctrL K S wd.toNat T else []
theorem Gen.drewN {w : World} {B g wd : Nat} {K C : List UInt8} (h : Gen w B g K C wd) : Gen w.drew B g K C wd := h.below ((Below.refl _ _).drew)
set_option maxRecDepth 100000 in
set_option maxHeartbeats 3200000 in
theorem cxor_ok (key start text : ByteArray) (wd : Nat) (w : World) (hk : key.size = 16 ∨ key.size = 24 ∨ key.size = 32) (hs : start.size = 16) (h1 : 1 ≤ wd) (h16 : wd ≤ 16) (ht : text.size ≤ 70000) :
    Calls Tryz.prog 48 #[.string key, .string start, .int .i64 (wd : Int), .string text] w (RetSE (ctrL key.toList start.toList wd text.toList) 0 w) := by
  obtain ⟨i0, hi, hz0, hz1, hz2⟩ := info_parts info5
  have hm : mayE start.size (wd : Int) = 0 := by rw [mayE, if_pos hs, if_neg (by omega)]
  have hTI : ¬ (70000 : Int) < (text.size : Int) := by omega
  have hTD : decide ((70000 : Int) < (text.size : Int)) = false := decide_eq_false hTI
  have HM := Lib.hid hm
  have HS := Lib.hid hs
  clear hm hs
  go_enter Tryz.func48, Tryz.ntmps48
  go_wp2_with fail
  refine (new_q key _ hk).mono ?_
  rintro e w1 ⟨g, hg, rfl, hQ, hb1⟩
  go_wp2_with fail
  refine (may_any start _ _).mono ?_
  rintro e w1' ⟨rfl, rfl⟩
  rw [HM.out]
  have HQ := Lib.hid hQ
  clear hQ
  go_wp2_with (at_make; refine wpList_make_own _ rfl (.const (.int .i64 0)) (.tmp 35) 123 rfl w1.heap.size 5 i0 (.int .u8 0) 1 Tryz.underlying123 hi hz0 hz1 .i64 .i64 _ (text.size) rfl rfl (by omega) (by rw [hz2]; omega) (by unfold maxLen; omega) (Nat.le_refl _) ?_; intro w2 hown hgrow)
  have hb2 := (Below.refl w1.heap.size w1).grown hgrow (Nat.le_refl _) (by simp)
  have HO := Lib.hid hown
  have hQ2 := HQ.out.below hb2 HQ.out.lt
  have hgb : g < w1.heap.size := HQ.out.lt
  have hwb : w.heap.size ≤ w1.heap.size := hb1.size
  have hb12 := hb1.trans (hb2.mono hb1.size)
  have hb0s : w1.heap.size < w2.heap.size := (hown.lt w1.heap.size rfl).2
  clear hown hgrow hb2 hg
  refine (blocks_any _ g wd _ start hQ2 HS.out).mono ?_
  rintro e w3 ⟨rfl, hG3, hb3⟩
  obtain ⟨b0, hb0⟩ : ∃ b0, w1.heap.size = b0 := ⟨_, rfl⟩
  obtain ⟨B, hB⟩ : ∃ B, w2.heap.size = B := ⟨_, rfl⟩
  have hb13 := hb12.trans (hb3.mono hb12.size)
  have HO3 := Lib.hid (own_below HO.out hb3 (Nat.le_refl _))
  rw [hb0] at hgb hb0s HO3 hwb ⊢
  rw [hB] at hG3 hb0s ⊢
  have HG3 : Hid (Gen w3 B g key.toList (nxt start.toList wd 0) wd) := by rw [nxt_zero]; exact hG3
  clear hb3 hG3 hb12 HO HQ hQ2 hb0 hB
  go_wp2_with fail
  go_loopw [12] (fun v wr => ∃ i n : Nat, v = .slice (some ⟨b0, 0, none⟩) n text.size ∧ n = min (16 * i) text.size ∧ wr.ownsRow b0 5 1 (.slice (some ⟨b0, 0, none⟩) n text.size) n (bcells (xorL (text.toList.take (16 * i)) (ctrS key.toList start.toList wd i))) ∧ Gen wr B g key.toList (nxt start.toList wd i) wd ∧ Below w.heap.size w wr) (fun v _ => text.size - lenOf v)
  case atStart => exact ⟨0, 0, rfl, by omega, HO3.out, HG3.out, hb13⟩
  case round =>
    clear HO3 HG3 hb13
    obtain ⟨i, n, rfl, hn, hO, hG, hbl⟩ := hrel
    have HO := Lib.hid hO
    have HG := Lib.hid hG
    have hsz := hG.size
    have HN := Lib.hid hn
    clear hO hG
    by_cases hlt : n < text.size
    · have hn16 : n = 16 * i := by omega
      have HN16 := Lib.hid hn16
      have hnI : (n : Int) < (text.size : Int) := by omega
      have hn0 : (0 : Int) ≤ (n : Int) := by omega
      have hnle : (n : Int) ≤ (text.size : Int) := by omega
      have hnn : n ≤ text.size := by omega
      have hss : text.size ≤ text.size := Nat.le_refl _
      have hex : (text.extract n text.size).size ≤ 140737488351232 := by rw [← tl_size, tl_extE _ _ _ rfl, List.length_drop, tl_size]; omega
      have HEX := Lib.hid hex
      have HGd := Lib.hid HG.out.drewN
      clear hn hn16 hex
      go_wp2_with fail
      go_region_held3 (fun _ => True) (trivial) (first | (refine step_append_text rfl (.tmp 46) (.tmp 53) 123 9 rfl b0 5 i0 Tryz.underlying123 Tryz.underlying9 hi hz1 (some ⟨b0, 0, none⟩) n text.size _ rfl HO2.out s2 rfl (by omega) (by rw [HS2.out]; omega) ?_; intro w6 hown6 hgrow6) | (go_at_call 46; refine (xor_any (text.extract n text.size) s1 _ HEX.out (by rw [HS1.out]; decide)).mono ?_; rintro e w5 ⟨s2, rfl, hs2, hb5⟩; have HX2 := Lib.hid hs2; have HS2 : Hid (s2.size = min (text.size - n) 16) := (by show _ = _; rw [← tl_size, HX2.out, xorL_length, tl_extE _ _ _ rfl, List.length_drop, tl_size, tl_size, HS1.out]); have HO2 := Lib.hid (own_below HO1.out hb5 (Nat.le_refl _)); have HG5 := Lib.hid (HG1.out.below hb5); clear hs2) | (go_at_call 85; refine (next_any _ B g wd _ _ HGd.out h1 h16).mono ?_; rintro e w4 ⟨s1, rfl, hs1, hG4, hT4⟩; have HX1 := Lib.hid hs1; have HS1 : Hid (s1.size = 16) := (by show _ = _; rw [← tl_size, HX1.out, encL_length]); have HO1 := Lib.hid (own_same (w' := w4) HO.out (fun k hk => (hT4.block k (by cases hk; show b0 < wr.heap.size; omega) (by cases hk; show b0 ≠ _; omega)))); have HG1 := Lib.hid hG4; clear hs1 hG4))
      have hT4' := hT4.toBelow (B := w.heap.size) (by show B + 2 < wr.heap.size; omega) (by omega)
      have hbl4 := hbl.drew.trans hT4'
      have hbl5 := hbl4.trans (hb5.mono hbl4.size)
      have hbl6 := hbl5.grown hgrow6 hbl5.size (fun k hk => by cases hk; exact hwb)
      have hG6 := HG5.out.grown (b := b0) hgrow6 hb0s hgb
      rw [nxt_add _ _ _ _ (by rw [tl_size]; exact HS.out)] at hG6
      rw [HX2.out, tl_extE _ _ _ rfl, HX1.out, HN16.out, ctr_step _ _ _ _ _ (by rw [tl_size]; have := HN16.out; omega)] at hown6
      have HO6 := Lib.hid hown6
      have HG6 := Lib.hid hG6
      clear hown6 hgrow6 hG6 hb5 hT4 hT4' hbl4 hbl5 HO2 HG5 HO1 HG1 HX1 HX2 HGd HEX hbl
      go_wp2_with fail
      go_roundw
      case rel => exact ⟨i + 1, n + s2.size, rfl, by rw [HS2.out, HN16.out]; have := HN16.out; omega, by have h := HO6.out; rw [← HN16.out] at h; exact h, HG6.out, hbl6⟩
      case measure => have := HS2.out; simp [lenOf]; omega
    · have hnT : n = text.size := by omega
      have hfull : xorL (text.toList.take (16 * i)) (ctrS key.toList start.toList wd i) = ctrL key.toList start.toList wd text.toList := by
        rw [List.take_of_length_le (by rw [tl_size]; omega), ctrL_any _ _ _ _ _ (by rw [tl_size]; omega)]
      have hO := HO.out
      rw [hfull] at hO
      have HF := Lib.hid hO
      have hlt2 : ¬ (n : Int) < (text.size : Int) := by omega
      clear hn hfull hO HO HG
      have hcv := run_convert_own (P := Tryz.prog) HF.out 123 9 Tryz.underlying123 Tryz.underlying5 Tryz.underlying9
      clear hnT
      go_wp2_with fail
      go_ret2
      exact ret_se (tl_mk _) rfl rfl hbl
end Go.Proofs.YtflofbimecnakaaGreat
namespace Go.Proofs.YtflofbimecnakaaGreat
open Go.RowKit
set_option linter.unusedVariables false
set_option linter.unusedSimpArgs false
theorem At.take {w : World} {g : Nat} {l : List UInt8} (h : At w g 0 (bcells l)) (n : Nat) : At w g 0 (bcells (l.take n)) := by
  rw [← List.take_append_drop n l, bcells_append] at h
  exact h.split.1
theorem own_slice {w : World} {B e n : Nat} {v : Value} {xs : List Value} (h : w.ownsRow B e 1 v n xs) : ∃ p cap, v = .slice p n cap := by
  rcases h.2 with ⟨rfl, rfl⟩ | ⟨g, cap, cur, rfl, _⟩
  · exact ⟨none, 0, rfl⟩
  · exact ⟨some ⟨g, 0, none⟩, cap, rfl⟩
end Go.Proofs.YtflofbimecnakaaGreat
namespace Go.Proofs.YtflofbimecnakaaGreat
open Go.RowKit
set_option linter.unusedVariables false
set_option linter.unusedSimpArgs false
theorem keyOk_yes {n : Nat} (h : n = 16 ∨ n = 24 ∨ n = 32) : keyOk n = true := by simp [keyOk, h]
theorem keyOk_no {n : Nat} (h1 : n ≠ 16) (h2 : n ≠ 24) (h3 : n ≠ 32) : keyOk n = false := by simp [keyOk, h1, h2, h3]
theorem ctrR_ne {K S T : List UInt8} {wd : Int} (h : ctrE K.length S.length wd T.length ≠ 0) : ctrR K S wd T = [] := by rw [ctrR, if_neg h]
theorem ctrR_ok {K S T : List UInt8} {wd : Nat} (h : ctrE K.length S.length (wd : Int) T.length = 0) : ctrR K S (wd : Int) T = ctrL K S wd T := by rw [ctrR, if_pos h, Int.toNat_natCast]
theorem ctrE_zero {k n t : Nat} {wd : Int} (h : ctrE k n wd t = 0) : (k = 16 ∨ k = 24 ∨ k = 32) ∧ n = 16 ∧ 1 ≤ wd ∧ wd ≤ 16 ∧ t ≤ 70000 := by
  unfold ctrE at h
  split at h
  · rename_i hk
    split at h
    · rename_i hm
      split at h
      · cases h
      · obtain ⟨a, b, c⟩ := may_zero hm
        exact ⟨by simpa [keyOk] using hk, a, b, c, by omega⟩
    · rename_i hm; exact absurd h hm
  · cases h
theorem may_range (n : Nat) (wd : Int) : mayE n wd = 0 ∨ mayE n wd = 2 ∨ mayE n wd = 4 := by
  unfold mayE
  split
  · split <;> simp
  · simp
set_option maxRecDepth 100000 in
set_option maxHeartbeats 1600000 in
theorem cxor_any (key start text : ByteArray) (wd : Int) (w : World) : Calls Tryz.prog 48 #[.string key, .string start, .int .i64 wd, .string text] w (RetSE (ctrR key.toList start.toList wd text.toList) (ctrE key.size start.size wd text.size) w) := by
  have htl : ctrE key.toList.length start.toList.length wd text.toList.length = ctrE key.size start.size wd text.size := by rw [tl_size, tl_size, tl_size]
  rcases key_cases key with hk | ⟨h1, h2, h3⟩
  · by_cases hm : mayE start.size wd = 0
    · obtain ⟨hs, hw1, hw2⟩ := may_zero hm
      obtain ⟨k, rfl⟩ := Int.eq_ofNat_of_zero_le (a := wd) (by omega)
      by_cases ht : text.size ≤ 70000
      · have hE : ctrE key.size start.size (k : Int) text.size = 0 := by rw [ctrE, if_pos (keyOk_yes hk), if_pos hm, if_neg (by omega)]
        rw [ctrR_ok (by rw [htl, hE]), hE]
        exact cxor_ok key start text k w hk hs (by omega) (by omega) ht
      · have hE : ctrE key.size start.size (k : Int) text.size = 6 := by rw [ctrE, if_pos (keyOk_yes hk), if_pos hm, if_pos (by omega)]
        rw [ctrR_ne (by rw [htl, hE]; decide), hE]
        have hTI : (70000 : Int) < (text.size : Int) := by omega
        have HM := Lib.hid hm
        clear hm hE htl hs ht
        go_enter Tryz.func48, Tryz.ntmps48
        go_wp2_with fail
        refine (new_q key _ hk).mono ?_
        rintro e w1 ⟨g, hg, rfl, hQ, hb1⟩
        go_wp2_with fail
        refine (may_any start _ _).mono ?_
        rintro e w1' ⟨rfl, rfl⟩
        rw [HM.out]
        go_wp2_with fail
        go_ret2
        exact ret_se (tl_mk []) rfl rfl hb1
    · obtain ⟨c, hc⟩ : ∃ c, mayE start.size wd = c := ⟨_, rfl⟩
      have hE : ctrE key.size start.size wd text.size = c := by rw [ctrE, if_pos (keyOk_yes hk), if_neg hm, hc]
      rw [hc] at hm
      rw [ctrR_ne (by rw [htl, hE]; exact hm), hE]
      have e1 : (c == 0) = false := by rw [beq_eq_false_iff_ne]; exact hm
      have e2 : (c != 0) = true := by rw [bne_iff_ne]; exact hm
      have HC := Lib.hid hc
      clear hc hE htl hm
      go_enter Tryz.func48, Tryz.ntmps48
      go_wp2_with fail
      refine (new_q key _ hk).mono ?_
      rintro e w1 ⟨g, hg, rfl, hQ, hb1⟩
      go_wp2_with fail
      refine (may_any start _ _).mono ?_
      rintro e w1' ⟨rfl, rfl⟩
      rw [HC.out]
      go_wp2_with fail
      go_ret2
      exact ret_se (tl_mk []) rfl rfl hb1
  · have hE : ctrE key.size start.size wd text.size = 3 := by rw [ctrE, keyOk_no h1 h2 h3]; rfl
    rw [ctrR_ne (by rw [htl, hE]; decide), hE]
    clear hE htl
    go_enter Tryz.func48, Tryz.ntmps48
    go_wp2_with fail
    refine (new_bad key _ h1 h2 h3).mono ?_
    rintro e w1 ⟨rfl, rfl⟩
    go_wp2_with fail
    go_ret2
    exact ret_se (tl_mk []) rfl rfl (Below.refl _ _)
end Go.Proofs.YtflofbimecnakaaGreat
