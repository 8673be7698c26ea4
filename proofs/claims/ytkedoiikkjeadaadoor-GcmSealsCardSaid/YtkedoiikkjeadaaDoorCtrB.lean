/- Joined by merge.py: CtrA CtrB. -/
import Derived.Test.YtkedoiikkjeadaaDoorCtrP
import Derived.Test.YtkedoiikkjeadaaDoorOctF
import Derived.Test.YtkedoiikkjeadaaDoorAesLb
import Derived.Test.YtkedoiikkjeadaaDoorOctB
import Derived.Test.YtkedoiikkjeadaaDoorRowC
import Derived.Room.AppendFits
namespace Go.Proofs.YtkedoiikkjeadaaDoor
open Go.RowKit
set_option linter.unusedVariables false
set_option linter.unusedSimpArgs false
theorem below_of_drew {w w' : World} (h : Below w.drew.heap.size w.drew w') : Below w.heap.size w w' := ⟨h.os, h.tape, h.output, h.size, h.block⟩
def RetI64 (c : Int) (w : World) (e : Ending) (w' : World) : Prop := e = .returned (.int .i64 c) ∧ w = w'
set_option maxRecDepth 100000 in
theorem may_any (s : ByteArray) (wd : Int) (w : World) : Calls Tryd.prog 83 #[.string s, .int .i64 wd] w (RetI64 (mayE s.size wd) w) := by
  by_cases hs : s.size = 16
  · have e1 : ((s.size : Int) != 16) = false := by rw [bne_eq_false_iff_eq]; omega
    by_cases h1 : wd < 1
    · have hE : mayE s.size wd = 2 := by rw [mayE, if_pos hs, if_pos (.inl h1)]
      rw [hE]
      clear hs hE
      go_enter Tryd.func83, Tryd.ntmps83
      go_wp2
      go_ret
      exact ⟨rfl, rfl⟩
    · by_cases h2 : 16 < wd
      · have hE : mayE s.size wd = 2 := by rw [mayE, if_pos hs, if_pos (.inr h2)]
        rw [hE]
        clear hs hE
        go_enter Tryd.func83, Tryd.ntmps83
        go_wp2
        go_ret
        exact ⟨rfl, rfl⟩
      · have hE : mayE s.size wd = 0 := by rw [mayE, if_pos hs, if_neg (by omega)]
        rw [hE]
        clear hs hE
        go_enter Tryd.func83, Tryd.ntmps83
        go_wp2
        go_ret
        exact ⟨rfl, rfl⟩
  · have e1 : ((s.size : Int) != 16) = true := by rw [bne_iff_ne]; omega
    have hE : mayE s.size wd = 4 := by rw [mayE, if_neg hs]
    rw [hE]
    clear hs hE
    go_enter Tryd.func83, Tryd.ntmps83
    go_wp2
    go_ret
    exact ⟨rfl, rfl⟩
set_option maxRecDepth 100000 in
set_option maxHeartbeats 800000 in
theorem grown_any (s : ByteArray) (wd n : Nat) (w : World) (hs : s.size = 16) (h1 : 1 ≤ wd) (h16 : wd ≤ 16) (hn : n < 2 ^ 64) : Calls Tryd.prog 84 #[.string s, .int .i64 (wd : Int), .int .u64 (n : Int)] w (RetS (nxt s.toList wd n) w) := by
  obtain ⟨k, hk⟩ : ∃ k : Nat, k = 16 - wd := ⟨_, rfl⟩
  have hk1 : (16 : Int) - (wd : Int) = (k : Int) := by omega
  have hk2 : IntKind.i64.wrap (k : Int) = (k : Int) := wrap_in _ (by omega) (by omega)
  have hks : k ≤ s.size := by omega
  have hksI : (k : Int) ≤ (s.size : Int) := by omega
  have hk0 : (0 : Int) ≤ (k : Int) := by omega
  have hss : s.size ≤ s.size := Nat.le_refl _
  have hex : (s.extract k s.size).size ≤ 140737488351232 := by rw [← tl_size, tl_extE _ _ _ rfl, List.length_drop, tl_size]; omega
  have HK := Lib.hid hk
  have HS := Lib.hid hs
  have HEX := Lib.hid hex
  clear hk hs hex h1 h16
  go_enter Tryd.func84, Tryd.ntmps84
  go_wp2_with fail
  go_region_held3 (fun _ => True) (trivial) (first | (go_at_call 97; refine (oadd_any _ n _ HEX.out hn).mono ?_; rintro e w1 ⟨t, rfl, ht, hb⟩; have hcat : ¬ 9223372036854775807 < k + t.size := by rw [← tl_size t, ht, oaddL_length, tl_size]; have := HEX.out; omega))
  all_goals
    go_wp2_with fail
    go_ret
    refine ⟨_, rfl, ?_, below_of_drew hb⟩
    rw [tl_append, tl_ext0, ht, tl_extE _ _ _ rfl, nxt, ← HK.out]
/-- what Next answers -/
def nextL (S : List UInt8) (wd : Int) (n : Nat) : List UInt8 := if mayE S.length wd = 0 then nxt S wd.toNat n else []
theorem may_zero {n : Nat} {wd : Int} (h : mayE n wd = 0) : n = 16 ∧ 1 ≤ wd ∧ wd ≤ 16 := by
  unfold mayE at h
  split at h
  · rename_i h16
    split at h
    · cases h
    · rename_i h2; exact ⟨h16, by omega⟩
  · cases h
set_option maxRecDepth 100000 in
set_option maxHeartbeats 800000 in
theorem cnext_any (s : ByteArray) (wd : Int) (n : Nat) (w : World) (hn : n < 2 ^ 64) : Calls Tryd.prog 56 #[.string s, .int .i64 wd, .int .u64 (n : Int)] w (RetSE (nextL s.toList wd n) (mayE s.size wd) w) := by
  by_cases h : mayE s.size wd = 0
  · obtain ⟨h16, h1, h2⟩ := may_zero h
    obtain ⟨k, rfl⟩ := Int.eq_ofNat_of_zero_le (a := wd) (by omega)
    have hL : nextL s.toList (k : Int) n = nxt s.toList k n := by rw [nextL, tl_size, if_pos h, Int.toNat_natCast]
    have HL := Lib.hid hL
    have H := Lib.hid h
    clear h hL
    go_enter Tryd.func56, Tryd.ntmps56
    go_wp2_with fail
    refine (may_any s _ _).mono ?_
    rintro e w1 ⟨rfl, rfl⟩
    rw [H.out]
    go_wp2_with fail
    refine (grown_any s k n _ h16 (by omega) (by omega) hn).mono ?_
    rintro e w1 ⟨t, rfl, ht, hb⟩
    go_wp2_with fail
    go_ret2
    rw [H.out]
    exact ret_se ht HL.out.symm rfl hb
  · have hne : (mayE s.size wd != 0) = true := by rw [bne_iff_ne]; exact h
    have hL : nextL s.toList wd n = [] := by rw [nextL, tl_size, if_neg h]
    rw [hL]
    clear h hL
    obtain ⟨c, hc⟩ : ∃ c, mayE s.size wd = c := ⟨_, rfl⟩
    rw [hc] at hne ⊢
    have HC := Lib.hid hc
    clear hc
    go_enter Tryd.func56, Tryd.ntmps56
    go_wp2_with fail
    refine (may_any s _ _).mono ?_
    rintro e w1 ⟨rfl, rfl⟩
    rw [HC.out]
    go_wp2_with fail
    go_ret2
    exact ret_se (tl_mk []) rfl rfl (Below.refl _ _)
set_option maxRecDepth 100000 in
set_option maxHeartbeats 800000 in
theorem rcnext_any (s : ByteArray) (wd : Int) (n : Nat) (w : World) (hn : n < 2 ^ 64) : Calls Tryd.prog 62 #[.string s, .int .i64 wd, .int .u64 (n : Int)] w (RetSE (nextL s.toList wd n) (mayE s.size wd) w) := by
  by_cases hs : s.size = 16
  · have e1 : ((s.size : Int) != 16) = false := by rw [bne_eq_false_iff_eq]; omega
    by_cases h1 : wd < 1
    · have hE : mayE s.size wd = 2 := by rw [mayE, if_pos hs, if_pos (.inl h1)]
      have hL : nextL s.toList wd n = [] := by rw [nextL, tl_size, hE]; rfl
      rw [hE, hL]
      clear hs hE hL
      go_enter Tryd.func62, Tryd.ntmps62
      go_wp2
      go_ret2
      exact ret_se (tl_mk []) rfl rfl (Below.refl _ _)
    · by_cases h2 : 16 < wd
      · have hE : mayE s.size wd = 2 := by rw [mayE, if_pos hs, if_pos (.inr h2)]
        have hL : nextL s.toList wd n = [] := by rw [nextL, tl_size, hE]; rfl
        rw [hE, hL]
        clear hs hE hL
        go_enter Tryd.func62, Tryd.ntmps62
        go_wp2
        go_ret2
        exact ret_se (tl_mk []) rfl rfl (Below.refl _ _)
      · obtain ⟨m, rfl⟩ := Int.eq_ofNat_of_zero_le (a := wd) (by omega)
        have hE : mayE s.size (m : Int) = 0 := by rw [mayE, if_pos hs, if_neg (by omega)]
        have hL : nextL s.toList (m : Int) n = nxt s.toList m n := by rw [nextL, tl_size, if_pos hE, Int.toNat_natCast]
        rw [hE, hL]
        obtain ⟨k, hk⟩ : ∃ k : Nat, k = 16 - m := ⟨_, rfl⟩
        have hk1 : (16 : Int) - (m : Int) = (k : Int) := by omega
        have hk2 : IntKind.i64.wrap (k : Int) = (k : Int) := wrap_in _ (by omega) (by omega)
        have hks : k ≤ s.size := by omega
        have hksI : (k : Int) ≤ (s.size : Int) := by omega
        have hk0 : (0 : Int) ≤ (k : Int) := by omega
        have hss : s.size ≤ s.size := Nat.le_refl _
        have hex : (s.extract k s.size).size ≤ 140737488351232 := by rw [← tl_size, tl_extE _ _ _ rfl, List.length_drop, tl_size]; omega
        have HK := Lib.hid hk
        have HEX := Lib.hid hex
        clear hk hs hex hE hL
        go_enter Tryd.func62, Tryd.ntmps62
        go_wp2_with fail
        go_region_held3 (fun _ => True) (trivial) (first | (go_at_call 86; refine (oradd_any _ n _ HEX.out hn).mono ?_; rintro e w1 ⟨t, rfl, ht, hb⟩; have hcat : ¬ 9223372036854775807 < k + t.size := by rw [← tl_size t, ht, oaddL_length, tl_size]; have := HEX.out; omega))
        all_goals
          go_wp2_with fail
          go_ret2
          refine ret_se ?_ rfl rfl (below_of_drew hb)
          rw [tl_append, tl_ext0, ht, tl_extE _ _ _ rfl, nxt, ← HK.out]
  · have e1 : ((s.size : Int) != 16) = true := by rw [bne_iff_ne]; omega
    have hE : mayE s.size wd = 4 := by rw [mayE, if_neg hs]
    have hL : nextL s.toList wd n = [] := by rw [nextL, tl_size, hE]; rfl
    rw [hE, hL]
    clear hs hE hL
    go_enter Tryd.func62, Tryd.ntmps62
    go_wp2
    go_ret2
    exact ret_se (tl_mk []) rfl rfl (Below.refl _ _)
end Go.Proofs.YtkedoiikkjeadaaDoor
namespace Go.Proofs.YtkedoiikkjeadaaDoor
open Go.RowKit
set_option linter.unusedVariables false
set_option linter.unusedSimpArgs false
/-- append of a text where there is room, as one step of a region that draws its order -/
theorem step_append_text {P : Program} {w : World} {ops : Array Oper} {o : Oper} {a : Act} {K : Act → World → Prop} {Q : Exit → Act → World → Prop} {E : Prop} (hgd : o.guard = none) (sl x : Operand) (t u : TypeId)
    (ho : o.op = .call { callee := .builtin .append, args := #[sl, x], argTypes := #[t, u] })
    (base : Nat) (e : TypeId) (i : TypeInfo) (ht : P.underlying t = some (.slice e)) (hu : P.underlying u = some .string) (hi : P.info? e = some i) (hsize : i.size = 1)
    (p : Option Addr) (n cap : Nat) (l : List UInt8) (hs : a.eval sl = .slice p n cap) (hown : w.ownsRow base e 1 (.slice p n cap) n (bcells l)) (s : ByteArray) (hx : a.eval x = .string s)
    (h1 : 0 < cap) (hroom : n + s.size ≤ cap)
    (h : ∀ w', w'.ownsRow base e 1 (.slice p (n + s.size) cap) (n + s.size) (bcells (l ++ s.toList)) → w.grownBy w' (Value.ownBlock (.slice p n cap)) → K (a.put o.dst (.slice p (n + s.size) cap)) w') :
    if Region.wanted o (yielded ops a.tmps) = true then Oper.wp P o a w K Q else E := by
  have hw : Region.wanted o (yielded ops a.tmps) = true := by simp [Region.wanted, hgd]
  rw [if_pos hw]
  obtain ⟨w', hr, h2, h3⟩ := Lib.run_append_fits_string (P := P) w base t u o.type e i ht hu hi hsize p n cap (bcells l) hown s h1 hroom
  have e1 : Lib.strCells s = bcells s.toList := by
    rw [Lib.toList_data]
    simp [Lib.strCells, bcells]
  rw [e1, ← bcells_append] at h2
  unfold Oper.wp execOp
  simp only [ho, resolve, invoke, builtin, Sem.run_bind, Sem.run_pure, Result.andThen_ok, List.map_toArray, List.map_cons, List.map_nil, hs, hx, hr]
  exact h w' h2 h3
/-- one block after the other: the cipher, the width and the counter lie in three blocks from B on -/
structure Gen (w : World) (B g : Nat) (K C : List UInt8) (wd : Nat) : Prop where
  ci : At w B 0 [.pointer (some ⟨g, 0, none⟩)]
  wi : At w (B + 1) 0 [.int .i64 (wd : Int)]
  co : ∃ c : ByteArray, c.toList = C ∧ At w (B + 2) 0 [.string c]
  q : Ciq w g K
  lt : g < B
  len : C.length = 16
theorem Gen.size {w : World} {B g wd : Nat} {K C : List UInt8} (h : Gen w B g K C wd) : B + 2 < w.heap.size := by
  obtain ⟨c, _, hc⟩ := h.co
  exact hc.lt (by simp)
theorem Gen.below {w w' : World} {B g wd : Nat} {K C : List UInt8} (h : Gen w B g K C wd) (hb : Below w.heap.size w w') : Gen w' B g K C wd := by
  have hs := h.size
  obtain ⟨c, hc, ha⟩ := h.co
  exact ⟨h.ci.below hb (by omega), h.wi.below hb (by omega), ⟨c, hc, ha.below hb hs⟩, h.q.below hb h.q.lt, h.lt, h.len⟩
theorem Gen.grown {w w' : World} {B g wd b : Nat} {K C : List UInt8} (h : Gen w B g K C wd) (hg : w.grownBy w' (some b)) (hb : b < B) (hgb : g < b) : Gen w' B g K C wd := by
  have hs := h.size
  obtain ⟨c, hc, ha⟩ := h.co
  have hbel : Below b w w' := (Below.refl b w).grown hg (by omega) (fun k hk => by cases hk; exact Nat.le_refl _)
  have hne : ∀ j, b < j → (some b : Option Nat) ≠ some j := fun j hj e => by cases e; omega
  exact ⟨h.ci.grown hg (by omega) (hne _ hb), h.wi.grown hg (by omega) (hne _ (by omega)), ⟨c, hc, ha.grown hg hs (hne _ (by omega))⟩, h.q.below hbel hgb, h.lt, h.len⟩
def RetG (B g : Nat) (K C : List UInt8) (wd : Nat) (w : World) (e : Ending) (w' : World) : Prop := ∃ s : ByteArray, e = .returned (.string s) ∧ s.toList = encL K C ∧ Gen w' B g K (nxt C wd 1) wd ∧ Turn (B + 2) 0 w w'
set_option maxRecDepth 100000 in
set_option maxHeartbeats 800000 in
theorem next_any (w : World) (B g wd : Nat) (K C : List UInt8) (hG : Gen w B g K C wd) (h1 : 1 ≤ wd) (h16 : wd ≤ 16) :
    Calls Tryd.prog 98 #[.pointer (some ⟨B, 0, none⟩), .pointer (some ⟨B + 2, 0, none⟩), .pointer (some ⟨B + 1, 0, none⟩)] w (RetG B g K C wd w) := by
  have hsz := hG.size
  obtain ⟨c, hc, hco⟩ := hG.co
  have hc0 := hG.ci.cell 0 _ rfl
  have hc1 := hG.wi.cell 0 _ rfl
  have hc2 := hco.cell 0 _ rfl
  rw [Nat.add_zero] at hc0 hc1 hc2
  have hcs : c.size = 16 := by rw [← tl_size, hc]; exact hG.len
  have HG := Lib.hid hG
  have HC := Lib.hid hc
  have HCO := Lib.hid hco
  have HCS := Lib.hid hcs
  clear hG hc hco hcs
  go_enter Tryd.func98, Tryd.ntmps98
  go_wp2_with fail
  refine (enc_q c _ g K HG.out.q HCS.out).mono ?_
  rintro e w1 ⟨s, rfl, hs, hQ1, hb1⟩
  have HS := Lib.hid hs
  have hc1' := (HG.out.wi.below hb1 (by omega)).cell 0 _ rfl
  have hc2' := (HCO.out.below hb1 hsz).cell 0 _ rfl
  rw [Nat.add_zero] at hc1' hc2'
  clear hs hc0 hc1 hc2
  go_wp2_with fail
  refine (grown_any c wd 1 _ HCS.out h1 h16 (by decide)).mono ?_
  rintro e w2 ⟨t, rfl, ht, hb2⟩
  have hb12 := hb1.trans (hb2.mono hb1.size)
  have hG2 := HG.out.below hb12
  have hco2 := HCO.out.below hb12 hsz
  have hcc := hco2.cell 0 _ rfl
  have hff := hco2.froz 0 (by simp)
  rw [Nat.add_zero] at hcc hff
  have HT := Lib.hid ht
  have HG2 := Lib.hid hG2
  have HCO2 := Lib.hid hco2
  clear hc1' hc2' ht hG2 hco2
  go_wp2_with fail
  go_ret
  have hT := (Turn.ofBelow (lo := 0) hb12 hsz).setCell 0 (Nat.zero_le _) (.string t)
  refine ⟨s, rfl, by rw [HS.out, HC.out], ⟨HG2.out.ci.other _ _ _ (.inl (by omega)), HG2.out.wi.other _ _ _ (.inl (by omega)), ⟨t, by rw [HT.out, HC.out], HCO2.out.set 0 (.string t)⟩, ?_, HG2.out.lt, nxt_length _ _ _ HG2.out.len⟩, hT⟩
  have hl := HG2.out.lt
  exact HG2.out.q.below (B := B) ((Below.refl _ _).setCell (by simp only; omega) _) hl
set_option maxRecDepth 100000 in
theorem blocks_any (w : World) (g wd : Nat) (K : List UInt8) (s : ByteArray) (hQ : Ciq w g K) (hs : s.size = 16) :
    Calls Tryd.prog 85 #[.pointer (some ⟨g, 0, none⟩), .string s, .int .i64 (wd : Int)] w
    (fun e w' => e = .returned (.func (.func 98) #[] #[.pointer (some ⟨w.heap.size, 0, none⟩), .pointer (some ⟨w.heap.size + 2, 0, none⟩), .pointer (some ⟨w.heap.size + 1, 0, none⟩)]) ∧ Gen w' w.heap.size g K s.toList wd ∧ Below w.heap.size w w') := by
  have hmf : ∀ (fn : Fn) (first cap : Array Value) (w : World), (Instr.makeFunc fn first cap).run Tryd.prog w = .ok (.func fn first cap) w := fun _ _ _ _ => rfl
  have HQ := Lib.hid hQ
  have HS := Lib.hid hs
  clear hQ hs
  go_enter Tryd.func85, Tryd.ntmps85
  go_wp2
  go_ret
  have hA := ((At.ofAlloc w #[.pointer (some ⟨g, 0, none⟩)] 57).alloc (Obj.cells #[.int .i64 (wd : Int)] 3)).alloc (Obj.cells #[.string s] 9)
  have hB := (At.ofAlloc (w.alloc (Obj.cells #[.pointer (some ⟨g, 0, none⟩)] 57)) #[.int .i64 (wd : Int)] 3).alloc (Obj.cells #[.string s] 9)
  have hC := At.ofAlloc ((w.alloc (Obj.cells #[.pointer (some ⟨g, 0, none⟩)] 57)).alloc (Obj.cells #[.int .i64 (wd : Int)] 3)) #[.string s] 9
  rw [World.size_alloc] at hB
  rw [World.size_alloc, World.size_alloc] at hC
  have hb : Below w.heap.size w (((w.alloc (Obj.cells #[.pointer (some ⟨g, 0, none⟩)] 57)).alloc (Obj.cells #[.int .i64 (wd : Int)] 3)).alloc (Obj.cells #[.string s] 9)) :=
    (((Below.refl _ _).alloc (Nat.le_refl _) _).alloc (by simp) _).alloc (by simp; omega) _
  exact ⟨rfl, ⟨hA, hB, ⟨s, rfl, hC⟩, HQ.out.below hb HQ.out.lt, HQ.out.lt, by rw [tl_size]; exact HS.out⟩, hb⟩
def lenOf : Value → Nat
  | .slice _ n _ => n
  | _ => 0
def ctrR (K S : List UInt8) (wd : Int) (T : List UInt8) : List UInt8 := if ctrE K.length S.length wd T.length = 0 then ctrL K S wd.toNat T else []
theorem Gen.drewN {w : World} {B g wd : Nat} {K C : List UInt8} (h : Gen w B g K C wd) : Gen w.drew B g K C wd := h.below ((Below.refl _ _).drew)
set_option maxRecDepth 100000 in
set_option maxHeartbeats 3200000 in
theorem cxor_ok (key start text : ByteArray) (wd : Nat) (w : World) (hk : key.size = 16 ∨ key.size = 24 ∨ key.size = 32) (hs : start.size = 16) (h1 : 1 ≤ wd) (h16 : wd ≤ 16) (ht : text.size ≤ 70000) :
    Calls Tryd.prog 57 #[.string key, .string start, .int .i64 (wd : Int), .string text] w (RetSE (ctrL key.toList start.toList wd text.toList) 0 w) := by
  obtain ⟨i0, hi, hz0, hz1, hz2⟩ := info_parts info5
  have hm : mayE start.size (wd : Int) = 0 := by rw [mayE, if_pos hs, if_neg (by omega)]
  have hTI : ¬ (70000 : Int) < (text.size : Int) := by omega
  have hTD : decide ((70000 : Int) < (text.size : Int)) = false := decide_eq_false hTI
  have HM := Lib.hid hm
  have HS := Lib.hid hs
  clear hm hs
  go_enter Tryd.func57, Tryd.ntmps57
  go_wp2_with fail
  refine (new_q key _ hk).mono ?_
  rintro e w1 ⟨g, hg, rfl, hQ, hb1⟩
  go_wp2_with fail
  refine (may_any start _ _).mono ?_
  rintro e w1' ⟨rfl, rfl⟩
  rw [HM.out]
  have HQ := Lib.hid hQ
  clear hQ
  go_wp2_with (at_make; refine wpList_make_own _ rfl (.const (.int .i64 0)) (.tmp 35) 56 rfl w1.heap.size 5 i0 (.int .u8 0) 1 Tryd.underlying56 hi hz0 hz1 .i64 .i64 _ (text.size) rfl rfl (by omega) (by rw [hz2]; omega) (by unfold maxLen; omega) (Nat.le_refl _) ?_; intro w2 hown hgrow)
  have hb2 := (Below.refl w1.heap.size w1).grown hgrow (Nat.le_refl _) (by simp)
  have HO := Lib.hid hown
  have hQ2 := HQ.out.below hb2 HQ.out.lt
  have hgb : g < w1.heap.size := HQ.out.lt
  have hwb : w.heap.size ≤ w1.heap.size := hb1.size
  have hb12 := hb1.trans (hb2.mono hb1.size)
  have hb0s : w1.heap.size < w2.heap.size := (hown.lt w1.heap.size rfl).2
  clear hown hgrow hb2 hg
  refine (blocks_any _ g wd _ start hQ2 HS.out).mono ?_
  rintro e w3 ⟨rfl, hG3, hb3⟩
  obtain ⟨b0, hb0⟩ : ∃ b0, w1.heap.size = b0 := ⟨_, rfl⟩
  obtain ⟨B, hB⟩ : ∃ B, w2.heap.size = B := ⟨_, rfl⟩
  have hb13 := hb12.trans (hb3.mono hb12.size)
  have HO3 := Lib.hid (own_below HO.out hb3 (Nat.le_refl _))
  rw [hb0] at hgb hb0s HO3 hwb ⊢
  rw [hB] at hG3 hb0s ⊢
  have HG3 : Hid (Gen w3 B g key.toList (nxt start.toList wd 0) wd) := by rw [nxt_zero]; exact hG3
  clear hb3 hG3 hb12 HO HQ hQ2 hb0 hB
  go_wp2_with fail
  go_loopw [12] (fun v wr => ∃ i n : Nat, v = .slice (some ⟨b0, 0, none⟩) n text.size ∧ n = min (16 * i) text.size ∧ wr.ownsRow b0 5 1 (.slice (some ⟨b0, 0, none⟩) n text.size) n (bcells (xorL (text.toList.take (16 * i)) (ctrS key.toList start.toList wd i))) ∧ Gen wr B g key.toList (nxt start.toList wd i) wd ∧ Below w.heap.size w wr) (fun v _ => text.size - lenOf v)
  case atStart => exact ⟨0, 0, rfl, by omega, HO3.out, HG3.out, hb13⟩
  case round =>
    clear HO3 HG3 hb13
    obtain ⟨i, n, rfl, hn, hO, hG, hbl⟩ := hrel
    have HO := Lib.hid hO
    have HG := Lib.hid hG
    have hsz := hG.size
    have HN := Lib.hid hn
    clear hO hG
    by_cases hlt : n < text.size
    · have hn16 : n = 16 * i := by omega
      have HN16 := Lib.hid hn16
      have hnI : (n : Int) < (text.size : Int) := by omega
      have hn0 : (0 : Int) ≤ (n : Int) := by omega
      have hnle : (n : Int) ≤ (text.size : Int) := by omega
      have hnn : n ≤ text.size := by omega
      have hss : text.size ≤ text.size := Nat.le_refl _
      have hex : (text.extract n text.size).size ≤ 140737488351232 := by rw [← tl_size, tl_extE _ _ _ rfl, List.length_drop, tl_size]; omega
      have HEX := Lib.hid hex
      have HGd := Lib.hid HG.out.drewN
      clear hn hn16 hex
      go_wp2_with fail
      go_region_held3 (fun _ => True) (trivial) (first | (refine step_append_text rfl (.tmp 46) (.tmp 53) 56 9 rfl b0 5 i0 Tryd.underlying56 Tryd.underlying9 hi hz1 (some ⟨b0, 0, none⟩) n text.size _ rfl HO2.out s2 rfl (by omega) (by rw [HS2.out]; omega) ?_; intro w6 hown6 hgrow6) | (go_at_call 60; refine (xor_any (text.extract n text.size) s1 _ HEX.out (by rw [HS1.out]; decide)).mono ?_; rintro e w5 ⟨s2, rfl, hs2, hb5⟩; have HX2 := Lib.hid hs2; have HS2 : Hid (s2.size = min (text.size - n) 16) := (by show _ = _; rw [← tl_size, HX2.out, xorL_length, tl_extE _ _ _ rfl, List.length_drop, tl_size, tl_size, HS1.out]); have HO2 := Lib.hid (own_below HO1.out hb5 (Nat.le_refl _)); have HG5 := Lib.hid (HG1.out.below hb5); clear hs2) | (go_at_call 98; refine (next_any _ B g wd _ _ HGd.out h1 h16).mono ?_; rintro e w4 ⟨s1, rfl, hs1, hG4, hT4⟩; have HX1 := Lib.hid hs1; have HS1 : Hid (s1.size = 16) := (by show _ = _; rw [← tl_size, HX1.out, encL_length]); have HO1 := Lib.hid (own_same (w' := w4) HO.out (fun k hk => (hT4.block k (by cases hk; show b0 < wr.heap.size; omega) (by cases hk; show b0 ≠ _; omega)))); have HG1 := Lib.hid hG4; clear hs1 hG4))
      have hT4' := hT4.toBelow (B := w.heap.size) (by show B + 2 < wr.heap.size; omega) (by omega)
      have hbl4 := hbl.drew.trans hT4'
      have hbl5 := hbl4.trans (hb5.mono hbl4.size)
      have hbl6 := hbl5.grown hgrow6 hbl5.size (fun k hk => by cases hk; exact hwb)
      have hG6 := HG5.out.grown (b := b0) hgrow6 hb0s hgb
      rw [nxt_add _ _ _ _ (by rw [tl_size]; exact HS.out)] at hG6
      rw [HX2.out, tl_extE _ _ _ rfl, HX1.out, HN16.out, ctr_step _ _ _ _ _ (by rw [tl_size]; have := HN16.out; omega)] at hown6
      have HO6 := Lib.hid hown6
      have HG6 := Lib.hid hG6
      clear hown6 hgrow6 hG6 hb5 hT4 hT4' hbl4 hbl5 HO2 HG5 HO1 HG1 HX1 HX2 HGd HEX hbl
      go_wp2_with fail
      go_roundw
      case rel => exact ⟨i + 1, n + s2.size, rfl, by rw [HS2.out, HN16.out]; have := HN16.out; omega, by have h := HO6.out; rw [← HN16.out] at h; exact h, HG6.out, hbl6⟩
      case measure => have := HS2.out; simp [lenOf]; omega
    · have hnT : n = text.size := by omega
      have hfull : xorL (text.toList.take (16 * i)) (ctrS key.toList start.toList wd i) = ctrL key.toList start.toList wd text.toList := by
        rw [List.take_of_length_le (by rw [tl_size]; omega), ctrL_any _ _ _ _ _ (by rw [tl_size]; omega)]
      have hO := HO.out
      rw [hfull] at hO
      have HF := Lib.hid hO
      have hlt2 : ¬ (n : Int) < (text.size : Int) := by omega
      clear hn hfull hO HO HG
      have hcv := run_convert_own (P := Tryd.prog) HF.out 56 9 Tryd.underlying56 Tryd.underlying5 Tryd.underlying9
      clear hnT
      go_wp2_with fail
      go_ret2
      exact ret_se (tl_mk _) rfl rfl hbl
end Go.Proofs.YtkedoiikkjeadaaDoor
