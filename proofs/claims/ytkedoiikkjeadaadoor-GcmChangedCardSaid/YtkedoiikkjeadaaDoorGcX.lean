/- Joined by merge.py: GcP GcA GcB GcC GcD GcE GcF GcG GcH GcI GcJ. -/
import Derived.Test.YtkedoiikkjeadaaDoorCcmV
import Derived.Test.YtkedoiikkjeadaaDoorGhX
import Derived.Test.YtkedoiikkjeadaaDoorAesLb
import Derived.Test.YtkedoiikkjeadaaDoorOctA
import Derived.IntWalk
import Derived.RegionTactic
import Derived.ChangeAlike
namespace Go.Proofs.YtkedoiikkjeadaaDoor
open Go.RowKit
set_option linter.unusedVariables false
set_option linter.unusedSimpArgs false
theorem filM_w (T : List UInt8) : (filM T).length % 16 = 0 ∧ T.length ≤ (filM T).length ∧ (filM T).length < T.length + 16 := by
  have h1 := filM_mod T
  have h2 := filM_size T
  refine ⟨by omega, ?_, h2⟩
  rw [filM, List.length_append]
  omega
def bitsL (n : Nat) : List UInt8 := be 8 (8 * n)
theorem bitsL_length (n : Nat) : (bitsL n).length = 8 := be_length _ _
theorem bitsL_zero : bitsL 0 = zer 8 := by decide
def gcH (K : List UInt8) : List UInt8 := encL K (zer 16)
theorem gcH_length (K : List UInt8) : (gcH K).length = 16 := encL_length _ _
def gcFir (V : List UInt8) : List UInt8 := filM V ++ zer 8 ++ bitsL V.length
def gcFirst (K V : List UInt8) : List UInt8 := if V.length = 12 then V ++ [0, 0, 0, 1] else gsL (gcH K) (gcFir V)
theorem gcFirst_length (K V : List UInt8) : (gcFirst K V).length = 16 := by
  rw [gcFirst]
  split
  · rename_i h
    rw [List.length_append, h]
    rfl
  · exact gsL_length _ _
theorem gcFir_length (V : List UInt8) : (gcFir V).length % 16 = 0 ∧ (gcFir V).length ≤ V.length + 32 := by
  have := filM_w V
  rw [gcFir, List.length_append, List.length_append, zer_length, bitsL_length]
  omega
def gcAll (A C : List UInt8) : List UInt8 := filM A ++ filM C ++ bitsL A.length ++ bitsL C.length
theorem gcAll_length (A C : List UInt8) : (gcAll A C).length % 16 = 0 ∧ (gcAll A C).length ≤ A.length + C.length + 48 := by
  have h1 := filM_w A
  have h2 := filM_w C
  rw [gcAll, List.length_append, List.length_append, List.length_append, bitsL_length, bitsL_length]
  omega
def gcTag (K V A C : List UInt8) (s : Nat) : List UInt8 := (xorL (gsL (gcH K) (gcAll A C)) (encL K (gcFirst K V))).take s
theorem gcTag_length (K V A C : List UInt8) (s : Nat) (h : s ≤ 16) : (gcTag K V A C s).length = s := by
  rw [gcTag, List.length_take, xorL_length, gsL_length, encL_length]
  omega
def gcJoin (K V T : List UInt8) : List UInt8 := ctrL K (nxt (gcFirst K V) 4 1) 4 T
theorem gcJoin_length (K V T : List UInt8) : (gcJoin K V T).length = T.length := ctrL_length _ _ _ _
theorem gcJoin_twice (K V T : List UInt8) : gcJoin K V (gcJoin K V T) = T := ctrL_twice _ _ _ _
/-! ### errors -/
def gcE (k v a : Nat) (s : Int) : Int := if keyOk k then if v = 0 ∨ 1024 < v then 4 else if s < 12 ∨ 16 < s then 5 else if 70000 < a then 6 else 0 else 3
theorem gcE_zero {k v a : Nat} {s : Int} (h : gcE k v a s = 0) : (k = 16 ∨ k = 24 ∨ k = 32) ∧ 1 ≤ v ∧ v ≤ 1024 ∧ 12 ≤ s ∧ s ≤ 16 ∧ a ≤ 70000 := by
  unfold gcE at h
  split at h
  · rename_i hk
    split at h
    · cases h
    · split at h
      · cases h
      · split at h
        · cases h
        · exact ⟨by simpa [keyOk] using hk, by omega, by omega, by omega, by omega, by omega⟩
  · cases h
def gcTE (k v a : Nat) (s : Int) (n : Nat) : Int := if gcE k v a s = 0 then (if 70000 < n then 6 else 0) else gcE k v a s
def gcOE (k v a : Nat) (s : Int) (n : Nat) : Int := if gcE k v a s = 0 then (if (n : Int) < s ∨ 70000 + s < (n : Int) then 6 else 0) else gcE k v a s
def gcSealL (K V A T : List UInt8) (s : Int) : List UInt8 := if gcTE K.length V.length A.length s T.length = 0 then gcJoin K V T ++ gcTag K V A (gcJoin K V T) s.toNat else []
def gcTagL (K V A C : List UInt8) (s : Int) : List UInt8 := if gcTE K.length V.length A.length s C.length = 0 then gcTag K V A C s.toNat else []
def gcCut (T : List UInt8) (s : Int) : List UInt8 := T.take (T.length - s.toNat)
def gcOpenE (K V A T : List UInt8) (s : Int) : Int :=
  if gcOE K.length V.length A.length s T.length = 0 then if gcTag K V A (gcCut T s) s.toNat = T.drop (T.length - s.toNat) then 0 else 8 else gcOE K.length V.length A.length s T.length
def gcOpenL (K V A T : List UInt8) (s : Int) : List UInt8 := if gcOpenE K V A T s = 0 then gcJoin K V (gcCut T s) else []
end Go.Proofs.YtkedoiikkjeadaaDoor
namespace Go.Proofs.YtkedoiikkjeadaaDoor
open Go.RowKit
set_option linter.unusedVariables false
set_option linter.unusedSimpArgs false
set_option maxRecDepth 100000 in
set_option maxHeartbeats 1600000 in
theorem gfilled_any (s : ByteArray) (w : World) (hs : s.size ≤ 1000000) : Calls Tryd.prog 58 #[.string s] w (RetS (filM s.toList) w) := by
  obtain ⟨r, hr⟩ : ∃ r, s.size % 16 = r := ⟨_, rfl⟩
  obtain ⟨d, hd⟩ : ∃ d, d = 16 - r := ⟨_, rfl⟩
  obtain ⟨p, hp⟩ : ∃ p, p = d % 16 := ⟨_, rfl⟩
  have e1 : (s.size : Int).tmod 16 = (r : Int) := tmod_nat s.size 16 r hr.symm
  have e2 : IntKind.i64.wrap (r : Int) = (r : Int) := wrap_in _ (by omega) (by omega)
  have e3 : 16 - (r : Int) = (d : Int) := by omega
  have e4 : IntKind.i64.wrap (d : Int) = (d : Int) := wrap_in _ (by omega) (by omega)
  have e5 : (d : Int).tmod 16 = (p : Int) := tmod_nat d 16 p hp
  have e6 : IntKind.i64.wrap (p : Int) = (p : Int) := wrap_in _ (by omega) (by omega)
  have hpl : p ≤ 15 := by omega
  have HP : Hid ((16 - s.toList.length % 16) % 16 = p) := by show _ = _; rw [tl_size]; omega
  clear hr hd hp
  go_enter Tryd.func58, Tryd.ntmps58
  go_wp2_with fail
  refine (rep_any (ByteArray.mk #[0]) 0 p _ nought_tl (by omega)).mono ?_
  rintro e w1 ⟨z, rfl, hz, hb1⟩
  have hzs : z.size = p := by rw [← tl_size, hz]; simp
  have hov : ¬ 9223372036854775807 < s.size + z.size := by omega
  have HZ : Hid (z.toList = zer p) := hz
  clear hz hzs
  go_wp2_with fail
  go_ret
  exact ⟨_, rfl, by rw [tl_append, HZ.out, filM, HP.out], hb1⟩
theorem u64_in8 (t : Nat) (h : t < 100000000) : IntKind.u64.wrap (t : Int) = (t : Int) := by simp [IntKind.wrap, IntKind.bits, IntKind.signed]; omega
set_option maxRecDepth 100000 in
set_option maxHeartbeats 1600000 in
theorem gbits_any (s : ByteArray) (w : World) (hs : s.size ≤ 1000000) : Calls Tryd.prog 59 #[.string s] w (RetS (bitsL s.size) w) := by
  obtain ⟨m, hm⟩ : ∃ m, 8 * s.size = m := ⟨_, rfl⟩
  have c1 := u64_in8 s.size (by omega)
  have c2 := u64_in8 m (by omega)
  have c3 : 8 * (s.size : Int) = (m : Int) := by omega
  have hn64 : m < 2 ^ 64 := by omega
  have HB : Hid (bitsL s.size = be 8 m) := by show _ = _; rw [bitsL, hm]
  have HPF := Lib.hid (put8 m hn64)
  clear hm
  go_enter Tryd.func59, Tryd.ntmps59
  go_wp2_with fail
  refine (put_any m 8 _ hn64).mono ?_
  rintro e w1 ⟨x, rfl, hx, hb1⟩
  rw [HPF.out.1] at hx
  rw [HPF.out.2]
  have HX := Lib.hid hx
  clear hx
  go_wp2_with fail
  go_ret
  exact ⟨_, rfl, by rw [HX.out, HB.out], hb1⟩
end Go.Proofs.YtkedoiikkjeadaaDoor
namespace Go.Proofs.YtkedoiikkjeadaaDoor
open Go.RowKit
set_option linter.unusedVariables false
set_option linter.unusedSimpArgs false
/-- what the region of counter holds to -/
theorem gkp {w wa wb : World} {B : Nat} {H : ByteArray} (hb : Below wa.heap.size wa wb) (hS : wa.cell? ⟨B, 2, none⟩ = some (.string H) ∧ B < wa.heap.size ∧ Below w.heap.size w wa ∧ Fal wa) :
    wb.cell? ⟨B, 2, none⟩ = some (.string H) ∧ B < wb.heap.size ∧ Below w.heap.size w wb ∧ Fal wb :=
  ⟨(hb.cell (p := ⟨B, 2, none⟩) hS.2.1).trans hS.1, Nat.lt_of_lt_of_le hS.2.1 hb.size, hS.2.2.1.trans (hb.mono hS.2.2.1.size), hS.2.2.2.below hb hS.2.2.2.2⟩
theorem gkf {w wa : World} {B : Nat} {H : ByteArray} (hS : wa.cell? ⟨B, 2, none⟩ = some (.string H) ∧ B < wa.heap.size ∧ Below w.heap.size w wa ∧ Fal wa) : Fal wa := hS.2.2.2
theorem gkb {w wa : World} {B : Nat} {H : ByteArray} (hS : wa.cell? ⟨B, 2, none⟩ = some (.string H) ∧ B < wa.heap.size ∧ Below w.heap.size w wa ∧ Fal wa) : Below w.heap.size w wa := hS.2.2.1
theorem gsumk (key text : ByteArray) (hk : key.size = 16) (hm : text.toList.length % 16 = 0) (hl : text.toList.length ≤ 210000) (w : World) (hF : Fal w) : Calls Tryd.prog 17 #[.string key, .string text] w (RetSE (gsL key.toList text.toList) 0 w) := by
  have h := gsum_any key text w hF
  obtain ⟨h1, h2⟩ := gs_ok key.toList text.toList (by rw [tl_size]; exact hk) hm hl
  rwa [h1, h2] at h
theorem one12 : (ByteArray.mk #[0, 0, 0, 1]).toList = [0, 0, 0, 1] := tl_mk _
theorem keyed_by (w : World) (key H : ByteArray) (g : Nat) (hF : Fal w) : ∃ w0, w.alloc (Obj.cells #[.string key, .pointer (some ⟨g, 0, none⟩), .string H] 59) = w0 ∧ (w0.cell? ⟨w.heap.size, 2, none⟩ = some (.string H) ∧ w.heap.size < w0.heap.size ∧ Below w.heap.size w w0 ∧ Fal w0) := by
  have h := At.ofAlloc w #[.string key, .pointer (some ⟨g, 0, none⟩), .string H] 59
  have hb : Below w.heap.size w (w.alloc (Obj.cells #[.string key, .pointer (some ⟨g, 0, none⟩), .string H] 59)) := (Below.refl _ _).alloc (Nat.le_refl _) _
  exact ⟨_, rfl, h.cell 2 _ rfl, by simp, hb, hF.below hb hF.2⟩
set_option maxRecDepth 100000 in
set_option maxHeartbeats 6400000 in
theorem gcounter_any (key H iv : ByteArray) (g : Nat) (w : World) (hF : Fal w) (hH : H.toList = gcH key.toList) (hv : iv.size ≤ 1024) : Calls Tryd.prog 55 #[.agg #[.string key, .pointer (some ⟨g, 0, none⟩), .string H], .string iv] w (RetS (gcFirst key.toList iv.toList) w) := by
  by_cases h12 : iv.size = 12
  · have e1 : ((iv.size : Int) == 12) = true := by rw [beq_iff_eq]; omega
    have hov : ¬ 9223372036854775807 < iv.size + 4 := by omega
    have HR : Hid (gcFirst key.toList iv.toList = iv.toList ++ [0, 0, 0, 1]) := by show _ = _; rw [gcFirst, if_pos (by rw [tl_size]; exact h12)]
    clear h12
    go_enter Tryd.func55, Tryd.ntmps55
    go_wp2_with fail
    go_ret
    exact ⟨_, rfl, by rw [tl_append, one12, HR.out], (Below.refl _ _).alloc (Nat.le_refl _) _⟩
  · have e1 : ((iv.size : Int) == 12) = false := by rw [beq_eq_false_iff_ne]; omega
    have HR : Hid (gcFirst key.toList iv.toList = gsL H.toList (filM iv.toList ++ bitsL 0 ++ bitsL iv.size)) := by show _ = _; rw [gcFirst, if_neg (by rw [tl_size]; exact h12), hH, gcFir, bitsL_zero, tl_size]
    have hHs : H.size = 16 := by rw [← tl_size, hH, gcH_length]
    have hfw := filM_w iv.toList
    rw [tl_size] at hfw
    have HW := Lib.hid hfw
    have HHS := Lib.hid hHs
    clear h12 hH hHs hfw
    go_enter Tryd.func55, Tryd.ntmps55
    go_wp2_with fail
    obtain ⟨w0, hw0, hS0⟩ := keyed_by w key H g hF
    rw [hw0]
    have HS0 := Lib.hid hS0
    clear hw0 hS0
    go_wp2_with fail
    go_region_held3 (fun w' => w'.cell? ⟨w.heap.size, 2, none⟩ = some (.string H) ∧ w.heap.size < w'.heap.size ∧ Below w.heap.size w w' ∧ Fal w') (first | exact gkp (by assumption) (by assumption) | exact ⟨HS0.out.1, HS0.out.2.1, HS0.out.2.2.1.drew, HS0.out.2.2.2⟩)
      (first
        | (go_at_call 58; refine (gfilled_any iv _ (by omega)).mono ?_; rintro e wx ⟨x, rfl, hx, hbx⟩; have HX := Lib.hid hx; have HXS : Hid (x.size < iv.size + 16) := (by show _ < _; rw [← tl_size, hx]; exact HW.out.2.2); clear hx)
        | (go_at_call 59; have hyy := HYS.out; refine (gbits_any iv _ (by omega)).mono ?_; rintro e wz ⟨z, rfl, hz, hbz⟩; have HZ := Lib.hid hz; have HZS : Hid (z.size = 8) := (by show _ = _; rw [← tl_size, hz, bitsL_length]); clear hz hyy; have z2 : ¬ 9223372036854775807 < x.size + y.size + z.size := (by have := HXS.out; have := HYS.out; have := HZS.out; omega))
        | (go_at_call 59; refine (gbits_any (ByteArray.mk #[]) _ (by decide)).mono ?_; rintro e wy ⟨y, rfl, hy, hby⟩; have HY := Lib.hid hy; have HYS : Hid (y.size = 8) := (by show _ = _; rw [← tl_size, hy, bitsL_length]); clear hy; have z1 : ¬ 9223372036854775807 < x.size + y.size := (by have := HXS.out; have := HYS.out; omega))
        | (go_at_call 17; refine (gsumk H (x ++ y ++ z) HHS.out (by rw [tl_append, tl_append, HX.out, HY.out, HZ.out, List.length_append, List.length_append, bitsL_length, bitsL_length]; have := HW.out; omega) (by rw [tl_append, tl_append, HX.out, HY.out, HZ.out, List.length_append, List.length_append, bitsL_length, bitsL_length]; have := HW.out; omega) _ (gkf (by assumption))).mono ?_; rintro e wt ⟨t, rfl, ht, hbt⟩; have HT : Hid (t.toList = gcFirst key.toList iv.toList) := (by show _ = _; rw [ht, tl_append, tl_append, HX.out, HY.out, HZ.out, HR.out]; rfl); clear ht))
    all_goals
      have hbF : Below w.heap.size w wt := gkb (by assumption)
      clear z1 z2 hbx hby hbz hbt
      go_wp2_with fail
      go_ret
      exact ⟨_, rfl, HT.out, hbF⟩
end Go.Proofs.YtkedoiikkjeadaaDoor
namespace Go.Proofs.YtkedoiikkjeadaaDoor
open Go.RowKit
set_option linter.unusedVariables false
set_option linter.unusedSimpArgs false
def RetZg (c : Int) (w : World) (e : Ending) (w' : World) : Prop := e = .returned (.tuple #[.agg #[.string (ByteArray.mk #[]), .pointer none, .string (ByteArray.mk #[]), .string (ByteArray.mk #[]), .int .i64 0], .int .i64 c]) ∧ Below w.heap.size w w'
/-- what the program makes of a key and an IV -/
def RetBg (K V : ByteArray) (m : Nat) (w : World) (e : Ending) (w' : World) : Prop := ∃ (g : Nat) (H f : ByteArray), w.heap.size ≤ g ∧ e = .returned (.tuple #[.agg #[.string K, .pointer (some ⟨g, 0, none⟩), .string H, .string f, .int .i64 (m : Int)], .int .i64 0]) ∧ H.toList = gcH K.toList ∧ f.toList = gcFirst K.toList V.toList ∧ Ciq w' g K.toList ∧ Below w.heap.size w w'
theorem info5c (a b c d e : Value) : (Tryd.prog.info? 61).map (·.size) = some ([a, b, c, d, e] : List Value).length := by kernel_rfl
theorem five {w : World} {g : Nat} {a b c d e : Value} (h : At w g 0 [a, b, c, d, e]) :
    w.cell? ⟨g, 0, none⟩ = some a ∧ w.cell? ⟨g, 1, none⟩ = some b ∧ w.cell? ⟨g, 2, none⟩ = some c ∧ w.cell? ⟨g, 3, none⟩ = some d ∧ w.cell? ⟨g, 4, none⟩ = some e :=
  ⟨h.cell 0 _ rfl, h.cell 1 _ rfl, h.cell 2 _ rfl, h.cell 3 _ rfl, h.cell 4 _ rfl⟩
theorem fiveF {w : World} {g : Nat} {a b c d e : Value} (h : At w g 0 [a, b, c, d, e]) :
    w.frozen? ⟨g, 0, none⟩ = false ∧ w.frozen? ⟨g, 1, none⟩ = false ∧ w.frozen? ⟨g, 2, none⟩ = false ∧ w.frozen? ⟨g, 3, none⟩ = false ∧ w.frozen? ⟨g, 4, none⟩ = false := by
  have h0 := h.froz 0 (by simp)
  have h1 := h.froz 1 (by simp)
  have h2 := h.froz 2 (by simp)
  have h3 := h.froz 3 (by simp)
  have h4 := h.froz 4 (by simp)
  rw [Nat.zero_add] at h0 h1 h2 h3 h4
  exact ⟨h0, h1, h2, h3, h4⟩
theorem fiveS {w : World} {g : Nat} {a b c d e : Value} (h : At w g 0 [a, b, c, d, e]) (a' b' c' d' e' : Value) : At (((((w.setCell ⟨g, 0, none⟩ a').setCell ⟨g, 1, none⟩ b').setCell ⟨g, 2, none⟩ c').setCell ⟨g, 3, none⟩ d').setCell ⟨g, 4, none⟩ e') g 0 [a', b', c', d', e'] := by
  have h5 := ((((h.set 0 a').set 1 b').set 2 c').set 3 d').set 4 e'
  rw [Nat.zero_add, Nat.zero_add, Nat.zero_add, Nat.zero_add, Nat.zero_add] at h5
  exact h5
theorem fiveB {w0 w : World} {B g : Nat} (h : Below B w0 w) (hg : B ≤ g) (a' b' c' d' e' : Value) : Below B w0 (((((w.setCell ⟨g, 0, none⟩ a').setCell ⟨g, 1, none⟩ b').setCell ⟨g, 2, none⟩ c').setCell ⟨g, 3, none⟩ d').setCell ⟨g, 4, none⟩ e') :=
  ((((h.setCell (p := ⟨g, 0, none⟩) hg a').setCell (p := ⟨g, 1, none⟩) hg b').setCell (p := ⟨g, 2, none⟩) hg c').setCell (p := ⟨g, 3, none⟩) hg d').setCell (p := ⟨g, 4, none⟩) hg e'
theorem fiveO {w : World} {g b o : Nat} {cs : List Value} (h : At w g o cs) (hb : b ≠ g) (a' b' c' d' e' : Value) : At (((((w.setCell ⟨b, 0, none⟩ a').setCell ⟨b, 1, none⟩ b').setCell ⟨b, 2, none⟩ c').setCell ⟨b, 3, none⟩ d').setCell ⟨b, 4, none⟩ e') g o cs :=
  ((((h.other b 0 a' (.inl hb)).other b 1 b' (.inl hb)).other b 2 c' (.inl hb)).other b 3 d' (.inl hb)).other b 4 e' (.inl hb)
theorem Ciq.apart {w : World} {g b : Nat} {K : List UInt8} {s : ByteArray} (h : Ciq w g K) (hA : w.cell? ⟨b, 0, none⟩ = some (.string s)) : ∀ gw, At w gw 0 (wcells (expW K)) → b ≠ gw := fun gw hW he => by
  subst he
  have hl : 0 < (expW K).length := by have := expW_length K; rw [this]; omega
  have := hW.cell 0 _ (wcells_get _ 0 hl)
  rw [Nat.zero_add, hA] at this
  cases this
theorem Ciq.five {w : World} {g b : Nat} {K : List UInt8} {s : ByteArray} (h : Ciq w g K) (hb : b ≠ g) (hA : w.cell? ⟨b, 0, none⟩ = some (.string s)) (a' b' c' d' e' : Value) : Ciq (((((w.setCell ⟨b, 0, none⟩ a').setCell ⟨b, 1, none⟩ b').setCell ⟨b, 2, none⟩ c').setCell ⟨b, 3, none⟩ d').setCell ⟨b, 4, none⟩ e') g K := by
  have hn := h.apart hA
  obtain ⟨⟨gw, cap, hlt, h0, h1, h2, h3⟩, hf, hk⟩ := h
  refine ⟨⟨gw, cap, hlt, fiveO h0 hb _ _ _ _ _, fiveO h1 (hn gw h1) _ _ _ _ _, fiveO h2 hb _ _ _ _ _, fiveO h3 hb _ _ _ _ _⟩, ?_, hk⟩
  rcases hf with hf | hf
  · exact .inl ⟨fiveO hf.1 hb _ _ _ _ _, fiveO hf.2.1 hb _ _ _ _ _, fiveO hf.2.2 hb _ _ _ _ _⟩
  · exact .inr ⟨fiveO hf.1 hb _ _ _ _ _, fiveO hf.2.1 hb _ _ _ _ _, fiveO hf.2.2 hb _ _ _ _ _⟩
theorem zs_by (w : World) : ∃ w0, w.alloc (Obj.cells #[.string (ByteArray.mk #[]), .pointer none, .string (ByteArray.mk #[]), .string (ByteArray.mk #[]), .int .i64 0] 61) = w0 ∧ At w0 w.heap.size 0 [.string (ByteArray.mk #[]), .pointer none, .string (ByteArray.mk #[]), .string (ByteArray.mk #[]), .int .i64 0] ∧ Below w.heap.size w w0 ∧ w.heap.size < w0.heap.size :=
  ⟨_, rfl, At.ofAlloc w #[.string (ByteArray.mk #[]), .pointer none, .string (ByteArray.mk #[]), .string (ByteArray.mk #[]), .int .i64 0] 61, (Below.refl _ _).alloc (Nat.le_refl _) _, by simp⟩
set_option maxRecDepth 100000 in
set_option maxHeartbeats 3200000 in
theorem gbegin_key (key iv aad : ByteArray) (s : Int) (w : World) (h1 : key.size ≠ 16) (h2 : key.size ≠ 24) (h3 : key.size ≠ 32) : Calls Tryd.prog 37 #[.string key, .string iv, .string aad, .int .i64 s] w (RetZg 3 w) := by
  go_enter Tryd.func37, Tryd.ntmps37
  go_wp2_with fail
  refine (new_bad key _ h1 h2 h3).mono ?_
  rintro e w1 ⟨rfl, rfl⟩
  clear h1 h2 h3
  go_wp2_with fail
  refine bodyPost_ret (results_at_two rfl _ w.heap.size _ _ rfl (At.ofAlloc w #[.string (ByteArray.mk #[]), .pointer none, .string (ByteArray.mk #[]), .string (ByteArray.mk #[]), .int .i64 0] 61) Tryd.underlying61 rfl (info5c _ _ _ _ _) _ rfl) rfl ?_
  exact ⟨rfl, (Below.refl _ _).alloc (Nat.le_refl _) _⟩
set_option maxRecDepth 100000 in
set_option maxHeartbeats 3200000 in
theorem gbegin_iv0 (key iv aad : ByteArray) (s : Int) (w : World) (hk : key.size = 16 ∨ key.size = 24 ∨ key.size = 32) (h1 : iv.size = 0) : Calls Tryd.prog 37 #[.string key, .string iv, .string aad, .int .i64 s] w (RetZg 4 w) := by
  have e1 : ((iv.size : Int) == 0) = true := by rw [beq_iff_eq]; omega
  clear h1
  go_enter Tryd.func37, Tryd.ntmps37
  go_wp2_with fail
  obtain ⟨w0, hw0, hA0, hb0, hs0⟩ := zs_by w
  rw [hw0]
  refine (new_q key _ hk).mono ?_
  rintro e w1 ⟨g, hg, rfl, hQ, hb1⟩
  have hA1 := hA0.below hb1 hs0
  have hb01 := hb0.trans (hb1.mono hb0.size)
  obtain ⟨c0, c1, c2, c3, c4⟩ := five hA1
  obtain ⟨f0, f1, f2, f3, f4⟩ := fiveF hA1
  have HA1 := Lib.hid hA1
  clear hw0 hA0 hb0 hs0 hA1 hQ hb1 hg hk
  go_wp2_with fail
  refine bodyPost_ret (results_at_two rfl _ w.heap.size _ _ rfl (fiveS HA1.out _ _ _ _ _) Tryd.underlying61 rfl (info5c _ _ _ _ _) _ rfl) rfl ?_
  exact ⟨rfl, fiveB hb01 (Nat.le_refl _) _ _ _ _ _⟩
set_option maxRecDepth 100000 in
set_option maxHeartbeats 3200000 in
theorem gbegin_iv1 (key iv aad : ByteArray) (s : Int) (w : World) (hk : key.size = 16 ∨ key.size = 24 ∨ key.size = 32) (h1 : 1024 < iv.size) : Calls Tryd.prog 37 #[.string key, .string iv, .string aad, .int .i64 s] w (RetZg 4 w) := by
  have e1 : ((iv.size : Int) == 0) = false := by rw [beq_eq_false_iff_ne]; omega
  have e2 : (1024 : Int) < (iv.size : Int) := by omega
  clear h1
  go_enter Tryd.func37, Tryd.ntmps37
  go_wp2_with fail
  obtain ⟨w0, hw0, hA0, hb0, hs0⟩ := zs_by w
  rw [hw0]
  refine (new_q key _ hk).mono ?_
  rintro e w1 ⟨g, hg, rfl, hQ, hb1⟩
  have hA1 := hA0.below hb1 hs0
  have hb01 := hb0.trans (hb1.mono hb0.size)
  obtain ⟨c0, c1, c2, c3, c4⟩ := five hA1
  obtain ⟨f0, f1, f2, f3, f4⟩ := fiveF hA1
  have HA1 := Lib.hid hA1
  clear hw0 hA0 hb0 hs0 hA1 hQ hb1 hg hk
  go_wp2_with fail
  refine bodyPost_ret (results_at_two rfl _ w.heap.size _ _ rfl (fiveS HA1.out _ _ _ _ _) Tryd.underlying61 rfl (info5c _ _ _ _ _) _ rfl) rfl ?_
  exact ⟨rfl, fiveB hb01 (Nat.le_refl _) _ _ _ _ _⟩
set_option maxRecDepth 100000 in
set_option maxHeartbeats 3200000 in
theorem gbegin_s0 (key iv aad : ByteArray) (s : Int) (w : World) (hk : key.size = 16 ∨ key.size = 24 ∨ key.size = 32) (h1 : iv.size ≠ 0) (h2 : iv.size ≤ 1024) (h3 : s < 12) : Calls Tryd.prog 37 #[.string key, .string iv, .string aad, .int .i64 s] w (RetZg 5 w) := by
  have e1 : ((iv.size : Int) == 0) = false := by rw [beq_eq_false_iff_ne]; omega
  have e2 : ¬ (1024 : Int) < (iv.size : Int) := by omega
  clear h1 h2
  go_enter Tryd.func37, Tryd.ntmps37
  go_wp2_with fail
  obtain ⟨w0, hw0, hA0, hb0, hs0⟩ := zs_by w
  rw [hw0]
  refine (new_q key _ hk).mono ?_
  rintro e w1 ⟨g, hg, rfl, hQ, hb1⟩
  have hA1 := hA0.below hb1 hs0
  have hb01 := hb0.trans (hb1.mono hb0.size)
  obtain ⟨c0, c1, c2, c3, c4⟩ := five hA1
  obtain ⟨f0, f1, f2, f3, f4⟩ := fiveF hA1
  have HA1 := Lib.hid hA1
  clear hw0 hA0 hb0 hs0 hA1 hQ hb1 hg hk
  go_wp2_with fail
  refine bodyPost_ret (results_at_two rfl _ w.heap.size _ _ rfl (fiveS HA1.out _ _ _ _ _) Tryd.underlying61 rfl (info5c _ _ _ _ _) _ rfl) rfl ?_
  exact ⟨rfl, fiveB hb01 (Nat.le_refl _) _ _ _ _ _⟩
set_option maxRecDepth 100000 in
set_option maxHeartbeats 3200000 in
theorem gbegin_s1 (key iv aad : ByteArray) (s : Int) (w : World) (hk : key.size = 16 ∨ key.size = 24 ∨ key.size = 32) (h1 : iv.size ≠ 0) (h2 : iv.size ≤ 1024) (h3 : 16 < s) : Calls Tryd.prog 37 #[.string key, .string iv, .string aad, .int .i64 s] w (RetZg 5 w) := by
  have e1 : ((iv.size : Int) == 0) = false := by rw [beq_eq_false_iff_ne]; omega
  have e2 : ¬ (1024 : Int) < (iv.size : Int) := by omega
  have e3 : ¬ s < 12 := by omega
  clear h1 h2
  go_enter Tryd.func37, Tryd.ntmps37
  go_wp2_with fail
  obtain ⟨w0, hw0, hA0, hb0, hs0⟩ := zs_by w
  rw [hw0]
  refine (new_q key _ hk).mono ?_
  rintro e w1 ⟨g, hg, rfl, hQ, hb1⟩
  have hA1 := hA0.below hb1 hs0
  have hb01 := hb0.trans (hb1.mono hb0.size)
  obtain ⟨c0, c1, c2, c3, c4⟩ := five hA1
  obtain ⟨f0, f1, f2, f3, f4⟩ := fiveF hA1
  have HA1 := Lib.hid hA1
  clear hw0 hA0 hb0 hs0 hA1 hQ hb1 hg hk
  go_wp2_with fail
  refine bodyPost_ret (results_at_two rfl _ w.heap.size _ _ rfl (fiveS HA1.out _ _ _ _ _) Tryd.underlying61 rfl (info5c _ _ _ _ _) _ rfl) rfl ?_
  exact ⟨rfl, fiveB hb01 (Nat.le_refl _) _ _ _ _ _⟩
set_option maxRecDepth 100000 in
set_option maxHeartbeats 3200000 in
theorem gbegin_aad (key iv aad : ByteArray) (s : Int) (w : World) (hk : key.size = 16 ∨ key.size = 24 ∨ key.size = 32) (h1 : iv.size ≠ 0) (h2 : iv.size ≤ 1024) (h3 : 12 ≤ s) (h4 : s ≤ 16) (h5 : 70000 < aad.size) : Calls Tryd.prog 37 #[.string key, .string iv, .string aad, .int .i64 s] w (RetZg 6 w) := by
  have e1 : ((iv.size : Int) == 0) = false := by rw [beq_eq_false_iff_ne]; omega
  have e2 : ¬ (1024 : Int) < (iv.size : Int) := by omega
  have e3 : ¬ s < 12 := by omega
  have e4 : ¬ 16 < s := by omega
  have e5 : (70000 : Int) < (aad.size : Int) := by omega
  clear h1 h2 h3 h4 h5
  go_enter Tryd.func37, Tryd.ntmps37
  go_wp2_with fail
  obtain ⟨w0, hw0, hA0, hb0, hs0⟩ := zs_by w
  rw [hw0]
  refine (new_q key _ hk).mono ?_
  rintro e w1 ⟨g, hg, rfl, hQ, hb1⟩
  have hA1 := hA0.below hb1 hs0
  have hb01 := hb0.trans (hb1.mono hb0.size)
  obtain ⟨c0, c1, c2, c3, c4⟩ := five hA1
  obtain ⟨f0, f1, f2, f3, f4⟩ := fiveF hA1
  have HA1 := Lib.hid hA1
  clear hw0 hA0 hb0 hs0 hA1 hQ hb1 hg hk
  go_wp2_with fail
  refine bodyPost_ret (results_at_two rfl _ w.heap.size _ _ rfl (fiveS HA1.out _ _ _ _ _) Tryd.underlying61 rfl (info5c _ _ _ _ _) _ rfl) rfl ?_
  exact ⟨rfl, fiveB hb01 (Nat.le_refl _) _ _ _ _ _⟩
theorem gbegin_no (key iv aad : ByteArray) (s c : Int) (w : World) (hc : gcE key.size iv.size aad.size s = c) (h0 : c ≠ 0) : Calls Tryd.prog 37 #[.string key, .string iv, .string aad, .int .i64 s] w (RetZg c w) := by
  rcases key_cases key with hk | ⟨h1, h2, h3⟩
  · rw [gcE, if_pos (keyOk_yes hk)] at hc
    by_cases hv0 : iv.size = 0
    · rw [if_pos (.inl hv0)] at hc
      subst hc
      exact gbegin_iv0 key iv aad s w hk hv0
    · by_cases hv1 : 1024 < iv.size
      · rw [if_pos (.inr hv1)] at hc
        subst hc
        exact gbegin_iv1 key iv aad s w hk hv1
      · rw [if_neg (by omega)] at hc
        by_cases hs0 : s < 12
        · rw [if_pos (.inl hs0)] at hc
          subst hc
          exact gbegin_s0 key iv aad s w hk hv0 (by omega) hs0
        · by_cases hs1 : 16 < s
          · rw [if_pos (.inr hs1)] at hc
            subst hc
            exact gbegin_s1 key iv aad s w hk hv0 (by omega) hs1
          · rw [if_neg (by omega)] at hc
            by_cases ha : 70000 < aad.size
            · rw [if_pos ha] at hc
              subst hc
              exact gbegin_aad key iv aad s w hk hv0 (by omega) (by omega) (by omega) ha
            · rw [if_neg ha] at hc
              exact absurd hc.symm h0
  · rw [gcE, if_neg (by rw [keyOk_no h1 h2 h3]; decide)] at hc
    subst hc
    exact gbegin_key key iv aad s w h1 h2 h3
theorem sl_by (w : World) (key H : ByteArray) (g m : Nat) : ∃ w0, w.alloc (Obj.cells #[.string key, .pointer (some ⟨g, 0, none⟩), .string H, .string (ByteArray.mk #[]), .int .i64 (m : Int)] 61) = w0 ∧ At w0 w.heap.size 0 [.string key, .pointer (some ⟨g, 0, none⟩), .string H, .string (ByteArray.mk #[]), .int .i64 (m : Int)] ∧ Below w.heap.size w w0 ∧ w0.heap.size = w.heap.size + 1 :=
  ⟨_, rfl, At.ofAlloc w #[.string key, .pointer (some ⟨g, 0, none⟩), .string H, .string (ByteArray.mk #[]), .int .i64 (m : Int)] 61, (Below.refl _ _).alloc (Nat.le_refl _) _, by simp⟩
set_option maxRecDepth 100000 in
set_option maxHeartbeats 3200000 in
theorem gbegin_ok (key iv aad : ByteArray) (m : Nat) (w : World) (hF : Fal w) (hk : key.size = 16 ∨ key.size = 24 ∨ key.size = 32) (h1 : iv.size ≠ 0) (h2 : iv.size ≤ 1024) (h3 : 12 ≤ m) (h4 : m ≤ 16) (h5 : aad.size ≤ 70000) : Calls Tryd.prog 37 #[.string key, .string iv, .string aad, .int .i64 (m : Int)] w (RetBg key iv m w) := by
  have e1 : ((iv.size : Int) == 0) = false := by rw [beq_eq_false_iff_ne]; omega
  have e2 : ¬ (1024 : Int) < (iv.size : Int) := by omega
  have e3 : ¬ (m : Int) < 12 := by omega
  have e4 : ¬ (16 : Int) < (m : Int) := by omega
  have e5 : ¬ (70000 : Int) < (aad.size : Int) := by omega
  have HF := Lib.hid hF
  clear hF
  go_enter Tryd.func37, Tryd.ntmps37
  go_wp2_with fail
  obtain ⟨w0, hw0, hA0, hb0, hs0⟩ := zs_by w
  rw [hw0]
  refine (new_q key _ hk).mono ?_
  rintro e w1 ⟨g, hg, rfl, hQ, hb1⟩
  have HA1 := Lib.hid (hA0.below hb1 hs0)
  have hb01 := hb0.trans (hb1.mono hb0.size)
  have hlt1 : w.heap.size < w1.heap.size := Nat.lt_of_lt_of_le hs0 hb1.size
  have hgw : w0.heap.size ≤ g := hg
  have HG : Hid (w.heap.size < g) := Lib.hid (Nat.lt_of_lt_of_le hs0 hgw)
  have HQ1 := Lib.hid hQ
  clear hw0 hA0 hb0 hs0 hQ hb1 hg hgw
  go_wp2_with fail
  refine (rep_any (ByteArray.mk #[0]) 0 16 _ nought_tl (by decide)).mono ?_
  rintro e w2 ⟨z, rfl, hz, hb2⟩
  have hzs : z.size = 16 := by rw [← tl_size, hz]; rfl
  have HQ2 := Lib.hid (HQ1.out.below hb2 HQ1.out.lt)
  have HZ : Hid (z.toList = zer 16) := hz
  have HA2 := Lib.hid (HA1.out.below hb2 hlt1)
  have hb02 := hb01.trans (hb2.mono hb01.size)
  have hlt2 : w.heap.size < w2.heap.size := Nat.lt_of_lt_of_le hlt1 hb2.size
  clear hz hb2 HA1 hb01 hlt1
  go_wp2_with fail
  refine (enc_q z _ g _ HQ2.out hzs).mono ?_
  rintro e w3 ⟨H, rfl, hH, hQ3, hb3⟩
  have HH : Hid (H.toList = gcH key.toList) := by show _ = _; rw [hH, HZ.out]; rfl
  have HA3 := Lib.hid (HA2.out.below hb3 hlt2)
  have hb03 := hb02.trans (hb3.mono hb02.size)
  have hlt3 : w.heap.size < w3.heap.size := Nat.lt_of_lt_of_le hlt2 hb3.size
  have HQ3 := Lib.hid hQ3
  clear hH hb3 HA2 hb02 hlt2 hQ3 hzs HQ1 HQ2
  go_wp2_with fail
  obtain ⟨w4, hw4, hB4, hb4, hs4⟩ := sl_by w3 key H g m
  rw [hw4]
  have HA4 := Lib.hid (HA3.out.below hb4 hlt3)
  have HQ4 := Lib.hid (HQ3.out.below hb4 HQ3.out.lt)
  have HGL : Hid (g < w3.heap.size) := Lib.hid HQ3.out.lt
  have hb04 := hb03.trans (hb4.mono hb03.size)
  have HB4 := Lib.hid hB4
  have HF4 := Lib.hid (HF.out.below hb04 HF.out.2)
  obtain ⟨c0, c1, c2, c3, c4⟩ := five hB4
  clear hw4 hB4 hb4 HA3 HQ3 hb03
  go_wp2_with fail
  refine (gcounter_any key H iv g _ HF4.out HH.out h2).mono ?_
  rintro e w5 ⟨f, rfl, hf, hb5⟩
  clear c0 c1 c2 c3 c4
  have HB5 := Lib.hid (HB4.out.below hb5 (by omega))
  have HA5 := Lib.hid (HA4.out.below hb5 (by omega))
  have HQ5 := Lib.hid (HQ4.out.below hb5 HQ4.out.lt)
  have hb05 := hb04.trans (hb5.mono hb04.size)
  have HFF := Lib.hid hf
  obtain ⟨c0, c1, c2, c3, c4⟩ := five HB5.out
  obtain ⟨f0, f1, f2, f3, f4⟩ := fiveF HB5.out
  obtain ⟨d0, d1, d2, d3, d4⟩ := five HA5.out
  obtain ⟨g0, g1, g2, g3, g4⟩ := fiveF HA5.out
  have HL3 := Lib.hid hlt3
  have hne : w3.heap.size ≠ w.heap.size := by omega
  clear hf hb5 hb04 HB4 HA4 HQ4 hlt3 hs4 HF4
  go_wp2_with fail
  have hA6 := HA5.out.other (w3.heap.size) 3 (.string f) (.inl (by have := HL3.out; omega))
  have hb06 := hb05.setCell (p := ⟨w3.heap.size, 3, none⟩) (by have := HL3.out; show w.heap.size ≤ w3.heap.size; omega) (.string f)
  have hb56 : Below w3.heap.size w5 (w5.setCell ⟨w3.heap.size, 3, none⟩ (.string f)) := (Below.refl _ _).setCell (p := ⟨w3.heap.size, 3, none⟩) (Nat.le_refl _) _
  refine bodyPost_ret (results_at_two rfl _ w.heap.size _ _ rfl (fiveS hA6 _ _ _ _ _) Tryd.underlying61 rfl (info5c _ _ _ _ _) _ rfl) rfl ?_
  refine ⟨g, H, f, Nat.le_of_lt HG.out, rfl, HH.out, HFF.out, ?_, fiveB hb06 (Nat.le_refl _) _ _ _ _ _⟩
  have hQ6 := HQ5.out.below hb56 HGL.out
  exact hQ6.five (by have := HG.out; omega) (hA6.cell 0 _ rfl) _ _ _ _ _
end Go.Proofs.YtkedoiikkjeadaaDoor
namespace Go.Proofs.YtkedoiikkjeadaaDoor
open Go.RowKit
set_option linter.unusedVariables false
set_option linter.unusedSimpArgs false
theorem gkq {w wa wb : World} {B o : Nat} {v : Value} (hb : Below wa.heap.size wa wb) (hS : wa.cell? ⟨B, o, none⟩ = some v ∧ B < wa.heap.size ∧ Below w.heap.size w wa ∧ Fal wa) :
    wb.cell? ⟨B, o, none⟩ = some v ∧ B < wb.heap.size ∧ Below w.heap.size w wb ∧ Fal wb :=
  ⟨(hb.cell (p := ⟨B, o, none⟩) hS.2.1).trans hS.1, Nat.lt_of_lt_of_le hS.2.1 hb.size, hS.2.2.1.trans (hb.mono hS.2.2.1.size), hS.2.2.2.below hb hS.2.2.2.2⟩
theorem gkqb {w wa : World} {B o : Nat} {v : Value} (hS : wa.cell? ⟨B, o, none⟩ = some v ∧ B < wa.heap.size ∧ Below w.heap.size w wa ∧ Fal wa) : Below w.heap.size w wa := hS.2.2.1
theorem seal_by (w : World) (key H f : ByteArray) (g m : Nat) : ∃ w0, w.alloc (Obj.cells #[.string key, .pointer (some ⟨g, 0, none⟩), .string H, .string f, .int .i64 (m : Int)] 61) = w0 ∧ At w0 w.heap.size 0 [.string key, .pointer (some ⟨g, 0, none⟩), .string H, .string f, .int .i64 (m : Int)] ∧ Below w.heap.size w w0 ∧ w.heap.size < w0.heap.size :=
  ⟨_, rfl, At.ofAlloc w #[.string key, .pointer (some ⟨g, 0, none⟩), .string H, .string f, .int .i64 (m : Int)] 61, (Below.refl _ _).alloc (Nat.le_refl _) _, by simp⟩
set_option maxRecDepth 100000 in
set_option maxHeartbeats 6400000 in
theorem gctag_any (key H f V aad cipher : ByteArray) (g m : Nat) (w : World) (hF : Fal w) (hQ : Ciq w g key.toList) (hH : H.toList = gcH key.toList) (hf : f.toList = gcFirst key.toList V.toList) (hm : m ≤ 16) (ha : aad.size ≤ 70000) (hc : cipher.size ≤ 70000) :
    Calls Tryd.prog 39 #[.agg #[.string key, .pointer (some ⟨g, 0, none⟩), .string H, .string f, .int .i64 (m : Int)], .string aad, .string cipher] w (RetS (gcTag key.toList V.toList aad.toList cipher.toList m) w) := by
  have hHs : H.size = 16 := by rw [← tl_size, hH, gcH_length]
  have hfs : f.size = 16 := by rw [← tl_size, hf, gcFirst_length]
  have hwa := filM_w aad.toList
  have hwc := filM_w cipher.toList
  rw [tl_size] at hwa hwc
  have HWA := Lib.hid hwa
  have HWC := Lib.hid hwc
  have HHS := Lib.hid hHs
  have HFS := Lib.hid hfs
  have HH := Lib.hid hH
  have HFI := Lib.hid hf
  have HQ := Lib.hid hQ
  have HF := Lib.hid hF
  have k0 : (0 : Int) ≤ (m : Int) := by omega
  clear hHs hfs hwa hwc hH hf hQ hF
  go_enter Tryd.func39, Tryd.ntmps39
  go_wp2_with fail
  obtain ⟨w0, hw0, hA0, hb0, hs0⟩ := seal_by w key H f g m
  rw [hw0]
  have HA0 := Lib.hid hA0
  have HB0 := Lib.hid hb0
  have HS0 := Lib.hid (And.intro hs0 (HF.out.below hb0 HF.out.2))
  have HQ0 := Lib.hid (HQ.out.below hb0 HQ.out.lt)
  clear hw0 hA0 hb0 hs0
  go_wp2_with fail
  go_region_held3 (fun w' => w'.cell? ⟨w.heap.size, 2, none⟩ = some (.string H) ∧ w.heap.size < w'.heap.size ∧ Below w0.heap.size w0 w' ∧ Fal w') (first | exact gkq (by assumption) (by assumption) | exact ⟨(five HA0.out).2.2.1, HS0.out.1, (Below.refl _ _).drew, HS0.out.2⟩)
    (first
      | (go_at_call 58; have hxx := HXS.out; refine (gfilled_any cipher _ (by omega)).mono ?_; rintro e wy ⟨y, rfl, hy, hby⟩; have HY := Lib.hid hy; have HYS : Hid (y.size < cipher.size + 16) := (by show _ < _; rw [← tl_size, hy]; exact HWC.out.2.2); clear hy hxx; have z1 : ¬ 9223372036854775807 < x.size + y.size := (by have := HXS.out; have := HYS.out; omega))
      | (go_at_call 58; refine (gfilled_any aad _ (by omega)).mono ?_; rintro e wx ⟨x, rfl, hx, hbx⟩; have HX := Lib.hid hx; have HXS : Hid (x.size < aad.size + 16) := (by show _ < _; rw [← tl_size, hx]; exact HWA.out.2.2); clear hx)
      | (go_at_call 59; have hxx := HUS.out; refine (gbits_any cipher _ (by omega)).mono ?_; rintro e wv ⟨v, rfl, hv, hbv⟩; have HV := Lib.hid hv; have HVS : Hid (v.size = 8) := (by show _ = _; rw [← tl_size, hv, bitsL_length]); clear hv hxx; have z3 : ¬ 9223372036854775807 < x.size + y.size + u.size + v.size := (by have := HXS.out; have := HYS.out; have := HUS.out; have := HVS.out; omega))
      | (go_at_call 59; refine (gbits_any aad _ (by omega)).mono ?_; rintro e wu ⟨u, rfl, hu, hbu⟩; have HU := Lib.hid hu; have HUS : Hid (u.size = 8) := (by show _ = _; rw [← tl_size, hu, bitsL_length]); clear hu; have z2 : ¬ 9223372036854775807 < x.size + y.size + u.size := (by have := HXS.out; have := HYS.out; have := HUS.out; omega))
      | (go_at_call 17; have hall : (x ++ y ++ u ++ v).toList = gcAll aad.toList cipher.toList := (by rw [tl_append, tl_append, tl_append, HX.out, HY.out, HU.out, HV.out, gcAll, tl_size, tl_size]); have hal := gcAll_length aad.toList cipher.toList; rw [tl_size, tl_size] at hal; refine (gsumk H (x ++ y ++ u ++ v) HHS.out (by rw [hall]; exact hal.1) (by rw [hall]; omega) _ (gkf (by assumption))).mono ?_; rintro e wt ⟨t, rfl, ht, hbt⟩; have HT : Hid (t.toList = gsL (gcH key.toList) (gcAll aad.toList cipher.toList)) := (by show _ = _; rw [ht, hall, HH.out]); have HTS : Hid (t.size = 16) := (by show _ = _; rw [← tl_size, ht, gsL_length]); clear ht hall hal))
  all_goals
    have hbt0 : Below w0.heap.size w0 wt := gkqb (by assumption)
    have HAt := Lib.hid (HA0.out.below hbt0 HS0.out.1)
    have HQt := Lib.hid (HQ0.out.below hbt0 HQ0.out.lt)
    obtain ⟨c0, c1, c2, c3, c4⟩ := five HAt.out
    have HSt : Hid (w.heap.size < wt.heap.size) := Lib.hid (Nat.lt_of_lt_of_le HS0.out.1 hbt0.size)
    have HFt := Lib.hid (HS0.out.2.below hbt0 HS0.out.2.2)
    have hbwt : Below w.heap.size w wt := HB0.out.trans (hbt0.mono HB0.out.size)
    clear z1 z2 z3 hbx hby hbu hbv hbt hbt0
    go_wp2_with fail
    refine (enc_q f _ g _ HQt.out HFS.out).mono ?_
    rintro e w5 ⟨c, rfl, hcc, hQ5, hb5⟩
    have HC : Hid (c.toList = encL key.toList (gcFirst key.toList V.toList)) := by show _ = _; rw [hcc, HFI.out]
    have HCS : Hid (c.size = 16) := by show _ = _; rw [← tl_size, hcc, encL_length]
    have HA5 := Lib.hid (HAt.out.below hb5 HSt.out)
    have HS5 := Lib.hid (And.intro (Nat.lt_of_lt_of_le HSt.out hb5.size) (HFt.out.below hb5 HFt.out.2))
    have hb05 := hbwt.trans (hb5.mono hbwt.size)
    clear c0 c1 c2 c3 c4 hcc hQ5 hb5 hbwt
    go_wp2_with fail
    go_region_held3 (fun w' => w'.cell? ⟨w.heap.size, 4, none⟩ = some (.int .i64 (m : Int)) ∧ w.heap.size < w'.heap.size ∧ Below w5.heap.size w5 w' ∧ Fal w') (first | exact gkq (by assumption) (by assumption) | exact ⟨(five HA5.out).2.2.2.2, HS5.out.1, (Below.refl _ _).drew, HS5.out.2⟩)
      (first
        | (go_at_call 60; refine (xor_any t c _ (by rw [HTS.out]; decide) (by rw [HCS.out]; decide)).mono ?_; rintro e w6 ⟨q, rfl, hq, hb6⟩; have hqs : q.size = 16 := (by rw [← tl_size, hq, xorL_length, tl_size, tl_size, HTS.out, HCS.out]; rfl); have k1 : (m : Int) ≤ (q.size : Int) := (by omega); have k2 : m ≤ q.size := (by omega); have HQQ := Lib.hid hq; clear hq hqs))
    have hb56 : Below w5.heap.size w5 w6 := gkqb (by assumption)
    clear hb6
    go_wp2_with fail
    go_ret
    exact ⟨_, rfl, by rw [tl_ext0, HQQ.out, HT.out, HC.out, gcTag], hb05.trans (hb56.mono hb05.size)⟩
set_option maxRecDepth 100000 in
set_option maxHeartbeats 3200000 in
theorem gjoined_any (key H f V text : ByteArray) (g m : Nat) (w : World) (hf : f.toList = gcFirst key.toList V.toList) (hk : key.size = 16 ∨ key.size = 24 ∨ key.size = 32) (ht : text.size ≤ 70000) :
    Calls Tryd.prog 38 #[.agg #[.string key, .pointer (some ⟨g, 0, none⟩), .string H, .string f, .int .i64 (m : Int)], .string text] w (RetS (gcJoin key.toList V.toList text.toList) w) := by
  have hfs : f.size = 16 := by rw [← tl_size, hf, gcFirst_length]
  have hm : mayE f.size 4 = 0 := by rw [mayE, if_pos hfs, if_neg (by decide)]
  have hn : nextL f.toList 4 1 = nxt f.toList 4 1 := by rw [nextL, tl_size, hm, if_pos rfl]; rfl
  have HFS := Lib.hid hfs
  have HFI := Lib.hid hf
  have HM := Lib.hid hm
  have HN := Lib.hid hn
  have HK := Lib.hid hk
  have HTT := Lib.hid ht
  clear hfs hf hm hn hk ht
  go_enter Tryd.func38, Tryd.ntmps38
  go_wp2_with fail
  obtain ⟨w0, hw0, hA0, hb0, hs0⟩ := seal_by w key H f g m
  rw [hw0]
  obtain ⟨c0, c1, c2, c3, c4⟩ := five hA0
  refine (cnext_any f 4 1 _ (by decide)).mono ?_
  rintro e w1 ⟨x, rfl, hx, hb1⟩
  rw [HM.out]
  rw [HN.out] at hx
  have hxs : x.size = 16 := by rw [← tl_size, hx, nxt_length _ _ _ (by rw [tl_size]; exact HFS.out)]
  have hA1 := hA0.below hb1 hs0
  have hb01 := hb0.trans (hb1.mono hb0.size)
  have HX := Lib.hid hx
  have HXS := Lib.hid hxs
  clear c0 c1 c2 c3 c4 hw0 hA0 hb0 hs0 hb1 hx hxs
  obtain ⟨c0, c1, c2, c3, c4⟩ := five hA1
  clear hA1
  go_wp2_with fail
  have hm2 : mayE x.size 4 = 0 := by rw [mayE, if_pos HXS.out, if_neg (by decide)]
  have hE : ctrE key.size x.size 4 text.size = 0 := by rw [ctrE, if_pos (keyOk_yes HK.out), if_pos hm2, if_neg (by have := HTT.out; omega)]
  refine (cxor_any key x text 4 _).mono ?_
  rintro e w2 ⟨t, rfl, ht, hb2⟩
  rw [hE]
  have HT : Hid (t.toList = gcJoin key.toList V.toList text.toList) := by show _ = _; rw [ht, ctrR, tl_size, tl_size, tl_size, hE, if_pos rfl, HX.out, HFI.out]; rfl
  have hb02 := hb01.trans (hb2.mono hb01.size)
  clear hE hm2 ht hb2 c0 c1 c2 c3 c4
  go_wp2_with fail
  go_ret
  exact ⟨_, rfl, HT.out, hb02⟩
end Go.Proofs.YtkedoiikkjeadaaDoor
namespace Go.Proofs.YtkedoiikkjeadaaDoor
open Go.RowKit
set_option linter.unusedVariables false
set_option linter.unusedSimpArgs false
theorem gcTE_c {k v a n : Nat} {s c : Int} (h : gcE k v a s = c) (h0 : c ≠ 0) : gcTE k v a s n = c := by rw [gcTE, h, if_neg h0]
theorem gcOE_c {k v a n : Nat} {s c : Int} (h : gcE k v a s = c) (h0 : c ≠ 0) : gcOE k v a s n = c := by rw [gcOE, h, if_neg h0]
set_option maxRecDepth 100000 in
set_option maxHeartbeats 3200000 in
theorem gSeal_any (key iv aad text : ByteArray) (s : Int) (w : World) (hF : Fal w) : Calls Tryd.prog 21 #[.string key, .string iv, .string aad, .string text, .int .i64 s] w (RetSE (gcSealL key.toList iv.toList aad.toList text.toList s) (gcTE key.size iv.size aad.size s text.size) w) := by
  obtain ⟨c, hc⟩ : ∃ c, gcE key.size iv.size aad.size s = c := ⟨_, rfl⟩
  rw [gcSealL, tl_size, tl_size, tl_size, tl_size]
  by_cases h0 : c = 0
  · subst h0
    obtain ⟨hk, v0, v1, s0, s1, ha⟩ := gcE_zero hc
    obtain ⟨m, rfl⟩ := Int.eq_ofNat_of_zero_le (a := s) (by omega)
    by_cases ht : text.size ≤ 70000
    · have hT : gcTE key.size iv.size aad.size (m : Int) text.size = 0 := by rw [gcTE, if_pos hc, if_neg (by omega)]
      rw [hT, if_pos rfl, Int.toNat_natCast]
      have e1 : ¬ (70000 : Int) < (text.size : Int) := by omega
      have HF := Lib.hid hF
      have HM : Hid (m ≤ 16) := Lib.hid (by omega)
      have B := Lib.hid (fun w hF => gbegin_ok key iv aad m w hF hk (by omega) v1 (by omega) (by omega) ha)
      have HK := Lib.hid hk
      have HT := Lib.hid ht
      have HA := Lib.hid ha
      clear hc hF hT hk v0 v1 s0 s1 ha ht
      go_enter Tryd.func21, Tryd.ntmps21
      go_wp2_with fail
      refine (B.out _ HF.out).mono ?_
      rintro e w1 ⟨g, H, f, hg, rfl, hH, hf, hQ, hb1⟩
      have HH := Lib.hid hH
      have HFI := Lib.hid hf
      have HQ := Lib.hid hQ
      clear hH hf hQ hg
      go_wp2_with fail
      obtain ⟨w2, hw2, hA2, hb2, hs2⟩ := seal_by w1 key H f g m
      rw [hw2]
      have HQ2 := Lib.hid (HQ.out.below hb2 HQ.out.lt)
      have hb02 := below2 hb1 hb2
      obtain ⟨c0, c1, c2, c3, c4⟩ := five hA2
      have HA2 := Lib.hid hA2
      clear hw2 hb1 hb2 hA2
      go_wp2_with fail
      refine (gjoined_any key H f iv text g m _ HFI.out HK.out HT.out).mono ?_
      rintro e w3 ⟨x, rfl, hx, hb3⟩
      have hxs : x.size = text.size := by rw [← tl_size, hx, gcJoin_length, tl_size]
      have hA3 := HA2.out.below hb3 hs2
      have HQ3 := Lib.hid (HQ2.out.below hb3 HQ2.out.lt)
      have hb03 := hb02.trans (hb3.mono hb02.size)
      have HF3 := Lib.hid (HF.out.below hb03 HF.out.2)
      have HX := Lib.hid hx
      have HXS := Lib.hid hxs
      clear c0 c1 c2 c3 c4 hx hxs hb02 hb3 hs2
      obtain ⟨c0, c1, c2, c3, c4⟩ := five hA3
      clear hA3
      go_wp2_with fail
      refine (gctag_any key H f iv aad x g m _ HF3.out HQ3.out HH.out HFI.out HM.out HA.out (by rw [HXS.out]; exact HT.out)).mono ?_
      rintro e w4 ⟨y, rfl, hy, hb4⟩
      have hys : y.size = m := by rw [← tl_size, hy, gcTag_length _ _ _ _ _ HM.out]
      have hov : ¬ 9223372036854775807 < x.size + y.size := by have := HXS.out; have := HM.out; have := HT.out; omega
      have HY := Lib.hid hy
      have hb04 := hb03.trans (hb4.mono hb03.size)
      clear c0 c1 c2 c3 c4 hy hys hb03 hb4
      go_wp2_with fail
      go_ret2
      exact ret_se (tl_append _ _) (by rw [HX.out, HY.out, HX.out]) rfl hb04
    · have hT : gcTE key.size iv.size aad.size (m : Int) text.size = 6 := by rw [gcTE, if_pos hc, if_pos (by omega)]
      rw [hT, if_neg (by decide)]
      have e1 : (70000 : Int) < (text.size : Int) := by omega
      have B := Lib.hid (fun w hF => gbegin_ok key iv aad m w hF hk (by omega) v1 (by omega) (by omega) ha)
      have HF := Lib.hid hF
      clear hc hF hT hk v0 v1 s0 s1 ha ht
      go_enter Tryd.func21, Tryd.ntmps21
      go_wp2_with fail
      refine (B.out _ HF.out).mono ?_
      rintro e w1 ⟨g, H, f, hg, rfl, hH, hf, hQ, hb1⟩
      clear hH hf hQ hg
      go_wp2_with fail
      go_ret2
      exact ret_se (tl_mk []) rfl rfl (hb1.alloc hb1.size _)
  · rw [gcTE_c hc h0, if_neg h0]
    have e1 : (c == 0) = false := by rw [beq_eq_false_iff_ne]; exact h0
    have e2 : (c != 0) = true := by rw [bne_iff_ne]; exact h0
    have B := Lib.hid (fun w => gbegin_no key iv aad s c w hc h0)
    clear hc hF h0
    go_enter Tryd.func21, Tryd.ntmps21
    go_wp2_with fail
    refine (B.out _).mono ?_
    rintro e w1 ⟨rfl, hb1⟩
    go_wp2_with fail
    go_ret2
    exact ret_se (tl_mk []) rfl rfl (hb1.alloc hb1.size _)
set_option maxRecDepth 100000 in
set_option maxHeartbeats 3200000 in
theorem gTag_any (key iv aad text : ByteArray) (s : Int) (w : World) (hF : Fal w) : Calls Tryd.prog 25 #[.string key, .string iv, .string aad, .string text, .int .i64 s] w (RetSE (gcTagL key.toList iv.toList aad.toList text.toList s) (gcTE key.size iv.size aad.size s text.size) w) := by
  obtain ⟨c, hc⟩ : ∃ c, gcE key.size iv.size aad.size s = c := ⟨_, rfl⟩
  rw [gcTagL, tl_size, tl_size, tl_size, tl_size]
  by_cases h0 : c = 0
  · subst h0
    obtain ⟨hk, v0, v1, s0, s1, ha⟩ := gcE_zero hc
    obtain ⟨m, rfl⟩ := Int.eq_ofNat_of_zero_le (a := s) (by omega)
    by_cases ht : text.size ≤ 70000
    · have hT : gcTE key.size iv.size aad.size (m : Int) text.size = 0 := by rw [gcTE, if_pos hc, if_neg (by omega)]
      rw [hT, if_pos rfl, Int.toNat_natCast]
      have e1 : ¬ (70000 : Int) < (text.size : Int) := by omega
      have HF := Lib.hid hF
      have HM : Hid (m ≤ 16) := Lib.hid (by omega)
      have B := Lib.hid (fun w hF => gbegin_ok key iv aad m w hF hk (by omega) v1 (by omega) (by omega) ha)
      have HT := Lib.hid ht
      have HA := Lib.hid ha
      clear hc hF hT hk v0 v1 s0 s1 ha ht
      go_enter Tryd.func25, Tryd.ntmps25
      go_wp2_with fail
      refine (B.out _ HF.out).mono ?_
      rintro e w1 ⟨g, H, f, hg, rfl, hH, hf, hQ, hb1⟩
      have HH := Lib.hid hH
      have HFI := Lib.hid hf
      have HQ := Lib.hid hQ
      clear hH hf hQ hg
      go_wp2_with fail
      obtain ⟨w2, hw2, hA2, hb2, hs2⟩ := seal_by w1 key H f g m
      rw [hw2]
      have HQ2 := Lib.hid (HQ.out.below hb2 HQ.out.lt)
      have hb02 := below2 hb1 hb2
      have HF2 := Lib.hid (HF.out.below hb02 HF.out.2)
      obtain ⟨c0, c1, c2, c3, c4⟩ := five hA2
      clear hw2 hb1 hb2 hA2
      go_wp2_with fail
      refine (gctag_any key H f iv aad text g m _ HF2.out HQ2.out HH.out HFI.out HM.out HA.out HT.out).mono ?_
      rintro e w4 ⟨y, rfl, hy, hb4⟩
      have hb04 := hb02.trans (hb4.mono hb02.size)
      have HY := Lib.hid hy
      clear c0 c1 c2 c3 c4 hy hb02 hb4
      go_wp2_with fail
      go_ret2
      exact ret_se HY.out rfl rfl hb04
    · have hT : gcTE key.size iv.size aad.size (m : Int) text.size = 6 := by rw [gcTE, if_pos hc, if_pos (by omega)]
      rw [hT, if_neg (by decide)]
      have e1 : (70000 : Int) < (text.size : Int) := by omega
      have B := Lib.hid (fun w hF => gbegin_ok key iv aad m w hF hk (by omega) v1 (by omega) (by omega) ha)
      have HF := Lib.hid hF
      clear hc hF hT hk v0 v1 s0 s1 ha ht
      go_enter Tryd.func25, Tryd.ntmps25
      go_wp2_with fail
      refine (B.out _ HF.out).mono ?_
      rintro e w1 ⟨g, H, f, hg, rfl, hH, hf, hQ, hb1⟩
      clear hH hf hQ hg
      go_wp2_with fail
      go_ret2
      exact ret_se (tl_mk []) rfl rfl (hb1.alloc hb1.size _)
  · rw [gcTE_c hc h0, if_neg h0]
    have e1 : (c == 0) = false := by rw [beq_eq_false_iff_ne]; exact h0
    have e2 : (c != 0) = true := by rw [bne_iff_ne]; exact h0
    have B := Lib.hid (fun w => gbegin_no key iv aad s c w hc h0)
    clear hc hF h0
    go_enter Tryd.func25, Tryd.ntmps25
    go_wp2_with fail
    refine (B.out _).mono ?_
    rintro e w1 ⟨rfl, hb1⟩
    go_wp2_with fail
    go_ret2
    exact ret_se (tl_mk []) rfl rfl (hb1.alloc hb1.size _)
end Go.Proofs.YtkedoiikkjeadaaDoor
namespace Go.Proofs.YtkedoiikkjeadaaDoor
open Go.RowKit
set_option linter.unusedVariables false
set_option linter.unusedSimpArgs false
theorem below_dN9 {B : Nat} {a w : World} (h : Below B a w) (n : Nat) : Below B a (w.drewN n) := ⟨h.os, h.tape, h.output, h.size, h.block⟩
set_option maxRecDepth 100000 in
set_option maxHeartbeats 3200000 in
theorem gOpen_first (key iv aad text : ByteArray) (s c : Int) (w : World) (hc : gcE key.size iv.size aad.size s = c) (h0 : c ≠ 0) : Calls Tryd.prog 23 #[.string key, .string iv, .string aad, .string text, .int .i64 s] w (RetSE [] c w) := by
  have e1 : (c == 0) = false := by rw [beq_eq_false_iff_ne]; exact h0
  have e2 : (c != 0) = true := by rw [bne_iff_ne]; exact h0
  have B := Lib.hid (fun w => gbegin_no key iv aad s c w hc h0)
  clear hc h0
  go_enter Tryd.func23, Tryd.ntmps23
  go_wp2_with fail
  refine (B.out _).mono ?_
  rintro e w1 ⟨rfl, hb1⟩
  go_wp2_with fail
  go_ret2
  exact ret_se (tl_mk []) rfl rfl (hb1.alloc hb1.size _)
set_option maxRecDepth 100000 in
set_option maxHeartbeats 3200000 in
theorem gOpen_short (key iv aad text : ByteArray) (m : Nat) (w : World) (hF : Fal w) (hk : key.size = 16 ∨ key.size = 24 ∨ key.size = 32) (v0 : iv.size ≠ 0) (v1 : iv.size ≤ 1024) (s0 : 12 ≤ m) (s1 : m ≤ 16) (ha : aad.size ≤ 70000) (h1 : text.size < m) : Calls Tryd.prog 23 #[.string key, .string iv, .string aad, .string text, .int .i64 (m : Int)] w (RetSE [] 6 w) := by
  obtain ⟨M, hM⟩ : ∃ M, M = 70000 + m := ⟨_, rfl⟩
  have q1 : 70000 + (m : Int) = (M : Int) := by omega
  have q2 : IntKind.i64.wrap (M : Int) = (M : Int) := wrap_in _ (by omega) (by omega)
  have e1 : (text.size : Int) < (m : Int) := by omega
  have B := Lib.hid (fun w hF => gbegin_ok key iv aad m w hF hk v0 v1 s0 s1 ha)
  have HF := Lib.hid hF
  clear hF hk v0 v1 s0 s1 ha h1 hM
  go_enter Tryd.func23, Tryd.ntmps23
  go_wp2_with fail
  refine (B.out _ HF.out).mono ?_
  rintro e w1 ⟨g, H, f, hg, rfl, hH, hf, hQ, hb1⟩
  clear hH hf hQ hg
  go_wp2_with fail
  go_ret2
  exact ret_se (tl_mk []) rfl rfl (hb1.alloc hb1.size _)
set_option maxRecDepth 100000 in
set_option maxHeartbeats 3200000 in
theorem gOpen_long (key iv aad text : ByteArray) (m : Nat) (w : World) (hF : Fal w) (hk : key.size = 16 ∨ key.size = 24 ∨ key.size = 32) (v0 : iv.size ≠ 0) (v1 : iv.size ≤ 1024) (s0 : 12 ≤ m) (s1 : m ≤ 16) (ha : aad.size ≤ 70000) (h1 : 70000 + m < text.size) : Calls Tryd.prog 23 #[.string key, .string iv, .string aad, .string text, .int .i64 (m : Int)] w (RetSE [] 6 w) := by
  obtain ⟨M, hM⟩ : ∃ M, M = 70000 + m := ⟨_, rfl⟩
  have q1 : 70000 + (m : Int) = (M : Int) := by omega
  have q2 : IntKind.i64.wrap (M : Int) = (M : Int) := wrap_in _ (by omega) (by omega)
  have e1 : ¬ (text.size : Int) < (m : Int) := by omega
  have e2 : (M : Int) < (text.size : Int) := by omega
  have B := Lib.hid (fun w hF => gbegin_ok key iv aad m w hF hk v0 v1 s0 s1 ha)
  have HF := Lib.hid hF
  clear hF hk v0 v1 s0 s1 ha h1 hM
  go_enter Tryd.func23, Tryd.ntmps23
  go_wp2_with fail
  refine (B.out _ HF.out).mono ?_
  rintro e w1 ⟨g, H, f, hg, rfl, hH, hf, hQ, hb1⟩
  clear hH hf hQ hg
  go_wp2_with fail
  go_ret2
  exact ret_se (tl_mk []) rfl rfl (hb1.alloc hb1.size _)
set_option maxRecDepth 100000 in
set_option maxHeartbeats 3200000 in
theorem gOpen_ok (key iv aad text : ByteArray) (m : Nat) (b : Bool) (w : World) (hF : Fal w) (hk : key.size = 16 ∨ key.size = 24 ∨ key.size = 32) (v0 : iv.size ≠ 0) (v1 : iv.size ≤ 1024) (s0 : 12 ≤ m) (s1 : m ≤ 16) (ha : aad.size ≤ 70000) (h1 : m ≤ text.size) (h2 : text.size ≤ 70000 + m)
    (hb : (text.toList.drop (text.size - m) == gcTag key.toList iv.toList aad.toList (gcCut text.toList (m : Int)) m) = b) :
    Calls Tryd.prog 23 #[.string key, .string iv, .string aad, .string text, .int .i64 (m : Int)] w (RetSE (if b then gcJoin key.toList iv.toList (gcCut text.toList (m : Int)) else []) (if b then 0 else 8) w) := by
  obtain ⟨M, hM⟩ : ∃ M, M = 70000 + m := ⟨_, rfl⟩
  have q1 : 70000 + (m : Int) = (M : Int) := by omega
  have q2 : IntKind.i64.wrap (M : Int) = (M : Int) := wrap_in _ (by omega) (by omega)
  have e1 : ¬ (text.size : Int) < (m : Int) := by omega
  have e2 : ¬ (M : Int) < (text.size : Int) := by omega
  obtain ⟨a, had⟩ : ∃ a, a = text.size - m := ⟨_, rfl⟩
  have p1 : (text.size : Int) - (m : Int) = (a : Int) := by omega
  have p2 : IntKind.i64.wrap (a : Int) = (a : Int) := wrap_in _ (by omega) (by omega)
  have p3 : (0 : Int) ≤ (a : Int) := by omega
  have p4 : (a : Int) ≤ (text.size : Int) := by omega
  have p5 : a ≤ text.size := by omega
  obtain ⟨pc, hpc⟩ : ∃ pc, text.extract 0 a = pc := ⟨_, rfl⟩
  obtain ⟨tg, htg⟩ : ∃ tg, text.extract a text.size = tg := ⟨_, rfl⟩
  have hpl : pc.toList = gcCut text.toList (m : Int) := by rw [← hpc, tl_ext0, gcCut, tl_size, Int.toNat_natCast, had]
  have hps : pc.size ≤ 70000 := by rw [← tl_size, ← hpc, tl_ext0, List.length_take, tl_size]; omega
  have htl : tg.toList = text.toList.drop a := by rw [← htg, tl_extE _ _ _ rfl]
  have htm : tg.size ≤ maxLen := by rw [← tl_size, htl, List.length_drop, tl_size]; unfold maxLen; omega
  have hb2 : (tg.toList == gcTag key.toList iv.toList aad.toList pc.toList m) = b := by rw [htl, had, hpl]; exact hb
  have HPL := Lib.hid hpl
  have HPS := Lib.hid hps
  have HB2 := Lib.hid hb2
  have HTM := Lib.hid htm
  have HM := Lib.hid s1
  have HA := Lib.hid ha
  have HK := Lib.hid hk
  have B := Lib.hid (fun w hF => gbegin_ok key iv aad m w hF hk v0 v1 s0 s1 ha)
  have HF := Lib.hid hF
  clear hF hk v0 v1 s0 s1 ha h1 h2 hM hb hb2 hpl hps htl htm had
  cases b
  · show Calls _ _ _ _ (RetSE [] 8 w)
    go_enter Tryd.func23, Tryd.ntmps23
    go_wp2_with fail
    refine (B.out _ HF.out).mono ?_
    rintro e w1 ⟨g, H, f, hg, rfl, hH, hf, hQ, hb1⟩
    have HH := Lib.hid hH
    have HFI := Lib.hid hf
    have HQ := Lib.hid hQ
    clear hH hf hQ hg
    go_wp2_with fail
    go_region
    obtain ⟨w2, hw2, hA2, hb2, hs2⟩ := seal_by w1 key H f g m
    rw [hw2]
    have HQ2 := Lib.hid (HQ.out.below hb2.drew (HQ.out.lt))
    have hb02 := (below2 hb1 hb2).drew
    have HF2 := Lib.hid (HF.out.below hb02 HF.out.2)
    have HA2 := Lib.hid hA2.drew
    have HS2 : Hid (w1.heap.size < w2.drew.heap.size) := Lib.hid hs2
    obtain ⟨wd, hwd⟩ : ∃ wd, w2.drew = wd := ⟨_, rfl⟩
    rw [hwd] at HQ2 hb02 HF2 HA2 HS2 ⊢
    obtain ⟨c0, c1, c2, c3, c4⟩ := five HA2.out
    clear hw2 hb1 hb2 hA2 hs2 hwd
    go_wp2_with fail
    refine (gctag_any key H f iv aad pc g m _ HF2.out HQ2.out HH.out HFI.out HM.out HA.out HPS.out).mono ?_
    rintro e w3 ⟨y, rfl, hy, hb3⟩
    have hys : y.size ≤ maxLen := by rw [← tl_size, hy, gcTag_length _ _ _ _ _ HM.out]; have := HM.out; unfold maxLen; omega
    have HY := Lib.hid hy
    have HYS := Lib.hid hys
    have hA3 := HA2.out.below hb3 HS2.out
    have hb03 := hb02.trans (hb3.mono hb02.size)
    clear c0 c1 c2 c3 c4 hy hys hb02 hb3
    obtain ⟨c0, c1, c2, c3, c4⟩ := five hA3
    clear hA3
    go_wp2_with fail
    refine (same_any tg y _ HTM.out HYS.out).mono ?_
    rintro e w4 ⟨rfl, n4, rfl⟩
    rw [HY.out, HB2.out]
    go_wp2_with fail
    go_ret2
    exact ret_se (tl_mk []) rfl rfl (below_dN9 hb03 _)
  · show Calls _ _ _ _ (RetSE (gcJoin key.toList iv.toList (gcCut text.toList (m : Int))) 0 w)
    go_enter Tryd.func23, Tryd.ntmps23
    go_wp2_with fail
    refine (B.out _ HF.out).mono ?_
    rintro e w1 ⟨g, H, f, hg, rfl, hH, hf, hQ, hb1⟩
    have HH := Lib.hid hH
    have HFI := Lib.hid hf
    have HQ := Lib.hid hQ
    clear hH hf hQ hg
    go_wp2_with fail
    go_region
    obtain ⟨w2, hw2, hA2, hb2, hs2⟩ := seal_by w1 key H f g m
    rw [hw2]
    have HQ2 := Lib.hid (HQ.out.below hb2.drew (HQ.out.lt))
    have hb02 := (below2 hb1 hb2).drew
    have HF2 := Lib.hid (HF.out.below hb02 HF.out.2)
    have HA2 := Lib.hid hA2.drew
    have HS2 : Hid (w1.heap.size < w2.drew.heap.size) := Lib.hid hs2
    obtain ⟨wd, hwd⟩ : ∃ wd, w2.drew = wd := ⟨_, rfl⟩
    rw [hwd] at HQ2 hb02 HF2 HA2 HS2 ⊢
    obtain ⟨c0, c1, c2, c3, c4⟩ := five HA2.out
    clear hw2 hb1 hb2 hA2 hs2 hwd
    go_wp2_with fail
    refine (gctag_any key H f iv aad pc g m _ HF2.out HQ2.out HH.out HFI.out HM.out HA.out HPS.out).mono ?_
    rintro e w3 ⟨y, rfl, hy, hb3⟩
    have hys : y.size ≤ maxLen := by rw [← tl_size, hy, gcTag_length _ _ _ _ _ HM.out]; have := HM.out; unfold maxLen; omega
    have HY := Lib.hid hy
    have HYS := Lib.hid hys
    have hA3 := HA2.out.below hb3 HS2.out
    have hb03 := hb02.trans (hb3.mono hb02.size)
    clear c0 c1 c2 c3 c4 hy hys hb02 hb3
    obtain ⟨c0, c1, c2, c3, c4⟩ := five hA3
    clear hA3
    go_wp2_with fail
    refine (same_any tg y _ HTM.out HYS.out).mono ?_
    rintro e w4 ⟨rfl, n4, rfl⟩
    rw [HY.out, HB2.out]
    go_wp2_with fail
    refine (gjoined_any key H f iv pc g m _ HFI.out HK.out HPS.out).mono ?_
    rintro e w5 ⟨x, rfl, hx, hb5⟩
    have HX := Lib.hid hx
    have hb04 := below_dN9 hb03 n4
    have hb05 := hb04.trans (hb5.mono hb04.size)
    clear c0 c1 c2 c3 c4 hx hb03 hb04 hb5
    go_wp2_with fail
    go_ret2
    exact ret_se HX.out (by rw [HPL.out]) rfl hb05
theorem gOpen_any (key iv aad text : ByteArray) (s : Int) (w : World) (hF : Fal w) : Calls Tryd.prog 23 #[.string key, .string iv, .string aad, .string text, .int .i64 s] w (RetSE (gcOpenL key.toList iv.toList aad.toList text.toList s) (gcOpenE key.toList iv.toList aad.toList text.toList s) w) := by
  obtain ⟨c, hc⟩ : ∃ c, gcE key.size iv.size aad.size s = c := ⟨_, rfl⟩
  rw [gcOpenL, gcOpenE, tl_size, tl_size, tl_size, tl_size]
  by_cases h0 : c = 0
  · subst h0
    obtain ⟨hk, v0, v1, s0, s1, ha⟩ := gcE_zero hc
    obtain ⟨m, rfl⟩ := Int.eq_ofNat_of_zero_le (a := s) (by omega)
    by_cases h1 : text.size < m
    · have hO : gcOE key.size iv.size aad.size (m : Int) text.size = 6 := by rw [gcOE, if_pos hc, if_pos (by omega)]
      have e6 : ¬ (6 : Int) = 0 := by decide
      rw [hO, if_neg e6, if_neg e6]
      exact gOpen_short key iv aad text m w hF hk (by omega) v1 (by omega) (by omega) ha h1
    · by_cases h2 : 70000 + m < text.size
      · have hO : gcOE key.size iv.size aad.size (m : Int) text.size = 6 := by rw [gcOE, if_pos hc, if_pos (by omega)]
        have e6 : ¬ (6 : Int) = 0 := by decide
        rw [hO, if_neg e6, if_neg e6]
        exact gOpen_long key iv aad text m w hF hk (by omega) v1 (by omega) (by omega) ha h2
      · have hO : gcOE key.size iv.size aad.size (m : Int) text.size = 0 := by rw [gcOE, if_pos hc, if_neg (by omega)]
        rw [hO, if_pos rfl, Int.toNat_natCast]
        obtain ⟨b, hb⟩ : ∃ b, (text.toList.drop (text.size - m) == gcTag key.toList iv.toList aad.toList (gcCut text.toList (m : Int)) m) = b := ⟨_, rfl⟩
        have h := gOpen_ok key iv aad text m b w hF hk (by omega) v1 (by omega) (by omega) ha (by omega) (by omega) hb
        cases b
        · have hne : ¬ gcTag key.toList iv.toList aad.toList (gcCut text.toList (m : Int)) m = text.toList.drop (text.size - m) := fun e => by rw [e, beq_self_eq_true] at hb; cases hb
          rw [if_neg hne, if_neg (by decide)]
          exact h
        · have he : gcTag key.toList iv.toList aad.toList (gcCut text.toList (m : Int)) m = text.toList.drop (text.size - m) := (eq_of_beq hb).symm
          rw [if_pos he, if_pos rfl]
          exact h
  · rw [gcOE_c hc h0, if_neg h0, if_neg h0]
    exact gOpen_first key iv aad text s c w hc h0
end Go.Proofs.YtkedoiikkjeadaaDoor
namespace Go.Proofs.YtkedoiikkjeadaaDoor
open Go.RowKit
set_option linter.unusedVariables false
set_option linter.unusedSimpArgs false
set_option maxRecDepth 100000 in
theorem rzeros_any (n : Nat) (w : World) (hn : n ≤ 1000) : Calls Tryd.prog 45 #[.int .i64 (n : Int)] w (RetS (zer n) w) := by
  obtain ⟨i0, hi, hz0, hz1, hz2⟩ := info_parts info5
  have HF := Lib.hid (bcells_made n)
  have hby : i0.bytes * n ≤ 281474976710656 := by rw [hz2]; omega
  have hmax : n ≤ maxLen := by unfold maxLen; omega
  obtain ⟨zx, hzx⟩ : ∃ zx : ByteArray, (⟨(List.replicate n (0 : UInt8)).toArray⟩ : ByteArray) = zx := ⟨_, rfl⟩
  have HZX := Lib.hid hzx
  have HZL : Hid (zx.toList = zer n) := by show _ = _; rw [← hzx, tl_mk]; rfl
  clear hzx
  go_enter Tryd.func45, Tryd.ntmps45
  go_wp2_with (at_make; refine wpList_make_full _ rfl (.tmp 3) (.tmp 3) 56 rfl w.heap.size 5 i0 (.int .u8 0) 1 Tryd.underlying56 hi hz0 hz1 .i64 .i64 _ _ n rfl rfl rfl rfl hby hmax (Nat.le_refl _) ?_; intro w2 hown2 hgrow2; rw [HF.out] at hown2; have hcv2 := run_convert_own (P := Tryd.prog) hown2 56 9 Tryd.underlying56 Tryd.underlying5 Tryd.underlying9; rw [HZX.out] at hcv2; have hb02 := (Below.refl w.heap.size w).grown hgrow2 (Nat.le_refl _) (by simp); clear hown2 hgrow2)
  go_ret
  exact ⟨_, rfl, HZL.out, hb02⟩
set_option maxRecDepth 100000 in
set_option maxHeartbeats 1600000 in
theorem rbits_any (s : ByteArray) (w : World) (hs : s.size ≤ 1000000) : Calls Tryd.prog 47 #[.string s] w (RetS (bitsL s.size) w) := by
  obtain ⟨m, hm⟩ : ∃ m, 8 * s.size = m := ⟨_, rfl⟩
  have c1 : IntKind.i64.wrap (m : Int) = (m : Int) := wrap_in _ (by omega) (by omega)
  have c2 := u64_in8 m (by omega)
  have c3 : 8 * (s.size : Int) = (m : Int) := by omega
  have hn64 : m < 2 ^ 64 := by omega
  have HB : Hid (bitsL s.size = be 8 m) := by show _ = _; rw [bitsL, hm]
  have HPF := Lib.hid (put8 m hn64)
  clear hm
  go_enter Tryd.func47, Tryd.ntmps47
  go_wp2_with fail
  refine (rput_any m 8 _ hn64).mono ?_
  rintro e w1 ⟨x, rfl, hx, hb1⟩
  rw [HPF.out.1] at hx
  rw [HPF.out.2]
  have HX := Lib.hid hx
  clear hx
  go_wp2_with fail
  go_ret
  exact ⟨_, rfl, by rw [HX.out, HB.out], hb1⟩
theorem rgsumk (key text : ByteArray) (hk : key.size = 16) (hm : text.toList.length % 16 = 0) (hl : text.toList.length ≤ 210000) (w : World) : Calls Tryd.prog 18 #[.string key, .string text] w (RetSE (gsL key.toList text.toList) 0 w) := by
  have h := rgsum_any key text w
  obtain ⟨h1, h2⟩ := gs_ok key.toList text.toList (by rw [tl_size]; exact hk) hm hl
  rwa [h1, h2] at h
set_option maxRecDepth 100000 in
set_option maxHeartbeats 1600000 in
theorem rfirst_any (iv : ByteArray) (g : Nat) (K : List UInt8) (w : World) (hB : Box w g K) (hK : K.length = 16 ∨ K.length = 24 ∨ K.length = 32) (hv : iv.size ≤ 1024) : Calls Tryd.prog 48 #[.pointer (some ⟨g, 0, none⟩), .string iv] w (RetS (gcFirst K iv.toList) w) := by
  have HB := Lib.hid hB
  have HK := Lib.hid hK
  by_cases h12 : iv.size = 12
  · have e1 : ((iv.size : Int) == 12) = true := by rw [beq_iff_eq]; omega
    have hov : ¬ 9223372036854775807 < iv.size + 4 := by omega
    have HR : Hid (gcFirst K iv.toList = iv.toList ++ [0, 0, 0, 1]) := by show _ = _; rw [gcFirst, if_pos (by rw [tl_size]; exact h12)]
    clear h12 hB hK
    go_enter Tryd.func48, Tryd.ntmps48
    go_wp2_with fail
    go_ret
    exact ⟨_, rfl, by rw [tl_append, one12, HR.out], Below.refl _ _⟩
  · have e1 : ((iv.size : Int) == 12) = false := by rw [beq_eq_false_iff_ne]; omega
    have HR : Hid (gcFirst K iv.toList = gsL (gcH K) (filM iv.toList ++ zer 8 ++ bitsL iv.size)) := by show _ = _; rw [gcFirst, if_neg (by rw [tl_size]; exact h12), gcFir, tl_size]
    have hfw := filM_w iv.toList
    rw [tl_size] at hfw
    have HW := Lib.hid hfw
    clear h12 hB hK hfw
    go_enter Tryd.func48, Tryd.ntmps48
    go_wp2_with fail
    refine (rzeros_any 16 _ (by decide)).mono ?_
    rintro e w1 ⟨z, rfl, hz, hb1⟩
    have hzs : z.size = 16 := by rw [← tl_size, hz, zer_length]
    have HB1 := Lib.hid (HB.out.below hb1 (Nat.le_refl _))
    have HZ := Lib.hid hz
    clear hz
    go_wp2_with fail
    refine (rencrypt_any z _ g K HB1.out HK.out hzs).mono ?_
    rintro e w2 ⟨H, rfl, hH, hb2⟩
    have HH : Hid (H.toList = gcH K) := by show _ = _; rw [hH, HZ.out]; rfl
    have HHS : Hid (H.size = 16) := by show _ = _; rw [← tl_size, hH, encL_length]
    have hb02 := below2 hb1 hb2
    clear hzs hH hb1 hb2
    go_wp2_with fail
    refine (rfilled_any iv _ (by omega)).mono ?_
    rintro e w3 ⟨x, rfl, hx, hb3⟩
    have HX := Lib.hid hx
    have HXS : Hid (x.size < iv.size + 16) := by show _ < _; rw [← tl_size, hx]; exact HW.out.2.2
    have hb03 := below2 hb02 hb3
    clear hx hb02 hb3
    go_wp2_with fail
    refine (rzeros_any 8 _ (by decide)).mono ?_
    rintro e w4 ⟨y, rfl, hy, hb4⟩
    have HY := Lib.hid hy
    have HYS : Hid (y.size = 8) := by show _ = _; rw [← tl_size, hy, zer_length]
    have z1 : ¬ 9223372036854775807 < x.size + y.size := by have := HXS.out; have := HYS.out; omega
    have hb04 := below2 hb03 hb4
    clear hy hb03 hb4
    go_wp2_with fail
    refine (rbits_any iv _ (by omega)).mono ?_
    rintro e w5 ⟨u, rfl, hu, hb5⟩
    have HU := Lib.hid hu
    have HUS : Hid (u.size = 8) := by show _ = _; rw [← tl_size, hu, bitsL_length]
    have z2 : ¬ 9223372036854775807 < x.size + y.size + u.size := by have := HXS.out; have := HYS.out; have := HUS.out; omega
    have hb05 := below2 hb04 hb5
    clear hu hb04 hb5
    go_wp2_with fail
    have hlen : (x ++ y ++ u).toList.length = (filM iv.toList).length + 16 := by rw [tl_append, tl_append, HX.out, HY.out, HU.out, List.length_append, List.length_append, zer_length, bitsL_length]
    refine (rgsumk H (x ++ y ++ u) HHS.out (by rw [hlen]; have := HW.out; omega) (by rw [hlen]; have := HW.out; omega) _).mono ?_
    rintro e w6 ⟨t, rfl, ht, hb6⟩
    have HT : Hid (t.toList = gcFirst K iv.toList) := by show _ = _; rw [ht, tl_append, tl_append, HX.out, HY.out, HU.out, HH.out, HR.out]
    have hb06 := below2 hb05 hb6
    clear ht hlen z1 z2 hb05 hb6
    go_wp2_with fail
    go_ret
    exact ⟨_, rfl, HT.out, hb06⟩
set_option maxRecDepth 100000 in
theorem rwrong9_any (key iv aad : ByteArray) (s : Int) (w : World) : Calls Tryd.prog 40 #[.string key, .string iv, .string aad, .int .i64 s] w (RetI64 (gcE key.size iv.size aad.size s) w) := by
  rcases key_cases key with hk | ⟨h1, h2, h3⟩
  rotate_left
  · rw [gcE, if_neg (by rw [keyOk_no h1 h2 h3]; decide)]
    go_enter Tryd.func40, Tryd.ntmps40
    go_wp2_with fail
    refine (right_no key _ h1 h2 h3).mono ?_
    rintro e w1 ⟨rfl, rfl⟩
    go_wp2_with fail
    go_ret
    exact ⟨rfl, rfl⟩
  rw [gcE, if_pos (keyOk_yes hk)]
  by_cases v0 : iv.size = 0
  · rw [if_pos (.inl v0)]
    have e1 : ((iv.size : Int) == 0) = true := by rw [beq_iff_eq]; omega
    go_enter Tryd.func40, Tryd.ntmps40
    go_wp2_with fail
    refine (right_yes key _ hk).mono ?_
    rintro e w1 ⟨rfl, rfl⟩
    go_wp2_with fail
    go_ret
    exact ⟨rfl, rfl⟩
  have e1 : ((iv.size : Int) == 0) = false := by rw [beq_eq_false_iff_ne]; omega
  by_cases v1 : 1024 < iv.size
  · rw [if_pos (.inr v1)]
    have e2 : (1024 : Int) < (iv.size : Int) := by omega
    go_enter Tryd.func40, Tryd.ntmps40
    go_wp2_with fail
    refine (right_yes key _ hk).mono ?_
    rintro e w1 ⟨rfl, rfl⟩
    go_wp2_with fail
    go_ret
    exact ⟨rfl, rfl⟩
  have e2 : ¬ (1024 : Int) < (iv.size : Int) := by omega
  rw [if_neg (by omega)]
  by_cases s0 : s < 12
  · rw [if_pos (.inl s0)]
    go_enter Tryd.func40, Tryd.ntmps40
    go_wp2_with fail
    refine (right_yes key _ hk).mono ?_
    rintro e w1 ⟨rfl, rfl⟩
    go_wp2_with fail
    go_ret
    exact ⟨rfl, rfl⟩
  by_cases s1 : 16 < s
  · rw [if_pos (.inr s1)]
    go_enter Tryd.func40, Tryd.ntmps40
    go_wp2_with fail
    refine (right_yes key _ hk).mono ?_
    rintro e w1 ⟨rfl, rfl⟩
    go_wp2_with fail
    go_ret
    exact ⟨rfl, rfl⟩
  rw [if_neg (by omega)]
  by_cases ha : 70000 < aad.size
  · rw [if_pos ha]
    have e3 : (70000 : Int) < (aad.size : Int) := by omega
    go_enter Tryd.func40, Tryd.ntmps40
    go_wp2_with fail
    refine (right_yes key _ hk).mono ?_
    rintro e w1 ⟨rfl, rfl⟩
    go_wp2_with fail
    go_ret
    exact ⟨rfl, rfl⟩
  · rw [if_neg ha]
    have e3 : ¬ (70000 : Int) < (aad.size : Int) := by omega
    go_enter Tryd.func40, Tryd.ntmps40
    go_wp2_with fail
    refine (right_yes key _ hk).mono ?_
    rintro e w1 ⟨rfl, rfl⟩
    go_wp2_with fail
    go_ret
    exact ⟨rfl, rfl⟩
end Go.Proofs.YtkedoiikkjeadaaDoor
namespace Go.Proofs.YtkedoiikkjeadaaDoor
open Go.RowKit
set_option linter.unusedVariables false
set_option linter.unusedSimpArgs false
theorem gcE_of {k v a m : Nat} (hk : k = 16 ∨ k = 24 ∨ k = 32) (v0 : v ≠ 0) (v1 : v ≤ 1024) (s0 : 12 ≤ m) (s1 : m ≤ 16) (ha : a ≤ 70000) : gcE k v a (m : Int) = 0 := by
  rw [gcE, if_pos (keyOk_yes hk), if_neg (by omega), if_neg (by omega), if_neg (by omega)]
theorem rstream_any (start : ByteArray) (wd n : Nat) (w : World) (g : Nat) (K : List UInt8) (hB : Box w g K) (hK : K.length = 16 ∨ K.length = 24 ∨ K.length = 32) (hs : start.size = 16) (h1 : 1 ≤ wd) (h16 : wd ≤ 16) (hn : n ≤ 70000) :
    Calls Tryd.prog 63 #[.pointer (some ⟨g, 0, none⟩), .string start, .int .i64 (wd : Int), .int .i64 (n : Int)] w (RetS ((ctrS K start.toList wd (blk n)).take n) w) := by
  by_cases h0 : n = 0
  · subst h0
    rw [List.take_zero]
    exact rstream_zero start wd w g
  · exact rstream_pos start wd n w g K hB hK hs h1 h16 hn (by omega)
set_option maxRecDepth 100000 in
set_option maxHeartbeats 3200000 in
theorem g9Tag_first (key iv aad text : ByteArray) (s c : Int) (w : World) (hc : gcE key.size iv.size aad.size s = c) (h0 : c ≠ 0) : Calls Tryd.prog 26 #[.string key, .string iv, .string aad, .string text, .int .i64 s] w (RetSE [] c w) := by
  have e1 : (c != 0) = true := by rw [bne_iff_ne]; exact h0
  have HC := Lib.hid hc
  clear hc h0
  go_enter Tryd.func26, Tryd.ntmps26
  go_wp2_with fail
  refine (rwrong9_any key iv aad s _).mono ?_
  rintro e w0 ⟨rfl, rfl⟩
  rw [HC.out]
  go_wp2_with fail
  go_ret2
  exact ret_se (tl_mk []) rfl rfl (Below.refl _ _)
set_option maxRecDepth 100000 in
set_option maxHeartbeats 3200000 in
theorem g9Seal_first (key iv aad text : ByteArray) (s c : Int) (w : World) (hc : gcE key.size iv.size aad.size s = c) (h0 : c ≠ 0) : Calls Tryd.prog 22 #[.string key, .string iv, .string aad, .string text, .int .i64 s] w (RetSE [] c w) := by
  have e1 : (c != 0) = true := by rw [bne_iff_ne]; exact h0
  have HC := Lib.hid hc
  clear hc h0
  go_enter Tryd.func22, Tryd.ntmps22
  go_wp2_with fail
  refine (rwrong9_any key iv aad s _).mono ?_
  rintro e w0 ⟨rfl, rfl⟩
  rw [HC.out]
  go_wp2_with fail
  go_ret2
  exact ret_se (tl_mk []) rfl rfl (Below.refl _ _)
set_option maxRecDepth 100000 in
set_option maxHeartbeats 3200000 in
theorem g9Open_first (key iv aad text : ByteArray) (s c : Int) (w : World) (hc : gcE key.size iv.size aad.size s = c) (h0 : c ≠ 0) : Calls Tryd.prog 24 #[.string key, .string iv, .string aad, .string text, .int .i64 s] w (RetSE [] c w) := by
  have e1 : (c != 0) = true := by rw [bne_iff_ne]; exact h0
  have HC := Lib.hid hc
  clear hc h0
  go_enter Tryd.func24, Tryd.ntmps24
  go_wp2_with fail
  refine (rwrong9_any key iv aad s _).mono ?_
  rintro e w0 ⟨rfl, rfl⟩
  rw [HC.out]
  go_wp2_with fail
  go_ret2
  exact ret_se (tl_mk []) rfl rfl (Below.refl _ _)
set_option maxRecDepth 100000 in
set_option maxHeartbeats 3200000 in
theorem g9Tag_long (key iv aad text : ByteArray) (m : Nat) (w : World) (hk : key.size = 16 ∨ key.size = 24 ∨ key.size = 32) (v0 : iv.size ≠ 0) (v1 : iv.size ≤ 1024) (s0 : 12 ≤ m) (s1 : m ≤ 16) (ha : aad.size ≤ 70000) (h1 : 70000 < text.size) : Calls Tryd.prog 26 #[.string key, .string iv, .string aad, .string text, .int .i64 (m : Int)] w (RetSE [] 6 w) := by
  have e1 : (70000 : Int) < (text.size : Int) := by omega
  have HC := Lib.hid (gcE_of (a := aad.size) hk v0 v1 s0 s1 ha)
  clear hk v0 v1 s0 s1 ha h1
  go_enter Tryd.func26, Tryd.ntmps26
  go_wp2_with fail
  refine (rwrong9_any key iv aad (m : Int) _).mono ?_
  rintro e w0 ⟨rfl, rfl⟩
  rw [HC.out]
  go_wp2_with fail
  go_ret2
  exact ret_se (tl_mk []) rfl rfl (Below.refl _ _)
set_option maxRecDepth 100000 in
set_option maxHeartbeats 3200000 in
theorem g9Seal_long (key iv aad text : ByteArray) (m : Nat) (w : World) (hk : key.size = 16 ∨ key.size = 24 ∨ key.size = 32) (v0 : iv.size ≠ 0) (v1 : iv.size ≤ 1024) (s0 : 12 ≤ m) (s1 : m ≤ 16) (ha : aad.size ≤ 70000) (h1 : 70000 < text.size) : Calls Tryd.prog 22 #[.string key, .string iv, .string aad, .string text, .int .i64 (m : Int)] w (RetSE [] 6 w) := by
  have e1 : (70000 : Int) < (text.size : Int) := by omega
  have HC := Lib.hid (gcE_of (a := aad.size) hk v0 v1 s0 s1 ha)
  clear hk v0 v1 s0 s1 ha h1
  go_enter Tryd.func22, Tryd.ntmps22
  go_wp2_with fail
  refine (rwrong9_any key iv aad (m : Int) _).mono ?_
  rintro e w0 ⟨rfl, rfl⟩
  rw [HC.out]
  go_wp2_with fail
  go_ret2
  exact ret_se (tl_mk []) rfl rfl (Below.refl _ _)
set_option maxRecDepth 100000 in
set_option maxHeartbeats 3200000 in
theorem g9Tag_ok (key iv aad text : ByteArray) (m : Nat) (w : World) (hk : key.size = 16 ∨ key.size = 24 ∨ key.size = 32) (v0 : iv.size ≠ 0) (v1 : iv.size ≤ 1024) (s0 : 12 ≤ m) (s1 : m ≤ 16) (ha : aad.size ≤ 70000) (ht : text.size ≤ 70000) : Calls Tryd.prog 26 #[.string key, .string iv, .string aad, .string text, .int .i64 (m : Int)] w (RetSE (gcTag key.toList iv.toList aad.toList text.toList m) 0 w) := by
  have e1 : ¬ (70000 : Int) < (text.size : Int) := by omega
  have k0 : (0 : Int) ≤ (m : Int) := by omega
  have HC := Lib.hid (gcE_of (a := aad.size) hk v0 v1 s0 s1 ha)
  have hwa := filM_w aad.toList
  have hwc := filM_w text.toList
  rw [tl_size] at hwa hwc
  have HWA := Lib.hid hwa
  have HWC := Lib.hid hwc
  have HK : Hid (key.toList.length = 16 ∨ key.toList.length = 24 ∨ key.toList.length = 32) := by show _ ∨ _; rw [tl_size]; exact hk
  have HM := Lib.hid s1
  clear v0 s0 s1 hwa hwc
  go_enter Tryd.func26, Tryd.ntmps26
  go_wp2_with fail
  refine (rwrong9_any key iv aad (m : Int) _).mono ?_
  rintro e w0 ⟨rfl, rfl⟩
  rw [HC.out]
  go_wp2_with fail
  refine (rnew_any key _ hk).mono ?_
  rintro e w1 ⟨g, hg, rfl, hB, hb1⟩
  have HB1 := Lib.hid hB
  clear hB hg
  go_wp2_with fail
  refine (rzeros_any 16 _ (by decide)).mono ?_
  rintro e w2 ⟨z, rfl, hz, hb2⟩
  have hzs : z.size = 16 := by rw [← tl_size, hz, zer_length]
  have HB2 := Lib.hid (HB1.out.below hb2 (Nat.le_refl _))
  have HZ := Lib.hid hz
  have hb02 := below2 hb1 hb2
  clear hz hb1 hb2 HB1
  go_wp2_with fail
  refine (rencrypt_any z _ g key.toList HB2.out HK.out hzs).mono ?_
  rintro e w3 ⟨H, rfl, hH, hb3⟩
  have HH : Hid (H.toList = gcH key.toList) := by show _ = _; rw [hH, HZ.out]; rfl
  have HHS : Hid (H.size = 16) := by show _ = _; rw [← tl_size, hH, encL_length]
  have HB3 := Lib.hid (HB2.out.below hb3 (Nat.le_refl _))
  have hb03 := below2 hb02 hb3
  clear hzs hH hb02 hb3 HB2
  go_wp2_with fail
  refine (rfilled_any aad _ (by omega)).mono ?_
  rintro e w4 ⟨x, rfl, hx, hb4⟩
  have HX := Lib.hid hx
  have HXS : Hid (x.size < aad.size + 16) := by show _ < _; rw [← tl_size, hx]; exact HWA.out.2.2
  have HB4 := Lib.hid (HB3.out.below hb4 (Nat.le_refl _))
  have hb04 := below2 hb03 hb4
  clear hx hb03 hb4 HB3
  go_wp2_with fail
  refine (rfilled_any text _ (by omega)).mono ?_
  rintro e w5 ⟨y, rfl, hy, hb5⟩
  have HY := Lib.hid hy
  have HYS : Hid (y.size < text.size + 16) := by show _ < _; rw [← tl_size, hy]; exact HWC.out.2.2
  have z1 : ¬ 9223372036854775807 < x.size + y.size := by have := HXS.out; have := HYS.out; omega
  have HB5 := Lib.hid (HB4.out.below hb5 (Nat.le_refl _))
  have hb05 := below2 hb04 hb5
  clear hy hb04 hb5 HB4
  go_wp2_with fail
  refine (rbits_any aad _ (by omega)).mono ?_
  rintro e w6 ⟨u, rfl, hu, hb6⟩
  have HU := Lib.hid hu
  have HUS : Hid (u.size = 8) := by show _ = _; rw [← tl_size, hu, bitsL_length]
  have z2 : ¬ 9223372036854775807 < x.size + y.size + u.size := by have := HXS.out; have := HYS.out; have := HUS.out; omega
  have HB6 := Lib.hid (HB5.out.below hb6 (Nat.le_refl _))
  have hb06 := below2 hb05 hb6
  clear hu hb05 hb6 HB5
  go_wp2_with fail
  refine (rbits_any text _ (by omega)).mono ?_
  rintro e w7 ⟨v, rfl, hv, hb7⟩
  have HV := Lib.hid hv
  have HVS : Hid (v.size = 8) := by show _ = _; rw [← tl_size, hv, bitsL_length]
  have z3 : ¬ 9223372036854775807 < x.size + y.size + u.size + v.size := by have := HXS.out; have := HYS.out; have := HUS.out; have := HVS.out; omega
  have HB7 := Lib.hid (HB6.out.below hb7 (Nat.le_refl _))
  have hb07 := below2 hb06 hb7
  clear hv hb06 hb7 HB6
  go_wp2_with fail
  have hall : (x ++ y ++ u ++ v).toList = gcAll aad.toList text.toList := by rw [tl_append, tl_append, tl_append, HX.out, HY.out, HU.out, HV.out, gcAll, tl_size, tl_size]
  have hal := gcAll_length aad.toList text.toList
  rw [tl_size, tl_size] at hal
  refine (rgsumk H (x ++ y ++ u ++ v) HHS.out (by rw [hall]; exact hal.1) (by rw [hall]; omega) _).mono ?_
  rintro e w8 ⟨t, rfl, htt, hb8⟩
  have HT : Hid (t.toList = gsL (gcH key.toList) (gcAll aad.toList text.toList)) := by show _ = _; rw [htt, hall, HH.out]
  have HTS : Hid (t.size = 16) := by show _ = _; rw [← tl_size, htt, gsL_length]
  have HB8 := Lib.hid (HB7.out.below hb8 (Nat.le_refl _))
  have hb08 := below2 hb07 hb8
  clear htt hall hal hb07 hb8 HB7 z1 z2 z3
  go_wp2_with fail
  refine (rfirst_any iv g key.toList _ HB8.out HK.out v1).mono ?_
  rintro e w9 ⟨f, rfl, hf, hb9⟩
  have hfs : f.size = 16 := by rw [← tl_size, hf, gcFirst_length]
  have HFI := Lib.hid hf
  have HB9 := Lib.hid (HB8.out.below hb9 (Nat.le_refl _))
  have hb09 := below2 hb08 hb9
  clear hf hb08 hb9 HB8
  go_wp2_with fail
  refine (rencrypt_any f _ g key.toList HB9.out HK.out hfs).mono ?_
  rintro e w10 ⟨c, rfl, hcc, hb10⟩
  have HCC : Hid (c.toList = encL key.toList (gcFirst key.toList iv.toList)) := by show _ = _; rw [hcc, HFI.out]
  have HCS : Hid (c.size = 16) := by show _ = _; rw [← tl_size, hcc, encL_length]
  have hb010 := below2 hb09 hb10
  clear hfs hcc hb09 hb10
  go_wp2_with fail
  refine (rxor_any t c _ (by rw [HTS.out]; decide) (by rw [HCS.out]; decide)).mono ?_
  rintro e w11 ⟨q, rfl, hq, hb11⟩
  have hqs : q.size = 16 := by rw [← tl_size, hq, xorL_length, tl_size, tl_size, HTS.out, HCS.out]; rfl
  have k1 : (m : Int) ≤ (q.size : Int) := by have := HM.out; omega
  have k2 : m ≤ q.size := by have := HM.out; omega
  have HQQ := Lib.hid hq
  have hb011 := below2 hb010 hb11
  clear hq hqs hb010 hb11
  go_wp2_with fail
  go_ret2
  exact ret_se (tl_ext0 _ _) (by rw [HQQ.out, HT.out, HCC.out, gcTag]) rfl hb011
set_option maxRecDepth 100000 in
set_option maxHeartbeats 3200000 in
theorem rxor9_any (key iv text : ByteArray) (w : World) (hk : key.size = 16 ∨ key.size = 24 ∨ key.size = 32) (v1 : iv.size ≤ 1024) (ht : text.size ≤ 70000) : Calls Tryd.prog 41 #[.string key, .string iv, .string text] w (RetS (gcJoin key.toList iv.toList text.toList) w) := by
  have HK : Hid (key.toList.length = 16 ∨ key.toList.length = 24 ∨ key.toList.length = 32) := by show _ ∨ _; rw [tl_size]; exact hk
  go_enter Tryd.func41, Tryd.ntmps41
  go_wp2_with fail
  refine (rnew_any key _ hk).mono ?_
  rintro e w1 ⟨g, hg, rfl, hB, hb1⟩
  have HB1 := Lib.hid hB
  clear hB hg
  go_wp2_with fail
  refine (rfirst_any iv g key.toList _ HB1.out HK.out v1).mono ?_
  rintro e w2 ⟨f, rfl, hf, hb2⟩
  have hfs : f.size = 16 := by rw [← tl_size, hf, gcFirst_length]
  have hm : mayE f.size 4 = 0 := by rw [mayE, if_pos hfs, if_neg (by decide)]
  have hn : nextL f.toList 4 1 = nxt f.toList 4 1 := by rw [nextL, tl_size, hm, if_pos rfl]; rfl
  have HB2 := Lib.hid (HB1.out.below hb2 (Nat.le_refl _))
  have HFI := Lib.hid hf
  have HFS := Lib.hid hfs
  have HM := Lib.hid hm
  have HN := Lib.hid hn
  have hb02 := below2 hb1 hb2
  clear hf hfs hm hn hb1 hb2 HB1
  go_wp2_with fail
  refine (rcnext_any f 4 1 _ (by decide)).mono ?_
  rintro e w3 ⟨x, rfl, hx, hb3⟩
  rw [HM.out]
  rw [HN.out] at hx
  have hxs : x.size = 16 := by rw [← tl_size, hx, nxt_length _ _ _ (by rw [tl_size]; exact HFS.out)]
  have HB3 := Lib.hid (HB2.out.below hb3 (Nat.le_refl _))
  have HX := Lib.hid hx
  have hb03 := below2 hb02 hb3
  clear hx hb02 hb3 HB2
  go_wp2_with fail
  refine (rstream_any x 4 text.size _ g key.toList HB3.out HK.out hxs (by decide) (by decide) ht).mono ?_
  rintro e w4 ⟨y, rfl, hy, hb4⟩
  have hys : y.size ≤ 140737488351232 := by rw [← tl_size, hy, List.length_take]; omega
  have HY := Lib.hid hy
  have hb04 := below2 hb03 hb4
  clear hy hb03 hb4
  go_wp2_with fail
  refine (rxor_any text y _ (by omega) hys).mono ?_
  rintro e w5 ⟨q, rfl, hq, hb5⟩
  have HQ : Hid (q.toList = gcJoin key.toList iv.toList text.toList) := by show _ = _; rw [hq, HY.out, xorL_cut _ _ _ (by rw [tl_size]; exact Nat.le_refl _), gcJoin, ctrL, tl_size, HX.out, HFI.out]
  have hb05 := below2 hb04 hb5
  clear hq hb04 hb5
  go_wp2_with fail
  go_ret
  exact ⟨_, rfl, HQ.out, hb05⟩
theorem rTag9_any (key iv aad text : ByteArray) (s : Int) (w : World) : Calls Tryd.prog 26 #[.string key, .string iv, .string aad, .string text, .int .i64 s] w (RetSE (gcTagL key.toList iv.toList aad.toList text.toList s) (gcTE key.size iv.size aad.size s text.size) w) := by
  obtain ⟨c, hc⟩ : ∃ c, gcE key.size iv.size aad.size s = c := ⟨_, rfl⟩
  rw [gcTagL, tl_size, tl_size, tl_size, tl_size]
  by_cases h0 : c = 0
  · subst h0
    obtain ⟨hk, v0, v1, s0, s1, ha⟩ := gcE_zero hc
    obtain ⟨m, rfl⟩ := Int.eq_ofNat_of_zero_le (a := s) (by omega)
    by_cases ht : text.size ≤ 70000
    · have hT : gcTE key.size iv.size aad.size (m : Int) text.size = 0 := by rw [gcTE, if_pos hc, if_neg (by omega)]
      rw [hT, if_pos rfl, Int.toNat_natCast]
      exact g9Tag_ok key iv aad text m w hk (by omega) v1 (by omega) (by omega) ha ht
    · have hT : gcTE key.size iv.size aad.size (m : Int) text.size = 6 := by rw [gcTE, if_pos hc, if_pos (by omega)]
      rw [hT, if_neg (by decide)]
      exact g9Tag_long key iv aad text m w hk (by omega) v1 (by omega) (by omega) ha (by omega)
  · rw [gcTE_c hc h0, if_neg h0]
    exact g9Tag_first key iv aad text s c w hc h0
set_option maxRecDepth 100000 in
set_option maxHeartbeats 3200000 in
theorem g9Seal_ok (key iv aad text : ByteArray) (m : Nat) (w : World) (hk : key.size = 16 ∨ key.size = 24 ∨ key.size = 32) (v0 : iv.size ≠ 0) (v1 : iv.size ≤ 1024) (s0 : 12 ≤ m) (s1 : m ≤ 16) (ha : aad.size ≤ 70000) (ht : text.size ≤ 70000) : Calls Tryd.prog 22 #[.string key, .string iv, .string aad, .string text, .int .i64 (m : Int)] w (RetSE (gcJoin key.toList iv.toList text.toList ++ gcTag key.toList iv.toList aad.toList (gcJoin key.toList iv.toList text.toList) m) 0 w) := by
  have e1 : ¬ (70000 : Int) < (text.size : Int) := by omega
  have HC := Lib.hid (gcE_of (a := aad.size) hk v0 v1 s0 s1 ha)
  have TG := Lib.hid (fun (x : ByteArray) w hx => g9Tag_ok key iv aad x m w hk v0 v1 s0 s1 ha hx)
  have HM := Lib.hid s1
  have HTT := Lib.hid ht
  clear v0 s0 s1 ha
  go_enter Tryd.func22, Tryd.ntmps22
  go_wp2_with fail
  refine (rwrong9_any key iv aad (m : Int) _).mono ?_
  rintro e w0 ⟨rfl, rfl⟩
  rw [HC.out]
  go_wp2_with fail
  refine (rxor9_any key iv text _ hk v1 ht).mono ?_
  rintro e w1 ⟨x, rfl, hx, hb1⟩
  have hxs : x.size = text.size := by rw [← tl_size, hx, gcJoin_length, tl_size]
  have HX := Lib.hid hx
  have HXS := Lib.hid hxs
  clear hx
  go_wp2_with fail
  refine (TG.out x _ (by rw [hxs]; exact HTT.out)).mono ?_
  rintro e w2 ⟨y, rfl, hy, hb2⟩
  have hys : y.size = m := by rw [← tl_size, hy, gcTag_length _ _ _ _ _ HM.out]
  have hov : ¬ 9223372036854775807 < x.size + y.size := by have := HXS.out; have := HM.out; have := HTT.out; omega
  have HY := Lib.hid hy
  have hb02 := below2 hb1 hb2
  clear hy hys hb1 hb2
  go_wp2_with fail
  go_ret2
  exact ret_se (tl_append _ _) (by rw [HX.out, HY.out, HX.out]) rfl hb02
theorem rSeal9_any (key iv aad text : ByteArray) (s : Int) (w : World) : Calls Tryd.prog 22 #[.string key, .string iv, .string aad, .string text, .int .i64 s] w (RetSE (gcSealL key.toList iv.toList aad.toList text.toList s) (gcTE key.size iv.size aad.size s text.size) w) := by
  obtain ⟨c, hc⟩ : ∃ c, gcE key.size iv.size aad.size s = c := ⟨_, rfl⟩
  rw [gcSealL, tl_size, tl_size, tl_size, tl_size]
  by_cases h0 : c = 0
  · subst h0
    obtain ⟨hk, v0, v1, s0, s1, ha⟩ := gcE_zero hc
    obtain ⟨m, rfl⟩ := Int.eq_ofNat_of_zero_le (a := s) (by omega)
    by_cases ht : text.size ≤ 70000
    · have hT : gcTE key.size iv.size aad.size (m : Int) text.size = 0 := by rw [gcTE, if_pos hc, if_neg (by omega)]
      rw [hT, if_pos rfl, Int.toNat_natCast]
      exact g9Seal_ok key iv aad text m w hk (by omega) v1 (by omega) (by omega) ha ht
    · have hT : gcTE key.size iv.size aad.size (m : Int) text.size = 6 := by rw [gcTE, if_pos hc, if_pos (by omega)]
      rw [hT, if_neg (by decide)]
      exact g9Seal_long key iv aad text m w hk (by omega) v1 (by omega) (by omega) ha (by omega)
  · rw [gcTE_c hc h0, if_neg h0]
    exact g9Seal_first key iv aad text s c w hc h0
set_option maxRecDepth 100000 in
set_option maxHeartbeats 3200000 in
theorem g9Open_short (key iv aad text : ByteArray) (m : Nat) (w : World) (hk : key.size = 16 ∨ key.size = 24 ∨ key.size = 32) (v0 : iv.size ≠ 0) (v1 : iv.size ≤ 1024) (s0 : 12 ≤ m) (s1 : m ≤ 16) (ha : aad.size ≤ 70000) (h1 : text.size < m) : Calls Tryd.prog 24 #[.string key, .string iv, .string aad, .string text, .int .i64 (m : Int)] w (RetSE [] 6 w) := by
  obtain ⟨M, hM⟩ : ∃ M, M = 70000 + m := ⟨_, rfl⟩
  have q1 : 70000 + (m : Int) = (M : Int) := by omega
  have q2 : IntKind.i64.wrap (M : Int) = (M : Int) := wrap_in _ (by omega) (by omega)
  have e1 : (text.size : Int) < (m : Int) := by omega
  have HC := Lib.hid (gcE_of (a := aad.size) hk v0 v1 s0 s1 ha)
  clear hk v0 v1 s0 s1 ha h1 hM
  go_enter Tryd.func24, Tryd.ntmps24
  go_wp2_with fail
  refine (rwrong9_any key iv aad (m : Int) _).mono ?_
  rintro e w0 ⟨rfl, rfl⟩
  rw [HC.out]
  go_wp2_with fail
  go_ret2
  exact ret_se (tl_mk []) rfl rfl (Below.refl _ _)
set_option maxRecDepth 100000 in
set_option maxHeartbeats 3200000 in
theorem g9Open_long (key iv aad text : ByteArray) (m : Nat) (w : World) (hk : key.size = 16 ∨ key.size = 24 ∨ key.size = 32) (v0 : iv.size ≠ 0) (v1 : iv.size ≤ 1024) (s0 : 12 ≤ m) (s1 : m ≤ 16) (ha : aad.size ≤ 70000) (h1 : 70000 + m < text.size) : Calls Tryd.prog 24 #[.string key, .string iv, .string aad, .string text, .int .i64 (m : Int)] w (RetSE [] 6 w) := by
  obtain ⟨M, hM⟩ : ∃ M, M = 70000 + m := ⟨_, rfl⟩
  have q1 : 70000 + (m : Int) = (M : Int) := by omega
  have q2 : IntKind.i64.wrap (M : Int) = (M : Int) := wrap_in _ (by omega) (by omega)
  have e1 : ¬ (text.size : Int) < (m : Int) := by omega
  have e2 : (M : Int) < (text.size : Int) := by omega
  have HC := Lib.hid (gcE_of (a := aad.size) hk v0 v1 s0 s1 ha)
  clear hk v0 v1 s0 s1 ha h1 hM
  go_enter Tryd.func24, Tryd.ntmps24
  go_wp2_with fail
  refine (rwrong9_any key iv aad (m : Int) _).mono ?_
  rintro e w0 ⟨rfl, rfl⟩
  rw [HC.out]
  go_wp2_with fail
  go_ret2
  exact ret_se (tl_mk []) rfl rfl (Below.refl _ _)
set_option maxRecDepth 100000 in
set_option maxHeartbeats 3200000 in
theorem g9Open_ok (key iv aad text : ByteArray) (m : Nat) (b : Bool) (w : World) (hk : key.size = 16 ∨ key.size = 24 ∨ key.size = 32) (v0 : iv.size ≠ 0) (v1 : iv.size ≤ 1024) (s0 : 12 ≤ m) (s1 : m ≤ 16) (ha : aad.size ≤ 70000) (h1 : m ≤ text.size) (h2 : text.size ≤ 70000 + m)
    (hb : (text.toList.drop (text.size - m) == gcTag key.toList iv.toList aad.toList (gcCut text.toList (m : Int)) m) = b) :
    Calls Tryd.prog 24 #[.string key, .string iv, .string aad, .string text, .int .i64 (m : Int)] w (RetSE (if b then gcJoin key.toList iv.toList (gcCut text.toList (m : Int)) else []) (if b then 0 else 8) w) := by
  obtain ⟨M, hM⟩ : ∃ M, M = 70000 + m := ⟨_, rfl⟩
  have q1 : 70000 + (m : Int) = (M : Int) := by omega
  have q2 : IntKind.i64.wrap (M : Int) = (M : Int) := wrap_in _ (by omega) (by omega)
  have e1 : ¬ (text.size : Int) < (m : Int) := by omega
  have e2 : ¬ (M : Int) < (text.size : Int) := by omega
  obtain ⟨a, had⟩ : ∃ a, a = text.size - m := ⟨_, rfl⟩
  have p1 : (text.size : Int) - (m : Int) = (a : Int) := by omega
  have p2 : IntKind.i64.wrap (a : Int) = (a : Int) := wrap_in _ (by omega) (by omega)
  have p3 : (0 : Int) ≤ (a : Int) := by omega
  have p4 : (a : Int) ≤ (text.size : Int) := by omega
  have p5 : a ≤ text.size := by omega
  obtain ⟨pc, hpc⟩ : ∃ pc, text.extract 0 a = pc := ⟨_, rfl⟩
  obtain ⟨tg, htg⟩ : ∃ tg, text.extract a text.size = tg := ⟨_, rfl⟩
  have hpl : pc.toList = gcCut text.toList (m : Int) := by rw [← hpc, tl_ext0, gcCut, tl_size, Int.toNat_natCast, had]
  have hps : pc.size ≤ 70000 := by rw [← tl_size, ← hpc, tl_ext0, List.length_take, tl_size]; omega
  have htl : tg.toList = text.toList.drop a := by rw [← htg, tl_extE _ _ _ rfl]
  have hb2 : (tg.toList == gcTag key.toList iv.toList aad.toList pc.toList m) = b := by rw [htl, had, hpl]; exact hb
  have HPL := Lib.hid hpl
  have HPS := Lib.hid hps
  have HB2 := Lib.hid hb2
  have HC := Lib.hid (gcE_of (a := aad.size) hk v0 v1 s0 s1 ha)
  have TG := Lib.hid (fun (x : ByteArray) w hx => g9Tag_ok key iv aad x m w hk v0 v1 s0 s1 ha hx)
  have HK := Lib.hid hk
  have HV1 := Lib.hid v1
  clear hk v0 v1 s0 s1 ha h1 h2 hM hb hb2 hpl hps htl had
  cases b
  · show Calls _ _ _ _ (RetSE [] 8 w)
    go_enter Tryd.func24, Tryd.ntmps24
    go_wp2_with fail
    refine (rwrong9_any key iv aad (m : Int) _).mono ?_
    rintro e w0 ⟨rfl, rfl⟩
    rw [HC.out]
    go_wp2_with fail
    refine (TG.out pc _ HPS.out).mono ?_
    rintro e w1 ⟨y, rfl, hy, hb1⟩
    have hne : (y.toList == tg.toList) = false := by rw [hy, beq_eq_false_iff_ne]; intro hq; have := HB2.out; rw [hq, beq_self_eq_true] at this; cases this
    have hne2 : y ≠ tg := fun hq => by rw [hq, beq_self_eq_true] at hne; cases hne
    clear hy
    go_wp2_with fail
    go_ret2
    exact ret_se (tl_mk []) rfl rfl hb1
  · show Calls _ _ _ _ (RetSE (gcJoin key.toList iv.toList (gcCut text.toList (m : Int))) 0 w)
    go_enter Tryd.func24, Tryd.ntmps24
    go_wp2_with fail
    refine (rwrong9_any key iv aad (m : Int) _).mono ?_
    rintro e w0 ⟨rfl, rfl⟩
    rw [HC.out]
    go_wp2_with fail
    refine (TG.out pc _ HPS.out).mono ?_
    rintro e w1 ⟨y, rfl, hy, hb1⟩
    obtain rfl : y = tg := tl_inj (by rw [hy]; exact (eq_of_beq HB2.out).symm)
    clear hy
    go_wp2_with fail
    refine (rxor9_any key iv pc _ HK.out HV1.out HPS.out).mono ?_
    rintro e w2 ⟨x, rfl, hx, hb2⟩
    have HX := Lib.hid hx
    have hb02 := below2 hb1 hb2
    clear hx hb1 hb2
    go_wp2_with fail
    go_ret2
    exact ret_se HX.out (by rw [HPL.out]) rfl hb02
theorem rOpen9_any (key iv aad text : ByteArray) (s : Int) (w : World) : Calls Tryd.prog 24 #[.string key, .string iv, .string aad, .string text, .int .i64 s] w (RetSE (gcOpenL key.toList iv.toList aad.toList text.toList s) (gcOpenE key.toList iv.toList aad.toList text.toList s) w) := by
  obtain ⟨c, hc⟩ : ∃ c, gcE key.size iv.size aad.size s = c := ⟨_, rfl⟩
  rw [gcOpenL, gcOpenE, tl_size, tl_size, tl_size, tl_size]
  by_cases h0 : c = 0
  · subst h0
    obtain ⟨hk, v0, v1, s0, s1, ha⟩ := gcE_zero hc
    obtain ⟨m, rfl⟩ := Int.eq_ofNat_of_zero_le (a := s) (by omega)
    have e6 : ¬ (6 : Int) = 0 := by decide
    by_cases h1 : text.size < m
    · have hO : gcOE key.size iv.size aad.size (m : Int) text.size = 6 := by rw [gcOE, if_pos hc, if_pos (by omega)]
      rw [hO, if_neg e6, if_neg e6]
      exact g9Open_short key iv aad text m w hk (by omega) v1 (by omega) (by omega) ha h1
    · by_cases h2 : 70000 + m < text.size
      · have hO : gcOE key.size iv.size aad.size (m : Int) text.size = 6 := by rw [gcOE, if_pos hc, if_pos (by omega)]
        rw [hO, if_neg e6, if_neg e6]
        exact g9Open_long key iv aad text m w hk (by omega) v1 (by omega) (by omega) ha h2
      · have hO : gcOE key.size iv.size aad.size (m : Int) text.size = 0 := by rw [gcOE, if_pos hc, if_neg (by omega)]
        rw [hO, if_pos rfl, Int.toNat_natCast]
        obtain ⟨b, hb⟩ : ∃ b, (text.toList.drop (text.size - m) == gcTag key.toList iv.toList aad.toList (gcCut text.toList (m : Int)) m) = b := ⟨_, rfl⟩
        have h := g9Open_ok key iv aad text m b w hk (by omega) v1 (by omega) (by omega) ha (by omega) (by omega) hb
        cases b
        · have hne : ¬ gcTag key.toList iv.toList aad.toList (gcCut text.toList (m : Int)) m = text.toList.drop (text.size - m) := fun e => by rw [e, beq_self_eq_true] at hb; cases hb
          rw [if_neg hne, if_neg (by decide)]
          exact h
        · have he : gcTag key.toList iv.toList aad.toList (gcCut text.toList (m : Int)) m = text.toList.drop (text.size - m) := (eq_of_beq hb).symm
          rw [if_pos he, if_pos rfl]
          exact h
  · rw [gcOE_c hc h0, if_neg h0, if_neg h0]
    exact g9Open_first key iv aad text s c w hc h0
end Go.Proofs.YtkedoiikkjeadaaDoor
namespace Go.Proofs.YtkedoiikkjeadaaDoor
open Go.RowKit
set_option linter.unusedVariables false
set_option linter.unusedSimpArgs false
set_option maxRecDepth 100000 in
theorem gcEx : gcJoin (zer 16) (zer 12) [] ++ gcTag (zer 16) (zer 12) [] (gcJoin (zer 16) (zer 12) []) 16 = [88, 226, 252, 206, 250, 126, 48, 97, 54, 127, 29, 87, 164, 231, 69, 90] := by decide +kernel
theorem box9_bx (w : World) (key nonce aad : ByteArray) (s : Int) : ∃ w0, w.alloc (Obj.cells #[.string key, .string nonce, .string aad, .int .i64 s] 32) = w0 ∧ Bx w0 w.heap.size key nonce aad s ∧ Below w.heap.size w w0 ∧ w.heap.size < w0.heap.size := by
  have h := At.ofAlloc w #[.string key, .string nonce, .string aad, .int .i64 s] 32
  exact ⟨_, rfl, ⟨h.cell 0 _ rfl, h.cell 1 _ rfl, h.cell 2 _ rfl, h.cell 3 _ rfl⟩, (Below.refl _ _).alloc (Nat.le_refl _) _, by simp⟩
set_option maxRecDepth 100000 in
set_option maxHeartbeats 1600000 in
theorem bx9long_any (key nonce aad text : ByteArray) (s : Int) (w : World) : Calls Tryd.prog 20 #[.agg #[.string key, .string nonce, .string aad, .int .i64 s], .string text] w (RetBb w) := by
  by_cases h1 : (700 : Int) < (aad.size : Int)
  · by_cases h2 : (aad.size : Int) ≤ 70000
    · go_enter Tryd.func20, Tryd.ntmps20
      go_wp2_with fail
      go_ret
      exact ⟨_, rfl, (Below.refl _ _).alloc (Nat.le_refl _) _⟩
    · by_cases h3 : (700 : Int) < (text.size : Int)
      · by_cases h4 : (text.size : Int) ≤ 70016
        all_goals
          go_enter Tryd.func20, Tryd.ntmps20
          go_wp2_with fail
          go_ret
          exact ⟨_, rfl, (Below.refl _ _).alloc (Nat.le_refl _) _⟩
      · go_enter Tryd.func20, Tryd.ntmps20
        go_wp2_with fail
        go_ret
        exact ⟨_, rfl, (Below.refl _ _).alloc (Nat.le_refl _) _⟩
  · by_cases h3 : (700 : Int) < (text.size : Int)
    · by_cases h4 : (text.size : Int) ≤ 70016
      all_goals
        go_enter Tryd.func20, Tryd.ntmps20
        go_wp2_with fail
        go_ret
        exact ⟨_, rfl, (Below.refl _ _).alloc (Nat.le_refl _) _⟩
    · go_enter Tryd.func20, Tryd.ntmps20
      go_wp2_with fail
      go_ret
      exact ⟨_, rfl, (Below.refl _ _).alloc (Nat.le_refl _) _⟩
set_option maxRecDepth 100000 in
set_option maxHeartbeats 3200000 in
theorem wakes9_any (w : World) (hF : Fal w) : Calls Tryd.prog 19 #[] w (RetT w) := by
  obtain ⟨k, hk⟩ : ∃ k : ByteArray, k = ⟨#[0, 0, 0, 0, 0, 0, 0, 0, 0, 0, 0, 0, 0, 0, 0, 0]⟩ := ⟨_, rfl⟩
  obtain ⟨v, hv⟩ : ∃ v, k.extract 0 12 = v := ⟨_, rfl⟩
  obtain ⟨n, hn⟩ : ∃ n : ByteArray, n = ⟨#[]⟩ := ⟨_, rfl⟩
  have hkl : k.toList = zer 16 := by rw [hk]; exact tl_mk _
  have hvl : v.toList = zer 12 := by rw [← hv, tl_ext0, hkl]; rfl
  have hnl : n.toList = [] := by rw [hn]; exact tl_mk _
  have hks : k.size = 16 := by rw [← tl_size, hkl]; rfl
  have hvs : v.size = 12 := by rw [← tl_size, hvl]; rfl
  have hns : n.size = 0 := by rw [← tl_size, hnl]; rfl
  have hE : gcTE k.size v.size n.size 16 n.size = 0 := by rw [hks, hvs, hns]; decide
  have hL : gcSealL k.toList v.toList n.toList n.toList 16 = [88, 226, 252, 206, 250, 126, 48, 97, 54, 127, 29, 87, 164, 231, 69, 90] := by
    rw [gcSealL, tl_size, tl_size, tl_size, hE, if_pos rfl, hkl, hvl, hnl]
    exact gcEx
  have HW := Lib.hid (fun w hF => gSeal_any k v n n 16 w hF)
  have HW2 := HW.out
  rw [hE, hL] at HW2
  have HW3 := Lib.hid HW2
  have HF := Lib.hid hF
  have q1 : (12 : Int) ≤ (k.size : Int) := by omega
  have q2 : 12 ≤ k.size := by omega
  have HKK := Lib.hid hk
  have HNN := Lib.hid hn
  clear hkl hvl hnl hks hvs hns hE hL HW HW2 hF hk hn
  go_enter Tryd.func19, Tryd.ntmps19
  rw [← HKK.out, ← HNN.out]
  go_wp2_with fail
  refine (HW3.out _ HF.out).mono ?_
  rintro e w1 ⟨x, rfl, hx, hb1⟩
  obtain rfl : x = ByteArray.mk #[88, 226, 252, 206, 250, 126, 48, 97, 54, 127, 29, 87, 164, 231, 69, 90] := tl_inj (by rw [hx]; exact (tl_mk _).symm)
  clear hx
  go_wp2_with fail
  go_ret
  exact ⟨rfl, hb1⟩
set_option maxRecDepth 100000 in
set_option maxHeartbeats 1600000 in
theorem gcmSeals_walk (key nonce aad : ByteArray) (s : Int) (text : ByteArray) (w : World) (hF : Fal w) : Calls Tryd.prog 8 #[.agg #[.string key, .string nonce, .string aad, .int .i64 s], .string text] w (RetT w) := by
  obtain ⟨c, hc⟩ : ∃ c, gcTE key.size nonce.size aad.size s text.size = c := ⟨_, rfl⟩
  have HC := Lib.hid hc
  have HF := Lib.hid hF
  clear hc hF
  go_enter Tryd.func8, Tryd.ntmps8
  go_wp2_with fail
  obtain ⟨w0, hw0, hX, hb0, hl0⟩ := box9_bx w key nonce aad s
  rw [hw0]
  obtain ⟨B, hB⟩ : ∃ B, w.heap.size = B := ⟨_, rfl⟩
  rw [hB] at hX hl0 ⊢
  have HB := Lib.hid hB
  clear hw0 hB
  refine (wakes9_any _ (HF.out.below hb0 HF.out.2)).mono ?_
  rintro e w1 ⟨rfl, hb1⟩
  have hl1 : B < w1.heap.size := Nat.lt_of_lt_of_le hl0 hb1.size
  have HX1 := Lib.hid (hX.below hb1 hl0)
  obtain ⟨hc0, hc1, hc2, hc3⟩ := HX1.out
  have hb01 := below2 hb0 hb1
  clear hX hb0 hb1 hl0
  go_wp2_with fail
  refine (bx9long_any key nonce aad text s _).mono ?_
  rintro e w2 ⟨b, rfl, hb2⟩
  have hl2 : B < w2.heap.size := Nat.lt_of_lt_of_le hl1 hb2.size
  have HX2 := Lib.hid (HX1.out.below hb2 hl1)
  have hb02 := below2 hb01 hb2
  clear hc0 hc1 hc2 hc3 hb01 hb2 hl1 HX1
  obtain ⟨hc0, hc1, hc2, hc3⟩ := HX2.out
  cases b
  · go_wp2_with fail
    refine (gSeal_any key nonce aad text s _ (HF.out.below hb02 HF.out.2)).mono ?_
    rintro e w3 ⟨x1, rfl, hx1, hb3⟩
    rw [HC.out]
    have HX1L := Lib.hid hx1
    have hl3 : B < w3.heap.size := Nat.lt_of_lt_of_le hl2 hb3.size
    have HX3 := Lib.hid (HX2.out.below hb3 hl2)
    have hb03 := below2 hb02 hb3
    clear hc0 hc1 hc2 hc3 hb02 hb3 hl2 HX2
    obtain ⟨hc0, hc1, hc2, hc3⟩ := HX3.out
    clear hx1
    go_wp2_with fail
    refine (rSeal9_any key nonce aad text s _).mono ?_
    rintro e w4 ⟨x2, rfl, hx2, hb4⟩
    rw [HC.out]
    obtain rfl : x1 = x2 := tl_inj (by rw [HX1L.out, hx2])
    have hb04 := below2 hb03 hb4
    clear hx2 hc0 hc1 hc2 hc3 hb4 hb03
    go_wp2_with fail
    go_ret
    exact ⟨rfl, hb04⟩
  · clear hc0 hc1 hc2 hc3
    go_wp2_with fail
    go_ret
    exact ⟨rfl, hb02⟩
set_option maxRecDepth 100000 in
set_option maxHeartbeats 1600000 in
theorem gcmOpens_walk (key nonce aad : ByteArray) (s : Int) (text : ByteArray) (w : World) (hF : Fal w) : Calls Tryd.prog 9 #[.agg #[.string key, .string nonce, .string aad, .int .i64 s], .string text] w (RetT w) := by
  obtain ⟨c, hc⟩ : ∃ c, gcOpenE key.toList nonce.toList aad.toList text.toList s = c := ⟨_, rfl⟩
  have HC := Lib.hid hc
  have HF := Lib.hid hF
  clear hc hF
  go_enter Tryd.func9, Tryd.ntmps9
  go_wp2_with fail
  obtain ⟨w0, hw0, hX, hb0, hl0⟩ := box9_bx w key nonce aad s
  rw [hw0]
  obtain ⟨B, hB⟩ : ∃ B, w.heap.size = B := ⟨_, rfl⟩
  rw [hB] at hX hl0 ⊢
  have HB := Lib.hid hB
  clear hw0 hB
  refine (wakes9_any _ (HF.out.below hb0 HF.out.2)).mono ?_
  rintro e w1 ⟨rfl, hb1⟩
  have hl1 : B < w1.heap.size := Nat.lt_of_lt_of_le hl0 hb1.size
  have HX1 := Lib.hid (hX.below hb1 hl0)
  obtain ⟨hc0, hc1, hc2, hc3⟩ := HX1.out
  have hb01 := below2 hb0 hb1
  clear hX hb0 hb1 hl0
  go_wp2_with fail
  refine (bx9long_any key nonce aad text s _).mono ?_
  rintro e w2 ⟨b, rfl, hb2⟩
  have hl2 : B < w2.heap.size := Nat.lt_of_lt_of_le hl1 hb2.size
  have HX2 := Lib.hid (HX1.out.below hb2 hl1)
  have hb02 := below2 hb01 hb2
  clear hc0 hc1 hc2 hc3 hb01 hb2 hl1 HX1
  obtain ⟨hc0, hc1, hc2, hc3⟩ := HX2.out
  cases b
  · go_wp2_with fail
    refine (gOpen_any key nonce aad text s _ (HF.out.below hb02 HF.out.2)).mono ?_
    rintro e w3 ⟨x1, rfl, hx1, hb3⟩
    rw [HC.out]
    have HX1L := Lib.hid hx1
    have hl3 : B < w3.heap.size := Nat.lt_of_lt_of_le hl2 hb3.size
    have HX3 := Lib.hid (HX2.out.below hb3 hl2)
    have hb03 := below2 hb02 hb3
    clear hc0 hc1 hc2 hc3 hb02 hb3 hl2 HX2
    obtain ⟨hc0, hc1, hc2, hc3⟩ := HX3.out
    clear hx1
    go_wp2_with fail
    refine (rOpen9_any key nonce aad text s _).mono ?_
    rintro e w4 ⟨x2, rfl, hx2, hb4⟩
    rw [HC.out]
    obtain rfl : x1 = x2 := tl_inj (by rw [HX1L.out, hx2])
    have hb04 := below2 hb03 hb4
    clear hx2 hc0 hc1 hc2 hc3 hb4 hb03
    go_wp2_with fail
    go_ret
    exact ⟨rfl, hb04⟩
  · clear hc0 hc1 hc2 hc3
    go_wp2_with fail
    go_ret
    exact ⟨rfl, hb02⟩
set_option maxRecDepth 100000 in
set_option maxHeartbeats 1600000 in
theorem gcmTags_walk (key nonce aad : ByteArray) (s : Int) (text : ByteArray) (w : World) (hF : Fal w) : Calls Tryd.prog 10 #[.agg #[.string key, .string nonce, .string aad, .int .i64 s], .string text] w (RetT w) := by
  obtain ⟨c, hc⟩ : ∃ c, gcTE key.size nonce.size aad.size s text.size = c := ⟨_, rfl⟩
  have HC := Lib.hid hc
  have HF := Lib.hid hF
  clear hc hF
  go_enter Tryd.func10, Tryd.ntmps10
  go_wp2_with fail
  obtain ⟨w0, hw0, hX, hb0, hl0⟩ := box9_bx w key nonce aad s
  rw [hw0]
  obtain ⟨B, hB⟩ : ∃ B, w.heap.size = B := ⟨_, rfl⟩
  rw [hB] at hX hl0 ⊢
  have HB := Lib.hid hB
  clear hw0 hB
  refine (wakes9_any _ (HF.out.below hb0 HF.out.2)).mono ?_
  rintro e w1 ⟨rfl, hb1⟩
  have hl1 : B < w1.heap.size := Nat.lt_of_lt_of_le hl0 hb1.size
  have HX1 := Lib.hid (hX.below hb1 hl0)
  obtain ⟨hc0, hc1, hc2, hc3⟩ := HX1.out
  have hb01 := below2 hb0 hb1
  clear hX hb0 hb1 hl0
  go_wp2_with fail
  refine (bx9long_any key nonce aad text s _).mono ?_
  rintro e w2 ⟨b, rfl, hb2⟩
  have hl2 : B < w2.heap.size := Nat.lt_of_lt_of_le hl1 hb2.size
  have HX2 := Lib.hid (HX1.out.below hb2 hl1)
  have hb02 := below2 hb01 hb2
  clear hc0 hc1 hc2 hc3 hb01 hb2 hl1 HX1
  obtain ⟨hc0, hc1, hc2, hc3⟩ := HX2.out
  cases b
  · go_wp2_with fail
    refine (gTag_any key nonce aad text s _ (HF.out.below hb02 HF.out.2)).mono ?_
    rintro e w3 ⟨x1, rfl, hx1, hb3⟩
    rw [HC.out]
    have HX1L := Lib.hid hx1
    have hl3 : B < w3.heap.size := Nat.lt_of_lt_of_le hl2 hb3.size
    have HX3 := Lib.hid (HX2.out.below hb3 hl2)
    have hb03 := below2 hb02 hb3
    clear hc0 hc1 hc2 hc3 hb02 hb3 hl2 HX2
    obtain ⟨hc0, hc1, hc2, hc3⟩ := HX3.out
    clear hx1
    go_wp2_with fail
    refine (rTag9_any key nonce aad text s _).mono ?_
    rintro e w4 ⟨x2, rfl, hx2, hb4⟩
    rw [HC.out]
    obtain rfl : x1 = x2 := tl_inj (by rw [HX1L.out, hx2])
    have hb04 := below2 hb03 hb4
    clear hx2 hc0 hc1 hc2 hc3 hb4 hb03
    go_wp2_with fail
    go_ret
    exact ⟨rfl, hb04⟩
  · clear hc0 hc1 hc2 hc3
    go_wp2_with fail
    go_ret
    exact ⟨rfl, hb02⟩
theorem gcTE_zero {k v a n : Nat} {s : Int} (h : gcTE k v a s n = 0) : gcE k v a s = 0 ∧ n ≤ 70000 := by
  unfold gcTE at h
  split at h
  · rename_i h1
    split at h
    · cases h
    · exact ⟨h1, by omega⟩
  · rename_i h1
    exact absurd h h1
theorem gcBack (K V A T : List UInt8) (m : Nat) (h : gcTE K.length V.length A.length (m : Int) T.length = 0) :
    (gcSealL K V A T (m : Int)).length = T.length + m ∧ gcOpenE K V A (gcSealL K V A T (m : Int)) (m : Int) = 0 ∧ gcOpenL K V A (gcSealL K V A T (m : Int)) (m : Int) = T := by
  obtain ⟨hE, hn⟩ := gcTE_zero h
  have hz := gcE_zero hE
  have m16 : m ≤ 16 := by omega
  have hS : gcSealL K V A T (m : Int) = gcJoin K V T ++ gcTag K V A (gcJoin K V T) m := by rw [gcSealL, if_pos h, Int.toNat_natCast]
  have hj : (gcJoin K V T).length = T.length := gcJoin_length _ _ _
  have ht : (gcTag K V A (gcJoin K V T) m).length = m := gcTag_length _ _ _ _ _ m16
  have hl : (gcSealL K V A T (m : Int)).length = T.length + m := by rw [hS, List.length_append, hj, ht]
  have hO : gcOE K.length V.length A.length (m : Int) (gcSealL K V A T (m : Int)).length = 0 := by rw [gcOE, if_pos hE, hl, if_neg (by omega)]
  have hC : gcCut (gcSealL K V A T (m : Int)) (m : Int) = gcJoin K V T := by
    rw [gcCut, Int.toNat_natCast, hl, Nat.add_sub_cancel, hS, List.take_left' hj]
  have hD : (gcSealL K V A T (m : Int)).drop ((gcSealL K V A T (m : Int)).length - m) = gcTag K V A (gcJoin K V T) m := by
    rw [hl, Nat.add_sub_cancel, hS, List.drop_left' hj]
  have hOE : gcOpenE K V A (gcSealL K V A T (m : Int)) (m : Int) = 0 := by
    rw [gcOpenE, if_pos hO, hC, Int.toNat_natCast, hD, if_pos rfl]
  exact ⟨hl, hOE, by rw [gcOpenL, if_pos hOE, hC, gcJoin_twice]⟩
theorem empty9 {s : ByteArray} (h : s.toList = []) : s = ByteArray.mk #[] := tl_inj (by rw [h]; exact (tl_mk []).symm)
set_option maxRecDepth 100000 in
set_option maxHeartbeats 1600000 in
theorem gcmBack_walk (key nonce aad : ByteArray) (s : Int) (text : ByteArray) (w : World) (hF : Fal w) : Calls Tryd.prog 11 #[.agg #[.string key, .string nonce, .string aad, .int .i64 s], .string text] w (RetT w) := by
  obtain ⟨c, hc⟩ : ∃ c, gcTE key.size nonce.size aad.size s text.size = c := ⟨_, rfl⟩
  have HC := Lib.hid hc
  have HF := Lib.hid hF
  clear hF
  by_cases h0 : c = 0
  · subst h0
    have hz := gcE_zero (gcTE_zero hc).1
    obtain ⟨s, rfl⟩ := Int.eq_ofNat_of_zero_le (a := s) (by omega)
    have hbk := gcBack key.toList nonce.toList aad.toList text.toList s (by rw [tl_size, tl_size, tl_size, tl_size]; exact hc)
    have HBK := Lib.hid hbk
    have ht7 : text.size ≤ 70000 := (gcTE_zero hc).2
    have hs16 : s ≤ 16 := by omega
    have n1 : IntKind.i64.wrap ((text.size : Int) + (s : Int)) = (text.size : Int) + (s : Int) := wrap_in _ (by omega) (by omega)
    clear hc hz hbk
    go_enter Tryd.func11, Tryd.ntmps11
    go_wp2_with fail
    obtain ⟨w0, hw0, hX, hb0, hl0⟩ := box9_bx w key nonce aad (s : Int)
    rw [hw0]
    obtain ⟨B, hB⟩ : ∃ B, w.heap.size = B := ⟨_, rfl⟩
    rw [hB] at hX hl0 ⊢
    have HB := Lib.hid hB
    clear hw0 hB
    refine (wakes9_any _ (HF.out.below hb0 HF.out.2)).mono ?_
    rintro e w1 ⟨rfl, hb1⟩
    have hl1 : B < w1.heap.size := Nat.lt_of_lt_of_le hl0 hb1.size
    have HX1 := Lib.hid (hX.below hb1 hl0)
    obtain ⟨hc0, hc1, hc2, hc3⟩ := HX1.out
    have hb01 := below2 hb0 hb1
    clear hX hb0 hb1 hl0
    go_wp2_with fail
    refine (gSeal_any key nonce aad text (s : Int) _ (HF.out.below hb01 HF.out.2)).mono ?_
    rintro e w2 ⟨x, rfl, hx, hb2⟩
    rw [HC.out]
    have hxs : x.size = text.size + s := by rw [← tl_size, hx, HBK.out.1, tl_size]
    have HXX := Lib.hid hx
    have HXS := Lib.hid hxs
    have hl2 : B < w2.heap.size := Nat.lt_of_lt_of_le hl1 hb2.size
    have HX2 := Lib.hid (HX1.out.below hb2 hl1)
    have hb02 := below2 hb01 hb2
    clear hc0 hc1 hc2 hc3 hb01 hb2 hl1 HX1
    obtain ⟨hc0, hc1, hc2, hc3⟩ := HX2.out
    clear hx hxs
    go_wp2_with fail
    refine (gOpen_any key nonce aad x (s : Int) _ (HF.out.below hb02 HF.out.2)).mono ?_
    rintro e w3 ⟨t, rfl, ht, hb3⟩
    rw [HXX.out, HBK.out.2.1]
    rw [HXX.out, HBK.out.2.2] at ht
    obtain rfl := tl_inj ht
    have hl3 : B < w3.heap.size := Nat.lt_of_lt_of_le hl2 hb3.size
    have HX3 := Lib.hid (HX2.out.below hb3 hl2)
    have hb03 := below2 hb02 hb3
    clear hc0 hc1 hc2 hc3 hb02 hb3 hl2 HX2
    obtain ⟨hc0, hc1, hc2, hc3⟩ := HX3.out
    have hxe : ((x.size : Int) == (t.size : Int) + (s : Int)) = true := by rw [beq_iff_eq]; have := HXS.out; omega
    clear ht
    go_wp2_with fail
    go_ret
    exact ⟨rfl, hb03⟩
  · have e1 : (c != 0) = true := by rw [bne_iff_ne]; exact h0
    have HL : Hid (gcSealL key.toList nonce.toList aad.toList text.toList s = []) := by show _ = _; rw [gcSealL, tl_size, tl_size, tl_size, tl_size, hc, if_neg h0]
    clear hc h0
    go_enter Tryd.func11, Tryd.ntmps11
    go_wp2_with fail
    obtain ⟨w0, hw0, hX, hb0, hl0⟩ := box9_bx w key nonce aad s
    rw [hw0]
    obtain ⟨B, hB⟩ : ∃ B, w.heap.size = B := ⟨_, rfl⟩
    rw [hB] at hX hl0 ⊢
    have HB := Lib.hid hB
    clear hw0 hB
    refine (wakes9_any _ (HF.out.below hb0 HF.out.2)).mono ?_
    rintro e w1 ⟨rfl, hb1⟩
    have hl1 : B < w1.heap.size := Nat.lt_of_lt_of_le hl0 hb1.size
    have HX1 := Lib.hid (hX.below hb1 hl0)
    obtain ⟨hc0, hc1, hc2, hc3⟩ := HX1.out
    have hb01 := below2 hb0 hb1
    clear hX hb0 hb1 hl0
    go_wp2_with fail
    refine (gSeal_any key nonce aad text s _ (HF.out.below hb01 HF.out.2)).mono ?_
    rintro e w2 ⟨x, rfl, hx, hb2⟩
    rw [HC.out]
    rw [HL.out] at hx
    obtain rfl := empty9 hx
    have hb02 := below2 hb01 hb2
    clear hx hb2 hb01 hc0 hc1 hc2 hc3
    go_wp2_with fail
    go_ret
    exact ⟨rfl, hb02⟩
end Go.Proofs.YtkedoiikkjeadaaDoor
namespace Go.Proofs.YtkedoiikkjeadaaDoor
open Go.RowKit
set_option linter.unusedVariables false
set_option linter.unusedSimpArgs false
def RetZn (n : Nat) (w : World) (e : Ending) (w' : World) : Prop := ∃ t : ByteArray, e = .returned (.string t) ∧ t.size = n ∧ Below w.heap.size w w'
theorem box9_ch (w : World) (f a : Int) (b : Int) : ∃ w0, w.alloc (Obj.cells #[.int .i64 f, .int .i64 a, .int .u8 b] 38) = w0 ∧ At w0 w.heap.size 0 [.int .i64 f, .int .i64 a, .int .u8 b] ∧ Below w.heap.size w w0 ∧ w.heap.size < w0.heap.size := by
  have h := At.ofAlloc w #[.int .i64 f, .int .i64 a, .int .u8 b] 38
  exact ⟨_, rfl, h, (Below.refl _ _).alloc (Nat.le_refl _) _, by simp⟩
theorem wpList_bytes_row9 {P : Program} (w : World) {ops : Array Oper} {rest : List Oper} {o : Oper} {a : Act} {Q : Exit → Act → World → Prop}
    (hg : o.guard = none) (x : Operand) (src dst e : TypeId) (hop : o.op = Op.convert src dst x) (h1 : P.underlying src = some .string) (h2 : P.underlying dst = some (.slice e)) (h3 : P.underlying e = some (.int .u8))
    (s : ByteArray) (hx : a.eval x = .string s) (B : Nat) (hB : B ≤ w.heap.size) (N : Nat) (hN : s.size = N)
    (hK : ∀ g cap w', B ≤ g → Hid (At w' g 0 (bcells s.toList)) → Below B w w' → wpList P ops Q rest (a.put o.dst (.slice (some ⟨g, 0, none⟩) N cap)) w') :
    wpList P ops Q (o :: rest) a w := by
  refine wpList_bytes_bag w hg x src dst e hop h1 h2 h3 s hx B hB ?_
  intro v w' hb hbel
  obtain ⟨g, cap, sp, rfl, hgB, hcap, hs, ha⟩ := hb
  rw [tl_size, hN]
  exact hK g cap w' hgB (ha.sub (a := []) (b := bcells s.toList) (c := sp)) hbel
set_option maxRecDepth 100000 in
set_option maxHeartbeats 1600000 in
theorem turned9_any (s : ByteArray) (f a : Int) (b : UInt8) (w : World) (hz : s.size ≤ 140737488355328) : Calls Tryd.prog 27 #[.string s, .agg #[.int .i64 f, .int .i64 a, .int .u8 (b.toNat : Int)]] w (RetZn s.size w) := by
  by_cases h0 : s.size = 0
  · have e1 : ((s.size : Int) == 0) = true := by rw [beq_iff_eq]; omega
    rw [h0]
    clear h0
    go_enter Tryd.func27, Tryd.ntmps27
    go_wp2_with fail
    go_ret
    exact ⟨s, rfl, by have := eq_of_beq e1; omega, (Below.refl _ _).alloc (Nat.le_refl _) _⟩
  · have e1 : ((s.size : Int) == 0) = false := by rw [beq_eq_false_iff_ne]; omega
    by_cases ha : a < 0
    · clear h0
      go_enter Tryd.func27, Tryd.ntmps27
      go_wp2_with fail
      go_ret
      exact ⟨s, rfl, rfl, (Below.refl _ _).alloc (Nat.le_refl _) _⟩
    · obtain ⟨n, rfl⟩ := Int.eq_ofNat_of_zero_le (a := a) (by omega)
      obtain ⟨N, hN⟩ : ∃ N, s.size = N := ⟨_, rfl⟩
      obtain ⟨r, hr⟩ : ∃ r, n % N = r := ⟨_, rfl⟩
      have hrN : r < N := by rw [← hr]; exact Nat.mod_lt _ (by omega)
      have r1 : (n : Int).tmod (N : Int) = (r : Int) := tmod_nat n N r hr.symm
      have r2 : IntKind.i64.wrap (r : Int) = (r : Int) := wrap_in _ (by omega) (by omega)
      have r3 : (N : Int) ≠ 0 := by omega
      have r4 : (r : Int) < (N : Int) := by omega
      have r5 : (0 : Int) ≤ (r : Int) := by omega
      have hNb : N ≤ 9223372036854775807 := by omega
      have HN := Lib.hid hN
      rw [hN]
      clear h0 hr hN ha
      go_enter Tryd.func27, Tryd.ntmps27
      obtain ⟨w0, hw0, hC, hb0, hl0⟩ := box9_ch w f (n : Int) (b.toNat : Int)
      have hc1 : w0.cell? ⟨w.heap.size, 1, none⟩ = some (.int .i64 (n : Int)) := hC.cell 1 _ rfl
      have hc2 : w0.cell? ⟨w.heap.size, 2, none⟩ = some (.int .u8 (b.toNat : Int)) := hC.cell 2 _ rfl
      have HX := Lib.hid (fun u : UInt8 => u8x u b)
      go_wp2_with (refine wpList_bytes_row9 _ rfl (.tmp 15) 9 56 5 rfl Tryd.underlying9 Tryd.underlying56 Tryd.underlying5 s rfl w0.heap.size (Nat.le_refl _) N HN.out ?_; intro g cap w1 hgB HA hb1)
      have hB : w.heap.size < w0.heap.size := hl0
      have hB0 : w.heap.size < w0.heap.size := hl0
      have hd1 := (hb1.cell (p := ⟨w.heap.size, 1, none⟩) hB).trans hc1
      have hd2 := (hb1.cell (p := ⟨w.heap.size, 2, none⟩) hB).trans hc2
      have hb01 := below2 hb0 hb1
      have hL : s.toList.length = N := by rw [tl_size]; exact HN.out
      obtain ⟨u, hu⟩ : ∃ u, s.toList[r]? = some u := ⟨s.toList[r]'(by omega), List.getElem?_eq_getElem (by omega)⟩
      have hcell : w1.cell? ⟨g, r, none⟩ = some (.int .u8 (u.toNat : Int)) := by
        have h := HA.out.b8 r (by omega)
        rw [Nat.zero_add, List.getD, hu] at h
        exact h
      have hfro : w1.frozen? ⟨g, r, none⟩ = false := by
        have h := HA.out.froz r (by rw [bcells_length]; omega)
        rwa [Nat.zero_add] at h
      have hxx := HX.out u
      have HAd : Hid (At w1.drew g 0 (bcells s.toList)) := HA.out
      have HL := Lib.hid hL
      clear hw0 hc1 hc2 hC hb0 hl0 hB hL hu
      go_wp2_with fail
      go_region
      have hA2 := HA.out.b8set r (u ^^^ b)
      rw [Nat.zero_add, UInt8.toNat_xor] at hA2
      have hbl : Below w.heap.size w ((w1.setCell ⟨g, r, none⟩ (.int .u8 ((u.toNat ^^^ b.toNat : Nat) : Int))).drew) := (hb01.setCell (p := ⟨g, r, none⟩) (Nat.le_trans (Nat.le_of_lt hB0) hgB) _).drew
      have hcv := convert_at (P := Tryd.prog) (cap := cap) hA2.drew 56 9 5 N (by rw [List.length_set]; exact HL.out) Tryd.underlying56 Tryd.underlying5 Tryd.underlying9
      obtain ⟨c, hc⟩ : ∃ c : ByteArray, (⟨(s.toList.set r (u ^^^ b)).toArray⟩ : ByteArray) = c := ⟨_, rfl⟩
      rw [hc] at hcv
      have hcs : c.size = N := by rw [← hc, size_mk, List.length_set]; exact HL.out
      have HCS := Lib.hid hcs
      clear hA2 hc hcs hcell hfro hd1 hd2 hxx
      go_wp2_with fail
      go_ret
      exact ⟨c, rfl, HCS.out, hbl⟩
def bx9 (key nonce aad : ByteArray) (s : Int) : List Value := [.string key, .string nonce, .string aad, .int .i64 s]
def ch9 (f a : Int) (b : UInt8) : List Value := [.int .i64 f, .int .i64 a, .int .u8 (b.toNat : Int)]
theorem two9 (w : World) (key nonce aad : ByteArray) (s f a : Int) (b : UInt8) : ∃ w0, (w.alloc (Obj.cells #[.string key, .string nonce, .string aad, .int .i64 s] 32)).alloc (Obj.cells #[.int .i64 f, .int .i64 a, .int .u8 (b.toNat : Int)] 38) = w0 ∧
    At w0 w.heap.size 0 (bx9 key nonce aad s) ∧ At w0 (w.heap.size + 1) 0 (ch9 f a b) ∧ Below w.heap.size w w0 ∧ w.heap.size + 1 < w0.heap.size := by
  have h1 := (At.ofAlloc w #[.string key, .string nonce, .string aad, .int .i64 s] 32).alloc (Obj.cells #[.int .i64 f, .int .i64 a, .int .u8 (b.toNat : Int)] 38)
  have h2 := At.ofAlloc (w.alloc (Obj.cells #[.string key, .string nonce, .string aad, .int .i64 s] 32)) #[.int .i64 f, .int .i64 a, .int .u8 (b.toNat : Int)] 38
  rw [World.size_alloc] at h2
  exact ⟨_, rfl, h1, h2, ((Below.refl _ _).alloc (Nat.le_refl _) _).alloc (by simp) _, by simp⟩
theorem bx9_cells {w : World} {B : Nat} {key nonce aad : ByteArray} {s : Int} (h : At w B 0 (bx9 key nonce aad s)) :
    (w.cell? ⟨B, 0, none⟩ = some (.string key) ∧ w.cell? ⟨B, 1, none⟩ = some (.string nonce) ∧ w.cell? ⟨B, 2, none⟩ = some (.string aad) ∧ w.cell? ⟨B, 3, none⟩ = some (.int .i64 s)) ∧
    (w.frozen? ⟨B, 0, none⟩ = false ∧ w.frozen? ⟨B, 1, none⟩ = false ∧ w.frozen? ⟨B, 2, none⟩ = false) :=
  ⟨⟨h.cell 0 _ rfl, h.cell 1 _ rfl, h.cell 2 _ rfl, h.cell 3 _ rfl⟩, ⟨h.froz 0 (by simp [bx9]), h.froz 1 (by simp [bx9]), h.froz 2 (by simp [bx9])⟩⟩
theorem ch9_cells {w : World} {B : Nat} {f a : Int} {b : UInt8} (h : At w B 0 (ch9 f a b)) :
    w.cell? ⟨B, 0, none⟩ = some (.int .i64 f) ∧ w.cell? ⟨B, 1, none⟩ = some (.int .i64 a) ∧ w.cell? ⟨B, 2, none⟩ = some (.int .u8 (b.toNat : Int)) :=
  ⟨h.cell 0 _ rfl, h.cell 1 _ rfl, h.cell 2 _ rfl⟩
theorem gcChg (K V A X : List UInt8) (m : Nat) (h : gcOE K.length V.length A.length (m : Int) X.length = 0) :
    (gcOpenE K V A X (m : Int) = 8 ∧ gcOpenL K V A X (m : Int) = [] ∧ gcTag K V A (gcCut X (m : Int)) m ≠ X.drop (X.length - m)) ∨
    (gcOpenE K V A X (m : Int) = 0 ∧ gcTag K V A (gcCut X (m : Int)) m = X.drop (X.length - m) ∧ (gcOpenL K V A X (m : Int)).length = X.length - m) := by
  by_cases ht : gcTag K V A (gcCut X (m : Int)) m = X.drop (X.length - m)
  · right
    have hE : gcOpenE K V A X (m : Int) = 0 := by rw [gcOpenE, if_pos h, Int.toNat_natCast, if_pos ht]
    refine ⟨hE, ht, ?_⟩
    rw [gcOpenL, if_pos hE, gcJoin_length, gcCut, List.length_take, Int.toNat_natCast]
    omega
  · left
    have hE : gcOpenE K V A X (m : Int) = 8 := by rw [gcOpenE, if_pos h, Int.toNat_natCast, if_neg ht]
    exact ⟨hE, by rw [gcOpenL, hE, if_neg (by decide)], ht⟩
theorem bx9k {w wa wb : World} {B : Nat} {K V A : ByteArray} {m : Int} (hb : Below wa.heap.size wa wb) (hS : wa.cell? ⟨B, 0, none⟩ = some (.string K) ∧ wa.cell? ⟨B, 1, none⟩ = some (.string V) ∧ wa.cell? ⟨B, 2, none⟩ = some (.string A) ∧ wa.cell? ⟨B, 3, none⟩ = some (.int .i64 m) ∧ B < wa.heap.size ∧ Below w.heap.size w wa) :
    wb.cell? ⟨B, 0, none⟩ = some (.string K) ∧ wb.cell? ⟨B, 1, none⟩ = some (.string V) ∧ wb.cell? ⟨B, 2, none⟩ = some (.string A) ∧ wb.cell? ⟨B, 3, none⟩ = some (.int .i64 m) ∧ B < wb.heap.size ∧ Below w.heap.size w wb :=
  ⟨(hb.cell (p := ⟨B, 0, none⟩) hS.2.2.2.2.1).trans hS.1, (hb.cell (p := ⟨B, 1, none⟩) hS.2.2.2.2.1).trans hS.2.1, (hb.cell (p := ⟨B, 2, none⟩) hS.2.2.2.2.1).trans hS.2.2.1, (hb.cell (p := ⟨B, 3, none⟩) hS.2.2.2.2.1).trans hS.2.2.2.1, Nat.lt_of_lt_of_le hS.2.2.2.2.1 hb.size, hS.2.2.2.2.2.trans (hb.mono hS.2.2.2.2.2.size)⟩
theorem bx9b {w wa : World} {B : Nat} {K V A : ByteArray} {m : Int} (hS : wa.cell? ⟨B, 0, none⟩ = some (.string K) ∧ wa.cell? ⟨B, 1, none⟩ = some (.string V) ∧ wa.cell? ⟨B, 2, none⟩ = some (.string A) ∧ wa.cell? ⟨B, 3, none⟩ = some (.int .i64 m) ∧ B < wa.heap.size ∧ Below w.heap.size w wa) : Below w.heap.size w wa := hS.2.2.2.2.2
set_option maxRecDepth 100000 in
set_option maxHeartbeats 3200000 in
theorem g9chg_no (key nonce aad : ByteArray) (s : Int) (text : ByteArray) (f a : Int) (b : UInt8) (w : World) (hF : Fal w) (c : Int) (hc : gcTE key.size nonce.size aad.size s text.size = c) (h0 : c ≠ 0) : Calls Tryd.prog 12 #[.agg #[.string key, .string nonce, .string aad, .int .i64 s], .string text, .agg #[.int .i64 f, .int .i64 a, .int .u8 (b.toNat : Int)]] w (RetT w) := by
  have HF := Lib.hid hF
  have HCC := Lib.hid hc
  have e1 : (c != 0) = true := by rw [bne_iff_ne]; exact h0
  have HL : Hid (gcSealL key.toList nonce.toList aad.toList text.toList s = []) := by show _ = _; rw [gcSealL, tl_size, tl_size, tl_size, tl_size, hc, if_neg h0]
  clear hc h0 hF
  go_enter Tryd.func12, Tryd.ntmps12
  go_wp2_with fail
  obtain ⟨w0, hw0, hA, hC, hb00, hl0⟩ := two9 w key nonce aad s f a b
  rw [hw0]
  obtain ⟨B, hB⟩ : ∃ B, w.heap.size = B := ⟨_, rfl⟩
  rw [hB] at hA hC hl0 ⊢
  have HB := Lib.hid hB
  have HA0 := Lib.hid hA
  have HC0 := Lib.hid hC
  clear hw0 hB hA hC
  refine (wakes9_any _ (HF.out.below hb00 HF.out.2)).mono ?_
  rintro e w1 ⟨rfl, hb1⟩
  have HA1 := Lib.hid (HA0.out.below hb1 (Nat.lt_of_succ_lt hl0))
  have HC1 := Lib.hid (HC0.out.below hb1 hl0)
  have hl1 : B + 1 < w1.heap.size := Nat.lt_of_lt_of_le hl0 hb1.size
  have hb01 := below2 hb00 hb1
  clear hb00 hb1 hl0 HA0 HC0
  obtain ⟨⟨hc0, hc1, hc2, hc3⟩, ⟨hf0, hf1, hf2⟩⟩ := bx9_cells HA1.out
  obtain ⟨hd0, hd1, hd2⟩ := ch9_cells HC1.out
  go_wp2_with fail
  refine (gSeal_any key nonce aad text s _ (HF.out.below hb01 HF.out.2)).mono ?_
  rintro e w2 ⟨x, rfl, hx, hb2⟩
  rw [HCC.out]
  rw [HL.out] at hx
  obtain rfl := empty9 hx
  have hb02 := below2 hb01 hb2
  clear hx hb2 hb01 hc0 hc1 hc2 hc3 hf0 hf1 hf2 hd0 hd1 hd2
  go_wp2_with fail
  go_ret
  exact ⟨rfl, hb02⟩
set_option maxRecDepth 100000 in
set_option maxHeartbeats 6400000 in
theorem g9chg_0 (key nonce aad : ByteArray) (m : Nat) (text : ByteArray) (f a : Int) (b : UInt8) (w : World) (hF : Fal w) (hc : gcTE key.size nonce.size aad.size (m : Int) text.size = 0) (hf : f = 0) : Calls Tryd.prog 12 #[.agg #[.string key, .string nonce, .string aad, .int .i64 (m : Int)], .string text, .agg #[.int .i64 f, .int .i64 a, .int .u8 (b.toNat : Int)]] w (RetT w) := by
  have HF := Lib.hid hF
  have HCC := Lib.hid hc
  have hz := gcE_zero (gcTE_zero hc).1
  have hbk := gcBack key.toList nonce.toList aad.toList text.toList m (by rw [tl_size, tl_size, tl_size, tl_size]; exact hc)
  have hbd : text.size ≤ 70000 ∧ m ≤ 16 ∧ key.size ≤ 32 ∧ nonce.size ≤ 1024 ∧ aad.size ≤ 70000 := by have := (gcTE_zero hc).2; omega
  have HBK := Lib.hid hbk
  have HBD := Lib.hid hbd
  have k0 : (f == 0) = true := by rw [beq_iff_eq]; omega
  clear hc hz hbk hf hbd hF
  go_enter Tryd.func12, Tryd.ntmps12
  go_wp2_with fail
  obtain ⟨w0, hw0, hA, hC, hb00, hl0⟩ := two9 w key nonce aad (m : Int) f a b
  rw [hw0]
  obtain ⟨B, hB⟩ : ∃ B, w.heap.size = B := ⟨_, rfl⟩
  rw [hB] at hA hC hl0 ⊢
  have HB := Lib.hid hB
  have HA0 := Lib.hid hA
  have HC0 := Lib.hid hC
  clear hw0 hB hA hC
  refine (wakes9_any _ (HF.out.below hb00 HF.out.2)).mono ?_
  rintro e w1 ⟨rfl, hb1⟩
  have HA1 := Lib.hid (HA0.out.below hb1 (Nat.lt_of_succ_lt hl0))
  have HC1 := Lib.hid (HC0.out.below hb1 hl0)
  have hl1 : B + 1 < w1.heap.size := Nat.lt_of_lt_of_le hl0 hb1.size
  have hb01 := below2 hb00 hb1
  clear hb00 hb1 hl0 HA0 HC0
  obtain ⟨⟨hc0, hc1, hc2, hc3⟩, ⟨hf0, hf1, hf2⟩⟩ := bx9_cells HA1.out
  obtain ⟨hd0, hd1, hd2⟩ := ch9_cells HC1.out
  go_wp2_with fail
  refine (gSeal_any key nonce aad text (m : Int) _ (HF.out.below hb01 HF.out.2)).mono ?_
  rintro e w2 ⟨x, rfl, hx, hb2⟩
  rw [HCC.out]
  have hxs : x.size = text.size + m := by rw [← tl_size, hx, HBK.out.1, tl_size]
  have HXS := Lib.hid hxs
  clear hx hxs
  have HA2 := Lib.hid (HA1.out.below hb2 (Nat.lt_of_succ_lt hl1))
  have HC2 := Lib.hid (HC1.out.below hb2 hl1)
  have hl2 : B + 1 < w2.heap.size := Nat.lt_of_lt_of_le hl1 hb2.size
  have hb02 := below2 hb01 hb2
  clear hc0 hc1 hc2 hc3 hf0 hf1 hf2 hd0 hd1 hd2 hb01 hb2 hl1 HA1 HC1
  obtain ⟨⟨hc0, hc1, hc2, hc3⟩, ⟨hf0, hf1, hf2⟩⟩ := bx9_cells HA2.out
  obtain ⟨hd0, hd1, hd2⟩ := ch9_cells HC2.out
  go_wp2_with fail
  refine (turned9_any key f a b _ (by have := HBD.out; have := HXS.out; omega)).mono ?_
  rintro e w4 ⟨y, rfl, hy, hb4⟩
  have HY := Lib.hid hy
  clear hy
  have HA4 := Lib.hid (HA2.out.below hb4 (Nat.lt_of_succ_lt hl2))
  have HC4 := Lib.hid (HC2.out.below hb4 hl2)
  have hl4 : B + 1 < w4.heap.size := Nat.lt_of_lt_of_le hl2 hb4.size
  have hb04 := below2 hb02 hb4
  clear hc0 hc1 hc2 hc3 hf0 hf1 hf2 hd0 hd1 hd2 hb02 hb4 hl2 HA2 HC2
  obtain ⟨⟨hc0, hc1, hc2, hc3⟩, ⟨hf0, hf1, hf2⟩⟩ := bx9_cells HA4.out
  obtain ⟨hd0, hd1, hd2⟩ := ch9_cells HC4.out
  have hsz : y.size = key.size ∧ nonce.size = nonce.size ∧ aad.size = aad.size ∧ x.size = text.size + m := ⟨by first | rfl | exact HY.out, by first | rfl | exact HY.out, by first | rfl | exact HY.out, by first | exact HXS.out | (rw [HY.out, HXS.out])⟩
  obtain ⟨o, ho⟩ : ∃ o, o = text.size := ⟨_, rfl⟩
  have q1 : (x.size : Int) - (m : Int) = (o : Int) := by have := hsz.2.2.2; omega
  have q2 : IntKind.i64.wrap (o : Int) = (o : Int) := wrap_in _ (by omega) (by have := HBD.out; omega)
  have q3 : (0 : Int) ≤ (o : Int) := by omega
  have q4 : (o : Int) ≤ (x.size : Int) := by have := hsz.2.2.2; omega
  have q5 : o ≤ x.size := by have := hsz.2.2.2; omega
  obtain ⟨pc, hpc⟩ : ∃ pc, x.extract 0 o = pc := ⟨_, rfl⟩
  obtain ⟨z, hzz⟩ : ∃ z, x.extract o x.size = z := ⟨_, rfl⟩
  have hpl : pc.toList = gcCut x.toList (m : Int) := by rw [← hpc, tl_ext0, gcCut, tl_size, Int.toNat_natCast, hsz.2.2.2, Nat.add_sub_cancel, ho]
  have hps : pc.size = text.size := by rw [← tl_size, ← hpc, tl_ext0, List.length_take, tl_size]; have := hsz.2.2.2; omega
  have hzl : z.toList = x.toList.drop (x.size - m) := by rw [← hzz, tl_extE _ _ _ rfl, hsz.2.2.2, Nat.add_sub_cancel, ho]
  have hE0 : gcOE y.toList.length nonce.toList.length aad.toList.length (m : Int) x.toList.length = 0 := by
    rw [tl_size, tl_size, tl_size, tl_size, hsz.1, hsz.2.1, hsz.2.2.1, hsz.2.2.2, gcOE, if_pos (gcTE_zero HCC.out).1, if_neg (by have := HBD.out; omega)]
  have hT0 : gcTE y.size nonce.size aad.size (m : Int) pc.size = 0 := by rw [hsz.1, hsz.2.1, hsz.2.2.1, hps]; exact HCC.out
  have hTL : gcTagL y.toList nonce.toList aad.toList pc.toList (m : Int) = gcTag y.toList nonce.toList aad.toList (gcCut x.toList (m : Int)) m := by
    rw [gcTagL, tl_size, tl_size, tl_size, tl_size, hT0, if_pos rfl, Int.toNat_natCast, hpl]
  have hch := gcChg y.toList nonce.toList aad.toList x.toList m hE0
  obtain ⟨d, hd⟩ : ∃ d, gcOpenE y.toList nonce.toList aad.toList x.toList (m : Int) = d := ⟨_, rfl⟩
  rw [hd] at hch
  have HD := Lib.hid hd
  have HCH := Lib.hid hch
  have HSZ := Lib.hid hsz
  have HOO := Lib.hid ho
  have HT0 := Lib.hid hT0
  have HTL := Lib.hid hTL
  have HZL := Lib.hid hzl
  clear hsz hE0 hch hd ho hT0 hTL hpl hps hzl
  have hA4 := HA4.out
  have hC4 := HC4.out
  have hA5 := hA4.set 0 (.string y)
  rw [Nat.zero_add] at hA5
  have hA5' : At (w4.setCell ⟨B, 0, none⟩ (.string y)) B 0 (bx9 y nonce aad (m : Int)) := hA5
  have hC5 : At (w4.setCell ⟨B, 0, none⟩ (.string y)) (B + 1) 0 (ch9 f a b) := hC4.other B 0 (.string y) (.inl (by omega))
  have hb05 : Below w.heap.size w (w4.setCell ⟨B, 0, none⟩ (.string y)) := hb04.setCell (p := ⟨B, 0, none⟩) (by rw [HB.out]; exact Nat.le_refl _) _
  have hl5 : B + 1 < (w4.setCell ⟨B, 0, none⟩ (.string y)).heap.size := by simpa using hl4
  have HA5 := Lib.hid hA5'
  have HC5 := Lib.hid hC5
  have HL5 := Lib.hid hl5
  clear hA4 hC4 hA5 hA5' hC5 hl5
  go_wp2_with fail
  clear hc0 hc1 hc2 hc3 hf0 hf1 hf2 hd0 hd1 hd2 hb04 hl4 HA4 HC4
  generalize w4.setCell ⟨B, 0, none⟩ (.string y) = w5 at *
  have hl5 := HL5.out
  obtain ⟨⟨hc0, hc1, hc2, hc3⟩, ⟨hf0, hf1, hf2⟩⟩ := bx9_cells HA5.out
  obtain ⟨hd0, hd1, hd2⟩ := ch9_cells HC5.out
  have HF5 := Lib.hid (HF.out.below hb05.drew HF.out.2)
  have HS5 : Hid (w5.cell? ⟨B, 0, none⟩ = some (.string y) ∧ w5.cell? ⟨B, 1, none⟩ = some (.string nonce) ∧ w5.cell? ⟨B, 2, none⟩ = some (.string aad) ∧ w5.cell? ⟨B, 3, none⟩ = some (.int .i64 (m : Int)) ∧ B < w5.heap.size) := Lib.hid ⟨hc0, hc1, hc2, hc3, Nat.lt_of_succ_lt hl5⟩
  go_region_held3 (fun w' => w'.cell? ⟨B, 0, none⟩ = some (.string y) ∧ w'.cell? ⟨B, 1, none⟩ = some (.string nonce) ∧ w'.cell? ⟨B, 2, none⟩ = some (.string aad) ∧ w'.cell? ⟨B, 3, none⟩ = some (.int .i64 (m : Int)) ∧ B < w'.heap.size ∧ Below w5.heap.size w5 w') (first | exact bx9k (by assumption) (by assumption) | exact ⟨HS5.out.1, HS5.out.2.1, HS5.out.2.2.1, HS5.out.2.2.2.1, HS5.out.2.2.2.2, (Below.refl _ _).drew⟩)
    (first
      | (go_at_call 25; refine (gTag_any y nonce aad pc (m : Int) _ HF5.out).mono ?_; rintro e w6 ⟨tg, rfl, htg, hb6⟩; rw [HT0.out]; rw [HTL.out] at htg; have HTG := Lib.hid htg; clear htg))
  have hb56 : Below w5.heap.size w5 w6 := bx9b (by assumption)
  have HA6 := Lib.hid (HA5.out.below hb56 (Nat.lt_of_succ_lt hl5))
  have hb06 := hb05.trans (hb56.mono hb05.size)
  have hl6 : B < w6.heap.size := Nat.lt_of_lt_of_le HS5.out.2.2.2.2 hb56.size
  clear hc0 hc1 hc2 hc3 hf0 hf1 hf2 hd0 hd1 hd2 hb05 hb6
  obtain ⟨⟨hc0, hc1, hc2, hc3⟩, _⟩ := bx9_cells HA6.out
  go_wp2_with fail
  refine (gOpen_any y nonce aad x (m : Int) _ (HF.out.below hb06 HF.out.2)).mono ?_
  rintro e w7 ⟨t2, rfl, ht2, hb7⟩
  rw [HD.out]
  have hb07 := hb06.trans (hb7.mono hb06.size)
  clear hc0 hc1 hc2 hc3 hb06 hb7
  rcases HCH.out with ⟨rfl, hL, hne⟩ | ⟨rfl, he, hL⟩
  · obtain rfl := empty9 (ht2.trans hL)
    have hn1 : (tg.toList == z.toList) = false := by rw [beq_eq_false_iff_ne, HTG.out, HZL.out, ← tl_size]; exact hne
    have hn2 : tg ≠ z := fun hq => by rw [hq, beq_self_eq_true] at hn1; cases hn1
    clear hL hne ht2
    go_wp2_with fail
    go_ret
    exact ⟨rfl, hb07⟩
  · obtain rfl : tg = z := tl_inj (by rw [HTG.out, HZL.out, ← tl_size]; exact he)
    have hn3 : ((t2.size : Int) == (o : Int)) = true := by
      rw [beq_iff_eq, ← tl_size, ht2, hL, tl_size]
      have := HSZ.out.2.2.2
      have := HOO.out
      omega
    clear hL he ht2
    go_wp2_with fail
    go_ret
    exact ⟨rfl, hb07⟩
set_option maxRecDepth 100000 in
set_option maxHeartbeats 6400000 in
theorem g9chg_1 (key nonce aad : ByteArray) (m : Nat) (text : ByteArray) (f a : Int) (b : UInt8) (w : World) (hF : Fal w) (hc : gcTE key.size nonce.size aad.size (m : Int) text.size = 0) (hf : f = 1) : Calls Tryd.prog 12 #[.agg #[.string key, .string nonce, .string aad, .int .i64 (m : Int)], .string text, .agg #[.int .i64 f, .int .i64 a, .int .u8 (b.toNat : Int)]] w (RetT w) := by
  have HF := Lib.hid hF
  have HCC := Lib.hid hc
  have hz := gcE_zero (gcTE_zero hc).1
  have hbk := gcBack key.toList nonce.toList aad.toList text.toList m (by rw [tl_size, tl_size, tl_size, tl_size]; exact hc)
  have hbd : text.size ≤ 70000 ∧ m ≤ 16 ∧ key.size ≤ 32 ∧ nonce.size ≤ 1024 ∧ aad.size ≤ 70000 := by have := (gcTE_zero hc).2; omega
  have HBK := Lib.hid hbk
  have HBD := Lib.hid hbd
  have k0 : (f == 0) = false := by rw [beq_eq_false_iff_ne]; omega
  have k1 : (f == 1) = true := by rw [beq_iff_eq]; omega
  clear hc hz hbk hf hbd hF
  go_enter Tryd.func12, Tryd.ntmps12
  go_wp2_with fail
  obtain ⟨w0, hw0, hA, hC, hb00, hl0⟩ := two9 w key nonce aad (m : Int) f a b
  rw [hw0]
  obtain ⟨B, hB⟩ : ∃ B, w.heap.size = B := ⟨_, rfl⟩
  rw [hB] at hA hC hl0 ⊢
  have HB := Lib.hid hB
  have HA0 := Lib.hid hA
  have HC0 := Lib.hid hC
  clear hw0 hB hA hC
  refine (wakes9_any _ (HF.out.below hb00 HF.out.2)).mono ?_
  rintro e w1 ⟨rfl, hb1⟩
  have HA1 := Lib.hid (HA0.out.below hb1 (Nat.lt_of_succ_lt hl0))
  have HC1 := Lib.hid (HC0.out.below hb1 hl0)
  have hl1 : B + 1 < w1.heap.size := Nat.lt_of_lt_of_le hl0 hb1.size
  have hb01 := below2 hb00 hb1
  clear hb00 hb1 hl0 HA0 HC0
  obtain ⟨⟨hc0, hc1, hc2, hc3⟩, ⟨hf0, hf1, hf2⟩⟩ := bx9_cells HA1.out
  obtain ⟨hd0, hd1, hd2⟩ := ch9_cells HC1.out
  go_wp2_with fail
  refine (gSeal_any key nonce aad text (m : Int) _ (HF.out.below hb01 HF.out.2)).mono ?_
  rintro e w2 ⟨x, rfl, hx, hb2⟩
  rw [HCC.out]
  have hxs : x.size = text.size + m := by rw [← tl_size, hx, HBK.out.1, tl_size]
  have HXS := Lib.hid hxs
  clear hx hxs
  have HA2 := Lib.hid (HA1.out.below hb2 (Nat.lt_of_succ_lt hl1))
  have HC2 := Lib.hid (HC1.out.below hb2 hl1)
  have hl2 : B + 1 < w2.heap.size := Nat.lt_of_lt_of_le hl1 hb2.size
  have hb02 := below2 hb01 hb2
  clear hc0 hc1 hc2 hc3 hf0 hf1 hf2 hd0 hd1 hd2 hb01 hb2 hl1 HA1 HC1
  obtain ⟨⟨hc0, hc1, hc2, hc3⟩, ⟨hf0, hf1, hf2⟩⟩ := bx9_cells HA2.out
  obtain ⟨hd0, hd1, hd2⟩ := ch9_cells HC2.out
  go_wp2_with fail
  refine (turned9_any nonce f a b _ (by have := HBD.out; have := HXS.out; omega)).mono ?_
  rintro e w4 ⟨y, rfl, hy, hb4⟩
  have HY := Lib.hid hy
  clear hy
  have HA4 := Lib.hid (HA2.out.below hb4 (Nat.lt_of_succ_lt hl2))
  have HC4 := Lib.hid (HC2.out.below hb4 hl2)
  have hl4 : B + 1 < w4.heap.size := Nat.lt_of_lt_of_le hl2 hb4.size
  have hb04 := below2 hb02 hb4
  clear hc0 hc1 hc2 hc3 hf0 hf1 hf2 hd0 hd1 hd2 hb02 hb4 hl2 HA2 HC2
  obtain ⟨⟨hc0, hc1, hc2, hc3⟩, ⟨hf0, hf1, hf2⟩⟩ := bx9_cells HA4.out
  obtain ⟨hd0, hd1, hd2⟩ := ch9_cells HC4.out
  have hsz : key.size = key.size ∧ y.size = nonce.size ∧ aad.size = aad.size ∧ x.size = text.size + m := ⟨by first | rfl | exact HY.out, by first | rfl | exact HY.out, by first | rfl | exact HY.out, by first | exact HXS.out | (rw [HY.out, HXS.out])⟩
  obtain ⟨o, ho⟩ : ∃ o, o = text.size := ⟨_, rfl⟩
  have q1 : (x.size : Int) - (m : Int) = (o : Int) := by have := hsz.2.2.2; omega
  have q2 : IntKind.i64.wrap (o : Int) = (o : Int) := wrap_in _ (by omega) (by have := HBD.out; omega)
  have q3 : (0 : Int) ≤ (o : Int) := by omega
  have q4 : (o : Int) ≤ (x.size : Int) := by have := hsz.2.2.2; omega
  have q5 : o ≤ x.size := by have := hsz.2.2.2; omega
  obtain ⟨pc, hpc⟩ : ∃ pc, x.extract 0 o = pc := ⟨_, rfl⟩
  obtain ⟨z, hzz⟩ : ∃ z, x.extract o x.size = z := ⟨_, rfl⟩
  have hpl : pc.toList = gcCut x.toList (m : Int) := by rw [← hpc, tl_ext0, gcCut, tl_size, Int.toNat_natCast, hsz.2.2.2, Nat.add_sub_cancel, ho]
  have hps : pc.size = text.size := by rw [← tl_size, ← hpc, tl_ext0, List.length_take, tl_size]; have := hsz.2.2.2; omega
  have hzl : z.toList = x.toList.drop (x.size - m) := by rw [← hzz, tl_extE _ _ _ rfl, hsz.2.2.2, Nat.add_sub_cancel, ho]
  have hE0 : gcOE key.toList.length y.toList.length aad.toList.length (m : Int) x.toList.length = 0 := by
    rw [tl_size, tl_size, tl_size, tl_size, hsz.1, hsz.2.1, hsz.2.2.1, hsz.2.2.2, gcOE, if_pos (gcTE_zero HCC.out).1, if_neg (by have := HBD.out; omega)]
  have hT0 : gcTE key.size y.size aad.size (m : Int) pc.size = 0 := by rw [hsz.1, hsz.2.1, hsz.2.2.1, hps]; exact HCC.out
  have hTL : gcTagL key.toList y.toList aad.toList pc.toList (m : Int) = gcTag key.toList y.toList aad.toList (gcCut x.toList (m : Int)) m := by
    rw [gcTagL, tl_size, tl_size, tl_size, tl_size, hT0, if_pos rfl, Int.toNat_natCast, hpl]
  have hch := gcChg key.toList y.toList aad.toList x.toList m hE0
  obtain ⟨d, hd⟩ : ∃ d, gcOpenE key.toList y.toList aad.toList x.toList (m : Int) = d := ⟨_, rfl⟩
  rw [hd] at hch
  have HD := Lib.hid hd
  have HCH := Lib.hid hch
  have HSZ := Lib.hid hsz
  have HOO := Lib.hid ho
  have HT0 := Lib.hid hT0
  have HTL := Lib.hid hTL
  have HZL := Lib.hid hzl
  clear hsz hE0 hch hd ho hT0 hTL hpl hps hzl
  have hA4 := HA4.out
  have hC4 := HC4.out
  have hA5 := hA4.set 1 (.string y)
  rw [Nat.zero_add] at hA5
  have hA5' : At (w4.setCell ⟨B, 1, none⟩ (.string y)) B 0 (bx9 key y aad (m : Int)) := hA5
  have hC5 : At (w4.setCell ⟨B, 1, none⟩ (.string y)) (B + 1) 0 (ch9 f a b) := hC4.other B 1 (.string y) (.inl (by omega))
  have hb05 : Below w.heap.size w (w4.setCell ⟨B, 1, none⟩ (.string y)) := hb04.setCell (p := ⟨B, 1, none⟩) (by rw [HB.out]; exact Nat.le_refl _) _
  have hl5 : B + 1 < (w4.setCell ⟨B, 1, none⟩ (.string y)).heap.size := by simpa using hl4
  have HA5 := Lib.hid hA5'
  have HC5 := Lib.hid hC5
  have HL5 := Lib.hid hl5
  clear hA4 hC4 hA5 hA5' hC5 hl5
  go_wp2_with fail
  clear hc0 hc1 hc2 hc3 hf0 hf1 hf2 hd0 hd1 hd2 hb04 hl4 HA4 HC4
  generalize w4.setCell ⟨B, 1, none⟩ (.string y) = w5 at *
  have hl5 := HL5.out
  obtain ⟨⟨hc0, hc1, hc2, hc3⟩, ⟨hf0, hf1, hf2⟩⟩ := bx9_cells HA5.out
  obtain ⟨hd0, hd1, hd2⟩ := ch9_cells HC5.out
  have HF5 := Lib.hid (HF.out.below hb05.drew HF.out.2)
  have HS5 : Hid (w5.cell? ⟨B, 0, none⟩ = some (.string key) ∧ w5.cell? ⟨B, 1, none⟩ = some (.string y) ∧ w5.cell? ⟨B, 2, none⟩ = some (.string aad) ∧ w5.cell? ⟨B, 3, none⟩ = some (.int .i64 (m : Int)) ∧ B < w5.heap.size) := Lib.hid ⟨hc0, hc1, hc2, hc3, Nat.lt_of_succ_lt hl5⟩
  go_region_held3 (fun w' => w'.cell? ⟨B, 0, none⟩ = some (.string key) ∧ w'.cell? ⟨B, 1, none⟩ = some (.string y) ∧ w'.cell? ⟨B, 2, none⟩ = some (.string aad) ∧ w'.cell? ⟨B, 3, none⟩ = some (.int .i64 (m : Int)) ∧ B < w'.heap.size ∧ Below w5.heap.size w5 w') (first | exact bx9k (by assumption) (by assumption) | exact ⟨HS5.out.1, HS5.out.2.1, HS5.out.2.2.1, HS5.out.2.2.2.1, HS5.out.2.2.2.2, (Below.refl _ _).drew⟩)
    (first
      | (go_at_call 25; refine (gTag_any key y aad pc (m : Int) _ HF5.out).mono ?_; rintro e w6 ⟨tg, rfl, htg, hb6⟩; rw [HT0.out]; rw [HTL.out] at htg; have HTG := Lib.hid htg; clear htg))
  have hb56 : Below w5.heap.size w5 w6 := bx9b (by assumption)
  have HA6 := Lib.hid (HA5.out.below hb56 (Nat.lt_of_succ_lt hl5))
  have hb06 := hb05.trans (hb56.mono hb05.size)
  have hl6 : B < w6.heap.size := Nat.lt_of_lt_of_le HS5.out.2.2.2.2 hb56.size
  clear hc0 hc1 hc2 hc3 hf0 hf1 hf2 hd0 hd1 hd2 hb05 hb6
  obtain ⟨⟨hc0, hc1, hc2, hc3⟩, _⟩ := bx9_cells HA6.out
  go_wp2_with fail
  refine (gOpen_any key y aad x (m : Int) _ (HF.out.below hb06 HF.out.2)).mono ?_
  rintro e w7 ⟨t2, rfl, ht2, hb7⟩
  rw [HD.out]
  have hb07 := hb06.trans (hb7.mono hb06.size)
  clear hc0 hc1 hc2 hc3 hb06 hb7
  rcases HCH.out with ⟨rfl, hL, hne⟩ | ⟨rfl, he, hL⟩
  · obtain rfl := empty9 (ht2.trans hL)
    have hn1 : (tg.toList == z.toList) = false := by rw [beq_eq_false_iff_ne, HTG.out, HZL.out, ← tl_size]; exact hne
    have hn2 : tg ≠ z := fun hq => by rw [hq, beq_self_eq_true] at hn1; cases hn1
    clear hL hne ht2
    go_wp2_with fail
    go_ret
    exact ⟨rfl, hb07⟩
  · obtain rfl : tg = z := tl_inj (by rw [HTG.out, HZL.out, ← tl_size]; exact he)
    have hn3 : ((t2.size : Int) == (o : Int)) = true := by
      rw [beq_iff_eq, ← tl_size, ht2, hL, tl_size]
      have := HSZ.out.2.2.2
      have := HOO.out
      omega
    clear hL he ht2
    go_wp2_with fail
    go_ret
    exact ⟨rfl, hb07⟩
set_option maxRecDepth 100000 in
set_option maxHeartbeats 6400000 in
theorem g9chg_2 (key nonce aad : ByteArray) (m : Nat) (text : ByteArray) (f a : Int) (b : UInt8) (w : World) (hF : Fal w) (hc : gcTE key.size nonce.size aad.size (m : Int) text.size = 0) (hf : f = 2) : Calls Tryd.prog 12 #[.agg #[.string key, .string nonce, .string aad, .int .i64 (m : Int)], .string text, .agg #[.int .i64 f, .int .i64 a, .int .u8 (b.toNat : Int)]] w (RetT w) := by
  have HF := Lib.hid hF
  have HCC := Lib.hid hc
  have hz := gcE_zero (gcTE_zero hc).1
  have hbk := gcBack key.toList nonce.toList aad.toList text.toList m (by rw [tl_size, tl_size, tl_size, tl_size]; exact hc)
  have hbd : text.size ≤ 70000 ∧ m ≤ 16 ∧ key.size ≤ 32 ∧ nonce.size ≤ 1024 ∧ aad.size ≤ 70000 := by have := (gcTE_zero hc).2; omega
  have HBK := Lib.hid hbk
  have HBD := Lib.hid hbd
  have k0 : (f == 0) = false := by rw [beq_eq_false_iff_ne]; omega
  have k1 : (f == 1) = false := by rw [beq_eq_false_iff_ne]; omega
  have k2 : (f == 2) = true := by rw [beq_iff_eq]; omega
  clear hc hz hbk hf hbd hF
  go_enter Tryd.func12, Tryd.ntmps12
  go_wp2_with fail
  obtain ⟨w0, hw0, hA, hC, hb00, hl0⟩ := two9 w key nonce aad (m : Int) f a b
  rw [hw0]
  obtain ⟨B, hB⟩ : ∃ B, w.heap.size = B := ⟨_, rfl⟩
  rw [hB] at hA hC hl0 ⊢
  have HB := Lib.hid hB
  have HA0 := Lib.hid hA
  have HC0 := Lib.hid hC
  clear hw0 hB hA hC
  refine (wakes9_any _ (HF.out.below hb00 HF.out.2)).mono ?_
  rintro e w1 ⟨rfl, hb1⟩
  have HA1 := Lib.hid (HA0.out.below hb1 (Nat.lt_of_succ_lt hl0))
  have HC1 := Lib.hid (HC0.out.below hb1 hl0)
  have hl1 : B + 1 < w1.heap.size := Nat.lt_of_lt_of_le hl0 hb1.size
  have hb01 := below2 hb00 hb1
  clear hb00 hb1 hl0 HA0 HC0
  obtain ⟨⟨hc0, hc1, hc2, hc3⟩, ⟨hf0, hf1, hf2⟩⟩ := bx9_cells HA1.out
  obtain ⟨hd0, hd1, hd2⟩ := ch9_cells HC1.out
  go_wp2_with fail
  refine (gSeal_any key nonce aad text (m : Int) _ (HF.out.below hb01 HF.out.2)).mono ?_
  rintro e w2 ⟨x, rfl, hx, hb2⟩
  rw [HCC.out]
  have hxs : x.size = text.size + m := by rw [← tl_size, hx, HBK.out.1, tl_size]
  have HXS := Lib.hid hxs
  clear hx hxs
  have HA2 := Lib.hid (HA1.out.below hb2 (Nat.lt_of_succ_lt hl1))
  have HC2 := Lib.hid (HC1.out.below hb2 hl1)
  have hl2 : B + 1 < w2.heap.size := Nat.lt_of_lt_of_le hl1 hb2.size
  have hb02 := below2 hb01 hb2
  clear hc0 hc1 hc2 hc3 hf0 hf1 hf2 hd0 hd1 hd2 hb01 hb2 hl1 HA1 HC1
  obtain ⟨⟨hc0, hc1, hc2, hc3⟩, ⟨hf0, hf1, hf2⟩⟩ := bx9_cells HA2.out
  obtain ⟨hd0, hd1, hd2⟩ := ch9_cells HC2.out
  go_wp2_with fail
  refine (turned9_any aad f a b _ (by have := HBD.out; have := HXS.out; omega)).mono ?_
  rintro e w4 ⟨y, rfl, hy, hb4⟩
  have HY := Lib.hid hy
  clear hy
  have HA4 := Lib.hid (HA2.out.below hb4 (Nat.lt_of_succ_lt hl2))
  have HC4 := Lib.hid (HC2.out.below hb4 hl2)
  have hl4 : B + 1 < w4.heap.size := Nat.lt_of_lt_of_le hl2 hb4.size
  have hb04 := below2 hb02 hb4
  clear hc0 hc1 hc2 hc3 hf0 hf1 hf2 hd0 hd1 hd2 hb02 hb4 hl2 HA2 HC2
  obtain ⟨⟨hc0, hc1, hc2, hc3⟩, ⟨hf0, hf1, hf2⟩⟩ := bx9_cells HA4.out
  obtain ⟨hd0, hd1, hd2⟩ := ch9_cells HC4.out
  have hsz : key.size = key.size ∧ nonce.size = nonce.size ∧ y.size = aad.size ∧ x.size = text.size + m := ⟨by first | rfl | exact HY.out, by first | rfl | exact HY.out, by first | rfl | exact HY.out, by first | exact HXS.out | (rw [HY.out, HXS.out])⟩
  obtain ⟨o, ho⟩ : ∃ o, o = text.size := ⟨_, rfl⟩
  have q1 : (x.size : Int) - (m : Int) = (o : Int) := by have := hsz.2.2.2; omega
  have q2 : IntKind.i64.wrap (o : Int) = (o : Int) := wrap_in _ (by omega) (by have := HBD.out; omega)
  have q3 : (0 : Int) ≤ (o : Int) := by omega
  have q4 : (o : Int) ≤ (x.size : Int) := by have := hsz.2.2.2; omega
  have q5 : o ≤ x.size := by have := hsz.2.2.2; omega
  obtain ⟨pc, hpc⟩ : ∃ pc, x.extract 0 o = pc := ⟨_, rfl⟩
  obtain ⟨z, hzz⟩ : ∃ z, x.extract o x.size = z := ⟨_, rfl⟩
  have hpl : pc.toList = gcCut x.toList (m : Int) := by rw [← hpc, tl_ext0, gcCut, tl_size, Int.toNat_natCast, hsz.2.2.2, Nat.add_sub_cancel, ho]
  have hps : pc.size = text.size := by rw [← tl_size, ← hpc, tl_ext0, List.length_take, tl_size]; have := hsz.2.2.2; omega
  have hzl : z.toList = x.toList.drop (x.size - m) := by rw [← hzz, tl_extE _ _ _ rfl, hsz.2.2.2, Nat.add_sub_cancel, ho]
  have hE0 : gcOE key.toList.length nonce.toList.length y.toList.length (m : Int) x.toList.length = 0 := by
    rw [tl_size, tl_size, tl_size, tl_size, hsz.1, hsz.2.1, hsz.2.2.1, hsz.2.2.2, gcOE, if_pos (gcTE_zero HCC.out).1, if_neg (by have := HBD.out; omega)]
  have hT0 : gcTE key.size nonce.size y.size (m : Int) pc.size = 0 := by rw [hsz.1, hsz.2.1, hsz.2.2.1, hps]; exact HCC.out
  have hTL : gcTagL key.toList nonce.toList y.toList pc.toList (m : Int) = gcTag key.toList nonce.toList y.toList (gcCut x.toList (m : Int)) m := by
    rw [gcTagL, tl_size, tl_size, tl_size, tl_size, hT0, if_pos rfl, Int.toNat_natCast, hpl]
  have hch := gcChg key.toList nonce.toList y.toList x.toList m hE0
  obtain ⟨d, hd⟩ : ∃ d, gcOpenE key.toList nonce.toList y.toList x.toList (m : Int) = d := ⟨_, rfl⟩
  rw [hd] at hch
  have HD := Lib.hid hd
  have HCH := Lib.hid hch
  have HSZ := Lib.hid hsz
  have HOO := Lib.hid ho
  have HT0 := Lib.hid hT0
  have HTL := Lib.hid hTL
  have HZL := Lib.hid hzl
  clear hsz hE0 hch hd ho hT0 hTL hpl hps hzl
  have hA4 := HA4.out
  have hC4 := HC4.out
  have hA5 := hA4.set 2 (.string y)
  rw [Nat.zero_add] at hA5
  have hA5' : At (w4.setCell ⟨B, 2, none⟩ (.string y)) B 0 (bx9 key nonce y (m : Int)) := hA5
  have hC5 : At (w4.setCell ⟨B, 2, none⟩ (.string y)) (B + 1) 0 (ch9 f a b) := hC4.other B 2 (.string y) (.inl (by omega))
  have hb05 : Below w.heap.size w (w4.setCell ⟨B, 2, none⟩ (.string y)) := hb04.setCell (p := ⟨B, 2, none⟩) (by rw [HB.out]; exact Nat.le_refl _) _
  have hl5 : B + 1 < (w4.setCell ⟨B, 2, none⟩ (.string y)).heap.size := by simpa using hl4
  have HA5 := Lib.hid hA5'
  have HC5 := Lib.hid hC5
  have HL5 := Lib.hid hl5
  clear hA4 hC4 hA5 hA5' hC5 hl5
  go_wp2_with fail
  clear hc0 hc1 hc2 hc3 hf0 hf1 hf2 hd0 hd1 hd2 hb04 hl4 HA4 HC4
  generalize w4.setCell ⟨B, 2, none⟩ (.string y) = w5 at *
  have hl5 := HL5.out
  obtain ⟨⟨hc0, hc1, hc2, hc3⟩, ⟨hf0, hf1, hf2⟩⟩ := bx9_cells HA5.out
  obtain ⟨hd0, hd1, hd2⟩ := ch9_cells HC5.out
  have HF5 := Lib.hid (HF.out.below hb05.drew HF.out.2)
  have HS5 : Hid (w5.cell? ⟨B, 0, none⟩ = some (.string key) ∧ w5.cell? ⟨B, 1, none⟩ = some (.string nonce) ∧ w5.cell? ⟨B, 2, none⟩ = some (.string y) ∧ w5.cell? ⟨B, 3, none⟩ = some (.int .i64 (m : Int)) ∧ B < w5.heap.size) := Lib.hid ⟨hc0, hc1, hc2, hc3, Nat.lt_of_succ_lt hl5⟩
  go_region_held3 (fun w' => w'.cell? ⟨B, 0, none⟩ = some (.string key) ∧ w'.cell? ⟨B, 1, none⟩ = some (.string nonce) ∧ w'.cell? ⟨B, 2, none⟩ = some (.string y) ∧ w'.cell? ⟨B, 3, none⟩ = some (.int .i64 (m : Int)) ∧ B < w'.heap.size ∧ Below w5.heap.size w5 w') (first | exact bx9k (by assumption) (by assumption) | exact ⟨HS5.out.1, HS5.out.2.1, HS5.out.2.2.1, HS5.out.2.2.2.1, HS5.out.2.2.2.2, (Below.refl _ _).drew⟩)
    (first
      | (go_at_call 25; refine (gTag_any key nonce y pc (m : Int) _ HF5.out).mono ?_; rintro e w6 ⟨tg, rfl, htg, hb6⟩; rw [HT0.out]; rw [HTL.out] at htg; have HTG := Lib.hid htg; clear htg))
  have hb56 : Below w5.heap.size w5 w6 := bx9b (by assumption)
  have HA6 := Lib.hid (HA5.out.below hb56 (Nat.lt_of_succ_lt hl5))
  have hb06 := hb05.trans (hb56.mono hb05.size)
  have hl6 : B < w6.heap.size := Nat.lt_of_lt_of_le HS5.out.2.2.2.2 hb56.size
  clear hc0 hc1 hc2 hc3 hf0 hf1 hf2 hd0 hd1 hd2 hb05 hb6
  obtain ⟨⟨hc0, hc1, hc2, hc3⟩, _⟩ := bx9_cells HA6.out
  go_wp2_with fail
  refine (gOpen_any key nonce y x (m : Int) _ (HF.out.below hb06 HF.out.2)).mono ?_
  rintro e w7 ⟨t2, rfl, ht2, hb7⟩
  rw [HD.out]
  have hb07 := hb06.trans (hb7.mono hb06.size)
  clear hc0 hc1 hc2 hc3 hb06 hb7
  rcases HCH.out with ⟨rfl, hL, hne⟩ | ⟨rfl, he, hL⟩
  · obtain rfl := empty9 (ht2.trans hL)
    have hn1 : (tg.toList == z.toList) = false := by rw [beq_eq_false_iff_ne, HTG.out, HZL.out, ← tl_size]; exact hne
    have hn2 : tg ≠ z := fun hq => by rw [hq, beq_self_eq_true] at hn1; cases hn1
    clear hL hne ht2
    go_wp2_with fail
    go_ret
    exact ⟨rfl, hb07⟩
  · obtain rfl : tg = z := tl_inj (by rw [HTG.out, HZL.out, ← tl_size]; exact he)
    have hn3 : ((t2.size : Int) == (o : Int)) = true := by
      rw [beq_iff_eq, ← tl_size, ht2, hL, tl_size]
      have := HSZ.out.2.2.2
      have := HOO.out
      omega
    clear hL he ht2
    go_wp2_with fail
    go_ret
    exact ⟨rfl, hb07⟩
set_option maxRecDepth 100000 in
set_option maxHeartbeats 6400000 in
theorem g9chg_3 (key nonce aad : ByteArray) (m : Nat) (text : ByteArray) (f a : Int) (b : UInt8) (w : World) (hF : Fal w) (hc : gcTE key.size nonce.size aad.size (m : Int) text.size = 0) (hf : f ≠ 0 ∧ f ≠ 1 ∧ f ≠ 2) : Calls Tryd.prog 12 #[.agg #[.string key, .string nonce, .string aad, .int .i64 (m : Int)], .string text, .agg #[.int .i64 f, .int .i64 a, .int .u8 (b.toNat : Int)]] w (RetT w) := by
  have HF := Lib.hid hF
  have HCC := Lib.hid hc
  have hz := gcE_zero (gcTE_zero hc).1
  have hbk := gcBack key.toList nonce.toList aad.toList text.toList m (by rw [tl_size, tl_size, tl_size, tl_size]; exact hc)
  have hbd : text.size ≤ 70000 ∧ m ≤ 16 ∧ key.size ≤ 32 ∧ nonce.size ≤ 1024 ∧ aad.size ≤ 70000 := by have := (gcTE_zero hc).2; omega
  have HBK := Lib.hid hbk
  have HBD := Lib.hid hbd
  have k0 : (f == 0) = false := by rw [beq_eq_false_iff_ne]; omega
  have k1 : (f == 1) = false := by rw [beq_eq_false_iff_ne]; omega
  have k2 : (f == 2) = false := by rw [beq_eq_false_iff_ne]; omega
  clear hc hz hbk hf hbd hF
  go_enter Tryd.func12, Tryd.ntmps12
  go_wp2_with fail
  obtain ⟨w0, hw0, hA, hC, hb00, hl0⟩ := two9 w key nonce aad (m : Int) f a b
  rw [hw0]
  obtain ⟨B, hB⟩ : ∃ B, w.heap.size = B := ⟨_, rfl⟩
  rw [hB] at hA hC hl0 ⊢
  have HB := Lib.hid hB
  have HA0 := Lib.hid hA
  have HC0 := Lib.hid hC
  clear hw0 hB hA hC
  refine (wakes9_any _ (HF.out.below hb00 HF.out.2)).mono ?_
  rintro e w1 ⟨rfl, hb1⟩
  have HA1 := Lib.hid (HA0.out.below hb1 (Nat.lt_of_succ_lt hl0))
  have HC1 := Lib.hid (HC0.out.below hb1 hl0)
  have hl1 : B + 1 < w1.heap.size := Nat.lt_of_lt_of_le hl0 hb1.size
  have hb01 := below2 hb00 hb1
  clear hb00 hb1 hl0 HA0 HC0
  obtain ⟨⟨hc0, hc1, hc2, hc3⟩, ⟨hf0, hf1, hf2⟩⟩ := bx9_cells HA1.out
  obtain ⟨hd0, hd1, hd2⟩ := ch9_cells HC1.out
  go_wp2_with fail
  refine (gSeal_any key nonce aad text (m : Int) _ (HF.out.below hb01 HF.out.2)).mono ?_
  rintro e w2 ⟨x, rfl, hx, hb2⟩
  rw [HCC.out]
  have hxs : x.size = text.size + m := by rw [← tl_size, hx, HBK.out.1, tl_size]
  have HXS := Lib.hid hxs
  clear hx hxs
  have HA2 := Lib.hid (HA1.out.below hb2 (Nat.lt_of_succ_lt hl1))
  have HC2 := Lib.hid (HC1.out.below hb2 hl1)
  have hl2 : B + 1 < w2.heap.size := Nat.lt_of_lt_of_le hl1 hb2.size
  have hb02 := below2 hb01 hb2
  clear hc0 hc1 hc2 hc3 hf0 hf1 hf2 hd0 hd1 hd2 hb01 hb2 hl1 HA1 HC1
  obtain ⟨⟨hc0, hc1, hc2, hc3⟩, ⟨hf0, hf1, hf2⟩⟩ := bx9_cells HA2.out
  obtain ⟨hd0, hd1, hd2⟩ := ch9_cells HC2.out
  go_wp2_with fail
  refine (turned9_any x f a b _ (by have := HBD.out; have := HXS.out; omega)).mono ?_
  rintro e w4 ⟨y, rfl, hy, hb4⟩
  have HY := Lib.hid hy
  clear hy
  have HA4 := Lib.hid (HA2.out.below hb4 (Nat.lt_of_succ_lt hl2))
  have HC4 := Lib.hid (HC2.out.below hb4 hl2)
  have hl4 : B + 1 < w4.heap.size := Nat.lt_of_lt_of_le hl2 hb4.size
  have hb04 := below2 hb02 hb4
  clear hc0 hc1 hc2 hc3 hf0 hf1 hf2 hd0 hd1 hd2 hb02 hb4 hl2 HA2 HC2
  obtain ⟨⟨hc0, hc1, hc2, hc3⟩, ⟨hf0, hf1, hf2⟩⟩ := bx9_cells HA4.out
  obtain ⟨hd0, hd1, hd2⟩ := ch9_cells HC4.out
  have hsz : key.size = key.size ∧ nonce.size = nonce.size ∧ aad.size = aad.size ∧ y.size = text.size + m := ⟨by first | rfl | exact HY.out, by first | rfl | exact HY.out, by first | rfl | exact HY.out, by first | exact HXS.out | (rw [HY.out, HXS.out])⟩
  obtain ⟨o, ho⟩ : ∃ o, o = text.size := ⟨_, rfl⟩
  have q1 : (y.size : Int) - (m : Int) = (o : Int) := by have := hsz.2.2.2; omega
  have q2 : IntKind.i64.wrap (o : Int) = (o : Int) := wrap_in _ (by omega) (by have := HBD.out; omega)
  have q3 : (0 : Int) ≤ (o : Int) := by omega
  have q4 : (o : Int) ≤ (y.size : Int) := by have := hsz.2.2.2; omega
  have q5 : o ≤ y.size := by have := hsz.2.2.2; omega
  obtain ⟨pc, hpc⟩ : ∃ pc, y.extract 0 o = pc := ⟨_, rfl⟩
  obtain ⟨z, hzz⟩ : ∃ z, y.extract o y.size = z := ⟨_, rfl⟩
  have hpl : pc.toList = gcCut y.toList (m : Int) := by rw [← hpc, tl_ext0, gcCut, tl_size, Int.toNat_natCast, hsz.2.2.2, Nat.add_sub_cancel, ho]
  have hps : pc.size = text.size := by rw [← tl_size, ← hpc, tl_ext0, List.length_take, tl_size]; have := hsz.2.2.2; omega
  have hzl : z.toList = y.toList.drop (y.size - m) := by rw [← hzz, tl_extE _ _ _ rfl, hsz.2.2.2, Nat.add_sub_cancel, ho]
  have hE0 : gcOE key.toList.length nonce.toList.length aad.toList.length (m : Int) y.toList.length = 0 := by
    rw [tl_size, tl_size, tl_size, tl_size, hsz.1, hsz.2.1, hsz.2.2.1, hsz.2.2.2, gcOE, if_pos (gcTE_zero HCC.out).1, if_neg (by have := HBD.out; omega)]
  have hT0 : gcTE key.size nonce.size aad.size (m : Int) pc.size = 0 := by rw [hsz.1, hsz.2.1, hsz.2.2.1, hps]; exact HCC.out
  have hTL : gcTagL key.toList nonce.toList aad.toList pc.toList (m : Int) = gcTag key.toList nonce.toList aad.toList (gcCut y.toList (m : Int)) m := by
    rw [gcTagL, tl_size, tl_size, tl_size, tl_size, hT0, if_pos rfl, Int.toNat_natCast, hpl]
  have hch := gcChg key.toList nonce.toList aad.toList y.toList m hE0
  obtain ⟨d, hd⟩ : ∃ d, gcOpenE key.toList nonce.toList aad.toList y.toList (m : Int) = d := ⟨_, rfl⟩
  rw [hd] at hch
  have HD := Lib.hid hd
  have HCH := Lib.hid hch
  have HSZ := Lib.hid hsz
  have HOO := Lib.hid ho
  have HT0 := Lib.hid hT0
  have HTL := Lib.hid hTL
  have HZL := Lib.hid hzl
  clear hsz hE0 hch hd ho hT0 hTL hpl hps hzl
  obtain ⟨w5, rfl⟩ : ∃ w5, w5 = w4 := ⟨_, rfl⟩
  have HA5 := HA4
  have HC5 := HC4
  have hb05 := hb04
  have hl5 := hl4
  clear HA4 HC4 hb04 hl4
  go_wp2_with fail
  have HF5 := Lib.hid (HF.out.below hb05.drew HF.out.2)
  have HS5 : Hid (w5.cell? ⟨B, 0, none⟩ = some (.string key) ∧ w5.cell? ⟨B, 1, none⟩ = some (.string nonce) ∧ w5.cell? ⟨B, 2, none⟩ = some (.string aad) ∧ w5.cell? ⟨B, 3, none⟩ = some (.int .i64 (m : Int)) ∧ B < w5.heap.size) := Lib.hid ⟨hc0, hc1, hc2, hc3, Nat.lt_of_succ_lt hl5⟩
  go_region_held3 (fun w' => w'.cell? ⟨B, 0, none⟩ = some (.string key) ∧ w'.cell? ⟨B, 1, none⟩ = some (.string nonce) ∧ w'.cell? ⟨B, 2, none⟩ = some (.string aad) ∧ w'.cell? ⟨B, 3, none⟩ = some (.int .i64 (m : Int)) ∧ B < w'.heap.size ∧ Below w5.heap.size w5 w') (first | exact bx9k (by assumption) (by assumption) | exact ⟨HS5.out.1, HS5.out.2.1, HS5.out.2.2.1, HS5.out.2.2.2.1, HS5.out.2.2.2.2, (Below.refl _ _).drew⟩)
    (first
      | (go_at_call 25; refine (gTag_any key nonce aad pc (m : Int) _ HF5.out).mono ?_; rintro e w6 ⟨tg, rfl, htg, hb6⟩; rw [HT0.out]; rw [HTL.out] at htg; have HTG := Lib.hid htg; clear htg))
  have hb56 : Below w5.heap.size w5 w6 := bx9b (by assumption)
  have HA6 := Lib.hid (HA5.out.below hb56 (Nat.lt_of_succ_lt hl5))
  have hb06 := hb05.trans (hb56.mono hb05.size)
  have hl6 : B < w6.heap.size := Nat.lt_of_lt_of_le HS5.out.2.2.2.2 hb56.size
  clear hc0 hc1 hc2 hc3 hf0 hf1 hf2 hd0 hd1 hd2 hb05 hb6
  obtain ⟨⟨hc0, hc1, hc2, hc3⟩, _⟩ := bx9_cells HA6.out
  go_wp2_with fail
  refine (gOpen_any key nonce aad y (m : Int) _ (HF.out.below hb06 HF.out.2)).mono ?_
  rintro e w7 ⟨t2, rfl, ht2, hb7⟩
  rw [HD.out]
  have hb07 := hb06.trans (hb7.mono hb06.size)
  clear hc0 hc1 hc2 hc3 hb06 hb7
  rcases HCH.out with ⟨rfl, hL, hne⟩ | ⟨rfl, he, hL⟩
  · obtain rfl := empty9 (ht2.trans hL)
    have hn1 : (tg.toList == z.toList) = false := by rw [beq_eq_false_iff_ne, HTG.out, HZL.out, ← tl_size]; exact hne
    have hn2 : tg ≠ z := fun hq => by rw [hq, beq_self_eq_true] at hn1; cases hn1
    clear hL hne ht2
    go_wp2_with fail
    go_ret
    exact ⟨rfl, hb07⟩
  · obtain rfl : tg = z := tl_inj (by rw [HTG.out, HZL.out, ← tl_size]; exact he)
    have hn3 : ((t2.size : Int) == (o : Int)) = true := by
      rw [beq_iff_eq, ← tl_size, ht2, hL, tl_size]
      have := HSZ.out.2.2.2
      have := HOO.out
      omega
    clear hL he ht2
    go_wp2_with fail
    go_ret
    exact ⟨rfl, hb07⟩
theorem gcmChanged_walk (key nonce aad : ByteArray) (s : Int) (text : ByteArray) (f a b : Int) (hb : (Lit.int .u8 b).wf = true) (w : World) (hF : Fal w) : Calls Tryd.prog 12 #[.agg #[.string key, .string nonce, .string aad, .int .i64 s], .string text, .agg #[.int .i64 f, .int .i64 a, .int .u8 b]] w (RetT w) := by
  obtain ⟨u, rfl⟩ : ∃ u : UInt8, b = (u.toNat : Int) := by
    have h : 0 ≤ b ∧ b ≤ 255 := by
      have h1 : IntKind.u8.min = 0 := rfl
      have h2 : IntKind.u8.max = 255 := rfl
      simp only [Lit.wf, Bool.and_eq_true, decide_eq_true_eq] at hb
      omega
    exact ⟨UInt8.ofNat b.toNat, by simp; omega⟩
  obtain ⟨c, hc⟩ : ∃ c, gcTE key.size nonce.size aad.size s text.size = c := ⟨_, rfl⟩
  by_cases h0 : c = 0
  · rw [h0] at hc
    have hz := gcE_zero (gcTE_zero hc).1
    obtain ⟨m, rfl⟩ := Int.eq_ofNat_of_zero_le (a := s) (by omega)
    by_cases h1 : f = 0
    · exact g9chg_0 key nonce aad m text f a u w hF hc h1
    · by_cases h2 : f = 1
      · exact g9chg_1 key nonce aad m text f a u w hF hc h2
      · by_cases h3 : f = 2
        · exact g9chg_2 key nonce aad m text f a u w hF hc h3
        · exact g9chg_3 key nonce aad m text f a u w hF hc ⟨h1, h2, h3⟩
  · exact g9chg_no key nonce aad s text f a u w hF c hc h0
end Go.Proofs.YtkedoiikkjeadaaDoor
