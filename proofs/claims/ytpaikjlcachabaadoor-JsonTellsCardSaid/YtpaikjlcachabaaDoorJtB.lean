/- package token: a number in memory. -/
import Derived.Test.YtpaikjlcachabaaDoorJtA
import Derived.Test.YtpaikjlcachabaaDoorRowI
namespace Go.Proofs.YtpaikjlcachabaaDoor
open Go.RowKit
set_option linter.unusedVariables false
set_option linter.unusedSimpArgs false
namespace Js
open Dr (Rs Lm has lack)
/-- what taking a byte does to memory: all blocks below h are as they were, and so is each block but h and rows of bytes -/
structure Tk (h : Nat) (w w' : World) : Prop where
  below : Below h w w'
  other : ∀ k, k < w.heap.size → k ≠ h → (∀ cur, w.heap[k]? ≠ some (.cells cur 5 (0, 0))) → w'.heap[k]? = w.heap[k]?
  ty : h < w.heap.size → ∀ e cur, w'.heap[h]? = some (.cells cur e (0, 0)) → ∃ cur', w.heap[h]? = some (.cells cur' e (0, 0))
theorem Tk.refl (h : Nat) (w : World) : Tk h w w := ⟨Below.refl h w, fun _ _ _ _ => rfl, fun _ _ cur hc => ⟨cur, hc⟩⟩
theorem Tk.size {h : Nat} {w w' : World} (k : Tk h w w') : w.heap.size ≤ w'.heap.size := k.below.size
theorem Tk.trans {h : Nat} {a b c : World} (k : Tk h a b) (l : Tk h b c) : Tk h a c :=
  ⟨k.below.trans l.below, fun i hi hg hu => by
    have h1 := k.other i hi hg hu
    exact (l.other i (Nat.lt_of_lt_of_le hi k.below.size) hg (fun cur => by rw [h1]; exact hu cur)).trans h1, fun hl e cur hc => by
    obtain ⟨c2, hc2⟩ := l.ty (Nat.lt_of_lt_of_le hl k.below.size) e cur hc
    exact k.ty hl e c2 hc2⟩
theorem Tk.drew {h : Nat} {a w : World} (k : Tk h a w) : Tk h a w.drew := ⟨k.below.drew, k.other, k.ty⟩
theorem tk_drewN (h : Nat) (w : World) (k : Nat) : Tk h w (w.drewN k) := ⟨⟨rfl, rfl, rfl, Nat.le_refl _, fun _ _ => rfl⟩, fun _ _ _ _ => rfl, fun _ _ cur hc => ⟨cur, hc⟩⟩
theorem setCell_ty {w : World} {p : Addr} {u : Value} {e : TypeId} {cur : Array Value} (h : (w.setCell p u).heap[p.block]? = some (.cells cur e (0, 0))) : ∃ cur', w.heap[p.block]? = some (.cells cur' e (0, 0)) := by
  unfold World.setCell at h
  dsimp only at h
  rw [Array.getElem?_modify, if_pos rfl] at h
  cases hb : w.heap[p.block]? with
  | none => rw [hb] at h; cases h
  | some o =>
    rw [hb] at h
    cases o with
    | cells c e' fr =>
      simp only [Option.map_some, Option.some.injEq, Obj.cells.injEq] at h
      obtain ⟨_, rfl, rfl⟩ := h
      exact ⟨c, rfl⟩
    | _ => simp at h
theorem Tk.setCell {h : Nat} {a w : World} (k : Tk h a w) {p : Addr} (hp : h ≤ p.block) (u : Value) (hq : p.block = h := by rfl) : Tk h a (w.setCell p u) :=
  ⟨k.below.setCell hp u, fun i hi hg hu => (Below.heap_setCell _ _ _ _ (by omega)).trans (k.other i hi hg hu), fun hl e cur hc => by
    rw [← hq] at hc
    obtain ⟨c2, hc2⟩ := setCell_ty hc
    rw [hq] at hc2
    exact k.ty hl e c2 hc2⟩
theorem Tk.alloc {h : Nat} {a w : World} (k : Tk h a w) (hB : h ≤ w.heap.size) (o : Obj) : Tk h a (w.alloc o) :=
  ⟨k.below.alloc hB o, fun i hi hg hu => (Below.heap_alloc _ _ _ (Nat.lt_of_lt_of_le hi k.below.size)).trans (k.other i hi hg hu), fun hl e cur hc => by
    rw [Below.heap_alloc _ _ _ (Nat.lt_of_lt_of_le hl k.below.size)] at hc
    exact k.ty hl e cur hc⟩
theorem u8_at {w : World} {B h n : Nat} {v : Value} {xs : List Value} (o : w.ownsRow B 5 1 v n xs) (hB : h < B) : ∀ k, v.ownBlock = some k → h < k ∧ ∃ cur, w.heap[k]? = some (.cells cur 5 (0, 0)) := fun k hk => by
  rcases o.2 with ⟨rfl, _⟩ | ⟨g, cap, cur, rfl, h1, h2, _⟩
  · cases hk
  · obtain rfl : g = k := by simpa [Value.ownBlock] using hk
    exact ⟨Nat.lt_of_lt_of_le hB h1, cur, h2⟩
theorem Tk.grown {h : Nat} {a w w' : World} {row : Option Nat} (k : Tk h a w) (hg : w.grownBy w' row) (hB : h ≤ w.heap.size) (hr : ∀ k, row = some k → h < k ∧ ∃ cur, a.heap[k]? = some (.cells cur 5 (0, 0))) : Tk h a w' :=
  ⟨k.below.grown hg hB (fun i hi => Nat.le_of_lt (hr i hi).1), fun i hi hgg hu => by
    refine (hg.block i (Nat.lt_of_lt_of_le hi k.below.size) (fun e => ?_)).trans (k.other i hi hgg hu)
    obtain ⟨cur, hc⟩ := (hr i e.symm).2
    exact hu cur hc, fun hl e cur hc => by
    rw [hg.block h (Nat.lt_of_lt_of_le hl k.below.size) (fun e => by have := (hr h e.symm).1; omega)] at hc
    exact k.ty hl e cur hc⟩
theorem set_size (w : World) (a : Addr) (u : Value) : (w.setCell a u).heap.size = w.heap.size := by simp [World.setCell]
theorem cell_new {w : World} {n : Nat} (h : w.heap.size = n) (v : Value) (t : TypeId) : (w.alloc (Obj.cells #[v] t)).cell? ⟨n, 0, none⟩ = some v := by subst h; simp
/-- a number in memory -/
structure Nm (w : World) (h : Nat) (wv : Nat) (t : List UInt8) (vT : Value) : Prop where
  at0 : At w h 0 [.int .i64 (wv : Int), vT]
  text : w.ownsRow (h + 1) 5 1 vT t.length (bcells t)
theorem Nm.lt {w : World} {h wv : Nat} {t : List UInt8} {vT : Value} (m : Nm w h wv t vT) : h < w.heap.size := m.at0.lt (by simp)
def NumTake (wv : Nat) (t : List UInt8) (b : UInt8) (h : Nat) (w : World) (e : Ending) (w' : World) : Prop :=
  (∃ y vT, nextN wv b = some y ∧ e = .returned (.int .i64 0) ∧ Hid (Nm w' h y (t ++ [b]) vT) ∧ Hid (Tk h w w')) ∨
  (nextN wv b = none ∧ e = .returned (.int .i64 (if wholeN wv = true then 2 else 3)) ∧ w = w')
set_option maxRecDepth 100000 in
theorem nwhole_any (h wv : Nat) (w : World) (hc : w.cell? ⟨h, 0, none⟩ = some (.int .i64 (wv : Int))) : Calls Tryd.prog 70 #[.pointer (some ⟨h, 0, none⟩)] w (fun e w' => e = .returned (.bool (wholeN wv)) ∧ w = w') := by
  by_cases h2 : wv = 2
  · subst h2
    go_enter Tryd.func70, Tryd.ntmps70
    go_wp2_with fail
    go_ret
    exact ⟨rfl, rfl⟩
  by_cases h3 : wv = 3
  · subst h3
    go_enter Tryd.func70, Tryd.ntmps70
    go_wp2_with fail
    go_ret
    exact ⟨rfl, rfl⟩
  by_cases h5 : wv = 5
  · subst h5
    go_enter Tryd.func70, Tryd.ntmps70
    go_wp2_with fail
    go_ret
    exact ⟨rfl, rfl⟩
  by_cases h8 : wv = 8
  · subst h8
    go_enter Tryd.func70, Tryd.ntmps70
    go_wp2_with fail
    go_ret
    exact ⟨rfl, rfl⟩
  rw [show wholeN wv = false from decide_eq_false (by omega)]
  have e2 := eqF (n := wv) (c := 2) (by omega)
  have e3 := eqF (n := wv) (c := 3) (by omega)
  have e5 := eqF (n := wv) (c := 5) (by omega)
  have e8 := eqF (n := wv) (c := 8) (by omega)
  clear h2 h3 h5 h8
  go_enter Tryd.func70, Tryd.ntmps70
  go_wp2_with fail
  go_ret
  exact ⟨rfl, rfl⟩
set_option maxRecDepth 100000 in
theorem ntext_any (h wv : Nat) (t : List UInt8) (vT : Value) (w : World) (m : Nm w h wv t vT) : Calls Tryd.prog 79 #[.pointer (some ⟨h, 0, none⟩)] w (fun e w' => e = .returned (.string ⟨t.toArray⟩) ∧ w = w') := by
  have c1 := m.at0.cell 1 _ rfl
  have hcv := run_convert_own (P := Tryd.prog) m.text 66 9 Tryd.underlying66 Tryd.underlying5 Tryd.underlying9
  clear m
  go_enter Tryd.func79, Tryd.ntmps79
  go_wp2_with fail
  go_ret
  exact ⟨rfl, rfl⟩
set_option maxRecDepth 100000 in
set_option maxHeartbeats 3200000 in
theorem ntake_any (h wv : Nat) (t : List UInt8) (vT : Value) (b : UInt8) (w : World) (hw : wv ≤ 8) (ht : t.length ≤ 140737488351232) (m : Nm w h wv t vT) :
    Calls Tryd.prog 69 #[.pointer (some ⟨h, 0, none⟩), .int .u8 (b.toNat : Int)] w (NumTake wv t b h w) := by
  have c0 := m.at0.cell 0 _ rfl
  have NX := Lib.hid (next_any h wv hw b w c0)
  have WH := Lib.hid (nwhole_any h wv w c0)
  obtain ⟨r, hr⟩ : ∃ r, nextN wv b = r := ⟨_, rfl⟩
  rw [hr] at NX
  have HM := Lib.hid m
  have HR := Lib.hid hr
  have HT := Lib.hid ht
  have hb := b.toNat_lt
  obtain ⟨n, hn⟩ : ∃ n, b.toNat = n := ⟨_, rfl⟩
  rw [hn] at NX ⊢
  have HN := Lib.hid hn
  clear m hr ht hb c0 hn
  cases r with
  | none =>
    go_enter Tryd.func69, Tryd.ntmps69
    cases hwn : wholeN wv with
    | true =>
      rw [hwn] at WH
      have HWN := Lib.hid hwn
      clear hwn
      go_wp2_with (first | (go_at_call 84; refine NX.out.mono ?_; rintro e w1 ⟨x, rfl, -, rfl⟩; rw [show (none : Option Nat).isSome = false from rfl]) | (go_at_call 70; refine WH.out.mono ?_; rintro e w1 ⟨rfl, rfl⟩))
      go_ret
      exact .inr ⟨HR.out, by rw [HWN.out]; rfl, rfl⟩
    | false =>
      rw [hwn] at WH
      have HWN := Lib.hid hwn
      clear hwn
      go_wp2_with (first | (go_at_call 84; refine NX.out.mono ?_; rintro e w1 ⟨x, rfl, -, rfl⟩; rw [show (none : Option Nat).isSome = false from rfl]) | (go_at_call 70; refine WH.out.mono ?_; rintro e w1 ⟨rfl, rfl⟩))
      go_ret
      exact .inr ⟨HR.out, by rw [HWN.out]; rfl, rfl⟩
  | some y =>
    obtain ⟨i5, hi5, hq5⟩ := Option.map_eq_some_iff.1 info5
    simp only [Prod.mk.injEq] at hq5
    obtain ⟨hz0, hz1, hz2⟩ := hq5
    obtain ⟨k, hk⟩ : ∃ k, t.length = k := ⟨_, rfl⟩
    have HK := Lib.hid hk
    have hx0 : Hid (w.ownsRow (h + 1) 5 1 vT k (bcells t)) := by rw [← hk]; exact HM.out.text
    obtain ⟨aT, cT, rfl, -⟩ := own_form hx0.out
    have f0 := HM.out.at0.froz 0 (by show 0 < 2; decide)
    have c0 := HM.out.at0.cell 0 _ rfl
    have c1 := HM.out.at0.cell 1 _ rfl
    have HA2 : Hid (At (w.setCell ⟨h, 0, none⟩ (.int .i64 (y : Int))) h 0 [.int .i64 (y : Int), .slice aT k cT]) := HM.out.at0.set 0 _
    have HO2 : Hid (World.ownsRow (w.setCell ⟨h, 0, none⟩ (.int .i64 (y : Int))) (h + 1) 5 1 (.slice aT k cT) k (bcells t)) := ownsRow_setCell_below hx0.out (Nat.lt_succ_self h) _
    have HB2 : Hid (Tk h w (w.setCell ⟨h, 0, none⟩ (.int .i64 (y : Int)))) := (Tk.refl _ _).setCell (p := ⟨h, 0, none⟩) (Nat.le_refl h) _
    have HSZ : Hid (h < w.heap.size) := HM.out.lt
    clear hk hx0
    go_enter Tryd.func69, Tryd.ntmps69
    go_wp2_with (first
      | (go_at_call 84; refine NX.out.mono ?_; rintro e w1 ⟨x, rfl, hx, rfl⟩; obtain rfl := hx y rfl; clear hx; rw [show (some x : Option Nat).isSome = true from rfl])
      | (at_builtin; refine wpList_append_u8 rfl (.tmp 22) (.tmp 24) 66 rfl (h + 1) 5 i5 Tryd.underlying66 hi5 hz0 hz1 hz2 (.slice aT k cT) k t rfl (HO2.out.alloc _) _ 1 1 [b] rfl rfl (cells_one (by rw [HN.out]; exact cell_new (set_size _ _ _) _ _)) (by have := HT.out; have := HK.out; omega) (by have := HSZ.out; simp [World.setCell]; omega) ?_; intro v' w4 hown4 hgrow4; obtain ⟨a4, c4', hv4, -⟩ := own_form hown4; subst hv4; have hAt4 := At.grown (HA2.out.alloc _) hgrow4 (by have := HSZ.out; simp [World.setCell]; omega) (fun e => by have := (HO2.out.lt h e).1; omega); have HR4 := Lib.hid hAt4; have HO4 := Lib.hid hown4; have HB4 := Lib.hid ((HB2.out.alloc (by have := HSZ.out; simp [World.setCell]; omega) _).grown hgrow4 (by have := HSZ.out; simp [World.setCell]; omega) (u8_at HM.out.text (Nat.lt_succ_self h))); clear c1 c0 f0; have f1 := hAt4.froz 1 (by show 1 < 2; decide); have c41 := hAt4.cell 1 _ rfl; clear hAt4 hgrow4 hown4))
    go_ret
    refine .inl ⟨x, _, HR.out, rfl, ⟨HR4.out.set 1 _, ?_⟩, ?_⟩
    · rw [List.length_append, HK.out]
      exact ownsRow_setCell_below HO4.out (Nat.lt_succ_self h) _
    · exact HB4.out.setCell (p := ⟨h, 1, none⟩) (Nat.le_refl h) _
end Js
end Go.Proofs.YtpaikjlcachabaaDoor
