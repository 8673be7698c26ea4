/- The document's reader: the elements inside one. -/
import Derived.Test.YteglahkgnggmgaaDoorDvF
import Derived.Test.YteglahkgnggmgaaDoorDrR
namespace Go.Proofs.YteglahkgnggmgaaDoor
open Go.RowKit
set_option linter.unusedVariables false
set_option linter.unusedSimpArgs false
open Dr
theorem mod_mid (O N : List Nd) (x : Nd) (z : Int) : (O ++ x :: N).modify O.length (fun n => { n with kids := z }) = O ++ { x with kids := z } :: N := by
  induction O with
  | nil => rfl
  | cons a O ih => rw [List.cons_append, List.length_cons, List.modify_succ_cons, ih]; rfl
theorem ncells_mid (O R : List Nd) (x : Nd) : (ncells (O ++ x :: R))[O.length * 3 + 1]? = some (.int .i64 x.kids) := by
  rw [ncells_append, List.getElem?_append_right (by rw [ncells_length]; omega), ncells_length, show O.length * 3 + 1 - 3 * O.length = 1 by omega]
  rfl
/-- a node's number of kids is written -/
theorem Rf.kids {w : World} {g : Nat} {s : ByteArray} {L : Lm} {ro : Int} {O : List Nd} {kn cap : Nat} {er : Int} {pl tk fr : Nat} {en : Bool} (h : Rf w g s L ro O (.slice (some ⟨kn, 0, none⟩) O.length cap) er pl tk fr en) (i : Nat) (hi : i < O.length) (z : Int) :
    Rf (w.setCell ⟨kn, i * 3 + 1, none⟩ (.int .i64 z)) g s L ro (O.modify i fun n => { n with kids := z }) (.slice (some ⟨kn, 0, none⟩) O.length cap) er pl tk fr en := by
  have hgk := (h.out.lt kn rfl).1
  have hs := (h.out.stored (i * 3 + 1) (.int .i64 z)).1
  rw [← ncells_modify z O i hi] at hs
  refine ⟨h.at0.other kn (i * 3 + 1) _ (Or.inl (by omega)), by rw [List.length_modify]; exact hs, by rw [show (w.setCell ⟨kn, i * 3 + 1, none⟩ (.int .i64 z)).heap.size = w.heap.size by simp [World.setCell]]; exact h.lt⟩
/-- an element is read, whatever stands around it, if few enough bytes follow -/
def ElAll (m : Nat) (s : ByteArray) (L : Lm) (ro : Int) (g : Nat) : Prop :=
  ∀ (w : World) (O : List Nd) (G : List Fr) (l : List Nd) (p : Nat) (z zd : Int), s.size - p < m → Rok w g s L ro O G.length → l.length = O.length → p ≤ s.size → EndOf G z → G.length ≤ 1000 → (G.length : Int) = zd →
    Calls Tryd.prog 50 #[.pointer (some ⟨g, 0, none⟩), .int .i64 (p : Int), .int .i64 zd, .int .i64 z] w (DElem s L ro g O G.length G l p w)
def fr0 (t : UInt8) (node p0 e k : Nat) (lb : ByteArray) : Fr := { tag := t, node := node, p0 := p0, e := e, kids := k, last := lb.toList }
def DIns (s : ByteArray) (L : Lm) (ro : Int) (g : Nat) (O : List Nd) (fr : Nat) (G : List Fr) (l : List Nd) (t : UInt8) (p0 e1 q : Nat) (w : World) (e : Ending) (w' : World) : Prop :=
  (∃ (N : List Nd) (k : Nat), Yes (.tuple #[.int .i64 (e1 : Int), .bool true]) g s L ro (O ++ ⟨t, (k : Int), []⟩ :: N) fr w e w' ∧ e1 ≤ s.size ∧ ∀ r, RunsD s.toList L (.pend G (l ++ ⟨t, (k : Int), []⟩ :: N) p0 e1) r → RunsD s.toList L (.loop (fr0 t l.length p0 e1 0 ByteArray.empty :: G) (l ++ [⟨t, 0, []⟩]) q) r) ∨
  (∃ c x b, Nay (.tuple #[.int .i64 0, .bool false]) g s L ro c x b w e w' ∧ RunsD s.toList L (.loop (fr0 t l.length p0 e1 0 ByteArray.empty :: G) (l ++ [⟨t, 0, []⟩]) q) (.no c x b))
set_option maxRecDepth 100000 in
set_option maxHeartbeats 1600000 in
theorem inside_any (m : Nat) (s : ByteArray) (L : Lm) (ro : Int) (g : Nat) (EL : ElAll m s L ro g) (hz : s.size ≤ 140737488351232) (w : World) (O : List Nd) (G : List Fr) (l : List Nd) (t8 : UInt8) (t : Nat) (ht : t8.toNat = t) (p0 q e1 : Nat)
    (hR : Rok w g s L ro O G.length) (hl : l.length = O.length) (hq : q ≤ s.size) (hqe : q ≤ e1) (he : e1 ≤ 140737488351232 + 4294967296) (hm : s.size - q < m) (hO : O.length ≤ 4096) (hG : G.length ≤ 999) :
    Calls Tryd.prog 70 #[.pointer (some ⟨g, 0, none⟩), .int .u8 (t : Int), .int .i64 (q : Int), .int .i64 (e1 : Int), .int .i64 (G.length : Int)] w (DIns s L ro g O G.length G l t8 p0 e1 q w) := by
  obtain ⟨a0, c0, tk0, HR⟩ := hR.opn
  obtain ⟨n0, hn0⟩ : ∃ n, O.length = n := ⟨_, rfl⟩
  obtain ⟨gl, hgl⟩ : ∃ n, G.length = n := ⟨_, rfl⟩
  have HN0 := Lib.hid (And.intro hn0 (And.intro hl hgl))
  rw [hn0, hgl] at HR
  rw [hgl]
  have HEL := Lib.hid EL
  have HH := Lib.hid (And.intro hq (And.intro hqe (And.intro he (And.intro hm (And.intro hO (And.intro hG hz))))))
  have HT := Lib.hid ht
  have k5 := HR.out.at0.cell 5 _ rfl
  have k9 := HR.out.at0.cell 9 _ rfl
  obtain ⟨gk, hgk⟩ : ∃ k, gl + 1 = k := ⟨_, rfl⟩
  have e9 : (gl : Int) + 1 = (gk : Int) := by omega
  have e9w : IntKind.i64.wrap (gk : Int) = (gk : Int) := wrap_fit gk (by unfold maxLen; omega)
  have HGK := Lib.hid hgk
  have HNV : Hid (nv (⟨t8, 0, []⟩ : Nd) = (#[Value.int .u8 (t : Int), Value.int .i64 0, Value.string ByteArray.empty]).toList) := by
    show nv _ = _
    simp only [nv, ht]
    rfl
  clear EL ht hl hq hqe he hm hO hG hn0 hgl hgk hR
  go_enter Tryd.func70, Tryd.ntmps70
  go_wp2_with (at_builtin; refine wpList_append_nd rfl (.tmp 26) (.tmp 29) rfl (g + 1) _ n0 O rfl (by have h := (HR.out.alloc (Obj.cells #[Value.int .u8 (t : Int), Value.int .i64 0, Value.string ByteArray.empty] 63)).out; rw [HN0.out.1] at h; exact h) w.heap.size 1 (⟨t8, 0, []⟩ : Nd) rfl (nd_cells2 HNV.out (At.ofAlloc w #[Value.int .u8 (t : Int), Value.int .i64 0, Value.string ByteArray.empty] 63)) (by have := HH.out.2.2.2.2.1; have := HN0.out.1; omega) (by have := HR.out.lt; simp; omega) ?_; intro v1 w1 hown1 hgrow1; obtain ⟨a1, c1, rfl, -⟩ := own_form hown1; have HX := Lib.hid (HR.out.alloc (Obj.cells #[Value.int .u8 (t : Int), Value.int .i64 0, Value.string ByteArray.empty] 63)); have hAt1 := At.grown HX.out.at0 hgrow1 HX.out.lt (fun e => by have := (HX.out.out.lt g e).1; omega); have hf1 := hAt1.froz 5 (Nat.le_of_ble_eq_true rfl); have hc1 := hAt1.cell 5 _ rfl; have hf19 := hAt1.froz 9 (Nat.le_of_ble_eq_true rfl); have hc19 := hAt1.cell 9 _ rfl; have HR1 := Lib.hid (Rf.add (O' := O ++ [(⟨t8, 0, []⟩ : Nd)]) HX.out hgrow1 (by rw [List.length_append, HN0.out.1]; exact hown1)); have HB1 : Hid (Below g w (w1.setCell ⟨g, 5, none⟩ (.slice a1 (n0 + 1) c1))) := ((((Below.refl g w).alloc (Nat.le_of_lt HR.out.lt) _).grown hgrow1 (Nat.le_of_lt HX.out.lt) (fun k hk => by have := (HX.out.out.lt k hk).1; omega)).setCell (p := ⟨g, 5, none⟩) (Nat.le_refl _) (.slice a1 (n0 + 1) c1)); clear hAt1 hgrow1 hown1)
  have HR2 : Hid (Rok ((w1.setCell ⟨g, 5, none⟩ (.slice a1 (n0 + 1) c1)).setCell ⟨g, 9, none⟩ (.int .i64 (gk : Int))) g s L ro (O ++ [(⟨t8, 0, []⟩ : Nd)]) gk) := ⟨_, _, HR1.out.setC 9 _ (fr' := gk) rfl⟩
  have HB2 : Hid (Below g w ((w1.setCell ⟨g, 5, none⟩ (.slice a1 (n0 + 1) c1)).setCell ⟨g, 9, none⟩ (.int .i64 (gk : Int)))) := HB1.out.setCell (p := ⟨g, 9, none⟩) (Nat.le_refl _) _
  clear hc1 hf1 hc19 hf19 k5 k9
  go_loopw [2, 13] (fun va vl wr => ∃ (a k : Nat) (N : List Nd) (lb : ByteArray), va = .int .i64 (a : Int) ∧ vl = .string lb ∧ a ≤ e1 ∧ a ≤ s.size ∧ q ≤ a ∧ k ≤ a ∧ (k = 0 → lb.toList = []) ∧ Hid (Rok wr g s L ro (O ++ ⟨t8, (k : Int), []⟩ :: N) gk) ∧ Hid (Below g w wr) ∧ Hid (∀ r, RunsD s.toList L (.loop (fr0 t8 l.length p0 e1 k lb :: G) (l ++ ⟨t8, 0, []⟩ :: N) a) r → RunsD s.toList L (.loop (fr0 t8 l.length p0 e1 0 ByteArray.empty :: G) (l ++ [⟨t8, 0, []⟩]) q) r)) (fun va _ _ => e1 - (intOf va).toNat)
  case atStart => exact ⟨q, 0, [], ByteArray.empty, rfl, rfl, HH.out.2.1, HH.out.1, Nat.le_refl _, Nat.zero_le _, fun _ => tl_empty, HR2, HB2, fun r hr => hr⟩
  case round =>
    obtain ⟨a, k, N, lb, rfl, rfl, ha1, ha2, ha3, ha4, hk0, HRr, HBr, HRun⟩ := hrel
    have HA := Lib.hid (And.intro ha1 (And.intro ha2 (And.intro ha3 (And.intro ha4 hk0))))
    by_cases h1 : a < e1
    · have e2 : (a : Int) < (e1 : Int) := by omega
      have hs1 : loopS (fr0 t8 l.length p0 e1 k lb) G (l ++ ⟨t8, 0, []⟩ :: N) a = .el (fr0 t8 l.length p0 e1 k lb :: G) (l ++ ⟨t8, 0, []⟩ :: N) a := by rw [loopS, if_pos (show a < (fr0 t8 l.length p0 e1 k lb).e from h1)]
      have HRun2 : Hid (∀ r, RunsD s.toList L (.el (fr0 t8 l.length p0 e1 k lb :: G) (l ++ ⟨t8, 0, []⟩ :: N) a) r → RunsD s.toList L (.loop (fr0 t8 l.length p0 e1 0 ByteArray.empty :: G) (l ++ [⟨t8, 0, []⟩]) q) r) := fun r hr => HRun.out r (Runs.loop (by rw [hs1]; exact hr))
      have EC := Lib.hid (HEL.out wr (O ++ ⟨t8, (k : Int), []⟩ :: N) (fr0 t8 l.length p0 e1 k lb :: G) (l ++ ⟨t8, 0, []⟩ :: N) a (e1 : Int) (gk : Int) (by have := HH.out.2.2.2.1; have := HA.out; omega) (by rw [List.length_cons, HN0.out.2.2, HGK.out]; exact HRr.out) (by rw [List.length_append, List.length_append, HN0.out.2.1]; rfl) ha2 (.inr ⟨_, _, rfl, rfl⟩) (by rw [List.length_cons]; have := HH.out.2.2.2.2.2.1; omega) (by rw [List.length_cons, HN0.out.2.2, HGK.out]))
      rw [List.length_cons, HN0.out.2.2, HGK.out] at EC
      have HI := Lib.hid h1
      clear ha1 ha2 ha3 ha4 hk0 h1 hs1
      go_wp2_with fail
      refine EC.out.mono ?_
      rintro e w2 (⟨N2, q2, ⟨rfl, HR3, HB3⟩, h4, h5, h6, HR4⟩ | ⟨c2, x2, b2, ⟨rfl, HR3, HB3⟩, HR4⟩)
      · obtain ⟨M, hM⟩ : ∃ M, O.length + 1 + N.length + N2.length = M := ⟨_, rfl⟩
        have hlen : (O ++ (⟨t8, (k : Int), []⟩ : Nd) :: N ++ N2).length = M := by simp only [List.length_append, List.length_cons]; omega
        obtain ⟨kn, c3, tk3, HQ3⟩ := HR3.out.opn2 (by rw [hlen]; omega)
        have hap : O ++ (⟨t8, (k : Int), []⟩ : Nd) :: N ++ N2 = O ++ (⟨t8, (k : Int), []⟩ : Nd) :: (N ++ N2) := by simp
        obtain ⟨kq, hkq⟩ : ∃ kq, k + 1 = kq := ⟨_, rfl⟩
        have e20 : (k : Int) + 1 = (kq : Int) := by omega
        have e21 : IntKind.i64.wrap (kq : Int) = (kq : Int) := wrap_fit kq (by have := HA.out; have := HH.out.2.2.2.2.2.2; unfold maxLen; omega)
        have hM0 : n0 < M := by have := HN0.out.1; omega
        have HK4 := Lib.hid (HQ3.out.kids n0 (by rw [hlen]; have := HN0.out.1; omega) (kq : Int))
        rw [hap, ← HN0.out.1, mod_mid, ← hap] at HK4
        rw [HN0.out.1, hlen] at HK4
        rw [hlen] at HQ3
        have k5 := HQ3.out.at0.cell 5 _ rfl
        have k0 := HQ3.out.at0.cell 0 _ rfl
        rw [Nat.zero_add] at k0
        have hAn := At.ofOwnN (by have h := HQ3.out.out; rw [← hlen] at h; exact h)
        have hnd : (ncells (O ++ (⟨t8, (k : Int), []⟩ : Nd) :: N ++ N2))[n0 * 3 + 1]? = some (.int .i64 (k : Int)) := by
          rw [hap, ← HN0.out.1]
          exact ncells_mid O (N ++ N2) ⟨t8, (k : Int), []⟩
        have hn1 := hAn.cell (n0 * 3 + 1) _ hnd
        have hnf := (hAn (n0 * 3 + 1) _ hnd).2
        rw [Nat.zero_add] at hn1 hnf
        have hgk := HQ3.out.out.lt kn rfl
        have HR5 : Hid (Rf (w2.setCell ⟨kn, n0 * 3 + 1, none⟩ (.int .i64 (kq : Int))).drew g s L ro (O ++ (⟨t8, (kq : Int), []⟩ : Nd) :: (N ++ N2)) (.slice (some ⟨kn, 0, none⟩) M c3) 0 0 tk3 gk false) := HK4.out.drew
        have HB5 : Hid (Below g w (w2.setCell ⟨kn, n0 * 3 + 1, none⟩ (.int .i64 (kq : Int))).drew) := ((HBr.out.trans HB3.out).setCell (p := ⟨kn, n0 * 3 + 1, none⟩) (by show g ≤ kn; omega) _).drew
        obtain ⟨w5, hw5⟩ : ∃ x, (w2.setCell ⟨kn, n0 * 3 + 1, none⟩ (.int .i64 (kq : Int))).drew = x := ⟨_, rfl⟩
        rw [hw5] at HR5 HB5
        have HW5 := Lib.hid hw5
        obtain ⟨u, hu⟩ : ∃ u, s.extract a q2 = u := ⟨_, rfl⟩
        have hul : u.toList = Dr.part s.toList a q2 := by rw [← hu, tl_extract]; rfl
        have e22 : (a : Int) ≤ (q2 : Int) := by omega
        have e23 : (q2 : Int) ≤ (s.size : Int) := by omega
        have e24 : a ≤ q2 := by omega
        have e25 : q2 ≤ s.size := h5
        obtain ⟨cb, hcb⟩ : ∃ cb, Op.bytesLess u.toList lb.toList = cb := ⟨_, rfl⟩
        have hyes : (t8 = 0x31 ∧ cb = true) → RunsD s.toList L (.pend (fr0 t8 l.length p0 e1 k lb :: G) (l ++ (⟨t8, 0, []⟩ : Nd) :: N ++ N2) a q2) (.no 9 a false) := fun h => Runs.pendNo (by
          rw [pendS, if_pos]
          refine ⟨h.1, ?_, by rw [← hul]; show Op.bytesLess u.toList lb.toList = true; rw [hcb]; exact h.2⟩
          show 0 < k
          refine Nat.pos_of_ne_zero fun h0 => ?_
          rw [HA.out.2.2.2.2 h0, h.2] at hcb
          cases hq : u.toList with
          | nil => rw [hq] at hcb; cases hcb
          | cons x y => rw [hq] at hcb; cases hcb)
        have hno : ¬ (t8 = 0x31 ∧ cb = true) → ∀ r, RunsD s.toList L (.loop (fr0 t8 l.length p0 e1 kq u :: G) (l ++ (⟨t8, 0, []⟩ : Nd) :: (N ++ N2)) q2) r → RunsD s.toList L (.pend (fr0 t8 l.length p0 e1 k lb :: G) (l ++ (⟨t8, 0, []⟩ : Nd) :: N ++ N2) a q2) r := fun h r hr => Runs.pend (s := .loop (fr0 t8 l.length p0 e1 kq u :: G) (l ++ (⟨t8, 0, []⟩ : Nd) :: N ++ N2) q2) (by
          rw [pendS, if_neg (by
            rintro ⟨h7, _, h8⟩
            refine h ⟨h7, ?_⟩
            rw [← hcb, hul]
            exact h8), ← hul, ← hkq]
          rfl) (by rw [show l ++ (⟨t8, 0, []⟩ : Nd) :: N ++ N2 = l ++ (⟨t8, 0, []⟩ : Nd) :: (N ++ N2) by simp]; exact hr)
        clear hnd hAn hgk
        go_wp2_with fail
        go_region
        try rw [hw5]
        clear k5 k0 hn1 hnf hw5
        have k0 := HR5.out.at0.cell 0 _ rfl
        rw [Nat.zero_add] at k0
        have HNX : Hid (q2 ≤ e1 ∧ q2 ≤ s.size ∧ q ≤ q2 ∧ kq ≤ q2 ∧ (kq = 0 → u.toList = []) ∧ a < q2) := ⟨h6 _ rfl, h5, by have := HA.out; omega, by have := HA.out; omega, fun h => by omega, by omega⟩
        have hR4 := Lib.hid HR4
        have HRX : Hid (Rok w5 g s L ro (O ++ (⟨t8, (kq : Int), []⟩ : Nd) :: (N ++ N2)) gk) := ⟨_, _, HR5.out⟩
        by_cases ht9 : t = 49
        · have h9 : t8 = 0x31 := by rw [← UInt8.toNat_inj, HT.out, ht9]; rfl
          subst ht9
          cases cb with
          | true =>
            have HY := Lib.hid (HRun2.out _ (HR4 _ (hyes ⟨h9, rfl⟩)))
            clear hyes hno h4 h5 h6 HR4 hlen hap hM hM0 hkq hul h9 hR4
            go_wp2_with (first | (go_at_call 52; refine (dfault_ok HRX.out _ _ a rfl).mono ?_; rintro e w6 ⟨rfl, HR6, HB6⟩))
            go_ret2
            exact .inr ⟨_, _, _, ⟨rfl, HR6, HB5.out.trans HB6.out⟩, HY.out⟩
          | false =>
            have HY := Lib.hid (fun r hr => HRun2.out r (HR4 r (hno (by rintro ⟨_, h⟩; cases h) r hr)))
            clear hyes hno h4 h5 h6 HR4 hlen hap hM hM0 hkq hul h9 hR4
            go_wp2_with fail
            go_roundw
            case rel => exact ⟨q2, kq, N ++ N2, u, rfl, rfl, HNX.out.1, HNX.out.2.1, HNX.out.2.2.1, HNX.out.2.2.2.1, HNX.out.2.2.2.2.1, HRX, HB5, HY⟩
            case measure => have := HNX.out; simp [intOf]; omega
        · have h9 : ¬ t8 = 0x31 := fun h => ht9 (by rw [← HT.out, h]; rfl)
          have e30 : ¬ (t : Int) = 49 := by omega
          have e31 : ((t : Int) == 49) = false := by rw [beq_eq_false_iff_ne]; exact e30
          have HY := Lib.hid (fun r hr => HRun2.out r (HR4 r (hno (by rintro ⟨h, _⟩; exact h9 h) r hr)))
          clear hyes hno h4 h5 h6 HR4 hlen hap hM hM0 hkq hul h9 hR4
          go_wp2_with fail
          go_roundw
          case rel => exact ⟨q2, kq, N ++ N2, u, rfl, rfl, HNX.out.1, HNX.out.2.1, HNX.out.2.2.1, HNX.out.2.2.2.1, HNX.out.2.2.2.2.1, HRX, HB5, HY⟩
          case measure => have := HNX.out; simp [intOf]; omega
      · go_wp2_with fail
        go_ret2
        exact .inr ⟨c2, x2, b2, ⟨rfl, HR3, HBr.out.trans HB3.out⟩, HRun2.out _ HR4⟩
    · obtain rfl : a = e1 := by omega
      have e2 : ¬ (a : Int) < (a : Int) := by omega
      have hs1 : loopS (fr0 t8 l.length p0 a k lb) G (l ++ ⟨t8, 0, []⟩ :: N) a = .pend G (l ++ ⟨t8, (k : Int), []⟩ :: N) p0 a := by
        rw [loopS, if_neg (show ¬ a < (fr0 t8 l.length p0 a k lb).e from h1)]
        show St.pend G ((l ++ (⟨t8, 0, []⟩ : Nd) :: N).modify l.length (fun n => { n with kids := (k : Int) })) p0 a = _
        rw [mod_mid]
      have HRun2 : Hid (∀ r, RunsD s.toList L (.pend G (l ++ ⟨t8, (k : Int), []⟩ :: N) p0 a) r → RunsD s.toList L (.loop (fr0 t8 l.length p0 a 0 ByteArray.empty :: G) (l ++ [⟨t8, 0, []⟩]) q) r) := fun r hr => HRun.out r (Runs.loop (by rw [hs1]; exact hr))
      obtain ⟨a5, c5, tk5, HR5⟩ := HRr.out.opn
      have k9 := HR5.out.at0.cell 9 _ rfl
      have f9 := HR5.out.at0.froz 9 (Nat.le_of_ble_eq_true rfl)
      have e10 : (gk : Int) - 1 = (gl : Int) := by have := HGK.out; omega
      have e11 : IntKind.i64.wrap (gl : Int) = (gl : Int) := wrap_fit gl (by have := HH.out.2.2.2.2.2.1; have := HN0.out.2.2; unfold maxLen; omega)
      clear ha1 ha2 ha3 ha4 hk0 h1 hs1
      go_wp2_with fail
      go_ret2
      exact .inl ⟨N, k, ⟨rfl, ⟨_, _, HR5.out.setC 9 _ (fr' := gl) rfl⟩, HBr.out.setCell (p := ⟨g, 9, none⟩) (Nat.le_refl _) _⟩, HA.out.2.1, HRun2.out⟩
end Go.Proofs.YteglahkgnggmgaaDoor
