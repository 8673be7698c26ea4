/- Telling: joining from the end. -/
import Derived.Test.YteglahkgnggmgaaDoorDsA
namespace Go.Proofs.YteglahkgnggmgaaDoor
open Go.RowKit
set_option linter.unusedVariables false
set_option linter.unusedSimpArgs false
open Dr
structure JnI (l : List Nd) (n B : Nat) (w : World) (vm vo vi : Value) (wr : World) : Prop where
  out : ∃ (i : Nat) (M : List (List UInt8)) (o : Bool), vi = .int .i64 (i : Int) ∧ vo = .bool o ∧ i ≤ n ∧ Hid (jnS (l.drop (n - i)) = (M, o)) ∧ Hid (wr.ownsRow B 9 1 vm M.length (mcells M)) ∧ Hid (Below B w wr)
def RetJn (l : List Nd) (w : World) (e : Ending) (w' : World) : Prop := ∃ s : ByteArray, e = .returned (.tuple #[.string s, .bool (jnS l).2]) ∧ s.toList = (jnS l).1.getD ((jnS l).1.length - 1) [] ∧ Below w.heap.size w w'
theorem bods_drop (l : List Nd) (i : Nat) : bods (l.drop i) ≤ bods l := by
  have h : bods (l.take i) + bods (l.drop i) = bods l := by
    rw [bods, bods, bods, ← List.sum_append, ← List.map_append, List.take_append_drop]
  omega
theorem dcv_byteN (f : Nat) (hf : f < 256) (c : ByteArray) (hc : c = ⟨[UInt8.ofNat f].toArray⟩) : ∀ (w' : World) (k : Nat), (convert 42 9 (.slice (some ⟨w'.heap.size, 0, none⟩) 1 1)).run Tryd.prog ((w'.alloc (Obj.cells #[.int .u8 (f : Int)] 5)).drewN k) = .ok (.string c) ((w'.alloc (Obj.cells #[.int .u8 (f : Int)] 5)).drewN k) := fun w' k => by
  have e9 : (f : Int) = ((UInt8.ofNat f).toNat : Int) := by simp; omega
  have hcv := dcv_at (P := Tryd.prog) (cap := 1) (l := [UInt8.ofNat f]) ((At.ofAlloc w' #[.int .u8 ((UInt8.ofNat f).toNat : Int)] 5).drewN k) 42 9 5 1 rfl Tryd.underlying42 Tryd.underlying5 Tryd.underlying9
  rw [← hc, ← e9] at hcv
  exact hcv
theorem mcells_split (M : List (List UInt8)) (k : Nat) : mcells M = mcells (M.drop k) ++ mcells (M.take k) := by
  conv => lhs; rw [← List.take_append_drop k M]
  rw [mcells, mcells, mcells, List.reverse_append, List.map_append, scells_append]
/-- whether sets are in order, with the first j of an element's own looked at -/
def obj (o : Bool) (t : UInt8) (M : List (List UInt8)) (j : Nat) : Bool := o && (decide (t ≠ 0x31) || ordK M j)
theorem obj_zero (o : Bool) (t : UInt8) (M : List (List UInt8)) : obj o t M 0 = o := by simp [obj, ordK_zero]
theorem obj_off {t : UInt8} (o : Bool) (M : List (List UInt8)) (i j : Nat) (h : t ≠ 0x31) : obj o t M i = obj o t M j := by simp [obj, h]
theorem obj_one (o : Bool) (t : UInt8) (M : List (List UInt8)) (h : 0 < M.length) : obj o t M 1 = obj o t M 0 := by simp [obj, ordK_zero, ordK_one M h]
theorem obj_two (o : Bool) (t : UInt8) (M : List (List UInt8)) (j : Nat) (h : j + 1 < M.length) (ht : t = 0x31) : obj o t M (j + 2) = (obj o t M (j + 1) && !(Op.bytesLess (M.getD (j + 1) []) (M.getD j []))) := by
  subst ht
  simp [obj, ordK_succ M j h, Bool.and_assoc]
theorem obj_false (o : Bool) (t : UInt8) (M : List (List UInt8)) (j : Nat) (hj : j < M.length) (h : obj o t M j = false) : obj o t M (j + 1) = false := by
  by_cases ht : t = 0x31
  · cases j with
    | zero => rw [obj_one o t M hj]; exact h
    | succ j => rw [obj_two o t M j hj ht, h]; rfl
  · rw [obj_off o M (j + 1) j ht]; exact h
theorem At.tailM {w : World} {g : Nat} {M : List (List UInt8)} (h : At w g 0 (mcells M)) (k : Nat) (hk : k ≤ M.length) : At w g (M.length - k) (mcells (M.take k)) := fun j v hv => by
  have h1 := h (M.length - k + j) v (by
    rw [mcells_split M k, List.getElem?_append_right (by rw [mcells_length, List.length_drop]; omega), mcells_length, List.length_drop, Nat.add_sub_cancel_left]
    exact hv)
  rw [Nat.zero_add] at h1
  exact h1
theorem conv3 {g : Nat} (f : Nat) (hf : f < 256) (c : ByteArray) (hc : c = ⟨[UInt8.ofNat f].toArray⟩) {wa w3 : World} (ha : At wa g 0 [.int .u8 (f : Int)]) (hb : Below wa.heap.size wa w3) (hg : g < wa.heap.size) :
    (convert 42 9 (.slice (some ⟨g, 0, none⟩) 1 1)).run Tryd.prog w3 = .ok (.string c) w3 := by
  have e9 : (f : Int) = ((UInt8.ofNat f).toNat : Int) := by simp; omega
  rw [e9] at ha
  have hcv := dcv_at (P := Tryd.prog) (cap := 1) (l := [UInt8.ofNat f]) (ha.below hb hg) 42 9 5 1 rfl Tryd.underlying42 Tryd.underlying5 Tryd.underlying9
  rw [← hc] at hcv
  exact hcv
theorem own_drew1 {w : World} {B e size n : Nat} {v : Value} {xs : List Value} (h : w.ownsRow B e size v n xs) : w.drew.ownsRow B e size v n xs := own_drewN h 1
theorem below_alloc1 {B : Nat} {w w' : World} (h : Below B w w') (hB : B ≤ w.heap.size) (ob : Obj) : Below B w (w'.alloc ob) := h.alloc (by have := h.size; omega) ob
theorem cell_newS (w : World) (u : ByteArray) (e : TypeId) : (w.alloc (Obj.cells #[.string u] e)).cell? ⟨w.heap.size, 0, none⟩ = some (.string u) := (At.ofAlloc w #[.string u] e).cell 0 _ rfl
theorem cell_newSd (w : World) (u : ByteArray) (e : TypeId) : ((w.alloc (Obj.cells #[.string u] e)).drew).cell? ⟨w.heap.size, 0, none⟩ = some (.string u) := cell_newS w u e
theorem cell_newSk (w : World) (u : ByteArray) (e : TypeId) (k : Nat) (hk : k = w.heap.size) : (w.alloc (Obj.cells #[.string u] e)).cell? ⟨k, 0, none⟩ = some (.string u) := by rw [hk]; exact cell_newS w u e
set_option maxRecDepth 100000 in
set_option maxHeartbeats 3200000 in
theorem join_any (l : List Nd) (v : Value) (w : World) (hS : Sl w v l) (hK : KidsOk l) (hF : Fits l) (hn : l.length ≤ 4096) (h0 : l ≠ []) (hbo : bods l ≤ 262144) :
    Calls Tryd.prog 35 #[v] w (RetJn l w) := by
  obtain ⟨g, cap0, rfl, hAg, hgl⟩ : ∃ g cap, v = .slice (some ⟨g, 0, none⟩) l.length cap ∧ At w g 0 (ncells l) ∧ g < w.heap.size := by
    obtain ⟨a, cap, hv, h1⟩ := hS
    obtain ⟨g, rfl, h2, h3⟩ := h1 h0
    exact ⟨g, cap, hv, h2, h3⟩
  obtain ⟨n, hn0⟩ : ∃ n, l.length = n := ⟨_, rfl⟩
  have HAG := Lib.hid (And.intro hAg hgl)
  have HN := Lib.hid (And.intro hn (And.intro hn0 hbo))
  have HK := Lib.hid hK
  have HF := Lib.hid hF
  have H0 := Lib.hid h0
  rw [hn0]
  have hnl : IntKind.i64.wrap (n : Int) = (n : Int) := wrap_fit n (by unfold maxLen; omega)
  clear hS hAg hgl hK hF hn h0 hbo
  go_enter Tryd.func35, Tryd.ntmps35
  go_wp2_with fail
  go_loopw [4, 5, 15] (fun vm vo vi wr => JnI l n w.heap.size w vm vo vi wr) (fun _ _ vi _ => n - (intOf vi).toNat)
  case atStart => exact ⟨0, [], true, rfl, rfl, Nat.zero_le _, by rw [Nat.sub_zero, List.drop_eq_nil_of_le (by omega)]; rfl, World.ownsRow_nil _ _ _ _, Below.refl _ _⟩
  case round =>
    obtain ⟨i, M, o, rfl, rfl, hi, HJ, HO, HB⟩ := hrel
    by_cases hin : i < n
    · obtain ⟨p, hp⟩ : ∃ p, n - 1 - i = p := ⟨_, rfl⟩
      have hpl : p < l.length := by omega
      have hNc := (ncell_at HAG.out.1 p hpl).below HB.out HAG.out.2
      obtain ⟨nd, hnd⟩ : ∃ nd, l.getD p ⟨0, 0, []⟩ = nd := ⟨_, rfl⟩
      have hdrop := drop_cons hpl
      have hkn := HK.out nd (by rw [← hnd]; exact getD_mem hpl)
      rw [hnd] at hNc hdrop
      have hpi : n - i = p + 1 := by omega
      rw [hpi] at HJ
      have n0 := hNc.cell 0 _ rfl
      have n1 := hNc.cell 1 _ rfl
      have n2 := hNc.cell 2 _ rfl
      rw [Nat.add_zero] at n0
      obtain ⟨q, hq⟩ : ∃ q, n - 1 = q := ⟨_, rfl⟩
      have e1 : (i : Int) < (n : Int) := by omega
      have e2 : (n : Int) - 1 = (q : Int) := by omega
      have e3 : IntKind.i64.wrap (q : Int) = (q : Int) := wrap_fit q (by unfold maxLen; have := HN.out.1; omega)
      have e4 : (q : Int) - (i : Int) = (p : Int) := by omega
      have e5 : IntKind.i64.wrap (p : Int) = (p : Int) := wrap_fit p (by unfold maxLen; have := HN.out.1; omega)
      have e6 : (p : Int) < (n : Int) := by omega
      have e9 : (i : Int) ≤ 4096 := by have h1 := HN.out.1; omega
      obtain ⟨kk, hkk⟩ : ∃ kk, nd.kids = kk := ⟨_, rfl⟩
      rw [hkk] at n1 hkn
      have HD := Lib.hid hdrop
      have HFP := Lib.hid (HF.out.drop p)
      have HKK := Lib.hid (And.intro hkk hkn)
      have HII := Lib.hid (show n = i + 1 + p ∧ q = i + p from ⟨by omega, by omega⟩)
      have HBD := Lib.hid (show nd.body.length ≤ 262144 from by have h1 := bods_drop l p; rw [hdrop] at h1; have h2 : bods (nd :: l.drop (p + 1)) = nd.body.length + bods (l.drop (p + 1)) := (by simp [bods]); have := HN.out.2.2; omega)
      have HBS := Lib.hid (show tot M ≤ 294912 from by have h1 := jnS_tot (l.drop (p + 1)) (by have h1 := bods_drop l (p + 1); have h2 := HN.out; rw [List.length_drop]; omega); rw [HJ.out, List.length_drop] at h1; dsimp only at h1; have h2 := bods_drop l (p + 1); have h3 := HN.out; omega)
      have HML := Lib.hid (show M.length ≤ 4096 from by have h1 := jnS_len (l.drop (p + 1)); rw [HJ.out, List.length_drop] at h1; dsimp only at h1; have h3 := HN.out; omega)
      obtain ⟨m, hm⟩ : ∃ m, M.length = m := ⟨_, rfl⟩
      have HM := Lib.hid hm
      rw [hm] at HO
      clear hNc hdrop hkk hkn hin hi hnd hp hpl hpi hq hm
      by_cases hk0 : 0 ≤ kk
      · have e8 : (0 : Int) ≤ kk := hk0
        obtain ⟨k, rfl⟩ := Int.eq_ofNat_of_zero_le hk0
        have hkm : k ≤ m := by
          have h1 := HFP.out
          rw [HD.out] at h1
          have h2 := h1.1 (by rw [HKK.out.1]; exact hk0)
          rw [HKK.out.1, HJ.out] at h2
          have h3 := HM.out
          have h4 : (k : Int) ≤ (M.length : Int) := h2
          omega
        obtain ⟨d, hd⟩ : ∃ d, m - k = d := ⟨_, rfl⟩
        have HKM := Lib.hid (And.intro hkm hd)
        have hm6 : m ≤ 4096 := by have := HML.out; have := HM.out; omega
        have e10 : (m : Int) - (k : Int) = (d : Int) := by omega
        have e11 : IntKind.i64.wrap (d : Int) = (d : Int) := wrap_fit d (by unfold maxLen; omega)
        have e12 : (d : Int) ≤ (m : Int) := by omega
        have e13 : (m : Int) - (d : Int) = (k : Int) := by omega
        have HB2 : Hid (Below w.heap.size w (wr.alloc (Obj.cells #[.int .u8 (nd.tag.toNat : Int), .int .i64 (k : Int), .string ⟨nd.body.toArray⟩] 63))) := HB.out.alloc HB.out.size _
        have HO2 : Hid ((wr.alloc (Obj.cells #[.int .u8 (nd.tag.toNat : Int), .int .i64 (k : Int), .string ⟨nd.body.toArray⟩] 63)).ownsRow w.heap.size 9 1 u4 m (mcells M)) := HO.out.alloc _
        have HTA : Hid (At (wr.alloc (Obj.cells #[.int .u8 (nd.tag.toNat : Int), .int .i64 (k : Int), .string ⟨nd.body.toArray⟩] 63)) wr.heap.size 0 [.int .u8 (nd.tag.toNat : Int), .int .i64 (k : Int), .string ⟨nd.body.toArray⟩] ∧ wr.heap.size < (wr.alloc (Obj.cells #[.int .u8 (nd.tag.toNat : Int), .int .i64 (k : Int), .string ⟨nd.body.toArray⟩] 63)).heap.size) := ⟨At.ofAlloc wr _ _, by simp⟩
        clear hkm hd hk0 hm6
        go_upto_region 9 with fail
        obtain ⟨T, hTT⟩ : ∃ T, wr.heap.size = T := ⟨_, rfl⟩
        obtain ⟨bn, hbn⟩ : ∃ b : ByteArray, (⟨nd.body.toArray⟩ : ByteArray) = b := ⟨_, rfl⟩
        rw [hbn] at HTA HO2 HB2 ⊢
        rw [hTT] at HTA ⊢
        generalize wr.alloc (Obj.cells #[.int .u8 (nd.tag.toNat : Int), .int .i64 (k : Int), .string bn] 63) = wx at HTA HO2 HB2 ⊢
        have ht0 := HTA.out.1.cell 0 _ rfl
        have ht1 := HTA.out.1.cell 1 _ rfl
        rw [Nat.add_zero] at ht0
        go_cut [9] from 31 to 37 (fun v9 wz => wz = wx ∧ ∃ a9 c9, v9 = .slice a9 k c9 ∧ Hid (k ≠ 0 → ∃ gk, a9 = some ⟨gk, d, none⟩ ∧ gk < wz.heap.size ∧ At wz gk d (mcells (M.take k))))
        case first =>
          obtain ⟨am, cm, rfl, ham⟩ := own_form HO2.out
          cases am with
          | none =>
            obtain rfl : m = 0 := by
              rcases Nat.eq_zero_or_pos m with h | h
              · exact h
              · obtain ⟨x, hx⟩ := ham h; cases hx
            obtain rfl : k = 0 := by have := HKM.out.1; omega
            obtain rfl : d = 0 := by have := HKM.out.2; omega
            go_wp2_with fail
            go_meet
            case rel => exact ⟨rfl, _, _, rfl, fun h => absurd rfl h⟩
          | some A =>
            by_cases hm0 : m = 0
            · subst hm0
              obtain rfl : k = 0 := by have := HKM.out.1; omega
              obtain rfl : d = 0 := by have := HKM.out.2; omega
              go_wp2_with fail
              go_meet
              case rel => exact ⟨rfl, _, _, rfl, fun h => absurd rfl h⟩
            · obtain ⟨gk, hgk⟩ := ham (by omega)
              obtain rfl := Option.some.inj hgk
              have hM := HM.out
              have h1 := HKM.out.1
              have h2 := HKM.out.2
              have h3 := At.tailM (At.ofOwn HO2.out) k (by omega)
              rw [show M.length - k = d by omega] at h3
              have hcm := own_cap HO2.out
              have h5 := (HO2.out.lt gk rfl).2
              have H3 := Lib.hid (And.intro h3 h5)
              have HCM := Lib.hid hcm
              clear hM h1 h2 h3 hcm h5
              by_cases hcd : cm - d = 0
              · have hd9 : d = m ∧ k = 0 ∧ cm = m := by have := HCM.out; have := HKM.out; omega
                obtain ⟨rfl, rfl, rfl⟩ := hd9
                clear hcd
                go_wp2_with fail
                go_meet
                case rel => exact ⟨rfl, _, _, rfl, fun h => absurd rfl h⟩
              · go_wp2_with fail
                go_meet
                case rel => exact ⟨rfl, _, _, by rw [show m - d = k by have := HKM.out; omega], fun h => ⟨gk, rfl, H3.out.2, H3.out.1⟩⟩
        case rest =>
        obtain ⟨rfl, a9, c9, rfl, h9⟩ := hcut
        have H9 := Lib.hid h9
        clear h9
        go_upto_region 10 with fail
        go_cut [4] from 38 to 44 (fun v4 wz => wz = wc ∧ Hid (wz.ownsRow w.heap.size 9 1 v4 d (mcells (M.drop k))))
        case first =>
          obtain ⟨am, cm, rfl, ham⟩ := own_form HO2.out
          cases am with
          | none =>
            obtain rfl : m = 0 := by
              rcases Nat.eq_zero_or_pos m with h | h
              · exact h
              · obtain ⟨x, hx⟩ := ham h; cases hx
            obtain rfl : k = 0 := by have := HKM.out.1; omega
            obtain rfl : d = 0 := by have := HKM.out.2; omega
            go_wp2_with fail
            go_meet
            case rel => exact ⟨rfl, by have h := HO2.out; simpa [Hid] using h⟩
          | some A =>
            by_cases hm0 : m = 0
            · subst hm0
              obtain rfl : k = 0 := by have := HKM.out.1; omega
              obtain rfl : d = 0 := by have := HKM.out.2; omega
              go_wp2_with fail
              go_meet
              case rel => exact ⟨rfl, by have h := HO2.out; simpa [Hid] using h⟩
            · obtain ⟨gk, hgk⟩ := ham (by omega)
              obtain rfl := Option.some.inj hgk
              have hM := HM.out
              have h1 := HKM.out.1
              have h2 := HKM.out.2
              have h4 := own_take HO2.out (show d ≤ m by omega) (by omega)
              rw [Nat.mul_one, mcells_split M k, List.take_append_of_le_length (by rw [mcells_length, List.length_drop]; omega), List.take_of_length_le (by rw [mcells_length, List.length_drop]; omega)] at h4
              have hcm := own_cap HO2.out
              have e14 : (d : Int) ≤ (cm : Int) := by omega
              have H3 := Lib.hid h4
              clear hM h1 h2 h4 hcm
              go_wp2_with fail
              go_meet
              case rel => exact ⟨rfl, H3⟩
        case rest =>
          obtain ⟨rfl, ho4⟩ := hcut
          have HO4 := Lib.hid ho4.out
          have hkn9 : (k : Int) ≤ 4096 := by have h1 := HKM.out.1; have h2 := HM.out; have h3 := HML.out; omega
          have HFB := Lib.hid (Lib.fresh_isBuilder 104 5 wc)
          clear ho4
          go_wp2_with fail
          have HBB : Hid (Below wc.heap.size wc (wc.alloc (Obj.cells #[Value.pointer none, Value.slice none 0 0] 104))) := (Below.refl _ _).alloc (Nat.le_refl _) _
          obtain ⟨b, hb⟩ : ∃ b, wc.heap.size = b := ⟨_, rfl⟩
          rw [hb] at HFB HBB ⊢
          have HTB := Lib.hid (show T < b by rw [← hb]; exact HTA.out.2)
          have HBE := Lib.hid hb
          generalize wc.alloc (Obj.cells #[Value.pointer none, Value.slice none 0 0] 104) = wk at HFB HBB ⊢
          obtain ⟨t, ht⟩ : ∃ t, nd.tag.toNat = t := ⟨_, rfl⟩
          rw [ht] at HTA ⊢
          have HTG := Lib.hid ht
          clear ht hb e2 e3 e4 e6 e8 e10 e11 e12 e13 ht0 ht1 n0 n1 n2
          go_loopw [5, 47] (fun v5 v47 wy => ∃ j : Nat, v47 = .int .i64 (j : Int) ∧ j ≤ k ∧ v5 = .bool (obj o nd.tag M j) ∧ Hid (Lib.IsBuilder 104 5 b b (Lib.byteCells (M.take j).flatten) wy) ∧ Hid (Below b wc wy)) (fun _ v47 _ => k - (intOf v47).toNat)
          case atStart => exact ⟨0, rfl, Nat.zero_le _, by rw [obj_zero], HFB, HBB⟩
          case round =>
            obtain ⟨j, rfl, hj, rfl, HIB, HBY⟩ := hrel
            clear HFB HBB
            by_cases hjk : j < k
            · obtain ⟨gk, rfl, hgk, hAk⟩ := H9.out (by omega)
              rw [HBE.out] at hgk
              have hAy := hAk.below HBY.out hgk
              have hMl : k ≤ M.length := by rw [HM.out]; exact HKM.out.1
              obtain ⟨k1, hk1⟩ : ∃ x, k - 1 = x := ⟨_, rfl⟩
              obtain ⟨r, hr⟩ : ∃ x, k1 - j = x := ⟨_, rfl⟩
              have f1 : (k : Int) - 1 = (k1 : Int) := by omega
              have f2 : IntKind.i64.wrap (k1 : Int) = (k1 : Int) := wrap_fit k1 (by unfold maxLen; omega)
              have f3 : (k1 : Int) - (j : Int) = (r : Int) := by omega
              have f4 : IntKind.i64.wrap (r : Int) = (r : Int) := wrap_fit r (by unfold maxLen; omega)
              have f5 : (r : Int) < (k : Int) := by omega
              have f6 : (j : Int) < (k : Int) := by omega
              obtain ⟨x, hx⟩ : ∃ x : ByteArray, (⟨(M.getD j []).toArray⟩ : ByteArray) = x := ⟨_, rfl⟩
              have hcell : ∀ s, s < k → (mcells (M.take k))[k - 1 - s]? = some (.string ⟨(M.getD s []).toArray⟩) := fun s hs => by
                have h1 := mcells_get (M.take k) s (by rw [List.length_take]; omega)
                rw [List.length_take, Nat.min_eq_left hMl] at h1
                rw [h1, List.getD, List.getD, List.getElem?_take_of_lt hs]
              have hcr := hAy.cell r _ (by have := hcell j hjk; rw [show k - 1 - j = r by omega, hx] at this; exact this)
              have hxt : x.toList = M.getD j [] := by rw [← hx, tl_mk]
              have HX := Lib.hid (And.intro hxt (And.intro hx (And.intro hjk hMl)))
              have HR := Lib.hid (And.intro hk1 hr)
              have HCL := Lib.hid hcell
              have HAY := Lib.hid hAy
              have htg := (HTA.out.1.below HBY.out HTB.out).cell 0 _ rfl
              rw [Nat.add_zero] at htg
              clear hAk hAy hcell hx hxt hk1 hr hjk hMl hj
              go_upto_region 16 with fail
              go_cut [5, 11, 25, 47] from 48 to 78 (fun v5 v11 v25 v47 wz => wz = wr ∧ v5 = .bool (obj o nd.tag M (j + 1)) ∧ v11 = .int .i64 (j : Int) ∧ v47 = .int .i64 (j : Int) ∧ v25 = .agg #[.int .u8 (t : Int), .int .i64 (k : Int), .string bn])
              case first =>
                cases hob : obj o nd.tag M j with
                | false =>
                  have HOB := Lib.hid (obj_false o nd.tag M j (by have := HX.out; omega) hob)
                  clear hob
                  go_wp2_with fail
                  all_goals (go_meet; case rel => refine ⟨rfl, by rw [HOB.out], ?_, ?_, ?_⟩ <;> first | rfl | (simp; done) | (simp; omega))
                | true =>
                  by_cases ht : nd.tag = 0x31
                  · obtain rfl : t = 49 := by rw [← HTG.out, ht]; rfl
                    cases j with
                    | zero =>
                      have HOB : Hid (obj o nd.tag M 1 = true) := by show _ = _; rw [obj_one _ _ _ (by have := HX.out; omega)]; exact hob
                      clear hob ht
                      go_wp2_with fail
                      all_goals (go_meet; case rel => refine ⟨rfl, by rw [HOB.out], ?_, ?_, ?_⟩ <;> first | rfl | (simp; done) | (simp; omega))
                    | succ s =>
                      have HOB : Hid (obj o nd.tag M (s + 2) = !(Op.bytesLess (M.getD (s + 1) []) (M.getD s []))) := by show _ = _; rw [obj_two _ _ _ _ (by have := HX.out; omega) ht, hob]; rfl
                      obtain ⟨u, hu⟩ : ∃ x, k - (s + 1) = x := ⟨_, rfl⟩
                      have hjk := HX.out.2.2.1
                      have g1 : (k : Int) - ((s : Int) + 1) = (u : Int) := by omega
                      have g2 : IntKind.i64.wrap (u : Int) = (u : Int) := wrap_fit u (by unfold maxLen; omega)
                      have g3 : (u : Int) < (k : Int) := by omega
                      have g4 : ¬ ((s : Int) + 1 = 0) := by omega
                      obtain ⟨y, hy⟩ : ∃ y : ByteArray, (⟨(M.getD s []).toArray⟩ : ByteArray) = y := ⟨_, rfl⟩
                      have hcu := HAY.out.cell u _ (by have := HCL.out s (by omega); rw [show k - 1 - s = u by omega, hy] at this; exact this)
                      have HY : Hid (y.toList = M.getD s []) := by show _ = _; rw [← hy, tl_mk]
                      clear hob ht hu hjk hy
                      go_wp2_with fail
                      go_meet
                      case rel =>
                        refine ⟨rfl, ?_, by go_num, by go_num, rfl⟩
                        show Value.bool _ = Value.bool (obj o nd.tag M (s + 2))
                        have g5 : ((s : Int) + 1 == 0) = false := by rw [beq_eq_false_iff_ne]; omega
                        rw [HOB.out, ← HX.out.1, ← HY.out, ← bl_swap y.toList x.toList, Bool.not_not, g5, Bool.false_or]
                  · have ht9 : ¬ t = 49 := fun h => ht (UInt8.toNat_inj.1 (by rw [HTG.out, h]; rfl))
                    have e1 : ((t : Int) == 49) = false := by
                      rw [beq_eq_false_iff_ne]
                      omega
                    have e1b : ¬ ((t : Int) = 49) := by omega
                    have HOB : Hid (obj o nd.tag M (j + 1) = true) := by show _ = _; rw [obj_off _ _ _ j ht]; exact hob
                    clear hob ht
                    go_wp2_with fail
                    all_goals (go_meet; case rel => refine ⟨rfl, by rw [HOB.out], ?_, ?_, ?_⟩ <;> first | rfl | (simp; done) | (simp; omega))
              case rest =>
                obtain ⟨rfl, rfl, rfl, rfl, rfl⟩ := hcut
                have HXS := Lib.hid (show (M.take j).flatten.length + x.size ≤ 140737488355328 from by
                  have h1 := tot_append (M.take j) (M.drop j)
                  rw [List.take_append_drop] at h1
                  have h2 := tot_getD M j
                  have h3 := HX.out.1
                  rw [← h3, tl_size] at h2
                  rw [tot_flatten]
                  have h4 := HBS.out
                  omega)
                have HFS : Hid ((M.take (j + 1)).flatten = (M.take j).flatten ++ x.toList) := by
                  show _ = _
                  rw [flat_succ M j (by have := HX.out.2.2; omega), HX.out.1]
                go_wp2_with (first | (go_at_call 57; refine (bwrite_any b b _ x _ HIB.out HXS.out (by have := HBY.out.size; rw [HBE.out] at this; exact this)).mono ?_; rintro e w8 ⟨rfl, HI8, HB8⟩))
                go_roundw
                case rel => exact ⟨j + 1, by go_num, by have := HX.out.2.2.1; omega, rfl, by rw [HFS.out]; exact HI8, HBY.out.trans HB8.out⟩
                case measure => have := HX.out.2.2.1; simp [intOf]; omega
            · obtain rfl : j = k := by omega
              have f6 : ¬ (j : Int) < (j : Int) := by omega
              clear hjk hj
              go_upto_region 20 with (first | (go_at_call 58; refine (SBuilder_String_any b b _ wr HIB.out (by have := HBY.out.size; rw [HBE.out] at this; exact this)).mono ?_; rintro e w9 ⟨rfl, hb9⟩))
              obtain ⟨bd, hbd⟩ : ∃ x : ByteArray, (⟨(M.take j).flatten.toArray⟩ : ByteArray) = x := ⟨_, rfl⟩
              rw [hbd]
              have hbt : bd.toList = (M.take j).flatten := by rw [← hbd, tl_mk]
              have hwb : w.heap.size ≤ b := by have := HB2.out.size; rw [HBE.out] at this; exact this
              have HBW : Hid (Below b wc w9) := HBY.out.trans hb9
              have HB9 : Hid (Below w.heap.size w w9) := HB2.out.trans (HBW.out.mono hwb)
              have HTA9 : Hid (At w9 T 0 [.int .u8 (nd.tag.toNat : Int), .int .i64 (j : Int), .string bn] ∧ T < w9.heap.size) := by
                rw [HTG.out]
                exact ⟨HTA.out.1.below HBW.out HTB.out, by have h1 := HTB.out; have h2 := HBW.out.size; have h3 := HBE.out; omega⟩
              have HO9 : Hid (w9.ownsRow w.heap.size 9 1 u4 d (mcells (M.drop j))) := own_below HO4.out HBW.out (by rw [HBE.out]; exact Nat.le_refl _)
              have HJ2 : Hid (jnS (l.drop p) = (encN nd.tag bd.toList :: M.drop j, obj o nd.tag M j)) := by
                show jnS (l.drop p) = _
                rw [HD.out, jnS, if_pos (by rw [HKK.out.1]; omega), HJ.out, hbt, HKK.out.1]
                rfl
              have HZ : Hid (bd.size ≤ 524288) := by
                show _ ≤ _
                rw [← tl_size, hbt, tot_flatten]
                have h1 := tot_append (M.take j) (M.drop j)
                rw [List.take_append_drop] at h1
                have := HBS.out
                omega
              have HMD : Hid ((M.drop j).length = d) := by show _ = _; rw [List.length_drop, HM.out]; exact HKM.out.2
              have HMLD : Hid ((M.drop j).length ≤ 4096) := by show _ ≤ _; rw [List.length_drop]; have := HML.out; omega
              clear HTA HO2 HB2 HM HML hbd hbt hwb hb9 HIB
              obtain ⟨k, rfl⟩ : ∃ x, x = j := ⟨_, rfl⟩
              obtain ⟨wx, rfl⟩ : ∃ x, x = w9 := ⟨_, rfl⟩
              obtain ⟨m2, rfl⟩ : ∃ x, x = d := ⟨_, rfl⟩
              have HTA := HTA9
              have HO2 := HO9
              have HB2 := HB9
              have HM := HMD
              have HML := HMLD
              generalize M.drop k = M2 at HO2 HM HML HJ2
              generalize obj o nd.tag M k = o2 at HJ2 ⊢
              clear HTA9 HO9 HB9 HMD HMLD
              obtain ⟨zb, hzb⟩ : ∃ z, bd.size = z := ⟨_, rfl⟩
              have hzl : bd.toList.length = zb := by rw [tl_size]; exact hzb
              have HDa := Lib.hid (fun w' => head_any zb (by have := HZ.out; omega) w')
              obtain ⟨t, ht⟩ : ∃ t, nd.tag.toNat = t := ⟨_, rfl⟩
              have ht6 : t < 256 := by rw [← ht]; exact nd.tag.toNat_lt
              obtain ⟨c, hc⟩ : ∃ c : ByteArray, c = ⟨[UInt8.ofNat t].toArray⟩ := ⟨_, rfl⟩
              have hcv := dcv_byte t ht6 c hc
              have hcw := dcv_byteN t ht6 c hc
              have hcw1 : ∀ w' : World, (convert 42 9 (.slice (some ⟨w'.heap.size, 0, none⟩) 1 1)).run Tryd.prog ((w'.alloc (Obj.cells #[.int .u8 (t : Int)] 5)).drew) = .ok (.string c) ((w'.alloc (Obj.cells #[.int .u8 (t : Int)] 5)).drew) := fun w' => hcw w' 1
              have hctl : c.toList = [nd.tag] := by rw [hc, tl_mk, ← ht]; simp
              have HU : Hid (∀ h : ByteArray, h.toList = hd zb → (c ++ h ++ bd).toList = encN nd.tag bd.toList) := fun h hh => by rw [tl_app, tl_app, hctl, hh, encN, hzl]; simp
              have hcs : c.size = 1 := by rw [← tl_size, hctl]; rfl
              have HSZ : Hid (∀ h : ByteArray, h.toList = hd zb → ¬ 9223372036854775807 < c.size + h.size ∧ ¬ 9223372036854775807 < c.size + h.size + zb) := fun h hh => by
                have h1 := congrArg List.length hh
                rw [tl_size] at h1
                have h2 := hd_len zb (by have := HZ.out; omega)
                have h3 := HZ.out
                omega
              have HCT := Lib.hid (And.intro hcs hctl)
              have HCC : Hid (c = ⟨[UInt8.ofNat t].toArray⟩ ∧ t < 256) := ⟨hc, ht6⟩
              rw [ht] at HTA
              have HT0 := Lib.hid HTA.out.1
              have ht0 := HT0.out.cell 0 _ rfl
              rw [Nat.add_zero] at ht0
              clear hzl hc hctl hcs ht6
              go_region_law (first
                | (go_simp; go_at_call 59; refine (HDa.out _).mono ?_; rintro e w3 ⟨h, rfl, hh, hb3⟩; have hs3 := HSZ.out h hh; obtain ⟨hs4, hs5⟩ := hs3; have HH := Lib.hid (HU.out h hh); have HO3 : Hid (w3.ownsRow w.heap.size 9 1 u4 m2 (mcells M2)) := own_below (by repeat (first | exact (HO2).out | refine World.ownsRow.alloc ?_ _ | refine own_drew1 ?_ | refine own_drewN ?_ _)) hb3 (Nat.le_refl _); have HB3 : Hid (Below w.heap.size w w3) := Below.trans (by repeat (first | exact (HB2).out | refine below_alloc1 ?_ (Nat.le_refl _) _ | refine Below.drew ?_)) (hb3.mono (by have := HB2.out.size; simp; omega)); (first | (have hcv3 := conv3 (g := wx.heap.size) t HCC.out.2 c HCC.out.1 (by first | exact (At.ofAlloc wx #[Value.int .u8 (t : Int)] 5).drewN 1 | exact (At.ofAlloc wx #[Value.int .u8 (t : Int)] 5)) hb3 (by simp); have hcv4 := conv3 (g := wx.heap.size) t HCC.out.2 c HCC.out.1 (by first | exact (At.ofAlloc wx #[Value.int .u8 (t : Int)] 5).drewN 1 | exact (At.ofAlloc wx #[Value.int .u8 (t : Int)] 5)) hb3.drew (by simp)) | skip); have HA3 : Hid (At w3 T 0 [Value.int .u8 (t : Int), Value.int .i64 (k : Int), Value.string bn]) := At.below (by repeat (first | exact (HT0).out | refine At.alloc ?_ _ | refine At.drewN ?_ 1 | refine At.drewN ?_ _)) hb3 (by have := HTA.out.2; simp; omega); have ht3 := HA3.out.cell 0 _ rfl; rw [Nat.add_zero] at ht3; have ht4 := (HA3.out.drewN 1).cell 0 _ rfl; rw [Nat.add_zero] at ht4; clear hh hb3)
                | (refine step_append_m rfl (.tmp 83) (.tmp 94) rfl w.heap.size _ m2 M2 rfl (by repeat (first | exact (HO3).out | refine World.ownsRow.alloc ?_ _ | refine own_drew1 ?_ | refine own_drewN ?_ _)) _ 1 _ (encN nd.tag bd.toList) HH.out rfl (by first | exact cell_newS _ _ _ | exact cell_newSk _ _ _ _ (by simp) | exact cell_newSd _ _ _) (by have := HML.out; have := HM.out; omega) (by have := HB3.out.size; simp; omega) ?_; intro v5 w5 hown5 hgrow5; have HB5 : Hid (Below w.heap.size w w5) := Below.grown (by repeat (first | exact (HB3).out | refine below_alloc1 ?_ (Nat.le_refl _) _ | refine Below.drew ?_)) hgrow5 (by have := HB3.out.size; simp; omega) (fun k hk => (HO3.out.lt k hk).1); have HO5 := Lib.hid hown5; clear hown5 hgrow5))
              all_goals
                go_wp2_with fail
                go_roundw
                case rel => exact ⟨i + 1, encN nd.tag bd.toList :: M2, o2, by go_num, rfl, by have := HII.out.1; omega, by rw [show n - (i + 1) = p by have := HII.out.1; omega]; exact HJ2, by rw [List.length_cons, HM.out]; exact HO5, HB5⟩
                case measure => have h1 := HII.out.1; simp [intOf]; omega
      · have e8 : ¬ (0 : Int) ≤ kk := hk0
        have HOA := HO
        go_upto_region 20 with fail
        have HTA : Hid (At (wr.alloc (Obj.cells #[.int .u8 (nd.tag.toNat : Int), .int .i64 kk, .string ⟨nd.body.toArray⟩] 63)) wr.heap.size 0 [.int .u8 (nd.tag.toNat : Int), .int .i64 kk, .string ⟨nd.body.toArray⟩] ∧ wr.heap.size < (wr.alloc (Obj.cells #[.int .u8 (nd.tag.toNat : Int), .int .i64 kk, .string ⟨nd.body.toArray⟩] 63)).heap.size) := ⟨At.ofAlloc wr _ _, by simp⟩
        have HO2 : Hid ((wr.alloc (Obj.cells #[.int .u8 (nd.tag.toNat : Int), .int .i64 kk, .string ⟨nd.body.toArray⟩] 63)).ownsRow w.heap.size 9 1 u4 m (mcells M)) := HOA.out.alloc _
        have HB2 : Hid (Below w.heap.size w (wr.alloc (Obj.cells #[.int .u8 (nd.tag.toNat : Int), .int .i64 kk, .string ⟨nd.body.toArray⟩] 63))) := HB.out.alloc HB.out.size _
        obtain ⟨T, hTT⟩ : ∃ T, wr.heap.size = T := ⟨_, rfl⟩
        obtain ⟨bd, hbd⟩ : ∃ b : ByteArray, (⟨nd.body.toArray⟩ : ByteArray) = b := ⟨_, rfl⟩
        have hbt : bd.toList = nd.body := by rw [← hbd, tl_mk]
        have HJ2 : Hid (jnS (l.drop p) = (encN nd.tag bd.toList :: M, o)) := by
          show jnS (l.drop p) = _
          rw [HD.out, jnS, if_neg (by rw [HKK.out.1]; exact hk0), HJ.out, hbt]
        have HZ : Hid (bd.size ≤ 524288) := by show _ ≤ _; rw [← tl_size, hbt]; have := HBD.out; omega
        rw [hbd] at HTA HO2 HB2 ⊢
        rw [hTT] at HTA ⊢
        generalize wr.alloc (Obj.cells #[.int .u8 (nd.tag.toNat : Int), .int .i64 kk, .string bd] 63) = wx at HTA HO2 HB2 ⊢
        obtain ⟨M2, rfl⟩ : ∃ x, x = M := ⟨_, rfl⟩
        obtain ⟨o2, rfl⟩ : ∃ x, x = o := ⟨_, rfl⟩
        obtain ⟨m2, rfl⟩ : ∃ x, x = m := ⟨_, rfl⟩
        obtain ⟨zb, hzb⟩ : ∃ z, bd.size = z := ⟨_, rfl⟩
        have hzl : bd.toList.length = zb := by rw [tl_size]; exact hzb
        have HDa := Lib.hid (fun w' => head_any zb (by have := HZ.out; omega) w')
        obtain ⟨t, ht⟩ : ∃ t, nd.tag.toNat = t := ⟨_, rfl⟩
        have ht6 : t < 256 := by rw [← ht]; exact nd.tag.toNat_lt
        obtain ⟨c, hc⟩ : ∃ c : ByteArray, c = ⟨[UInt8.ofNat t].toArray⟩ := ⟨_, rfl⟩
        have hcv := dcv_byte t ht6 c hc
        have hcw := dcv_byteN t ht6 c hc
        have hcw1 : ∀ w' : World, (convert 42 9 (.slice (some ⟨w'.heap.size, 0, none⟩) 1 1)).run Tryd.prog ((w'.alloc (Obj.cells #[.int .u8 (t : Int)] 5)).drew) = .ok (.string c) ((w'.alloc (Obj.cells #[.int .u8 (t : Int)] 5)).drew) := fun w' => hcw w' 1
        have hctl : c.toList = [nd.tag] := by rw [hc, tl_mk, ← ht]; simp
        have HU : Hid (∀ h : ByteArray, h.toList = hd zb → (c ++ h ++ bd).toList = encN nd.tag bd.toList) := fun h hh => by rw [tl_app, tl_app, hctl, hh, encN, hzl]; simp
        have hcs : c.size = 1 := by rw [← tl_size, hctl]; rfl
        have HSZ : Hid (∀ h : ByteArray, h.toList = hd zb → ¬ 9223372036854775807 < c.size + h.size ∧ ¬ 9223372036854775807 < c.size + h.size + zb) := fun h hh => by
          have h1 := congrArg List.length hh
          rw [tl_size] at h1
          have h2 := hd_len zb (by have := HZ.out; omega)
          have h3 := HZ.out
          omega
        have HCT := Lib.hid (And.intro hcs hctl)
        have HCC : Hid (c = ⟨[UInt8.ofNat t].toArray⟩ ∧ t < 256) := ⟨hc, ht6⟩
        rw [ht] at HTA
        have HT0 := Lib.hid HTA.out.1
        have ht0 := HT0.out.cell 0 _ rfl
        rw [Nat.add_zero] at ht0
        clear hzl hc hctl hcs ht6
        go_region_law (first
          | (go_simp; go_at_call 59; refine (HDa.out _).mono ?_; rintro e w3 ⟨h, rfl, hh, hb3⟩; have hs3 := HSZ.out h hh; obtain ⟨hs4, hs5⟩ := hs3; have HH := Lib.hid (HU.out h hh); have HO3 : Hid (w3.ownsRow w.heap.size 9 1 u4 m2 (mcells M2)) := own_below (by repeat (first | exact (HO2).out | refine World.ownsRow.alloc ?_ _ | refine own_drew1 ?_ | refine own_drewN ?_ _)) hb3 (Nat.le_refl _); have HB3 : Hid (Below w.heap.size w w3) := Below.trans (by repeat (first | exact (HB2).out | refine below_alloc1 ?_ (Nat.le_refl _) _ | refine Below.drew ?_)) (hb3.mono (by have := HB2.out.size; simp; omega)); (first | (have hcv3 := conv3 (g := wx.heap.size) t HCC.out.2 c HCC.out.1 (by first | exact (At.ofAlloc wx #[Value.int .u8 (t : Int)] 5).drewN 1 | exact (At.ofAlloc wx #[Value.int .u8 (t : Int)] 5)) hb3 (by simp); have hcv4 := conv3 (g := wx.heap.size) t HCC.out.2 c HCC.out.1 (by first | exact (At.ofAlloc wx #[Value.int .u8 (t : Int)] 5).drewN 1 | exact (At.ofAlloc wx #[Value.int .u8 (t : Int)] 5)) hb3.drew (by simp)) | skip); have HA3 : Hid (At w3 T 0 [Value.int .u8 (t : Int), Value.int .i64 kk, Value.string bd]) := At.below (by repeat (first | exact (HT0).out | refine At.alloc ?_ _ | refine At.drewN ?_ 1 | refine At.drewN ?_ _)) hb3 (by have := HTA.out.2; simp; omega); have ht3 := HA3.out.cell 0 _ rfl; rw [Nat.add_zero] at ht3; have ht4 := (HA3.out.drewN 1).cell 0 _ rfl; rw [Nat.add_zero] at ht4; clear hh hb3)
          | (refine step_append_m rfl (.tmp 83) (.tmp 94) rfl w.heap.size _ m2 M2 rfl (by repeat (first | exact (HO3).out | refine World.ownsRow.alloc ?_ _ | refine own_drew1 ?_ | refine own_drewN ?_ _)) _ 1 _ (encN nd.tag bd.toList) HH.out rfl (by first | exact cell_newS _ _ _ | exact cell_newSk _ _ _ _ (by simp) | exact cell_newSd _ _ _) (by have := HML.out; have := HM.out; omega) (by have := HB3.out.size; simp; omega) ?_; intro v5 w5 hown5 hgrow5; have HB5 : Hid (Below w.heap.size w w5) := Below.grown (by repeat (first | exact (HB3).out | refine below_alloc1 ?_ (Nat.le_refl _) _ | refine Below.drew ?_)) hgrow5 (by have := HB3.out.size; simp; omega) (fun k hk => (HO3.out.lt k hk).1); have HO5 := Lib.hid hown5; clear hown5 hgrow5))
        all_goals
          go_wp2_with fail
          go_roundw
          case rel => exact ⟨i + 1, encN nd.tag bd.toList :: M2, o2, by go_num, rfl, by have := HII.out.1; omega, by rw [show n - (i + 1) = p by have := HII.out.1; omega]; exact HJ2, by rw [List.length_cons, HM.out]; exact HO5, HB5⟩
          case measure => have h1 := HII.out.1; simp [intOf]; omega
    · obtain rfl : i = n := by omega
      have e1 : ¬ (i : Int) < (i : Int) := by omega
      rw [Nat.sub_self, List.drop_zero] at HJ
      have hMl : M ≠ [] := by
        intro hM
        obtain ⟨x, y, hxy⟩ := List.exists_cons_of_ne_nil H0.out
        have h1 := HJ.out
        rw [hxy, jnS, hM] at h1
        split at h1 <;> simp at h1
      obtain ⟨m, hm⟩ : ∃ m, M.length = m + 1 := ⟨M.length - 1, by have := List.length_pos_iff.2 hMl; omega⟩
      have hown := HO.out
      rw [hm] at hown
      obtain ⟨a, c, rfl, ha⟩ := own_form hown
      obtain ⟨k, rfl⟩ := ha (Nat.succ_pos m)
      have hc := (At.ofOwn hown).cell 0 _ (by have h1 := mcells_get M m (by omega); rw [hm, Nat.add_sub_cancel, Nat.sub_self] at h1; exact h1)
      rw [Nat.zero_add] at hc
      obtain ⟨x, hx⟩ : ∃ x : ByteArray, (⟨(M.getD m []).toArray⟩ : ByteArray) = x := ⟨_, rfl⟩
      rw [hx] at hc
      have HX := Lib.hid hx
      have HM := Lib.hid hm
      have e2 : (0 : Int) < (m : Int) + 1 := by omega
      clear hown hx hm hMl ha hin
      go_wp2_with fail
      go_ret2
      exact ⟨x, by rw [HJ.out]; rfl, by rw [HJ.out, HM.out, Nat.add_sub_cancel, ← HX.out, tl_mk], HB.out⟩
end Go.Proofs.YteglahkgnggmgaaDoor
