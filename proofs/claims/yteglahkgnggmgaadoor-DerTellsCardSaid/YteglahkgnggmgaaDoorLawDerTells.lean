/- The law DerTells holds for every input: the walk, put into the row's frame; then the card with the table tied to the program's text. -/
import Derived.Test.YteglahkgnggmgaaDoorDwO
import Derived.Test.YteglahkgnggmgaaDoorDwN
import Derived.Test.YteglahkgnggmgaaDoorDvX
import Derived.Test.YteglahkgnggmgaaDoorDrB
import Derived.Test.YteglahkgnggmgaaDoorTie
import Derived.Test.YteglahkgnggmgaaDoorCards
import Derived.Test.YteglahkgnggmgaaDoorDsI
import Derived.Lay
import Derived.ProofKit
import Derived.OpenShut
import Derived.ShutString
import Derived.ChangeOld
import Derived.SizedLaws
import Derived.LaidMore
import Derived.Stop.Joined
import Derived.SevenTiedAt
import Derived.Lib.SmallJoins
import Derived.Test.YteglahkgnggmgaaDoorDwH
import Derived.Carry
namespace Go.Proofs.YteglahkgnggmgaaDoor
open Go.RowKit
set_option linter.unusedVariables false
set_option linter.unusedSimpArgs false
open Dr
theorem mem_bods : ∀ (l : List Nd) (n : Nd), n ∈ l → n.body.length ≤ bods l
  | [], n, h => by cases h
  | a :: l, n, h => by
    have h1 : bods (a :: l) = a.body.length + bods l := by simp [bods]
    rcases List.mem_cons.1 h with rfl | h
    · omega
    · have := mem_bods l n h; omega
theorem shp_nil : (shp [1] 0 []).2 = false := by rfl
/-- the document's look at the shape -/
theorem bhd_ok {l : List Nd} (h : (bhd [] 0 0 l).1 = (l.length : Int)) (hne : l ≠ []) : (∀ n ∈ l, -1 ≤ n.kids) ∧ (shp [1] 0 l).2 = true ∧ (((bhd [] 0 0 l).2 : Nat) : Int) = (shp [1] 0 l).1 := by
  have hk : ∀ n ∈ l, -1 ≤ n.kids := fun n hn => by
    refine Decidable.byContradiction fun h1 => ?_
    have h2 := bhd_bad l [] 0 0 ⟨n, hn, by omega⟩
    rw [Nat.zero_add] at h2
    exact h2 h
  have h3 := bhd_one l hk hne
  cases h4 : (shp [1] 0 l).2 with
  | false => exact absurd h (h3.2 h4)
  | true => exact ⟨hk, rfl, (h3.1 h4).2⟩
theorem enc_bad {l : List Nd} (h0 : l.length ≤ 4096) (h : l = [] ∨ (bhd [] 0 0 l).1 ≠ (l.length : Int)) : enc l = ([], 9) := by
  rw [enc, if_neg (by omega)]
  by_cases h1 : (shp [1] 0 l).2 = false
  · rw [if_pos h1]
  · rw [if_neg h1]
    have hne : l ≠ [] := by rintro rfl; exact h1 shp_nil
    have h2 : (bhd [] 0 0 l).1 ≠ (l.length : Int) := h.resolve_left hne
    by_cases hk : ∀ n ∈ l, -1 ≤ n.kids
    · exact absurd ((bhd_one l hk hne).1 (by simpa using h1)).1 h2
    · have h3 : l.all nodeOk = false := by
        refine Bool.eq_false_iff.2 fun h4 => hk fun n hn => ?_
        have h5 := List.all_eq_true.1 h4 n hn
        rw [nodeOk, Bool.and_eq_true] at h5
        have h6 := h5.2
        split at h6
        · rw [Bool.and_eq_true] at h6
          have := of_decide_eq_true h6.1
          omega
        · rw [Bool.and_eq_true] at h6
          have := of_decide_eq_true h6.1
          omega
      rw [if_pos h3]
/-- the sum so far -/
def Tot (l : List Nd) (i T : Nat) : Prop := (bods (l.take i) ≤ 262144 → T = bods (l.take i)) ∧ (262144 < bods (l.take i) → 262144 < T) ∧ T ≤ 524288
theorem Tot.big {l : List Nd} {i T b : Nat} (h : Tot l i T) (hi : i < l.length) (hb : (l.getD i ⟨0, 0, []⟩).body.length = b) (hx : 262144 < b ∨ 262144 < T) : Tot l (i + 1) 262145 := by
  have h1 := bods_take l i hi
  rw [hb] at h1
  obtain ⟨h2, h3, h4⟩ := h
  refine ⟨fun h5 => ?_, fun _ => by omega, by omega⟩
  have := h2 (by omega)
  omega
theorem Tot.small {l : List Nd} {i T b : Nat} (h : Tot l i T) (hi : i < l.length) (hb : (l.getD i ⟨0, 0, []⟩).body.length = b) (h5 : b ≤ 262144) (h6 : T ≤ 262144) : Tot l (i + 1) (T + b) := by
  have h1 := bods_take l i hi
  rw [hb] at h1
  obtain ⟨h2, h3, h4⟩ := h
  have h7 : bods (l.take i) ≤ 262144 := by omega
  have := h2 h7
  exact ⟨fun _ => by omega, fun _ => by omega, by omega⟩
/-- an element, right by the document's words -/
theorem node_yes {n : Nd} (hk : -1 ≤ n.kids) : nodeOk n = (decide (tagE n.tag = 0) && (if 0 ≤ n.kids then within n.tag && decide (n.body.length = 0) else !(within n.tag) && bodyOk n.tag n.body)) := by
  rw [nodeOk]
  have h1 : (n.body == []) = decide (n.body.length = 0) := by cases n.body <;> simp
  by_cases h : 0 ≤ n.kids
  · have e1 : decide (0 ≤ n.kids) = true := decide_eq_true h
    have e2 : decide (n.kids = -1) = false := decide_eq_false (by omega)
    rw [if_pos h, h1, e1, e2]
    cases within n.tag <;> simp
  · have e1 : decide (0 ≤ n.kids) = false := decide_eq_false h
    have e2 : decide (n.kids = -1) = true := decide_eq_true (by omega)
    rw [if_neg h, h1, e1, e2]
    cases within n.tag <;> simp
theorem enc_node {l : List Nd} (h0 : l.length ≤ 4096) (h1 : (shp [1] 0 l).2 = true) {n : Nd} (hn : n ∈ l) (h : nodeOk n = false) : enc l = ([], 9) := by
  rw [enc, if_neg (by omega), if_neg (by rw [h1]; decide), if_pos]
  refine Bool.eq_false_iff.2 fun h4 => ?_
  rw [List.all_eq_true.1 h4 n hn] at h
  cases h
theorem RetEnc.no {l : List Nd} {E : List UInt8 × Int} {c : Int} {w w' : World} (hE : enc l = E) (h : enc l = ([], c)) (hb : Below w.heap.size w w') : RetEnc E w (.returned (.tuple #[.string ⟨#[]⟩, .int .i64 c])) w' := by
  subst hE
  rw [h]
  exact ⟨⟨#[]⟩, rfl, tl_mk [], hb⟩
theorem RetEnc.yes {l : List Nd} {E : List UInt8 × Int} {B : List UInt8} {s : ByteArray} {w w' : World} (hE : enc l = E) (h : enc l = (B, 0)) (hs : s.toList = B) (hb : Below w.heap.size w w') : RetEnc E w (.returned (.tuple #[.string s, .int .i64 0])) w' := by
  subst hE
  rw [h]
  exact ⟨s, rfl, hs, hb⟩
def ToldL (l : List Nd) : Prop := bods l ≤ 262144 → l.length ≤ 4096 → ∀ d B o, Els d l [B] o → ∀ w g a cap, Xe w g a cap l false false → Calls Tryd.prog 39 #[.pointer (some ⟨g, 0, none⟩), .int .i64 0] w (DTold g a cap l l B o 0 false w)
set_option maxRecDepth 100000 in
set_option maxHeartbeats 6400000 in
theorem rencode_any (l : List Nd) (v : Value) (w : World) (TO : ToldL l) (hS : SlO w v l) (hK : KidsOk l) (hbo : ∀ n ∈ l, n.body.length ≤ 140737488351232) (hn : l.length ≤ 140737488351232) :
    Calls Tryd.prog 19 #[v] w (RetEnc (enc l) w) := by
  obtain ⟨E, hE⟩ : ∃ E, enc l = E := ⟨_, rfl⟩
  rw [hE]
  have BH := Lib.hid (fun v' w' hS' h4 => behind_any l v' w' hS' hK h4)
  have HS := Lib.hid hS
  obtain ⟨a, cap, rfl, hl⟩ := hS
  obtain ⟨n, hn0⟩ : ∃ n, l.length = n := ⟨_, rfl⟩
  have HL := Lib.hid hl
  have HN := Lib.hid (And.intro hn0 (And.intro hK hbo))
  have HE := Lib.hid hE
  have HTO := Lib.hid TO
  rw [hn0] at HS hn
  rw [hn0]
  clear hE hl hK hbo hn0 TO
  go_enter Tryd.func19, Tryd.ntmps19
  by_cases h4 : 4096 < n
  · have e1 : (4096 : Int) < (n : Int) := by omega
    have hb9 : enc l = ([], 10) := by rw [enc, if_pos (by rw [HN.out.1]; exact h4)]
    have HB9 := Lib.hid hb9
    clear hb9
    go_wp2_with fail
    go_ret2
    exact RetEnc.no HE.out HB9.out (Below.refl _ _)
  have h44 : ¬ (4096 : Int) < (n : Int) := by omega
  have HN4 : Hid (l.length ≤ 4096) := by show _ ≤ _; rw [HN.out.1]; omega
  clear h4
  go_wp2_with fail
  refine (BH.out _ _ HS.out HN4.out).mono ?_
  rintro e w1 ⟨rfl, hb1⟩
  obtain ⟨en, hen⟩ : ∃ z, (bhd [] 0 0 l).1 = z := ⟨_, rfl⟩
  obtain ⟨mo, hmo⟩ : ∃ z, (bhd [] 0 0 l).2 = z := ⟨_, rfl⟩
  rw [hen, hmo]
  have HB1 := Lib.hid hb1
  clear hb1
  by_cases h0 : n = 0
  · have hl0 : l = [] := List.length_eq_zero_iff.1 (by rw [HN.out.1]; exact h0)
    have HB9 := Lib.hid (enc_bad HN4.out (.inl hl0))
    have x0 : ((n : Int) == 0) = true := by rw [h0]; rfl
    clear hl0 hen hmo h44 hn
    go_wp2_with fail
    go_ret2
    exact RetEnc.no HE.out HB9.out HB1.out
  have x0 : ((n : Int) == 0) = false := by rw [beq_eq_false_iff_ne]; omega
  by_cases h1 : en = (n : Int)
  case neg =>
    have HB9 := Lib.hid (enc_bad HN4.out (.inr (by rw [hen, HN.out.1]; exact h1)))
    have x1 : (en != (n : Int)) = true := by rw [bne_iff_ne]; exact h1
    clear hen hmo h44 hn h1
    go_wp2_with fail
    go_ret2
    exact RetEnc.no HE.out HB9.out HB1.out
  case pos =>
    subst h1
    have hne : l ≠ [] := fun h9 => h0 (by rw [← HN.out.1, h9]; rfl)
    obtain ⟨hk1, hsh, hdp⟩ := bhd_ok (by rw [hen, HN.out.1]) hne
    obtain ⟨gl, o, rfl, hA, hlt⟩ := HL.out hne
    rw [hmo] at hdp
    have HX := Lib.hid (And.intro hk1 (And.intro hsh (And.intro hdp (And.intro hA (And.intro hlt hne)))))
    clear hne hk1 hsh hdp hA hlt hen hmo
    go_wp2_with fail
    go_loopw [6, 7] (fun v6 v7 wr => ∃ (i T : Nat), v7 = .int .i64 (i : Int) ∧ v6 = .int .i64 (T : Int) ∧ i ≤ n ∧ Hid (Tot l i T) ∧ Hid (∀ j, j < i → nodeOk (l.getD j ⟨0, 0, []⟩) = true) ∧ Hid (Below w.heap.size w wr)) (fun _ v7 _ => n - (intOf v7).toNat)
    case atStart => exact ⟨0, 0, rfl, rfl, Nat.zero_le _, ⟨fun _ => by simp [bods], fun h9 => by simp [bods] at h9, by omega⟩, fun j hj => absurd hj (Nat.not_lt_zero _), HB1.out⟩
    case round =>
      obtain ⟨i, T, rfl, rfl, hi, HT, HO, HB⟩ := hrel
      by_cases hin : i < n
      · have e1 : (i : Int) < (n : Int) := by omega
        have hil : i < l.length := by rw [HN.out.1]; exact hin
        have hNc := ncell_atO (HX.out.2.2.2.1.below HB.out HX.out.2.2.2.2.1) i hil
        obtain ⟨nd, hnd⟩ : ∃ nd, l.getD i ⟨0, 0, []⟩ = nd := ⟨_, rfl⟩
        have hmem : nd ∈ l := by rw [← hnd]; exact getD_mem hil
        rw [hnd] at hNc
        have n0 := hNc.cell 0 _ rfl
        have n1 := hNc.cell 1 _ rfl
        have n2 := hNc.cell 2 _ rfl
        rw [Nat.add_zero] at n0
        obtain ⟨t, ht⟩ : ∃ t, nd.tag.toNat = t := ⟨_, rfl⟩
        have ht2 : t < 256 := by rw [← ht]; exact nd.tag.toNat_lt
        obtain ⟨bd, hbd⟩ : ∃ b : ByteArray, (⟨nd.body.toArray⟩ : ByteArray) = b := ⟨_, rfl⟩
        have hbl : bd.toList = nd.body := by rw [← hbd, tl_mk]
        obtain ⟨y, hy⟩ : ∃ y, bd.size = y := ⟨_, rfl⟩
        have hyb : nd.body.length = y := by rw [← hbl, tl_size, hy]
        obtain ⟨kk, hkk⟩ : ∃ k, nd.kids = k := ⟨_, rfl⟩
        have hk1 : -1 ≤ kk := by rw [← hkk]; exact HX.out.1 nd hmem
        rw [ht] at n0
        rw [hkk] at n1
        rw [hbd] at n2
        have hno := node_yes (n := nd) (by rw [hkk]; exact hk1)
        rw [hkk, hyb] at hno
        obtain ⟨z, hz⟩ : ∃ z, tagE nd.tag = z := ⟨_, rfl⟩
        obtain ⟨wi, hwi⟩ : ∃ x, t / 32 % 2 = x := ⟨_, rfl⟩
        have hwn : within nd.tag = decide (wi = 1) := by rw [within, ht, hwi]
        have q3 : (t : Int) / 32 % 2 = (wi : Int) := by omega
        rw [hz, hwn] at hno
        have TG := Lib.hid (fun w' => rtag_any t ht2 w')
        rw [show Dr.tagF (t / 64) (t % 32) (t / 32 % 2) = z by rw [← hz, tagE, ht]] at TG
        have BY := Lib.hid (fun w' => rbody_any t ht2 bd (by rw [hy, ← hyb]; exact HN.out.2.2 nd hmem) w')
        obtain ⟨bb, hbb⟩ : ∃ b, bodyN t bd.toList = b := ⟨_, rfl⟩
        rw [hbb] at BY
        rw [show bodyOk nd.tag nd.body = bb by rw [bodyOk, ht, ← hbl, hbb]] at hno
        obtain ⟨i1, hi1⟩ : ∃ j, i + 1 = j := ⟨_, rfl⟩
        have e4 : (i : Int) + 1 = (i1 : Int) := by omega
        have e5 : IntKind.i64.wrap (i1 : Int) = (i1 : Int) := wrap_fit i1 (by unfold maxLen; omega)
        have hTb := HT.out.2.2
        obtain ⟨T1, hT1⟩ : ∃ T1, T + y = T1 := ⟨_, rfl⟩
        have e6 : (T : Int) + (y : Int) = (T1 : Int) := by omega
        have HNO := Lib.hid hno
        have HBad : Hid (nodeOk nd = false → enc l = ([], 9)) := fun h9 => enc_node HN4.out HX.out.2.1 hmem h9
        have HOk : Hid (nodeOk nd = true → ∀ j, j < i1 → nodeOk (l.getD j ⟨0, 0, []⟩) = true) := fun h9 j hj => by
          rcases Nat.lt_or_ge j i with h8 | h8
          · exact HO.out j h8
          · rw [show j = i by omega, hnd]; exact h9
        have HTb : Hid (262144 < y ∨ 262144 < T → Tot l i1 262145) := fun h9 => by rw [← hi1]; exact HT.out.big hil (by rw [hnd, hyb]) h9
        have HTs : Hid (y ≤ 262144 → T ≤ 262144 → Tot l i1 T1) := fun h8 h9 => by rw [← hi1, ← hT1]; exact HT.out.small hil (by rw [hnd, hyb]) h8 h9
        have HI : Hid (i + 1 = i1 ∧ i1 ≤ n ∧ t < 256) := ⟨hi1, by omega, ht2⟩
        have HTT : Hid (T + y = T1) := hT1
        have HA0 := Lib.hid (At.ofAlloc wr #[.int .u8 (t : Int), .int .i64 kk, .string bd] 63)
        have HB0 : Hid (Below w.heap.size w (wr.alloc (Obj.cells #[.int .u8 (t : Int), .int .i64 kk, .string bd] 63))) := HB.out.alloc HB.out.size _
        clear hmem hnd ht hbd hbl hyb hkk hz hwi hwn hno hbb hi1 hT1 hNc hil hi hin ht2 HO
        go_upto_region 11 with fail
        have hJ0 := HA0.out
        obtain ⟨J, hJ⟩ : ∃ J, wr.heap.size = J := ⟨_, rfl⟩
        rw [hJ] at hJ0
        rw [hJ]
        clear hJ HA0
        obtain ⟨w0, hw0⟩ : ∃ x, wr.alloc (Obj.cells #[.int .u8 (t : Int), .int .i64 kk, .string bd] 63) = x := ⟨_, rfl⟩
        rw [hw0] at hJ0 HB0
        rw [hw0]
        clear hw0 n0 n1 n2
        have t0 := hJ0.cell 0 _ rfl
        have t1 := hJ0.cell 1 _ rfl
        have t2 := hJ0.cell 2 _ rfl
        rw [Nat.zero_add] at t0 t1 t2
        have HJ0 := Lib.hid hJ0
        have HJL : Hid (J < w0.heap.size) := hJ0.lt (by simp)
        clear hJ0
        go_cut [77] from 39 to 77 (fun v wx => v = .bool (!nodeOk nd) ∧ Hid (Below w0.heap.size w0 wx))
        case first =>
          by_cases hz : z = 0
          · subst hz
            have hwi2 : wi = 0 ∨ wi = 1 := by omega
            rcases hwi2 with rfl | rfl
            · have q4 : (t : Int) / 32 % 2 = 0 := q3
              clear q3
              by_cases hk : 0 ≤ kk
              · have hv : nodeOk nd = false := by rw [HNO.out, if_pos hk]; rfl
                have HV := Lib.hid hv
                clear hv
                go_wp2_with (first | (go_at_call 37; refine (TG.out _).mono ?_; rintro e w3 ⟨rfl, rfl⟩))
                go_meet
                case rel => exact ⟨by rw [HV.out]; rfl, Below.refl _ _⟩
              · have hv : nodeOk nd = bb := by rw [HNO.out, if_neg hk]; rfl
                have hk2 : kk < 0 := by omega
                cases bb
                · have HV := Lib.hid hv
                  clear hv
                  go_wp2_with (first | (go_at_call 37; refine (TG.out _).mono ?_; rintro e w3 ⟨rfl, rfl⟩) | (go_at_call 38; refine (BY.out _).mono ?_; rintro e w4 ⟨rfl, hb4⟩; have HB4 := Lib.hid hb4; clear hb4))
                  go_meet
                  case rel => exact ⟨by rw [HV.out]; rfl, HB4⟩
                · have HV := Lib.hid hv
                  clear hv
                  go_wp2_with (first | (go_at_call 37; refine (TG.out _).mono ?_; rintro e w3 ⟨rfl, rfl⟩) | (go_at_call 38; refine (BY.out _).mono ?_; rintro e w4 ⟨rfl, hb4⟩; have HB4 := Lib.hid hb4; clear hb4))
                  go_meet
                  case rel => exact ⟨by rw [HV.out]; rfl, HB4⟩
            · have q4 : (t : Int) / 32 % 2 = 1 := q3
              clear q3
              by_cases hk : 0 ≤ kk
              · have hk2 : ¬ kk < 0 := by omega
                by_cases hy0 : y = 0
                · have hv : nodeOk nd = true := by rw [HNO.out, if_pos hk, hy0]; rfl
                  have ey : ¬ (0 : Int) < (y : Int) := by omega
                  have eyn : ¬ 0 < y := by omega
                  have HV := Lib.hid hv
                  clear hv
                  go_wp2_with (first | (go_at_call 37; refine (TG.out _).mono ?_; rintro e w3 ⟨rfl, rfl⟩))
                  go_meet
                  case rel => exact ⟨by rw [HV.out]; rfl, Below.refl _ _⟩
                · have hv : nodeOk nd = false := by rw [HNO.out, if_pos hk, decide_eq_false hy0]; rfl
                  have ey : (0 : Int) < (y : Int) := by omega
                  have eyn : 0 < y := by omega
                  have HV := Lib.hid hv
                  clear hv
                  go_wp2_with (first | (go_at_call 37; refine (TG.out _).mono ?_; rintro e w3 ⟨rfl, rfl⟩))
                  go_meet
                  case rel => exact ⟨by rw [HV.out]; rfl, Below.refl _ _⟩
              · have hv : nodeOk nd = false := by rw [HNO.out, if_neg hk]; rfl
                have hk2 : kk < 0 := by omega
                have HV := Lib.hid hv
                clear hv
                go_wp2_with (first | (go_at_call 37; refine (TG.out _).mono ?_; rintro e w3 ⟨rfl, rfl⟩))
                go_meet
                case rel => exact ⟨by rw [HV.out]; rfl, Below.refl _ _⟩
          · have hv : nodeOk nd = false := by rw [HNO.out, decide_eq_false hz]; rfl
            have xz : (z != 0) = true := by rw [bne_iff_ne]; exact hz
            have HV := Lib.hid hv
            clear hv
            go_wp2_with (first | (go_at_call 37; refine (TG.out _).mono ?_; rintro e w3 ⟨rfl, rfl⟩))
            go_meet
            case rel => exact ⟨by rw [HV.out]; rfl, Below.refl _ _⟩
        case rest =>
          obtain ⟨rfl, HB4⟩ := hcut
          have HB5 : Hid (Below w.heap.size w wc) := HB0.out.trans (HB4.out.mono HB0.out.size)
          have hJ5 := HJ0.out.below HB4.out HJL.out
          have t2 := hJ5.cell 2 _ rfl
          rw [Nat.zero_add] at t2
          clear t0 t1 hJ5
          cases hok : nodeOk nd with
          | false =>
            have HB9 := Lib.hid (HBad.out hok)
            clear hok
            rw [show (!false) = true from rfl]
            go_wp2_with fail
            go_ret2
            exact RetEnc.no HE.out HB9.out HB5.out
          | true =>
            have HO9 := Lib.hid (HOk.out hok)
            clear hok
            rw [show (!true) = false from rfl]
            by_cases hy9 : 262144 < y
            · have ey : (262144 : Int) < (y : Int) := by omega
              have HT9 := Lib.hid (HTb.out (.inl hy9))
              clear e6
              go_wp2_with fail
              go_roundw
              case rel => exact ⟨i1, 262145, rfl, rfl, HI.out.2.1, HT9, HO9, HB5⟩
              case measure => have h9 := HI.out; simp [intOf]; omega
            · have ey : ¬ (262144 : Int) < (y : Int) := by omega
              by_cases hT9 : 262144 < T
              · have eT : (262144 : Int) < (T : Int) := by omega
                have HT9 := Lib.hid (HTb.out (.inr hT9))
                clear e6
                go_wp2_with fail
                go_roundw
                case rel => exact ⟨i1, 262145, rfl, rfl, HI.out.2.1, HT9, HO9, HB5⟩
                case measure => have h9 := HI.out; simp [intOf]; omega
              · have eT : ¬ (262144 : Int) < (T : Int) := by omega
                have HT9 := Lib.hid (HTs.out (by omega) (by omega))
                have e7 : IntKind.i64.wrap (T1 : Int) = (T1 : Int) := wrap_fit T1 (by have := HTT.out; unfold maxLen; omega)
                go_wp2_with fail
                go_roundw
                case rel => exact ⟨i1, T1, rfl, rfl, HI.out.2.1, HT9, HO9, HB5⟩
                case measure => have h9 := HI.out; simp [intOf]; omega
      · obtain rfl : i = n := by omega
        have e1 : ¬ (i : Int) < (i : Int) := by omega
        have hall : l.all nodeOk = true := List.all_eq_true.2 fun x hx => by
          obtain ⟨j, hj, rfl⟩ := List.mem_iff_getElem.1 hx
          have h9 := HO.out j (by rw [← HN.out.1]; exact hj)
          rw [List.getD, List.getElem?_eq_getElem hj] at h9
          exact h9
        have hT2 := HT.out
        rw [Tot, List.take_of_length_le (by rw [HN.out.1]; exact Nat.le_refl _)] at hT2
        have hen : enc l = if 32 < (shp [1] 0 l).1 ∨ 262144 < bods l then ([], 10) else if 262144 < ((jnS l).1.getD 0 []).length then ([], 10) else if (jnS l).2 = false then ([], 9) else ((jnS l).1.getD 0 [], 0) := by
          have h9 := HN4.out
          rw [enc, if_neg (by omega), if_neg (by rw [HX.out.2.1]; decide), if_neg (by rw [hall]; decide)]
        rw [← HX.out.2.2.1] at hen
        clear hall
        by_cases hd : 32 < mo
        · have ed : (32 : Int) < (mo : Int) := by omega
          have HB9 : Hid (enc l = ([], 10)) := by show _ = _; rw [hen, if_pos (.inl ed)]
          clear hen hT2
          go_wp2_with fail
          go_ret2
          exact RetEnc.no HE.out HB9.out HB.out
        have ed : ¬ (32 : Int) < (mo : Int) := by omega
        by_cases hT9 : 262144 < T
        · have eT : (262144 : Int) < (T : Int) := by omega
          have hbig : 262144 < bods l := by
            refine Decidable.byContradiction fun h9 => ?_
            have := hT2.1 (by omega)
            omega
          have HB9 : Hid (enc l = ([], 10)) := by show _ = _; rw [hen, if_pos (.inr hbig)]
          clear hen hT2 hbig
          go_wp2_with fail
          go_ret2
          exact RetEnc.no HE.out HB9.out HB.out
        have eT : ¬ (262144 : Int) < (T : Int) := by omega
        have hsm : bods l ≤ 262144 := by
          refine Decidable.byContradiction fun h9 => ?_
          have := hT2.2.1 (by omega)
          omega
        obtain ⟨d, oo, B, hEl, hjn, -⟩ := els_one HX.out.2.1
        rw [if_neg (by omega), hjn] at hen
        have hen2 : enc l = if 262144 < B.length then ([], 10) else if oo = false then ([], 9) else (B, 0) := hen
        have CH := Lib.hid (HTO.out hsm HN4.out d B oo hEl)
        have HEN := Lib.hid hen2
        have HXE : Hid (Xe (wr.alloc (Obj.cells #[.slice (some ⟨gl, o, none⟩) i cap, .bool false, .bool false] 86)) wr.heap.size (some ⟨gl, o, none⟩) cap l false false) := by
          refine ⟨?_, by simp, gl, o, rfl, (HX.out.2.2.2.1.below HB.out HX.out.2.2.2.2.1).alloc _, Nat.lt_of_lt_of_le HX.out.2.2.2.2.1 HB.out.size⟩
          rw [HN.out.1]
          exact At.ofAlloc wr _ _
        have HB3 : Hid (Below w.heap.size w (wr.alloc (Obj.cells #[.slice (some ⟨gl, o, none⟩) i cap, .bool false, .bool false] 86))) := HB.out.alloc HB.out.size _
        have HG : Hid (w.heap.size ≤ wr.heap.size) := HB.out.size
        clear hen hen2 hT2 hsm hEl hjn
        go_wp2_with fail
        refine (CH.out _ _ _ _ HXE.out).mono ?_
        rintro e w5 h5
        obtain ⟨s, rfl, hs, hBl, HX5, HB5⟩ | ⟨s, x, ou, rfl, hbig, hsz, hx, HX5, HB5⟩ := h5
        · have HB6 : Hid (Below w.heap.size w w5) := HB3.out.trans (HB5.out.low HG.out (by simp))
          obtain ⟨xx, hxx⟩ : ∃ q, 0 + l.length = q := ⟨_, rfl⟩
          rw [hxx]
          have y1 := HX5.out.at0.cell 1 _ rfl
          have y2 := HX5.out.at0.cell 2 _ rfl
          rw [Nat.zero_add] at y1 y2
          obtain ⟨z, hz⟩ : ∃ z, s.size = z := ⟨_, rfl⟩
          have hzB : B.length = z := by rw [← hs, tl_size, hz]
          have HSS := Lib.hid hs
          by_cases hzz : 262144 < z
          · have ez : (262144 : Int) < (z : Int) := by omega
            have HB9 : Hid (enc l = ([], 10)) := by show _ = _; rw [HEN.out, if_pos (by rw [hzB]; exact hzz)]
            clear hs hBl hzB
            go_wp2_with fail
            go_ret2
            exact RetEnc.no HE.out HB9.out HB6.out
          · have ez : ¬ (262144 : Int) < (z : Int) := by omega
            have h9 := HEN.out
            rw [if_neg (by rw [hzB]; exact hzz)] at h9
            cases oo with
            | false =>
              rw [if_pos rfl] at h9
              have HB9 := Lib.hid h9
              rw [show (false || !false) = true from rfl] at y2
              clear hs hBl hzB h9
              go_wp2_with fail
              go_ret2
              exact RetEnc.no HE.out HB9.out HB6.out
            | true =>
              rw [if_neg (by decide)] at h9
              have HB9 := Lib.hid h9
              rw [show (false || !true) = false from rfl] at y2
              clear hs hBl hzB h9
              go_wp2_with fail
              go_ret2
              exact RetEnc.yes HE.out HB9.out HSS.out HB6.out
        · have HB6 : Hid (Below w.heap.size w w5) := HB3.out.trans (HB5.out.low HG.out (by simp))
          have y1 := HX5.out.at0.cell 1 _ rfl
          rw [Nat.zero_add] at y1
          have HB9 : Hid (enc l = ([], 10)) := by show _ = _; rw [HEN.out, if_pos hbig]
          clear hbig hsz hx
          go_wp2_with fail
          go_ret2
          exact RetEnc.no HE.out HB9.out HB6.out
end Go.Proofs.YteglahkgnggmgaaDoor
namespace Go.Proofs.YteglahkgnggmgaaDoor
open Go.RowKit
set_option linter.unusedVariables false
set_option linter.unusedSimpArgs false
open Dr
theorem told_all (l : List Nd) (hln : l.length ≤ 4096) (hb : ∀ n ∈ l, n.body.length ≤ 262144) : ∀ (N : Nat) (T : List Nd), T.length ≤ N → ToldOk l T := by
  intro N
  induction N with
  | zero =>
    intro T hT d B o h
    have := h.pos
    omega
  | succ N ih =>
    intro T hT d B o h A R hl w g a cap ou hX
    cases h with
    | leaf hk hr =>
      obtain ⟨rfl, rfl, rfl⟩ := hr.none
      exact told_leaf w g a cap l A R _ ou hX (by rw [hl]; simp) hln hk (hb _ (by rw [hl]; simp))
    | node hk hK hr =>
      obtain ⟨rfl, rfl, rfl⟩ := hr.none
      rw [List.append_nil, List.length_cons] at hT
      rw [List.append_nil] at hl
      rw [List.append_nil, Bool.and_true]
      exact told_node l A R _ _ _ _ _ hln (hb _ (by rw [hl]; simp)) (fun T' hT' => ih T' (by omega)) hk hK hl w g a cap ou hX
theorem toldL_any (l : List Nd) : ToldL l := fun hb hl d B o h w g a cap hX =>
  told_all l hl (fun n hn => Nat.le_trans (mem_bods l n hn) hb) l.length l (Nat.le_refl _) d B o h [] [] (by simp) w g a cap false hX
set_option maxRecDepth 100000 in
set_option maxHeartbeats 1600000 in
theorem derTells_walk (l : List Nd) (v : Value) (w : World) (hS : SlO w v l) (hK : KidsOk l) (hbo : ∀ n ∈ l, n.body.length ≤ 140737488351232) (hn : l.length * 32 ≤ 140737488351232) (hU : UT w.heap.size w) :
    Calls Tryd.prog 4 #[v] w (RetT w) := by
  have HU := Lib.hid hU
  have WK := Lib.hid (fun w hU => wakes15_any w hU)
  have CP := Lib.hid (fun v' w' hS' => copied_anyO l v' w' hS' (by omega))
  have EN := Lib.hid (fun v' w' hS' hU' => encode_any l v' w' hS' hK hbo (by omega) hU')
  have RE := Lib.hid (fun v' w' hS' => rencode_any l v' w' (toldL_any l) hS' hK hbo (by omega))
  have HS := Lib.hid hS
  obtain ⟨E, hE⟩ : ∃ E, enc l = E := ⟨_, rfl⟩
  rw [hE] at EN RE
  obtain ⟨S, c⟩ := E
  obtain ⟨a0, cap0, rfl, -⟩ := hS
  obtain ⟨n0, hn0⟩ : ∃ n, l.length = n := ⟨_, rfl⟩
  rw [hn0] at HS
  rw [hn0]
  clear hU hK hbo hn hE hn0
  go_enter Tryd.func4, Tryd.ntmps4
  go_wp2_with fail
  refine (WK.out _ HU.out).mono ?_
  rintro e w1 ⟨rfl, hb1⟩
  have HB1 : Hid (Below w.heap.size w w1) := hb1
  have HS1 := Lib.hid (HS.out.below hb1)
  clear hb1
  go_wp2_with fail
  refine (CP.out _ _ HS1.out).mono ?_
  rintro e w2 ⟨v2, rfl, ho2, hb2⟩
  have HB2 : Hid (Below w.heap.size w w2) := HB1.out.trans (hb2.mono HB1.out.size)
  have HS2 := Lib.hid (HS1.out.below hb2)
  have HC2 := Lib.hid (Sl.ofOwn ho2)
  clear hb2 ho2
  go_wp2_with fail
  refine (EN.out _ _ HC2.out (HU.out.at HB2.out)).mono ?_
  rintro e w3 ⟨s, rfl, hs, hb3⟩
  have HB3 : Hid (Below w.heap.size w w3) := HB2.out.trans (hb3.mono HB2.out.size)
  have HS3 := Lib.hid (HS2.out.below hb3)
  have HT := Lib.hid hs
  clear hb3 hs
  go_wp2_with fail
  refine (RE.out _ _ HS3.out).mono ?_
  rintro e w4 ⟨t, rfl, ht, hb4⟩
  have HB4 : Hid (Below w.heap.size w w4) := HB3.out.trans (hb4.mono HB3.out.size)
  obtain rfl : s = t := tl_inj (by rw [HT.out, ht])
  clear hb4 ht
  go_wp2_with fail
  go_ret
  exact ⟨rfl, HB4.out⟩
end Go.Proofs.YteglahkgnggmgaaDoor
namespace Go.Proofs.YteglahkgnggmgaaDoor.derTells
open Go.ChangeShapes Go.WideShapes Go.ChangeAt Go.WideElems Go.RowKit
open Go.ChangeMaps (open_string shut_string)
open Go.Joins (open_agg2 shut_agg2 open_agg3 shut_agg3 open_agg4 shut_agg4)
set_option linter.unusedVariables false
theorem own : ownKnob Tryd.prog.godebug = none := by kernel_rfl
theorem laidOut : laidOutB Tryd.prog = true := by kernel_rfl
set_option maxRecDepth 100000 in
theorem lifted (os : Os) (started : os.Started) (H : Type) (enc : TypeId × Value → H) :
    ReturnsInHanded {} Tryd.checked os 4 .any (fun w args => (Rows.derTellsSpec.pre enc Tryd.prog Tryd.f4 [] false w args ∧ laidMetH Tryd.prog laidF w) ∧ sizedMet enc Tryd.prog Tryd.f4 (OpenSpec.ofChange Rows.derTellsSpec) false w args)
      (Rows.derTellsSpec.post enc Tryd.prog Tryd.f4 false true false false) := by
  refine returnsInHanded_of_change_and (C := Tryd.checked) (X := fun w _ => laidMetH Tryd.prog laidF w) (fun _ _ _ hh h => h.of_heap hh) own started (by kernel_rfl) Tryd.func4
    (ChangeSpec.witness_shaped (enc := enc) (C := Tryd.checked) (os := os) (X := fun w _ => laidMetH Tryd.prog laidF w) false (World.laidAll Tryd.prog os laidF) #[.slice none 0 0] 8 rfl (World.shaped_of_RefB (by kernel_rfl) (by kernel_rfl)) (by kernel_rfl) (by kernel_rfl) (by kernel_rfl) (door_met os _)) ?_
  intro W base args ds gs before hval0 hW _ hsz0 hL _
  have hval : ∀ (j : Nat) t v, Tryd.f4.params[j]? = some t → args[j]? = some v → Value.okWide Tryd.prog W .any base t v := hval0
  have hsz : (DataW.weightsEach Tryd.prog (Tryd.f4.params.toList ++ Rows.derTellsSpec.plain.varTypes Tryd.prog) (ds ++ gs)).all (· ≤ reachBytes) = true := hsz0
  have hW' := hW
  obtain ⟨p, q, hA0, hV, rfl, hfz, hnd⟩ := hW
  have hA : DataW.TrodAll enc Tryd.prog W 0 (fun _ => true) true Tryd.f4.params.toList args.toList ds p := hA0
  rw [Tryd.params4] at hA hval hsz
  obtain ⟨v0, vs0, d0, ds0, p0, q0, hargs, rfl, rfl, h0, r0⟩ := trodAll_cons hA
  obtain ⟨rfl, rfl, rfl⟩ := trodAll_nil r0
  obtain rfl : args = #[v0] := by cases args; simp_all
  obtain ⟨rfl, rfl⟩ := trodVars_none hV
  obtain ⟨a0, len, cap, rfl⟩ := okWide_slice Tryd.underlying25 (hval 0 25 v0 rfl rfl)
  have h0k := h0
  obtain ⟨fuel, hf⟩ := h0
  have hlt : ∀ x ∈ p0, x.block < W.heap.size := fun x hx => by
    have := hW'.lt x (by simp [hx])
    simpa using this
  obtain ⟨l, hS, hK, hbo, hln, hl32⟩ := open_nodes hf hlt (fun b off hm => hfz b off (by simp [hm])) (fun x hx => by
    have h9 := List.all_eq_true.1 hsz _ (DataW.weights_mem_each (j := 0) (t := 25) rfl rfl x hx)
    exact of_decide_eq_true h9)
  have hF := ut_of_laid hL
  clear hA0 hval0
  refine (derTells_walk l (.slice a0 len cap) W hS hK hbo (by rw [hln]; exact hl32) hF).mono fun e W' ⟨he, bel⟩ => ?_
  subst he
  exact ⟨_, rfl, _, _, _, [], _, [], hW', trodAll_mk1 (shut_bool Tryd.underlying4 _), (trodAll_cons_mk (Below.trod laidOut (by kernel_rfl) (of_decide_eq_true (by kernel_rfl)) h0k bel hlt) trodAll_mk0), rfl, bel.frame _, fun h => by cases h⟩

theorem holds : Rows.DerTellsSaid :=
  OpenClaim.holds_of_wide 4 Tryd.f4 rfl rfl rfl rfl rfl rfl rfl ⟨rfl, rfl, rfl, rfl, rfl⟩ rfl rfl rfl rfl rfl (by kernel_rfl) Tryd.func4 (by kernel_rfl)
    (of_decide_eq_true (by kernel_rfl)) (by unfold Func.isWrapper; first | (rw [if_pos (by decide +kernel)]; kernel_rfl) | (rw [if_neg (by decide +kernel)]; exact ⟨rfl, rfl⟩))
    (fun os started H enc _ => lifted os started H enc)
theorem proved : Rows.DerTellsCardSaid :=
  Claim7.holds_tied_plain_at .later [] [.data, .pinned] true Rows.derTellsCard.stood.harness Rows.derTellsCard.stood.looks
    holds (fun _ h => by cases h) (by kernel_rfl) (fun _ h => by cases h) derTells_row_tie rfl ⟨rfl, rfl⟩ (by kernel_rfl) rfl
    (fun f fn hf hfn => by
      obtain rfl : f = 4 := Option.some.inj ((show Tryd.prog.funcNamed "pyxis/pyxislaw15.DerTells" = some 4 by kernel_rfl).symm.trans hf) |>.symm
      obtain rfl : fn = Tryd.f4 := (Option.some.inj (Tryd.func4.symm.trans hfn)).symm
      exact ⟨by kernel_rfl, fun j t ht => by
        rw [Tryd.params4] at ht
        have hm : t ∈ [25] := by simpa using Array.mem_of_getElem? ht
        have hall : ([25].all fun u => !Tryd.prog.wantsStandIn u) = true := by kernel_rfl
        exact (show Tryd.prog.wantsStandIn t = false by simpa using List.all_eq_true.1 hall t hm)⟩)
    (by kernel_rfl)
#print axioms proved
end Go.Proofs.YteglahkgnggmgaaDoor.derTells
