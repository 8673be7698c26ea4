import Derived.Test.YtikgonlhdkknkaaGreatDoorCyC
import Derived.Test.YtikgonlhdkknkaaGreatDoorCxM
import Derived.Test.YtikgonlhdkknkaaGreatDoorCvE
import Derived.Deep.RegionHeld3
set_option maxRecDepth 100000
set_option maxHeartbeats 6400000
set_option linter.unusedVariables false
set_option linter.unusedSimpArgs false
open Go.Lib (hid)
namespace Go.Proofs.YtikgonlhdkknkaaGreatDoor
open Go.RowKit
namespace Ce
open Co (Am Ra up rcells rv UT DecR enc Its holds tell okA hdN)
theorem canon_le (x : Ev) (h1 : x.header.length ≤ 300000) (h2 : x.loose.length ≤ 300000) (h3 : x.cipher.length ≤ 70000) (h4 : x.tag.length ≤ 64) : (canon x).length ≤ 140737488351232 := by
 have l1 := byt_len x.header
 have l2 := byt_len x.cipher
 have l3 := byt_len x.tag
 have l4 := byt_len (x.cipher ++ x.tag)
 rw [lap] at l4
 by_cases h6 : x.format = 6
 ·rw [canon_six h6]
  simp only [lap, lco, List.length_nil]
  omega
 ·rw [canon_five h6]
  simp only [lap, lco, List.length_nil]
  omega
theorem kq4 {w0 wa wb : World} {B : Nat} {a b c d : Value} (hb : Below wa.heap.size wa wb) (hS : wa.cell? ⟨B, 3, none⟩ = some a ∧ wa.cell? ⟨B, 4, none⟩ = some b ∧ wa.cell? ⟨B, 7, none⟩ = some c ∧ wa.cell? ⟨B, 8, none⟩ = some d ∧ B < wa.heap.size ∧ Below w0.heap.size w0 wa) :
  wb.cell? ⟨B, 3, none⟩ = some a ∧ wb.cell? ⟨B, 4, none⟩ = some b ∧ wb.cell? ⟨B, 7, none⟩ = some c ∧ wb.cell? ⟨B, 8, none⟩ = some d ∧ B < wb.heap.size ∧ Below w0.heap.size w0 wb :=
 ⟨(hb.cell (p := ⟨B, 3, none⟩) hS.2.2.2.2.1).trans hS.1, (hb.cell (p := ⟨B, 4, none⟩) hS.2.2.2.2.1).trans hS.2.1, (hb.cell (p := ⟨B, 7, none⟩) hS.2.2.2.2.1).trans hS.2.2.1, (hb.cell (p := ⟨B, 8, none⟩) hS.2.2.2.2.1).trans hS.2.2.2.1, nlt hS.2.2.2.2.1 hb.size, hS.2.2.2.2.2.trans (hb.mono hS.2.2.2.2.2.size)⟩
theorem kqb4 {w0 wa : World} {B : Nat} {a b c d : Value} (hS : wa.cell? ⟨B, 3, none⟩ = some a ∧ wa.cell? ⟨B, 4, none⟩ = some b ∧ wa.cell? ⟨B, 7, none⟩ = some c ∧ wa.cell? ⟨B, 8, none⟩ = some d ∧ B < wa.heap.size ∧ Below w0.heap.size w0 wa) : Below w0.heap.size w0 wa := hS.2.2.2.2.2
theorem rtell_any (x : Ev) (vx : Value) (w : World) (hx : Ty w vx x.rcs) (hl : x.rcs.length ≤ 140737488351232) :
  Calls Tryz.prog 11 #[evv x vx] w (RetTd x w) := by
 have RB := hid (fun (s : List UInt8) (w' : World) (hs : s.length ≤ 1048576) => rbytes_any s (Nat.le_trans hs (by decide)) w')
 have MO := hid (fun w' => Co.most_any w')
 have SM := hid (fun (y : Ev) v u w' (hv : Ty w' v x.rcs) (hu : Ty w' u y.rcs) (hy : y.rcs.length ≤ 140737488351232) => esame_any x y v u w' hv hu hl hy)
 have hX0 := hx.below ((Below.refl w.heap.size w).alloc (nle _) (Obj.cells (evcells x vx).toArray 27))
 have hA0 := At.ofAlloc w (evcells x vx).toArray 27
 have hB0 : Below w.heap.size w (w.alloc (Obj.cells (evcells x vx).toArray 27)) := (Below.refl _ _).alloc (nle _) _
 obtain ⟨ax, cx, rfl, -⟩ := hx
 have HEV : Hid (evv x (.slice ax x.rcs.length cx) = .agg #[.int .i64 x.format, .int .i64 x.alg, .slice ax x.rcs.length cx, .string (bs x.header), .string (bs x.loose), .string (bs x.aad), .string (bs x.iv), .string (bs x.cipher), .string (bs x.tag)]) := rfl
 rw [HEV.out]
 unfold evcells at hX0 hA0 hB0
 obtain ⟨B, hB⟩ : ∃ B, w.heap.size = B := ⟨_, rfl⟩
 clear hl
 go_enter Tryz.func11, Tryz.ntmps11
 go_upto_region 1 with fail
 obtain ⟨w0, hw0⟩ : ∃ q, w.alloc (eo9 x ax cx) = q := ⟨_, rfl⟩
 rw [hw0] at hX0 hA0 hB0
 try rw [hw0]
 rw [hB] at hA0
 try rw [hB]
 have HX0 := hid hX0
 have HA0 := hid hA0
 have HB0 := hid hB0
 have HS0 : Hid (B < w0.heap.size) := by show B < _; rw [← hw0, ← hB]; simp
 clear hw0 hX0 hA0 hB0 hB
 have a0 := HA0.out.z 0 _ rfl
 have a3 := HA0.out.z 3 _ rfl
 have a4 := HA0.out.z 4 _ rfl
 have a7 := HA0.out.z 7 _ rfl
 have a8 := HA0.out.z 8 _ rfl
 have z3 : (bs x.header).size = x.header.length := rfl
 have z4 : (bs x.loose).size = x.loose.length := rfl
 have z7 : (bs x.cipher).size = x.cipher.length := rfl
 have z8 : (bs x.tag).size = x.tag.length := rfl
 by_cases h1 : 300000 < x.header.length
 case pos =>
  have HBIG : Hid (bigE x) := .inl h1
  have f1 : (300000 : Int) < (x.header.length : Int) := by omega
  clear h1
  go_wp2_with fail
  go_ret2
  exact ⟨([], 2), fun R0 h => tell_big h HBIG.out, rfl, HB0.out⟩
 case neg =>
 have f1 : ¬ (300000 : Int) < (x.header.length : Int) := by omega
 by_cases h2 : 300000 < x.loose.length
 case pos =>
  have HBIG : Hid (bigE x) := .inr (.inl h2)
  have f2 : (300000 : Int) < (x.loose.length : Int) := by omega
  clear h1 h2
  go_wp2_with fail
  go_ret2
  exact ⟨([], 2), fun R0 h => tell_big h HBIG.out, rfl, HB0.out⟩
 case neg =>
 have f2 : ¬ (300000 : Int) < (x.loose.length : Int) := by omega
 by_cases h3 : 70000 < x.cipher.length
 case pos =>
  have HBIG : Hid (bigE x) := .inr (.inr (.inl h3))
  have f3 : (70000 : Int) < (x.cipher.length : Int) := by omega
  clear h1 h2 h3
  go_wp2_with fail
  go_ret2
  exact ⟨([], 2), fun R0 h => tell_big h HBIG.out, rfl, HB0.out⟩
 case neg =>
 have f3 : ¬ (70000 : Int) < (x.cipher.length : Int) := by omega
 by_cases h4 : 64 < x.tag.length
 case pos =>
  have HBIG : Hid (bigE x) := .inr (.inr (.inr h4))
  have f4 : (64 : Int) < (x.tag.length : Int) := by omega
  clear h1 h2 h3 h4
  go_wp2_with fail
  go_ret2
  exact ⟨([], 2), fun R0 h => tell_big h HBIG.out, rfl, HB0.out⟩
 case neg =>
 have f4 : ¬ (64 : Int) < (x.tag.length : Int) := by omega
 have HLN : Hid (x.header.length ≤ 300000 ∧ x.loose.length ≤ 300000 ∧ x.cipher.length ≤ 70000 ∧ x.tag.length ≤ 64) := ⟨by omega, by omega, by omega, by omega⟩
 clear h1 h2 h3 h4
 go_upto_region 3 with fail
 clear f1 f2 f3 f4 z3 z4 z7 z8
 obtain ⟨T, hT⟩ : ∃ T, x.cipher ++ x.tag = T := ⟨_, rfl⟩
 obtain ⟨Q, hQ⟩ : ∃ Q, [208, 131] ++ byt x.header = Q := ⟨_, rfl⟩
 obtain ⟨Q2, hQ2⟩ : ∃ Q2, Q ++ x.loose = Q2 := ⟨_, rfl⟩
 have HTL : Hid (T.length ≤ 1048576) := by show T.length ≤ _; rw [← hT, lap]; have := HLN.out; omega
 have HHL : Hid (x.header.length ≤ 1048576 ∧ x.cipher.length ≤ 1048576 ∧ x.tag.length ≤ 1048576) := by show _ ∧ _; have := HLN.out; omega
 have HF : Hid (¬ x.format = 6 → bs Q2 ++ bs (byt T) = bs (canon x)) := fun h6 => by rw [ss_app, canon_five h6, ← hQ2, ← hQ, ← hT]
 have hq1 : (⟨#[208, 131]⟩ : ByteArray) ++ bs (byt x.header) = bs Q := by rw [← hQ, ← ss_app]; rfl
 have hq2 : bs Q ++ bs x.loose = bs Q2 := by rw [← hQ2, ss_app]
 have hq3 : bs x.cipher ++ bs x.tag = bs T := by rw [← hT, ss_app]
 have hl1 := byt_len x.header
 have hl3 := byt_len T
 have hov1 : ¬ 9223372036854775807 < 2 + (bs (byt x.header)).size := by rw [bs_size]; have := HLN.out; omega
 have hov2 : ¬ 9223372036854775807 < (bs Q).size + (bs x.loose).size := by rw [bs_size, bs_size, ← hQ, lap]; simp; have := HLN.out; omega
 have hov3 : ¬ 9223372036854775807 < (bs x.cipher).size + (bs x.tag).size := by rw [bs_size, bs_size]; have := HLN.out; omega
 have hov4 : ¬ 9223372036854775807 < (bs Q2).size + (bs (byt T)).size := by rw [bs_size, bs_size, ← hQ2, ← hQ, lap, lap]; simp; have := HLN.out; have := HTL.out; omega
 clear hQ hQ2 hT hl1 hl3
 have T1 : Hid (1 = 1) := rfl
 go_cut [4] from 29 to 42 (fun v4 wx => v4 = .string (bs Q2 ++ bs (byt T)) ∧ Hid (Below w.heap.size w wx ∧ At wx B 0 #[.int .i64 x.format, .int .i64 x.alg, .slice ax x.rcs.length cx, .string (bs x.header), .string (bs x.loose), .string (bs x.aad), .string (bs x.iv), .string (bs x.cipher), .string (bs x.tag)].toList ∧ B < wx.heap.size ∧ Ty wx (.slice ax x.rcs.length cx) x.rcs))
 case first =>
  go_region_held3 (fun w' => w'.cell? ⟨B, 3, none⟩ = some (.string (bs x.header)) ∧ w'.cell? ⟨B, 4, none⟩ = some (.string (bs x.loose)) ∧ w'.cell? ⟨B, 7, none⟩ = some (.string (bs x.cipher)) ∧ w'.cell? ⟨B, 8, none⟩ = some (.string (bs x.tag)) ∧ B < w'.heap.size ∧ Below w0.heap.size w0 w') (first | exact kq4 (by assumption) (by assumption) | exact ⟨a3, a4, a7, a8, HS0.out, (Below.refl _ _).drew⟩)
   (first
    | (go_at_call 26; clear T1; refine (RB.out x.header _ HHL.out.1).mono ?_; rintro e wa ⟨rfl, hba⟩)
    | (go_at_call 26; refine (RB.out T _ HTL.out).mono ?_; rintro e wb ⟨rfl, hbb⟩))
  have hq := kqb4 (by assumption)
  go_wp2_with fail
  go_meet
  case rel => exact ⟨rfl, HB0.out.trans (hq.mono HB0.out.size), HA0.out.below hq HS0.out, nlt HS0.out hq.size, HX0.out.below hq⟩
 case rest =>
 obtain ⟨rfl, HK1⟩ := hcut
 have a0 := HK1.out.2.1.z 0 _ rfl
 clear a3 a4 a7 a8 hq1 hq2 hq3 hov1 hov2 hov3 hov4 T1
 obtain ⟨b6, hb6⟩ : ∃ b, (x.format == 6) = b := ⟨_, rfl⟩
 go_upto_if 45 with fail
 have HB6 := hid hb6
 clear hb6 a0
 go_cut [4] from 46 to 60 (fun v4 wx => v4 = .string (bs (canon x)) ∧ Hid (Below w.heap.size w wx ∧ At wx B 0 #[.int .i64 x.format, .int .i64 x.alg, .slice ax x.rcs.length cx, .string (bs x.header), .string (bs x.loose), .string (bs x.aad), .string (bs x.iv), .string (bs x.cipher), .string (bs x.tag)].toList ∧ B < wx.heap.size ∧ Ty wx (.slice ax x.rcs.length cx) x.rcs))
 case first =>
  cases b6
  case false =>
   have h6 : ¬ x.format = 6 := by simpa using HB6.out
   have HE := hid (HF.out h6)
   clear h6
   go_wp2_with fail
   go_meet
   case rel => exact ⟨congrArg Value.string HE.out, HK1⟩
  case true =>
   have h6 : x.format = 6 := by simpa using HB6.out
   obtain ⟨P, hP⟩ : ∃ P, [209, 132] ++ byt x.header = P := ⟨_, rfl⟩
   obtain ⟨P2, hP2⟩ : ∃ P2, P ++ x.loose = P2 := ⟨_, rfl⟩
   obtain ⟨P3, hP3⟩ : ∃ P3, P2 ++ byt x.cipher = P3 := ⟨_, rfl⟩
   have HE : Hid (bs P3 ++ bs (byt x.tag) = bs (canon x)) := by show _ = _; rw [ss_app, canon_six h6, ← hP3, ← hP2, ← hP]
   have hq1 : (⟨#[209, 132]⟩ : ByteArray) ++ bs (byt x.header) = bs P := by rw [← hP, ← ss_app]; rfl
   have hq2 : bs P ++ bs x.loose = bs P2 := by rw [← hP2, ss_app]
   have hq3 : bs P2 ++ bs (byt x.cipher) = bs P3 := by rw [← hP3, ss_app]
   have hl1 := byt_len x.header
   have hl2 := byt_len x.cipher
   have hl3 := byt_len x.tag
   have hov1 : ¬ 9223372036854775807 < 2 + (bs (byt x.header)).size := by rw [bs_size]; have := HLN.out; omega
   have hov2 : ¬ 9223372036854775807 < (bs P).size + (bs x.loose).size := by rw [bs_size, bs_size, ← hP, lap]; simp; have := HLN.out; omega
   have hov3 : ¬ 9223372036854775807 < (bs P2).size + (bs (byt x.cipher)).size := by rw [bs_size, bs_size, ← hP2, ← hP, lap, lap]; simp; have := HLN.out; omega
   have hov4 : ¬ 9223372036854775807 < (bs P3).size + (bs (byt x.tag)).size := by rw [bs_size, bs_size, ← hP3, ← hP2, ← hP, lap, lap, lap]; simp; have := HLN.out; omega
   have a3 := HK1.out.2.1.z 3 _ rfl
   have a4 := HK1.out.2.1.z 4 _ rfl
   have a7 := HK1.out.2.1.z 7 _ rfl
   have a8 := HK1.out.2.1.z 8 _ rfl
   have T1 : Hid (1 = 1) := rfl
   have T2 : Hid (2 = 2) := rfl
   clear hP hP2 hP3 hl1 hl2 hl3 h6
   go_wp2_with fail
   go_region_held3 (fun w' => w'.cell? ⟨B, 3, none⟩ = some (.string (bs x.header)) ∧ w'.cell? ⟨B, 4, none⟩ = some (.string (bs x.loose)) ∧ w'.cell? ⟨B, 7, none⟩ = some (.string (bs x.cipher)) ∧ w'.cell? ⟨B, 8, none⟩ = some (.string (bs x.tag)) ∧ B < w'.heap.size ∧ Below wc.heap.size wc w') (first | exact kq4 (by assumption) (by assumption) | exact ⟨a3, a4, a7, a8, HK1.out.2.2.1, (Below.refl _ _).drew⟩)
    (first
     | (go_at_call 26; clear T1; refine (RB.out x.header _ HHL.out.1).mono ?_; rintro e wa ⟨rfl, hba⟩)
     | (go_at_call 26; clear T2; refine (RB.out x.cipher _ HHL.out.2.1).mono ?_; rintro e wb ⟨rfl, hbb⟩)
     | (go_at_call 26; refine (RB.out x.tag _ HHL.out.2.2).mono ?_; rintro e wd ⟨rfl, hbd⟩))
   have hq := kqb4 (by assumption)
   go_wp2_with fail
   go_meet
   case rel => exact ⟨congrArg Value.string HE.out, HK1.out.1.trans (hq.mono HK1.out.1.size), HK1.out.2.1.below hq HK1.out.2.2.1, nlt HK1.out.2.2.1 hq.size, HK1.out.2.2.2.below hq⟩
 case rest =>
 obtain ⟨rfl, HK2⟩ := hcut
 go_wp2_with fail
 refine (MO.out _).mono ?_
 rintro e w3 ⟨rfl, hb3⟩
 have HK3 : Hid (Below w.heap.size w w3 ∧ At w3 B 0 #[.int .i64 x.format, .int .i64 x.alg, .slice ax x.rcs.length cx, .string (bs x.header), .string (bs x.loose), .string (bs x.aad), .string (bs x.iv), .string (bs x.cipher), .string (bs x.tag)].toList ∧ B < w3.heap.size ∧ Ty w3 (.slice ax x.rcs.length cx) x.rcs) := ⟨HK2.out.1.trans (hb3.mono HK2.out.1.size), HK2.out.2.1.below hb3 HK2.out.2.2.1, nlt HK2.out.2.2.1 hb3.size, HK2.out.2.2.2.below hb3⟩
 clear hb3
 go_wp2_with fail
 refine (rreadT_any (bs (canon x)) 32 4096 262144 4096 w3 (by have h := HLN.out; exact canon_le x h.1 h.2.1 h.2.2.1 h.2.2.2)).mono ?_
 rintro e w4 ⟨y, hy, v4, rfl, hT4, hb4⟩
 rw [bs_list] at hy
 have HY := hid hy
 have HRL := hid hy.rcs
 have HK4 : Hid (Below w.heap.size w w4 ∧ At w4 B 0 #[.int .i64 x.format, .int .i64 x.alg, .slice ax x.rcs.length cx, .string (bs x.header), .string (bs x.loose), .string (bs x.aad), .string (bs x.iv), .string (bs x.cipher), .string (bs x.tag)].toList ∧ B < w4.heap.size ∧ Ty w4 (.slice ax x.rcs.length cx) x.rcs) := ⟨HK3.out.1.trans (hb4.mono HK3.out.1.size), HK3.out.2.1.below hb4 HK3.out.2.2.1, nlt HK3.out.2.2.1 hb4.size, HK3.out.2.2.2.below hb4⟩
 have HT4 := hid hT4
 obtain ⟨a4, c4, rfl, -⟩ := hT4
 obtain ⟨c, z⟩ := y
 dsimp only at HT4 HRL ⊢
 have HEZ : Hid (evv z (.slice a4 z.rcs.length c4) = .agg #[.int .i64 z.format, .int .i64 z.alg, .slice a4 z.rcs.length c4, .string (bs z.header), .string (bs z.loose), .string (bs z.aad), .string (bs z.iv), .string (bs z.cipher), .string (bs z.tag)]) := rfl
 rw [HEZ.out]
 obtain ⟨G, hG⟩ : ∃ q, w4.heap.size = q := ⟨_, rfl⟩
 obtain ⟨w5, hw5⟩ : ∃ q, w4.alloc (eo9 z a4 c4) = q := ⟨_, rfl⟩
 have hb5 : Below w4.heap.size w4 w5 := by rw [← hw5]; exact (Below.refl _ _).alloc (nle _) _
 have HK5 : Hid (Below w.heap.size w w5 ∧ At w5 B 0 #[.int .i64 x.format, .int .i64 x.alg, .slice ax x.rcs.length cx, .string (bs x.header), .string (bs x.loose), .string (bs x.aad), .string (bs x.iv), .string (bs x.cipher), .string (bs x.tag)].toList ∧ B < w5.heap.size ∧ Ty w5 (.slice ax x.rcs.length cx) x.rcs) := ⟨HK4.out.1.trans (hb5.mono HK4.out.1.size), HK4.out.2.1.below hb5 HK4.out.2.2.1, nlt HK4.out.2.2.1 hb5.size, HK4.out.2.2.2.below hb5⟩
 have HT5 := hid (HT4.out.below hb5)
 have hA5 : At w5 G 0 #[.int .i64 z.format, .int .i64 z.alg, .slice a4 z.rcs.length c4, .string (bs z.header), .string (bs z.loose), .string (bs z.aad), .string (bs z.iv), .string (bs z.cipher), .string (bs z.tag)].toList := by rw [← hw5, ← hG]; exact At.ofAlloc w4 _ 27
 clear hy hb4 hb5
 go_upto_region 7 with fail
 try rw [hw5]
 try rw [hG]
 clear hw5 hG
 by_cases h0 : c = 0
 case neg =>
  have f0 : (c != 0) = true := by simpa using h0
  have HNE := hid h0
  clear h0 hA5
  go_wp2_with fail
  go_ret2
  exact ⟨([], 2), fun R0 h => by rw [tell_doc h HY.out, if_neg (fun hh => HNE.out hh.1)], rfl, HK5.out.1⟩
 case pos =>
 subst h0
 obtain ⟨b0, b1, b2, b3, b4, b5, b6, b7, b8⟩ := HK5.out.2.1.c9
 obtain ⟨g0, g1, g2, g3, g4, g5, g6, g7, g8⟩ := hA5.c9
 have sm := SM.out z (.slice ax x.rcs.length cx) (.slice a4 z.rcs.length c4) w5 HK5.out.2.2.2 HT5.out (Nat.le_trans HRL.out (by decide))
 rw [HEV.out, HEZ.out] at sm
 have SS := hid sm
 clear sm hA5
 go_wp2_with fail
 refine SS.out.mono ?_
 rintro e w6 ⟨rfl, hb6⟩
 have HB6 : Hid (Below w.heap.size w w6) := HK5.out.1.trans (hb6.mono HK5.out.1.size)
 clear hb6
 by_cases hxz : x = z
 case pos =>
  have f1 : decide (x = z) = true := dtr hxz
  have HXZ := hid hxz
  rw [f1]
  clear hxz f1
  go_wp2_with fail
  go_ret2
  exact ⟨(canon x, 0), fun R0 h => by rw [tell_doc h HY.out, if_pos ⟨rfl, HXZ.out⟩], rfl, HB6.out⟩
 case neg =>
  have f1 : decide (x = z) = false := dfa hxz
  have HXZ := hid hxz
  rw [f1]
  clear hxz f1
  go_wp2_with fail
  go_ret2
  exact ⟨([], 2), fun R0 h => by rw [tell_doc h HY.out, if_neg (fun hh => HXZ.out hh.2)], rfl, HB6.out⟩
end Ce
end Go.Proofs.YtikgonlhdkknkaaGreatDoor
namespace Go.Proofs.YtikgonlhdkknkaaGreatDoor
open Go.RowKit
namespace Ce
open Co (Am Ra up rcells rv UT DecR enc Its holds tell okA)
theorem coseTells_walk (x : Ev) (vx : Value) (w : World) (hx : Ty w vx x.rcs) (hl : x.rcs.length * 112 ≤ 140737488351232) (hlo : x.loose.length ≤ 100000000000) (hhe : x.header.length ≤ 100000000000) (hci : x.cipher.length ≤ 100000000000) (hta : x.tag.length ≤ 100000000000) (hU : UT w.heap.size w) :
  Calls Tryz.prog 4 #[evv x vx] w (Co.RetT w) := by
 have HU := hid hU
 have WK := hid (fun w hU => wakes25_any w hU)
 have CP := hid (fun v w' (hv : Ty w' v x.rcs) => copied25_any x v w' hv hl)
 have hl1 : x.rcs.length ≤ 140737488351232 := by omega
 have TE := hid (fun v w' (hv : Ty w' v x.rcs) hU => ctell_any x v w' hv hl1 hlo hhe hci hta hU)
 have RT := hid (fun v w' (hv : Ty w' v x.rcs) => rtell_any x v w' hv hl1)
 have hX0 := hx.below ((Below.refl w.heap.size w).alloc (nle _) (Obj.cells (evcells x vx).toArray 27))
 have hA0 := At.ofAlloc w (evcells x vx).toArray 27
 have hB0 : Below w.heap.size w (w.alloc (Obj.cells (evcells x vx).toArray 27)) := (Below.refl _ _).alloc (nle _) _
 obtain ⟨ax, cx, rfl, -⟩ := hx
 have HEV : Hid (evv x (.slice ax x.rcs.length cx) = .agg #[.int .i64 x.format, .int .i64 x.alg, .slice ax x.rcs.length cx, .string (bs x.header), .string (bs x.loose), .string (bs x.aad), .string (bs x.iv), .string (bs x.cipher), .string (bs x.tag)]) := rfl
 rw [HEV.out]
 unfold evcells at hX0 hA0 hB0
 obtain ⟨B, hB⟩ : ∃ B, w.heap.size = B := ⟨_, rfl⟩
 clear hU hl hlo hhe hci hta hl1
 go_enter Tryz.func4, Tryz.ntmps4
 go_wp2_with fail
 obtain ⟨w0, hw0⟩ : ∃ q, w.alloc (eo9 x ax cx) = q := ⟨_, rfl⟩
 rw [hw0] at hX0 hA0 hB0
 try rw [hw0]
 rw [hB] at hA0
 try rw [hB]
 have HX0 := hid hX0
 have HA0 := hid hA0
 have HB0 := hid hB0
 have HS0 : Hid (B < w0.heap.size) := by show B < _; rw [← hw0, ← hB]; simp
 clear hw0 hX0 hA0 hB0 hB
 refine (WK.out _ (HU.out.at HB0.out)).mono ?_
 rintro e w1 ⟨rfl, hb1⟩
 have HB1 : Hid (Below w.heap.size w w1) := HB0.out.trans (hb1.mono HB0.out.size)
 have HX1 := hid (HX0.out.below hb1)
 have HA1 := hid (HA0.out.below hb1 HS0.out)
 have HS1 : Hid (B < w1.heap.size) := nlt HS0.out hb1.size
 clear hb1
 obtain ⟨a0, a1, a2, a3, a4, a5, a6, a7, a8⟩ := HA1.out.c9
 go_wp2_with fail
 refine (by have h := CP.out (.slice ax x.rcs.length cx) w1 HX1.out; rw [HEV.out] at h; exact h : Calls Tryz.prog 10 #[.agg #[.int .i64 x.format, .int .i64 x.alg, .slice ax x.rcs.length cx, .string (bs x.header), .string (bs x.loose), .string (bs x.aad), .string (bs x.iv), .string (bs x.cipher), .string (bs x.tag)]] w1 (RetE x w1)).mono ?_
 rintro e w2 ⟨v2, rfl, hT2, hb2⟩
 have HB2 : Hid (Below w.heap.size w w2) := HB1.out.trans (hb2.mono HB1.out.size)
 have HX2 := hid (HX1.out.below hb2)
 have HT2 := hid hT2
 have HA2 := hid (HA1.out.below hb2 HS1.out)
 have HS2 : Hid (B < w2.heap.size) := nlt HS1.out hb2.size
 clear hb2 hT2 a0 a1 a2 a3 a4 a5 a6 a7 a8
 go_wp2_with fail
 refine (TE.out v2 w2 HT2.out (HU.out.at HB2.out)).mono ?_
 rintro e w3 ⟨R, hR, rfl, hb3⟩
 have HRR := hid hR
 have HB3 : Hid (Below w.heap.size w w3) := HB2.out.trans (hb3.mono HB2.out.size)
 have HX3 := hid (HX2.out.below hb3)
 have HA3 := hid (HA2.out.below hb3 HS2.out)
 have HS3 : Hid (B < w3.heap.size) := nlt HS2.out hb3.size
 clear hb3 hR
 obtain ⟨a0, a1, a2, a3, a4, a5, a6, a7, a8⟩ := HA3.out.c9
 go_wp2_with fail
 refine (by have h := RT.out (.slice ax x.rcs.length cx) w3 HX3.out; rw [HEV.out] at h; exact h : Calls Tryz.prog 11 #[.agg #[.int .i64 x.format, .int .i64 x.alg, .slice ax x.rcs.length cx, .string (bs x.header), .string (bs x.loose), .string (bs x.aad), .string (bs x.iv), .string (bs x.cipher), .string (bs x.tag)]] w3 (RetTd x w3)).mono ?_
 rintro e w4 ⟨R4, hR4, rfl, hb4⟩
 obtain rfl := hR4 R HRR.out
 have HB4 : Hid (Below w.heap.size w w4) := HB3.out.trans (hb4.mono HB3.out.size)
 clear hb4 hR4 HRR a0 a1 a2 a3 a4 a5 a6 a7 a8
 obtain ⟨s, c⟩ := R
 dsimp only
 have cc : (c == c) = true := by simp
 go_wp2_with fail
 go_ret
 exact ⟨rfl, HB4.out⟩
end Ce
end Go.Proofs.YtikgonlhdkknkaaGreatDoor
