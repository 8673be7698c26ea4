import Derived.Test.YtikgonlhdkknkaaGreatDoorCuV
set_option maxRecDepth 100000
set_option maxHeartbeats 6400000
set_option linter.unusedVariables false
set_option linter.unusedSimpArgs false
open Go.Lib (hid)
namespace Go.Proofs.YtikgonlhdkknkaaGreatDoor
open Go.RowKit
namespace Ce
theorem rp_ne {r q : Rp} (h : ¬ r = q) : (¬ r.way = q.way) ∨ (r.way = q.way ∧ ¬ r.size = q.size) ∨ (r.way = q.way ∧ r.size = q.size ∧ ¬ r.kind = q.kind) ∨ (r.way = q.way ∧ r.size = q.size ∧ r.kind = q.kind ∧ ¬ r.name = q.name) ∨ (r.way = q.way ∧ r.size = q.size ∧ r.kind = q.kind ∧ r.name = q.name ∧ ¬ r.key = q.key) ∨ (r.way = q.way ∧ r.size = q.size ∧ r.kind = q.kind ∧ r.name = q.name ∧ r.key = q.key ∧ ¬ r.salt = q.salt) ∨ (r.way = q.way ∧ r.size = q.size ∧ r.kind = q.kind ∧ r.name = q.name ∧ r.key = q.key ∧ r.salt = q.salt ∧ ¬ r.rounds = q.rounds) ∨ (r.way = q.way ∧ r.size = q.size ∧ r.kind = q.kind ∧ r.name = q.name ∧ r.key = q.key ∧ r.salt = q.salt ∧ r.rounds = q.rounds ∧ ¬ r.iv = q.iv) ∨ (r.way = q.way ∧ r.size = q.size ∧ r.kind = q.kind ∧ r.name = q.name ∧ r.key = q.key ∧ r.salt = q.salt ∧ r.rounds = q.rounds ∧ r.iv = q.iv ∧ ¬ r.loose = q.loose) := by
 by_cases h0 : r.way = q.way
 case neg => exact .inl h0
 by_cases h1 : r.size = q.size
 case neg => exact .inr (.inl ⟨h0, h1⟩)
 by_cases h2 : r.kind = q.kind
 case neg => exact .inr (.inr (.inl ⟨h0, h1, h2⟩))
 by_cases h3 : r.name = q.name
 case neg => exact .inr (.inr (.inr (.inl ⟨h0, h1, h2, h3⟩)))
 by_cases h4 : r.key = q.key
 case neg => exact .inr (.inr (.inr (.inr (.inl ⟨h0, h1, h2, h3, h4⟩))))
 by_cases h5 : r.salt = q.salt
 case neg => exact .inr (.inr (.inr (.inr (.inr (.inl ⟨h0, h1, h2, h3, h4, h5⟩)))))
 by_cases h6 : r.rounds = q.rounds
 case neg => exact .inr (.inr (.inr (.inr (.inr (.inr (.inl ⟨h0, h1, h2, h3, h4, h5, h6⟩))))))
 by_cases h7 : r.iv = q.iv
 case neg => exact .inr (.inr (.inr (.inr (.inr (.inr (.inr (.inl ⟨h0, h1, h2, h3, h4, h5, h6, h7⟩)))))))
 by_cases h8 : r.loose = q.loose
 case neg => exact .inr (.inr (.inr (.inr (.inr (.inr (.inr (.inr (⟨h0, h1, h2, h3, h4, h5, h6, h7, h8⟩))))))))
 exact absurd (by cases r; cases q; simp only at h0 h1 h2 h3 h4 h5 h6 h7 h8; rw [h0, h1, h2, h3, h4, h5, h6, h7, h8]) h
theorem rp_take {l m : List Rp} {i : Nat} {r q : Rp} (hi : l[i]? = some r) (hj : m[i]? = some q) (h : l.take i = m.take i) (he : r = q) : l.take (i + 1) = m.take (i + 1) := by
 obtain ⟨h1, h2⟩ := List.getElem?_eq_some_iff.1 hi
 obtain ⟨h3, h4⟩ := List.getElem?_eq_some_iff.1 hj
 rw [List.take_succ_eq_append_getElem h1, List.take_succ_eq_append_getElem h3, h, h2, h4, he]
theorem equal_any (l m : List Rp) (v u : Value) (w : World) (hS : Ty w v l) (hM : Ty w u m) (hl : l.length ≤ 140737488351232) (hm : m.length ≤ 140737488351232) :
  Calls Tryz.prog 74 #[v, u] w (fun e w' => e = .returned (.bool (decide (l = m))) ∧ Below w.heap.size w w') := by
 obtain ⟨R, hR⟩ : ∃ R, decide (l = m) = R := ⟨_, rfl⟩
 rw [hR]
 have HR := hid hR
 obtain ⟨a, c, rfl, ha⟩ := hS
 obtain ⟨b, d, rfl, hb⟩ := hM
 have HA := hid ha
 have HBm := hid hb
 obtain ⟨n, hn⟩ : ∃ n, l.length = n := ⟨_, rfl⟩
 obtain ⟨k, hk⟩ : ∃ n, m.length = n := ⟨_, rfl⟩
 have HN := hid (aIn hn hk)
 have HNN : Hid (n ≤ 140737488351232) := by show n ≤ _; omega
 rw [hn, hk]
 clear hR ha hb hl hm
 by_cases hnk : n = k
 case neg =>
  have HF : Hid (R = false) := by show R = _; rw [← HR.out]; exact dfa (fun h => hnk (by rw [← hn, ← hk, h]))
  have f1 : ¬ (n : Int) = (k : Int) := by omega
  have f1b : ((n : Int) != (k : Int)) = true := by simp; omega
  clear hn hk
  go_enter Tryz.func74, Tryz.ntmps74
  go_wp2_with fail
  go_ret
  exact ⟨by rw [HF.out]; rfl, Below.refl _ _⟩
 subst hnk
 clear hn hk
 go_enter Tryz.func74, Tryz.ntmps74
 go_wp2_with fail
 go_loopw [5, 13] (fun _ vi wr => ∃ i : Nat, vi = .int .i64 (i : Int) ∧ i ≤ n ∧ Hid (l.take i = m.take i) ∧ Hid (Below w.heap.size w wr)) (fun _ vi _ => n - (intOf vi).toNat)
 case atStart => exact ⟨0, rfl, Nat.zero_le _, rfl, Below.refl _ _⟩
 case round =>
  obtain ⟨i, rfl, hi, HT, HB⟩ := hrel
  by_cases hin : i = n
  ·subst hin
   have HF : Hid (R = true) := by
    show R = _
    rw [← HR.out]
    have h := HT.out
    rw [List.take_of_length_le (by rw [HN.out.1]; exact nle _), List.take_of_length_le (by rw [HN.out.2]; exact nle _)] at h
    exact dtr h
   clear hi
   go_wp2_with fail
   go_ret
   exact ⟨by rw [HF.out]; rfl, HB.out⟩
  ·have hlt : i < n := by omega
   obtain ⟨ga, oa, rfl, hAt, hga⟩ := HA.out (fun h => by have := HN.out.1; rw [h] at this; simp at this; omega)
   obtain ⟨gb, ob, rfl, hBt, hgb⟩ := HBm.out (fun h => by have := HN.out.2; rw [h] at this; simp at this; omega)
   obtain ⟨r, hr⟩ : ∃ r, l[i]? = some r := ⟨_, List.getElem?_eq_getElem (by rw [HN.out.1]; exact hlt)⟩
   obtain ⟨q, hq⟩ : ∃ r, m[i]? = some r := ⟨_, List.getElem?_eq_getElem (by rw [HN.out.2]; exact hlt)⟩
   have hx := (rp_at hAt i r hr).below HB.out hga
   have hy := (rp_at hBt i q hq).below HB.out hgb
   rw [rpv] at hx hy
   unfold bs at hx hy
   have e1 : (i : Int) < (n : Int) := by omega
   have e2 : IntKind.i64.wrap ((i : Int) + 1) = (i : Int) + 1 := by have := HNN.out; have := Co.wrap_fit (i + 1) (by unfold maxLen; omega); push_cast at this; exact this
   have e3 : (i : Int) ≤ 140737488351232 := by have := HNN.out; omega
   have HII : Hid (i + 1 ≤ n) := by show i + 1 ≤ n; omega
   obtain ⟨x0, hx0⟩ : ∃ t, r.way = t := ⟨_, rfl⟩
   obtain ⟨y0, hy0⟩ : ∃ t, q.way = t := ⟨_, rfl⟩
   obtain ⟨x1, hx1⟩ : ∃ t, r.size = t := ⟨_, rfl⟩
   obtain ⟨y1, hy1⟩ : ∃ t, q.size = t := ⟨_, rfl⟩
   obtain ⟨x2, hx2⟩ : ∃ t, r.kind = t := ⟨_, rfl⟩
   obtain ⟨y2, hy2⟩ : ∃ t, q.kind = t := ⟨_, rfl⟩
   obtain ⟨x3, hx3⟩ : ∃ t, r.name = t := ⟨_, rfl⟩
   obtain ⟨y3, hy3⟩ : ∃ t, q.name = t := ⟨_, rfl⟩
   obtain ⟨x4, hx4⟩ : ∃ t, r.key = t := ⟨_, rfl⟩
   obtain ⟨y4, hy4⟩ : ∃ t, q.key = t := ⟨_, rfl⟩
   obtain ⟨x5, hx5⟩ : ∃ t, r.salt = t := ⟨_, rfl⟩
   obtain ⟨y5, hy5⟩ : ∃ t, q.salt = t := ⟨_, rfl⟩
   obtain ⟨x6, hx6⟩ : ∃ t, r.rounds = t := ⟨_, rfl⟩
   obtain ⟨y6, hy6⟩ : ∃ t, q.rounds = t := ⟨_, rfl⟩
   obtain ⟨x7, hx7⟩ : ∃ t, r.iv = t := ⟨_, rfl⟩
   obtain ⟨y7, hy7⟩ : ∃ t, q.iv = t := ⟨_, rfl⟩
   obtain ⟨x8, hx8⟩ : ∃ t, r.loose = t := ⟨_, rfl⟩
   obtain ⟨y8, hy8⟩ : ∃ t, q.loose = t := ⟨_, rfl⟩
   rw [hx0, hx1, hx2, hx3, hx4, hx5, hx6, hx7, hx8] at hx
   rw [hy0, hy1, hy2, hy3, hy4, hy5, hy6, hy7, hy8] at hy
   have c0 := hx.cell 0 _ rfl
   have d0 := hy.cell 0 _ rfl
   have c1 := hx.cell 1 _ rfl
   have d1 := hy.cell 1 _ rfl
   have c2 := hx.cell 2 _ rfl
   have d2 := hy.cell 2 _ rfl
   have c3 := hx.cell 3 _ rfl
   have d3 := hy.cell 3 _ rfl
   have c4 := hx.cell 4 _ rfl
   have d4 := hy.cell 4 _ rfl
   have c5 := hx.cell 5 _ rfl
   have d5 := hy.cell 5 _ rfl
   have c6 := hx.cell 6 _ rfl
   have d6 := hy.cell 6 _ rfl
   have c7 := hx.cell 7 _ rfl
   have d7 := hy.cell 7 _ rfl
   have c8 := hx.cell 8 _ rfl
   have d8 := hy.cell 8 _ rfl
   rw [Nat.add_zero] at c0 d0
   by_cases hrq : r = q
   ·have HTT := hid (rp_take hr hq HT.out hrq)
    obtain rfl : x0 = y0 := by rw [← hx0, ← hy0, hrq]
    obtain rfl : x1 = y1 := by rw [← hx1, ← hy1, hrq]
    obtain rfl : x2 = y2 := by rw [← hx2, ← hy2, hrq]
    obtain rfl : x3 = y3 := by rw [← hx3, ← hy3, hrq]
    obtain rfl : x4 = y4 := by rw [← hx4, ← hy4, hrq]
    obtain rfl : x5 = y5 := by rw [← hx5, ← hy5, hrq]
    obtain rfl : x6 = y6 := by rw [← hx6, ← hy6, hrq]
    obtain rfl : x7 = y7 := by rw [← hx7, ← hy7, hrq]
    obtain rfl : x8 = y8 := by rw [← hx8, ← hy8, hrq]
    clear hx hy hr hq hrq hAt hBt hga hgb hlt hin hi hx0 hy0 hx1 hy1 hx2 hy2 hx3 hy3 hx4 hy4 hx5 hy5 hx6 hy6 hx7 hy7 hx8 hy8
    go_wp2_with fail
    go_quiet (fail)
    go_wp2_with fail
    go_roundw
    case rel => exact ⟨i + 1, by go_num, HII.out, HTT, bdN HB.out _⟩
    case measure => have := HII.out; simp [intOf]; omega
   ·have HF : Hid (R = false) := by
     show R = _
     rw [← HR.out]
     refine dfa (fun h => hrq ?_)
     rw [h, hq] at hr
     exact (Option.some.inj hr).symm
    have hne := rp_ne hrq
    rw [hx0, hy0, hx1, hy1, hx2, hy2, hx3, hy3, hx4, hy4, hx5, hy5, hx6, hy6, hx7, hy7, hx8, hy8] at hne
    clear hx hy hr hq hrq hAt hBt hga hgb hlt hin hi hx0 hy0 hx1 hy1 hx2 hy2 hx3 hy3 hx4 hy4 hx5 hy5 hx6 hy6 hx7 hy7 hx8 hy8
    rcases hne with h | ⟨rfl, h⟩ | ⟨rfl, rfl, h⟩ | ⟨rfl, rfl, rfl, h⟩ | ⟨rfl, rfl, rfl, rfl, h⟩ | ⟨rfl, rfl, rfl, rfl, rfl, h⟩ | ⟨rfl, rfl, rfl, rfl, rfl, rfl, h⟩ | ⟨rfl, rfl, rfl, rfl, rfl, rfl, rfl, h⟩ | ⟨rfl, rfl, rfl, rfl, rfl, rfl, rfl, rfl, h⟩
    ·have hb : (x0 == y0) = false := by rw [beq_eq_false_iff_ne]; exact h
     go_wp2_with fail
     go_quiet (fail)
     go_wp2_with fail
     go_ret
     exact ⟨by rw [HF.out]; rfl, bdN HB.out _⟩
    ·have hb : (x1 == y1) = false := by rw [beq_eq_false_iff_ne]; exact h
     go_wp2_with fail
     go_quiet (fail)
     go_wp2_with fail
     go_ret
     exact ⟨by rw [HF.out]; rfl, bdN HB.out _⟩
    ·have hb : (x2 == y2) = false := by rw [beq_eq_false_iff_ne]; exact h
     go_wp2_with fail
     go_quiet (fail)
     go_wp2_with fail
     go_ret
     exact ⟨by rw [HF.out]; rfl, bdN HB.out _⟩
    ·skip
     go_wp2_with fail
     go_quiet (fail)
     go_wp2_with fail
     go_ret
     exact ⟨by rw [HF.out]; rfl, bdN HB.out _⟩
    ·skip
     go_wp2_with fail
     go_quiet (fail)
     go_wp2_with fail
     go_ret
     exact ⟨by rw [HF.out]; rfl, bdN HB.out _⟩
    ·skip
     go_wp2_with fail
     go_quiet (fail)
     go_wp2_with fail
     go_ret
     exact ⟨by rw [HF.out]; rfl, bdN HB.out _⟩
    ·have hb : (x6 == y6) = false := by rw [beq_eq_false_iff_ne]; exact h
     go_wp2_with fail
     go_quiet (fail)
     go_wp2_with fail
     go_ret
     exact ⟨by rw [HF.out]; rfl, bdN HB.out _⟩
    ·skip
     go_wp2_with fail
     go_quiet (fail)
     go_wp2_with fail
     go_ret
     exact ⟨by rw [HF.out]; rfl, bdN HB.out _⟩
    ·skip
     go_wp2_with fail
     go_quiet (fail)
     go_wp2_with fail
     go_ret
     exact ⟨by rw [HF.out]; rfl, bdN HB.out _⟩
theorem ev_ne {x y : Ev} (h : ¬ x = y) : (¬ x.format = y.format) ∨ (x.format = y.format ∧ ¬ x.alg = y.alg) ∨ (x.format = y.format ∧ x.alg = y.alg ∧ ¬ x.rcs = y.rcs) ∨ (x.format = y.format ∧ x.alg = y.alg ∧ x.rcs = y.rcs ∧ ¬ x.header = y.header) ∨ (x.format = y.format ∧ x.alg = y.alg ∧ x.rcs = y.rcs ∧ x.header = y.header ∧ ¬ x.loose = y.loose) ∨ (x.format = y.format ∧ x.alg = y.alg ∧ x.rcs = y.rcs ∧ x.header = y.header ∧ x.loose = y.loose ∧ ¬ x.aad = y.aad) ∨ (x.format = y.format ∧ x.alg = y.alg ∧ x.rcs = y.rcs ∧ x.header = y.header ∧ x.loose = y.loose ∧ x.aad = y.aad ∧ ¬ x.iv = y.iv) ∨ (x.format = y.format ∧ x.alg = y.alg ∧ x.rcs = y.rcs ∧ x.header = y.header ∧ x.loose = y.loose ∧ x.aad = y.aad ∧ x.iv = y.iv ∧ ¬ x.cipher = y.cipher) ∨ (x.format = y.format ∧ x.alg = y.alg ∧ x.rcs = y.rcs ∧ x.header = y.header ∧ x.loose = y.loose ∧ x.aad = y.aad ∧ x.iv = y.iv ∧ x.cipher = y.cipher ∧ ¬ x.tag = y.tag) := by
 by_cases h0 : x.format = y.format
 case neg => exact .inl h0
 by_cases h1 : x.alg = y.alg
 case neg => exact .inr (.inl ⟨h0, h1⟩)
 by_cases h2 : x.rcs = y.rcs
 case neg => exact .inr (.inr (.inl ⟨h0, h1, h2⟩))
 by_cases h3 : x.header = y.header
 case neg => exact .inr (.inr (.inr (.inl ⟨h0, h1, h2, h3⟩)))
 by_cases h4 : x.loose = y.loose
 case neg => exact .inr (.inr (.inr (.inr (.inl ⟨h0, h1, h2, h3, h4⟩))))
 by_cases h5 : x.aad = y.aad
 case neg => exact .inr (.inr (.inr (.inr (.inr (.inl ⟨h0, h1, h2, h3, h4, h5⟩)))))
 by_cases h6 : x.iv = y.iv
 case neg => exact .inr (.inr (.inr (.inr (.inr (.inr (.inl ⟨h0, h1, h2, h3, h4, h5, h6⟩))))))
 by_cases h7 : x.cipher = y.cipher
 case neg => exact .inr (.inr (.inr (.inr (.inr (.inr (.inr (.inl ⟨h0, h1, h2, h3, h4, h5, h6, h7⟩)))))))
 by_cases h8 : x.tag = y.tag
 case neg => exact .inr (.inr (.inr (.inr (.inr (.inr (.inr (.inr (⟨h0, h1, h2, h3, h4, h5, h6, h7, h8⟩))))))))
 exact absurd (by cases x; cases y; simp only at h0 h1 h2 h3 h4 h5 h6 h7 h8; rw [h0, h1, h2, h3, h4, h5, h6, h7, h8]) h
theorem tsame_any (x y : Ev) (vx vy : Value) (w : World) (hx : Ty w vx x.rcs) (hy : Ty w vy y.rcs) (hl : x.rcs.length ≤ 140737488351232) (hm : y.rcs.length ≤ 140737488351232) :
  Calls Tryz.prog 47 #[evv x vx, evv y vy] w (fun e w' => e = .returned (.bool (decide (x = y))) ∧ Below w.heap.size w w') := by
 obtain ⟨R, hR⟩ : ∃ R, decide (x = y) = R := ⟨_, rfl⟩
 rw [hR]
 have HR := hid hR
 have hB0 : Below w.heap.size w ((w.alloc (Obj.cells (evcells x vx).toArray 27)).alloc (Obj.cells (evcells y vy).toArray 27)) := ((Below.refl _ _).alloc (nle _) _).alloc (by simp) _
 have EQ := hid (equal_any x.rcs y.rcs vx vy _ (hx.below hB0) (hy.below hB0) hl hm)
 have HB0 := hid hB0
 obtain ⟨ax, cx, rfl, -⟩ := hx
 obtain ⟨ay, cy, rfl, -⟩ := hy
 obtain ⟨nx, hnx⟩ : ∃ n, x.rcs.length = n := ⟨_, rfl⟩
 obtain ⟨ny, hny⟩ : ∃ n, y.rcs.length = n := ⟨_, rfl⟩
 rw [hnx, hny] at EQ HB0
 rw [hnx, hny]
 unfold evcells bs at HB0 EQ
 unfold evv bs
 clear hR hB0 hl hm hnx hny
 obtain ⟨x0, hx0⟩ : ∃ t, x.format = t := ⟨_, rfl⟩
 obtain ⟨y0, hy0⟩ : ∃ t, y.format = t := ⟨_, rfl⟩
 obtain ⟨x1, hx1⟩ : ∃ t, x.alg = t := ⟨_, rfl⟩
 obtain ⟨y1, hy1⟩ : ∃ t, y.alg = t := ⟨_, rfl⟩
 obtain ⟨x3, hx3⟩ : ∃ t, x.header = t := ⟨_, rfl⟩
 obtain ⟨y3, hy3⟩ : ∃ t, y.header = t := ⟨_, rfl⟩
 obtain ⟨x4, hx4⟩ : ∃ t, x.loose = t := ⟨_, rfl⟩
 obtain ⟨y4, hy4⟩ : ∃ t, y.loose = t := ⟨_, rfl⟩
 obtain ⟨x5, hx5⟩ : ∃ t, x.aad = t := ⟨_, rfl⟩
 obtain ⟨y5, hy5⟩ : ∃ t, y.aad = t := ⟨_, rfl⟩
 obtain ⟨x6, hx6⟩ : ∃ t, x.iv = t := ⟨_, rfl⟩
 obtain ⟨y6, hy6⟩ : ∃ t, y.iv = t := ⟨_, rfl⟩
 obtain ⟨x7, hx7⟩ : ∃ t, x.cipher = t := ⟨_, rfl⟩
 obtain ⟨y7, hy7⟩ : ∃ t, y.cipher = t := ⟨_, rfl⟩
 obtain ⟨x8, hx8⟩ : ∃ t, x.tag = t := ⟨_, rfl⟩
 obtain ⟨y8, hy8⟩ : ∃ t, y.tag = t := ⟨_, rfl⟩
 rw [hx0, hy0, hx1, hy1, hx3, hy3, hx4, hy4, hx5, hy5, hx6, hy6, hx7, hy7, hx8, hy8]
 rw [hx0, hy0, hx1, hy1, hx3, hy3, hx4, hy4, hx5, hy5, hx6, hy6, hx7, hy7, hx8, hy8] at HB0 EQ
 by_cases hxy : x = y
 ·have HF : Hid (R = true) := by show R = _; rw [← HR.out]; exact dtr hxy
  obtain rfl : x0 = y0 := by rw [← hx0, ← hy0, hxy]
  obtain rfl : x1 = y1 := by rw [← hx1, ← hy1, hxy]
  obtain rfl : x3 = y3 := by rw [← hx3, ← hy3, hxy]
  obtain rfl : x4 = y4 := by rw [← hx4, ← hy4, hxy]
  obtain rfl : x5 = y5 := by rw [← hx5, ← hy5, hxy]
  obtain rfl : x6 = y6 := by rw [← hx6, ← hy6, hxy]
  obtain rfl : x7 = y7 := by rw [← hx7, ← hy7, hxy]
  obtain rfl : x8 = y8 := by rw [← hx8, ← hy8, hxy]
  rw [show decide (x.rcs = y.rcs) = true from dtr (by rw [hxy])] at EQ
  clear hxy hx0 hy0 hx1 hy1 hx3 hy3 hx4 hy4 hx5 hy5 hx6 hy6 hx7 hy7 hx8 hy8
  have hAX := (At.ofAlloc w #[.int .i64 x0, .int .i64 x1, .slice ax nx cx, .string ⟨x3.toArray⟩, .string ⟨x4.toArray⟩, .string ⟨x5.toArray⟩, .string ⟨x6.toArray⟩, .string ⟨x7.toArray⟩, .string ⟨x8.toArray⟩] 27).alloc (Obj.cells #[.int .i64 x0, .int .i64 x1, .slice ay ny cy, .string ⟨x3.toArray⟩, .string ⟨x4.toArray⟩, .string ⟨x5.toArray⟩, .string ⟨x6.toArray⟩, .string ⟨x7.toArray⟩, .string ⟨x8.toArray⟩] 27)
  have hAY := At.ofAlloc (w.alloc (Obj.cells #[.int .i64 x0, .int .i64 x1, .slice ax nx cx, .string ⟨x3.toArray⟩, .string ⟨x4.toArray⟩, .string ⟨x5.toArray⟩, .string ⟨x6.toArray⟩, .string ⟨x7.toArray⟩, .string ⟨x8.toArray⟩] 27)) #[.int .i64 x0, .int .i64 x1, .slice ay ny cy, .string ⟨x3.toArray⟩, .string ⟨x4.toArray⟩, .string ⟨x5.toArray⟩, .string ⟨x6.toArray⟩, .string ⟨x7.toArray⟩, .string ⟨x8.toArray⟩] 27
  rw [World.size_alloc] at hAY
  have HAX := hid hAX
  have HAY := hid hAY
  clear hAX hAY
  go_enter Tryz.func47, Tryz.ntmps47
  go_wp2_with fail
  refine EQ.out.mono ?_
  rintro e w1 ⟨rfl, hb1⟩
  have HB1 : Hid (Below w.heap.size w w1) := HB0.out.trans (hb1.mono HB0.out.size)
  have hX1 := HAX.out.below hb1 (by simp; omega)
  have hY1 := HAY.out.below hb1 (by simp)
  have cx3 := hX1.z 3 _ rfl
  have cy3 := hY1.z 3 _ rfl
  have cx4 := hX1.z 4 _ rfl
  have cy4 := hY1.z 4 _ rfl
  have cx5 := hX1.z 5 _ rfl
  have cy5 := hY1.z 5 _ rfl
  have cx6 := hX1.z 6 _ rfl
  have cy6 := hY1.z 6 _ rfl
  have cx7 := hX1.z 7 _ rfl
  have cy7 := hY1.z 7 _ rfl
  have cx8 := hX1.z 8 _ rfl
  have cy8 := hY1.z 8 _ rfl
  clear hX1 hY1 hb1
  go_wp2_with fail
  go_ret
  exact ⟨by rw [HF.out]; rfl, HB1.out⟩
 ·have HF : Hid (R = false) := by show R = _; rw [← HR.out]; exact dfa hxy
  rcases ev_ne hxy with h | ⟨g0, h⟩ | ⟨g0, g1, h⟩ | ⟨g0, g1, g2, h⟩ | ⟨g0, g1, g2, g3, h⟩ | ⟨g0, g1, g2, g3, g4, h⟩ | ⟨g0, g1, g2, g3, g4, g5, h⟩ | ⟨g0, g1, g2, g3, g4, g5, g6, h⟩ | ⟨g0, g1, g2, g3, g4, g5, g6, g7, h⟩
  ·have hk : ¬ x0 = y0 := by rw [← hx0, ← hy0]; exact h
   have hkb : (x0 == y0) = false := by rw [beq_eq_false_iff_ne]; exact hk
   clear hxy h  hx0 hy0 hx1 hy1 hx3 hy3 hx4 hy4 hx5 hy5 hx6 hy6 hx7 hy7 hx8 hy8
   go_enter Tryz.func47, Tryz.ntmps47
   go_wp2_with fail
   go_ret
   exact ⟨by rw [HF.out]; rfl, HB0.out⟩
  ·obtain rfl : x0 = y0 := by rw [← hx0, ← hy0, g0]
   have hk : ¬ x1 = y1 := by rw [← hx1, ← hy1]; exact h
   have hkb : (x1 == y1) = false := by rw [beq_eq_false_iff_ne]; exact hk
   clear hxy h g0 hx0 hy0 hx1 hy1 hx3 hy3 hx4 hy4 hx5 hy5 hx6 hy6 hx7 hy7 hx8 hy8
   go_enter Tryz.func47, Tryz.ntmps47
   go_wp2_with fail
   go_ret
   exact ⟨by rw [HF.out]; rfl, HB0.out⟩
  ·obtain rfl : x0 = y0 := by rw [← hx0, ← hy0, g0]
   obtain rfl : x1 = y1 := by rw [← hx1, ← hy1, g1]
   rw [show decide (x.rcs = y.rcs) = false from dfa h] at EQ
   clear hxy h g0 g1 hx0 hy0 hx1 hy1 hx3 hy3 hx4 hy4 hx5 hy5 hx6 hy6 hx7 hy7 hx8 hy8
   have hAX := (At.ofAlloc w #[.int .i64 x0, .int .i64 x1, .slice ax nx cx, .string ⟨x3.toArray⟩, .string ⟨x4.toArray⟩, .string ⟨x5.toArray⟩, .string ⟨x6.toArray⟩, .string ⟨x7.toArray⟩, .string ⟨x8.toArray⟩] 27).alloc (Obj.cells #[.int .i64 x0, .int .i64 x1, .slice ay ny cy, .string ⟨y3.toArray⟩, .string ⟨y4.toArray⟩, .string ⟨y5.toArray⟩, .string ⟨y6.toArray⟩, .string ⟨y7.toArray⟩, .string ⟨y8.toArray⟩] 27)
   have hAY := At.ofAlloc (w.alloc (Obj.cells #[.int .i64 x0, .int .i64 x1, .slice ax nx cx, .string ⟨x3.toArray⟩, .string ⟨x4.toArray⟩, .string ⟨x5.toArray⟩, .string ⟨x6.toArray⟩, .string ⟨x7.toArray⟩, .string ⟨x8.toArray⟩] 27)) #[.int .i64 x0, .int .i64 x1, .slice ay ny cy, .string ⟨y3.toArray⟩, .string ⟨y4.toArray⟩, .string ⟨y5.toArray⟩, .string ⟨y6.toArray⟩, .string ⟨y7.toArray⟩, .string ⟨y8.toArray⟩] 27
   rw [World.size_alloc] at hAY
   have HAX := hid hAX
   have HAY := hid hAY
   clear hAX hAY
   go_enter Tryz.func47, Tryz.ntmps47
   go_wp2_with fail
   refine EQ.out.mono ?_
   rintro e w1 ⟨rfl, hb1⟩
   have HB1 : Hid (Below w.heap.size w w1) := HB0.out.trans (hb1.mono HB0.out.size)
   have hX1 := HAX.out.below hb1 (by simp; omega)
   have hY1 := HAY.out.below hb1 (by simp)
   clear hX1 hY1 hb1
   go_wp2_with fail
   go_ret
   exact ⟨by rw [HF.out]; rfl, HB1.out⟩
  ·obtain rfl : x0 = y0 := by rw [← hx0, ← hy0, g0]
   obtain rfl : x1 = y1 := by rw [← hx1, ← hy1, g1]
   rw [show decide (x.rcs = y.rcs) = true from dtr g2] at EQ
   have hk : ¬ x3 = y3 := by rw [← hx3, ← hy3]; exact h
   clear hxy h g0 g1 g2 hx0 hy0 hx1 hy1 hx3 hy3 hx4 hy4 hx5 hy5 hx6 hy6 hx7 hy7 hx8 hy8
   have hAX := (At.ofAlloc w #[.int .i64 x0, .int .i64 x1, .slice ax nx cx, .string ⟨x3.toArray⟩, .string ⟨x4.toArray⟩, .string ⟨x5.toArray⟩, .string ⟨x6.toArray⟩, .string ⟨x7.toArray⟩, .string ⟨x8.toArray⟩] 27).alloc (Obj.cells #[.int .i64 x0, .int .i64 x1, .slice ay ny cy, .string ⟨y3.toArray⟩, .string ⟨y4.toArray⟩, .string ⟨y5.toArray⟩, .string ⟨y6.toArray⟩, .string ⟨y7.toArray⟩, .string ⟨y8.toArray⟩] 27)
   have hAY := At.ofAlloc (w.alloc (Obj.cells #[.int .i64 x0, .int .i64 x1, .slice ax nx cx, .string ⟨x3.toArray⟩, .string ⟨x4.toArray⟩, .string ⟨x5.toArray⟩, .string ⟨x6.toArray⟩, .string ⟨x7.toArray⟩, .string ⟨x8.toArray⟩] 27)) #[.int .i64 x0, .int .i64 x1, .slice ay ny cy, .string ⟨y3.toArray⟩, .string ⟨y4.toArray⟩, .string ⟨y5.toArray⟩, .string ⟨y6.toArray⟩, .string ⟨y7.toArray⟩, .string ⟨y8.toArray⟩] 27
   rw [World.size_alloc] at hAY
   have HAX := hid hAX
   have HAY := hid hAY
   clear hAX hAY
   go_enter Tryz.func47, Tryz.ntmps47
   go_wp2_with fail
   refine EQ.out.mono ?_
   rintro e w1 ⟨rfl, hb1⟩
   have HB1 : Hid (Below w.heap.size w w1) := HB0.out.trans (hb1.mono HB0.out.size)
   have hX1 := HAX.out.below hb1 (by simp; omega)
   have hY1 := HAY.out.below hb1 (by simp)
   have cx3 := hX1.z 3 _ rfl
   have cy3 := hY1.z 3 _ rfl
   have cx4 := hX1.z 4 _ rfl
   have cy4 := hY1.z 4 _ rfl
   have cx5 := hX1.z 5 _ rfl
   have cy5 := hY1.z 5 _ rfl
   have cx6 := hX1.z 6 _ rfl
   have cy6 := hY1.z 6 _ rfl
   have cx7 := hX1.z 7 _ rfl
   have cy7 := hY1.z 7 _ rfl
   have cx8 := hX1.z 8 _ rfl
   have cy8 := hY1.z 8 _ rfl
   clear hX1 hY1 hb1
   go_wp2_with fail
   go_ret
   exact ⟨by rw [HF.out]; rfl, HB1.out⟩
  ·obtain rfl : x0 = y0 := by rw [← hx0, ← hy0, g0]
   obtain rfl : x1 = y1 := by rw [← hx1, ← hy1, g1]
   obtain rfl : x3 = y3 := by rw [← hx3, ← hy3, g3]
   rw [show decide (x.rcs = y.rcs) = true from dtr g2] at EQ
   have hk : ¬ x4 = y4 := by rw [← hx4, ← hy4]; exact h
   clear hxy h g0 g1 g2 g3 hx0 hy0 hx1 hy1 hx3 hy3 hx4 hy4 hx5 hy5 hx6 hy6 hx7 hy7 hx8 hy8
   have hAX := (At.ofAlloc w #[.int .i64 x0, .int .i64 x1, .slice ax nx cx, .string ⟨x3.toArray⟩, .string ⟨x4.toArray⟩, .string ⟨x5.toArray⟩, .string ⟨x6.toArray⟩, .string ⟨x7.toArray⟩, .string ⟨x8.toArray⟩] 27).alloc (Obj.cells #[.int .i64 x0, .int .i64 x1, .slice ay ny cy, .string ⟨x3.toArray⟩, .string ⟨y4.toArray⟩, .string ⟨y5.toArray⟩, .string ⟨y6.toArray⟩, .string ⟨y7.toArray⟩, .string ⟨y8.toArray⟩] 27)
   have hAY := At.ofAlloc (w.alloc (Obj.cells #[.int .i64 x0, .int .i64 x1, .slice ax nx cx, .string ⟨x3.toArray⟩, .string ⟨x4.toArray⟩, .string ⟨x5.toArray⟩, .string ⟨x6.toArray⟩, .string ⟨x7.toArray⟩, .string ⟨x8.toArray⟩] 27)) #[.int .i64 x0, .int .i64 x1, .slice ay ny cy, .string ⟨x3.toArray⟩, .string ⟨y4.toArray⟩, .string ⟨y5.toArray⟩, .string ⟨y6.toArray⟩, .string ⟨y7.toArray⟩, .string ⟨y8.toArray⟩] 27
   rw [World.size_alloc] at hAY
   have HAX := hid hAX
   have HAY := hid hAY
   clear hAX hAY
   go_enter Tryz.func47, Tryz.ntmps47
   go_wp2_with fail
   refine EQ.out.mono ?_
   rintro e w1 ⟨rfl, hb1⟩
   have HB1 : Hid (Below w.heap.size w w1) := HB0.out.trans (hb1.mono HB0.out.size)
   have hX1 := HAX.out.below hb1 (by simp; omega)
   have hY1 := HAY.out.below hb1 (by simp)
   have cx3 := hX1.z 3 _ rfl
   have cy3 := hY1.z 3 _ rfl
   have cx4 := hX1.z 4 _ rfl
   have cy4 := hY1.z 4 _ rfl
   have cx5 := hX1.z 5 _ rfl
   have cy5 := hY1.z 5 _ rfl
   have cx6 := hX1.z 6 _ rfl
   have cy6 := hY1.z 6 _ rfl
   have cx7 := hX1.z 7 _ rfl
   have cy7 := hY1.z 7 _ rfl
   have cx8 := hX1.z 8 _ rfl
   have cy8 := hY1.z 8 _ rfl
   clear hX1 hY1 hb1
   go_wp2_with fail
   go_ret
   exact ⟨by rw [HF.out]; rfl, HB1.out⟩
  ·obtain rfl : x0 = y0 := by rw [← hx0, ← hy0, g0]
   obtain rfl : x1 = y1 := by rw [← hx1, ← hy1, g1]
   obtain rfl : x3 = y3 := by rw [← hx3, ← hy3, g3]
   obtain rfl : x4 = y4 := by rw [← hx4, ← hy4, g4]
   rw [show decide (x.rcs = y.rcs) = true from dtr g2] at EQ
   have hk : ¬ x5 = y5 := by rw [← hx5, ← hy5]; exact h
   clear hxy h g0 g1 g2 g3 g4 hx0 hy0 hx1 hy1 hx3 hy3 hx4 hy4 hx5 hy5 hx6 hy6 hx7 hy7 hx8 hy8
   have hAX := (At.ofAlloc w #[.int .i64 x0, .int .i64 x1, .slice ax nx cx, .string ⟨x3.toArray⟩, .string ⟨x4.toArray⟩, .string ⟨x5.toArray⟩, .string ⟨x6.toArray⟩, .string ⟨x7.toArray⟩, .string ⟨x8.toArray⟩] 27).alloc (Obj.cells #[.int .i64 x0, .int .i64 x1, .slice ay ny cy, .string ⟨x3.toArray⟩, .string ⟨x4.toArray⟩, .string ⟨y5.toArray⟩, .string ⟨y6.toArray⟩, .string ⟨y7.toArray⟩, .string ⟨y8.toArray⟩] 27)
   have hAY := At.ofAlloc (w.alloc (Obj.cells #[.int .i64 x0, .int .i64 x1, .slice ax nx cx, .string ⟨x3.toArray⟩, .string ⟨x4.toArray⟩, .string ⟨x5.toArray⟩, .string ⟨x6.toArray⟩, .string ⟨x7.toArray⟩, .string ⟨x8.toArray⟩] 27)) #[.int .i64 x0, .int .i64 x1, .slice ay ny cy, .string ⟨x3.toArray⟩, .string ⟨x4.toArray⟩, .string ⟨y5.toArray⟩, .string ⟨y6.toArray⟩, .string ⟨y7.toArray⟩, .string ⟨y8.toArray⟩] 27
   rw [World.size_alloc] at hAY
   have HAX := hid hAX
   have HAY := hid hAY
   clear hAX hAY
   go_enter Tryz.func47, Tryz.ntmps47
   go_wp2_with fail
   refine EQ.out.mono ?_
   rintro e w1 ⟨rfl, hb1⟩
   have HB1 : Hid (Below w.heap.size w w1) := HB0.out.trans (hb1.mono HB0.out.size)
   have hX1 := HAX.out.below hb1 (by simp; omega)
   have hY1 := HAY.out.below hb1 (by simp)
   have cx3 := hX1.z 3 _ rfl
   have cy3 := hY1.z 3 _ rfl
   have cx4 := hX1.z 4 _ rfl
   have cy4 := hY1.z 4 _ rfl
   have cx5 := hX1.z 5 _ rfl
   have cy5 := hY1.z 5 _ rfl
   have cx6 := hX1.z 6 _ rfl
   have cy6 := hY1.z 6 _ rfl
   have cx7 := hX1.z 7 _ rfl
   have cy7 := hY1.z 7 _ rfl
   have cx8 := hX1.z 8 _ rfl
   have cy8 := hY1.z 8 _ rfl
   clear hX1 hY1 hb1
   go_wp2_with fail
   go_ret
   exact ⟨by rw [HF.out]; rfl, HB1.out⟩
  ·obtain rfl : x0 = y0 := by rw [← hx0, ← hy0, g0]
   obtain rfl : x1 = y1 := by rw [← hx1, ← hy1, g1]
   obtain rfl : x3 = y3 := by rw [← hx3, ← hy3, g3]
   obtain rfl : x4 = y4 := by rw [← hx4, ← hy4, g4]
   obtain rfl : x5 = y5 := by rw [← hx5, ← hy5, g5]
   rw [show decide (x.rcs = y.rcs) = true from dtr g2] at EQ
   have hk : ¬ x6 = y6 := by rw [← hx6, ← hy6]; exact h
   clear hxy h g0 g1 g2 g3 g4 g5 hx0 hy0 hx1 hy1 hx3 hy3 hx4 hy4 hx5 hy5 hx6 hy6 hx7 hy7 hx8 hy8
   have hAX := (At.ofAlloc w #[.int .i64 x0, .int .i64 x1, .slice ax nx cx, .string ⟨x3.toArray⟩, .string ⟨x4.toArray⟩, .string ⟨x5.toArray⟩, .string ⟨x6.toArray⟩, .string ⟨x7.toArray⟩, .string ⟨x8.toArray⟩] 27).alloc (Obj.cells #[.int .i64 x0, .int .i64 x1, .slice ay ny cy, .string ⟨x3.toArray⟩, .string ⟨x4.toArray⟩, .string ⟨x5.toArray⟩, .string ⟨y6.toArray⟩, .string ⟨y7.toArray⟩, .string ⟨y8.toArray⟩] 27)
   have hAY := At.ofAlloc (w.alloc (Obj.cells #[.int .i64 x0, .int .i64 x1, .slice ax nx cx, .string ⟨x3.toArray⟩, .string ⟨x4.toArray⟩, .string ⟨x5.toArray⟩, .string ⟨x6.toArray⟩, .string ⟨x7.toArray⟩, .string ⟨x8.toArray⟩] 27)) #[.int .i64 x0, .int .i64 x1, .slice ay ny cy, .string ⟨x3.toArray⟩, .string ⟨x4.toArray⟩, .string ⟨x5.toArray⟩, .string ⟨y6.toArray⟩, .string ⟨y7.toArray⟩, .string ⟨y8.toArray⟩] 27
   rw [World.size_alloc] at hAY
   have HAX := hid hAX
   have HAY := hid hAY
   clear hAX hAY
   go_enter Tryz.func47, Tryz.ntmps47
   go_wp2_with fail
   refine EQ.out.mono ?_
   rintro e w1 ⟨rfl, hb1⟩
   have HB1 : Hid (Below w.heap.size w w1) := HB0.out.trans (hb1.mono HB0.out.size)
   have hX1 := HAX.out.below hb1 (by simp; omega)
   have hY1 := HAY.out.below hb1 (by simp)
   have cx3 := hX1.z 3 _ rfl
   have cy3 := hY1.z 3 _ rfl
   have cx4 := hX1.z 4 _ rfl
   have cy4 := hY1.z 4 _ rfl
   have cx5 := hX1.z 5 _ rfl
   have cy5 := hY1.z 5 _ rfl
   have cx6 := hX1.z 6 _ rfl
   have cy6 := hY1.z 6 _ rfl
   have cx7 := hX1.z 7 _ rfl
   have cy7 := hY1.z 7 _ rfl
   have cx8 := hX1.z 8 _ rfl
   have cy8 := hY1.z 8 _ rfl
   clear hX1 hY1 hb1
   go_wp2_with fail
   go_ret
   exact ⟨by rw [HF.out]; rfl, HB1.out⟩
  ·obtain rfl : x0 = y0 := by rw [← hx0, ← hy0, g0]
   obtain rfl : x1 = y1 := by rw [← hx1, ← hy1, g1]
   obtain rfl : x3 = y3 := by rw [← hx3, ← hy3, g3]
   obtain rfl : x4 = y4 := by rw [← hx4, ← hy4, g4]
   obtain rfl : x5 = y5 := by rw [← hx5, ← hy5, g5]
   obtain rfl : x6 = y6 := by rw [← hx6, ← hy6, g6]
   rw [show decide (x.rcs = y.rcs) = true from dtr g2] at EQ
   have hk : ¬ x7 = y7 := by rw [← hx7, ← hy7]; exact h
   clear hxy h g0 g1 g2 g3 g4 g5 g6 hx0 hy0 hx1 hy1 hx3 hy3 hx4 hy4 hx5 hy5 hx6 hy6 hx7 hy7 hx8 hy8
   have hAX := (At.ofAlloc w #[.int .i64 x0, .int .i64 x1, .slice ax nx cx, .string ⟨x3.toArray⟩, .string ⟨x4.toArray⟩, .string ⟨x5.toArray⟩, .string ⟨x6.toArray⟩, .string ⟨x7.toArray⟩, .string ⟨x8.toArray⟩] 27).alloc (Obj.cells #[.int .i64 x0, .int .i64 x1, .slice ay ny cy, .string ⟨x3.toArray⟩, .string ⟨x4.toArray⟩, .string ⟨x5.toArray⟩, .string ⟨x6.toArray⟩, .string ⟨y7.toArray⟩, .string ⟨y8.toArray⟩] 27)
   have hAY := At.ofAlloc (w.alloc (Obj.cells #[.int .i64 x0, .int .i64 x1, .slice ax nx cx, .string ⟨x3.toArray⟩, .string ⟨x4.toArray⟩, .string ⟨x5.toArray⟩, .string ⟨x6.toArray⟩, .string ⟨x7.toArray⟩, .string ⟨x8.toArray⟩] 27)) #[.int .i64 x0, .int .i64 x1, .slice ay ny cy, .string ⟨x3.toArray⟩, .string ⟨x4.toArray⟩, .string ⟨x5.toArray⟩, .string ⟨x6.toArray⟩, .string ⟨y7.toArray⟩, .string ⟨y8.toArray⟩] 27
   rw [World.size_alloc] at hAY
   have HAX := hid hAX
   have HAY := hid hAY
   clear hAX hAY
   go_enter Tryz.func47, Tryz.ntmps47
   go_wp2_with fail
   refine EQ.out.mono ?_
   rintro e w1 ⟨rfl, hb1⟩
   have HB1 : Hid (Below w.heap.size w w1) := HB0.out.trans (hb1.mono HB0.out.size)
   have hX1 := HAX.out.below hb1 (by simp; omega)
   have hY1 := HAY.out.below hb1 (by simp)
   have cx3 := hX1.z 3 _ rfl
   have cy3 := hY1.z 3 _ rfl
   have cx4 := hX1.z 4 _ rfl
   have cy4 := hY1.z 4 _ rfl
   have cx5 := hX1.z 5 _ rfl
   have cy5 := hY1.z 5 _ rfl
   have cx6 := hX1.z 6 _ rfl
   have cy6 := hY1.z 6 _ rfl
   have cx7 := hX1.z 7 _ rfl
   have cy7 := hY1.z 7 _ rfl
   have cx8 := hX1.z 8 _ rfl
   have cy8 := hY1.z 8 _ rfl
   clear hX1 hY1 hb1
   go_wp2_with fail
   go_ret
   exact ⟨by rw [HF.out]; rfl, HB1.out⟩
  ·obtain rfl : x0 = y0 := by rw [← hx0, ← hy0, g0]
   obtain rfl : x1 = y1 := by rw [← hx1, ← hy1, g1]
   obtain rfl : x3 = y3 := by rw [← hx3, ← hy3, g3]
   obtain rfl : x4 = y4 := by rw [← hx4, ← hy4, g4]
   obtain rfl : x5 = y5 := by rw [← hx5, ← hy5, g5]
   obtain rfl : x6 = y6 := by rw [← hx6, ← hy6, g6]
   obtain rfl : x7 = y7 := by rw [← hx7, ← hy7, g7]
   rw [show decide (x.rcs = y.rcs) = true from dtr g2] at EQ
   have hk : ¬ x8 = y8 := by rw [← hx8, ← hy8]; exact h
   have hkb : (x8 == y8) = false := by rw [beq_eq_false_iff_ne]; exact hk
   clear hxy h g0 g1 g2 g3 g4 g5 g6 g7 hx0 hy0 hx1 hy1 hx3 hy3 hx4 hy4 hx5 hy5 hx6 hy6 hx7 hy7 hx8 hy8
   have hAX := (At.ofAlloc w #[.int .i64 x0, .int .i64 x1, .slice ax nx cx, .string ⟨x3.toArray⟩, .string ⟨x4.toArray⟩, .string ⟨x5.toArray⟩, .string ⟨x6.toArray⟩, .string ⟨x7.toArray⟩, .string ⟨x8.toArray⟩] 27).alloc (Obj.cells #[.int .i64 x0, .int .i64 x1, .slice ay ny cy, .string ⟨x3.toArray⟩, .string ⟨x4.toArray⟩, .string ⟨x5.toArray⟩, .string ⟨x6.toArray⟩, .string ⟨x7.toArray⟩, .string ⟨y8.toArray⟩] 27)
   have hAY := At.ofAlloc (w.alloc (Obj.cells #[.int .i64 x0, .int .i64 x1, .slice ax nx cx, .string ⟨x3.toArray⟩, .string ⟨x4.toArray⟩, .string ⟨x5.toArray⟩, .string ⟨x6.toArray⟩, .string ⟨x7.toArray⟩, .string ⟨x8.toArray⟩] 27)) #[.int .i64 x0, .int .i64 x1, .slice ay ny cy, .string ⟨x3.toArray⟩, .string ⟨x4.toArray⟩, .string ⟨x5.toArray⟩, .string ⟨x6.toArray⟩, .string ⟨x7.toArray⟩, .string ⟨y8.toArray⟩] 27
   rw [World.size_alloc] at hAY
   have HAX := hid hAX
   have HAY := hid hAY
   clear hAX hAY
   go_enter Tryz.func47, Tryz.ntmps47
   go_wp2_with fail
   refine EQ.out.mono ?_
   rintro e w1 ⟨rfl, hb1⟩
   have HB1 : Hid (Below w.heap.size w w1) := HB0.out.trans (hb1.mono HB0.out.size)
   have hX1 := HAX.out.below hb1 (by simp; omega)
   have hY1 := HAY.out.below hb1 (by simp)
   have cx3 := hX1.z 3 _ rfl
   have cy3 := hY1.z 3 _ rfl
   have cx4 := hX1.z 4 _ rfl
   have cy4 := hY1.z 4 _ rfl
   have cx5 := hX1.z 5 _ rfl
   have cy5 := hY1.z 5 _ rfl
   have cx6 := hX1.z 6 _ rfl
   have cy6 := hY1.z 6 _ rfl
   have cx7 := hX1.z 7 _ rfl
   have cy7 := hY1.z 7 _ rfl
   have cx8 := hX1.z 8 _ rfl
   have cy8 := hY1.z 8 _ rfl
   clear hX1 hY1 hb1
   go_wp2_with fail
   go_ret
   exact ⟨by rw [HF.out]; rfl, HB1.out⟩
theorem esame_any (x y : Ev) (vx vy : Value) (w : World) (hx : Ty w vx x.rcs) (hy : Ty w vy y.rcs) (hl : x.rcs.length ≤ 140737488351232) (hm : y.rcs.length ≤ 140737488351232) :
  Calls Tryz.prog 8 #[evv x vx, evv y vy] w (fun e w' => e = .returned (.bool (decide (x = y))) ∧ Below w.heap.size w w') := by
 obtain ⟨R, hR⟩ : ∃ R, decide (x = y) = R := ⟨_, rfl⟩
 rw [hR]
 have HR := hid hR
 obtain ⟨ax, cx, rfl, hax⟩ := hx
 obtain ⟨ay, cy, rfl, hay⟩ := hy
 have HX := hid hax
 have HY := hid hay
 obtain ⟨n, hn⟩ : ∃ n, x.rcs.length = n := ⟨_, rfl⟩
 obtain ⟨k, hk⟩ : ∃ n, y.rcs.length = n := ⟨_, rfl⟩
 have HN := hid (aIn hn hk)
 have HNN : Hid (n ≤ 140737488351232) := by show n ≤ _; omega
 rw [hn, hk]
 unfold evv bs
 clear hR hl hm hax hay
 obtain ⟨x0, hx0⟩ : ∃ t, x.format = t := ⟨_, rfl⟩
 obtain ⟨y0, hy0⟩ : ∃ t, y.format = t := ⟨_, rfl⟩
 obtain ⟨x1, hx1⟩ : ∃ t, x.alg = t := ⟨_, rfl⟩
 obtain ⟨y1, hy1⟩ : ∃ t, y.alg = t := ⟨_, rfl⟩
 obtain ⟨x3, hx3⟩ : ∃ t, x.header = t := ⟨_, rfl⟩
 obtain ⟨y3, hy3⟩ : ∃ t, y.header = t := ⟨_, rfl⟩
 obtain ⟨x4, hx4⟩ : ∃ t, x.loose = t := ⟨_, rfl⟩
 obtain ⟨y4, hy4⟩ : ∃ t, y.loose = t := ⟨_, rfl⟩
 obtain ⟨x5, hx5⟩ : ∃ t, x.aad = t := ⟨_, rfl⟩
 obtain ⟨y5, hy5⟩ : ∃ t, y.aad = t := ⟨_, rfl⟩
 obtain ⟨x6, hx6⟩ : ∃ t, x.iv = t := ⟨_, rfl⟩
 obtain ⟨y6, hy6⟩ : ∃ t, y.iv = t := ⟨_, rfl⟩
 obtain ⟨x7, hx7⟩ : ∃ t, x.cipher = t := ⟨_, rfl⟩
 obtain ⟨y7, hy7⟩ : ∃ t, y.cipher = t := ⟨_, rfl⟩
 obtain ⟨x8, hx8⟩ : ∃ t, x.tag = t := ⟨_, rfl⟩
 obtain ⟨y8, hy8⟩ : ∃ t, y.tag = t := ⟨_, rfl⟩
 rw [hx0, hy0, hx1, hy1, hx3, hy3, hx4, hy4, hx5, hy5, hx6, hy6, hx7, hy7, hx8, hy8]
 by_cases hnk : n = k
 case neg =>
  have HF : Hid (R = false) := by show R = _; rw [← HR.out]; exact dfa (fun h => hnk (by rw [← hn, ← hk, h]))
  have f1 : ¬ (n : Int) = (k : Int) := by omega
  have f1b : ((n : Int) != (k : Int)) = true := by simp; omega
  clear hn hk hnk hx0 hy0 hx1 hy1 hx3 hy3 hx4 hy4 hx5 hy5 hx6 hy6 hx7 hy7 hx8 hy8
  go_enter Tryz.func8, Tryz.ntmps8
  go_wp2_with fail
  go_ret
  exact ⟨by rw [HF.out]; rfl, ((Below.refl _ _).alloc (nle _) _).alloc (by simp) _⟩
 subst hnk
 clear hn hk
 have hAX := (At.ofAlloc w #[.int .i64 x0, .int .i64 x1, .slice ax n cx, .string ⟨x3.toArray⟩, .string ⟨x4.toArray⟩, .string ⟨x5.toArray⟩, .string ⟨x6.toArray⟩, .string ⟨x7.toArray⟩, .string ⟨x8.toArray⟩] 27).alloc (Obj.cells #[.int .i64 y0, .int .i64 y1, .slice ay n cy, .string ⟨y3.toArray⟩, .string ⟨y4.toArray⟩, .string ⟨y5.toArray⟩, .string ⟨y6.toArray⟩, .string ⟨y7.toArray⟩, .string ⟨y8.toArray⟩] 27)
 have hAY := At.ofAlloc (w.alloc (Obj.cells #[.int .i64 x0, .int .i64 x1, .slice ax n cx, .string ⟨x3.toArray⟩, .string ⟨x4.toArray⟩, .string ⟨x5.toArray⟩, .string ⟨x6.toArray⟩, .string ⟨x7.toArray⟩, .string ⟨x8.toArray⟩] 27)) #[.int .i64 y0, .int .i64 y1, .slice ay n cy, .string ⟨y3.toArray⟩, .string ⟨y4.toArray⟩, .string ⟨y5.toArray⟩, .string ⟨y6.toArray⟩, .string ⟨y7.toArray⟩, .string ⟨y8.toArray⟩] 27
 rw [World.size_alloc] at hAY
 have hb0 : Below w.heap.size w ((w.alloc (Obj.cells #[.int .i64 x0, .int .i64 x1, .slice ax n cx, .string ⟨x3.toArray⟩, .string ⟨x4.toArray⟩, .string ⟨x5.toArray⟩, .string ⟨x6.toArray⟩, .string ⟨x7.toArray⟩, .string ⟨x8.toArray⟩] 27)).alloc (Obj.cells #[.int .i64 y0, .int .i64 y1, .slice ay n cy, .string ⟨y3.toArray⟩, .string ⟨y4.toArray⟩, .string ⟨y5.toArray⟩, .string ⟨y6.toArray⟩, .string ⟨y7.toArray⟩, .string ⟨y8.toArray⟩] 27)) := ((Below.refl _ _).alloc (nle _) _).alloc (by simp) _
 have hs0 : ((w.alloc (Obj.cells #[.int .i64 x0, .int .i64 x1, .slice ax n cx, .string ⟨x3.toArray⟩, .string ⟨x4.toArray⟩, .string ⟨x5.toArray⟩, .string ⟨x6.toArray⟩, .string ⟨x7.toArray⟩, .string ⟨x8.toArray⟩] 27)).alloc (Obj.cells #[.int .i64 y0, .int .i64 y1, .slice ay n cy, .string ⟨y3.toArray⟩, .string ⟨y4.toArray⟩, .string ⟨y5.toArray⟩, .string ⟨y6.toArray⟩, .string ⟨y7.toArray⟩, .string ⟨y8.toArray⟩] 27)).heap.size = w.heap.size + 2 := by simp
 go_enter Tryz.func8, Tryz.ntmps8
 go_upto_region 1 with fail
 obtain ⟨w2, hw2⟩ : ∃ q, (w.alloc (Obj.cells #[.int .i64 x0, .int .i64 x1, .slice ax n cx, .string ⟨x3.toArray⟩, .string ⟨x4.toArray⟩, .string ⟨x5.toArray⟩, .string ⟨x6.toArray⟩, .string ⟨x7.toArray⟩, .string ⟨x8.toArray⟩] 27)).alloc (Obj.cells #[.int .i64 y0, .int .i64 y1, .slice ay n cy, .string ⟨y3.toArray⟩, .string ⟨y4.toArray⟩, .string ⟨y5.toArray⟩, .string ⟨y6.toArray⟩, .string ⟨y7.toArray⟩, .string ⟨y8.toArray⟩] 27) = q := ⟨_, rfl⟩
 rw [hw2] at hAX hAY hb0 hs0
 try rw [hw2]
 clear hw2
 have HAX := hid hAX
 have HAY := hid hAY
 have HB0 := hid hb0
 have HS0 := hid hs0
 have cx2 := hAX.z 2 _ rfl
 have cy2 := hAY.z 2 _ rfl
 clear hAX hAY hb0 hs0
 go_wp2_with fail
 go_loopw [5] (fun vi wr => ∃ i : Nat, vi = .int .i64 (i : Int) ∧ i ≤ n ∧ Hid (x.rcs.take i = y.rcs.take i) ∧ Hid (Below w2.heap.size w2 wr)) (fun vi _ => n - (intOf vi).toNat)
 case atStart => exact ⟨0, rfl, Nat.zero_le _, rfl, Below.refl _ _⟩
 case round =>
  obtain ⟨i, rfl, hi, HT, HB⟩ := hrel
  have hX1 := HAX.out.below HB.out (by have := HS0.out; omega)
  have hY1 := HAY.out.below HB.out (by have := HS0.out; omega)
  have hBB : Hid (Below w.heap.size w wr) := HB0.out.trans (HB.out.mono (by have := HS0.out; omega))
  clear cx2 cy2
  have cx2 := hX1.z 2 _ rfl
  have cy2 := hY1.z 2 _ rfl
  by_cases hin : i < n
  case pos =>
   obtain ⟨ga, oa, rfl, hAt, hga⟩ := HX.out (fun h => by have := HN.out.1; rw [h] at this; simp at this; omega)
   obtain ⟨gb, ob, rfl, hBt, hgb⟩ := HY.out (fun h => by have := HN.out.2; rw [h] at this; simp at this; omega)
   obtain ⟨r, hr⟩ : ∃ r, x.rcs[i]? = some r := ⟨_, List.getElem?_eq_getElem (by rw [HN.out.1]; exact hin)⟩
   obtain ⟨q, hq⟩ : ∃ r, y.rcs[i]? = some r := ⟨_, List.getElem?_eq_getElem (by rw [HN.out.2]; exact hin)⟩
   have hx := (rp_at hAt i r hr).below hBB.out hga
   have hy := (rp_at hBt i q hq).below hBB.out hgb
   rw [rpv] at hx hy
   unfold bs at hx hy
   have e1 : (i : Int) < (n : Int) := by omega
   have e2 : IntKind.i64.wrap ((i : Int) + 1) = (i : Int) + 1 := by have := HNN.out; have := Co.wrap_fit (i + 1) (by unfold maxLen; omega); push_cast at this; exact this
   have e3 : (i : Int) ≤ 140737488351232 := by have := HNN.out; omega
   have HII : Hid (i + 1 ≤ n) := by show i + 1 ≤ n; omega
   obtain ⟨r0, hr0⟩ : ∃ t, r.way = t := ⟨_, rfl⟩
   obtain ⟨s0, hs0⟩ : ∃ t, q.way = t := ⟨_, rfl⟩
   obtain ⟨r1, hr1⟩ : ∃ t, r.size = t := ⟨_, rfl⟩
   obtain ⟨s1, hs1⟩ : ∃ t, q.size = t := ⟨_, rfl⟩
   obtain ⟨r2, hr2⟩ : ∃ t, r.kind = t := ⟨_, rfl⟩
   obtain ⟨s2, hs2⟩ : ∃ t, q.kind = t := ⟨_, rfl⟩
   obtain ⟨r3, hr3⟩ : ∃ t, r.name = t := ⟨_, rfl⟩
   obtain ⟨s3, hs3⟩ : ∃ t, q.name = t := ⟨_, rfl⟩
   obtain ⟨r4, hr4⟩ : ∃ t, r.key = t := ⟨_, rfl⟩
   obtain ⟨s4, hs4⟩ : ∃ t, q.key = t := ⟨_, rfl⟩
   obtain ⟨r5, hr5⟩ : ∃ t, r.salt = t := ⟨_, rfl⟩
   obtain ⟨s5, hs5⟩ : ∃ t, q.salt = t := ⟨_, rfl⟩
   obtain ⟨r6, hr6⟩ : ∃ t, r.rounds = t := ⟨_, rfl⟩
   obtain ⟨s6, hs6⟩ : ∃ t, q.rounds = t := ⟨_, rfl⟩
   obtain ⟨r7, hr7⟩ : ∃ t, r.iv = t := ⟨_, rfl⟩
   obtain ⟨s7, hs7⟩ : ∃ t, q.iv = t := ⟨_, rfl⟩
   obtain ⟨r8, hr8⟩ : ∃ t, r.loose = t := ⟨_, rfl⟩
   obtain ⟨s8, hs8⟩ : ∃ t, q.loose = t := ⟨_, rfl⟩
   rw [hr0, hr1, hr2, hr3, hr4, hr5, hr6, hr7, hr8] at hx
   rw [hs0, hs1, hs2, hs3, hs4, hs5, hs6, hs7, hs8] at hy
   have c0 := hx.cell 0 _ rfl
   have d0 := hy.cell 0 _ rfl
   have c1 := hx.cell 1 _ rfl
   have d1 := hy.cell 1 _ rfl
   have c2 := hx.cell 2 _ rfl
   have d2 := hy.cell 2 _ rfl
   have c3 := hx.cell 3 _ rfl
   have d3 := hy.cell 3 _ rfl
   have c4 := hx.cell 4 _ rfl
   have d4 := hy.cell 4 _ rfl
   have c5 := hx.cell 5 _ rfl
   have d5 := hy.cell 5 _ rfl
   have c6 := hx.cell 6 _ rfl
   have d6 := hy.cell 6 _ rfl
   have c7 := hx.cell 7 _ rfl
   have d7 := hy.cell 7 _ rfl
   have c8 := hx.cell 8 _ rfl
   have d8 := hy.cell 8 _ rfl
   rw [Nat.add_zero] at c0 d0
   by_cases hrq : r = q
   ·have HTT := hid (rp_take hr hq HT.out hrq)
    obtain rfl : r0 = s0 := by rw [← hr0, ← hs0, hrq]
    obtain rfl : r1 = s1 := by rw [← hr1, ← hs1, hrq]
    obtain rfl : r2 = s2 := by rw [← hr2, ← hs2, hrq]
    obtain rfl : r3 = s3 := by rw [← hr3, ← hs3, hrq]
    obtain rfl : r4 = s4 := by rw [← hr4, ← hs4, hrq]
    obtain rfl : r5 = s5 := by rw [← hr5, ← hs5, hrq]
    obtain rfl : r6 = s6 := by rw [← hr6, ← hs6, hrq]
    obtain rfl : r7 = s7 := by rw [← hr7, ← hs7, hrq]
    obtain rfl : r8 = s8 := by rw [← hr8, ← hs8, hrq]
    clear hx hy hr hq hrq hAt hBt hga hgb hin hi hX1 hY1 hr0 hs0 hr1 hs1 hr2 hs2 hr3 hs3 hr4 hs4 hr5 hs5 hr6 hs6 hr7 hs7 hr8 hs8
    go_wp2_with fail
    go_region
    go_wp2_with fail
    go_roundw
    case rel => exact ⟨i + 1, by go_num, HII.out, HTT, bdN HB.out _⟩
    case measure => have := HII.out; simp [intOf]; omega
   ·have HF : Hid (R = false) := by
     show R = _
     rw [← HR.out]
     refine dfa (fun h => hrq ?_)
     rw [h, hq] at hr
     exact (Option.some.inj hr).symm
    have hne := rp_ne hrq
    rw [hr0, hs0, hr1, hs1, hr2, hs2, hr3, hs3, hr4, hs4, hr5, hs5, hr6, hs6, hr7, hs7, hr8, hs8] at hne
    clear hx hy hr hq hrq hAt hBt hga hgb hin hi hX1 hY1 hr0 hs0 hr1 hs1 hr2 hs2 hr3 hs3 hr4 hs4 hr5 hs5 hr6 hs6 hr7 hs7 hr8 hs8
    rcases hne with h | ⟨rfl, h⟩ | ⟨rfl, rfl, h⟩ | ⟨rfl, rfl, rfl, h⟩ | ⟨rfl, rfl, rfl, rfl, h⟩ | ⟨rfl, rfl, rfl, rfl, rfl, h⟩ | ⟨rfl, rfl, rfl, rfl, rfl, rfl, h⟩ | ⟨rfl, rfl, rfl, rfl, rfl, rfl, rfl, h⟩ | ⟨rfl, rfl, rfl, rfl, rfl, rfl, rfl, rfl, h⟩
    ·have hb : (r0 == s0) = false := by rw [beq_eq_false_iff_ne]; exact h
     go_wp2_with fail
     go_region
     go_wp2_with fail
     go_ret
     exact ⟨by rw [HF.out]; rfl, bdN hBB.out _⟩
    ·have hb : (r1 == s1) = false := by rw [beq_eq_false_iff_ne]; exact h
     go_wp2_with fail
     go_region
     go_wp2_with fail
     go_ret
     exact ⟨by rw [HF.out]; rfl, bdN hBB.out _⟩
    ·have hb : (r2 == s2) = false := by rw [beq_eq_false_iff_ne]; exact h
     go_wp2_with fail
     go_region
     go_wp2_with fail
     go_ret
     exact ⟨by rw [HF.out]; rfl, bdN hBB.out _⟩
    ·skip
     go_wp2_with fail
     go_region
     go_wp2_with fail
     go_ret
     exact ⟨by rw [HF.out]; rfl, bdN hBB.out _⟩
    ·skip
     go_wp2_with fail
     go_region
     go_wp2_with fail
     go_ret
     exact ⟨by rw [HF.out]; rfl, bdN hBB.out _⟩
    ·skip
     go_wp2_with fail
     go_region
     go_wp2_with fail
     go_ret
     exact ⟨by rw [HF.out]; rfl, bdN hBB.out _⟩
    ·have hb : (r6 == s6) = false := by rw [beq_eq_false_iff_ne]; exact h
     go_wp2_with fail
     go_region
     go_wp2_with fail
     go_ret
     exact ⟨by rw [HF.out]; rfl, bdN hBB.out _⟩
    ·skip
     go_wp2_with fail
     go_region
     go_wp2_with fail
     go_ret
     exact ⟨by rw [HF.out]; rfl, bdN hBB.out _⟩
    ·skip
     go_wp2_with fail
     go_region
     go_wp2_with fail
     go_ret
     exact ⟨by rw [HF.out]; rfl, bdN hBB.out _⟩
  case neg =>
   obtain rfl : i = n := by omega
   have e1 : ¬ (i : Int) < (i : Int) := by omega
   have hrc : x.rcs = y.rcs := by
    have h := HT.out
    rw [List.take_of_length_le (by rw [HN.out.1]; exact nle _), List.take_of_length_le (by rw [HN.out.2]; exact nle _)] at h
    exact h
   have HRC := hid hrc
   clear hi hin hrc cx2 cy2
   obtain ⟨cx0, cx1, cx2, cx3, cx4, cx5, cx6, cx7, cx8⟩ := hX1.c9
   obtain ⟨cy0, cy1, cy2, cy3, cy4, cy5, cy6, cy7, cy8⟩ := hY1.c9
   clear hX1 hY1
   by_cases hxy : x = y
   ·have HF : Hid (R = true) := by show R = _; rw [← HR.out]; exact dtr hxy
    obtain rfl : x0 = y0 := by rw [← hx0, ← hy0, hxy]
    obtain rfl : x1 = y1 := by rw [← hx1, ← hy1, hxy]
    obtain rfl : x3 = y3 := by rw [← hx3, ← hy3, hxy]
    obtain rfl : x4 = y4 := by rw [← hx4, ← hy4, hxy]
    obtain rfl : x5 = y5 := by rw [← hx5, ← hy5, hxy]
    obtain rfl : x6 = y6 := by rw [← hx6, ← hy6, hxy]
    obtain rfl : x7 = y7 := by rw [← hx7, ← hy7, hxy]
    obtain rfl : x8 = y8 := by rw [← hx8, ← hy8, hxy]
    clear hxy hx0 hy0 hx1 hy1 hx3 hy3 hx4 hy4 hx5 hy5 hx6 hy6 hx7 hy7 hx8 hy8
    go_wp2_with fail
    go_ret
    exact ⟨by rw [HF.out]; rfl, hBB.out⟩
   ·have HF : Hid (R = false) := by show R = _; rw [← HR.out]; exact dfa hxy
    rcases ev_ne hxy with h | ⟨g0, h⟩ | ⟨g0, g1, h⟩ | ⟨g0, g1, g2, h⟩ | ⟨g0, g1, g2, g3, h⟩ | ⟨g0, g1, g2, g3, g4, h⟩ | ⟨g0, g1, g2, g3, g4, g5, h⟩ | ⟨g0, g1, g2, g3, g4, g5, g6, h⟩ | ⟨g0, g1, g2, g3, g4, g5, g6, g7, h⟩
    ·have hk : ¬ x0 = y0 := by rw [← hx0, ← hy0]; exact h
     have hkb : (x0 == y0) = false := by rw [beq_eq_false_iff_ne]; exact hk
     clear hxy h  hx0 hy0 hx1 hy1 hx3 hy3 hx4 hy4 hx5 hy5 hx6 hy6 hx7 hy7 hx8 hy8
     go_wp2_with fail
     go_ret
     exact ⟨by rw [HF.out]; rfl, hBB.out⟩
    ·obtain rfl : x0 = y0 := by rw [← hx0, ← hy0, g0]
     have hk : ¬ x1 = y1 := by rw [← hx1, ← hy1]; exact h
     have hkb : (x1 == y1) = false := by rw [beq_eq_false_iff_ne]; exact hk
     clear hxy h g0 hx0 hy0 hx1 hy1 hx3 hy3 hx4 hy4 hx5 hy5 hx6 hy6 hx7 hy7 hx8 hy8
     go_wp2_with fail
     go_ret
     exact ⟨by rw [HF.out]; rfl, hBB.out⟩
    ·exact absurd HRC.out h
    ·obtain rfl : x0 = y0 := by rw [← hx0, ← hy0, g0]
     obtain rfl : x1 = y1 := by rw [← hx1, ← hy1, g1]
     have hk : ¬ x3 = y3 := by rw [← hx3, ← hy3]; exact h
     clear hxy h g0 g1 g2 hx0 hy0 hx1 hy1 hx3 hy3 hx4 hy4 hx5 hy5 hx6 hy6 hx7 hy7 hx8 hy8
     go_wp2_with fail
     go_ret
     exact ⟨by rw [HF.out]; rfl, hBB.out⟩
    ·obtain rfl : x0 = y0 := by rw [← hx0, ← hy0, g0]
     obtain rfl : x1 = y1 := by rw [← hx1, ← hy1, g1]
     obtain rfl : x3 = y3 := by rw [← hx3, ← hy3, g3]
     have hk : ¬ x4 = y4 := by rw [← hx4, ← hy4]; exact h
     clear hxy h g0 g1 g2 g3 hx0 hy0 hx1 hy1 hx3 hy3 hx4 hy4 hx5 hy5 hx6 hy6 hx7 hy7 hx8 hy8
     go_wp2_with fail
     go_ret
     exact ⟨by rw [HF.out]; rfl, hBB.out⟩
    ·obtain rfl : x0 = y0 := by rw [← hx0, ← hy0, g0]
     obtain rfl : x1 = y1 := by rw [← hx1, ← hy1, g1]
     obtain rfl : x3 = y3 := by rw [← hx3, ← hy3, g3]
     obtain rfl : x4 = y4 := by rw [← hx4, ← hy4, g4]
     have hk : ¬ x5 = y5 := by rw [← hx5, ← hy5]; exact h
     clear hxy h g0 g1 g2 g3 g4 hx0 hy0 hx1 hy1 hx3 hy3 hx4 hy4 hx5 hy5 hx6 hy6 hx7 hy7 hx8 hy8
     go_wp2_with fail
     go_ret
     exact ⟨by rw [HF.out]; rfl, hBB.out⟩
    ·obtain rfl : x0 = y0 := by rw [← hx0, ← hy0, g0]
     obtain rfl : x1 = y1 := by rw [← hx1, ← hy1, g1]
     obtain rfl : x3 = y3 := by rw [← hx3, ← hy3, g3]
     obtain rfl : x4 = y4 := by rw [← hx4, ← hy4, g4]
     obtain rfl : x5 = y5 := by rw [← hx5, ← hy5, g5]
     have hk : ¬ x6 = y6 := by rw [← hx6, ← hy6]; exact h
     clear hxy h g0 g1 g2 g3 g4 g5 hx0 hy0 hx1 hy1 hx3 hy3 hx4 hy4 hx5 hy5 hx6 hy6 hx7 hy7 hx8 hy8
     go_wp2_with fail
     go_ret
     exact ⟨by rw [HF.out]; rfl, hBB.out⟩
    ·obtain rfl : x0 = y0 := by rw [← hx0, ← hy0, g0]
     obtain rfl : x1 = y1 := by rw [← hx1, ← hy1, g1]
     obtain rfl : x3 = y3 := by rw [← hx3, ← hy3, g3]
     obtain rfl : x4 = y4 := by rw [← hx4, ← hy4, g4]
     obtain rfl : x5 = y5 := by rw [← hx5, ← hy5, g5]
     obtain rfl : x6 = y6 := by rw [← hx6, ← hy6, g6]
     have hk : ¬ x7 = y7 := by rw [← hx7, ← hy7]; exact h
     clear hxy h g0 g1 g2 g3 g4 g5 g6 hx0 hy0 hx1 hy1 hx3 hy3 hx4 hy4 hx5 hy5 hx6 hy6 hx7 hy7 hx8 hy8
     go_wp2_with fail
     go_ret
     exact ⟨by rw [HF.out]; rfl, hBB.out⟩
    ·obtain rfl : x0 = y0 := by rw [← hx0, ← hy0, g0]
     obtain rfl : x1 = y1 := by rw [← hx1, ← hy1, g1]
     obtain rfl : x3 = y3 := by rw [← hx3, ← hy3, g3]
     obtain rfl : x4 = y4 := by rw [← hx4, ← hy4, g4]
     obtain rfl : x5 = y5 := by rw [← hx5, ← hy5, g5]
     obtain rfl : x6 = y6 := by rw [← hx6, ← hy6, g6]
     obtain rfl : x7 = y7 := by rw [← hx7, ← hy7, g7]
     have hk : ¬ x8 = y8 := by rw [← hx8, ← hy8]; exact h
     have hkb : (x8 == y8) = false := by rw [beq_eq_false_iff_ne]; exact hk
     have HKB := hid hkb
     clear hkb
     clear hxy h g0 g1 g2 g3 g4 g5 g6 g7 hx0 hy0 hx1 hy1 hx3 hy3 hx4 hy4 hx5 hy5 hx6 hy6 hx7 hy7 hx8 hy8
     go_wp2_with fail
     go_ret
     exact ⟨by rw [HF.out, ← HKB.out]; rfl, hBB.out⟩
end Ce
end Go.Proofs.YtikgonlhdkknkaaGreatDoor
