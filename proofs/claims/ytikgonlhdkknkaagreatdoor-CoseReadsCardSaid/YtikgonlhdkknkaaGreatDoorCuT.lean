import Derived.Test.YtikgonlhdkknkaaGreatDoorCeS3
import Derived.Test.YtikgonlhdkknkaaGreatDoorCuE
set_option maxRecDepth 100000
set_option maxHeartbeats 3200000
set_option linter.unusedVariables false
set_option linter.unusedSimpArgs false
open Go.Lib (hid)
namespace Go.Proofs.YtikgonlhdkknkaaGreatDoor
open Go.RowKit
namespace Ce
open Co (Am Ra up rcells rv UT DecR enc Its holds tell okA)
def hdL (x : Ev) : List Ra := if x.format = 6 then [⟨6, 17, []⟩, ⟨4, 4, []⟩] else [⟨6, 16, []⟩, ⟨4, 3, []⟩]
def tlL (x : Ev) : List Ra := if x.format = 6 then [⟨2, 0, x.cipher⟩, ⟨2, 0, x.tag⟩] else [⟨2, 0, x.cipher ++ x.tag⟩]
def atomsOf (x : Ev) (l : List Am) : List Ra := hdL x ++ [⟨2, 0, x.header⟩] ++ l.map up ++ tlL x
theorem bs_app (a b : List UInt8) : bs a ++ bs b = bs (a ++ b) := by
 refine ByteArray.ext ?_
 rw [ByteArray.data_append]
 simp [bs]
inductive TellR (x : Ev) : List UInt8 × Int → Prop
 | no {c : Int} {p : Nat} {f : Bool} : DecR x.loose 32 4096 262144 4096 (.no c p f) → TellR x ([], 2)
 | bad {l : List Am} : DecR x.loose 32 4096 262144 4096 (.ok l) → (enc Lib.validD (atomsOf x l)).2 ≠ 0 → TellR x ([], 2)
 | all {l : List Am} {y : Int × Ev} : DecR x.loose 32 4096 262144 4096 (.ok l) → (enc Lib.validD (atomsOf x l)).2 = 0 → Rd (enc Lib.validD (atomsOf x l)).1 32 4096 262144 4096 y → TellR x (if Chk (enc Lib.validD (atomsOf x l)).1 x y = 0 then ((enc Lib.validD (atomsOf x l)).1, 0) else ([], 2))
def RetTell (x : Ev) (w : World) (e : Ending) (w' : World) : Prop := ∃ R : List UInt8 × Int, TellR x R ∧ e = .returned (.tuple #[.string (bs R.1), .int .i64 R.2]) ∧ Below w.heap.size w w'
theorem holds_noX {x : Am} (h : holds x.kind = true) : ¬ (x.kind = 2 ∨ x.kind = 3) := by
 intro h2
 rcases h2 with h2 | h2 <;> rw [h2] at h <;> cases h
theorem its_texts {d N M o} (h : Its d N M o) : (∀ a ∈ N, okA Lib.validD a) → (N.map fun a => a.text.length).sum ≤ M.flatten.length := by
 have hnil : ∀ a : Am, okA Lib.validD a → ¬ (a.kind = 2 ∨ a.kind = 3) → a.text = [] := fun a ha h2 => by
  rcases ha.2.2 with ⟨-, h⟩ | ⟨h, -⟩ | ⟨h, -⟩ | ⟨-, h, -⟩
  ·exact h
  ·exact absurd (.inl h) h2
  ·exact absurd (.inr h) h2
  ·exact h
 induction h with
 | nil => intro _; exact nle _
 | @leaf x d N M o hx h ih =>
  intro hall
  have h1 := ih (fun y hy => hall y (List.mem_cons_of_mem _ hy))
  have h2 : x.text.length ≤ (tell x).length := by
   rw [tell]
   split
   ·rw [lap]; omega
   ·rename_i h3
    rw [hnil x (hall x (List.mem_cons_self ..)) h3]
    exact Nat.zero_le _
  rw [List.map_cons, List.sum_cons, List.flatten_cons, lap]
  omega
 | @node x dK K MK oK d N M o hx hm hK h ihK ih =>
  intro hall
  have h1 := ihK (fun y hy => hall y (List.mem_cons_of_mem _ (List.mem_append_left _ hy)))
  have h2 := ih (fun y hy => hall y (List.mem_cons_of_mem _ (List.mem_append_right _ hy)))
  have h3 := hnil x (hall x (List.mem_cons_self ..)) (holds_noX hx)
  rw [List.map_cons, List.sum_cons, List.map_append, List.sum_append, List.flatten_cons, lap, lap, h3, List.length_nil]
  omega
theorem sum_mem {l : List Am} {a : Am} (h : a ∈ l) : a.text.length ≤ (l.map fun a => a.text.length).sum := by
 induction l with
 | nil => cases h
 | cons b l ih =>
  rw [List.map_cons, List.sum_cons]
  rcases List.mem_cons.1 h with rfl | h
  ·omega
  ·have := ih h; omega
theorem Apart.text {S : List UInt8} {l : List Am} {d : Nat} (h : Apart S l d) {a : Am} (ha : a ∈ l) : a.text.length ≤ 262144 := by
 obtain ⟨dd, hI, -⟩ := h.one
 have h1 := its_texts hI h.ok
 have h2 := sum_mem ha
 have h3 := h.bytes
 rw [List.flatten_cons, List.flatten_nil, List.append_nil] at h1
 omega
theorem hdL_len (x : Ev) : (hdL x).length = 2 := by unfold hdL; split <;> rfl
theorem tlL_len (x : Ev) : 1 ≤ (tlL x).length ∧ (tlL x).length ≤ 2 := by unfold tlL; split <;> simp
theorem hdL_cell (x : Ev) (ys : List Value) : (rcells (hdL x) ++ ys)[0]? = some (.int .i64 6) := by unfold hdL; split <;> rfl
theorem tlL_cell (x : Ev) : (rcells (tlL x))[0]? = some (.int .i64 2) := by unfold tlL; split <;> rfl
theorem atoms_len (x : Ev) (l : List Am) : (atomsOf x l).length = 2 + 1 + l.length + (tlL x).length := by
 rw [atomsOf, lap, lap, lap, hdL_len, List.length_map]
 rfl
theorem atoms_cells (x : Ev) (l : List Am) : rcells (atomsOf x l) = rcells (hdL x) ++ rv ⟨2, 0, x.header⟩ ++ rcells (l.map up) ++ rcells (tlL x) := by
 rw [atomsOf, Co.rcells_append, Co.rcells_append, Co.rcells_append]
 congr 3
theorem atoms_num {x : Ev} {S : List UInt8} {l : List Am} {d : Nat} (h : Apart S l d) : ∀ a ∈ atomsOf x l, a.num < 18446744073709551616 := by
 intro a ha
 rw [atomsOf, List.mem_append, List.mem_append, List.mem_append] at ha
 rcases ha with ((ha | ha) | ha) | ha
 ·unfold hdL at ha
  split at ha <;> (simp only [List.mem_cons, List.mem_nil_iff, or_false] at ha; rcases ha with rfl | rfl <;> decide)
 ·simp only [List.mem_cons, List.mem_nil_iff, or_false] at ha; subst ha; exact (by decide : (0 : Nat) < 18446744073709551616)
 ·obtain ⟨b, hb, rfl⟩ := List.mem_map.1 ha
  exact (h.ok b hb).1
 ·unfold tlL at ha
  split at ha <;> simp only [List.mem_cons, List.mem_nil_iff, or_false] at ha
  ·rcases ha with rfl | rfl <;> exact (by decide : (0 : Nat) < 18446744073709551616)
  ·subst ha; exact (by decide : (0 : Nat) < 18446744073709551616)
theorem atoms_text {x : Ev} {S : List UInt8} {l : List Am} {d : Nat} (h : Apart S l d) (hh : x.header.length ≤ 100000000000) (hc : x.cipher.length ≤ 100000000000) (ht : x.tag.length ≤ 100000000000) : ∀ a ∈ atomsOf x l, a.text.length ≤ 140737488351232 := by
 intro a ha
 rw [atomsOf, List.mem_append, List.mem_append, List.mem_append] at ha
 rcases ha with ((ha | ha) | ha) | ha
 ·unfold hdL at ha
  split at ha <;> (simp only [List.mem_cons, List.mem_nil_iff, or_false] at ha; rcases ha with rfl | rfl <;> decide)
 ·simp only [List.mem_cons, List.mem_nil_iff, or_false] at ha; subst ha; show x.header.length ≤ _; omega
 ·obtain ⟨b, hb, rfl⟩ := List.mem_map.1 ha
  have := h.text hb
  show b.text.length ≤ _; omega
 ·unfold tlL at ha
  split at ha <;> simp only [List.mem_cons, List.mem_nil_iff, or_false] at ha
  ·rcases ha with rfl | rfl
   ·show x.cipher.length ≤ _; omega
   ·show x.tag.length ≤ _; omega
  ·subst ha; show (x.cipher ++ x.tag).length ≤ _; rw [lap]; omega
structure Fk (x : Ev) (l : List Am) (vx : Value) (B T gq gl : Nat) (w0 w : World) : Prop where
 tl : At w gq 0 (rcells (tlL x))
 lo : At w gl 0 (rcells (l.map up))
 ev : At w B 0 (evcells x vx)
 be : Below B w0 w
 q1 : T < gq
 q2 : gq < w.heap.size
 t1 : gl < T
 t2 : B + 1 ≤ T
theorem Fk.grown {x : Ev} {l : List Am} {vx : Value} {B T gq gl : Nat} {w0 w w' : World} {row : Option Nat} (h : Fk x l vx B T gq gl w0 w) (hg : w.grownBy w' row) (hr : ∀ k, row = some k → T ≤ k ∧ k ≠ gq) : Fk x l vx B T gq gl w0 w' := by
 have h1 := h.q1
 have h2 := h.q2
 have h3 := h.t1
 have h4 := h.t2
 have hs : w.heap.size ≤ w'.heap.size := ((Below.refl 0 w).grown hg (Nat.zero_le _) (fun k _ => Nat.zero_le k)).size
 exact ⟨h.tl.grown hg h2 (fun e => (hr gq e).2 rfl), h.lo.grown hg (by omega) (fun e => by have := (hr gl e).1; omega), h.ev.grown hg (by omega) (fun e => by have := (hr B e).1; omega), h.be.grown hg (by omega) (fun k hk => by have := (hr k hk).1; omega), h1, by omega, h3, h4⟩
theorem Fk.below {x : Ev} {l : List Am} {vx : Value} {B T gq gl : Nat} {w0 w w' : World} (h : Fk x l vx B T gq gl w0 w) (hb : Below w.heap.size w w') : Fk x l vx B T gq gl w0 w' := by
 have h1 := h.q1
 have h2 := h.q2
 have h3 := h.t1
 have h4 := h.t2
 have hs := hb.size
 exact ⟨h.tl.below hb h2, h.lo.below hb (by omega), h.ev.below hb (by omega), h.be.trans (hb.mono (by omega)), h1, by omega, h3, h4⟩
theorem Fk.ne {x : Ev} {l : List Am} {vx : Value} {B T gq gl : Nat} {w0 w : World} {v : Value} {n : Nat} {ys : List Value} (h : Fk x l vx B T gq gl w0 w) (ho : w.ownsRow T 60 3 v n (rcells (hdL x) ++ ys)) (hn : 0 < n) : ∀ k, v.ownBlock = some k → T ≤ k ∧ k ≠ gq := by
 intro k hk
 refine ⟨(ho.lt k hk).1, ?_⟩
 rintro rfl
 obtain ⟨a, c, rfl, ha⟩ := own_form ho
 obtain ⟨g, rfl⟩ := ha hn
 obtain rfl : g = k := by simpa [Value.ownBlock] using hk
 have h1 := (At.ofOwnN ho 0 _ (hdL_cell x ys)).1
 have h2 := (h.tl 0 _ (tlL_cell x)).1
 rw [h1] at h2
 simp at h2
theorem go_short {txt : List UInt8 → Bool} {b : Bool} : ∀ (r : List Ra) (t : Co.Tl), (Co.go txt b r t).1.length ≤ 262144
 | [], t => by
  rw [Co.go, Co.fins]
  split
  ·exact Nat.zero_le _
  split
  ·exact Nat.zero_le _
  rename_i h
  split
  ·exact Nat.zero_le _
  show t.out.length ≤ _
  omega
 | a :: r, t => by
  rw [Co.go]
  split
  ·exact Nat.zero_le _
  ·exact go_short r _
theorem enc_short {txt : List UInt8 → Bool} (l : List Ra) : (enc txt l).1.length ≤ 262144 := by
 rw [enc]
 split
 ·exact Nat.zero_le _
 ·exact go_short _ _
theorem chk_or (S : List UInt8) (x : Ev) (y : Int × Ev) : Chk S x y = 0 ∨ Chk S x y = 2 := by
 rw [Chk]
 split
 ·exact .inr rfl
 ·exact .inl rfl
structure Gk (hc : List Value) (x : Ev) (l : List Am) (vx : Value) (B T gl : Nat) (w0 w : World) : Prop where
 hd : w.ownsRow T 60 3 (.slice (some ⟨T, 0, none⟩) 2 2) 2 hc
 lo : At w gl 0 (rcells (l.map up))
 ev : At w B 0 (evcells x vx)
 be : Below B w0 w
 sz : T < w.heap.size
 t1 : gl < T
 t2 : B + 1 ≤ T
theorem Gk.below {hc : List Value} {x : Ev} {l : List Am} {vx : Value} {B T gl : Nat} {w0 w w' : World} (h : Gk hc x l vx B T gl w0 w) (hb : Below w.heap.size w w') : Gk hc x l vx B T gl w0 w' := by
 have h1 := h.sz
 have h2 := h.t1
 have h3 := h.t2
 have hs := hb.size
 exact ⟨own_below h.hd hb (nle _), h.lo.below hb (by omega), h.ev.below hb (by omega), h.be.trans (hb.mono (by omega)), by omega, h2, h3⟩
theorem Gk.belowN {hc : List Value} {x : Ev} {l : List Am} {vx : Value} {B T gl : Nat} {w0 w w' : World} (h : Gk hc x l vx B T gl w0 w) (k : Nat) (hb : Below (w.drewN k).heap.size (w.drewN k) w') : Gk hc x l vx B T gl w0 w' :=
 h.below ((bdN (Below.refl w.heap.size w) k).trans hb)
theorem Gk.setHead {hc : List Value} {x : Ev} {l : List Am} {vx : Value} {B T gl : Nat} {w0 w : World} (h : Gk hc x l vx B T gl w0 w) (j : Nat) (u : Value) : Gk (hc.set j u) x l vx B T gl w0 (w.setCell ⟨T, j, none⟩ u) := by
 have h1 := h.sz
 have h2 := h.t1
 have h3 := h.t2
 exact ⟨(h.hd.stored j u).1, h.lo.other T j u (.inl (by omega)), h.ev.other T j u (.inl (by omega)), h.be.setCell (by show B ≤ T; omega) u, by rw [Co.set_size]; exact h1, h2, h3⟩
theorem Gk.fk {hc : List Value} {x : Ev} {l : List Am} {vx : Value} {B T gl gq : Nat} {w0 w : World} (h : Gk hc x l vx B T gl w0 w) (hq : At w gq 0 (rcells (tlL x))) (h1 : T < gq) (h2 : gq < w.heap.size) : Fk x l vx B T gq gl w0 w := ⟨hq, h.lo, h.ev, h.be, h1, h2, h.t1, h.t2⟩
theorem sr_own {w : World} {T n : Nat} {v : Value} {L : List Ra} (ho : w.ownsRow T 60 3 v n (rcells L)) (hn : L.length = n) : Co.SrO w v L := by
 obtain ⟨a, c, rfl, ha⟩ := own_form ho
 refine ⟨a, c, by rw [hn], fun hL => ?_⟩
 obtain ⟨g, rfl⟩ := ha (by rw [← hn]; exact List.length_pos_iff.2 hL)
 exact ⟨g, 0, rfl, At.ofOwnN ho, (ho.lt g rfl).2⟩
end Ce
end Go.Proofs.YtikgonlhdkknkaaGreatDoor
namespace Go.Proofs.YtikgonlhdkknkaaGreatDoor
namespace Ce
open Co (Am Ra Its need holds tell hdN okA DecR decL decE up enc mayOk mayOk_yes)
open Dr (Rs)
theorem Rd.sz {S : List UInt8} {d i b ro : Int} {x : Ev} (h : Rd S d i b ro (0, x)) : S.length ≤ 262144 := by
 obtain ⟨l, H, h1, -⟩ := canon_of h
 exact (apart h1).bytes
theorem tell_gives {x : Ev} {R : List UInt8 × Int} (h : TellR x R) (hr : Rd (canon x) 32 4096 262144 4096 (0, x)) : R = (canon x, 0) := by
 obtain ⟨l, H, h1, h2, h3, h4, h5, -, Bs, hL, hlo, hw, hl⟩ := canon_of hr
 have ha := apart h1
 have hp1 : Apart x.loose (partN l 1) (32 : Int).toNat := by
  rw [hlo]
  exact hL.part ha 1 (by rw [hw]; split <;> omega)
 have hd := hp1.dec
 have hat : atomsOf x (partN l 1) = l.map up := by
  rw [atomsOf, hdL, tlL]
  by_cases h6 : x.format = 6
  ·rw [if_pos h6] at hl
   rw [if_pos h6, if_pos h6]
   conv => rhs; rw [hl]
   simp [up]
  ·rw [if_neg h6] at hl
   rw [if_neg h6, if_neg h6]
   conv => rhs; rw [hl]
   simp [up]
 have hen : enc Lib.validD (atomsOf x (partN l 1)) = (canon x, 0) := by rw [hat]; exact ha.enc
 cases h with
 | no h6 => cases DecR.same hd h6
 | bad h6 h7 =>
  cases DecR.same hd h6
  rw [hen] at h7
  exact absurd rfl h7
 | @all m y h6 h7 h8 =>
  cases DecR.same hd h6
  rw [hen] at h8
  cases hr.same h8
  rw [hen]
  have hc : Chk (canon x) x (0, x) = 0 := by rw [Chk, if_neg (by simp)]
  rw [if_pos hc]
theorem tell_got {x : Ev} {R : List UInt8 × Int} (h : TellR x R) : R = ([], 2) ∨ (R = (canon x, 0) ∧ Rd (canon x) 32 4096 262144 4096 (0, x)) := by
 cases h with
 | no _ => exact .inl rfl
 | bad _ _ => exact .inl rfl
 | @all l y h1 h2 h3 =>
  by_cases hc : Chk (enc Lib.validD (atomsOf x l)).1 x y = 0
  ·rw [if_pos hc]
   rw [Chk] at hc
   by_cases hq : y.1 ≠ 0 ∨ ¬ y.2 = x
   ·rw [if_pos hq] at hc; cases hc
   have hy : y = (0, x) := by
    rcases y with ⟨y1, y2⟩
    have h4 : y1 = 0 := Decidable.byContradiction (fun h => hq (.inl h))
    have h5 : y2 = x := Decidable.byContradiction (fun h => hq (.inr h))
    rw [h4, h5]
   subst hy
   obtain ⟨_, _, -, -, -, -, -, h6, -⟩ := canon_of h3
   rw [h6] at h3 ⊢
   exact .inr ⟨rfl, h3⟩
  ·rw [if_neg hc]
   exact .inl rfl
end Ce
end Go.Proofs.YtikgonlhdkknkaaGreatDoor
namespace Go.Proofs.YtikgonlhdkknkaaGreatDoor
open Go.RowKit
namespace Ce
open Co (Am Ra up rcells rv UT DecR enc Its holds tell okA)
theorem ctell_any (x : Ev) (vx : Value) (w : World) (hx : Ty w vx x.rcs) (hl : x.rcs.length ≤ 140737488351232) (hlo : x.loose.length ≤ 100000000000) (hhe : x.header.length ≤ 100000000000) (hci : x.cipher.length ≤ 100000000000) (hta : x.tag.length ≤ 100000000000) (hU : UT w.heap.size w) :
  Calls Tryz.prog 9 #[evv x vx] w (RetTell x w) := by
 obtain ⟨B, hB⟩ : ∃ B, w.heap.size = B := ⟨_, rfl⟩
 have HBB := hid hB
 have GR := hid (fun w => greatest_any w)
 have DC := hid (fun w' hU => Co.decode_any (bs x.loose) 32 4096 262144 4096 w' (by rw [show (bs x.loose).size = x.loose.length from rfl]; omega) hU)
 have hB0 : Below w.heap.size w (w.alloc (Obj.cells (evcells x vx).toArray 27)) := (Below.refl _ _).alloc (nle _) _
 have hX0 := hx.below hB0
 have hA0 := At.ofAlloc w (evcells x vx).toArray 27
 have HU := hid hU
 have HLX := hid hl
 have HSZ := hid (aIn hlo (aIn hhe (aIn hci hta)))
 have HXW := hid hx
 obtain ⟨ax, cx, rfl, -⟩ := hx
 obtain ⟨nx, hnx⟩ : ∃ n, x.rcs.length = n := ⟨_, rfl⟩
 have HNX := hid hnx
 rw [hnx] at hB0 hX0 hA0 ⊢
 have HEV : Hid (evv x (.slice ax nx cx) = .agg (evcells x (.slice ax nx cx)).toArray) := rfl
 unfold evcells at hB0 hX0 hA0
 rw [HEV.out]
 unfold evcells
 clear hlo hhe hci hta hl hU hnx
 go_enter Tryz.func9, Tryz.ntmps9
 go_upto_region 1 with fail
 obtain ⟨w0, hw0⟩ : ∃ q, w.alloc (Obj.cells #[.int .i64 x.format, .int .i64 x.alg, .slice ax nx cx, .string (bs x.header), .string (bs x.loose), .string (bs x.aad), .string (bs x.iv), .string (bs x.cipher), .string (bs x.tag)] 27) = q := ⟨_, rfl⟩
 have HS0 : Hid (w0.heap.size = B + 1) := by show _ = _; rw [← hw0, ← hB]; simp
 rw [hw0] at hB0 hX0 hA0
 try rw [hw0]
 rw [hB] at hB0 hA0
 try rw [hB]
 have HB0 := hid hB0
 have HX0 := hid hX0
 have HA0 := hid hA0
 have HU0 : Hid (UT w0.heap.size w0) := by
  have h1 : UT B w := by rw [← HBB.out]; exact HU.out
  exact (h1.below hB0).mono (by rw [HS0.out]; omega)
 have a4 := hA0.z 4 _ rfl
 have HQ : Hid (∀ k w1, Below (w0.drewN k).heap.size (w0.drewN k) w1 → Below B w w1 ∧ UT w1.heap.size w1 ∧ At w1 B 0 [.int .i64 x.format, .int .i64 x.alg, .slice ax nx cx, .string (bs x.header), .string (bs x.loose), .string (bs x.aad), .string (bs x.iv), .string (bs x.cipher), .string (bs x.tag)] ∧ B + 1 ≤ w1.heap.size ∧ Ty w1 (.slice ax nx cx) x.rcs) := by
  intro k w1 hb
  have h2 : w0.heap.size = B + 1 := HS0.out
  have h3 : Below w0.heap.size w0 w1 := ⟨hb.os, hb.tape, hb.output, hb.size, hb.block⟩
  have h4 : Below B w w1 := HB0.out.trans (h3.mono (by omega))
  have h5 : B + 1 ≤ w1.heap.size := by have h6 := h3.size; omega
  have h1 : UT B w := by rw [← HBB.out]; exact HU.out
  exact ⟨h4, (h1.below h4).mono (by omega), HA0.out.below h3 (by omega), h5, HX0.out.below h3⟩
 clear hw0 hB0 hX0 hA0 hB
 go_cut [4, 6] from 11 to 18 (fun v4 v6 w2 => ∃ rr, v6 = .int .i64 (Co.decE rr) ∧ DecR x.loose 32 4096 262144 4096 rr ∧ Hid (Below B w w2) ∧ Hid (UT w2.heap.size w2) ∧ Hid (At w2 B 0 [.int .i64 x.format, .int .i64 x.alg, .slice ax nx cx, .string (bs x.header), .string (bs x.loose), .string (bs x.aad), .string (bs x.iv), .string (bs x.cipher), .string (bs x.tag)]) ∧ Hid (B + 1 ≤ w2.heap.size) ∧ Hid (Ty w2 (.slice ax nx cx) x.rcs) ∧ Hid (w2.ownsRow 0 60 3 v4 (Co.decL rr).length (rcells ((Co.decL rr).map up))))
 case first =>
  go_region_with (first
  | (go_at_call 22; refine (GR.out _).mono ?_; rintro e w1 ⟨rfl, hb1⟩; have HW1 := hid (HQ.out 1 w1 hb1); have a41 := HW1.out.2.2.1.z 4 _ rfl; clear hb1)
  | (go_at_call 14; refine (DC.out _ HW1.out.2.1).mono ?_; rintro e w2 ⟨rr, hr, v, rfl, ho, hb2⟩; have HR := hid hr; have HO := hid ho; have HB2 := hid hb2; clear hr ho hb2))
  all_goals (go_wp2_with fail)
  all_goals go_meet
  all_goals
   exact ⟨rr, rfl, by have h := HR.out; rw [bs_list] at h; exact h, HW1.out.1.trans (HB2.out.mono (by have := HW1.out.2.2.2.1; omega)), (HW1.out.2.1.below HB2.out).mono HB2.out.size, HW1.out.2.2.1.below HB2.out (by have := HW1.out.2.2.2.1; omega), Nat.le_trans HW1.out.2.2.2.1 HB2.out.size, HW1.out.2.2.2.2.below HB2.out, Co.own_base HO.out (Nat.zero_le _)⟩
 case rest =>
 obtain ⟨rr, rfl, hr, HB2, HU2, HA2, HS2, HX2, HO2⟩ := hcut
 have HR := hid hr
 clear hr
 cases rr with
 | no c p f =>
  simp only [Co.decE]
  have hc : ¬ c = 0 := decE_no HR.out
  have hcb : (c != 0) = true := by simpa using hc
  clear hc
  go_wp2_with fail
  go_ret2
  exact ⟨([], 2), .no HR.out, rfl, by rw [HBB.out]; exact HB2.out⟩
 | ok l =>
  simp only [Co.decL, Co.decE] at HO2 ⊢
  have HAP := hid (apart HR.out)
  obtain ⟨T, hT⟩ : ∃ T, wc.heap.size = T := ⟨_, rfl⟩
  obtain ⟨av, cv, rfl, hav⟩ := own_form HO2.out
  obtain ⟨gl, rfl⟩ := hav (List.length_pos_iff.2 HAP.out.one.ne)
  clear hav
  go_upto_region 5 with fail
  obtain ⟨w3, hw3⟩ : ∃ q, wc.alloc (Obj.cells #[.int .i64 6, .int .u64 16, .string ⟨#[]⟩, .int .i64 4, .int .u64 3, .string ⟨#[]⟩] 60) = q := ⟨_, rfl⟩
  have hb3 : Below wc.heap.size wc w3 := by rw [← hw3]; exact (Below.refl _ _).alloc (nle _) _
  have HG3 : Hid (Gk [.int .i64 6, .int .u64 16, .string ⟨#[]⟩, .int .i64 4, .int .u64 3, .string ⟨#[]⟩] x l (.slice ax nx cx) B T gl w w3) := by
   refine ⟨?_, (At.ofOwnN HO2.out).below hb3 (HO2.out.lt gl rfl).2, HA2.out.below hb3 (by have := HS2.out; omega), HB2.out.trans (hb3.mono (by have := HS2.out; omega)), by rw [← hw3, ← hT]; simp, by rw [← hT]; exact (HO2.out.lt gl rfl).2, by rw [← hT]; exact HS2.out⟩
   show World.ownsRow _ _ _ _ _ _ _
   rw [← hw3, ← hT]
   exact World.ownsRow_lit (base := wc.heap.size) (e := 60) (size := 3) wc #[.int .i64 6, .int .u64 16, .string ⟨#[]⟩, .int .i64 4, .int .u64 3, .string ⟨#[]⟩] 2 (nle _) (by unfold maxLen; omega) rfl
  rw [hw3]
  try rw [hT]
  clear hw3 hT hb3 HO2 HA2 HX2 HB2 HS2 HU2
  have a0 := HG3.out.ev.z 0 _ rfl
  have a7 := HG3.out.ev.z 7 _ rfl
  have a8 := HG3.out.ev.z 8 _ rfl
  have hov : ¬ 9223372036854775807 < (bs x.cipher).size + (bs x.tag).size := by
   have h1 := HSZ.out
   rw [show (bs x.cipher).size = x.cipher.length from rfl, show (bs x.tag).size = x.tag.length from rfl]
   omega
  go_wp2_with fail
  refine (cbytes_any _ w3).mono ?_
  rintro e w4 ⟨rfl, hb4⟩
  have HG4 := hid (HG3.out.below hb4)
  clear hb4 a0 a7 a8 HG3
  obtain ⟨U, hU⟩ : ∃ T, w4.heap.size = T := ⟨_, rfl⟩
  go_upto_region 6 with fail
  obtain ⟨w5, hw5⟩ : ∃ q, w4.alloc (Obj.cells #[.int .i64 2, .int .u64 0, .string (bs x.cipher ++ bs x.tag)] 60) = q := ⟨_, rfl⟩
  have hb5 : Below w4.heap.size w4 w5 := by rw [← hw5]; exact (Below.refl _ _).alloc (nle _) _
  have HC5 : Hid (At w5 U 0 [.int .i64 2, .int .u64 0, .string (bs x.cipher ++ bs x.tag)]) := by
   show At _ _ _ _
   rw [← hw5, ← hU]
   exact At.ofAlloc w4 #[.int .i64 2, .int .u64 0, .string (bs x.cipher ++ bs x.tag)] 60
  have HG5 := hid (HG4.out.below hb5)
  have HS5 : Hid (w5.heap.size = U + 1 ∧ T < U) := ⟨by rw [← hw5, ← hU]; simp, by rw [← hU]; exact HG4.out.sz⟩
  rw [hw5]
  try rw [hU]
  clear hw5 hU hb5 HG4
  have a0 := HG5.out.ev.z 0 _ rfl
  obtain ⟨bb, hbb⟩ : ∃ b, (x.format == 6) = b := ⟨_, rfl⟩
  go_upto_if 32 with fail
  have HBB6 := hid hbb
  clear hbb a0
  go_cut [8] from 32 to 46 (fun v8 wx => ∃ gq k, v8 = .slice (some ⟨gq, 0, none⟩) k k ∧ Hid (k = (tlL x).length) ∧ Hid (At wx gq 0 (rcells (tlL x)) ∧ T < gq ∧ gq < wx.heap.size) ∧ Hid (Gk (rcells (hdL x)) x l (.slice ax nx cx) B T gl w wx))
  case first =>
   cases bb
   case true =>
    have h6 : x.format = 6 := by have h := HBB6.out; simpa using h
    have HTL : Hid (tlL x = [⟨2, 0, x.cipher⟩, ⟨2, 0, x.tag⟩]) := by show _ = _; rw [tlL, if_pos h6]
    have HHD : Hid (hdL x = [⟨6, 17, []⟩, ⟨4, 4, []⟩]) := by show _ = _; rw [hdL, if_pos h6]
    have T1 : Hid (1 = 1) := rfl
    have c1 := (At.ofOwnN HG5.out.hd).z 1 _ rfl
    have c4 := (At.ofOwnN HG5.out.hd).z 4 _ rfl
    have f1 : w5.frozen? ⟨T, 1, none⟩ = false := by have h := (At.ofOwnN HG5.out.hd).zy 1 _ rfl; exact h
    have f4 : (w5.setCell ⟨T, 1, none⟩ (.int .u64 17)).frozen? ⟨T, 4, none⟩ = false := (World.frozen?_setCell _ _ _ _).trans (by have h := (At.ofOwnN HG5.out.hd).zy 4 _ rfl; exact h)
    clear h6
    go_upto_region 8 with fail
    have hg6 := (HG5.out.setHead 1 (.int .u64 17)).setHead 4 (.int .u64 4)
    obtain ⟨w6, hw6⟩ : ∃ q, (w5.setCell ⟨T, 1, none⟩ (.int .u64 17)).setCell ⟨T, 4, none⟩ (.int .u64 4) = q := ⟨_, rfl⟩
    rw [hw6] at hg6
    try rw [hw6]
    have HG6 : Hid (Gk (rcells (hdL x)) x l (.slice ax nx cx) B T gl w w6) := by
     show Gk _ _ _ _ _ _ _ _ _
     rw [HHD.out]
     exact hg6
    clear hw6 hg6 c1 c4 f1 f4 HG5 HC5 HS5
    have a7 := HG6.out.ev.z 7 _ rfl
    have a8 := HG6.out.ev.z 8 _ rfl
    go_wp2_with fail
    go_region_with (first
     | (go_at_call 23; clear T1; refine (cbytes_any _ _).mono ?_; rintro e wa ⟨rfl, hba⟩; have HGa : Hid (Gk (rcells (hdL x)) x l (.slice ax nx cx) B T gl w wa) := by { first | exact HG6.out.belowN _ hba | exact HG6.out.below hba }; have b7 := HGa.out.ev.z 7 _ rfl; have b8 := HGa.out.ev.z 8 _ rfl; clear hba)
     | (go_at_call 23; refine (cbytes_any _ _).mono ?_; rintro e wb ⟨rfl, hbb⟩; have HGb : Hid (Gk (rcells (hdL x)) x l (.slice ax nx cx) B T gl w wb) := by { first | exact HGa.out.below hbb | exact HGa.out.belowN _ hbb }; clear hbb))
    all_goals (go_wp2_with fail)
    all_goals go_meet
    all_goals exact ⟨wb.heap.size, 2, rfl, by rw [HTL.out]; rfl, ⟨by rw [HTL.out]; exact At.ofAlloc wb #[.int .i64 2, .int .u64 0, .string (bs x.cipher), .int .i64 2, .int .u64 0, .string (bs x.tag)] 60, by have := HGb.out.sz; omega, by simp⟩, HGb.out.below ((Below.refl _ _).alloc (nle _) _)⟩
   case false =>
    have h6 : ¬ x.format = 6 := by have h := HBB6.out; rw [beq_eq_false_iff_ne] at h; exact h
    have HTL : Hid (tlL x = [⟨2, 0, x.cipher ++ x.tag⟩]) := by show _ = _; rw [tlL, if_neg h6]
    have HHD : Hid (hdL x = [⟨6, 16, []⟩, ⟨4, 3, []⟩]) := by show _ = _; rw [hdL, if_neg h6]
    clear h6
    go_wp2_with fail
    go_meet
    case rel => exact ⟨U, 1, rfl, by rw [HTL.out]; rfl, ⟨by rw [HTL.out]; have h1 := HC5.out; rw [bs_app] at h1; exact h1, by have := HS5.out; omega, by have := HS5.out; omega⟩, by rw [HHD.out]; exact HG5.out⟩
  case rest =>
   obtain ⟨gq, k, rfl, hk, HC6, HG6⟩ := hcut
   obtain ⟨i0, hi, hq⟩ := Option.map_eq_some_iff.1 Co.infoA
   simp only [Prod.mk.injEq] at hq
   obtain ⟨hz0, hz1, hz2⟩ := hq
   have HL6 := hid HG6.out.hd
   have HF6 := hid (HG6.out.fk HC6.out.1 HC6.out.2.1 HC6.out.2.2)
   have a3 := HG6.out.ev.z 3 _ rfl
   clear HC6 HG6
   go_wp2_with fail
   refine (cbytes_any _ _).mono ?_
   rintro e w7 ⟨rfl, hb7⟩
   have HL7 := hid (own_below HL6.out hb7 (nle _))
   have HF7 := hid (HF6.out.below hb7)
   have hb8 : Below w7.heap.size w7 (w7.alloc (Obj.cells #[.int .i64 2, .int .u64 0, .string (bs x.header)] 60)) := (Below.refl _ _).alloc (nle _) _
   have HH8 : Hid (At (w7.alloc (Obj.cells #[.int .i64 2, .int .u64 0, .string (bs x.header)] 60)) w7.heap.size 0 (rv ⟨2, 0, x.header⟩)) := At.ofAlloc w7 #[.int .i64 2, .int .u64 0, .string (bs x.header)] 60
   have HL8 := hid (own_below HL7.out hb8 (nle _))
   have HF8 := hid (HF7.out.below hb8)
   have HLL : Hid (l.length ≤ 4096) := HAP.out.len
   have HTL : Hid (1 ≤ k ∧ k ≤ 2) := by have h1 := tlL_len x; rw [← hk.out] at h1; exact h1
   have HN2 : Hid ((rcells (l.map up)).length = l.length * 3) := by show _ = _; rw [Co.rcells_length, List.length_map, Nat.mul_comm]
   have HN3 : Hid ((rcells (tlL x)).length = k * 3) := by show _ = _; rw [Co.rcells_length, hk.out, Nat.mul_comm]
   clear hb7 hb8 HL7 a3 HL6 HF6 HF7
   go_wp2_with (first
    | (at_builtin; refine wpList_append_own _ rfl (.tmp 46) (.tmp 50) 43 rfl T 60 i0 _ 3 32 Tryz.underlying43 hi hz0 hz1 hz2 rfl (by decide) _ 2 (rcells (hdL x)) rfl HL8.out ⟨w7.heap.size, 0, none⟩ 1 1 (rv ⟨2, 0, x.header⟩) rfl rfl (Co.at_cellsO HH8.out) (Co.rv_one _) (by unfold maxLen; omega) (by omega) (by have := HF8.out.q1; have := HF8.out.q2; omega) ?_; intro v9 w9 hown9 hgrow9 _; have HO9 := hid hown9; have HF9 := hid (HF8.out.grown hgrow9 (fun k hk => by obtain rfl : T = k := by { exact Option.some.inj (show some T = some k from hk) }; exact ⟨nle _, by have := HF8.out.q1; omega⟩)); clear hown9 hgrow9 HF8 HL8 HH8)
    | (at_builtin; refine wpList_append_own _ rfl (.tmp 51) (.tmp 52) 43 rfl T 60 i0 _ 3 32 Tryz.underlying43 hi hz0 hz1 hz2 rfl (by decide) _ (2 + 1) (rcells (hdL x) ++ rv ⟨2, 0, x.header⟩) rfl HO9.out ⟨gl, 0, none⟩ l.length cv (rcells (l.map up)) rfl HN2.out (Co.at_cellsO HF9.out.lo) (Co.rcells_one _) (by have := HLL.out; unfold maxLen; omega) (by have := HLL.out; omega) (by have := HF9.out.q1; have := HF9.out.q2; omega) ?_; intro v10 w10 hown10 hgrow10 _; have HO10 := hid hown10; have HF10 := hid (HF9.out.grown hgrow10 (HF9.out.ne HO9.out (by omega))); clear hown10 hgrow10 HF9 HO9)
    | (at_builtin; refine wpList_append_own _ rfl (.tmp 53) (.tmp 54) 43 rfl T 60 i0 _ 3 32 Tryz.underlying43 hi hz0 hz1 hz2 rfl (by decide) _ (2 + 1 + l.length) (rcells (hdL x) ++ rv ⟨2, 0, x.header⟩ ++ rcells (l.map up)) rfl HO10.out ⟨gq, 0, none⟩ k k (rcells (tlL x)) rfl HN3.out (Co.at_cellsO HF10.out.tl) (Co.rcells_one _) (by have := HLL.out; have := HTL.out; unfold maxLen; omega) (by have := HLL.out; have := HTL.out; omega) (by have := HF10.out.q1; have := HF10.out.q2; omega) ?_; intro v11 w11 hown11 hgrow11 _; have HO11 := hid hown11; have HF11 := hid (HF10.out.grown hgrow11 (HF10.out.ne (by have h := HO10.out; rw [List.append_assoc] at h; exact h) (by omega))); clear hown11 hgrow11 HF10 HO10))
   have HU11 : Hid (UT w11.heap.size w11) := by
    have h1 : UT B w := by rw [← HBB.out]; exact HU.out
    have h2 := HF11.out
    exact (h1.below h2.be).mono (by have := h2.q1; have := h2.q2; have := h2.t2; omega)
   have hso : Co.SrO w11 v11 (atomsOf x l) := sr_own (n := 2 + 1 + l.length + k) (by rw [atoms_cells]; exact HO11.out) (by rw [atoms_len, hk.out])
   have EN := Co.cencode_anyO (atomsOf x l) v11 w11 hso (atoms_num HAP.out) (atoms_text HAP.out HSZ.out.2.1 HSZ.out.2.2.1 HSZ.out.2.2.2) (by rw [atoms_len]; have := tlL_len x; have := HLL.out; omega) HU11.out
   refine EN.mono ?_
   clear EN hso
   rintro e w12 ⟨s, rfl, hs, hb12⟩
   have HSS := hid hs
   have HF12 := hid (HF11.out.below hb12)
   obtain ⟨ec, hec⟩ : ∃ q, (enc Lib.validD (atomsOf x l)).2 = q := ⟨_, rfl⟩
   rw [hec]
   have HEC := hid hec
   clear hs hb12 hec HF11 HO11 HU11
   by_cases h0 : ec = 0
   case neg =>
    have HE0 := hid h0
    have f0 : (ec != 0) = true := by simpa using h0
    clear h0
    go_wp2_with fail
    go_ret2
    exact ⟨([], 2), .bad HR.out (by rw [HEC.out]; exact HE0.out), rfl, by rw [HBB.out]; exact HF12.out.be⟩
   case pos =>
   subst h0
   have HX12 : Hid (Ty w12 (.slice ax nx cx) x.rcs) := by
    have h1 : Below w.heap.size w w12 := by rw [HBB.out]; exact HF12.out.be
    have h2 := HXW.out.below h1
    rw [HNX.out] at h2
    exact h2
   have HU12 : Hid (UT w12.heap.size w12) := by
    have h1 : UT B w := by rw [← HBB.out]; exact HU.out
    have h2 := HF12.out
    exact (h1.below h2.be).mono (by have := h2.q1; have := h2.q2; have := h2.t2; omega)
   obtain ⟨a0, a1, a2, a3, a4, a5, a6, a7, a8⟩ := HF12.out.ev.c9
   obtain rfl : s = bs (enc Lib.validD (atomsOf x l)).1 := tl_inj (HSS.out.trans (bs_list _).symm)
   have CK := checked_any (bs (enc Lib.validD (atomsOf x l)).1) x (.slice ax nx cx) w12 (by have := enc_short (txt := Lib.validD) (atomsOf x l); rw [show (bs (enc Lib.validD (atomsOf x l)).1).size = (enc Lib.validD (atomsOf x l)).1.length from rfl]; omega) HX12.out HLX.out HU12.out
   rw [HEV.out] at CK
   unfold evcells at CK
   have CK := hid CK
   go_wp2_with fail
   refine CK.out.mono ?_
   clear CK
   rintro e w13 ⟨y, hy, rfl, hb13⟩
   rw [bs_list] at hy ⊢
   have HY := hid hy
   have HB13 : Hid (Below B w w13) := HF12.out.be.trans (hb13.mono (by have h2 := HF12.out; have := h2.q1; have := h2.q2; have := h2.t2; omega))
   clear hy hb13
   obtain ⟨S, hS⟩ : ∃ S, (enc Lib.validD (atomsOf x l)).1 = S := ⟨_, rfl⟩
   rw [hS] at HY ⊢
   have HSS := hid hS
   obtain ⟨ck, hck⟩ : ∃ c, Chk S x y = c := ⟨_, rfl⟩
   have HCK := hid hck
   rw [hck]
   have hor : ck = 0 ∨ ck = 2 := by rw [← hck]; exact chk_or S x y
   clear hck hS
   rcases hor with rfl | rfl
   ·rw [if_pos rfl]
    go_wp2_with fail
    go_ret2
    refine ⟨(S, 0), ?_, rfl, by rw [HBB.out]; exact HB13.out⟩
    have h := TellR.all HR.out HEC.out (by rw [HSS.out]; exact HY.out)
    rw [HSS.out, HCK.out, if_pos rfl] at h
    exact h
   ·rw [if_neg (by decide)]
    go_wp2_with fail
    go_ret2
    refine ⟨([], 2), ?_, rfl, by rw [HBB.out]; exact HB13.out⟩
    have h := TellR.all HR.out HEC.out (by rw [HSS.out]; exact HY.out)
    rw [HSS.out, HCK.out, if_neg (by decide)] at h
    exact h
def Rp1 : Rp := ⟨1, 0, 0, [], [], [], 0, [], []⟩
def someE : Ev := ⟨5, 1, [Rp1], [161, 1, 1], [161, 5, 76, 49, 50, 51, 52, 53, 54, 55, 56, 57, 48, 49, 50], [], [49, 50, 51, 52, 53, 54, 55, 56, 57, 48, 49, 50], [97, 98, 99], [49, 50, 51, 52, 53, 54, 55, 56, 57, 48, 49, 50, 51, 52, 53, 54]⟩
def RetE (x : Ev) (w : World) (e : Ending) (w' : World) : Prop := ∃ v, e = .returned (evv x v) ∧ Ty w' v x.rcs ∧ Below w.heap.size w w'
theorem some_any (w : World) : Calls Tryz.prog 12 #[] w (RetE someE w) := by
 go_enter Tryz.func12, Tryz.ntmps12
 go_wp2_with fail
 refine bodyPost_ret (results_at rfl _ w.heap.size (evcells someE (.slice (some ⟨w.heap.size + 1, 0, none⟩) 1 1)) _ rfl ((At.ofAlloc w (evcells someE (.slice (some ⟨w.heap.size + 1, 0, none⟩) 1 1)).toArray 27).alloc _) Tryz.underlying27 rfl (by kernel_rfl)) rfl ?_
 refine ⟨.slice (some ⟨w.heap.size + 1, 0, none⟩) 1 1, rfl, ?_, ((Below.refl _ _).alloc (nle _) _).alloc (by simp) _⟩
 refine ⟨some ⟨w.heap.size + 1, 0, none⟩, 1, rfl, fun _ => ⟨w.heap.size + 1, 0, rfl, ?_, by simp⟩⟩
 have h := At.ofAlloc (w.alloc (Obj.cells (evcells someE (.slice (some ⟨w.heap.size + 1, 0, none⟩) 1 1)).toArray 27)) (rpcells someE.rcs).toArray 57
 rw [World.size_alloc] at h
 exact h
theorem other9 {w : World} {T g o : Nat} {cs : List Value} (h : At w g o cs) (hT : T ≠ g) (v0 v1 v2 v3 v4 v5 v6 v7 v8 : Value) : At (((((((((w.setCell ⟨T, 0, none⟩ v0).setCell ⟨T, 1, none⟩ v1).setCell ⟨T, 2, none⟩ v2).setCell ⟨T, 3, none⟩ v3).setCell ⟨T, 4, none⟩ v4).setCell ⟨T, 5, none⟩ v5).setCell ⟨T, 6, none⟩ v6).setCell ⟨T, 7, none⟩ v7).setCell ⟨T, 8, none⟩ v8) g o cs := (((((((((h.other T 0 v0 (.inl hT)).other T 1 v1 (.inl hT)).other T 2 v2 (.inl hT)).other T 3 v3 (.inl hT)).other T 4 v4 (.inl hT)).other T 5 v5 (.inl hT)).other T 6 v6 (.inl hT)).other T 7 v7 (.inl hT)).other T 8 v8 (.inl hT))
theorem copied25_any (x : Ev) (vx : Value) (w : World) (hx : Ty w vx x.rcs) (hl : x.rcs.length * 112 ≤ 140737488351232) : Calls Tryz.prog 10 #[evv x vx] w (RetE x w) := by
 obtain ⟨i0, hi, hq⟩ := Option.map_eq_some_iff.1 infoRp
 simp only [Prod.mk.injEq] at hq
 obtain ⟨hz0, hz1, hz2⟩ := hq
 obtain ⟨a, c, rfl, hal⟩ := hx
 obtain ⟨n, hn⟩ : ∃ n, x.rcs.length = n := ⟨_, rfl⟩
 have HN := hid (aIn hn hl)
 have HA := hid hal
 have hlen : (rpcells x.rcs).length = n * 9 := by rw [rpcells_length, hn]
 have HLN := hid hlen
 have hb0 : Below w.heap.size w ((w.alloc (Obj.cells #[.int .i64 x.format, .int .i64 x.alg, .slice a n c, .string (bs x.header), .string (bs x.loose), .string (bs x.aad), .string (bs x.iv), .string (bs x.cipher), .string (bs x.tag)] 27)).alloc (eoz)) := ((Below.refl _ _).alloc (nle _) _).alloc (by simp) _
 have hs0 : ((w.alloc (Obj.cells #[.int .i64 x.format, .int .i64 x.alg, .slice a n c, .string (bs x.header), .string (bs x.loose), .string (bs x.aad), .string (bs x.iv), .string (bs x.cipher), .string (bs x.tag)] 27)).alloc (eoz)).heap.size = w.heap.size + 2 := by simp
 have hX0 := (At.ofAlloc w #[.int .i64 x.format, .int .i64 x.alg, .slice a n c, .string (bs x.header), .string (bs x.loose), .string (bs x.aad), .string (bs x.iv), .string (bs x.cipher), .string (bs x.tag)] 27).alloc (eoz)
 have hZ0 := At.ofAlloc (w.alloc (Obj.cells #[.int .i64 x.format, .int .i64 x.alg, .slice a n c, .string (bs x.header), .string (bs x.loose), .string (bs x.aad), .string (bs x.iv), .string (bs x.cipher), .string (bs x.tag)] 27)) #[.int .i64 0, .int .i64 0, .slice none 0 0, .string ⟨#[]⟩, .string ⟨#[]⟩, .string ⟨#[]⟩, .string ⟨#[]⟩, .string ⟨#[]⟩, .string ⟨#[]⟩] 27
 rw [World.size_alloc] at hZ0
 rw [hn]
 unfold evv
 obtain ⟨B, hB⟩ : ∃ B, w.heap.size = B := ⟨_, rfl⟩
 have HBB := hid hB
 clear hlen hal hl hn
 go_enter Tryz.func10, Tryz.ntmps10
 go_upto_region 1 with fail
 obtain ⟨w2, hw2⟩ : ∃ q, (w.alloc (Obj.cells #[.int .i64 x.format, .int .i64 x.alg, .slice a n c, .string (bs x.header), .string (bs x.loose), .string (bs x.aad), .string (bs x.iv), .string (bs x.cipher), .string (bs x.tag)] 27)).alloc (eoz) = q := ⟨_, rfl⟩
 rw [hw2] at hb0 hs0 hX0 hZ0
 try rw [hw2]
 rw [hB] at hb0 hs0 hX0 hZ0
 try rw [hB]
 have HO := hid (World.ownsRow_lit (base := w2.heap.size) (e := 57) (size := 9) w2 #[] 0 (nle _) (by decide) rfl)
 have HX0 := hid (hX0.alloc (Obj.cells #[] 57))
 have HZ0 := hid (hZ0.alloc (Obj.cells #[] 57))
 have HS0 := hid hs0
 have HB0 : Hid (Below B w (w2.alloc (Obj.cells #[] 57))) := hb0.alloc (by omega) _
 have HTY : Hid (x.rcs ≠ [] → ∃ g o, a = some ⟨g, o, none⟩ ∧ At (w2.alloc (Obj.cells #[] 57)) g o (rpcells x.rcs) ∧ g < B) := fun h => by
  obtain ⟨g, o, h1, h2, h3⟩ := HA.out h
  exact ⟨g, o, h1, (h2.below (by rw [HBB.out]; exact hb0) h3).alloc _, by rw [← HBB.out]; exact h3⟩
 clear hw2 hb0 hs0 hX0 hZ0 hB
 by_cases h0 : x.rcs = []
 case neg =>
  obtain ⟨g, o, rfl, hAt, hg⟩ := HTY.out h0
  have HAT := hid (aIn hAt hg)
  clear h0 hAt hg
  have a2 := HX0.out.z 2 _ rfl
  go_wp2_with (at_builtin; refine wpList_append_own _ rfl (.tmp 3) (.tmp 5) 25 rfl w2.heap.size 57 i0 _ 9 112 Tryz.underlying25 hi hz0 hz1 hz2 rfl (by decide) _ 0 [] rfl HO.out ⟨g, o, none⟩ n c (rpcells x.rcs) rfl HLN.out (Co.at_cellsO HAT.out.1) (rpcells_one _) (by have := HN.out; unfold maxLen; omega) (by have := HN.out; omega) (by simp) ?_; intro v' w3 hown3 hgrow3 _; rw [Nat.zero_add, List.nil_append] at hown3; obtain ⟨av, cv, rfl, hav⟩ := own_form hown3; have HO3 := hid hown3; have HAV := hid hav; clear hav; have HX3 := hid (HX0.out.grown hgrow3 (by rw [World.size_alloc, HS0.out]; omega) (fun e => by have := (HO.out.lt B e).1; rw [HS0.out] at this; omega)); have HZ3 := hid (HZ0.out.grown hgrow3 (by rw [World.size_alloc, HS0.out]; omega) (fun e => by have := (HO.out.lt (B + 1) e).1; rw [HS0.out] at this; omega)); have HB3 : Hid (Below B w w3) := HB0.out.grown hgrow3 (by rw [World.size_alloc, HS0.out]; omega) (fun k hk => by have := (HO.out.lt k hk).1; rw [HS0.out] at this; omega); have b0 := HX3.out.z 0 _ rfl; have b1 := HX3.out.z 1 _ rfl; have b2 := HX3.out.z 2 _ rfl; have b3 := HX3.out.z 3 _ rfl; have b4 := HX3.out.z 4 _ rfl; have b5 := HX3.out.z 5 _ rfl; have b6 := HX3.out.z 6 _ rfl; have b7 := HX3.out.z 7 _ rfl; have b8 := HX3.out.z 8 _ rfl; have f2 := HX3.out.zy 2 _ rfl; have z0 := HZ3.out.z 0 _ rfl; have y0 := HZ3.out.zy 0 _ rfl; have z1 := HZ3.out.z 1 _ rfl; have y1 := HZ3.out.zy 1 _ rfl; have z2 := HZ3.out.z 2 _ rfl; have y2 := HZ3.out.zy 2 _ rfl; have z3 := HZ3.out.z 3 _ rfl; have y3 := HZ3.out.zy 3 _ rfl; have z4 := HZ3.out.z 4 _ rfl; have y4 := HZ3.out.zy 4 _ rfl; have z5 := HZ3.out.z 5 _ rfl; have y5 := HZ3.out.zy 5 _ rfl; have z6 := HZ3.out.z 6 _ rfl; have y6 := HZ3.out.zy 6 _ rfl; have z7 := HZ3.out.z 7 _ rfl; have y7 := HZ3.out.zy 7 _ rfl; have z8 := HZ3.out.z 8 _ rfl; have y8 := HZ3.out.zy 8 _ rfl; clear hown3 hgrow3 a2)
  refine bodyPost_ret (results_at rfl _ (B + 1) _ _ rfl (fill9 (HZ3.out.other B 2 _ (.inl (by omega))) _ _ _ _ _ _ _ _ _) Tryz.underlying27 rfl (by kernel_rfl)) rfl ?_
  refine ⟨.slice av n cv, rfl, ?_, by rw [HBB.out]; exact below9 (HB3.out.setCell (p := ⟨B, 2, none⟩) (nle _) _) (Nat.le_succ B) _ _ _ _ _ _ _ _ _⟩
  refine ⟨av, cv, by rw [HN.out.1], fun h => ?_⟩
  obtain ⟨gv, rfl⟩ := HAV.out (by rw [← HN.out.1]; exact List.length_pos_iff.2 h)
  have hlt := HO3.out.lt gv rfl
  rw [HS0.out] at hlt
  exact ⟨gv, 0, rfl, other9 ((At.ofOwnN HO3.out).other B 2 _ (.inl (by omega))) (by omega) _ _ _ _ _ _ _ _ _, by simp [World.setCell]; exact hlt.2⟩
 case pos =>
  have hn0 : n = 0 := by rw [← HN.out.1, h0]; rfl
  subst hn0
  have H0 := hid h0
  clear h0
  have z0 := HZ0.out.z 0 _ rfl
  have y0 := HZ0.out.zy 0 _ rfl
  have b0 := HX0.out.z 0 _ rfl
  have z1 := HZ0.out.z 1 _ rfl
  have y1 := HZ0.out.zy 1 _ rfl
  have b1 := HX0.out.z 1 _ rfl
  have z2 := HZ0.out.z 2 _ rfl
  have y2 := HZ0.out.zy 2 _ rfl
  have b2 := HX0.out.z 2 _ rfl
  have z3 := HZ0.out.z 3 _ rfl
  have y3 := HZ0.out.zy 3 _ rfl
  have b3 := HX0.out.z 3 _ rfl
  have z4 := HZ0.out.z 4 _ rfl
  have y4 := HZ0.out.zy 4 _ rfl
  have b4 := HX0.out.z 4 _ rfl
  have z5 := HZ0.out.z 5 _ rfl
  have y5 := HZ0.out.zy 5 _ rfl
  have b5 := HX0.out.z 5 _ rfl
  have z6 := HZ0.out.z 6 _ rfl
  have y6 := HZ0.out.zy 6 _ rfl
  have b6 := HX0.out.z 6 _ rfl
  have z7 := HZ0.out.z 7 _ rfl
  have y7 := HZ0.out.zy 7 _ rfl
  have b7 := HX0.out.z 7 _ rfl
  have z8 := HZ0.out.z 8 _ rfl
  have y8 := HZ0.out.zy 8 _ rfl
  have b8 := HX0.out.z 8 _ rfl
  have f2 := HX0.out.zy 2 _ rfl
  cases a with
  | none =>
   go_wp2_with fail
   refine bodyPost_ret (results_at rfl _ (B + 1) _ _ rfl (fill9 (HZ0.out.other B 2 _ (.inl (by omega))) _ _ _ _ _ _ _ _ _) Tryz.underlying27 rfl (by kernel_rfl)) rfl ?_
   exact ⟨.slice (some ⟨w2.heap.size, 0, none⟩) 0 0, rfl, ⟨_, _, by rw [H0.out]; rfl, fun h => absurd H0.out h⟩, by rw [HBB.out]; exact below9 (HB0.out.setCell (p := ⟨B, 2, none⟩) (nle _) _) (Nat.le_succ B) _ _ _ _ _ _ _ _ _⟩
  | some A =>
   go_wp2_with fail
   refine bodyPost_ret (results_at rfl _ (B + 1) _ _ rfl (fill9 (HZ0.out.other B 2 _ (.inl (by omega))) _ _ _ _ _ _ _ _ _) Tryz.underlying27 rfl (by kernel_rfl)) rfl ?_
   exact ⟨.slice (some ⟨w2.heap.size, 0, none⟩) 0 0, rfl, ⟨_, _, by rw [H0.out]; rfl, fun h => absurd H0.out h⟩, by rw [HBB.out]; exact below9 (HB0.out.setCell (p := ⟨B, 2, none⟩) (nle _) _) (Nat.le_succ B) _ _ _ _ _ _ _ _ _⟩
end Ce
end Go.Proofs.YtikgonlhdkknkaaGreatDoor
namespace Go.Proofs.YtikgonlhdkknkaaGreatDoor
namespace Ce
open Co (Am Ra Its need holds tell hdN okA DecR decL decE up enc mayOk mayOk_yes)
open Dr (Rs)
def hdS : List Am := [⟨5, 1, []⟩, ⟨0, 1, []⟩, ⟨0, 1, []⟩]
def liS : List Am := [⟨6, 16, []⟩, ⟨4, 3, []⟩, ⟨2, 0, [161, 1, 1]⟩, ⟨5, 1, []⟩, ⟨0, 5, []⟩, ⟨2, 0, [49, 50, 51, 52, 53, 54, 55, 56, 57, 48, 49, 50]⟩, ⟨2, 0, [97, 98, 99, 49, 50, 51, 52, 53, 54, 55, 56, 57, 48, 49, 50, 51, 52, 53, 54]⟩]
theorem its_hd : Its 1 hdS [[161, 1, 1]] true := by
 have h := Its.node (a := ⟨5, 1, []⟩) rfl (by rfl) (Its.leaf (a := ⟨0, 1, []⟩) rfl (Its.leaf (a := ⟨0, 1, []⟩) rfl .nil)) .nil
 exact h
theorem okA0 (k n : Nat) (hk : k = 0 ∨ k = 1 ∨ k = 4 ∨ k = 5 ∨ k = 6) (hn : n < 18446744073709551616) : okA Lib.validD ⟨k, n, []⟩ := ⟨hn, (by decide : (0 : Nat) < 18446744073709551616), .inl ⟨hk, rfl⟩⟩
theorem okA2 (s : List UInt8) (hs : s.length < 18446744073709551616) : okA Lib.validD ⟨2, 0, s⟩   := ⟨(by decide : (0 : Nat) < 18446744073709551616), hs, .inr (.inl ⟨rfl, rfl⟩)⟩
theorem dec_hd : DecR [161, 1, 1] 32 4096 262144 4096 (.ok hdS) := by
 refine Apart.dec (d := 32) ⟨⟨1, its_hd, by decide⟩, ?_, by decide, by decide, by decide⟩
 intro a ha
 simp only [hdS, List.mem_cons, List.mem_nil_iff, or_false] at ha
 rcases ha with rfl | rfl | rfl <;> exact okA0 _ _ (by decide) (by decide)
theorem its_li : Its 3 liS [canon someE] true := by
 have h := Its.node (a := ⟨6, 16, []⟩) rfl (by rfl) (Its.node (a := ⟨4, 3, []⟩) rfl (by rfl) (Its.leaf (a := ⟨2, 0, [161, 1, 1]⟩) rfl (Its.node (a := ⟨5, 1, []⟩) rfl (by rfl) (Its.leaf (a := ⟨0, 5, []⟩) rfl (Its.leaf (a := ⟨2, 0, [49, 50, 51, 52, 53, 54, 55, 56, 57, 48, 49, 50]⟩) rfl .nil)) (Its.leaf (a := ⟨2, 0, [97, 98, 99, 49, 50, 51, 52, 53, 54, 55, 56, 57, 48, 49, 50, 51, 52, 53, 54]⟩) rfl .nil))) .nil) .nil
 exact h
theorem dec_li : DecR (canon someE) 32 4096 262144 4096 (.ok liS) := by
 refine Apart.dec (d := 32) ⟨⟨3, its_li, by decide⟩, ?_, by decide, by decide, by decide +kernel⟩
 intro a ha
 simp only [liS, List.mem_cons, List.mem_nil_iff, or_false] at ha
 rcases ha with rfl | rfl | rfl | rfl | rfl | rfl | rfl
 ·exact okA0 _ _ (by decide) (by decide)
 ·exact okA0 _ _ (by decide) (by decide)
 ·exact okA2 _ (by decide)
 ·exact okA0 _ _ (by decide) (by decide)
 ·exact okA0 _ _ (by decide) (by decide)
 ·exact okA2 _ (by decide)
 ·exact okA2 _ (by decide)
theorem rd_some : Rd (canon someE) 32 4096 262144 4096 (0, someE) := by
 have h := Rd.all (H := .ok hdS) dec_li (by decide +kernel) (fun _ => dec_hd)
 have h1 : rdE liS (.ok hdS) = 0 := by decide +kernel
 have h2 : rdV liS (.ok hdS) = someE := by decide +kernel
 rw [h1, h2] at h
 exact h
theorem its_no : Its 1 [⟨6, 1, []⟩, ⟨7, 22, []⟩] [[0xc1, 0xf6]] true := by
 have h := Its.node (a := ⟨6, 1, []⟩) rfl (by rfl) (Its.leaf (a := ⟨7, 22, []⟩) rfl .nil) .nil
 exact h
theorem rd_no : Rd [0xc1, 0xf6] 32 4096 262144 4096 (11, Ev0) := by
 have h : DecR [0xc1, 0xf6] 32 4096 262144 4096 (.ok [⟨6, 1, []⟩, ⟨7, 22, []⟩]) := by
  refine Apart.dec (d := 32) ⟨⟨1, its_no, by decide⟩, ?_, by decide, by decide, by decide⟩
  intro a ha
  simp only [List.mem_cons, List.mem_nil_iff, or_false] at ha
  rcases ha with rfl | rfl
  ·exact okA0 _ _ (by decide) (by decide)
  ·exact ⟨by decide, by decide, .inr (.inr (.inr ⟨rfl, rfl, by decide, by decide⟩))⟩
 exact Rd.pre h (by decide +kernel)
end Ce
end Go.Proofs.YtikgonlhdkknkaaGreatDoor
namespace Go.Proofs.YtikgonlhdkknkaaGreatDoor
open Go.RowKit
namespace Ce
open Co (Am Ra up rcells rv UT DecR enc Its holds tell okA)
theorem ctell_is {x : Ev} (hr : Rd (canon x) 32 4096 262144 4096 (0, x)) (vx : Value) (w : World) (hx : Ty w vx x.rcs) (hl : x.rcs.length ≤ 140737488351232) (hlo : x.loose.length ≤ 100000000000) (hhe : x.header.length ≤ 100000000000) (hci : x.cipher.length ≤ 100000000000) (hta : x.tag.length ≤ 100000000000) (hU : UT w.heap.size w) :
  Calls Tryz.prog 9 #[evv x vx] w (fun e w' => e = .returned (.tuple #[.string (bs (canon x)), .int .i64 0]) ∧ Below w.heap.size w w') := by
 refine (ctell_any x vx w hx hl hlo hhe hci hta hU).mono ?_
 rintro e w' ⟨R, hR, he, hb⟩
 have h := tell_gives hR hr
 subst h
 exact ⟨he, hb⟩
theorem cread_is {S : List UInt8} {d i b ro : Int} {y : Int × Ev} (hr : Rd S d i b ro y) (w : World) (hz : S.length ≤ 140737488351232) (hU : UT w.heap.size w) :
  Calls Tryz.prog 6 #[.string (bs S), .agg #[.int .i64 d, .int .i64 i, .int .i64 b, .int .i64 ro]] w (RetEv y.2 y.1 w) := by
 refine (cread_any (bs S) d i b ro w hz hU).mono ?_
 rintro e w' ⟨z, hz, he⟩
 rw [bs_list] at hz
 cases hr.same hz
 exact he
theorem esame_yes (x : Ev) (vx vy : Value) (w : World) (hx : Ty w vx x.rcs) (hy : Ty w vy x.rcs) (hl : x.rcs.length ≤ 140737488351232) :
  Calls Tryz.prog 8 #[evv x vx, evv x vy] w (fun e w' => e = .returned (.bool true) ∧ Below w.heap.size w w') := by
 refine (esame_any x x vx vy w hx hy hl hl).mono ?_
 rintro e w' ⟨he, hb⟩
 rw [show decide (x = x) = true from dtr rfl] at he
 exact ⟨he, hb⟩
theorem wakes25_any (w : World) (hU : UT w.heap.size w) : Calls Tryz.prog 5 #[] w (fun e w' => e = .returned (.bool true) ∧ Below w.heap.size w w') := by
 have HU := hid hU
 have SO := hid (fun w' => some_any w')
 have MO := hid (fun w' => Co.most_any w')
 have TE := hid (fun w' v (hv : Ty w' v someE.rcs) hU => ctell_is rd_some v w' hv (by decide) (by decide) (by decide) (by decide) (by decide) hU)
 have RD := hid (fun w' hU => cread_is rd_some w' (by decide +kernel) hU)
 have RN := hid (fun w' hU => cread_is rd_no w' (by decide) hU)
 have RS := hid (fun w' v u (hv : Ty w' v someE.rcs) hu => esame_yes someE v u w' hv hu (by decide))
 clear hU
 go_enter Tryz.func5, Tryz.ntmps5
 go_wp2_with fail
 refine (SO.out w).mono ?_
 rintro e w1 ⟨v1, rfl, hT1, hb1⟩
 have HB1 : Hid (Below w.heap.size w w1) := hb1
 have HT1 := hid hT1
 clear hb1 hT1
 go_wp2_with fail
 refine (TE.out w1 v1 HT1.out (HU.out.at HB1.out)).mono ?_
 rintro e w2 ⟨rfl, hb2⟩
 have HB2 : Hid (Below w.heap.size w w2) := HB1.out.trans (hb2.mono HB1.out.size)
 clear hb2
 go_wp2_with fail
 refine (MO.out w2).mono ?_
 rintro e w3 ⟨rfl, hb3⟩
 have HB3 : Hid (Below w.heap.size w w3) := HB2.out.trans (hb3.mono HB2.out.size)
 clear hb3
 go_wp2_with fail
 refine (RD.out w3 (HU.out.at HB3.out)).mono ?_
 rintro e w4 ⟨v4, rfl, hT4, hb4⟩
 have HB4 : Hid (Below w.heap.size w w4) := HB3.out.trans (hb4.mono HB3.out.size)
 have HT4 := hid hT4
 obtain ⟨a4, c4, rfl, -⟩ := hT4
 have HEV : Hid (evv someE (.slice a4 someE.rcs.length c4) = .agg #[.int .i64 someE.format, .int .i64 someE.alg, .slice a4 someE.rcs.length c4, .string (bs someE.header), .string (bs someE.loose), .string (bs someE.aad), .string (bs someE.iv), .string (bs someE.cipher), .string (bs someE.tag)]) := rfl
 dsimp only
 rw [HEV.out]
 clear hb4
 go_upto_region 3 with fail
 obtain ⟨G, hG⟩ : ∃ G, w4.heap.size = G := ⟨_, rfl⟩
 obtain ⟨w5, hw5⟩ : ∃ q, w4.alloc (eo9 someE a4 c4) = q := ⟨_, rfl⟩
 have hb5 : Below w4.heap.size w4 w5 := by rw [← hw5]; exact (Below.refl _ _).alloc (nle _) _
 have HA5 : Hid (At w5 G 0 #[.int .i64 someE.format, .int .i64 someE.alg, .slice a4 someE.rcs.length c4, .string (bs someE.header), .string (bs someE.loose), .string (bs someE.aad), .string (bs someE.iv), .string (bs someE.cipher), .string (bs someE.tag)].toList) := by
  show At _ _ _ _
  rw [← hw5, ← hG]
  exact At.ofAlloc w4 _ 27
 have HS5 : Hid (w5.heap.size = G + 1) := by show _ = _; rw [← hw5, ← hG]; simp
 have HB5 : Hid (Below w.heap.size w w5) := HB4.out.trans (hb5.mono HB4.out.size)
 have HT5 := hid (HT4.out.below hb5)
 rw [hw5]
 try rw [hG]
 clear hw5 hG hb5
 go_wp2_with fail
 refine (MO.out w5).mono ?_
 rintro e w6 ⟨rfl, hb6⟩
 have HB6 : Hid (Below w.heap.size w w6) := HB5.out.trans (hb6.mono HB5.out.size)
 have HA6 := hid (HA5.out.below hb6 (by rw [HS5.out]; omega))
 have HT6 := hid (HT5.out.below hb6)
 have HS6 : Hid (G < w6.heap.size) := by have h1 := HS5.out; have h2 := hb6.size; show G < _; omega
 clear hb6
 go_wp2_with fail
 refine (RN.out w6 (HU.out.at HB6.out)).mono ?_
 rintro e w7 ⟨v7, rfl, hT7, hb7⟩
 have HB7 : Hid (Below w.heap.size w w7) := HB6.out.trans (hb7.mono HB6.out.size)
 have HA7 := hid (HA6.out.below hb7 HS6.out)
 have HT7 := hid (HT6.out.below hb7)
 have HS7 : Hid (G < w7.heap.size) := nlt HS6.out hb7.size
 obtain ⟨a6, c6, rfl, -⟩ := hT7
 have HE0 : Hid (evv Ev0 (.slice a6 Ev0.rcs.length c6) = .agg #[.int .i64 Ev0.format, .int .i64 Ev0.alg, .slice a6 Ev0.rcs.length c6, .string (bs Ev0.header), .string (bs Ev0.loose), .string (bs Ev0.aad), .string (bs Ev0.iv), .string (bs Ev0.cipher), .string (bs Ev0.tag)]) := rfl
 dsimp only
 rw [HE0.out]
 clear hb7
 go_upto_region 4 with fail
 obtain ⟨w8, hw8⟩ : ∃ q, w7.alloc (eo9 Ev0 a6 c6) = q := ⟨_, rfl⟩
 have hb8 : Below w7.heap.size w7 w8 := by rw [← hw8]; exact (Below.refl _ _).alloc (nle _) _
 have HB8 : Hid (Below w.heap.size w w8) := HB7.out.trans (hb8.mono HB7.out.size)
 have HA8 := hid (HA7.out.below hb8 HS7.out)
 have HT8 := hid (HT7.out.below hb8)
 have HS8 : Hid (G < w8.heap.size) := nlt HS7.out hb8.size
 rw [hw8]
 clear hw8 hb8 HB1 HB2 HB3 HB4 HB5 HB6 HB7 HT1 HT4 HT5 HT6 HT7 HA5 HA6 HA7 HS5 HS6 HS7
 have HQ : Hid (∀ k w1, Below (w8.drewN k).heap.size (w8.drewN k) w1 → Below w.heap.size w w1 ∧ At w1 G 0 #[.int .i64 someE.format, .int .i64 someE.alg, .slice a4 someE.rcs.length c4, .string (bs someE.header), .string (bs someE.loose), .string (bs someE.aad), .string (bs someE.iv), .string (bs someE.cipher), .string (bs someE.tag)].toList ∧ Ty w1 (.slice a4 someE.rcs.length c4) someE.rcs) := by
  intro k w1 hb
  have h3 : Below w8.heap.size w8 w1 := (bdN (Below.refl w8.heap.size w8) k).trans hb
  exact ⟨HB8.out.trans (h3.mono HB8.out.size), HA8.out.below h3 HS8.out, HT8.out.below h3⟩
 obtain ⟨a0, a1, a2, a3, x4, a5, x6, a7, a8⟩ := HA8.out.c9
 go_region_with (first
  | (go_at_call 12; refine (SO.out _).mono ?_; rintro e wa ⟨va, rfl, hTa, hba⟩; have HWa := hid (HQ.out _ wa hba); have HTa := hid hTa; have b0 := HWa.out.2.1.z 0 _ rfl; have b1 := HWa.out.2.1.z 1 _ rfl; have b2 := HWa.out.2.1.z 2 _ rfl; have b3 := HWa.out.2.1.z 3 _ rfl; have b4 := HWa.out.2.1.z 4 _ rfl; have b5 := HWa.out.2.1.z 5 _ rfl; have b6 := HWa.out.2.1.z 6 _ rfl; have b7 := HWa.out.2.1.z 7 _ rfl; have b8 := HWa.out.2.1.z 8 _ rfl; clear hba hTa)
  | (go_at_call 8; have sm := RS.out wa (.slice a4 someE.rcs.length c4) va HWa.out.2.2 HTa.out; rw [HEV.out] at sm; refine sm.mono ?_; clear sm; rintro e wb ⟨rfl, hbb⟩; have HBb : Hid (Below w.heap.size w wb) := HWa.out.1.trans (hbb.mono HWa.out.1.size); clear hbb))
 all_goals (go_wp2_with fail)
 all_goals go_ret
 all_goals exact ⟨rfl, HBb.out⟩
end Ce
end Go.Proofs.YtikgonlhdkknkaaGreatDoor
