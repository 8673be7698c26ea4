/- Joined by merge.py: CeTd CeTp CeTe. -/
import Derived.Test.YtikgonlhdkknkaaDoorCeS3
namespace Go.Proofs.YtikgonlhdkknkaaDoor
open Go.RowKit
set_option linter.unusedVariables false
set_option linter.unusedSimpArgs false
namespace Ce
open Co (Am Ra up rcells rv UT DecR enc Its holds tell okA)
/-- the atoms that are told of an envelope whose loose header holds l -/
def hdL (x : Ev) : List Ra := if x.format = 6 then [⟨6, 17, []⟩, ⟨4, 4, []⟩] else [⟨6, 16, []⟩, ⟨4, 3, []⟩]
def tlL (x : Ev) : List Ra := if x.format = 6 then [⟨2, 0, x.cipher⟩, ⟨2, 0, x.tag⟩] else [⟨2, 0, x.cipher ++ x.tag⟩]
def atomsOf (x : Ev) (l : List Am) : List Ra := hdL x ++ [⟨2, 0, x.header⟩] ++ l.map up ++ tlL x
theorem bs_app (a b : List UInt8) : bs a ++ bs b = bs (a ++ b) := by
  refine ByteArray.ext ?_
  rw [ByteArray.data_append]
  simp [bs]
inductive TellR (x : Ev) : List UInt8 × Int → Prop
  | no {c : Int} {p : Nat} {f : Bool} : DecR x.loose 32 4096 262144 4096 (.no c p f) → TellR x ([], 2)
  | bad {l : List Am} : DecR x.loose 32 4096 262144 4096 (.ok l) → (enc Lib.validD (atomsOf x l)).2 ≠ 0 → TellR x ([], 2)
  | all {l : List Am} {y : Int × Ev} : DecR x.loose 32 4096 262144 4096 (.ok l) → (enc Lib.validD (atomsOf x l)).2 = 0 → Rd (enc Lib.validD (atomsOf x l)).1 32 4096 262144 4096 y → TellR x (if Chk (enc Lib.validD (atomsOf x l)).1 x y = 0 then ((enc Lib.validD (atomsOf x l)).1, 0) else ([], 2))
def RetTell (x : Ev) (w : World) (e : Ending) (w' : World) : Prop := ∃ R : List UInt8 × Int, TellR x R ∧ e = .returned (.tuple #[.string (bs R.1), .int .i64 R.2]) ∧ Below w.heap.size w w'
theorem holds_noX {x : Am} (h : holds x.kind = true) : ¬ (x.kind = 2 ∨ x.kind = 3) := by
  intro h2
  rcases h2 with h2 | h2 <;> rw [h2] at h <;> cases h
theorem its_texts {d N M o} (h : Its d N M o) : (∀ a ∈ N, okA Lib.validD a) → (N.map fun a => a.text.length).sum ≤ M.flatten.length := by
  have hnil : ∀ a : Am, okA Lib.validD a → ¬ (a.kind = 2 ∨ a.kind = 3) → a.text = [] := fun a ha h2 => by
    rcases ha.2.2 with ⟨-, h⟩ | ⟨h, -⟩ | ⟨h, -⟩ | ⟨-, h, -⟩
    · exact h
    · exact absurd (.inl h) h2
    · exact absurd (.inr h) h2
    · exact h
  induction h with
  | nil => intro _; exact Nat.le_refl _
  | @leaf x d N M o hx h ih =>
    intro hall
    have h1 := ih (fun y hy => hall y (List.mem_cons_of_mem _ hy))
    have h2 : x.text.length ≤ (tell x).length := by
      rw [tell]
      split
      · rw [List.length_append]; omega
      · rename_i h3
        rw [hnil x (hall x (List.mem_cons_self ..)) h3]
        exact Nat.zero_le _
    rw [List.map_cons, List.sum_cons, List.flatten_cons, List.length_append]
    omega
  | @node x dK K MK oK d N M o hx hm hK h ihK ih =>
    intro hall
    have h1 := ihK (fun y hy => hall y (List.mem_cons_of_mem _ (List.mem_append_left _ hy)))
    have h2 := ih (fun y hy => hall y (List.mem_cons_of_mem _ (List.mem_append_right _ hy)))
    have h3 := hnil x (hall x (List.mem_cons_self ..)) (holds_noX hx)
    rw [List.map_cons, List.sum_cons, List.map_append, List.sum_append, List.flatten_cons, List.length_append, List.length_append, h3, List.length_nil]
    omega
theorem sum_mem {l : List Am} {a : Am} (h : a ∈ l) : a.text.length ≤ (l.map fun a => a.text.length).sum := by
  induction l with
  | nil => cases h
  | cons b l ih =>
    rw [List.map_cons, List.sum_cons]
    rcases List.mem_cons.1 h with rfl | h
    · omega
    · have := ih h; omega
theorem Apart.text {S : List UInt8} {l : List Am} {d : Nat} (h : Apart S l d) {a : Am} (ha : a ∈ l) : a.text.length ≤ 262144 := by
  obtain ⟨dd, hI, -⟩ := h.one
  have h1 := its_texts hI h.ok
  have h2 := sum_mem ha
  have h3 := h.bytes
  rw [List.flatten_cons, List.flatten_nil, List.append_nil] at h1
  omega
theorem hdL_len (x : Ev) : (hdL x).length = 2 := by unfold hdL; split <;> rfl
theorem tlL_len (x : Ev) : 1 ≤ (tlL x).length ∧ (tlL x).length ≤ 2 := by unfold tlL; split <;> simp
theorem hdL_cell (x : Ev) (ys : List Value) : (rcells (hdL x) ++ ys)[0]? = some (.int .i64 6) := by unfold hdL; split <;> rfl
theorem tlL_cell (x : Ev) : (rcells (tlL x))[0]? = some (.int .i64 2) := by unfold tlL; split <;> rfl
theorem atoms_len (x : Ev) (l : List Am) : (atomsOf x l).length = 2 + 1 + l.length + (tlL x).length := by
  rw [atomsOf, List.length_append, List.length_append, List.length_append, hdL_len, List.length_map]
  rfl
theorem atoms_cells (x : Ev) (l : List Am) : rcells (atomsOf x l) = rcells (hdL x) ++ rv ⟨2, 0, x.header⟩ ++ rcells (l.map up) ++ rcells (tlL x) := by
  rw [atomsOf, Co.rcells_append, Co.rcells_append, Co.rcells_append]
  congr 3
theorem atoms_num {x : Ev} {S : List UInt8} {l : List Am} {d : Nat} (h : Apart S l d) : ∀ a ∈ atomsOf x l, a.num < 18446744073709551616 := by
  intro a ha
  rw [atomsOf, List.mem_append, List.mem_append, List.mem_append] at ha
  rcases ha with ((ha | ha) | ha) | ha
  · unfold hdL at ha
    split at ha <;> (simp only [List.mem_cons, List.mem_nil_iff, or_false] at ha; rcases ha with rfl | rfl <;> decide)
  · simp only [List.mem_cons, List.mem_nil_iff, or_false] at ha; subst ha; exact (by decide : (0 : Nat) < 18446744073709551616)
  · obtain ⟨b, hb, rfl⟩ := List.mem_map.1 ha
    exact (h.ok b hb).1
  · unfold tlL at ha
    split at ha <;> simp only [List.mem_cons, List.mem_nil_iff, or_false] at ha
    · rcases ha with rfl | rfl <;> exact (by decide : (0 : Nat) < 18446744073709551616)
    · subst ha; exact (by decide : (0 : Nat) < 18446744073709551616)
theorem atoms_text {x : Ev} {S : List UInt8} {l : List Am} {d : Nat} (h : Apart S l d) (hh : x.header.length ≤ 100000000000) (hc : x.cipher.length ≤ 100000000000) (ht : x.tag.length ≤ 100000000000) : ∀ a ∈ atomsOf x l, a.text.length ≤ 140737488351232 := by
  intro a ha
  rw [atomsOf, List.mem_append, List.mem_append, List.mem_append] at ha
  rcases ha with ((ha | ha) | ha) | ha
  · unfold hdL at ha
    split at ha <;> (simp only [List.mem_cons, List.mem_nil_iff, or_false] at ha; rcases ha with rfl | rfl <;> decide)
  · simp only [List.mem_cons, List.mem_nil_iff, or_false] at ha; subst ha; show x.header.length ≤ _; omega
  · obtain ⟨b, hb, rfl⟩ := List.mem_map.1 ha
    have := h.text hb
    show b.text.length ≤ _; omega
  · unfold tlL at ha
    split at ha <;> simp only [List.mem_cons, List.mem_nil_iff, or_false] at ha
    · rcases ha with rfl | rfl
      · show x.cipher.length ≤ _; omega
      · show x.tag.length ≤ _; omega
    · subst ha; show (x.cipher ++ x.tag).length ≤ _; rw [List.length_append]; omega
/-- while atoms are put behind each other: what lies in other blocks -/
structure Fk (x : Ev) (l : List Am) (vx : Value) (B T gq gl : Nat) (w0 w : World) : Prop where
  tl : At w gq 0 (rcells (tlL x))
  lo : At w gl 0 (rcells (l.map up))
  ev : At w B 0 (evcells x vx)
  be : Below B w0 w
  q1 : T < gq
  q2 : gq < w.heap.size
  t1 : gl < T
  t2 : B + 1 ≤ T
theorem Fk.grown {x : Ev} {l : List Am} {vx : Value} {B T gq gl : Nat} {w0 w w' : World} {row : Option Nat} (h : Fk x l vx B T gq gl w0 w) (hg : w.grownBy w' row) (hr : ∀ k, row = some k → T ≤ k ∧ k ≠ gq) : Fk x l vx B T gq gl w0 w' := by
  have h1 := h.q1
  have h2 := h.q2
  have h3 := h.t1
  have h4 := h.t2
  have hs : w.heap.size ≤ w'.heap.size := ((Below.refl 0 w).grown hg (Nat.zero_le _) (fun k _ => Nat.zero_le k)).size
  exact ⟨h.tl.grown hg h2 (fun e => (hr gq e).2 rfl), h.lo.grown hg (by omega) (fun e => by have := (hr gl e).1; omega), h.ev.grown hg (by omega) (fun e => by have := (hr B e).1; omega), h.be.grown hg (by omega) (fun k hk => by have := (hr k hk).1; omega), h1, by omega, h3, h4⟩
theorem Fk.below {x : Ev} {l : List Am} {vx : Value} {B T gq gl : Nat} {w0 w w' : World} (h : Fk x l vx B T gq gl w0 w) (hb : Below w.heap.size w w') : Fk x l vx B T gq gl w0 w' := by
  have h1 := h.q1
  have h2 := h.q2
  have h3 := h.t1
  have h4 := h.t2
  have hs := hb.size
  exact ⟨h.tl.below hb h2, h.lo.below hb (by omega), h.ev.below hb (by omega), h.be.trans (hb.mono (by omega)), h1, by omega, h3, h4⟩
theorem Fk.ne {x : Ev} {l : List Am} {vx : Value} {B T gq gl : Nat} {w0 w : World} {v : Value} {n : Nat} {ys : List Value} (h : Fk x l vx B T gq gl w0 w) (ho : w.ownsRow T 51 3 v n (rcells (hdL x) ++ ys)) (hn : 0 < n) : ∀ k, v.ownBlock = some k → T ≤ k ∧ k ≠ gq := by
  intro k hk
  refine ⟨(ho.lt k hk).1, ?_⟩
  rintro rfl
  obtain ⟨a, c, rfl, ha⟩ := own_form ho
  obtain ⟨g, rfl⟩ := ha hn
  obtain rfl : g = k := by simpa [Value.ownBlock] using hk
  have h1 := (At.ofOwnN ho 0 _ (hdL_cell x ys)).1
  have h2 := (h.tl 0 _ (tlL_cell x)).1
  rw [h1] at h2
  simp at h2
theorem go_short {txt : List UInt8 → Bool} {b : Bool} : ∀ (r : List Ra) (t : Co.Tl), (Co.go txt b r t).1.length ≤ 262144
  | [], t => by
    rw [Co.go, Co.fins]
    split
    · exact Nat.zero_le _
    split
    · exact Nat.zero_le _
    rename_i h
    split
    · exact Nat.zero_le _
    show t.out.length ≤ _
    omega
  | a :: r, t => by
    rw [Co.go]
    split
    · exact Nat.zero_le _
    · exact go_short r _
theorem enc_short {txt : List UInt8 → Bool} (l : List Ra) : (enc txt l).1.length ≤ 262144 := by
  rw [enc]
  split
  · exact Nat.zero_le _
  · exact go_short _ _
theorem chk_or (S : List UInt8) (x : Ev) (y : Int × Ev) : Chk S x y = 0 ∨ Chk S x y = 2 := by
  rw [Chk]
  split
  · exact .inr rfl
  · exact .inl rfl
/-- while the parts are made: what lies where -/
structure Gk (hc : List Value) (x : Ev) (l : List Am) (vx : Value) (B T gl : Nat) (w0 w : World) : Prop where
  hd : w.ownsRow T 51 3 (.slice (some ⟨T, 0, none⟩) 2 2) 2 hc
  lo : At w gl 0 (rcells (l.map up))
  ev : At w B 0 (evcells x vx)
  be : Below B w0 w
  sz : T < w.heap.size
  t1 : gl < T
  t2 : B + 1 ≤ T
theorem Gk.below {hc : List Value} {x : Ev} {l : List Am} {vx : Value} {B T gl : Nat} {w0 w w' : World} (h : Gk hc x l vx B T gl w0 w) (hb : Below w.heap.size w w') : Gk hc x l vx B T gl w0 w' := by
  have h1 := h.sz
  have h2 := h.t1
  have h3 := h.t2
  have hs := hb.size
  exact ⟨own_below h.hd hb (Nat.le_refl _), h.lo.below hb (by omega), h.ev.below hb (by omega), h.be.trans (hb.mono (by omega)), by omega, h2, h3⟩
theorem Gk.belowN {hc : List Value} {x : Ev} {l : List Am} {vx : Value} {B T gl : Nat} {w0 w w' : World} (h : Gk hc x l vx B T gl w0 w) (k : Nat) (hb : Below (w.drewN k).heap.size (w.drewN k) w') : Gk hc x l vx B T gl w0 w' :=
  h.below ((bdN (Below.refl w.heap.size w) k).trans hb)
theorem Gk.setHead {hc : List Value} {x : Ev} {l : List Am} {vx : Value} {B T gl : Nat} {w0 w : World} (h : Gk hc x l vx B T gl w0 w) (j : Nat) (u : Value) : Gk (hc.set j u) x l vx B T gl w0 (w.setCell ⟨T, j, none⟩ u) := by
  have h1 := h.sz
  have h2 := h.t1
  have h3 := h.t2
  exact ⟨(h.hd.stored j u).1, h.lo.other T j u (.inl (by omega)), h.ev.other T j u (.inl (by omega)), h.be.setCell (by show B ≤ T; omega) u, by rw [Co.set_size]; exact h1, h2, h3⟩
theorem Gk.fk {hc : List Value} {x : Ev} {l : List Am} {vx : Value} {B T gl gq : Nat} {w0 w : World} (h : Gk hc x l vx B T gl w0 w) (hq : At w gq 0 (rcells (tlL x))) (h1 : T < gq) (h2 : gq < w.heap.size) : Fk x l vx B T gq gl w0 w := ⟨hq, h.lo, h.ev, h.be, h1, h2, h.t1, h.t2⟩
theorem sr_own {w : World} {T n : Nat} {v : Value} {L : List Ra} (ho : w.ownsRow T 51 3 v n (rcells L)) (hn : L.length = n) : Co.SrO w v L := by
  obtain ⟨a, c, rfl, ha⟩ := own_form ho
  refine ⟨a, c, by rw [hn], fun hL => ?_⟩
  obtain ⟨g, rfl⟩ := ha (by rw [← hn]; exact List.length_pos_iff.2 hL)
  exact ⟨g, 0, rfl, At.ofOwnN ho, (ho.lt g rfl).2⟩
end Ce
end Go.Proofs.YtikgonlhdkknkaaDoor
namespace Go.Proofs.YtikgonlhdkknkaaDoor
set_option linter.unusedVariables false
set_option linter.unusedSimpArgs false
namespace Ce
open Co (Am Ra Its need holds tell hdN okA DecR decL decE up enc mayOk mayOk_yes)
open Dr (Rs)
theorem Rd.most {S : List UInt8} {d i b ro : Int} {x : Ev} (h : Rd S d i b ro (0, x)) : Rd S 32 4096 262144 4096 (0, x) := by
  obtain ⟨l, H, h1, h2, h3, h4, h5, -⟩ := canon_of h
  have hz := itE_zero (rdE_zero h4).1
  have hH : Hd (hdrN l) 32 4096 262144 4096 H := by
    intro ht
    have h6 := h3 ht
    have h7 := hz.2.1
    rw [hdE, if_neg ht] at h7
    cases H with
    | no c p f =>
      have h8 : ¬ c = 0 := decE_no h6
      rw [decE, if_pos h8] at h7
      exact absurd h7 h8
    | ok m => exact (apart h6).dec
  have h9 := Rd.all (apart h1).dec h2 hH
  rw [h4, ← h5] at h9
  exact h9
theorem Rd.sz {S : List UInt8} {d i b ro : Int} {x : Ev} (h : Rd S d i b ro (0, x)) : S.length ≤ 262144 := by
  obtain ⟨l, H, h1, -⟩ := canon_of h
  exact (apart h1).bytes
theorem tell_gives {x : Ev} {R : List UInt8 × Int} (h : TellR x R) (hr : Rd (canon x) 32 4096 262144 4096 (0, x)) : R = (canon x, 0) := by
  obtain ⟨l, H, h1, h2, h3, h4, h5, -, Bs, hL, hlo, hw, hl⟩ := canon_of hr
  have ha := apart h1
  have hp1 : Apart x.loose (partN l 1) (32 : Int).toNat := by
    rw [hlo]
    exact hL.part ha 1 (by rw [hw]; split <;> omega)
  have hd := hp1.dec
  have hat : atomsOf x (partN l 1) = l.map up := by
    rw [atomsOf, hdL, tlL]
    by_cases h6 : x.format = 6
    · rw [if_pos h6] at hl
      rw [if_pos h6, if_pos h6]
      conv => rhs; rw [hl]
      simp [up]
    · rw [if_neg h6] at hl
      rw [if_neg h6, if_neg h6]
      conv => rhs; rw [hl]
      simp [up]
  have hen : enc Lib.validD (atomsOf x (partN l 1)) = (canon x, 0) := by rw [hat]; exact ha.enc
  cases h with
  | no h6 => cases DecR.same hd h6
  | bad h6 h7 =>
    cases DecR.same hd h6
    rw [hen] at h7
    exact absurd rfl h7
  | @all m y h6 h7 h8 =>
    cases DecR.same hd h6
    rw [hen] at h8
    cases hr.same h8
    rw [hen]
    have hc : Chk (canon x) x (0, x) = 0 := by rw [Chk, if_neg (by simp)]
    rw [if_pos hc]
theorem tell_got {x : Ev} {R : List UInt8 × Int} (h : TellR x R) : R = ([], 2) ∨ (R = (canon x, 0) ∧ Rd (canon x) 32 4096 262144 4096 (0, x)) := by
  cases h with
  | no _ => exact .inl rfl
  | bad _ _ => exact .inl rfl
  | @all l y h1 h2 h3 =>
    by_cases hc : Chk (enc Lib.validD (atomsOf x l)).1 x y = 0
    · rw [if_pos hc]
      rw [Chk] at hc
      by_cases hq : y.1 ≠ 0 ∨ ¬ y.2 = x
      · rw [if_pos hq] at hc; cases hc
      have hy : y = (0, x) := by
        rcases y with ⟨y1, y2⟩
        have h4 : y1 = 0 := Decidable.byContradiction (fun h => hq (.inl h))
        have h5 : y2 = x := Decidable.byContradiction (fun h => hq (.inr h))
        rw [h4, h5]
      subst hy
      obtain ⟨_, _, -, -, -, -, -, h6, -⟩ := canon_of h3
      rw [h6] at h3 ⊢
      exact .inr ⟨rfl, h3⟩
    · rw [if_neg hc]
      exact .inl rfl
end Ce
end Go.Proofs.YtikgonlhdkknkaaDoor
namespace Go.Proofs.YtikgonlhdkknkaaDoor
open Go.RowKit
set_option linter.unusedVariables false
set_option linter.unusedSimpArgs false
namespace Ce
open Co (Am Ra up rcells rv UT DecR enc Its holds tell okA)
set_option maxRecDepth 100000 in
set_option maxHeartbeats 3200000 in
theorem ctell_any (x : Ev) (vx : Value) (w : World) (hx : Ty w vx x.rcs) (hl : x.rcs.length ≤ 140737488351232) (hlo : x.loose.length ≤ 100000000000) (hhe : x.header.length ≤ 100000000000) (hci : x.cipher.length ≤ 100000000000) (hta : x.tag.length ≤ 100000000000) (hU : UT w.heap.size w) :
    Calls Tryd.prog 8 #[evv x vx] w (RetTell x w) := by
  obtain ⟨B, hB⟩ : ∃ B, w.heap.size = B := ⟨_, rfl⟩
  have HBB := Lib.hid hB
  have GR := Lib.hid (fun w => greatest_any w)
  have DC := Lib.hid (fun w' hU => Co.decode_any (bs x.loose) 32 4096 262144 4096 w' (by rw [show (bs x.loose).size = x.loose.length from rfl]; omega) hU)
  have hB0 : Below w.heap.size w (w.alloc (Obj.cells (evcells x vx).toArray 24)) := (Below.refl _ _).alloc (Nat.le_refl _) _
  have hX0 := hx.below hB0
  have hA0 := At.ofAlloc w (evcells x vx).toArray 24
  have HU := Lib.hid hU
  have HLX := Lib.hid hl
  have HSZ := Lib.hid (And.intro hlo (And.intro hhe (And.intro hci hta)))
  have HXW := Lib.hid hx
  obtain ⟨ax, cx, rfl, -⟩ := hx
  obtain ⟨nx, hnx⟩ : ∃ n, x.rcs.length = n := ⟨_, rfl⟩
  have HNX := Lib.hid hnx
  rw [hnx] at hB0 hX0 hA0 ⊢
  have HEV : Hid (evv x (.slice ax nx cx) = .agg (evcells x (.slice ax nx cx)).toArray) := rfl
  unfold evcells at hB0 hX0 hA0
  rw [HEV.out]
  unfold evcells
  clear hlo hhe hci hta hl hU hnx
  go_enter Tryd.func8, Tryd.ntmps8
  go_upto_region 1 with fail
  obtain ⟨w0, hw0⟩ : ∃ q, w.alloc (Obj.cells #[.int .i64 x.format, .int .i64 x.alg, .slice ax nx cx, .string (bs x.header), .string (bs x.loose), .string (bs x.aad), .string (bs x.iv), .string (bs x.cipher), .string (bs x.tag)] 24) = q := ⟨_, rfl⟩
  have HS0 : Hid (w0.heap.size = B + 1) := by show _ = _; rw [← hw0, ← hB]; simp
  rw [hw0] at hB0 hX0 hA0
  try rw [hw0]
  rw [hB] at hB0 hA0
  try rw [hB]
  have HB0 := Lib.hid hB0
  have HX0 := Lib.hid hX0
  have HA0 := Lib.hid hA0
  have HU0 : Hid (UT w0.heap.size w0) := by
    have h1 : UT B w := by rw [← HBB.out]; exact HU.out
    exact (h1.below hB0).mono (by rw [HS0.out]; omega)
  have a4 := hA0.cell 4 _ rfl
  rw [Nat.zero_add] at a4
  have HQ : Hid (∀ k w1, Below (w0.drewN k).heap.size (w0.drewN k) w1 → Below B w w1 ∧ UT w1.heap.size w1 ∧ At w1 B 0 [.int .i64 x.format, .int .i64 x.alg, .slice ax nx cx, .string (bs x.header), .string (bs x.loose), .string (bs x.aad), .string (bs x.iv), .string (bs x.cipher), .string (bs x.tag)] ∧ B + 1 ≤ w1.heap.size ∧ Ty w1 (.slice ax nx cx) x.rcs) := by
    intro k w1 hb
    have h2 : w0.heap.size = B + 1 := HS0.out
    have h3 : Below w0.heap.size w0 w1 := ⟨hb.os, hb.tape, hb.output, hb.size, hb.block⟩
    have h4 : Below B w w1 := HB0.out.trans (h3.mono (by omega))
    have h5 : B + 1 ≤ w1.heap.size := by have h6 := h3.size; omega
    have h1 : UT B w := by rw [← HBB.out]; exact HU.out
    exact ⟨h4, (h1.below h4).mono (by omega), HA0.out.below h3 (by omega), h5, HX0.out.below h3⟩
  clear hw0 hB0 hX0 hA0 hB
  go_cut [4, 6] from 11 to 18 (fun v4 v6 w2 => ∃ rr, v6 = .int .i64 (Co.decE rr) ∧ DecR x.loose 32 4096 262144 4096 rr ∧ Hid (Below B w w2) ∧ Hid (UT w2.heap.size w2) ∧ Hid (At w2 B 0 [.int .i64 x.format, .int .i64 x.alg, .slice ax nx cx, .string (bs x.header), .string (bs x.loose), .string (bs x.aad), .string (bs x.iv), .string (bs x.cipher), .string (bs x.tag)]) ∧ Hid (B + 1 ≤ w2.heap.size) ∧ Hid (Ty w2 (.slice ax nx cx) x.rcs) ∧ Hid (w2.ownsRow 0 51 3 v4 (Co.decL rr).length (rcells ((Co.decL rr).map up))))
  case first =>
    go_region_with (first
    | (go_at_call 19; refine (GR.out _).mono ?_; rintro e w1 ⟨rfl, hb1⟩; have HW1 := Lib.hid (HQ.out 1 w1 hb1); have a41 := HW1.out.2.2.1.cell 4 _ rfl; rw [Nat.zero_add] at a41; clear hb1)
    | (go_at_call 18; refine (DC.out _ HW1.out.2.1).mono ?_; rintro e w2 ⟨rr, hr, v, rfl, ho, hb2⟩; have HR := Lib.hid hr; have HO := Lib.hid ho; have HB2 := Lib.hid hb2; clear hr ho hb2))
    all_goals (go_wp2_with fail)
    all_goals go_meet
    all_goals
      exact ⟨rr, rfl, by have h := HR.out; rw [bs_list] at h; exact h, HW1.out.1.trans (HB2.out.mono (by have := HW1.out.2.2.2.1; omega)), (HW1.out.2.1.below HB2.out).mono HB2.out.size, HW1.out.2.2.1.below HB2.out (by have := HW1.out.2.2.2.1; omega), Nat.le_trans HW1.out.2.2.2.1 HB2.out.size, HW1.out.2.2.2.2.below HB2.out, Co.own_base HO.out (Nat.zero_le _)⟩
  case rest =>
  obtain ⟨rr, rfl, hr, HB2, HU2, HA2, HS2, HX2, HO2⟩ := hcut
  have HR := Lib.hid hr
  clear hr
  cases rr with
  | no c p f =>
    simp only [Co.decE]
    have hc : ¬ c = 0 := decE_no HR.out
    have hcb : (c != 0) = true := by simpa using hc
    clear hc
    go_wp2_with fail
    go_ret2
    exact ⟨([], 2), .no HR.out, rfl, by rw [HBB.out]; exact HB2.out⟩
  | ok l =>
    simp only [Co.decL, Co.decE] at HO2 ⊢
    have HAP := Lib.hid (apart HR.out)
    obtain ⟨T, hT⟩ : ∃ T, wc.heap.size = T := ⟨_, rfl⟩
    obtain ⟨av, cv, rfl, hav⟩ := own_form HO2.out
    obtain ⟨gl, rfl⟩ := hav (List.length_pos_iff.2 HAP.out.one.ne)
    clear hav
    go_upto_region 5 with fail
    obtain ⟨w3, hw3⟩ : ∃ q, wc.alloc (Obj.cells #[.int .i64 6, .int .u64 16, .string ⟨#[]⟩, .int .i64 4, .int .u64 3, .string ⟨#[]⟩] 51) = q := ⟨_, rfl⟩
    have hb3 : Below wc.heap.size wc w3 := by rw [← hw3]; exact (Below.refl _ _).alloc (Nat.le_refl _) _
    have HG3 : Hid (Gk [.int .i64 6, .int .u64 16, .string ⟨#[]⟩, .int .i64 4, .int .u64 3, .string ⟨#[]⟩] x l (.slice ax nx cx) B T gl w w3) := by
      refine ⟨?_, (At.ofOwnN HO2.out).below hb3 (HO2.out.lt gl rfl).2, HA2.out.below hb3 (by have := HS2.out; omega), HB2.out.trans (hb3.mono (by have := HS2.out; omega)), by rw [← hw3, ← hT]; simp, by rw [← hT]; exact (HO2.out.lt gl rfl).2, by rw [← hT]; exact HS2.out⟩
      show World.ownsRow _ _ _ _ _ _ _
      rw [← hw3, ← hT]
      exact World.ownsRow_lit (base := wc.heap.size) (e := 51) (size := 3) wc #[.int .i64 6, .int .u64 16, .string ⟨#[]⟩, .int .i64 4, .int .u64 3, .string ⟨#[]⟩] 2 (Nat.le_refl _) (by unfold maxLen; omega) rfl
    rw [hw3]
    try rw [hT]
    clear hw3 hT hb3 HO2 HA2 HX2 HB2 HS2 HU2
    have a0 := HG3.out.ev.cell 0 _ rfl
    have a7 := HG3.out.ev.cell 7 _ rfl
    have a8 := HG3.out.ev.cell 8 _ rfl
    rw [Nat.zero_add] at a0 a7 a8
    have hov : ¬ 9223372036854775807 < (bs x.cipher).size + (bs x.tag).size := by
      have h1 := HSZ.out
      rw [show (bs x.cipher).size = x.cipher.length from rfl, show (bs x.tag).size = x.tag.length from rfl]
      omega
    go_wp2_with fail
    refine (cbytes_any _ w3).mono ?_
    rintro e w4 ⟨rfl, hb4⟩
    have HG4 := Lib.hid (HG3.out.below hb4)
    clear hb4 a0 a7 a8 HG3
    obtain ⟨U, hU⟩ : ∃ T, w4.heap.size = T := ⟨_, rfl⟩
    go_upto_region 6 with fail
    obtain ⟨w5, hw5⟩ : ∃ q, w4.alloc (Obj.cells #[.int .i64 2, .int .u64 0, .string (bs x.cipher ++ bs x.tag)] 51) = q := ⟨_, rfl⟩
    have hb5 : Below w4.heap.size w4 w5 := by rw [← hw5]; exact (Below.refl _ _).alloc (Nat.le_refl _) _
    have HC5 : Hid (At w5 U 0 [.int .i64 2, .int .u64 0, .string (bs x.cipher ++ bs x.tag)]) := by
      show At _ _ _ _
      rw [← hw5, ← hU]
      exact At.ofAlloc w4 #[.int .i64 2, .int .u64 0, .string (bs x.cipher ++ bs x.tag)] 51
    have HG5 := Lib.hid (HG4.out.below hb5)
    have HS5 : Hid (w5.heap.size = U + 1 ∧ T < U) := ⟨by rw [← hw5, ← hU]; simp, by rw [← hU]; exact HG4.out.sz⟩
    rw [hw5]
    try rw [hU]
    clear hw5 hU hb5 HG4
    have a0 := HG5.out.ev.cell 0 _ rfl
    rw [Nat.zero_add] at a0
    obtain ⟨bb, hbb⟩ : ∃ b, (x.format == 6) = b := ⟨_, rfl⟩
    go_upto_if 32 with fail
    have HBB6 := Lib.hid hbb
    clear hbb a0
    go_cut [8] from 32 to 46 (fun v8 wx => ∃ gq k, v8 = .slice (some ⟨gq, 0, none⟩) k k ∧ Hid (k = (tlL x).length) ∧ Hid (At wx gq 0 (rcells (tlL x)) ∧ T < gq ∧ gq < wx.heap.size) ∧ Hid (Gk (rcells (hdL x)) x l (.slice ax nx cx) B T gl w wx))
    case first =>
      cases bb
      case true =>
        have h6 : x.format = 6 := by have h := HBB6.out; simpa using h
        have HTL : Hid (tlL x = [⟨2, 0, x.cipher⟩, ⟨2, 0, x.tag⟩]) := by show _ = _; rw [tlL, if_pos h6]
        have HHD : Hid (hdL x = [⟨6, 17, []⟩, ⟨4, 4, []⟩]) := by show _ = _; rw [hdL, if_pos h6]
        have T1 : Hid (1 = 1) := rfl
        have c1 := (At.ofOwnN HG5.out.hd).cell 1 _ rfl
        have c4 := (At.ofOwnN HG5.out.hd).cell 4 _ rfl
        rw [Nat.zero_add] at c1 c4
        have f1 : w5.frozen? ⟨T, 1, none⟩ = false := by have h := (At.ofOwnN HG5.out.hd 1 _ rfl).2; rw [Nat.zero_add] at h; exact h
        have f4 : (w5.setCell ⟨T, 1, none⟩ (.int .u64 17)).frozen? ⟨T, 4, none⟩ = false := (World.frozen?_setCell _ _ _ _).trans (by have h := (At.ofOwnN HG5.out.hd 4 _ rfl).2; rw [Nat.zero_add] at h; exact h)
        clear h6
        go_upto_region 8 with fail
        have hg6 := (HG5.out.setHead 1 (.int .u64 17)).setHead 4 (.int .u64 4)
        obtain ⟨w6, hw6⟩ : ∃ q, (w5.setCell ⟨T, 1, none⟩ (.int .u64 17)).setCell ⟨T, 4, none⟩ (.int .u64 4) = q := ⟨_, rfl⟩
        rw [hw6] at hg6
        try rw [hw6]
        have HG6 : Hid (Gk (rcells (hdL x)) x l (.slice ax nx cx) B T gl w w6) := by
          show Gk _ _ _ _ _ _ _ _ _
          rw [HHD.out]
          exact hg6
        clear hw6 hg6 c1 c4 f1 f4 HG5 HC5 HS5
        have a7 := HG6.out.ev.cell 7 _ rfl
        have a8 := HG6.out.ev.cell 8 _ rfl
        rw [Nat.zero_add] at a7 a8
        go_wp2_with fail
        go_region_with (first
          | (go_at_call 20; clear T1; refine (cbytes_any _ _).mono ?_; rintro e wa ⟨rfl, hba⟩; have HGa : Hid (Gk (rcells (hdL x)) x l (.slice ax nx cx) B T gl w wa) := by { first | exact HG6.out.belowN _ hba | exact HG6.out.below hba }; have b7 := HGa.out.ev.cell 7 _ rfl; have b8 := HGa.out.ev.cell 8 _ rfl; rw [Nat.zero_add] at b7 b8; clear hba)
          | (go_at_call 20; refine (cbytes_any _ _).mono ?_; rintro e wb ⟨rfl, hbb⟩; have HGb : Hid (Gk (rcells (hdL x)) x l (.slice ax nx cx) B T gl w wb) := by { first | exact HGa.out.below hbb | exact HGa.out.belowN _ hbb }; clear hbb))
        all_goals (go_wp2_with fail)
        all_goals go_meet
        all_goals exact ⟨wb.heap.size, 2, rfl, by rw [HTL.out]; rfl, ⟨by rw [HTL.out]; exact At.ofAlloc wb #[.int .i64 2, .int .u64 0, .string (bs x.cipher), .int .i64 2, .int .u64 0, .string (bs x.tag)] 51, by have := HGb.out.sz; omega, by simp⟩, HGb.out.below ((Below.refl _ _).alloc (Nat.le_refl _) _)⟩
      case false =>
        have h6 : ¬ x.format = 6 := by have h := HBB6.out; rw [beq_eq_false_iff_ne] at h; exact h
        have HTL : Hid (tlL x = [⟨2, 0, x.cipher ++ x.tag⟩]) := by show _ = _; rw [tlL, if_neg h6]
        have HHD : Hid (hdL x = [⟨6, 16, []⟩, ⟨4, 3, []⟩]) := by show _ = _; rw [hdL, if_neg h6]
        clear h6
        go_wp2_with fail
        go_meet
        case rel => exact ⟨U, 1, rfl, by rw [HTL.out]; rfl, ⟨by rw [HTL.out]; have h1 := HC5.out; rw [bs_app] at h1; exact h1, by have := HS5.out; omega, by have := HS5.out; omega⟩, by rw [HHD.out]; exact HG5.out⟩
    case rest =>
      obtain ⟨gq, k, rfl, hk, HC6, HG6⟩ := hcut
      obtain ⟨i0, hi, hq⟩ := Option.map_eq_some_iff.1 Co.infoA
      simp only [Prod.mk.injEq] at hq
      obtain ⟨hz0, hz1, hz2⟩ := hq
      have HL6 := Lib.hid HG6.out.hd
      have HF6 := Lib.hid (HG6.out.fk HC6.out.1 HC6.out.2.1 HC6.out.2.2)
      have a3 := HG6.out.ev.cell 3 _ rfl
      rw [Nat.zero_add] at a3
      clear HC6 HG6
      go_wp2_with fail
      refine (cbytes_any _ _).mono ?_
      rintro e w7 ⟨rfl, hb7⟩
      have HL7 := Lib.hid (own_below HL6.out hb7 (Nat.le_refl _))
      have HF7 := Lib.hid (HF6.out.below hb7)
      have hb8 : Below w7.heap.size w7 (w7.alloc (Obj.cells #[.int .i64 2, .int .u64 0, .string (bs x.header)] 51)) := (Below.refl _ _).alloc (Nat.le_refl _) _
      have HH8 : Hid (At (w7.alloc (Obj.cells #[.int .i64 2, .int .u64 0, .string (bs x.header)] 51)) w7.heap.size 0 (rv ⟨2, 0, x.header⟩)) := At.ofAlloc w7 #[.int .i64 2, .int .u64 0, .string (bs x.header)] 51
      have HL8 := Lib.hid (own_below HL7.out hb8 (Nat.le_refl _))
      have HF8 := Lib.hid (HF7.out.below hb8)
      have HLL : Hid (l.length ≤ 4096) := HAP.out.len
      have HTL : Hid (1 ≤ k ∧ k ≤ 2) := by have h1 := tlL_len x; rw [← hk.out] at h1; exact h1
      have HN2 : Hid ((rcells (l.map up)).length = l.length * 3) := by show _ = _; rw [Co.rcells_length, List.length_map, Nat.mul_comm]
      have HN3 : Hid ((rcells (tlL x)).length = k * 3) := by show _ = _; rw [Co.rcells_length, hk.out, Nat.mul_comm]
      clear hb7 hb8 HL7 a3 HL6 HF6 HF7
      go_wp2_with (first
        | (at_builtin; refine wpList_append_own _ rfl (.tmp 46) (.tmp 50) 46 rfl T 51 i0 _ 3 32 Tryd.underlying46 hi hz0 hz1 hz2 rfl (by decide) _ 2 (rcells (hdL x)) rfl HL8.out ⟨w7.heap.size, 0, none⟩ 1 1 (rv ⟨2, 0, x.header⟩) rfl rfl (Co.at_cellsO HH8.out) (Co.rv_one _) (by unfold maxLen; omega) (by omega) (by have := HF8.out.q1; have := HF8.out.q2; omega) ?_; intro v9 w9 hown9 hgrow9 _; have HO9 := Lib.hid hown9; have HF9 := Lib.hid (HF8.out.grown hgrow9 (fun k hk => by obtain rfl : T = k := by { exact Option.some.inj (show some T = some k from hk) }; exact ⟨Nat.le_refl _, by have := HF8.out.q1; omega⟩)); clear hown9 hgrow9 HF8 HL8 HH8)
        | (at_builtin; refine wpList_append_own _ rfl (.tmp 51) (.tmp 52) 46 rfl T 51 i0 _ 3 32 Tryd.underlying46 hi hz0 hz1 hz2 rfl (by decide) _ (2 + 1) (rcells (hdL x) ++ rv ⟨2, 0, x.header⟩) rfl HO9.out ⟨gl, 0, none⟩ l.length cv (rcells (l.map up)) rfl HN2.out (Co.at_cellsO HF9.out.lo) (Co.rcells_one _) (by have := HLL.out; unfold maxLen; omega) (by have := HLL.out; omega) (by have := HF9.out.q1; have := HF9.out.q2; omega) ?_; intro v10 w10 hown10 hgrow10 _; have HO10 := Lib.hid hown10; have HF10 := Lib.hid (HF9.out.grown hgrow10 (HF9.out.ne HO9.out (by omega))); clear hown10 hgrow10 HF9 HO9)
        | (at_builtin; refine wpList_append_own _ rfl (.tmp 53) (.tmp 54) 46 rfl T 51 i0 _ 3 32 Tryd.underlying46 hi hz0 hz1 hz2 rfl (by decide) _ (2 + 1 + l.length) (rcells (hdL x) ++ rv ⟨2, 0, x.header⟩ ++ rcells (l.map up)) rfl HO10.out ⟨gq, 0, none⟩ k k (rcells (tlL x)) rfl HN3.out (Co.at_cellsO HF10.out.tl) (Co.rcells_one _) (by have := HLL.out; have := HTL.out; unfold maxLen; omega) (by have := HLL.out; have := HTL.out; omega) (by have := HF10.out.q1; have := HF10.out.q2; omega) ?_; intro v11 w11 hown11 hgrow11 _; have HO11 := Lib.hid hown11; have HF11 := Lib.hid (HF10.out.grown hgrow11 (HF10.out.ne (by have h := HO10.out; rw [List.append_assoc] at h; exact h) (by omega))); clear hown11 hgrow11 HF10 HO10))
      have HU11 : Hid (UT w11.heap.size w11) := by
        have h1 : UT B w := by rw [← HBB.out]; exact HU.out
        have h2 := HF11.out
        exact (h1.below h2.be).mono (by have := h2.q1; have := h2.q2; have := h2.t2; omega)
      have hso : Co.SrO w11 v11 (atomsOf x l) := sr_own (n := 2 + 1 + l.length + k) (by rw [atoms_cells]; exact HO11.out) (by rw [atoms_len, hk.out])
      have EN := Co.cencode_anyO (atomsOf x l) v11 w11 hso (atoms_num HAP.out) (atoms_text HAP.out HSZ.out.2.1 HSZ.out.2.2.1 HSZ.out.2.2.2) (by rw [atoms_len]; have := tlL_len x; have := HLL.out; omega) HU11.out
      refine EN.mono ?_
      clear EN hso
      rintro e w12 ⟨s, rfl, hs, hb12⟩
      have HSS := Lib.hid hs
      have HF12 := Lib.hid (HF11.out.below hb12)
      obtain ⟨ec, hec⟩ : ∃ q, (enc Lib.validD (atomsOf x l)).2 = q := ⟨_, rfl⟩
      rw [hec]
      have HEC := Lib.hid hec
      clear hs hb12 hec HF11 HO11 HU11
      by_cases h0 : ec = 0
      case neg =>
        have HE0 := Lib.hid h0
        have f0 : (ec != 0) = true := by simpa using h0
        clear h0
        go_wp2_with fail
        go_ret2
        exact ⟨([], 2), .bad HR.out (by rw [HEC.out]; exact HE0.out), rfl, by rw [HBB.out]; exact HF12.out.be⟩
      case pos =>
      subst h0
      have HX12 : Hid (Ty w12 (.slice ax nx cx) x.rcs) := by
        have h1 : Below w.heap.size w w12 := by rw [HBB.out]; exact HF12.out.be
        have h2 := HXW.out.below h1
        rw [HNX.out] at h2
        exact h2
      have HU12 : Hid (UT w12.heap.size w12) := by
        have h1 : UT B w := by rw [← HBB.out]; exact HU.out
        have h2 := HF12.out
        exact (h1.below h2.be).mono (by have := h2.q1; have := h2.q2; have := h2.t2; omega)
      have a0 := HF12.out.ev.cell 0 _ rfl
      have a1 := HF12.out.ev.cell 1 _ rfl
      have a2 := HF12.out.ev.cell 2 _ rfl
      have a3 := HF12.out.ev.cell 3 _ rfl
      have a4 := HF12.out.ev.cell 4 _ rfl
      have a5 := HF12.out.ev.cell 5 _ rfl
      have a6 := HF12.out.ev.cell 6 _ rfl
      have a7 := HF12.out.ev.cell 7 _ rfl
      have a8 := HF12.out.ev.cell 8 _ rfl
      rw [Nat.zero_add] at a0 a1 a2 a3 a4 a5 a6 a7 a8
      obtain rfl : s = bs (enc Lib.validD (atomsOf x l)).1 := tl_inj (HSS.out.trans (bs_list _).symm)
      have CK := checked_any (bs (enc Lib.validD (atomsOf x l)).1) x (.slice ax nx cx) w12 (by have := enc_short (txt := Lib.validD) (atomsOf x l); rw [show (bs (enc Lib.validD (atomsOf x l)).1).size = (enc Lib.validD (atomsOf x l)).1.length from rfl]; omega) HX12.out HLX.out HU12.out
      rw [HEV.out] at CK
      unfold evcells at CK
      have CK := Lib.hid CK
      go_wp2_with fail
      refine CK.out.mono ?_
      clear CK
      rintro e w13 ⟨y, hy, rfl, hb13⟩
      rw [bs_list] at hy ⊢
      have HY := Lib.hid hy
      have HB13 : Hid (Below B w w13) := HF12.out.be.trans (hb13.mono (by have h2 := HF12.out; have := h2.q1; have := h2.q2; have := h2.t2; omega))
      clear hy hb13
      obtain ⟨S, hS⟩ : ∃ S, (enc Lib.validD (atomsOf x l)).1 = S := ⟨_, rfl⟩
      rw [hS] at HY ⊢
      have HSS := Lib.hid hS
      obtain ⟨ck, hck⟩ : ∃ c, Chk S x y = c := ⟨_, rfl⟩
      have HCK := Lib.hid hck
      rw [hck]
      have hor : ck = 0 ∨ ck = 2 := by rw [← hck]; exact chk_or S x y
      clear hck hS
      rcases hor with rfl | rfl
      · rw [if_pos rfl]
        go_wp2_with fail
        go_ret2
        refine ⟨(S, 0), ?_, rfl, by rw [HBB.out]; exact HB13.out⟩
        have h := TellR.all HR.out HEC.out (by rw [HSS.out]; exact HY.out)
        rw [HSS.out, HCK.out, if_pos rfl] at h
        exact h
      · rw [if_neg (by decide)]
        go_wp2_with fail
        go_ret2
        refine ⟨([], 2), ?_, rfl, by rw [HBB.out]; exact HB13.out⟩
        have h := TellR.all HR.out HEC.out (by rw [HSS.out]; exact HY.out)
        rw [HSS.out, HCK.out, if_neg (by decide)] at h
        exact h
end Ce
end Go.Proofs.YtikgonlhdkknkaaDoor
