/- Items, told (layer 17): the machine that tells, in plain words. -/
import Derived.Test.YteanipjgpekncaaDoorCoX
namespace Go.Proofs.YteanipjgpekncaaDoor
set_option linter.unusedVariables false
set_option linter.unusedSimpArgs false
namespace Co
open Dr (Rs Lm has lack at0S)
/-- an atom as one is handed it: its kind may be any number -/
structure Ra where
  kind : Int
  num : Nat
  text : List UInt8
deriving DecidableEq
def up (a : Am) : Ra := ⟨(a.kind : Int), a.num, a.text⟩
def dn (a : Ra) : Am := ⟨a.kind.toNat, a.num, a.text⟩
theorem dn_up (a : Am) : dn (up a) = a := by
  obtain ⟨k, n, x⟩ := a
  simp [dn, up]
theorem up_dn {a : Ra} (h : 0 ≤ a.kind) : up (dn a) = a := by
  obtain ⟨k, n, x⟩ := a
  have h : 0 ≤ k := h
  simp [dn, up]
  omega
def rightR (txt : List UInt8 → Bool) (a : Ra) : Bool :=
  if a.kind = 0 ∨ a.kind = 1 ∨ a.kind = 4 ∨ a.kind = 5 ∨ a.kind = 6 then a.text == []
  else if a.kind = 2 then a.num == 0
  else if a.kind = 3 then a.num == 0 && txt a.text
  else if a.kind = 7 then a.text == [] && decide (20 ≤ a.num ∧ a.num ≤ 23)
  else false
structure Tl where
  out : List UInt8
  G : List Fr
  deep : Nat
  done : Bool
  ord : Bool
def putT (b : Bool) (o s : List UInt8) : List UInt8 := if b = true ∨ o.length ≤ 262144 then o ++ s else o
def okB (f : Fr) (B : List UInt8) : Bool := !(f.pairs && !f.value && f.keys && !Op.bytesLess f.last B)
/-- an item has ended, and all that end with it -/
def ends (out : List UInt8) : Nat → List Fr → Bool → List Fr × Bool × Bool
  | _, [], o => ([], true, o)
  | a, f :: G, o => if (adv f (out.drop a)).left = 0 then ends out f.p0 G (o && okB f (out.drop a)) else (adv f (out.drop a) :: G, false, o && okB f (out.drop a))
/-- a frame that stands on top goes on, or has ended -/
def tops (out : List UInt8) (f : Fr) (G : List Fr) (o : Bool) : List Fr × Bool × Bool := if f.left = 0 then ends out f.p0 G o else (f :: G, false, o)
theorem ends_cons (out : List UInt8) (a : Nat) (f : Fr) (G : List Fr) (o : Bool) : ends out a (f :: G) o = tops out (adv f (out.drop a)) G (o && okB f (out.drop a)) := by
  rw [ends, tops]
  split
  · rename_i h
    rw [show (adv f (out.drop a)).p0 = f.p0 by rw [adv]; split <;> rfl]
  · rfl
def outT (b : Bool) (o : List UInt8) (a : Am) : List UInt8 := if a.kind = 2 ∨ a.kind = 3 then putT b (putT b o (hdN a.kind a.text.length)) a.text else putT b o (hdN a.kind a.num)
def mkT (out : List UInt8) (deep : Nat) (x : List Fr × Bool × Bool) : Tl := ⟨out, x.1, deep, x.2.1, x.2.2⟩
def atomT (b : Bool) (t : Tl) (a : Am) : Tl :=
  if holds a.kind = true then mkT (outT b t.out a) (max t.deep (t.G.length + 1)) (tops (outT b t.out a) (fr0 a t.out.length) t.G t.ord)
  else mkT (outT b t.out a) t.deep (ends (outT b t.out a) t.out.length t.G t.ord)
def fins (t : Tl) : List UInt8 × Int := if t.done = false then ([], 9) else if 32 < t.deep ∨ 262144 < t.out.length then ([], 10) else if t.ord = false then ([], 9) else (t.out, 0)
def go (txt : List UInt8 → Bool) (b : Bool) : List Ra → Tl → List UInt8 × Int
  | [], t => fins t
  | a :: r, t => if t.done = true ∨ rightR txt a = false then ([], 9) else go txt b r (atomT b t (dn a))
def ini : Tl := ⟨[], [], 0, false, true⟩
def enc (txt : List UInt8 → Bool) (l : List Ra) : List UInt8 × Int := if 4096 < l.length then ([], 10) else go txt false l ini
/-! nothing is put any more when the bytes are too many: that changes nothing -/
def shF (f : Fr) : Nat × Bool × Bool := (f.left, f.pairs, f.value)
theorem shF_adv {f g : Fr} (h : shF f = shF g) (B C : List UInt8) : shF (adv f B) = shF (adv g C) := by
  simp only [shF, Prod.mk.injEq] at h ⊢
  obtain ⟨h1, h2, h3⟩ := h
  rw [adv, adv, h2, h3]
  split <;> simp [h1, h2, h3]
theorem ends_sh (out out' : List UInt8) : ∀ (G G' : List Fr) (a a' : Nat) (o o' : Bool), G.map shF = G'.map shF → (ends out a G o).1.map shF = (ends out' a' G' o').1.map shF ∧ (ends out a G o).2.1 = (ends out' a' G' o').2.1
  | [], G', a, a', o, o', h => by
    have : G' = [] := by simpa using h.symm
    subst this
    exact ⟨rfl, rfl⟩
  | f :: G, [], a, a', o, o', h => by simp at h
  | f :: G, g :: G', a, a', o, o', h => by
    rw [List.map_cons, List.map_cons, List.cons.injEq] at h
    have h1 := shF_adv h.1 (out.drop a) (out'.drop a')
    have h2 : (adv f (out.drop a)).left = (adv g (out'.drop a')).left := congrArg Prod.fst h1
    rw [ends, ends, h2]
    split
    · exact ends_sh out out' G G' _ _ _ _ h.2
    · exact ⟨by rw [List.map_cons, List.map_cons, h1, h.2], rfl⟩
theorem tops_sh (out out' : List UInt8) {f f' : Fr} {G G' : List Fr} (o o' : Bool) (hf : shF f = shF f') (h : G.map shF = G'.map shF) : (tops out f G o).1.map shF = (tops out' f' G' o').1.map shF ∧ (tops out f G o).2.1 = (tops out' f' G' o').2.1 := by
  have h2 : f.left = f'.left := congrArg Prod.fst hf
  rw [tops, tops, h2]
  split
  · exact ends_sh out out' G G' _ _ _ _ h
  · exact ⟨by rw [List.map_cons, List.map_cons, hf, h], rfl⟩
structure Sim (t u : Tl) : Prop where
  deep : t.deep = u.deep
  done : t.done = u.done
  sh : t.G.map shF = u.G.map shF
  eq : t.out.length ≤ 262144 → t = u
  long : 262144 < t.out.length → 262144 < u.out.length
theorem putT_true (o s : List UInt8) : putT true o s = o ++ s := if_pos (.inl rfl)
theorem putT_le (o s : List UInt8) (h : o.length ≤ 262144) (b : Bool) : putT b o s = o ++ s := if_pos (.inr h)
theorem putT_ge (b : Bool) (o s : List UInt8) : o.length ≤ (putT b o s).length := by
  rw [putT]
  split
  · rw [List.length_append]; omega
  · exact Nat.le_refl _
theorem outT_ge (b : Bool) (o : List UInt8) (a : Am) : o.length ≤ (outT b o a).length := by
  rw [outT]
  split
  · exact Nat.le_trans (putT_ge b _ _) (putT_ge b _ _)
  · exact putT_ge b _ _
theorem outT_eq {o : List UInt8} {a : Am} (h : (outT false o a).length ≤ 262144) : outT false o a = outT true o a := by
  have h0 : o.length ≤ 262144 := Nat.le_trans (outT_ge false o a) h
  rw [outT] at h ⊢
  rw [outT]
  split
  · rename_i hk
    rw [if_pos hk] at h
    have h1 := putT_ge false (putT false o (hdN a.kind a.text.length)) a.text
    rw [putT_le o _ (by omega), putT_le o _ (by omega)]
    rw [putT_le o _ (by omega)] at h h1
    rw [putT_le _ _ (by omega), putT_le _ _ (by omega)]
  · rw [putT_le o _ (by omega), putT_le o _ (by omega)]
theorem outT_long {o o' : List UInt8} {a : Am} (ho : o.length ≤ 262144 → o = o') (hl : 262144 < o.length → 262144 < o'.length) (h : 262144 < (outT false o a).length) : 262144 < (outT true o' a).length := by
  by_cases h1 : o.length ≤ 262144
  · rw [← ho h1]
    rw [outT] at h ⊢
    split
    · rename_i hk
      rw [if_pos hk, putT_le o _ h1] at h
      rw [putT_true, putT_true, List.length_append]
      rw [putT] at h
      split at h
      · rw [List.length_append] at h; exact h
      · omega
    · rename_i hk
      rw [if_neg hk, putT_le o _ h1] at h
      rw [putT_true]
      exact h
  · exact Nat.lt_of_lt_of_le (hl (by omega)) (outT_ge true o' a)
theorem Sim.atom {t u : Tl} (h : Sim t u) (a : Am) : Sim (atomT false t a) (atomT true u a) := by
  have hlen : t.G.length = u.G.length := by have := congrArg List.length h.sh; simpa using this
  have hout : (atomT false t a).out = outT false t.out a := by rw [atomT]; split <;> rfl
  have hout' : (atomT true u a).out = outT true u.out a := by rw [atomT]; split <;> rfl
  have hfr : ∀ p p', shF (fr0 a p) = shF (fr0 a p') := fun _ _ => rfl
  refine ⟨?_, ?_, ?_, ?_, ?_⟩
  · rw [atomT, atomT, h.deep, hlen]; split <;> rfl
  · rw [atomT, atomT]
    split
    · exact (tops_sh _ _ _ _ (hfr _ _) h.sh).2
    · exact (ends_sh _ _ _ _ _ _ _ _ h.sh).2
  · rw [atomT, atomT]
    split
    · exact (tops_sh _ _ _ _ (hfr _ _) h.sh).1
    · exact (ends_sh _ _ _ _ _ _ _ _ h.sh).1
  · intro hl
    rw [hout] at hl
    have h1 := h.eq (Nat.le_trans (outT_ge false t.out a) hl)
    subst h1
    rw [atomT, atomT, outT_eq hl]
  · intro hl
    rw [hout] at hl
    rw [hout']
    exact outT_long (fun h1 => congrArg Tl.out (h.eq h1)) h.long hl
theorem go_sim (txt : List UInt8 → Bool) : ∀ (l : List Ra) (t u : Tl), Sim t u → go txt false l t = go txt true l u
  | [], t, u, h => by
    show fins t = fins u
    by_cases h1 : t.out.length ≤ 262144
    · rw [h.eq h1]
    · have h2 := h.long (by omega)
      rw [fins, fins, h.done, h.deep]
      split
      · rfl
      · rw [if_pos (.inr (by omega)), if_pos (.inr h2)]
  | a :: r, t, u, h => by
    rw [go, go, h.done]
    split
    · rfl
    · exact go_sim txt r _ _ (h.atom (dn a))
theorem Sim.refl (t : Tl) (h : t.out.length ≤ 262144) : Sim t t := ⟨rfl, rfl, rfl, fun _ => rfl, fun h => h⟩
theorem enc_eq (txt : List UInt8 → Bool) (l : List Ra) : enc txt l = if 4096 < l.length then ([], 10) else go txt true l ini := by
  rw [enc, go_sim txt l ini ini (Sim.refl _ (by decide))]
/-! a forest is told -/
def okM : Fr → List (List UInt8) → Bool
  | _, [] => true
  | f, B :: M => okB f B && okM (adv f B) M
theorem okB_iff (f : Fr) (B : List UInt8) : okB f B = true ↔ (f.pairs = true → f.value = false → f.keys = true → Op.bytesLess f.last B = true) := by
  rw [okB]
  cases f.pairs <;> cases f.value <;> cases f.keys <;> cases Op.bytesLess f.last B <;> simp
theorem okM_iff : ∀ (M : List (List UInt8)) (f : Fr), okM f M = true ↔ okF f M
  | [], f => ⟨fun _ => trivial, fun _ => rfl⟩
  | B :: M, f => by
    rw [okM, okF, Bool.and_eq_true, okM_iff M (adv f B), okB_iff]
theorem okM_fr0 (a : Am) (p : Nat) (M : List (List UInt8)) : okM (fr0 a p) M = ordA a.kind M := by
  have h1 : okM (fr0 a p) M = true ↔ ordA a.kind M = true := by
    rw [okM_iff]
    exact ⟨ordA_of, okF_fr0⟩
  cases h2 : okM (fr0 a p) M <;> cases h3 : ordA a.kind M <;> simp_all
def dpm (dp v d : Nat) : Nat := max dp (if d = 0 then 0 else v + d)
theorem outT_tell (o : List UInt8) {a : Am} (hh : holds a.kind = false) : outT true o a = o ++ tell a := by
  rw [outT, tell]
  split
  · rw [putT_true, putT_true, List.append_assoc]
  · rw [putT_true]
theorem outT_head (o : List UInt8) {a : Am} (hh : holds a.kind = true) : outT true o a = o ++ hdN a.kind a.num := by
  rw [outT, if_neg (holds_not hh), putT_true]
section
variable {txt : List UInt8 → Bool}
theorem rightR_up {a : Am} (ha : okA txt a) : rightR txt (up a) = true := by
  obtain ⟨k, n, x⟩ := a
  obtain ⟨-, -, h⟩ := ha
  dsimp only at h
  rw [rightR]
  show (if (k : Int) = 0 ∨ (k : Int) = 1 ∨ (k : Int) = 4 ∨ (k : Int) = 5 ∨ (k : Int) = 6 then x == [] else if (k : Int) = 2 then n == 0 else if (k : Int) = 3 then n == 0 && txt x else if (k : Int) = 7 then x == [] && decide (20 ≤ n ∧ n ≤ 23) else false) = true
  rcases h with ⟨h, rfl⟩ | ⟨rfl, rfl⟩ | ⟨rfl, rfl, h⟩ | ⟨rfl, rfl, h⟩
  · rw [if_pos (by omega)]; rfl
  · rfl
  · simpa using h
  · simpa using h
theorem okA_dn {a : Ra} (hn : a.num < 18446744073709551616) (hx : a.text.length < 18446744073709551616) (h : rightR txt a = true) : okA txt (dn a) ∧ up (dn a) = a := by
  obtain ⟨k, n, x⟩ := a
  rw [rightR] at h
  dsimp only at h hn hx
  have key : (k = 0 ∨ k = 1 ∨ k = 4 ∨ k = 5 ∨ k = 6) ∧ x = [] ∨ k = 2 ∧ n = 0 ∨ k = 3 ∧ n = 0 ∧ txt x = true ∨ k = 7 ∧ x = [] ∧ 20 ≤ n ∧ n ≤ 23 := by
    split at h
    · rename_i h1; exact .inl ⟨h1, by simpa using h⟩
    · split at h
      · rename_i h1; exact .inr (.inl ⟨h1, by simpa using h⟩)
      · split at h
        · rename_i h1; exact .inr (.inr (.inl ⟨h1, by simpa using h⟩))
        · split at h
          · rename_i h1; exact .inr (.inr (.inr ⟨h1, by simpa using h⟩))
          · cases h
  refine ⟨⟨hn, hx, ?_⟩, up_dn (by show 0 ≤ k; omega)⟩
  show ((k.toNat = 0 ∨ k.toNat = 1 ∨ k.toNat = 4 ∨ k.toNat = 5 ∨ k.toNat = 6) ∧ x = []) ∨ (k.toNat = 2 ∧ n = 0) ∨ (k.toNat = 3 ∧ n = 0 ∧ txt x = true) ∨ (k.toNat = 7 ∧ x = [] ∧ 20 ≤ n ∧ n ≤ 23)
  rcases key with ⟨h1, h2⟩ | ⟨h1, h2⟩ | ⟨h1, h2, h3⟩ | ⟨h1, h2, h3⟩
  · exact .inl ⟨by omega, h2⟩
  · exact .inr (.inl ⟨by omega, h2⟩)
  · exact .inr (.inr (.inl ⟨by omega, h2, h3⟩))
  · exact .inr (.inr (.inr ⟨by omega, h2, h3⟩))
theorem go_cons {b : Bool} {a : Am} {r : List Ra} {t : Tl} (ht : t.done = false) (ha : okA txt a) : go txt b (up a :: r) t = go txt b r (atomT b t a) := by
  rw [go, if_neg, dn_up]
  rw [ht, rightR_up ha]
  simp
theorem drop_put (o B : List UInt8) : (o ++ B).drop o.length = B := List.drop_left' rfl
/-- what one item that ended does -/
theorem tops_live {out : List UInt8} {f : Fr} {G : List Fr} {o : Bool} (h : f.left ≠ 0) : tops out f G o = (f :: G, false, o) := if_neg h
theorem slots_pos {f : Fr} (h : 1 ≤ slots f) : f.left ≠ 0 := (slots_adv f [] h).2
theorem Its.tells {d N M o} (h : Its d N M o) : (∀ a ∈ N, okA txt a) → N ≠ [] → ∀ (f : Fr) (G : List Fr) (out : List UInt8) (dp : Nat) (ord : Bool) (r : List Ra), M.length ≤ slots f → wfF f →
    go txt true (N.map up ++ r) ⟨out, f :: G, dp, false, ord⟩ = go txt true r (mkT (out ++ M.flatten) (dpm dp (G.length + 1) d) (tops (out ++ M.flatten) (advs f M) G (ord && (o && okM f M)))) := by
  induction h with
  | nil => intro _ h0; exact absurd rfl h0
  | @leaf a d N M o hn h ih =>
    intro hall _ f G out dp ord r hs hwf
    rw [List.length_cons] at hs
    rw [List.map_cons, List.cons_append, go_cons rfl (hall a (List.mem_cons_self ..)), atomT, if_neg (by rw [hn]; decide), outT_tell _ hn, ends_cons, drop_put]
    have hsl := slots_adv f (tell a) (by omega)
    by_cases hN : N = []
    · subst hN
      cases h
      have e0 : dpm dp (G.length + 1) 0 = dp := by rw [dpm, if_pos rfl, Nat.max_zero]
      rw [List.map_nil, List.nil_append, List.flatten_singleton, okM, okM, e0]
      congr 2
      cases ord <;> cases okB f (tell a) <;> rfl
    · have hM : 1 ≤ M.length := by
        cases M with
        | nil => exact absurd h.none.1 hN
        | cons _ _ => simp
      rw [tops_live (slots_pos (by omega))]
      refine (ih (fun x hx => hall x (List.mem_cons_of_mem _ hx)) hN (adv f (tell a)) G (out ++ tell a) dp _ r (by omega) (wfF_adv _ (by omega))).trans ?_
      rw [List.append_assoc, ← List.flatten_cons, advs_cons, okM]
      congr 3
      cases ord <;> cases okB f (tell a) <;> cases o <;> rfl
  | @node a dK K MK oK d N M o hn hm hK h ihK ih =>
    intro hall _ f G out dp ord r hs hwf
    rw [List.length_cons] at hs
    obtain ⟨B, hB⟩ : ∃ B, hdN a.kind a.num ++ MK.flatten = B := ⟨_, rfl⟩
    have hsl := slots_adv f B (by omega)
    -- the holder, with all that it holds
    have hold : ∀ r2 : List Ra, go txt true (up a :: (K.map up ++ r2)) ⟨out, f :: G, dp, false, ord⟩ = go txt true r2 (mkT (out ++ B) (dpm dp (G.length + 1) (dK + 1)) (tops (out ++ B) (adv f B) G (ord && ((oK && ordA a.kind MK) && okB f B)))) := fun r2 => by
      rw [go_cons rfl (hall a (List.mem_cons_self ..)), atomT, if_pos hn, outT_head _ hn]
      show go txt true (K.map up ++ r2) (mkT (out ++ hdN a.kind a.num) (max dp ((f :: G).length + 1)) (tops (out ++ hdN a.kind a.num) (fr0 a out.length) (f :: G) ord)) = _
      have hsn : slots (fr0 a out.length) = MK.length := by rw [slots_fr0, hm]
      have hz : (advs (fr0 a out.length) MK).left = 0 := by
        have h3 := slots_advs MK (fr0 a out.length) (by omega)
        exact slots_zero (by omega) (wfF_advs MK _ (fun h4 => by cases h4) (by omega))
      by_cases hKe : K = []
      · subst hKe
        cases hK
        rw [List.flatten_nil, List.append_nil] at hB
        rw [hB, tops, if_pos (show (fr0 a out.length).left = 0 from hz), show (fr0 a out.length).p0 = out.length from rfl, ends_cons, drop_put]
        rw [List.map_nil, List.nil_append, List.length_cons]
        have e1 : dpm dp (G.length + 1) (0 + 1) = max dp (G.length + 1 + 1) := by rw [dpm, if_neg (by omega)]
        rw [e1]
        congr 3
        have e2 : ordA a.kind [] = true := by rw [ordA]; simp [keysOk]
        rw [e2]
        cases ord <;> cases okB f B <;> rfl
      · have hMK : 1 ≤ MK.length := by
          cases MK with
          | nil => exact absurd hK.none.1 hKe
          | cons _ _ => simp
        rw [tops_live (f := fr0 a out.length) (slots_pos (by omega))]
        refine (ihK (fun x hx => hall x (List.mem_cons_of_mem _ (List.mem_append_left _ hx))) hKe (fr0 a out.length) (f :: G) (out ++ hdN a.kind a.num) _ ord r2 (by omega) (fun h4 => by cases h4)).trans ?_
        rw [List.append_assoc, hB, tops, if_pos hz, advs_p0, show (fr0 a out.length).p0 = out.length from rfl, ends_cons, drop_put, okM_fr0, List.length_cons]
        have e1 : dpm (max dp (G.length + 1 + 1)) (G.length + 1 + 1) dK = dpm dp (G.length + 1) (dK + 1) := by
          have e2 : ¬ dK + 1 = 0 := Nat.succ_ne_zero _
          rw [dpm, dpm, if_neg e2]
          split <;> omega
        rw [e1]
        congr 3
        cases ord <;> cases okB f B <;> cases oK <;> cases ordA a.kind MK <;> rfl
    rw [List.map_cons, List.map_append, List.cons_append, List.append_assoc, hold]
    rw [hB, List.flatten_cons, advs_cons, okM]
    by_cases hN : N = []
    · subst hN
      cases h
      rw [List.map_nil, List.nil_append, List.flatten_nil, List.append_nil, okM]
      have e1 : max (dK + 1) 0 = dK + 1 := Nat.max_zero _
      rw [e1]
      congr 3
      cases ord <;> cases okB f B <;> cases oK <;> cases ordA a.kind MK <;> rfl
    · have hM : 1 ≤ M.length := by
        cases M with
        | nil => exact absurd h.none.1 hN
        | cons _ _ => simp
      rw [tops_live (slots_pos (by omega))]
      refine (ih (fun x hx => hall x (List.mem_cons_of_mem _ (List.mem_append_right _ hx))) hN (adv f B) G (out ++ B) _ _ r (by omega) (wfF_adv _ (by omega))).trans ?_
      rw [List.append_assoc]
      have e1 : dpm (dpm dp (G.length + 1) (dK + 1)) (G.length + 1) d = dpm dp (G.length + 1) (max (dK + 1) d) := by
        rw [dpm, dpm, dpm]
        split <;> split <;> split <;> omega
      rw [e1]
      congr 3
      cases ord <;> cases okB f B <;> cases oK <;> cases ordA a.kind MK <;> cases o <;> rfl
/-- one item is told -/
theorem Its.tellsOne {d : Nat} {l : List Am} {B : List UInt8} {o : Bool} (h : Its d l [B] o) (hall : ∀ a ∈ l, okA txt a) (r : List Ra) : go txt true (l.map up ++ r) ini = go txt true r ⟨B, [], d, true, o⟩ := by
  generalize hM : [B] = M at h
  cases h with
  | nil => cases hM
  | @leaf a d N M o hn h =>
    injection hM with h1 h2
    subst h2
    obtain ⟨rfl, rfl, rfl⟩ := h.none
    rw [List.map_cons, List.cons_append, go_cons rfl (hall a (List.mem_cons_self ..)), atomT, if_neg (by rw [hn]; decide), outT_tell _ hn, h1]
    rfl
  | @node a dK K MK oK d N M o hn hm hK h =>
    injection hM with h1 h2
    subst h2
    obtain ⟨rfl, rfl, rfl⟩ := h.none
    rw [List.append_nil] at hall ⊢
    rw [List.map_cons, List.cons_append, go_cons rfl (hall a (List.mem_cons_self ..)), atomT, if_pos hn, outT_head _ hn]
    show go txt true (K.map up ++ r) (mkT ([] ++ hdN a.kind a.num) (max 0 (([] : List Fr).length + 1)) (tops ([] ++ hdN a.kind a.num) (fr0 a 0) [] true)) = _
    rw [List.nil_append]
    have hsn : slots (fr0 a 0) = MK.length := by rw [slots_fr0, hm]
    have hz : (advs (fr0 a 0) MK).left = 0 := by
      have h3 := slots_advs MK (fr0 a 0) (by omega)
      exact slots_zero (by omega) (wfF_advs MK _ (fun h4 => by cases h4) (by omega))
    by_cases hKe : K = []
    · subst hKe
      cases hK
      rw [List.flatten_nil, List.append_nil] at h1
      rw [← h1, tops, if_pos (show (fr0 a 0).left = 0 from hz)]
      have e2 : ordA a.kind [] = true := by rw [ordA]; simp [keysOk]
      rw [e2]
      rfl
    · have hMK : 1 ≤ MK.length := by
        cases MK with
        | nil => exact absurd hK.none.1 hKe
        | cons _ _ => simp
      rw [tops_live (slots_pos (by omega))]
      refine (hK.tells (fun x hx => hall x (List.mem_cons_of_mem _ hx)) hKe (fr0 a 0) [] (hdN a.kind a.num) _ true r (by omega) (fun h4 => by cases h4)).trans ?_
      rw [← h1, tops, if_pos hz, advs_p0, okM_fr0]
      have e1 : dpm (max 0 (([] : List Fr).length + 1)) (([] : List Fr).length + 1) dK = max (dK + 1) 0 := by
        rw [dpm, List.length_nil]
        split <;> omega
      rw [e1, Bool.true_and, Bool.and_true]
      rfl
/-- what an item's list is told as -/
theorem enc_tree {d : Nat} {l : List Am} {B : List UInt8} {o : Bool} (h : Its d l [B] o) (hall : ∀ a ∈ l, okA txt a) (hl : l.length ≤ 4096) :
    enc txt (l.map up) = if 32 < d ∨ 262144 < B.length then ([], 10) else if o = false then ([], 9) else (B, 0) := by
  have h1 := h.tellsOne hall []
  rw [List.append_nil] at h1
  rw [enc_eq, if_neg (by rw [List.length_map]; omega), h1]
  rfl
/-- what is told in the end was a forest -/
theorem go_inv : ∀ (m : Nat) (r : List Ra) (f : Fr) (G : List Fr) (out : List UInt8) (dp : Nat) (ord : Bool) (S : List UInt8), r.length < m → (∀ a ∈ r, a.num < 18446744073709551616 ∧ a.text.length < 18446744073709551616) → f.left ≠ 0 → wfF f →
    go txt true r ⟨out, f :: G, dp, false, ord⟩ ≠ ([], 9) → ∃ d N M o r2, r = N.map up ++ r2 ∧ N ≠ [] ∧ Its d N M o ∧ M.length = slots f ∧ ∀ a ∈ N, okA txt a
  | 0, r, _, _, _, _, _, _, hm, _, _, _, _ => absurd hm (Nat.not_lt_zero _)
  | m + 1, [], f, G, out, dp, ord, S, hm, _, _, _, hgo => absurd rfl hgo
  | m + 1, a :: r, f, G, out, dp, ord, S, hm, hb, hf, hwf, hgo => by
    rw [List.length_cons] at hm
    have hbr : ∀ x ∈ r, x.num < 18446744073709551616 ∧ x.text.length < 18446744073709551616 := fun x hx => hb x (List.mem_cons_of_mem _ hx)
    have hR : rightR txt a = true := by
      cases hq : rightR txt a with
      | true => rfl
      | false => exact absurd (by rw [go, if_pos (.inr hq)]) hgo
    obtain ⟨hok, hup⟩ := okA_dn (hb a (List.mem_cons_self ..)).1 (hb a (List.mem_cons_self ..)).2 hR
    obtain ⟨x, hx⟩ : ∃ x, dn a = x := ⟨_, rfl⟩
    rw [hx] at hok hup
    subst hup
    rw [go_cons rfl hok] at hgo
    have hs1 : 1 ≤ slots f := by
      rw [slots]
      split
      · split <;> omega
      · omega
    -- the item that stands first, with what stands behind it
    have first : ∀ (d0 : Nat) (K : List Am) (B : List UInt8) (o0 : Bool) (r1 : List Ra) (dp1 : Nat) (out1 : List UInt8) (ord1 : Bool), r = K.map up ++ r1 → Its d0 (x :: K) [B] o0 → (∀ y ∈ K, okA txt y) →
        go txt true r1 (mkT out1 dp1 (tops out1 (adv f B) G ord1)) ≠ ([], 9) → ∃ d N M o r2, up x :: r = N.map up ++ r2 ∧ N ≠ [] ∧ Its d N M o ∧ M.length = slots f ∧ ∀ a ∈ N, okA txt a := fun d0 K B o0 r1 dp1 out1 ord1 hr hI hK h9 => by
      have hsl := slots_adv f B hs1
      have hallx : ∀ y ∈ x :: K, okA txt y := fun y hy => by
        rcases List.mem_cons.1 hy with rfl | hy
        · exact hok
        · exact hK y hy
      by_cases hl : (adv f B).left = 0
      · refine ⟨d0, x :: K, [B], o0, r1, by rw [hr]; rfl, by simp, hI, ?_, hallx⟩
        have hv : (adv f B).value = false := by
          cases hv : (adv f B).value with
          | false => rfl
          | true => have := wfF_adv B hs1 hv; omega
        have h0 : slots (adv f B) = 0 := by rw [slots, hl, hv]; simp
        rw [List.length_singleton]; omega
      · rw [tops_live hl] at h9
        obtain ⟨d, N, M, o, r2, hr2, hN, hI2, hM, hall⟩ := go_inv m r1 (adv f B) G out1 dp1 ord1 S (by rw [hr, List.length_append] at hm; omega) (fun y hy => hbr y (by rw [hr]; exact List.mem_append_right _ hy)) hl (wfF_adv B hs1) h9
        have hI3 := hI.append hI2
        refine ⟨_, _, _, _, r2, ?_, ?_, hI3, ?_, ?_⟩
        · rw [hr, hr2]; simp
        · simp
        · rw [List.singleton_append, List.length_cons]; omega
        · intro y hy
          rcases List.mem_append.1 hy with h | h
          · exact hallx y h
          · exact hall y h
    cases hh : holds x.kind with
    | false =>
      rw [atomT, if_neg (by rw [hh]; decide), outT_tell _ hh, ends_cons, drop_put] at hgo
      exact first 0 [] (tell x) true r _ _ _ rfl (.leaf hh .nil) (fun y hy => by cases hy) hgo
    | true =>
      rw [atomT, if_pos hh, outT_head _ hh] at hgo
      have hgo : go txt true r (mkT (out ++ hdN x.kind x.num) (max dp ((f :: G).length + 1)) (tops (out ++ hdN x.kind x.num) (fr0 x out.length) (f :: G) ord)) ≠ ([], 9) := hgo
      by_cases hl : (fr0 x out.length).left = 0
      · have hn0 : need x = 0 := by
          rw [← slots_fr0 x out.length, slots, hl]
          simp
        rw [tops, if_pos hl, show (fr0 x out.length).p0 = out.length from rfl, ends_cons, drop_put] at hgo
        have hI := Its.node hh (by rw [hn0]; rfl) .nil .nil
        rw [List.flatten_nil, List.append_nil, List.append_nil] at hI
        exact first _ [] _ _ r _ _ _ rfl hI (fun y hy => by cases hy) hgo
      · rw [tops_live hl] at hgo
        obtain ⟨d, K, MK, oK, r1, hr, hK, hIK, hMK, hallK⟩ := go_inv m r (fr0 x out.length) (f :: G) _ _ _ S (by omega) hbr hl (fun h4 => by cases h4) hgo
        have h5 := hIK.tells hallK hK (fr0 x out.length) (f :: G) (out ++ hdN x.kind x.num) (max dp ((f :: G).length + 1)) ord r1 (by omega) (fun h4 => by cases h4)
        rw [← hr] at h5
        have hgo2 : go txt true r ⟨out ++ hdN x.kind x.num, fr0 x out.length :: f :: G, max dp ((f :: G).length + 1), false, ord⟩ ≠ ([], 9) := hgo
        rw [h5] at hgo2
        clear hgo
        have hgo := hgo2
        have hz : (advs (fr0 x out.length) MK).left = 0 := by
          have h3 := slots_advs MK (fr0 x out.length) (by omega)
          exact slots_zero (by omega) (wfF_advs MK _ (fun h4 => by cases h4) (by omega))
        rw [tops, if_pos hz, advs_p0, show (fr0 x out.length).p0 = out.length from rfl, ends_cons, List.append_assoc, drop_put] at hgo
        have hI := Its.node hh (by rw [hMK, slots_fr0]) hIK .nil
        rw [List.append_nil] at hI
        exact first _ K _ _ r1 _ _ _ hr hI hallK hgo
/-- a list that is no item's is refused -/
theorem enc_inv {l : List Ra} (hb : ∀ a ∈ l, a.num < 18446744073709551616 ∧ a.text.length < 18446744073709551616) (h : go txt true l ini ≠ ([], 9)) : ∃ d N B o, l = N.map up ∧ Its d N [B] o ∧ ∀ a ∈ N, okA txt a := by
  cases l with
  | nil => exact absurd rfl h
  | cons a r =>
    have hbr : ∀ x ∈ r, x.num < 18446744073709551616 ∧ x.text.length < 18446744073709551616 := fun x hx => hb x (List.mem_cons_of_mem _ hx)
    have hR : rightR txt a = true := by
      cases hq : rightR txt a with
      | true => rfl
      | false => exact absurd (by rw [go, if_pos (.inr hq)]) h
    obtain ⟨hok, hup⟩ := okA_dn (hb a (List.mem_cons_self ..)).1 (hb a (List.mem_cons_self ..)).2 hR
    obtain ⟨x, hx⟩ : ∃ x, dn a = x := ⟨_, rfl⟩
    rw [hx] at hok hup
    subst hup
    have hnil : ∀ (r1 : List Ra) (t : Tl), t.done = true → go txt true r1 t ≠ ([], 9) → r1 = [] := fun r1 t ht h1 => by
      cases r1 with
      | nil => rfl
      | cons y r1 => exact absurd (by rw [go, if_pos (.inl ht)]) h1
    have one : ∀ (d : Nat) (K : List Am) (B : List UInt8) (o : Bool) (r1 : List Ra), r = K.map up ++ r1 → Its d (x :: K) [B] o → (∀ y ∈ K, okA txt y) → ∃ d N B o, up x :: r = N.map up ∧ Its d N [B] o ∧ ∀ a ∈ N, okA txt a := fun d K B o r1 hr hI hK => by
      have hallx : ∀ y ∈ x :: K, okA txt y := fun y hy => by
        rcases List.mem_cons.1 hy with rfl | hy
        · exact hok
        · exact hK y hy
      have h2 := hI.tellsOne hallx r1
      rw [List.map_cons, List.cons_append, ← hr] at h2
      rw [h2] at h
      have := hnil _ _ rfl h
      subst this
      exact ⟨d, x :: K, B, o, by rw [hr, List.append_nil]; rfl, hI, hallx⟩
    cases hh : holds x.kind with
    | false => exact one 0 [] (tell x) true r rfl (.leaf hh .nil) (fun y hy => by cases hy)
    | true =>
      have h' := h
      rw [go_cons rfl hok, atomT, if_pos hh, outT_head _ hh] at h'
      have h' : go txt true r (mkT ([] ++ hdN x.kind x.num) (max 0 (([] : List Fr).length + 1)) (tops ([] ++ hdN x.kind x.num) (fr0 x 0) [] true)) ≠ ([], 9) := h'
      by_cases hl : (fr0 x 0).left = 0
      · have hn0 : need x = 0 := by
          rw [← slots_fr0 x 0, slots, hl]
          simp
        have hI := Its.node hh (by rw [hn0]; rfl) .nil .nil
        rw [List.flatten_nil, List.append_nil, List.append_nil] at hI
        exact one _ [] _ _ r rfl hI (fun y hy => by cases hy)
      · rw [tops_live hl] at h'
        obtain ⟨d, K, MK, oK, r1, hr, hK, hIK, hMK, hallK⟩ := go_inv (r.length + 1) r (fr0 x 0) [] _ _ _ [] (by omega) hbr hl (fun h4 => by cases h4) h'
        have hI := Its.node hh (by rw [hMK, slots_fr0]) hIK .nil
        rw [List.append_nil] at hI
        exact one _ K _ _ r1 hr hI hallK
end
end Co
end Go.Proofs.YteanipjgpekncaaDoor
