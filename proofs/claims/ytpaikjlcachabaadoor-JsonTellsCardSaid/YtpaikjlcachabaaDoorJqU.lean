/- Joined by merge.py: JqG JqH JqI. -/
import Derived.Test.YtpaikjlcachabaaDoorJqT
import Derived.Test.YtpaikjlcachabaaDoorRowI
import Derived.Maps.AppendAt
import Derived.Test.YtpaikjlcachabaaDoorJsV
import Derived.BigQuiet
import Derived.BigRegion
import Derived.Deep.CutRange
import Derived.Deep.LoopGhost
import Derived.Test.YtpaikjlcachabaaDoorRowS
namespace Go.Proofs.YtpaikjlcachabaaDoor
open Go.RowKit
set_option linter.unusedVariables false
set_option linter.unusedSimpArgs false
section
variable {P : Program} {w : World}
theorem wpList_append_i64a {ops : Array Oper} {rest : List Oper} {o : Oper} {a : Act} {Q : Exit → Act → World → Prop} (hgd : o.guard = none) (s x : Operand) (t : TypeId)
    (ho : o.op = .call { callee := .builtin .append, args := #[s, x], argTypes := #[t, t] })
    (base : Nat) (e : TypeId) (i : TypeInfo) (ht : P.underlying t = some (.slice e)) (hi : P.info? e = some i) (hz : i.zero = some (.int .i64 0)) (hsize : i.size = 1) (hby : i.bytes = 8)
    (v : Value) (n : Nat) (l : List Int) (hs : a.eval s = v) (hown : w.ownsRow base e 1 v n (icells l))
    (g c : Nat) (u : Int) (hx : a.eval x = .slice (some ⟨g, 0, none⟩) 1 c) (hcell : w.cell? ⟨g, 0, none⟩ = some (.int .i64 u))
    (hn : n ≤ 17592186044415) (hbase : base ≤ w.heap.size)
    (h : ∀ v' w', w'.ownsRow base e 1 v' (n + 1) (icells (l ++ [u])) → w.grownBy w' v.ownBlock → (v'.ownBlock = v.ownBlock ∨ v'.ownBlock = some w.heap.size) → wpList P ops Q rest (a.put o.dst v') w') : wpList P ops Q (o :: rest) a w := by
  refine wpList_append_own_at w hgd s x t ho base e i (.int .i64 0) 1 8 ht hi hz hsize hby rfl (by decide) v n (icells l) hs hown ⟨g, 0, none⟩ 1 c (icells [u]) hx (by rw [icells_length]; rfl) (icells_one1 hcell) (icells_one _) (by unfold maxLen; omega) (by omega) hbase ?_
  intro v' w' h1 h2 _ h3
  rw [← icells_append] at h1
  exact h v' w' h1 h2 h3
end
namespace Jq
open Js Je
def Apart (x y : Option Nat) : Prop := ∀ k, x = some k → y ≠ some k
theorem Apart.symm {x y : Option Nat} (h : Apart x y) : Apart y x := fun k h1 h2 => h k h2 h1
theorem Apart.kept {x y : Option Nat} (h : Apart x y) : y = none ∨ y ≠ x := by
  cases y with
  | none => exact .inl rfl
  | some k => exact .inr fun h1 => h k h1.symm rfl
/-- three rows, apart from one another -/
structure T3 (w : World) (B : Nat) (va : Value) (n : Nat) (xs : List Int) (vb : Value) (m : Nat) (ys : List Int) (vc : Value) (k : Nat) (zs : List Int) : Prop where
  a : w.ownsRow B 3 1 va n (icells xs)
  b : w.ownsRow B 3 1 vb m (icells ys)
  c : w.ownsRow B 3 1 vc k (icells zs)
  ab : Apart va.ownBlock vb.ownBlock
  bc : Apart vb.ownBlock vc.ownBlock
  ca : Apart vc.ownBlock va.ownBlock
theorem T3.rot {w : World} {B : Nat} {va : Value} {n : Nat} {xs : List Int} {vb : Value} {m : Nat} {ys : List Int} {vc : Value} {k : Nat} {zs : List Int} (h : T3 w B va n xs vb m ys vc k zs) : T3 w B vb m ys vc k zs va n xs :=
  ⟨h.b, h.c, h.a, h.bc, h.ca, h.ab⟩
theorem T3.alloc {w : World} {B : Nat} {va : Value} {n : Nat} {xs : List Int} {vb : Value} {m : Nat} {ys : List Int} {vc : Value} {k : Nat} {zs : List Int} (h : T3 w B va n xs vb m ys vc k zs) (o : Obj) : T3 (w.alloc o) B va n xs vb m ys vc k zs :=
  ⟨h.a.alloc o, h.b.alloc o, h.c.alloc o, h.ab, h.bc, h.ca⟩
theorem T3.drewN {w : World} {B : Nat} {va : Value} {n : Nat} {xs : List Int} {vb : Value} {m : Nat} {ys : List Int} {vc : Value} {k : Nat} {zs : List Int} (h : T3 w B va n xs vb m ys vc k zs) (q : Nat) : T3 (w.drewN q) B va n xs vb m ys vc k zs :=
  ⟨h.a, h.b, h.c, h.ab, h.bc, h.ca⟩
theorem own_lt {w : World} {B e z n : Nat} {v : Value} {xs : List Value} (h : w.ownsRow B e z v n xs) : ∀ k, v.ownBlock = some k → k < w.heap.size := fun k hk => (h.lt k hk).2
theorem T3.grow {w w' : World} {B : Nat} {va va' : Value} {n n' : Nat} {xs xs' : List Int} {vb : Value} {m : Nat} {ys : List Int} {vc : Value} {k : Nat} {zs : List Int} (h : T3 w B va n xs vb m ys vc k zs)
    (ho : w'.ownsRow B 3 1 va' n' (icells xs')) (hg : w.grownBy w' va.ownBlock) (hat : va'.ownBlock = va.ownBlock ∨ va'.ownBlock = some w.heap.size) : T3 w' B va' n' xs' vb m ys vc k zs := by
  refine ⟨ho, h.b.kept hg h.ab.kept, h.c.kept hg h.ca.symm.kept, ?_, h.bc, ?_⟩
  · rcases hat with e | e
    · rw [e]; exact h.ab
    · rw [e]; intro j h1 h2; cases h1; have := own_lt h.b _ h2; omega
  · rcases hat with e | e
    · rw [e]; exact h.ca
    · rw [e]; intro j h1 h2; cases h2; have := own_lt h.c _ h1; omega
theorem T3.set {w : World} {B : Nat} {g c n : Nat} {xs : List Int} {vb : Value} {m : Nat} {ys : List Int} {vc : Value} {k : Nat} {zs : List Int} (h : T3 w B (.slice (some ⟨g, 0, none⟩) n c) n xs vb m ys vc k zs) (j : Nat) (u : Int) :
    T3 (w.setCell ⟨g, j, none⟩ (.int .i64 u)) B (.slice (some ⟨g, 0, none⟩) n c) n (xs.set j u) vb m ys vc k zs := by
  obtain ⟨h1, h2⟩ := World.ownsRow.stored h.a j (.int .i64 u)
  refine h.grow ?_ h2 (Or.inl rfl)
  rw [icells, List.map_set]
  exact h1
theorem own_takeD {w : World} {B e size n m cap : Nat} {a : Option Addr} {xs : List Value} (h : w.ownsRow B e size (.slice a n cap) n xs) (hm : m ≤ n) (h0 : 0 < n) : w.ownsRow B e size (.slice a m cap) m (xs.take (m * size)) := by
  obtain ⟨hl, h⟩ := h
  have hms : m * size ≤ n * size := Nat.mul_le_mul_right _ hm
  refine ⟨by rw [List.length_take]; omega, ?_⟩
  rcases h with ⟨h1, h2⟩ | ⟨g, cap', cur, h1, h2, h3, h4, h5, h6, h7⟩
  · omega
  · cases h1
    refine .inr ⟨g, cap, cur, rfl, h2, h3, by omega, h5, h6, ?_⟩
    rw [← h7, List.take_take, Nat.min_eq_left hms]
/-- what lies ahead in a row -/
theorem own_lowN {w : World} {B : Nat} {a : Option Addr} {cap : Nat} {D V : List Int} (h : w.ownsRow B 3 1 (.slice a (V ++ D).length cap) (V ++ D).length (icells (V ++ D))) : w.ownsRow B 3 1 (.slice a V.length cap) V.length (icells V) := by
  by_cases h0 : 0 < (V ++ D).length
  · have h1 := own_takeD h (show V.length ≤ (V ++ D).length by rw [List.length_append]; omega) h0
    rw [Nat.mul_one, icells, List.map_append, List.take_left' (by simp)] at h1
    exact h1
  · have h2 : V = [] ∧ D = [] := by
      rw [List.length_append] at h0
      exact ⟨List.length_eq_zero_iff.1 (by omega), List.length_eq_zero_iff.1 (by omega)⟩
    obtain ⟨rfl, rfl⟩ := h2
    exact h
def lefts (S : List Bf) : List Int := S.reverse.map fun f => (f.left : Int)
def alls (S : List Bf) : List Int := S.reverse.map fun f => (f.all : Int)
def froms (S : List Bf) : List Int := S.reverse.map fun f => (f.fr : Int)
/-- Behind's rows in memory -/
def B3 (w : World) (B : Nat) (va vb vc : Value) (S : List Bf) : Prop := T3 w B va S.length (lefts S) vb S.length (alls S) vc S.length (froms S)
theorem B3.nil (w : World) (B : Nat) : B3 w B (.slice none 0 0) (.slice none 0 0) (.slice none 0 0) [] :=
  ⟨World.ownsRow_nil _ _ _ _, World.ownsRow_nil _ _ _ _, World.ownsRow_nil _ _ _ _, (fun _ h => nomatch h), (fun _ h => nomatch h), (fun _ h => nomatch h)⟩
theorem lefts_cons (f : Bf) (S : List Bf) : lefts (f :: S) = lefts S ++ [(f.left : Int)] := by simp [lefts]
theorem alls_cons (f : Bf) (S : List Bf) : alls (f :: S) = alls S ++ [(f.all : Int)] := by simp [alls]
theorem froms_cons (f : Bf) (S : List Bf) : froms (f :: S) = froms S ++ [(f.fr : Int)] := by simp [froms]
theorem lefts_length (S : List Bf) : (lefts S).length = S.length := by simp [lefts]
theorem alls_length (S : List Bf) : (alls S).length = S.length := by simp [alls]
theorem froms_length (S : List Bf) : (froms S).length = S.length := by simp [froms]
theorem B3.dec {w : World} {B : Nat} {g c : Nat} {f : Bf} {S : List Bf} {n : Nat} {vb vc : Value} (hn : S.length = n) (h : B3 w B (.slice (some ⟨g, 0, none⟩) (n + 1) c) vb vc (f :: S)) : B3 (w.setCell ⟨g, n, none⟩ (.int .i64 ((f.left - 1 : Nat) : Int))) B (.slice (some ⟨g, 0, none⟩) (n + 1) c) vb vc ({ f with left := f.left - 1 } :: S) := by
  subst hn
  have h1 := T3.set h S.length ((f.left - 1 : Nat) : Int)
  rw [lefts_cons, List.set_append_right _ _ (by rw [lefts_length]; exact Nat.le_refl _), lefts_length, Nat.sub_self] at h1
  unfold B3
  rw [lefts_cons, alls_cons, froms_cons]
  rw [alls_cons, froms_cons] at h1
  exact h1
theorem ownB_len (a : Option Addr) (n m : Nat) {c : Nat} : (Value.slice a n c).ownBlock = (Value.slice a m c).ownBlock := by cases a <;> rfl
theorem B3.low {w : World} {B : Nat} {a b c : Option Addr} {ca cb cc : Nat} {D V : List Bf} {n : Nat} (hn : (D ++ V).length = n) (h : B3 w B (.slice a n ca) (.slice b n cb) (.slice c n cc) (D ++ V)) : B3 w B (.slice a V.length ca) (.slice b V.length cb) (.slice c V.length cc) V := by
  subst hn
  have e1 : lefts (D ++ V) = lefts V ++ lefts D := by simp [lefts]
  have e2 : alls (D ++ V) = alls V ++ alls D := by simp [alls]
  have e3 : froms (D ++ V) = froms V ++ froms D := by simp [froms]
  have ha := h.a
  have hb := h.b
  have hc := h.c
  rw [e1, show (D ++ V).length = (lefts V ++ lefts D).length by rw [List.length_append, List.length_append, lefts_length, lefts_length]; omega] at ha
  rw [e2, show (D ++ V).length = (alls V ++ alls D).length by rw [List.length_append, List.length_append, alls_length, alls_length]; omega] at hb
  rw [e3, show (D ++ V).length = (froms V ++ froms D).length by rw [List.length_append, List.length_append, froms_length, froms_length]; omega] at hc
  have ha := own_lowN ha
  have hb := own_lowN hb
  have hc := own_lowN hc
  rw [lefts_length] at ha
  rw [alls_length] at hb
  rw [froms_length] at hc
  have q1 := h.ab
  have q2 := h.bc
  have q3 := h.ca
  rw [ownB_len a _ V.length, ownB_len b _ V.length] at q1
  rw [ownB_len b _ V.length, ownB_len c _ V.length] at q2
  rw [ownB_len c _ V.length, ownB_len a _ V.length] at q3
  exact ⟨ha, hb, hc, q1, q2, q3⟩
theorem popB_idem : ∀ W : List Bf, popB (popB W) = popB W
  | [] => rfl
  | f :: W => by
    by_cases h : f.left = 0
    · rw [popB_dead h]; exact popB_idem W
    · rw [popB_live h, popB_live h]
theorem popB_len : ∀ W : List Bf, (popB W).length ≤ W.length
  | [] => Nat.le_refl _
  | f :: W => by
    by_cases h : f.left = 0
    · rw [popB_dead h, List.length_cons]; have := popB_len W; omega
    · rw [popB_live h]; exact Nat.le_refl _
theorem popB_head {f : Bf} {W V : List Bf} (h : popB V = f :: W) : f.left ≠ 0 := by
  have h1 := popB_idem V
  rw [h] at h1
  intro h2
  rw [popB_dead h2] at h1
  have h4 := popB_len W
  rw [h1, List.length_cons] at h4
  omega
theorem popB_tail : ∀ W : List Bf, ∃ D, W = D ++ popB W
  | [] => ⟨[], rfl⟩
  | f :: W => by
    by_cases h : f.left = 0
    · rw [popB_dead h]
      obtain ⟨D, hD⟩ := popB_tail W
      exact ⟨f :: D, by rw [List.cons_append, ← hD]⟩
    · rw [popB_live h]; exact ⟨[], rfl⟩
/-- what holds of each frame -/
def OkB (n : Nat) (S : List Bf) : Prop := ∀ f ∈ S, f.left ≤ f.all ∧ f.all ≤ 9223372036854775807 ∧ f.fr < n
theorem OkB.dec1 {n : Nat} {S : List Bf} (h : OkB n S) : OkB n (dec1B S) := by
  cases S with
  | nil => exact h
  | cons f S =>
    intro x hx
    rcases List.mem_cons.1 hx with rfl | hx
    · have := h f (List.mem_cons_self ..)
      exact ⟨by show f.left - 1 ≤ f.all; omega, this.2.1, this.2.2⟩
    · exact h x (List.mem_cons_of_mem _ hx)
theorem OkB.push {n : Nat} {S : List Bf} (h : OkB n S) {v : Vl} {i : Nat} (hk : v.kids ≤ 9223372036854775807) (hi : i < n) : OkB n (pushB v i S) := by
  rw [pushB]
  split
  · intro x hx
    rcases List.mem_cons.1 hx with rfl | hx
    · exact ⟨Nat.le_refl _, by show v.kids.toNat ≤ _; omega, hi⟩
    · exact h x hx
  · exact h
theorem dec1_len (S : List Bf) : (dec1B S).length = S.length := by cases S <;> rfl
theorem w64b (n : Nat) (h : n ≤ 9223372036854775807) : IntKind.i64.wrap (n : Int) = (n : Int) := by
  rw [IntKind.wrap_i64]
  omega
end Jq
end Go.Proofs.YtpaikjlcachabaaDoor
namespace Go.Proofs.YtpaikjlcachabaaDoor
open Go.RowKit
set_option linter.unusedVariables false
set_option linter.unusedSimpArgs false
namespace Jq
open Js Je
theorem B3.top {w : World} {B : Nat} {ka kb kc ca cb cc mv : Nat} {f : Bf} {T : List Bf} (hm : T.length = mv) (h : B3 w B (.slice (some ⟨ka, 0, none⟩) (mv + 1) ca) (.slice (some ⟨kb, 0, none⟩) (mv + 1) cb) (.slice (some ⟨kc, 0, none⟩) (mv + 1) cc) (f :: T)) :
    w.cell? ⟨ka, mv, none⟩ = some (.int .i64 (f.left : Int)) ∧ w.frozen? ⟨ka, mv, none⟩ = false ∧ w.cell? ⟨kb, mv, none⟩ = some (.int .i64 (f.all : Int)) ∧ w.cell? ⟨kc, mv, none⟩ = some (.int .i64 (f.fr : Int)) := by
  subst hm
  have h1 := h.a
  have h2 := h.b
  have h3 := h.c
  rw [lefts_cons, List.length_cons] at h1
  rw [alls_cons, List.length_cons] at h2
  rw [froms_cons, List.length_cons] at h3
  have g1 := (At.ofOwn h1).cell T.length (.int .i64 (f.left : Int)) (by rw [icells, List.map_append, List.getElem?_append_right (by simp [lefts])]; simp [lefts])
  have g2 := (At.ofOwn h2).cell T.length (.int .i64 (f.all : Int)) (by rw [icells, List.map_append, List.getElem?_append_right (by simp [alls])]; simp [alls])
  have g3 := (At.ofOwn h3).cell T.length (.int .i64 (f.fr : Int)) (by rw [icells, List.map_append, List.getElem?_append_right (by simp [froms])]; simp [froms])
  have g4 := (At.ofOwn h1).froz T.length (by rw [icells_length]; simp [lefts])
  rw [Nat.zero_add] at g1 g2 g3 g4
  exact ⟨g1, g4, g2, g3⟩
theorem mod2_0 {d : Nat} (h : d % 2 = 0) : (d : Int).tmod 2 = 0 := by rw [Int.tmod_eq_emod_of_nonneg (Int.natCast_nonneg _)]; omega
theorem mod2_1 {d : Nat} (h : ¬ d % 2 = 0) : (d : Int).tmod 2 = 1 := by rw [Int.tmod_eq_emod_of_nonneg (Int.natCast_nonneg _)]; omega
theorem own_capJ {w : World} {B e z n c : Nat} {a : Option Addr} {xs : List Value} (h : w.ownsRow B e z (.slice a n c) n xs) : n ≤ c := by
  rcases h.2 with ⟨h1, h2⟩ | ⟨g, cap, cur, h1, _, _, h2, _⟩
  · omega
  · cases h1; exact h2
theorem contB_nil {l : List Vl} {m i : Nat} {r : List Vl} : contB l [] m i r = ((i : Int), m) := rfl
theorem contB_cons {l : List Vl} {f : Bf} {S : List Bf} {m i : Nat} {r : List Vl} : contB l (f :: S) m i r = bhc l (f :: S) m i r := by rw [contB, if_neg (by simp)]
theorem sub_one {L z : Nat} (h : L ≠ 0) (hz : L - 1 = z) : (L : Int) - 1 = (z : Int) := by omega
theorem sub_le {L A z : Nat} (h : L ≤ A) (hA : A ≤ 9223372036854775807) (hz : L - 1 = z) : z ≤ 9223372036854775807 := by omega
theorem w64B (n : Nat) (h : n ≤ 9223372036854775807) : wrap64 (n : Int) = (n : Int) := w64n n (by omega)
set_option maxRecDepth 100000 in
set_option maxHeartbeats 6400000 in
theorem behind_any (l : List Vl) (a : Option Addr) (cap0 at0 : Nat) (w : World) (hl : l ≠ [] → ∃ g o, a = some ⟨g, o, none⟩ ∧ At w g o (vcells l) ∧ g < w.heap.size) (hK : ∀ x ∈ l, 0 ≤ x.kids ∧ x.kids ≤ 9223372036854775807) (hn : l.length ≤ 4096) (hat : at0 ≤ l.length) :
    Calls Tryd.prog 32 #[.slice a l.length cap0, .int .i64 (at0 : Int)] w (fun e w' => e = .returned (.tuple #[.int .i64 (bhc l [] 0 at0 (l.drop at0)).1, .int .i64 ((bhc l [] 0 at0 (l.drop at0)).2 : Int)]) ∧ Below w.heap.size w w') := by
  obtain ⟨R, hR⟩ : ∃ R, bhc l [] 0 at0 (l.drop at0) = R := ⟨_, rfl⟩
  rw [hR]
  obtain ⟨n, hn0⟩ : ∃ n, l.length = n := ⟨_, rfl⟩
  have HL := Lib.hid hl
  have HR := Lib.hid hR
  have HN := Lib.hid (And.intro hn hn0)
  have HK := Lib.hid hK
  have HAT : Hid (at0 ≤ n) := by show at0 ≤ n; omega
  rw [hn0]
  clear hR hl hK hn hat
  go_enter Tryd.func32, Tryd.ntmps32
  go_wp2_with fail
  go_loopw [6, 7, 8, 9, 10] (fun va vb vc vd vi wr => ∃ (i : Nat) (S : List Bf) (m : Nat), vi = .int .i64 (i : Int) ∧ vd = .int .i64 (m : Int) ∧ i ≤ n ∧ Hid (B3 wr w.heap.size va vb vc S) ∧ Hid (popB S = S) ∧ Hid (bhc l S m i (l.drop i) = R) ∧ Hid (Below w.heap.size w wr) ∧ Hid (OkB n S ∧ S.length ≤ i ∧ m ≤ i)) (fun _ _ _ _ vi _ => n - (intOf vi).toNat)
  case atStart => exact ⟨at0, [], 0, rfl, rfl, HAT.out, B3.nil _ _, rfl, HR.out, Below.refl _ _, (fun f hf => (List.not_mem_nil hf).elim), Nat.zero_le _, Nat.zero_le _⟩
  case round =>
    obtain ⟨i, S, m, rfl, rfl, hi, HW, HP, HT, HB, HO⟩ := hrel
    by_cases hin : i < n
    · have hil : i < l.length := by omega
      have hne : l ≠ [] := fun h => by rw [h] at hil; simp at hil
      obtain ⟨g, o, rfl, hAg, hgl⟩ := HL.out hne
      have HLL := Lib.hid hAg
      have HAG := Lib.hid (hAg.below HB.out hgl)
      have hNc := value_at HAG.out i hil
      obtain ⟨x, hx⟩ : ∃ x, l.getD i v0 = x := ⟨_, rfl⟩
      have hdrop : l.drop i = x :: l.drop (i + 1) := by rw [List.drop_eq_getElem_cons hil, ← hx, List.getD, List.getElem?_eq_getElem hil]; rfl
      have hkn := HK.out x (by rw [← hx, List.getD, List.getElem?_eq_getElem hil]; exact List.getElem_mem hil)
      rw [hx] at hNc
      have HXI := Lib.hid hx
      have HNC := Lib.hid hNc
      have e1 : (i : Int) < (n : Int) := by omega
      have e9 : (i : Int) ≤ 4096 := by have h1 := HN.out.1; omega
      have HII := Lib.hid (show ∃ j, n = i + 1 + j from ⟨n - i - 1, by omega⟩)
      have HGL := Lib.hid hgl
      obtain ⟨kids, hkids⟩ : ∃ k, x.kids.toNat = k := ⟨_, rfl⟩
      have hkid2 : x.kids = (kids : Int) := by omega
      have hkid3 : kids ≤ 9223372036854775807 := by omega
      obtain ⟨kk, hkk⟩ : ∃ k, x.kind = k := ⟨_, rfl⟩
      have HX := Lib.hid (And.intro hkk (And.intro hkid2 hkid3))
      have n0 := HNC.out.cell 0 _ rfl
      have n1 := HNC.out.cell 1 _ rfl
      rw [hkk, Nat.add_zero] at n0
      rw [hkid2] at n1
      have kn0 : ¬ (kids : Int) < 0 := by omega
      rw [hdrop] at HT
      have HIL := Lib.hid hil
      clear hNc hdrop hkn hin hi hil hx hne hgl hAg hkids hkid2 hkid3 hkk
      obtain ⟨aW, cW, rfl, haW⟩ := own_form HW.out.a
      obtain ⟨bW, dW, rfl, hbW⟩ := own_form HW.out.b
      obtain ⟨fW, gW, rfl, hfW⟩ := own_form HW.out.c
      obtain ⟨nW, hnW⟩ : ∃ nW, S.length = nW := ⟨_, rfl⟩
      have hn4 : nW ≤ 4096 := by have h1 := HO.out.2.1; have h2 := HN.out.1; have h3 := HIL.out; omega
      rw [hnW]
      have HNW := Lib.hid hnW
      by_cases hbad : badB l S x = true
      · cases S with
        | nil => exact absurd hbad (by rw [badB]; decide)
        | cons f T =>
          obtain ⟨mv, hmv⟩ : ∃ m, T.length = m := ⟨_, rfl⟩
          obtain rfl : nW = mv + 1 := by rw [← hnW, List.length_cons, hmv]
          obtain ⟨ka, rfl⟩ := haW (by rw [List.length_cons]; omega)
          obtain ⟨kb, rfl⟩ := hbW (by rw [List.length_cons]; omega)
          obtain ⟨kc, rfl⟩ := hfW (by rw [List.length_cons]; omega)
          have hW2 : B3 wr w.heap.size (.slice (some ⟨ka, 0, none⟩) (mv + 1) cW) (.slice (some ⟨kb, 0, none⟩) (mv + 1) dW) (.slice (some ⟨kc, 0, none⟩) (mv + 1) gW) (f :: T) := by have h := HW.out; rw [List.length_cons, hmv] at h; exact h
          obtain ⟨t1, t2, t3, t4⟩ := hW2.top hmv
          have hok := HO.out.1 f (List.mem_cons_self ..)
          obtain ⟨A, hA⟩ : ∃ A, f.all = A := ⟨_, rfl⟩
          obtain ⟨L, hL⟩ : ∃ L, f.left = L := ⟨_, rfl⟩
          obtain ⟨F, hF⟩ : ∃ F, f.fr = F := ⟨_, rfl⟩
          rw [hA, hL, hF] at hok
          rw [hL] at t1
          rw [hA] at t3
          rw [hF] at t4
          have hNf := value_at HAG.out F (by have := HN.out.2; omega)
          obtain ⟨kf, hkf⟩ : ∃ k, (l.getD F v0).kind = k := ⟨_, rfl⟩
          have f0 := hNf.cell 0 _ rfl
          rw [hkf, Nat.add_zero] at f0
          rw [badB, objB, hA, hL, hF, show (l.getD F ⟨0, 0, []⟩).kind = kf from hkf, HX.out.1] at hbad
          obtain ⟨d, hd⟩ : ∃ d, A - L = d := ⟨_, rfl⟩
          rw [hd] at hbad
          have hb1 : kf = 6 ∧ d % 2 = 0 ∧ kk ≠ 4 := by simp at hbad; exact ⟨hbad.1.1, hbad.1.2, hbad.2⟩
          obtain ⟨rfl, hb2, hb3⟩ := hb1
          have e4 : IntKind.i64.wrap (mv : Int) = (mv : Int) := w64b mv (by omega)
          have e5 : (mv : Int) < (mv : Int) + 1 := by omega
          have e5b : (0 : Int) < (mv : Int) + 1 := by omega
          have e6 : (A : Int) - (L : Int) = (d : Int) := by omega
          have e7 : IntKind.i64.wrap (d : Int) = (d : Int) := w64b d (by omega)
          have e7b : wrap64 (d : Int) = (d : Int) := w64B d (by omega)
          have e8 : (d : Int).tmod 2 = 0 := by rw [Int.tmod_eq_emod_of_nonneg (by omega)]; omega
          have e10 : (F : Int) < (n : Int) := by omega
          have HF : Hid (R = (-1, m)) := by show R = _; rw [← HT.out, bhc, if_pos (Or.inr (by rw [badB, objB, hA, hL, hF, show (l.getD F ⟨0, 0, []⟩).kind = 6 from hkf, HX.out.1, hd]; simp [hb2, hb3]))]
          clear hW2 hok hA hL hF hNf hkf hbad hd hmv hnW haW hbW hfW hn4
          go_upto_region 10 with fail
          go_quiet (fail)
          go_wp2_with fail
          go_ret2
          exact ⟨by rw [HF.out]; rfl, below_drewN HB.out _⟩
      · have HBAD : Hid (badB l S x = false) := by show badB l S x = false; exact Bool.eq_false_iff.2 hbad
        have hd2 : (dec1B S).length = nW := by rw [dec1_len]; exact hnW
        have HT2 : Hid (contB l (popB (pushB x i (dec1B S))) (max m (pushB x i (dec1B S)).length) (i + 1) (l.drop (i + 1)) = R) := by
          show _ = R
          rw [← HT.out, bhc_step (by rw [HX.out.2.1]; omega) HBAD.out]
        have HO2 := Lib.hid HO.out.1.dec1
        clear hbad HT
        go_upto_if 29 with fail
        go_cut [] from 29 to 73 (fun wx => Hid (B3 wx w.heap.size (.slice aW nW cW) (.slice bW nW dW) (.slice fW nW gW) (dec1B S)) ∧ Hid (Below w.heap.size w wx))
        case first =>
          cases S with
          | nil =>
            have hz : nW = 0 := hnW.symm
            subst hz
            clear hnW hd2 hn4
            go_wp2_with fail
            go_meet
            case rel => exact ⟨HW, HB⟩
          | cons f T =>
            obtain ⟨mv, hmv⟩ : ∃ m, T.length = m := ⟨_, rfl⟩
            obtain rfl : nW = mv + 1 := by rw [← hnW, List.length_cons, hmv]
            obtain ⟨ka, rfl⟩ := haW (by rw [List.length_cons]; omega)
            obtain ⟨kb, rfl⟩ := hbW (by rw [List.length_cons]; omega)
            obtain ⟨kc, rfl⟩ := hfW (by rw [List.length_cons]; omega)
            have hW2 : B3 wr w.heap.size (.slice (some ⟨ka, 0, none⟩) (mv + 1) cW) (.slice (some ⟨kb, 0, none⟩) (mv + 1) dW) (.slice (some ⟨kc, 0, none⟩) (mv + 1) gW) (f :: T) := by have h := HW.out; rw [List.length_cons, hmv] at h; exact h
            obtain ⟨t1, t2, t3, t4⟩ := hW2.top hmv
            have hok := HO.out.1 f (List.mem_cons_self ..)
            have hl0 : f.left ≠ 0 := popB_head HP.out
            obtain ⟨A, hA⟩ : ∃ A, f.all = A := ⟨_, rfl⟩
            obtain ⟨L, hL⟩ : ∃ L, f.left = L := ⟨_, rfl⟩
            obtain ⟨F, hF⟩ : ∃ F, f.fr = F := ⟨_, rfl⟩
            have hW3 := fun q => B3.dec hmv (T3.drewN hW2 q)
            rw [hL] at hW3
            rw [hA, hL, hF] at hok
            rw [hL] at t1 hl0
            rw [hA] at t3
            rw [hF] at t4
            have hNf := value_at HAG.out F (by have := HN.out.2; omega)
            obtain ⟨kf, hkf⟩ : ∃ k, (l.getD F v0).kind = k := ⟨_, rfl⟩
            have f0 := hNf.cell 0 _ rfl
            rw [hkf, Nat.add_zero] at f0
            have hbad := HBAD.out
            rw [badB, objB, hA, hL, hF, show (l.getD F ⟨0, 0, []⟩).kind = kf from hkf, HX.out.1] at hbad
            obtain ⟨d, hd⟩ : ∃ d, A - L = d := ⟨_, rfl⟩
            obtain ⟨z, hz⟩ : ∃ z, L - 1 = z := ⟨_, rfl⟩
            rw [hz] at hW3
            rw [hd] at hbad
            have hb1 : Hid (¬ (kf = 6 ∧ d % 2 = 0 ∧ kk ≠ 4)) := by show ¬ _; intro h; simp [h.1, h.2.1, h.2.2] at hbad
            clear hbad
            have e4 : IntKind.i64.wrap (mv : Int) = (mv : Int) := w64b mv (by omega)
            have e5 : (mv : Int) < (mv : Int) + 1 := by omega
            have e5b : (0 : Int) < (mv : Int) + 1 := by omega
            have e6 : (A : Int) - (L : Int) = (d : Int) := by omega
            have e7 : IntKind.i64.wrap (d : Int) = (d : Int) := w64b d (by omega)
            have e7b : wrap64 (d : Int) = (d : Int) := w64B d (by omega)
            have e10 : (F : Int) < (n : Int) := Int.ofNat_lt.2 hok.2.2
            have e11 : (L : Int) - 1 = (z : Int) := sub_one hl0 hz
            have e12 : IntKind.i64.wrap (z : Int) = (z : Int) := w64b z (sub_le hok.1 hok.2.1 hz)
            have e13 : wrap64 ((L : Int) - 1) = (z : Int) := by rw [e11]; exact w64B z (sub_le hok.1 hok.2.1 hz)
            have hlt := own_lt hW2.a ka rfl
            have HB9 : Hid (∀ q, Below w.heap.size w ((wr.drewN q).setCell ⟨ka, mv, none⟩ (.int .i64 (z : Int)))) := fun q => (below_drewN HB.out q).setCell (p := ⟨ka, mv, none⟩) (hW2.a.lt ka rfl).1 (.int .i64 (z : Int))
            have HW9 : Hid (∀ q, B3 ((wr.drewN q).setCell ⟨ka, mv, none⟩ (.int .i64 (z : Int))) w.heap.size (.slice (some ⟨ka, 0, none⟩) (mv + 1) cW) (.slice (some ⟨kb, 0, none⟩) (mv + 1) dW) (.slice (some ⟨kc, 0, none⟩) (mv + 1) gW) (dec1B (f :: T))) := by show ∀ q, B3 _ _ _ _ _ _; intro q; rw [dec1B, hL, hz]; exact hW3 q
            clear hW2 hW3 hok hA hL hF hNf hkf hd hmv hnW haW hbW hfW hn4 hl0 hz hlt
            by_cases q6 : kf = 6
            · subst q6
              by_cases q2 : d % 2 = 0
              · have q4 : kk = 4 := Classical.byContradiction fun h => hb1.out ⟨rfl, q2, h⟩
                subst q4
                have e8 : (d : Int).tmod 2 = 0 := mod2_0 q2
                clear q2
                go_upto_region 10 with fail
                go_quiet (fail)
                go_wp2_with fail
                go_meet
                case rel => exact ⟨HW9.out _, HB9.out _⟩
              · have e8 : (d : Int).tmod 2 = 1 := mod2_1 q2
                clear q2
                go_upto_region 10 with fail
                go_quiet (fail)
                go_wp2_with fail
                go_meet
                case rel => exact ⟨HW9.out _, HB9.out _⟩
            · have q7 : (kf == 6) = false := by rw [beq_eq_false_iff_ne]; exact q6
              go_upto_region 10 with fail
              go_quiet (fail)
              go_wp2_with fail
              go_meet
              case rel => exact ⟨HW9.out _, HB9.out _⟩
        case rest =>
          obtain ⟨HW1, HB1⟩ := hcut
          obtain ⟨wa, hwa⟩ : ∃ x, x = wc := ⟨_, rfl⟩
          subst hwa
          clear n0 n1 hnW
          have HNC1 := Lib.hid ((value_at (HAG.out) i HIL.out))
          have HAG1 : Hid (At wa g o (vcells l)) := (HLL.out).below HB1.out HGL.out
          have n0 := (value_at HAG1.out i HIL.out).cell 0 _ rfl
          have n1 := (value_at HAG1.out i HIL.out).cell 1 _ rfl
          rw [HXI.out, HX.out.1, Nat.add_zero] at n0
          rw [HXI.out, HX.out.2.1] at n1
          have HD2 := Lib.hid hd2
          clear hd2
          obtain ⟨bb, hbb⟩ : ∃ b, decide (kk = 5 ∨ kk = 6) = b := ⟨_, rfl⟩
          have HBB := Lib.hid hbb
          go_upto_region 13 with fail
          go_cut [87] from 74 to 87 (fun v87 wx => v87 = .bool bb ∧ wx = wa)
          case first =>
            by_cases q5 : kk = 5
            · have : bb = true := by rw [← hbb]; simp [q5]
              subst this
              subst q5
              clear hbb
              go_wp2_with fail
              go_meet
              case rel => exact ⟨rfl, rfl⟩
            · by_cases q6 : kk = 6
              · have : bb = true := by rw [← hbb]; simp [q6]
                subst this
                subst q6
                clear hbb
                go_wp2_with fail
                go_meet
                case rel => exact ⟨rfl, rfl⟩
              · have : bb = false := by rw [← hbb]; simp [q5, q6]
                subst this
                clear hbb
                have q5b : (kk == 5) = false := by rw [beq_eq_false_iff_ne]; exact q5
                have q6b : (kk == 6) = false := by rw [beq_eq_false_iff_ne]; exact q6
                go_wp2_with fail
                go_meet
                case rel => exact ⟨by first | rfl | (rw [q5b, q6b]; rfl), rfl⟩
          case rest =>
            obtain ⟨rfl, hwc⟩ := hcut
            have hwc := hwc.symm
            subst hwc
            clear hbb
            obtain ⟨W2, hW2⟩ : ∃ W2, pushB x i (dec1B S) = W2 := ⟨_, rfl⟩
            have HW2 := Lib.hid hW2
            obtain ⟨n2, hn2⟩ : ∃ n2, W2.length = n2 := ⟨_, rfl⟩
            have HN2 := Lib.hid hn2
            have hn2b : n2 ≤ nW + 1 ∧ n2 ≤ i + 1 := by
              have h1 : n2 = nW ∨ n2 = nW + 1 := by
                rw [← hn2, ← hW2, pushB]
                split
                · rw [List.length_cons, HD2.out]; exact Or.inr rfl
                · rw [HD2.out]; exact Or.inl rfl
              have h2 := HO.out.2.1
              have h3 := HNW.out
              omega
            have HN2b := Lib.hid hn2b
            rw [hW2, hn2] at HT2
            clear hW2 hn2 hn2b
            go_upto_if 87 with fail
            go_cut [6, 7, 8] from 87 to 107 (fun va vb vc wx => Hid (B3 wx w.heap.size va vb vc W2) ∧ Hid (Below w.heap.size w wx))
            case first =>
              cases bb with
              | false =>
                have hnk : ¬ (x.kind = 5 ∨ x.kind = 6) := by rw [HX.out.1]; exact of_decide_eq_false HBB.out
                have hW9 : B3 wa w.heap.size (.slice aW nW cW) (.slice bW nW dW) (.slice fW nW gW) W2 := by have h := HW1.out; rw [← HW2.out, pushB, if_neg hnk]; exact h
                have HW9 := Lib.hid hW9
                clear hnk hW9
                go_wp2_with fail
                go_meet
                case rel => exact ⟨HW9, HB1⟩
              | true =>
                have hyk : (x.kind = 5 ∨ x.kind = 6) := by rw [HX.out.1]; exact of_decide_eq_true HBB.out
                obtain ⟨D1, hD1⟩ : ∃ D, dec1B S = D := ⟨_, rfl⟩
                have HW9 : Hid (W2 = ⟨kids, kids, i⟩ :: D1) := by show W2 = _; rw [← HW2.out, pushB, if_pos hyk, hD1, show x.kids.toNat = kids by rw [HX.out.2.1]; rfl]
                have HT1 : Hid (T3 wa w.heap.size (.slice aW nW cW) nW (lefts D1) (.slice bW nW dW) nW (alls D1) (.slice fW nW gW) nW (froms D1)) := by
                  have h1 := HW1.out
                  have h2 := HD2.out
                  rw [hD1] at h1 h2
                  unfold B3 at h1
                  rw [h2] at h1
                  exact h1
                obtain ⟨i0, hi0, hq⟩ := Option.map_eq_some_iff.1 info3
                simp only [Prod.mk.injEq] at hq
                obtain ⟨hz0, hz1, hz2⟩ := hq
                have hmn : nW ≤ 17592186044415 := by omega
                have HKI := Lib.hid hmn
                have HD1 := Lib.hid hD1
                clear hD1 hyk haW hbW hfW
                go_wp2_with (first
                  | (at_builtin; refine wpList_append_i64a rfl (.tmp 88) (.tmp 94) 94 rfl w.heap.size 3 i0 Tryd.underlying94 hi0 hz0 hz1 hz2 (.slice aW nW cW) nW (lefts D1) rfl (HT1.out.alloc _).a wa.heap.size 1 (kids : Int) rfl (by simp) hmn (by have := HB1.out.size; simp; omega) ?_; intro va' wb hown' hgrow' hat'; have HBb := Lib.hid (below_own (HB1.out.alloc HB1.out.size (Obj.cells #[.int .i64 (kids : Int)] 3)) hgrow' (by have := HB1.out.size; simp; omega) (HT1.out.alloc _).a); have HT4 := Lib.hid (T3.grow (HT1.out.alloc _) hown' hgrow' hat'); have n3 := (value_at ((HLL.out).below HBb.out HGL.out) i HIL.out).cell 1 _ rfl; rw [HXI.out, HX.out.2.1] at n3; clear hown' hgrow' hat')
                  | (at_builtin; refine wpList_append_i64a rfl (.tmp 96) (.tmp 102) 94 rfl w.heap.size 3 i0 Tryd.underlying94 hi0 hz0 hz1 hz2 (.slice bW nW dW) nW (alls D1) rfl (HT4.out.alloc _).b _ 1 (kids : Int) rfl (by simp) hmn (by have := HBb.out.size; simp; omega) ?_; intro vb' wd hown' hgrow' hat'; have HBd := Lib.hid (below_own (HBb.out.alloc HBb.out.size (Obj.cells #[.int .i64 (kids : Int)] 3)) hgrow' (by have := HBb.out.size; simp; omega) (HT4.out.alloc _).b); have HT5 := Lib.hid (T3.grow (HT4.out.alloc _).rot hown' hgrow' hat'); clear hown' hgrow' hat')
                  | (at_builtin; refine wpList_append_i64a rfl (.tmp 104) (.tmp 106) 94 rfl w.heap.size 3 i0 Tryd.underlying94 hi0 hz0 hz1 hz2 (.slice fW nW gW) nW (froms D1) rfl (HT5.out.alloc _).b _ 1 (i : Int) rfl (by simp) hmn (by have := HBd.out.size; simp; omega) ?_; intro vc' we hown' hgrow' hat'; have HBe := Lib.hid (below_own (HBd.out.alloc HBd.out.size (Obj.cells #[.int .i64 (i : Int)] 3)) hgrow' (by have := HBd.out.size; simp; omega) (HT5.out.alloc _).b); have HT6 := Lib.hid (T3.grow (HT5.out.alloc _).rot hown' hgrow' hat'); clear hown' hgrow' hat'))
                go_meet
                case rel =>
                  refine ⟨?_, HBe⟩
                  have h1 := HT6.out.rot
                  have h2 := HD2.out
                  show B3 _ _ _ _ _ _
                  rw [HW9.out]
                  unfold B3
                  rw [HD1.out] at h2
                  rw [lefts_cons, alls_cons, froms_cons, List.length_cons, h2]
                  exact h1
            case rest =>
              obtain ⟨HW3, HB3⟩ := hcut
              obtain ⟨wb, hwb⟩ : ∃ x, x = wc := ⟨_, rfl⟩
              subst hwb
              have HO3 : Hid (OkB n W2) := by
                show OkB n W2
                rw [← HW2.out]
                exact HO2.out.push (by rw [HX.out.2.1]; have := HX.out.2.2; omega) (by obtain ⟨j, hj⟩ := HII.out; omega)
              obtain ⟨a2, c2, rfl, ha2⟩ := own_form HW3.out.a
              obtain ⟨b2, d2, rfl, hb2⟩ := own_form HW3.out.b
              obtain ⟨f2, g2, rfl, hf2⟩ := own_form HW3.out.c
              have hcl1 := own_capJ HW3.out.a
              have hcl2 := own_capJ HW3.out.b
              have hcl3 := own_capJ HW3.out.c
              rw [HN2.out] at hcl1 hcl2 hcl3
              have HCL := Lib.hid (And.intro hcl1 (And.intro hcl2 hcl3))
              obtain ⟨m2, hm2⟩ : ∃ m2, max m n2 = m2 := ⟨_, rfl⟩
              rw [hm2] at HT2
              have hn2c : n2 ≤ 4097 := by have := HN2b.out.1; omega
              rw [HN2.out]
              clear n0 n1 haW hbW hfW hcl1 hcl2 hcl3
              go_upto_if 111 with fail
              go_cut [9] from 111 to 113 (fun v9 wx => v9 = .int .i64 (m2 : Int) ∧ wx = wb)
              case first =>
                by_cases h1 : m < n2
                · have f1 : (m : Int) < (n2 : Int) := by omega
                  have h2 : m2 = n2 := by omega
                  go_wp2_with fail
                  go_meet
                  case rel => exact ⟨by rw [h2], rfl⟩
                · have f1 : ¬ (m : Int) < (n2 : Int) := by omega
                  have h2 : m2 = m := by omega
                  go_wp2_with fail
                  go_meet
                  case rel => exact ⟨by rw [h2], rfl⟩
              case rest =>
                obtain ⟨rfl, hwc⟩ := hcut
                have hwc := hwc.symm
                subst hwc
                have HM2 : Hid (m2 ≤ i + 1) := by have h1 := HO.out.2.2; have h2 := HN2b.out.2; show m2 ≤ i + 1; omega
                clear hm2
                go_wp2_with fail
                go_loop [6, 7, 8] (fun va vb vc => ∃ (D V : List Bf), va = .slice a2 V.length c2 ∧ vb = .slice b2 V.length d2 ∧ vc = .slice f2 V.length g2 ∧ Hid (W2 = D ++ V) ∧ Hid (popB V = popB W2)) (fun va _ _ => sliceLen va)
                case atStart => exact ⟨[], W2, by rw [HN2.out], by rw [HN2.out], by rw [HN2.out], rfl, rfl⟩
                case round =>
                  obtain ⟨D, V, rfl, rfl, rfl, HD3, HV⟩ := hrel
                  cases V with
                  | nil =>
                    have h0 : popB W2 = [] := by rw [← HV.out]; rfl
                    have HF : Hid (R = (((i + 1 : Nat) : Int), m2)) := by show R = _; rw [← HT2.out, h0]; rfl
                    have e11 : IntKind.i64.wrap ((i : Int) + 1) = (i : Int) + 1 := by
                      have h3 : ((i + 1 : Nat) : Int) = (i : Int) + 1 := by omega
                      rw [← h3]
                      exact w64b (i + 1) (by have := HN.out.1; have := HIL.out; omega)
                    clear h0
                    go_wp2_with fail
                    go_ret2
                    exact ⟨by rw [HF.out]; rfl, HB3.out⟩
                  | cons z V =>
                    obtain ⟨mv, hmv⟩ : ∃ m, V.length = m := ⟨_, rfl⟩
                    have hlen2 : n2 = D.length + (mv + 1) := by rw [← HN2.out, HD3.out, List.length_append, List.length_cons, hmv]
                    have hW5 := HW3.out
                    have hn9 := HN2.out
                    rw [hn9, HD3.out] at hW5
                    have hW6 := hW5.low (by rw [← HD3.out]; exact HN2.out)
                    rw [List.length_cons, hmv] at hW6
                    obtain ⟨ka, rfl⟩ := ha2 (by rw [HN2.out]; omega)
                    obtain ⟨kb, rfl⟩ := hb2 (by rw [HN2.out]; omega)
                    obtain ⟨kc, rfl⟩ := hf2 (by rw [HN2.out]; omega)
                    obtain ⟨t1, -, -, -⟩ := hW6.top hmv
                    have e4 : IntKind.i64.wrap (mv : Int) = (mv : Int) := w64b mv (by omega)
                    have e5 : (mv : Int) < (mv : Int) + 1 := by omega
                    have e5b : (0 : Int) < (mv : Int) + 1 := by omega
                    have hm1 : (mv : Int) ≤ (c2 : Int) := by have h2 := HCL.out.1; omega
                    have hm3 : (mv : Int) ≤ (d2 : Int) := by have h2 := HCL.out.2.1; omega
                    have hm4 : (mv : Int) ≤ (g2 : Int) := by have h2 := HCL.out.2.2; omega
                    obtain ⟨L, hL⟩ : ∃ L, z.left = L := ⟨_, rfl⟩
                    rw [hL] at t1
                    by_cases hz : L = 0
                    · subst hz
                      have HM := Lib.hid hmv
                      have HLL0 := Lib.hid hL
                      clear hW5 hW6 hlen2 hL
                      go_wp2_with fail
                      go_round
                      case rel => exact ⟨D ++ [z], V, by rw [HM.out], by rw [HM.out], by rw [HM.out], by show W2 = _; rw [HD3.out]; simp, by show popB V = _; rw [← HV.out, popB_dead HLL0.out]⟩
                      case measure => have h1 := HM.out; simp [sliceLen]; omega
                    · have f1 : ((L : Int) == 0) = false := by rw [beq_eq_false_iff_ne]; omega
                      have hz0 : z.left ≠ 0 := by rw [hL]; exact hz
                      have hV : popB W2 = z :: V := by rw [← HV.out]; exact popB_live hz0
                      have HM := Lib.hid (And.intro hmv (And.intro hV (And.intro hlen2 hz0)))
                      have HF : Hid (bhc l (z :: V) m2 (i + 1) (l.drop (i + 1)) = R) := by
                        show _ = R
                        rw [← HT2.out, hV, contB_cons]
                      have HW5 := Lib.hid hW6
                      clear hW5 hlen2 hV hW6 hz0
                      go_wp2_with fail
                      go_roundw
                      case rel =>
                        refine ⟨i + 1, z :: V, m2, by go_num, rfl, by obtain ⟨j, hj⟩ := HII.out; omega, (by have h := HW5; rw [← HM.out.1] at h; exact h), popB_live HM.out.2.2.2, HF, HB3, ?_, ?_, HM2.out⟩
                        · intro f hf
                          exact HO3.out f (by rw [HD3.out]; exact List.mem_append_right _ hf)
                        · rw [List.length_cons, HM.out.1]; have h1 := HM.out.2.2.1; have h2 := HN2b.out.2; omega
                      case measure => obtain ⟨j, hj⟩ := HII.out; simp [intOf]; omega
    · obtain rfl : i = n := by omega
      have e1 : ¬ (i : Int) < (i : Int) := by omega
      have HF : Hid (R = (-1, m)) := by show R = _; rw [← HT.out, List.drop_eq_nil_of_le (by have := HN.out.2; omega)]; rfl
      clear hin hi
      go_wp2_with fail
      go_ret2
      exact ⟨by rw [HF.out]; rfl, HB.out⟩
end Jq
end Go.Proofs.YtpaikjlcachabaaDoor
namespace Go.Proofs.YtpaikjlcachabaaDoor
open Go.RowKit
set_option linter.unusedVariables false
set_option linter.unusedSimpArgs false
namespace Jq
open Js Je
theorem Fo.first {N H M d q} {x : Vl} (h : Fo N (x :: H) M d q) : ∃ N', N = x :: N' := by
  cases h with
  | leaf _ _ _ _ => exact ⟨_, rfl⟩
  | node _ _ _ _ _ _ => exact ⟨_, rfl⟩
theorem nmE_append (B : List Vl) : ∀ (A : List Vl) (p : Nat), nmE p (A ++ B) = nmE p A ++ nmE (p + A.length) B
  | [], p => rfl
  | a :: A, p => by
    have h := nmE_append B A (p + 1)
    rw [List.cons_append, nmE, nmE, List.length_cons, show p + (A.length + 1) = p + 1 + A.length by omega, h]
    split
    · rfl
    · rfl
/-- how far twice has come -/
def TwS (l HK r : List Vl) (at0 j nx : Nat) : Prop :=
  ∃ N1 N2 M1 M2 d1 d2 q1 q2, l.drop (at0 + 1) = N1 ++ (N2 ++ r) ∧ Fo N1 (HK.take j) M1 d1 q1 ∧ Fo N2 (HK.drop j) M2 d2 q2 ∧ nx = at0 + 1 + N1.length
theorem TwS.zero {l K HK r : List Vl} {MK dK qK} {at0 : Nat} (h : l.drop (at0 + 1) = K ++ r) (hK : Fo K HK MK dK qK) : TwS l HK r at0 0 (at0 + 1) :=
  ⟨[], K, [], MK, 0, dK, true, qK, h, .nil, hK, rfl⟩
theorem TwS.step {l HK r : List Vl} {at0 j nx : Nat} (h : TwS l HK r at0 j nx) (hj : j < HK.length) :
    ∃ nx2 : Nat, (bhc l [] 0 nx (l.drop nx)).1 = (nx2 : Int) ∧ l.getD nx v0 = HK.getD j v0 ∧ nx < l.length ∧ TwS l HK r at0 (j + 1) nx2 ∧ nx2 ≤ l.length := by
  obtain ⟨N1, N2, M1, M2, d1, d2, q1, q2, hd, h1, h2, rfl⟩ := h
  obtain ⟨Na, Nb, da, db, qa, qb, rfl, ha, hb, -, -⟩ := h2.split 1 (by rw [List.length_drop]; omega)
  have hj1 : HK.drop j = HK.getD j v0 :: HK.drop (j + 1) := by rw [List.drop_eq_getElem_cons hj, List.getD, List.getElem?_eq_getElem hj]; rfl
  rw [hj1] at ha hb
  rw [List.take_succ_cons, List.take_zero] at ha
  rw [List.drop_succ_cons, List.drop_zero] at hb
  have hl1 := ha.lens.1
  obtain ⟨B, hB⟩ : ∃ B, M2.take 1 = [B] := by
    match hm : M2.take 1 with
    | [] => rw [hm] at hl1; simp at hl1
    | [B] => exact ⟨B, rfl⟩
    | B :: C :: Z => rw [hm] at hl1; simp at hl1
  rw [hB] at ha
  have hdn : l.drop (at0 + 1 + N1.length) = Na ++ (Nb ++ r) := by
    have h9 := drop_more N1 hd
    rw [h9, List.append_assoc]
  obtain ⟨Na', hNa⟩ := ha.first
  have hf := drop_next (show l.drop (at0 + 1 + N1.length) = HK.getD j v0 :: (Na' ++ (Nb ++ r)) by rw [hdn, hNa]; rfl)
  refine ⟨at0 + 1 + N1.length + Na.length, ?_, hf.2.1, hf.2.2, ?_, ?_⟩
  · rw [hdn, ha.bhOne _ _ hdn]
  · refine ⟨N1 ++ Na, Nb, M1 ++ [B], M2.drop 1, max d1 da, db, (q1 && qa), qb, ?_, ?_, hb, ?_⟩
    · rw [hd, List.append_assoc, List.append_assoc]
    · have h9 := h1.append ha
      rw [show HK.take j ++ [HK.getD j v0] = HK.take (j + 1) by rw [List.take_succ_eq_append_getElem hj, List.getD, List.getElem?_eq_getElem hj]; rfl] at h9
      exact h9
    · rw [List.length_append]; omega
  · have h9 := congrArg List.length hdn
    rw [List.length_drop, List.length_append] at h9
    have h8 : Na ≠ [] := by rw [hNa]; exact List.cons_ne_nil _ _
    have := List.length_pos_iff.2 h8
    omega
theorem nm_step {HK : List Vl} {j : Nat} (hj : j < HK.length) : nmE 0 (HK.take (j + 1)) = if j % 2 = 0 then nmE 0 (HK.take j) ++ [(HK.getD j v0).text] else nmE 0 (HK.take j) := by
  rw [show HK.take (j + 1) = HK.take j ++ [HK.getD j v0] by rw [List.take_succ_eq_append_getElem hj, List.getD, List.getElem?_eq_getElem hj]; rfl, nmE_append, List.length_take, Nat.min_eq_left (by omega), Nat.zero_add, nmE]
  split
  · rfl
  · rw [show nmE (j + 1) [] = [] from rfl, List.append_nil]
theorem nm_dup {HK : List Vl} {j : Nat} (hj : j < HK.length) (h2 : j % 2 = 0) (hm : (HK.getD j v0).text ∈ nmE 0 (HK.take j)) : ¬ (nmE 0 HK).Nodup := by
  intro hn
  have h1 := nm_step hj
  rw [if_pos h2] at h1
  have h3 : nmE 0 HK = nmE 0 (HK.take (j + 1)) ++ nmE (0 + (HK.take (j + 1)).length) (HK.drop (j + 1)) := by rw [← nmE_append, List.take_append_drop]
  rw [h3, h1] at hn
  have h4 := (List.nodup_append.1 hn).1
  have h5 := (List.nodup_append.1 h4).2.2
  exact h5 _ hm _ (List.mem_singleton.2 rfl) rfl
theorem nm_len (H : List Vl) : ∀ p, (nmE p H).length ≤ H.length := by
  induction H with
  | nil => intro p; exact Nat.le_refl _
  | cons h H ih =>
    intro p
    rw [nmE]
    split
    · rw [List.length_cons, List.length_cons]; have := ih (p + 1); omega
    · rw [List.length_cons]; have := ih (p + 1); omega
theorem nm_nodup {N : List (List UInt8)} {t : List UInt8} (h : N.Nodup) (ht : t ∉ N) : (N ++ [t]).Nodup := by
  rw [List.nodup_append]
  refine ⟨h, by simp, ?_⟩
  intro a ha b hb he
  rw [List.mem_singleton.1 hb] at he
  exact ht (he ▸ ha)
def ofT (t : List UInt8) : ByteArray := ⟨t.toArray⟩
theorem ofT_inj {a b : List UInt8} (h : ofT a = ofT b) : a = b := by
  have h1 := congrArg (fun x : ByteArray => x.data.toList) h
  exact h1
theorem own_belowQ {w w' : World} {B e z n : Nat} {v : Value} {xs : List Value} (h : w.ownsRow B e z v n xs) (hb : Below w.heap.size w w') : w'.ownsRow B e z v n xs := by
  obtain ⟨hl, h⟩ := h
  refine ⟨hl, ?_⟩
  rcases h with h | ⟨g, cap, cur, h1, h2, h3, h4⟩
  · exact .inl h
  · have hg : g < w.heap.size := by
      refine Classical.byContradiction fun hn => ?_
      rw [Array.getElem?_eq_none (by omega)] at h3
      cases h3
    exact .inr ⟨g, cap, cur, h1, h2, by rw [hb.block g hg]; exact h3, h4⟩
theorem ofT_ne {N : List (List UInt8)} {t : List UInt8} (h : t ∉ N) : ∀ (k : Nat) (X : ByteArray), (N.map ofT)[k]? = some X → X ≠ ofT t := by
  intro k X hX he
  rw [List.getElem?_map] at hX
  obtain ⟨a, ha, hb⟩ := Option.map_eq_some_iff.1 hX
  exact h (ofT_inj (hb.trans he) ▸ List.mem_of_getElem? ha)
set_option maxRecDepth 100000 in
set_option maxHeartbeats 6400000 in
theorem twice_any (l : List Vl) (a : Option Addr) (cap0 at0 : Nat) (w : World) (hl : l ≠ [] → ∃ g o, a = some ⟨g, o, none⟩ ∧ At w g o (vcells l) ∧ g < w.heap.size) (hK : ∀ x ∈ l, 0 ≤ x.kids ∧ x.kids ≤ 9223372036854775807) (hn : l.length ≤ 4096)
    (v : Vl) (HK K r : List Vl) (MK : List (List UInt8)) (dK : Nat) (qK : Bool) (hd : l.drop at0 = v :: (K ++ r)) (hF : Fo K HK MK dK qK) (hk : v.kids = (HK.length : Int)) :
    Calls Tryd.prog 33 #[.slice a l.length cap0, .int .i64 (at0 : Int)] w (fun e w' => e = .returned (.bool (!decide (nmE 0 HK).Nodup)) ∧ Below w.heap.size w w') := by
  obtain ⟨R, hR⟩ : ∃ R, (!decide (nmE 0 HK).Nodup) = R := ⟨_, rfl⟩
  rw [hR]
  have HR := Lib.hid hR
  have BH := Lib.hid (fun (w' : World) (hb : Below w.heap.size w w') (nx : Nat) (hx : nx ≤ l.length) => behind_any l a cap0 nx w' (fun h => by obtain ⟨g, o, h1, h2, h3⟩ := hl h; exact ⟨g, o, h1, h2.below hb h3, Nat.lt_of_lt_of_le h3 hb.size⟩) hK hn hx)
  obtain ⟨hd1, hd2, hd3⟩ := drop_next hd
  obtain ⟨g, o, rfl, hAg, hgl⟩ := hl (fun h => by rw [h] at hd3; simp at hd3)
  have HZ := Lib.hid (TwS.zero hd1 hF)
  obtain ⟨n, hn0⟩ : ∃ n, l.length = n := ⟨_, rfl⟩
  obtain ⟨kd, hkd⟩ : ∃ n, HK.length = n := ⟨_, rfl⟩
  have hkl : kd ≤ n := by
    have h1 := hF.lens.2
    have h2 := congrArg List.length hd1
    rw [List.length_drop, List.length_append] at h2
    omega
  have HN := Lib.hid (And.intro hn (And.intro hn0 (And.intro hkd (And.intro hkl hd3))))
  have HLL := Lib.hid hAg
  have HGL := Lib.hid hgl
  have HV : Hid (l.getD at0 v0 = v ∧ v.kids = (kd : Int)) := ⟨hd2, by rw [hk, hkd]⟩
  obtain ⟨i0, hi0, hqS⟩ := Option.map_eq_some_iff.1 infoS
  simp only [Prod.mk.injEq] at hqS
  have HI0 := Lib.hid (And.intro hi0 hqS)
  have e0 : (at0 : Int) < (n : Int) := by omega
  have e0b : IntKind.i64.wrap ((at0 : Int) + 1) = ((at0 + 1 : Nat) : Int) := by rw [show (at0 : Int) + 1 = ((at0 + 1 : Nat) : Int) by omega]; exact w64b _ (by omega)
  rw [hn0]
  rw [hn0] at BH
  clear hR hd hF hk hd1 hd2 hd3 hAg hgl hn0 hkd hkl hK hn hi0 hqS
  go_enter Tryd.func33, Tryd.ntmps33
  go_wp2_with fail
  go_loopw [5, 6, 7] (fun vN vx vj wr => ∃ (j nx : Nat), vj = .int .i64 (j : Int) ∧ vx = .int .i64 (nx : Int) ∧ Hid (j ≤ kd) ∧ Hid (TwS l HK r at0 j nx) ∧ Hid ((nmE 0 (HK.take j)).Nodup) ∧ Hid (wr.ownsRow w.heap.size 9 1 vN (nmE 0 (HK.take j)).length (scells ((nmE 0 (HK.take j)).map ofT))) ∧ Hid (Below w.heap.size w wr)) (fun _ _ vj _ => kd - (intOf vj).toNat)
  case atStart => exact ⟨0, at0 + 1, rfl, rfl, Nat.zero_le _, HZ, (by show (nmE 0 (HK.take 0)).Nodup; exact List.nodup_nil), World.ownsRow_nil _ _ _ _, Below.refl _ _⟩
  case round =>
    obtain ⟨j, nx, rfl, rfl, HJ, HT, HD, HW, HB⟩ := hrel
    have hA1 := (HLL.out).below HB.out HGL.out
    have n1 := (value_at hA1 at0 HN.out.2.2.2.2).cell 1 _ rfl
    rw [HV.out.1, HV.out.2] at n1
    by_cases hjk : j < kd
    · have e1 : (j : Int) < (kd : Int) := by omega
      obtain ⟨nx2, hb1, hg1, hx1, hT2, hx2⟩ := HT.out.step (by rw [HN.out.2.2.1]; exact hjk)
      have HX : Hid (nx < l.length ∧ nx2 ≤ l.length) := ⟨hx1, hx2⟩
      obtain ⟨h, hh⟩ : ∃ h, HK.getD j v0 = h := ⟨_, rfl⟩
      rw [hh] at hg1
      have c2 := (value_at hA1 nx hx1).cell 2 _ rfl
      rw [hg1] at c2
      have HT2 := Lib.hid hT2
      have HB1 := Lib.hid hb1
      have hst := nm_step (HK := HK) (j := j) (by rw [HN.out.2.2.1]; exact hjk)
      rw [hh] at hst
      have HJK := Lib.hid hjk
      have HH := Lib.hid hh
      have HG1 := Lib.hid hg1
      have e2 : (nx : Int) < (n : Int) := by have := HN.out.2.1; omega
      have e3 : (j : Int) ≤ 4096 := by have := HN.out; omega
      have BHx := Lib.hid (fun w' hb => BH.out w' hb nx (by have := HN.out.2.1; have := HX.out.1; omega))
      clear hA1 hb1 hT2 hx1 hx2 hh hg1 hjk
      by_cases h2 : j % 2 = 0
      · have e4 : (j : Int).tmod 2 = 0 := mod2_0 h2
        rw [if_pos h2] at hst
        obtain ⟨N, hN⟩ : ∃ N, nmE 0 (HK.take j) = N := ⟨_, rfl⟩
        rw [hN] at hst HD HW
        have c2b : wr.cell? ⟨g, o + nx * 3 + 2, none⟩ = some (.string (ofT h.text)) := c2
        obtain ⟨Y, hY⟩ : ∃ Y, ofT h.text = Y := ⟨_, rfl⟩
        rw [hY] at c2b
        have HXN : Hid (l.getD nx v0 = h ∧ ofT h.text = Y) := ⟨HG1.out, hY⟩
        obtain ⟨aN, cN, rfl, hgN⟩ := own_form HW.out
        obtain ⟨nN, hnN⟩ : ∃ n, N.length = n := ⟨_, rfl⟩
        have hnj : nN ≤ 4096 := by
          have h1 := nm_len (HK.take j) 0
          rw [hN, hnN, List.length_take] at h1
          have := HN.out
          have := HJK.out
          omega
        have HN4 : Hid (nN ≤ 4096 ∧ N.length = nN) := ⟨hnj, hnN⟩
        have HST := Lib.hid hst
        have HDUP : Hid (h.text ∈ N → R = true) := by
          show _ → _
          intro hm
          have h1 := nm_dup (HK := HK) (j := j) (by rw [HN.out.2.2.1]; exact HJK.out) h2 (by rw [HH.out, hN]; exact hm)
          rw [← HR.out, decide_eq_false h1]; rfl
        rw [hnN] at HW
        rw [hnN]
        rw [hnN] at hgN
        clear c2 hY hN hst h2 hnN
        go_wp2_with fail
        go_loopw [8] (fun vk wx => ∃ k : Nat, vk = .int .i64 (k : Int) ∧ k ≤ nN ∧ Hid (∀ q, q < k → (N.map ofT)[q]? ≠ some Y) ∧ Hid (wx.ownsRow w.heap.size 9 1 (.slice aN nN cN) nN (scells (N.map ofT))) ∧ Hid (Below w.heap.size w wx)) (fun vk _ => nN - (intOf vk).toNat)
        case atStart => exact ⟨0, rfl, Nat.zero_le _, (fun q hq => absurd hq (Nat.not_lt_zero _)), HW, HB⟩
        case round =>
          rename World => wq
          obtain ⟨k, rfl, hk, HA, HWq, HBq⟩ := hrel
          have hA2 := (HLL.out).below HBq.out HGL.out
          have d2 := (value_at hA2 nx HX.out.1).cell 2 _ rfl
          rw [HXN.out.1] at d2
          have d2b : wq.cell? ⟨g, o + nx * 3 + 2, none⟩ = some (.string Y) := by rw [← HXN.out.2]; exact d2
          by_cases hkn : k < nN
          · have f1 : (k : Int) < (nN : Int) := by omega
            obtain ⟨gN, rfl⟩ := hgN (by omega)
            obtain ⟨X, hX⟩ : ∃ X, (N.map ofT)[k]? = some X := ⟨_, List.getElem?_eq_getElem (by rw [List.length_map, HN4.out.2]; exact hkn)⟩
            have d3 := scell HWq.out k X hX
            have HKX := Lib.hid (And.intro hX hkn)
            by_cases hXY : X = Y
            · subst hXY
              have HF : Hid (R = true) := HDUP.out (by
                have h1 := HKX.out.1
                rw [List.getElem?_map] at h1
                obtain ⟨t, ht, hb⟩ := Option.map_eq_some_iff.1 h1
                rw [ofT_inj (HXN.out.2.trans hb.symm)]
                exact List.mem_of_getElem? ht)
              clear hA2 d2 hX hkn hk
              go_upto_region 10 with fail
              go_quiet (fail)
              go_wp2_with fail
              go_ret
              exact ⟨by rw [HF.out]; rfl, below_drewN HBq.out _⟩
            · have hXb : (X.toList == Y.toList) = false := by
                rw [beq_eq_false_iff_ne]
                intro h9
                apply hXY
                have h1 := hX
                rw [List.getElem?_map] at h1
                obtain ⟨t, ht, hb⟩ := Option.map_eq_some_iff.1 h1
                rw [← hb, ← HXN.out.2] at h9 ⊢
                rw [show (ofT t).toList = t from tl_mk _, show (ofT h.text).toList = h.text from tl_mk _] at h9
                rw [h9]
              have HXY := Lib.hid hXY
              clear hA2 d2 hX hkn hk
              go_upto_region 10 with fail
              go_quiet (fail)
              go_wp2_with fail
              go_roundw
              case rel => exact ⟨k + 1, by go_num, HKX.out.2, (by
                  show ∀ q, _
                  intro q hq
                  rcases (by omega : q < k ∨ q = k) with h9 | rfl
                  · exact HA.out q h9
                  · rw [HKX.out.1]; intro h9; exact HXY.out (Option.some.inj h9)), HWq.out, below_drewN HBq.out _⟩
              case measure => have := HKX.out.2; simp [intOf]; omega
          · obtain rfl : k = nN := by omega
            have f1 : ¬ (k : Int) < (k : Int) := by omega
            have hnt : h.text ∉ N := by
              intro hm
              obtain ⟨q, hq, hqe⟩ := List.getElem_of_mem hm
              have h1 := HA.out q (by rw [← HN4.out.2]; exact hq)
              apply h1
              rw [List.getElem?_map, List.getElem?_eq_getElem hq, hqe, ← HXN.out.2]
              rfl
            have HNT := Lib.hid hnt
            clear hA2 d2 hkn hk hnt
            go_wp2_with (at_builtin; refine wpList_append_str rfl (.tmp 39) (.tmp 45) 95 rfl w.heap.size 9 i0 Tryd.underlying95 HI0.out.1 HI0.out.2.1 HI0.out.2.2.1 HI0.out.2.2.2 (.slice aN k cN) k (N.map ofT) rfl (HWq.out.alloc _) wq.heap.size 1 Y rfl (by simp) (by have := HN4.out.1; omega) (by have := HBq.out.size; simp; omega) ?_; intro v5 w5 hown5 hgrow5; have HB5 := Lib.hid (below_own (HBq.out.alloc HBq.out.size (Obj.cells #[.string Y] 9)) hgrow5 (by have := HBq.out.size; simp; omega) (HWq.out.alloc _)); have HW5 := Lib.hid hown5; clear hown5 hgrow5)
            refine (BHx.out _ HB5.out).mono ?_
            rintro e w2 ⟨rfl, hb2⟩
            have HB2 := Lib.hid (HB5.out.trans (hb2.mono HB5.out.size))
            have HB3 := Lib.hid hb2
            clear hb2
            rw [HB1.out]
            go_wp2_with fail
            go_roundw
            case rel =>
              refine ⟨j + 1, nx2, by go_num, rfl, HJK.out, HT2, ?_, ?_, HB2⟩
              · show List.Nodup _
                rw [HST.out]
                exact nm_nodup HD.out HNT.out
              · show World.ownsRow _ _ _ _ _ _ _
                rw [HST.out, List.length_append, HN4.out.2, List.map_append]
                have h9 := own_belowQ HW5.out HB3.out
                rw [← HXN.out.2] at h9
                exact h9
            case measure => have := HJK.out; simp [intOf]; omega
      · have e4 : (j : Int).tmod 2 = 1 := mod2_1 h2
        rw [if_neg h2] at hst
        have HST := Lib.hid hst
        clear h2 hst
        go_wp2_with fail
        refine (BHx.out _ HB.out).mono ?_
        rintro e w2 ⟨rfl, hb2⟩
        have HB2 := Lib.hid (HB.out.trans (hb2.mono HB.out.size))
        have HB3 := Lib.hid hb2
        clear hb2
        rw [HB1.out]
        go_wp2_with fail
        go_roundw
        case rel => exact ⟨j + 1, nx2, by go_num, rfl, HJK.out, HT2, by show List.Nodup _; rw [HST.out]; exact HD.out, by show World.ownsRow _ _ _ _ _ _ _; rw [HST.out]; exact own_belowQ HW.out HB3.out, HB2⟩
        case measure => have := HJK.out; simp [intOf]; omega
    · have e1 : ¬ (j : Int) < (kd : Int) := by omega
      have HF : Hid (R = false) := by
        show R = _
        have h1 := HD.out
        rw [List.take_of_length_le (by have := HN.out.2.2.1; omega)] at h1
        rw [← HR.out, decide_eq_true h1]; rfl
      clear hA1 hjk
      go_wp2_with fail
      go_ret
      exact ⟨by rw [HF.out]; rfl, HB.out⟩
end Jq
end Go.Proofs.YtpaikjlcachabaaDoor
