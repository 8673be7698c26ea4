/- A feed of values, in plain words (layer 19): what byte by byte comes to; what always holds of it. -/
import Derived.Test.YtpaikjlcachabaaDoorJsQ
import Derived.Test.YtpaikjlcachabaaDoorJtJ
namespace Go.Proofs.YtpaikjlcachabaaDoor
set_option linter.unusedVariables false
set_option linter.unusedSimpArgs false
namespace Js
open Dr (Rs Lm has lack)
inductive Fs where
  | run (s : St) (k : Nat)
  | dead (e : Int) (pl n k : Nat)
def Fs.byte (L : Lm) (f : Fs) (b : UInt8) : Fs :=
  match f with
  | .run s k => if L.bytes ≤ k then .dead 10 L.bytes s.G.length k else match s.act L b k with | .go s' => .run s' (k + 1) | .fl e q => .dead e q s.G.length (k + 1)
  | .dead e pl n k => .dead e pl n k
def Fs.write (L : Lm) (f : Fs) (l : List UInt8) : Fs := l.foldl (Fs.byte L) f
def Fs.e : Fs → Int
  | .run _ _ => 0
  | .dead e _ _ _ => e
def Fs.taken : Fs → Nat
  | .run _ k => k
  | .dead _ _ _ k => k
def Fs.frames : Fs → Nat
  | .run s _ => s.G.length
  | .dead _ _ n _ => n
/-- what a feed tells at its end: the list, the place, the error -/
def Fs.ansL : Fs → List Vl
  | .run s _ => s.last.getD []
  | .dead _ _ _ _ => []
def Fs.ansP : Fs → Nat
  | .run s k => if s.last.isSome = true then 0 else k
  | .dead _ pl _ _ => pl
def Fs.ansE : Fs → Int
  | .run s _ => if s.last.isSome = true then 0 else 9
  | .dead e _ _ _ => e
def handOk (k : Nat) : Hd → Prop
  | .none => True
  | .word r => r ≠ [] ∧ r.length ≤ 10
  | .num w t => w ≤ 8 ∧ t.length ≤ 4 * k
  | .str x => okM x.m ∧ x.t.length ≤ 4 * k
def isObj (G : List Fr) : Prop := ∃ f G' x, G = f :: G' ∧ f.o = some x
def isArr (G : List Fr) : Prop := ∃ f G', G = f :: G' ∧ f.o = none
/-- what may come next, and what is begun -/
def nxOk (G : List Fr) (nx : Nat) : Prop :=
  nx = 0 ∨ (nx = 1 ∧ isArr G) ∨ ((nx = 2 ∨ nx = 3 ∨ nx = 4) ∧ isObj G) ∨ (nx = 5 ∧ G ≠ []) ∨ (nx = 6 ∧ G = [])
structure Inv (L : Lm) (s : St) (k : Nat) : Prop where
  hand : handOk k s.hand
  cur : s.hand ≠ .none → s.cur ≠ []
  nx0 : s.hand = .none → nxOk s.G s.nx ∧ s.named = none
  nx1 : s.hand ≠ .none → (s.named = none ∧ (s.nx = 0 ∨ (s.nx = 1 ∧ isArr s.G))) ∨ (∃ a, s.named = some a ∧ a < k ∧ (∃ x, s.hand = .str x) ∧ isObj s.G ∧ (s.nx = 2 ∨ s.nx = 3))
  size : s.size ≤ L.items
  deep : s.G.length ≤ L.depth
  kids : ∀ f ∈ s.G, f.n ≤ k
  names : ∀ f ∈ s.G, ∀ x, f.o = some x → x.length ≤ k
theorem handOk.mono {k k' : Nat} {h : Hd} (o : handOk k h) (hk : k ≤ k') : handOk k' h := by
  cases h with
  | none => trivial
  | word r => exact o
  | num w t => exact ⟨o.1, by have := o.2; omega⟩
  | str x => exact ⟨o.1, by have := o.2; omega⟩
theorem Inv.mono {L : Lm} {s : St} {k k' : Nat} (h : Inv L s k) (hk : k ≤ k') : Inv L s k' :=
  ⟨h.hand.mono hk, h.cur, h.nx0, fun e => (h.nx1 e).imp id (fun ⟨a, h1, h2, h3⟩ => ⟨a, h1, by omega, h3⟩), h.size, h.deep, fun f hf => Nat.le_trans (h.kids f hf) hk, fun f hf x hx => Nat.le_trans (h.names f hf x hx) hk⟩
theorem inv0 (L : Lm) : Inv L st0 0 := ⟨trivial, fun e => absurd rfl e, fun _ => ⟨.inl rfl, rfl⟩, fun e => absurd rfl e, Nat.zero_le _, Nat.zero_le _, (fun f hf => by cases hf), (fun f hf => by cases hf)⟩
theorem bump_obj {G : List Fr} (h : isObj G) : isObj (bump G) := by
  obtain ⟨f, G', x, rfl, hx⟩ := h
  exact ⟨_, _, x, rfl, hx⟩
theorem bump_arr {G : List Fr} (h : isArr G) : isArr (bump G) := by
  obtain ⟨f, G', rfl, hx⟩ := h
  exact ⟨_, _, rfl, hx⟩
theorem bump_kids {G : List Fr} {k : Nat} (h : ∀ f ∈ G, f.n ≤ k) : ∀ f ∈ bump G, f.n ≤ k + 1 := by
  cases G with
  | nil => intro f hf; cases hf
  | cons g G =>
    intro f hf
    rcases List.mem_cons.1 hf with rfl | hf
    · exact Nat.succ_le_succ (h g (by simp))
    · exact Nat.le_succ_of_le (h f (by simp [hf]))
theorem bump_names {G : List Fr} {k : Nat} (h : ∀ f ∈ G, ∀ x, f.o = some x → x.length ≤ k) : ∀ f ∈ bump G, ∀ x, f.o = some x → x.length ≤ k := by
  cases G with
  | nil => intro f hf; cases hf
  | cons g G =>
    intro f hf
    rcases List.mem_cons.1 hf with rfl | hf
    · exact fun x hx => h g (by simp) x hx
    · exact fun x hx => h f (by simp [hf]) x hx
theorem Inv.ended {L : Lm} {s : St} {k : Nat} (hs : s.size ≤ L.items) (hd : s.G.length ≤ L.depth) (hk : ∀ f ∈ s.G, f.n ≤ k) (hn : ∀ f ∈ s.G, ∀ x, f.o = some x → x.length ≤ k) (hnm : s.named = none) : Inv L s.ended k := by
  refine ⟨trivial, fun e => absurd rfl e, fun _ => ⟨?_, hnm⟩, fun e => absurd rfl e, hs, hd, hk, hn⟩
  show nxOk s.G (if s.G.isEmpty then 6 else 5)
  cases hG : s.G with
  | nil => exact .inr (.inr (.inr (.inr ⟨rfl, rfl⟩)))
  | cons f G => exact .inr (.inr (.inr (.inl ⟨rfl, by simp⟩)))
theorem Inv.begin {L : Lm} {s : St} {k : Nat} (h : Inv L s k) (kind : Int) (hd : Hd) (hne : hd ≠ .none) (ho : handOk (k + 1) hd) (hi : s.size < L.items) (hx : s.nx = 0 ∨ (s.nx = 1 ∧ isArr s.G)) (hn : s.named = none) : Inv L (s.begin kind hd) (k + 1) := by
  refine ⟨ho, fun _ => by simp [St.begin], fun e => absurd e hne, fun _ => .inl ⟨hn, hx.imp id (fun h => ⟨h.1, bump_arr h.2⟩)⟩, by rw [begin_size]; exact hi, ?_, bump_kids h.kids, fun f hf x hx => Nat.le_succ_of_le (bump_names h.names f hf x hx)⟩
  show (bump s.G).length ≤ _
  rw [bump_length]; exact h.deep
theorem Inv.hold {L : Lm} {s : St} {k : Nat} (h : Inv L s k) (hh : s.hand = .none) (o : Option (List (List UInt8))) (ho : o = none ∨ o = some []) (hi : s.size < L.items) (hd : s.G.length < L.depth) : Inv L (s.hold o) (k + 1) := by
  refine ⟨by show handOk _ s.hand; rw [hh]; trivial, fun e => absurd hh e, fun _ => ⟨?_, (h.nx0 hh).2⟩, fun e => absurd hh e, by rw [hold_size]; exact hi, ?_, ?_, ?_⟩
  · show nxOk (⟨s.cur, 0, o⟩ :: bump s.G) (if o.isSome then 3 else 1)
    rcases ho with rfl | rfl
    · exact .inr (.inl ⟨rfl, _, _, rfl, rfl⟩)
    · exact .inr (.inr (.inl ⟨.inr (.inl rfl), _, _, _, rfl, rfl⟩))
  · show (bump s.G).length + 1 ≤ _
    rw [bump_length]; exact hd
  · intro f hf
    rcases List.mem_cons.1 hf with rfl | hf
    · exact Nat.zero_le _
    · exact bump_kids h.kids f hf
  · intro f hf x hx
    rcases List.mem_cons.1 hf with rfl | hf
    · rcases ho with rfl | rfl
      · cases hx
      · cases hx; exact Nat.zero_le _
    · exact Nat.le_succ_of_le (bump_names h.names f hf x hx)
theorem Inv.close {L : Lm} {s : St} {k : Nat} (h : Inv L s k) (hn : s.named = none) (hG : s.G ≠ []) : Inv L s.close k := by
  cases hG' : s.G with
  | nil => exact absurd hG' hG
  | cons f G =>
    have hs := close_size s f G hG'
    rw [close_ended s f G hG'] at hs ⊢
    refine Inv.ended (by rw [← ended_size, hs]; exact h.size) (by have := h.deep; rw [hG'] at this; simp at this; show G.length ≤ _; omega) (fun f' hf => h.kids f' (by rw [hG']; exact List.mem_cons_of_mem _ hf)) (fun f' hf => h.names f' (by rw [hG']; exact List.mem_cons_of_mem _ hf)) hn
theorem add_go {L : Lm} {s s' : St} {p : Nat} {o : Out} (h : s.add L p o = .go s') : s.size < L.items ∧ o = .go s' := by
  rw [St.add] at h
  split at h
  · cases h
  · exact ⟨by omega, h⟩
theorem nextN_le8 {w x : Nat} {b : UInt8} (h : nextN w b = some x) : x ≤ 8 := by
  unfold nextN at h
  repeat' split at h
  all_goals first | (cases h; done) | (cases h; decide)
theorem Inv.value {L : Lm} {s s' : St} {k : Nat} {b : UInt8} (h : Inv L s k) (hh : s.hand = .none) (hx : s.nx = 0 ∨ (s.nx = 1 ∧ isArr s.G)) (ha : s.value L b k = .go s') : Inv L s' (k + 1) := by
  have hn := (h.nx0 hh).2
  rw [St.value] at ha
  split at ha
  · obtain ⟨hi, ha⟩ := add_go ha; cases ha
    exact h.begin _ _ (by simp) ⟨trivial, by simp [s0]⟩ hi hx hn
  split at ha
  · obtain ⟨hi, ha⟩ := add_go ha
    split at ha
    · cases ha
    · cases ha; exact h.hold hh _ (.inr rfl) hi (by omega)
  split at ha
  · obtain ⟨hi, ha⟩ := add_go ha
    split at ha
    · cases ha
    · cases ha; exact h.hold hh _ (.inl rfl) hi (by omega)
  split at ha
  · obtain ⟨hi, ha⟩ := add_go ha; cases ha
    exact h.begin _ _ (by simp) ⟨by simp, by decide⟩ hi hx hn
  split at ha
  · obtain ⟨hi, ha⟩ := add_go ha; cases ha
    exact h.begin _ _ (by simp) ⟨by simp, by decide⟩ hi hx hn
  split at ha
  · obtain ⟨hi, ha⟩ := add_go ha; cases ha
    exact h.begin _ _ (by simp) ⟨by simp, by decide⟩ hi hx hn
  split at ha
  · rename_i w hw
    obtain ⟨hi, ha⟩ := add_go ha; cases ha
    exact h.begin _ _ (by simp) ⟨nextN_le8 hw, by simp; omega⟩ hi hx hn
  · cases ha
theorem Inv.name {L : Lm} {s s' : St} {k : Nat} {b : UInt8} (h : Inv L s k) (hh : s.hand = .none) (hx : s.nx = 2 ∨ s.nx = 3) (ho : isObj s.G) (ha : s.name L b k = .go s') : Inv L s' (k + 1) := by
  rw [St.name] at ha
  split at ha
  · obtain ⟨hi, ha⟩ := add_go ha; cases ha
    refine ⟨⟨trivial, by simp [s0]⟩, fun _ => by simp [St.begin], (fun e => by cases e), fun _ => .inr ⟨k, rfl, by omega, ⟨_, rfl⟩, bump_obj ho, hx⟩, ?_, ?_, bump_kids h.kids, fun f hf x hx => Nat.le_succ_of_le (bump_names h.names f hf x hx)⟩
    · show (s.begin 4 (.str s0)).size ≤ _
      rw [begin_size]; exact hi
    · show (bump s.G).length ≤ _
      rw [bump_length]; exact h.deep
  · cases ha
theorem Inv.pass {L : Lm} {s s' : St} {k p nx : Nat} {r : Bool} (h : Inv L s k) (hh : s.hand = .none) (hx : nxOk s.G nx) (ha : s.pass r nx p = .go s') : Inv L s' (k + 1) := by
  rw [St.pass] at ha
  split at ha
  · cases ha
    refine Inv.mono (k := k) ⟨h.hand, h.cur, fun _ => ⟨hx, (h.nx0 hh).2⟩, fun e => absurd hh e, h.size, h.deep, h.kids, h.names⟩ (by omega)
  · cases ha
theorem Inv.goOn {L : Lm} {s s' : St} {k : Nat} {b : UInt8} (h : Inv L s k) (hh : s.hand = .none) (hG : s.G ≠ []) (ha : s.goOn b k = .go s') : Inv L s' (k + 1) := by
  have hn := (h.nx0 hh).2
  rw [St.goOn] at ha
  split at ha
  · rename_i ho
    split at ha
    · cases ha; exact (h.close hn hG).mono (by omega)
    · refine h.pass hh (.inr (.inr (.inl ⟨.inl rfl, ?_⟩))) ha
      cases hG' : s.G with
      | nil => exact absurd hG' hG
      | cons f G =>
        rw [St.object, hG'] at ho
        obtain ⟨x, hx⟩ := Option.isSome_iff_exists.1 ho
        exact ⟨f, G, x, rfl, hx⟩
  · split at ha
    · cases ha; exact (h.close hn hG).mono (by omega)
    · exact h.pass hh (.inl rfl) ha
theorem obj_ne {G : List Fr} (h : isObj G) : G ≠ [] := by obtain ⟨f, G', x, rfl, _⟩ := h; simp
theorem arr_ne {G : List Fr} (h : isArr G) : G ≠ [] := by obtain ⟨f, G', rfl, _⟩ := h; simp
theorem Inv.step {L : Lm} {s s' : St} {k : Nat} {b : UInt8} (h : Inv L s k) (hh : s.hand = .none) (ha : s.step L b k = .go s') : Inv L s' (k + 1) := by
  obtain ⟨hx, hn⟩ := h.nx0 hh
  rw [St.step] at ha
  split at ha
  · rename_i hx0; exact h.value hh (.inl hx0) ha
  · rename_i hx1
    have hA : isArr s.G := by
      rcases hx with h1 | h1 | h1 | h1 | h1
      · omega
      · exact h1.2
      · have := h1.1; omega
      · have := h1.1; omega
      · have := h1.1; omega
    split at ha
    · cases ha; exact (h.close hn (arr_ne hA)).mono (by omega)
    · exact h.value hh (.inr ⟨hx1, hA⟩) ha
  · rename_i hx2
    have hO : isObj s.G := by
      rcases hx with h1 | h1 | h1 | h1 | h1
      · omega
      · have := h1.1; omega
      · exact h1.2
      · have := h1.1; omega
      · have := h1.1; omega
    exact h.name hh (.inl hx2) hO ha
  · rename_i hx3
    have hO : isObj s.G := by
      rcases hx with h1 | h1 | h1 | h1 | h1
      · omega
      · have := h1.1; omega
      · exact h1.2
      · have := h1.1; omega
      · have := h1.1; omega
    split at ha
    · cases ha; exact (h.close hn (obj_ne hO)).mono (by omega)
    · exact h.name hh (.inr hx3) hO ha
  · exact h.pass hh (.inl rfl) ha
  · rename_i hx5
    have hG : s.G ≠ [] := by
      rcases hx with h1 | h1 | h1 | h1 | h1
      · omega
      · have := h1.1; omega
      · have := h1.1; omega
      · exact h1.2
      · have := h1.1; omega
    exact h.goOn hh hG ha
  · cases ha
theorem Inv.between {L : Lm} {s s' : St} {k : Nat} {b : UInt8} (h : Inv L s k) (hh : s.hand = .none) (ha : s.between L b k = .go s') : Inv L s' (k + 1) := by
  rw [St.between] at ha
  split at ha
  · cases ha; exact h.mono (by omega)
  · exact h.step hh ha
theorem withText_ne {t : List UInt8} {l : List Vl} (h : l ≠ []) : withText t l ≠ [] := by
  intro e
  have h1 := congrArg List.length e
  rw [withText, List.length_modify] at h1
  exact h (List.eq_nil_of_length_eq_zero (by simpa using h1))
theorem withText_length (t : List UInt8) (l : List Vl) : (withText t l).length = l.length := by rw [withText, List.length_modify]
theorem flat_length : ∀ (G : List Fr) (a b : List Vl), a.length = b.length → (flat G a).length = (flat G b).length
  | [], a, b, h => h
  | f :: G, a, b, h => by rw [flat_cons, flat_cons, List.length_append, List.length_append, List.length_cons, List.length_cons, h]
theorem addName_length (x : List UInt8) (G : List Fr) : (addName x G).length = G.length := by cases G <;> rfl
theorem addName_flat (x : List UInt8) (G : List Fr) (h : isObj G ∨ G = []) (cur : List Vl) : flat (addName x G) cur = flat G cur := by
  rcases h with ⟨f, G', y, rfl, hy⟩ | rfl
  · rw [addName, flat_cons, flat_cons]
    congr 2
    rw [Js.hold, Js.hold, holdK, holdK, hy]
    rfl
  · rfl
theorem Inv.endNum {L : Lm} {s : St} {k w : Nat} {t : List UInt8} (h : Inv L s k) (hh : s.hand = .num w t) : Inv L (s.endNum t) k := by
  have h1 := h.nx1 (by rw [hh]; simp)
  have hn : s.named = none := by
    rcases h1 with h1 | ⟨a, _, _, ⟨x, hx⟩, _⟩
    · exact h1.1
    · rw [hh] at hx; cases hx
  refine Inv.ended ?_ h.deep h.kids h.names hn
  show (flat s.G (withText t s.cur)).length ≤ _
  rw [flat_length s.G _ s.cur (withText_length _ _)]; exact h.size
theorem endNum_hand (s : St) (t : List UInt8) : (s.endNum t).hand = .none := rfl
theorem Inv.endStr {L : Lm} {s s' : St} {k : Nat} {x : Ss} (h : Inv L s k) (hh : s.hand = .str x) (ha : s.endStr x.t = .go s') : Inv L s' (k + 1) := by
  have h1 := h.nx1 (by rw [hh]; simp)
  have hsz : (flat s.G (withText x.t s.cur)).length ≤ L.items := by rw [flat_length s.G _ s.cur (withText_length _ _)]; exact h.size
  rw [St.endStr] at ha
  rcases h1 with ⟨hn, _⟩ | ⟨a, hn, _, _, ho, _⟩
  · rw [hn] at ha; cases ha
    exact (Inv.ended (s := { s with cur := withText x.t s.cur, named := none }) hsz h.deep h.kids h.names rfl).mono (Nat.le_succ k)
  · rw [hn] at ha
    dsimp only at ha
    split at ha
    · cases ha
    · cases ha
      obtain ⟨f, G, y, hG, hy⟩ := id ho
      refine ⟨trivial, fun e => absurd rfl e, fun _ => ⟨.inr (.inr (.inl ⟨.inr (.inr rfl), ?_⟩)), rfl⟩, fun e => absurd rfl e, ?_, ?_, ?_, ?_⟩
      · show isObj (addName x.t s.G)
        rw [hG]
        exact ⟨_, _, _, rfl, by show f.o.map _ = _; rw [hy]; rfl⟩
      · show (flat (addName x.t s.G) (withText x.t s.cur)).length ≤ _
        rw [addName_flat _ _ (.inl ho)]; exact hsz
      · show (addName x.t s.G).length ≤ _
        rw [addName_length]; exact h.deep
      · intro f' hf
        have hf' : f' ∈ addName x.t s.G := hf
        rw [hG] at hf'
        rcases List.mem_cons.1 hf' with rfl | hf'
        · exact Nat.le_succ_of_le (h.kids f (by rw [hG]; simp))
        · exact Nat.le_succ_of_le (h.kids f' (by rw [hG]; simp [hf']))
      · intro f' hf z hz
        have hf' : f' ∈ addName x.t s.G := hf
        rw [hG] at hf'
        rcases List.mem_cons.1 hf' with rfl | hf'
        · have hz2 : f.o.map (· ++ [x.t]) = some z := hz
          rw [hy] at hz2
          cases hz2
          have := h.names f (by rw [hG]; simp) y hy
          simp; omega
        · exact Nat.le_succ_of_le (h.names f' (by rw [hG]; simp [hf']) z hz)
theorem take_len {s s' : Ss} {b : UInt8} (h : s.take b = .more s') : s'.t.length ≤ s.t.length + 4 := by
  obtain ⟨m, t⟩ := s
  have hn : ∀ n hf, numbered t n hf = .more s' → s'.t.length ≤ t.length + 4 := by
    intro n hf h
    rw [numbered] at h
    repeat' split at h
    all_goals first | (cases h; done) | (cases h; show t.length ≤ t.length + 4; omega) | (cases h; show (t ++ enc8 _).length ≤ _; rw [List.length_append]; have := (enc8_len (n + 65536 + (hf - 55296) * 1024 - 56320)).2; omega) | (cases h; show (t ++ enc8 _).length ≤ _; rw [List.length_append]; have := (enc8_len n).2; omega)
  cases m <;> rw [Ss.take] at h <;> dsimp only at h <;> (repeat' split at h) <;> first | (cases h; done) | (cases h; show t.length ≤ t.length + 4; omega) | (cases h; show (t ++ [_]).length ≤ t.length + 4; rw [List.length_append]; simp) | exact hn _ _ h
theorem Inv.act {L : Lm} {s s' : St} {k : Nat} {b : UInt8} (h : Inv L s k) (ha : s.act L b k = .go s') : Inv L s' (k + 1) := by
  rw [St.act] at ha
  split at ha
  · rename_i hh; exact h.between hh ha
  · cases ha
  · rename_i x r hh
    split at ha
    · have hN := h.nx1 (by rw [hh]; simp)
      have hn : s.named = none := by
        rcases hN with h1 | ⟨a, _, _, ⟨x, hx⟩, _⟩
        · exact h1.1
        · rw [hh] at hx; cases hx
      split at ha
      · cases ha; exact (Inv.ended h.size h.deep h.kids h.names hn).mono (by omega)
      · rename_i hr
        cases ha
        have h2 := h.hand
        rw [hh] at h2
        refine ⟨⟨hr, by have := h2.2; simp at this; omega⟩, fun _ => h.cur (by rw [hh]; simp), (fun e => by cases e), fun _ => .inl ⟨hn, ?_⟩, h.size, h.deep, fun f hf => Nat.le_succ_of_le (h.kids f hf), fun f hf x hx => Nat.le_succ_of_le (h.names f hf x hx)⟩
        rcases hN with h1 | ⟨a, ha, _⟩
        · exact h1.2
        · rw [hn] at ha; cases ha
    · cases ha
  · rename_i w t hh
    split at ha
    · rename_i w' hw
      cases ha
      have h2 := h.hand
      rw [hh] at h2
      refine ⟨⟨nextN_le8 hw, by have := h2.2; simp; omega⟩, fun _ => h.cur (by rw [hh]; simp), (fun e => by cases e), fun _ => ?_, h.size, h.deep, fun f hf => Nat.le_succ_of_le (h.kids f hf), fun f hf x hx => Nat.le_succ_of_le (h.names f hf x hx)⟩
      rcases h.nx1 (by rw [hh]; simp) with h1 | ⟨a, _, _, ⟨x, hx⟩, _⟩
      · exact .inl h1
      · rw [hh] at hx; cases hx
    · split at ha
      · exact (h.endNum hh).between rfl ha
      · cases ha
  · rename_i x hh
    have h2 := h.hand
    rw [hh] at h2
    split at ha
    · rename_i y hy
      cases ha
      refine ⟨⟨take_ok _ _ _ h2.1 hy, by have := take_len hy; have := h2.2; omega⟩, fun _ => h.cur (by rw [hh]; simp), (fun e => by cases e), fun _ => ?_, h.size, h.deep, fun f hf => Nat.le_succ_of_le (h.kids f hf), fun f hf x hx => Nat.le_succ_of_le (h.names f hf x hx)⟩
      rcases h.nx1 (by rw [hh]; simp) with h1 | ⟨a, h1, h1', _, h3⟩
      · exact .inl h1
      · exact .inr ⟨a, h1, by omega, ⟨_, rfl⟩, h3⟩
    · cases ha
    · exact h.endStr hh ha
theorem act_fl {L : Lm} {s : St} {p q : Nat} {b : UInt8} {e : Int} (h : s.act L b p = .fl e q) : e = 9 ∨ e = 10 := by
  have hadd : ∀ (s : St) (o : Out), s.add L p o = .fl e q → (e = 10) ∨ o = .fl e q := by
    intro s o h
    rw [St.add] at h
    split at h
    · cases h; exact .inl rfl
    · exact .inr h
  have hval : ∀ s : St, s.value L b p = .fl e q → e = 9 ∨ e = 10 := by
    intro s h
    rw [St.value] at h
    repeat' split at h
    all_goals first
      | (cases h; exact .inl rfl)
      | (rcases hadd _ _ h with h | h
         · exact .inr h
         · first | (cases h; done) | (cases h; exact .inr rfl) | (split at h; · (cases h; exact .inr rfl); · cases h))
  have hname : ∀ s : St, s.name L b p = .fl e q → e = 9 ∨ e = 10 := by
    intro s h
    rw [St.name] at h
    split at h
    · rcases hadd _ _ h with h | h
      · exact .inr h
      · cases h
    · cases h; exact .inl rfl
  have hpass : ∀ (s : St) r nx, s.pass r nx p = .fl e q → e = 9 ∨ e = 10 := by
    intro s r nx h
    rw [St.pass] at h
    split at h
    · cases h
    · cases h; exact .inl rfl
  have hgo : ∀ s : St, s.goOn b p = .fl e q → e = 9 ∨ e = 10 := by
    intro s h
    rw [St.goOn] at h
    split at h <;> split at h
    · cases h
    · exact hpass _ _ _ h
    · cases h
    · exact hpass _ _ _ h
  have hstep : ∀ s : St, s.step L b p = .fl e q → e = 9 ∨ e = 10 := by
    intro s h
    rw [St.step] at h
    split at h
    · exact hval _ h
    · split at h
      · cases h
      · exact hval _ h
    · exact hname _ h
    · split at h
      · cases h
      · exact hname _ h
    · exact hpass _ _ _ h
    · exact hgo _ h
    · cases h; exact .inl rfl
  have hbet : ∀ s : St, s.between L b p = .fl e q → e = 9 ∨ e = 10 := by
    intro s h
    rw [St.between] at h
    split at h
    · cases h
    · exact hstep _ h
  rw [St.act] at h
  split at h
  · exact hbet _ h
  · cases h; exact .inl rfl
  · split at h
    · split at h <;> cases h
    · cases h; exact .inl rfl
  · split at h
    · cases h
    · split at h
      · exact hbet _ h
      · cases h; exact .inl rfl
  · split at h
    · cases h
    · cases h; exact .inl rfl
    · rw [St.endStr] at h
      split at h
      · cases h
      · split at h
        · cases h; exact .inl rfl
        · cases h
/-- what holds of a feed -/
def FInv (L : Lm) : Fs → Prop
  | .run s k => Inv L s k ∧ k ≤ L.bytes
  | .dead e _ n k => (e = 9 ∨ e = 10) ∧ k ≤ L.bytes ∧ n ≤ L.depth
theorem FInv.byte {L : Lm} {f : Fs} (h : FInv L f) (b : UInt8) : FInv L (f.byte L b) := by
  cases f with
  | dead e pl n k => exact h
  | run s k =>
    show FInv L (if L.bytes ≤ k then .dead 10 L.bytes s.G.length k else match s.act L b k with | .go s' => .run s' (k + 1) | .fl e q => .dead e q s.G.length (k + 1))
    split
    · exact ⟨.inr rfl, h.2, h.1.deep⟩
    · split
      · rename_i s' ha; exact ⟨h.1.act ha, by omega⟩
      · rename_i e q ha; exact ⟨act_fl ha, by omega, h.1.deep⟩
theorem FInv.write {L : Lm} {f : Fs} (h : FInv L f) (l : List UInt8) : FInv L (f.write L l) := by
  induction l generalizing f with
  | nil => exact h
  | cons b l ih => exact ih (h.byte b)
theorem write_app (L : Lm) (f : Fs) (a b : List UInt8) : f.write L (a ++ b) = (f.write L a).write L b := List.foldl_append
theorem write_dead (L : Lm) (e : Int) (pl n k : Nat) (l : List UInt8) : (Fs.dead e pl n k).write L l = .dead e pl n k := by
  induction l with
  | nil => rfl
  | cons b l ih => exact ih
def f0 : Fs := .run st0 0
theorem finv0 (L : Lm) : FInv L f0 := ⟨inv0 L, Nat.zero_le _⟩
end Js
end Go.Proofs.YtpaikjlcachabaaDoor
