/- The document's Sum: what its walk needs. -/
import Derived.Test.YtjlmmlnldjandaaGreatDoorShH3
import Derived.Test.YtjlmmlnldjandaaGreatDoorShH6
import Derived.Test.YtjlmmlnldjandaaGreatDoorRowX
namespace Go.Proofs.YtjlmmlnldjandaaGreatDoor
open Go.RowKit
set_option linter.unusedVariables false
set_option linter.unusedSimpArgs false
theorem sh_conv {P : Program} {w : World} {g o cap : Nat} {l : List UInt8} (h : At w g o (bcells l)) (src dst e : TypeId) (n : Nat) (hn : l.length = n)
    (hs : P.underlying src = some (.slice e)) (he : P.underlying e = some (.int .u8)) (hd : P.underlying dst = some .string) : (convert src dst (.slice (some ⟨g, o, none⟩) n cap)).run P w = .ok (.string ⟨l.toArray⟩) w := by
  subst hn
  refine run_convert_bytes_back w src dst e ⟨g, o, none⟩ cap l hs he hd fun j hj => ?_
  have hc := h.cell j _ (bcells_get l j hj)
  have : (⟨g, o, none⟩ : Addr).add j = ⟨g, o + j, none⟩ := by unfold Addr.add; split <;> simp_all
  rw [this]
  exact hc
theorem Bag.whole2 {w : World} {B : Nat} {v : Value} {l : List UInt8} (h : Bag w B v l) : ∃ g cap, v = .slice (some ⟨g, 0, none⟩) l.length cap ∧ B ≤ g ∧ l.length ≤ cap := by
  obtain ⟨g, cap, sp, hv, hb, hc, hs, ha⟩ := h
  exact ⟨g, cap, hv, hb, hc⟩
theorem Bag.opens {w : World} {B g N cap : Nat} {l : List UInt8} (h : Bag w B (.slice (some ⟨g, 0, none⟩) N cap) l) : l.length = N ∧ B ≤ g ∧ N ≤ cap ∧ At w g 0 (bcells l) := by
  obtain ⟨g', cap', sp, hv, hb, hc, hs, ha⟩ := h
  cases hv
  exact ⟨rfl, hb, hc, ha.sub (a := []) (b := bcells l) (c := sp)⟩
/-- a part of a row of bytes -/
theorem At.part8 {w : World} {g : Nat} {l : List UInt8} (h : At w g 0 (bcells l)) (o n : Nat) (hn : o + n ≤ l.length) : At w g o (bcells ((l.drop o).take n)) := by
  have e : bcells l = bcells (l.take o) ++ bcells ((l.drop o).take n) ++ bcells ((l.drop o).drop n) := by
    rw [← bcells_append, ← bcells_append, List.append_assoc, List.take_append_drop, List.take_append_drop]
  rw [e] at h
  have h2 := h.sub
  rw [bcells_length, List.length_take, Nat.zero_add, Nat.min_eq_left (by omega)] at h2
  exact h2
theorem rblock32_l (w : World) (r : Nat) (kind : Int) (hr : Ru w r kind 32) (H : List Nat) (hl : H.length = 8) (hH : ∀ x ∈ H, x < 2 ^ 32) (s : ByteArray) (hs : s.size = 2 * 32) :
    Calls Tryz.prog 111 #[.pointer (some ⟨r, 0, none⟩), .agg (ucells H).toArray, .string s] w (RetB8 (Sh.comp 32 (Sh.kL 32) H (Sh.wordsOf 32 s.toList)) w) := by
  match H, hl with
  | [h0, h1, h2, h3, h4, h5, h6, h7], _ => exact rblock32_any w r kind hr h0 h1 h2 h3 h4 h5 h6 h7 hH s hs
theorem rblock64_l (w : World) (r : Nat) (kind : Int) (hr : Ru w r kind 64) (H : List Nat) (hl : H.length = 8) (hH : ∀ x ∈ H, x < 2 ^ 64) (s : ByteArray) (hs : s.size = 2 * 64) :
    Calls Tryz.prog 111 #[.pointer (some ⟨r, 0, none⟩), .agg (ucells H).toArray, .string s] w (RetB8 (Sh.comp 64 (Sh.kL 64) H (Sh.wordsOf 64 s.toList)) w) := by
  match H, hl with
  | [h0, h1, h2, h3, h4, h5, h6, h7], _ => exact rblock64_any w r kind hr h0 h1 h2 h3 h4 h5 h6 h7 hH s hs
theorem eight_ex (V : List Nat) (h : V.length = 8) : ∃ v0 v1 v2 v3 v4 v5 v6 v7, V = [v0, v1, v2, v3, v4, v5, v6, v7] := by
  match V, h with
  | [v0, v1, v2, v3, v4, v5, v6, v7], _ => exact ⟨v0, v1, v2, v3, v4, v5, v6, v7, rfl⟩
theorem eight {w : World} {g v0 v1 v2 v3 v4 v5 v6 v7 : Nat} (h : At w g 0 (ucells [v0, v1, v2, v3, v4, v5, v6, v7])) : w.cell? ⟨g, 0, none⟩ = some (.int .u64 (v0 : Int)) ∧ w.cell? ⟨g, 1, none⟩ = some (.int .u64 (v1 : Int)) ∧ w.cell? ⟨g, 2, none⟩ = some (.int .u64 (v2 : Int)) ∧ w.cell? ⟨g, 3, none⟩ = some (.int .u64 (v3 : Int)) ∧ w.cell? ⟨g, 4, none⟩ = some (.int .u64 (v4 : Int)) ∧ w.cell? ⟨g, 5, none⟩ = some (.int .u64 (v5 : Int)) ∧ w.cell? ⟨g, 6, none⟩ = some (.int .u64 (v6 : Int)) ∧ w.cell? ⟨g, 7, none⟩ = some (.int .u64 (v7 : Int)) :=
  ⟨h.cell 0 _ rfl, h.cell 1 _ rfl, h.cell 2 _ rfl, h.cell 3 _ rfl, h.cell 4 _ rfl, h.cell 5 _ rfl, h.cell 6 _ rfl, h.cell 7 _ rfl⟩
theorem own_cap {w : World} {B e n g cap : Nat} {xs : List Value} (h : w.ownsRow B e 1 (.slice (some ⟨g, 0, none⟩) n cap) n xs) (hn : 0 < n) : n ≤ cap := by
  rcases h.2 with ⟨_, h0⟩ | ⟨g', cap', cur, hv, hb, hg, hnc, _⟩
  · omega
  · cases hv
    omega
theorem flat_take (V : List Nat) (sz i : Nat) (h : i < V.length) : (V.take (i + 1)).flatMap (fun x => be sz x) = (V.take i).flatMap (fun x => be sz x) ++ be sz (Sh.g V i) := by
  rw [List.take_add_one, List.flatMap_append, List.getElem?_eq_getElem h, Sh.g, List.getD, List.getElem?_eq_getElem h]
  simp
theorem flat_len (V : List Nat) (sz : Nat) : (V.flatMap (fun x => be sz x)).length = sz * V.length := by
  induction V with
  | nil => rfl
  | cons x V ih => rw [List.flatMap_cons, List.length_append, be_length, ih, List.length_cons, Nat.mul_add, Nat.mul_one, Nat.add_comm]
theorem bits_kb {kind : Int} {b : Nat} (h : kb kind b) : Sh.bits kind = b := by
  rcases h with ⟨rfl, rfl⟩ | ⟨hne, rfl⟩
  · rfl
  · rw [Sh.bits, if_neg hne]
/-- the text with its one and j noughts -/
def pd (S : List UInt8) (j : Nat) : List UInt8 := S ++ 128 :: List.replicate j 0
theorem pd_length (S : List UInt8) (j : Nat) : (pd S j).length = S.length + 1 + j := by
  rw [pd, List.length_append, List.length_cons, List.length_replicate]; omega
theorem pd_more (S : List UInt8) (j : Nat) : pd S j ++ [0] = pd S (j + 1) := by
  rw [pd, pd, List.append_assoc, List.cons_append, ← List.replicate_succ']
theorem pd_one (S : List UInt8) : S ++ [128] = pd S 0 := rfl
theorem padL_pd (b : Nat) (S : List UInt8) : Sh.padL b S = pd S (Sh.padN b S.length) ++ be 8 (8 * S.length) := by
  rw [Sh.padL, pd, List.append_assoc, List.cons_append]
theorem tmod_natS (a m q : Nat) (h : a % m = q) : (a : Int).tmod (m : Int) = (q : Int) := by
  rw [Int.tmod_eq_emod_of_nonneg (by omega), ← h]
  rfl
/-- a slice's length -/
def slen : Value → Nat
  | .slice _ n _ => n
  | _ => 0
def RetSS (l : List UInt8) (w : World) (e : Ending) (w' : World) : Prop := ∃ s : ByteArray, e = .returned (.string s) ∧ s.toList = l ∧ Below w.heap.size w w'
end Go.Proofs.YtjlmmlnldjandaaGreatDoor
