/- Telling: which elements are right; how they stand within one another. -/
import Derived.Test.YteglahkgnggmgaaDoorDrV
namespace Go.Proofs.YteglahkgnggmgaaDoor
open Go.RowKit
set_option linter.unusedVariables false
set_option linter.unusedSimpArgs false
open Dr
def nodeOk (n : Nd) : Bool := decide (tagE n.tag = 0) && (if within n.tag = true then (decide (0 ≤ n.kids) && n.body == []) else (decide (n.kids = -1) && bodyOk n.tag n.body))
set_option maxRecDepth 100000 in
set_option maxHeartbeats 1600000 in
theorem rightNode_any (n : Nd) (b : ByteArray) (hb : b.toList = n.body) (hz : b.size ≤ 140737488351232) (w : World) (hU : U8 w) :
    Calls Tryd.prog 34 #[.agg #[.int .u8 (n.tag.toNat : Int), .int .i64 n.kids, .string b]] w (RetBb2 (nodeOk n) w) := by
  obtain ⟨t, ht⟩ : ∃ t, n.tag.toNat = t := ⟨_, rfl⟩
  have ht2 : t < 256 := by rw [← ht]; exact n.tag.toNat_lt
  obtain ⟨k, hk⟩ : ∃ k, n.kids = k := ⟨_, rfl⟩
  have AS := Lib.hid (fun w => ask_any t ht2 w)
  have hte : tagE n.tag = tagF (t / 64) (t % 32) (t / 32 % 2) := by rw [← ht]; rfl
  have hwi : within n.tag = decide (t / 32 % 2 = 1) := by rw [← ht]; rfl
  rw [← hte] at AS
  have HRI := Lib.hid (fun w hU => right_any t b hz w hU)
  have hbo : bodyOk n.tag n.body = bodyN t b.toList := by rw [bodyOk, ht, hb]
  obtain ⟨R, hR⟩ : ∃ R, nodeOk n = R := ⟨_, rfl⟩
  rw [ht, hk, hR]
  rw [nodeOk, hk, hbo, ← hb] at hR
  have HU := Lib.hid hU
  clear hz hU
  by_cases h1 : tagE n.tag = 0
  case neg =>
    obtain ⟨c, hc⟩ : ∃ c, tagE n.tag = c := ⟨_, rfl⟩
    rw [hc] at AS h1
    have e1 : (c != 0) = true := by rw [bne_iff_ne]; exact h1
    obtain rfl : R = false := by rw [← hR, hc, decide_eq_false h1]; rfl
    clear hR hc h1 hte hwi hbo hb ht hk
    go_enter Tryd.func34, Tryd.ntmps34
    go_wp2_with (first | (go_at_call 54; refine (AS.out _).mono ?_; rintro e wa ⟨rfl, rfl⟩))
    go_ret
    exact ⟨rfl, (Below.refl _ _).alloc (Nat.le_refl _) _⟩
  rw [h1] at AS
  rw [h1, decide_eq_true (rfl : (0 : Int) = 0), Bool.true_and] at hR
  by_cases h2 : within n.tag = true
  · rw [if_pos h2] at hR
    have hw1 : t / 32 % 2 = 1 := by rw [hwi, decide_eq_true_iff] at h2; exact h2
    have WI1 : Hid (∀ w, Calls Tryd.prog 55 #[.int .u8 (t : Int)] w (RetVal (.bool true) w)) := fun w => within_any t 1 ht2 hw1 w
    clear hte hwi hbo hb ht hk h1 h2 hw1
    by_cases h3 : 0 ≤ k
    · obtain ⟨c, hc⟩ : ∃ c, (b.toList == []) = c := ⟨_, rfl⟩
      obtain rfl : R = c := by rw [← hR, decide_eq_true h3, hc]; rfl
      clear hR
      go_enter Tryd.func34, Tryd.ntmps34
      go_wp2_with (first
        | (go_at_call 54; refine (AS.out _).mono ?_; rintro e wa ⟨rfl, rfl⟩)
        | (go_at_call 55; refine (WI1.out _).mono ?_; rintro e wi ⟨rfl, rfl⟩))
      go_ret
      exact ⟨rfl, (Below.refl _ _).alloc (Nat.le_refl _) _⟩
    · have e3 : decide ((0 : Int) ≤ k) = false := decide_eq_false h3
      obtain rfl : R = false := by rw [← hR, e3]; rfl
      clear hR
      go_enter Tryd.func34, Tryd.ntmps34
      go_wp2_with (first
        | (go_at_call 54; refine (AS.out _).mono ?_; rintro e wa ⟨rfl, rfl⟩)
        | (go_at_call 55; refine (WI1.out _).mono ?_; rintro e wi ⟨rfl, rfl⟩))
      go_ret
      exact ⟨rfl, (Below.refl _ _).alloc (Nat.le_refl _) _⟩
  · rw [if_neg h2] at hR
    have hw1 : t / 32 % 2 = 0 := by rw [hwi, decide_eq_true_iff] at h2; omega
    have WI1 : Hid (∀ w, Calls Tryd.prog 55 #[.int .u8 (t : Int)] w (RetVal (.bool false) w)) := fun w => within_any t 0 ht2 hw1 w
    clear hte hwi hbo hb ht hk h1 h2 hw1
    by_cases h3 : k = -1
    · subst h3
      obtain ⟨c, hc⟩ : ∃ c, bodyN t b.toList = c := ⟨_, rfl⟩
      rw [hc] at HRI hR
      obtain rfl : R = c := by rw [← hR]; rfl
      clear hR hc
      go_enter Tryd.func34, Tryd.ntmps34
      go_wp2_with (first
        | (go_at_call 54; refine (AS.out _).mono ?_; rintro e wa ⟨rfl, rfl⟩)
        | (go_at_call 55; refine (WI1.out _).mono ?_; rintro e wi ⟨rfl, rfl⟩)
        | (go_at_call 56; refine (HRI.out _ (Utf8Tabs_below HU.out ((Below.refl _ _).alloc (Nat.le_refl _) _))).mono ?_; rintro e w5 ⟨rfl, hb5⟩))
      go_ret
      exact ⟨rfl, ((Below.refl _ _).alloc (Nat.le_refl _) _).trans (hb5.mono (by simp))⟩
    · have e3 : (k == -1) = false := by rw [beq_eq_false_iff_ne]; exact h3
      obtain rfl : R = false := by rw [← hR, decide_eq_false h3]; rfl
      clear hR
      go_enter Tryd.func34, Tryd.ntmps34
      go_wp2_with (first
        | (go_at_call 54; refine (AS.out _).mono ?_; rintro e wa ⟨rfl, rfl⟩)
        | (go_at_call 55; refine (WI1.out _).mono ?_; rintro e wi ⟨rfl, rfl⟩))
      go_ret
      exact ⟨rfl, (Below.refl _ _).alloc (Nat.le_refl _) _⟩
/-- a list of elements as a slice -/
def Sl (w : World) (v : Value) (l : List Nd) : Prop := ∃ a cap, v = .slice a l.length cap ∧ (l ≠ [] → ∃ g, a = some ⟨g, 0, none⟩ ∧ At w g 0 (ncells l) ∧ g < w.heap.size)
def KidsOk (l : List Nd) : Prop := ∀ n ∈ l, -9223372036854775808 ≤ n.kids ∧ n.kids ≤ 9223372036854775807
theorem Sl.below {w w' : World} {v : Value} {l : List Nd} (h : Sl w v l) (hb : Below w.heap.size w w') : Sl w' v l := by
  obtain ⟨a, cap, hv, h1⟩ := h
  exact ⟨a, cap, hv, fun hl => by obtain ⟨g, h2, h3, h4⟩ := h1 hl; exact ⟨g, h2, h3.below hb h4, Nat.lt_of_lt_of_le h4 hb.size⟩⟩
/-- an element's cells -/
theorem ncell_at {w : World} {g : Nat} {l : List Nd} (h : At w g 0 (ncells l)) (i : Nat) (hi : i < l.length) : At w g (i * 3) (nv (l.getD i ⟨0, 0, []⟩)) := by
  obtain ⟨A, B, hAB, hA⟩ := nv_get l i hi
  rw [hAB] at h
  have h2 := At.sub h
  rw [hA, Nat.zero_add] at h2
  exact h2
theorem drop_cons {l : List Nd} {i : Nat} (hi : i < l.length) : l.drop i = l.getD i ⟨0, 0, []⟩ :: l.drop (i + 1) := by
  rw [← List.getElem_cons_drop (h := hi), List.getD, List.getElem?_eq_getElem hi]
  rfl
theorem getD_mem {l : List Nd} {i : Nat} (hi : i < l.length) : l.getD i ⟨0, 0, []⟩ ∈ l := by
  rw [List.getD, List.getElem?_eq_getElem hi]
  exact List.getElem_mem hi
/-- how many stand within one another, and is it one tree? -/
def shp : List Int → Int → List Nd → Int × Bool
  | W, dp, [] => (dp, decide (tw W = []))
  | W, dp, n :: r => match tw W with
    | [] => (0, false)
    | x :: V => if 0 ≤ n.kids then shp (n.kids :: (x - 1) :: V) (max dp ((V.length : Int) + 1)) r else shp ((x - 1) :: V) dp r
theorem tw_sub : ∀ (W : List Int) (x : Int), x ∈ tw W → x ∈ W
  | [], _, h => h
  | a :: W, x, h => by
    rw [tw, List.dropWhile_cons] at h
    split at h
    · exact List.mem_cons_of_mem _ (tw_sub W x h)
    · exact h
theorem tw_le : ∀ (W : List Int), (tw W).length ≤ W.length
  | [] => Nat.le_refl _
  | a :: W => by
    rw [tw, List.dropWhile_cons]
    split
    · exact Nat.le_succ_of_le (tw_le W)
    · exact Nat.le_refl _
theorem tw_tail : ∀ (W : List Int), ∃ D, W = D ++ tw W
  | [] => ⟨[], rfl⟩
  | a :: W => by
    rw [tw, List.dropWhile_cons]
    split
    · obtain ⟨D, hD⟩ := tw_tail W
      exact ⟨a :: D, by rw [List.cons_append, ← tw, ← hD]⟩
    · exact ⟨[], rfl⟩
theorem tw_head {W V : List Int} {x : Int} (h : tw W = x :: V) : x ≠ 0 := by
  induction W with
  | nil => cases h
  | cons a W ih =>
    rw [tw, List.dropWhile_cons] at h
    split at h
    · exact ih h
    · rename_i ha
      cases h
      simpa using ha
/-- the row of what is still to come -/
structure Wt (w : World) (B : Nat) (v : Value) (W : List Int) : Prop where
  own : w.ownsRow B 3 1 v W.length (icells W.reverse)
  all : ∀ x ∈ W, 0 ≤ x ∧ x ≤ 9223372036854775807
theorem Wt.tw {w : World} {B k cap : Nat} {W : List Int} (h : Wt w B (.slice (some ⟨k, 0, none⟩) W.length cap) W) : Wt w B (.slice (some ⟨k, 0, none⟩) (tw W).length cap) (tw W) := by
  refine ⟨?_, fun x hx => h.all x (tw_sub W x hx)⟩
  cases W with
  | nil => exact h.own
  | cons a W =>
    have h1 := own_take h.own (tw_le (a :: W)) (by simp)
    obtain ⟨D, hD⟩ := tw_tail (a :: W)
    rw [Nat.mul_one, icells_take] at h1
    have key : ∀ (X T D : List Int), X = D ++ T → X.reverse.take T.length = T.reverse := by
      rintro _ T D rfl
      rw [List.reverse_append, List.take_left' (by simp)]
    have this := key _ _ _ hD
    rw [this] at h1
    exact h1
end Go.Proofs.YteglahkgnggmgaaDoor
