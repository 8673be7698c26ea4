/- Heads: the program's. -/
import Derived.Test.YtikgonlhdkknkaaDoorCwB
import Derived.Test.YtikgonlhdkknkaaDoorCeS3
namespace Go.Proofs.YtikgonlhdkknkaaDoor
open Go.RowKit
set_option linter.unusedVariables false
set_option linter.unusedSimpArgs false
namespace Ce
open Co (Am Ra up rcells rv UT DecR enc Its holds tell okA hdN infN widN bytesN)
def prtH (k : Nat) (s : List UInt8) : List Ra := if s = [] then [] else [⟨0, k, []⟩, ⟨2, 0, s⟩]
def oneH (s : List UInt8) : Nat := if s = [] then 0 else 1
def lstH (name iv : List UInt8) : List Ra := ⟨5, oneH name + oneH iv, []⟩ :: (prtH 4 name ++ prtH 5 iv)
theorem enc_lst (name iv : List UInt8) (hn : name.length ≤ 128) (hv : iv.length ≤ 16) : enc Lib.validD (lstH name iv) = (looH name iv, 0) := by
  have fin : ∀ (l : List Am) (S : List UInt8), Its 1 l [S] true → (∀ a ∈ l, okA Lib.validD a) → l.length ≤ 5 → S.length ≤ 1000 → enc Lib.validD (l.map up) = (S, 0) := fun l S hI hok hl hS => by
    have ha : Apart S l 32 := ⟨⟨1, hI, by decide⟩, hok, by omega, by decide, by omega⟩
    exact ha.enc
  have h1 := byt_len2 name
  have h2 := byt_len2 iv
  by_cases hn0 : name = []
  · by_cases hv0 : iv = []
    · subst hn0 hv0
      exact fin [⟨5, 0, []⟩] [0xa0] (by
        have h := Its.node (a := ⟨5, 0, []⟩) rfl (by rfl) .nil .nil
        exact h) (by
        intro a ha
        simp only [List.mem_cons, List.mem_nil_iff, or_false] at ha
        subst ha
        exact okN _ _ (by decide) (by decide)) (by decide) (by decide)
    · have e1 : lstH name iv = ([⟨5, 1, []⟩, ⟨0, 5, []⟩, ⟨2, 0, iv⟩] : List Am).map up := by rw [lstH, oneH, oneH, prtH, prtH, if_pos hn0, if_neg hv0, if_pos hn0, if_neg hv0]; rfl
      have e2 : looH name iv = hdN 5 1 ++ (5 :: byt iv) := by rw [looH, cntH, if_pos hn0, if_neg hv0, if_pos hn0, if_neg hv0]; rfl
      rw [e1, e2]
      exact fin _ _ (by
        have h := Its.node (a := ⟨5, 1, []⟩) rfl (by rfl) (Its.leaf (a := ⟨0, 5, []⟩) rfl (Its.leaf (a := ⟨2, 0, iv⟩) rfl .nil)) .nil
        simp only [tell, List.flatten_cons, List.flatten_nil, List.append_nil] at h
        exact h) (by
        intro a ha
        simp only [List.mem_cons, List.mem_nil_iff, or_false] at ha
        rcases ha with rfl | rfl | rfl
        · exact okN _ _ (by decide) (by decide)
        · exact okN _ _ (by decide) (by decide)
        · exact okB _ (by omega)) (by simp) (by rw [List.length_append, List.length_cons, Co.hdN_length]; have := widN_le 1; omega)
  · by_cases hv0 : iv = []
    · have e1 : lstH name iv = ([⟨5, 1, []⟩, ⟨0, 4, []⟩, ⟨2, 0, name⟩] : List Am).map up := by rw [lstH, oneH, oneH, prtH, prtH, if_neg hn0, if_pos hv0, if_neg hn0, if_pos hv0]; rfl
      have e2 : looH name iv = hdN 5 1 ++ (4 :: byt name) := by rw [looH, cntH, if_neg hn0, if_pos hv0, if_neg hn0, if_pos hv0, List.append_nil]
      rw [e1, e2]
      exact fin _ _ (by
        have h := Its.node (a := ⟨5, 1, []⟩) rfl (by rfl) (Its.leaf (a := ⟨0, 4, []⟩) rfl (Its.leaf (a := ⟨2, 0, name⟩) rfl .nil)) .nil
        simp only [tell, List.flatten_cons, List.flatten_nil, List.append_nil] at h
        exact h) (by
        intro a ha
        simp only [List.mem_cons, List.mem_nil_iff, or_false] at ha
        rcases ha with rfl | rfl | rfl
        · exact okN _ _ (by decide) (by decide)
        · exact okN _ _ (by decide) (by decide)
        · exact okB _ (by omega)) (by simp) (by rw [List.length_append, List.length_cons, Co.hdN_length]; have := widN_le 1; omega)
    · have e1 : lstH name iv = ([⟨5, 2, []⟩, ⟨0, 4, []⟩, ⟨2, 0, name⟩, ⟨0, 5, []⟩, ⟨2, 0, iv⟩] : List Am).map up := by rw [lstH, oneH, oneH, prtH, prtH, if_neg hn0, if_neg hv0, if_neg hn0, if_neg hv0]; rfl
      have e2 : looH name iv = hdN 5 2 ++ ((4 :: byt name) ++ (5 :: byt iv)) := by rw [looH, cntH, if_neg hn0, if_neg hv0, if_neg hn0, if_neg hv0]
      rw [e1, e2]
      exact fin _ _ (by
        have h := Its.node (a := ⟨5, 2, []⟩) rfl (by rfl) (Its.leaf (a := ⟨0, 4, []⟩) rfl (Its.leaf (a := ⟨2, 0, name⟩) rfl (Its.leaf (a := ⟨0, 5, []⟩) rfl (Its.leaf (a := ⟨2, 0, iv⟩) rfl .nil)))) .nil
        simp only [tell, List.flatten_cons, List.flatten_nil, List.append_nil] at h
        exact h) (by
        intro a ha
        simp only [List.mem_cons, List.mem_nil_iff, or_false] at ha
        rcases ha with rfl | rfl | rfl | rfl | rfl
        · exact okN _ _ (by decide) (by decide)
        · exact okN _ _ (by decide) (by decide)
        · exact okB _ (by omega)
        · exact okN _ _ (by decide) (by decide)
        · exact okB _ (by omega)) (by simp) (by rw [List.length_append, List.length_append, List.length_cons, List.length_cons, Co.hdN_length]; have := widN_le 2; omega)
theorem own_inc {w : World} {T g k c n : Nat} {R : List Ra} (h : w.ownsRow T 51 3 (.slice (some ⟨g, 0, none⟩) k c) k (rcells (⟨5, n, []⟩ :: R))) (m : Nat) : (w.setCell ⟨g, 1, none⟩ (.int .u64 (m : Int))).ownsRow T 51 3 (.slice (some ⟨g, 0, none⟩) k c) k (rcells (⟨5, m, []⟩ :: R)) := by
  have h1 := (h.stored 1 (.int .u64 (m : Int))).1
  exact h1
theorem lst_num {name iv : List UInt8} : ∀ a ∈ lstH name iv, a.num < 18446744073709551616 := by
  intro a ha
  rw [lstH, List.mem_cons, List.mem_append] at ha
  rcases ha with rfl | ha | ha
  · show oneH name + oneH iv < _
    have h1 : oneH name ≤ 1 := by rw [oneH]; split <;> omega
    have h2 : oneH iv ≤ 1 := by rw [oneH]; split <;> omega
    omega
  all_goals
    rw [prtH] at ha
    split at ha
    · cases ha
    · simp only [List.mem_cons, List.mem_nil_iff, or_false] at ha
      rcases ha with rfl | rfl
      · show _ < 18446744073709551616; simp
      · show _ < 18446744073709551616; simp
theorem lst_text {name iv : List UInt8} (hn : name.length ≤ 128) (hv : iv.length ≤ 16) : ∀ a ∈ lstH name iv, a.text.length ≤ 140737488351232 := by
  intro a ha
  rw [lstH, List.mem_cons, List.mem_append] at ha
  rcases ha with rfl | ha | ha
  · exact Nat.zero_le _
  all_goals
    rw [prtH] at ha
    split at ha
    · cases ha
    · simp only [List.mem_cons, List.mem_nil_iff, or_false] at ha
      rcases ha with rfl | rfl
      · exact Nat.zero_le _
      · first | (show name.length ≤ _; omega) | (show iv.length ≤ _; omega)
theorem lst_len {name iv : List UInt8} : (lstH name iv).length ≤ 5 := by
  rw [lstH, List.length_cons, List.length_append, prtH, prtH]
  split <;> split <;> simp
end Ce
end Go.Proofs.YtikgonlhdkknkaaDoor
