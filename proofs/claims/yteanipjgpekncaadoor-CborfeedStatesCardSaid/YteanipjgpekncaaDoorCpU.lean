/- Limits, cuts: the walks of CborCut and CborLimits. -/
import Derived.Test.YteanipjgpekncaaDoorCpT
namespace Go.Proofs.YteanipjgpekncaaDoor
open Go.RowKit
set_option linter.unusedVariables false
set_option linter.unusedSimpArgs false
namespace Co
open Dr (Rs Lm has lack at0S)
section
variable {S : List UInt8} {L : Lm} {txt : List UInt8 → Bool} {ls : List UInt8 → List UInt8 → Bool}
theorem lack_ne {α : Type} {e : Int} {q : Nat} {b : Bool} (h : (lack S L : Rs α) = .no e q b) : e ≠ 0 := by
  rw [lack] at h
  cases h
  rw [Dr.lackE]
  split <;> decide
theorem argB_ne (q : Nat) : ∀ (i : Nat) (e : Int) (x : Nat) (b : Bool), argB S L q i = .no e x b → e ≠ 0
  | 0, e, x, b, h => by cases h
  | i + 1, e, x, b, h => by
    rw [argB] at h
    cases hB : argB S L q i with
    | no e2 x2 b2 => rw [hB] at h; cases h; exact argB_ne q i _ _ _ hB
    | ok m =>
      rw [hB] at h
      dsimp only at h
      split at h
      · cases h
      · exact lack_ne h
theorem argR_ne (q : Nat) (e : Int) (x : Nat) (b : Bool) (h : argR S L q = .no e x b) : e ≠ 0 := by
  rw [argR] at h
  cases hB : argB S L q (widT (S.getD q 0)) with
  | no e2 x2 b2 => rw [hB] at h; cases h; exact argB_ne q _ _ _ _ hB
  | ok m =>
    rw [hB] at h
    dsimp only at h
    split at h
    · cases h
    · split at h
      · cases h
      · cases h; decide
theorem elS_ne {G : List Fr} {l : List Am} {p : Nat} {e : Int} {x : Nat} {b : Bool} (h : elS S L txt G l p = .no e x b) : e ≠ 0 := by
  rw [elS] at h
  by_cases h0 : has S L p = false
  · rw [if_pos h0] at h; exact lack_ne h
  rw [if_neg h0] at h
  by_cases h1 : L.items ≤ l.length
  · rw [if_pos h1] at h; cases h; decide
  rw [if_neg h1] at h
  by_cases h2 : headE (S.getD p 0) ≠ 0
  · rw [if_pos h2] at h; cases h; exact h2
  rw [if_neg h2] at h
  cases hA : argR S L p with
  | no e2 x2 b2 => rw [hA] at h; cases h; exact argR_ne _ _ _ _ hA
  | ok n =>
    rw [hA] at h
    dsimp only at h
    split at h
    · split at h
      · exact lack_ne h
      · split at h
        · cases h; decide
        · cases h
    · split at h
      · split at h
        · cases h; decide
        · cases h
      · cases h
theorem pendS_ne {G : List Fr} {l : List Am} {a p : Nat} {e : Int} {x : Nat} {b : Bool} (h : pendS S ls G l a p = .no e x b) : e ≠ 0 := by
  cases G with
  | nil => cases h
  | cons f G =>
    rw [pendS] at h
    split at h
    · split at h
      · cases h; decide
      · cases h
    · cases h
theorem Runs.ne {st : St} {r : Rs (List Am)} (hr : Runs S L txt ls st r) : ∀ e q b, r = .no e q b → e ≠ 0 := by
  induction hr with
  | el _ _ ih => exact ih
  | elNo h => intro e q b h2; cases h2; exact elS_ne h
  | pend _ _ ih => exact ih
  | pendNo h => intro e q b h2; cases h2; exact pendS_ne h
  | loop _ ih => exact ih
  | @fin l0 p =>
    intro e q b h2
    rw [Co.fin] at h2
    split at h2
    · split at h2
      · cases h2; decide
      · exact lack_ne h2
    · cases h2
theorem Runs.ini {st : St} {r : Rs (List Am)} (hr : Runs S L txt ls st r) : ∀ l, r = .ok l → (stL st).length ≤ L.items → l.length ≤ L.items := by
  induction hr with
  | el h1 _ ih => intro l hl _; exact ih l hl (by rw [elS_len h1]; exact elS_items h1)
  | elNo _ => intro l hl; cases hl
  | pend h1 _ ih => intro l hl hp; exact ih l hl (by rw [(pendS_ok h1).1]; exact hp)
  | pendNo _ => intro l hl; cases hl
  | loop _ ih => intro l hl hp; exact ih l hl (by rw [(loopS_ok ..).1]; exact hp)
  | @fin l0 p => intro l hl hp; rw [← (fin_ok hl).1]; exact hp
theorem elS_bytes {G : List Fr} {l : List Am} {p : Nat} {s : St} (hs : elS S L txt G l p = .ok s) : stP s ≤ L.bytes := by
  obtain ⟨h0, h1, h2, n, hA, hE⟩ := elS_ok hs
  have h3 := argR_pb h0 hA
  cases hE with
  | text g1 g2 g3 =>
    show p + 1 + widT (S.getD p 0) + n ≤ L.bytes
    rcases g2 with rfl | g2
    · exact h3
    · have h9 : _ < S.length ∧ _ < L.bytes := of_decide_eq_true g2
      omega
  | hold _ _ => exact h3
  | plain _ _ => exact h3
theorem Runs.inb {st : St} {r : Rs (List Am)} (hr : Runs S L txt ls st r) : ∀ l, r = .ok l → stP st ≤ L.bytes → S.length ≤ L.bytes := by
  induction hr with
  | el h1 _ ih => intro l hl _; exact ih l hl (elS_bytes h1)
  | elNo _ => intro l hl; cases hl
  | pend h1 _ ih => intro l hl hp; exact ih l hl (by rw [(pendS_ok h1).2]; exact hp)
  | pendNo _ => intro l hl; cases hl
  | loop _ ih => intro l hl hp; exact ih l hl (by rw [(loopS_ok ..).2]; exact hp)
  | @fin l0 p => intro l hl hp; have hp' : p ≤ L.bytes := hp; have := (fin_ok hl).2; omega
theorem Runs.one {l : List Am} (hr : Runs S L txt ls (.el [] [] 0) (.ok l)) : 1 ≤ l.length ∧ 1 ≤ S.length := by
  cases hr with
  | el h1 h2 =>
    have h3 := Runs.long h2 l rfl
    rw [elS_len h1] at h3
    obtain ⟨h0, -⟩ := elS_ok h1
    have h5 : 0 < S.length ∧ 0 < L.bytes := of_decide_eq_true h0
    exact ⟨by simpa using h3, h5.1⟩
end
theorem Sr.ofOwnA {w : World} {B : Nat} {v : Value} {l : List Am} (h : w.ownsRow B 75 3 v l.length (rcells (l.map up))) : Sr w v (l.map up) := Sr.ofOwn (by rw [List.length_map]; exact h)
def RetT (w : World) (e : Ending) (w' : World) : Prop := e = .returned (.bool true) ∧ Below w.heap.size w w'
theorem tl_app (a b : ByteArray) : (a ++ b).toList = a.toList ++ b.toList := by rw [Lib.toList_data, Lib.toList_data, Lib.toList_data]; simp [ByteArray.data_append]
def MoL : Lm := limL 32 4096 262144
/-- reading within the greatest limits: what the answer is -/
def RetDm (s : ByteArray) (w : World) (e : Ending) (w' : World) : Prop :=
  ∃ r, RunsC s.toList MoL (.el [] [] 0) r ∧ ∃ v, e = .returned (.tuple #[v, .int .i64 (decP r : Int), .int .i64 (decE r)]) ∧ w'.ownsRow w.heap.size 75 3 v (decL r).length (rcells ((decL r).map up)) ∧ Below w.heap.size w w'
theorem decm_any (s : ByteArray) (w : World) (hz : s.size ≤ 140737488351232) (hU : UT w.heap.size w) : Calls Tryd.prog 15 #[.string s, .agg #[.int .i64 32, .int .i64 4096, .int .i64 262144, .int .i64 4096]] w (RetDm s w) := by
  refine (decode_any s 32 4096 262144 4096 w hz hU).mono ?_
  rintro e w' ⟨r, hr, v, he, ho, hb⟩
  exact ⟨r, hr.1 (by kernel_rfl), v, he, ho, hb⟩
theorem decm_is (s : ByteArray) (w : World) (hz : s.size ≤ 140737488351232) (hU : UT w.heap.size w) (r : Rs (List Am)) (hr : RunsC s.toList MoL (.el [] [] 0) r) (p : Nat) (c : Int) (hp : decP r = p) (hc : decE r = c) :
    Calls Tryd.prog 15 #[.string s, .agg #[.int .i64 32, .int .i64 4096, .int .i64 262144, .int .i64 4096]] w (fun e w' => ∃ v, e = .returned (.tuple #[v, .int .i64 (p : Int), .int .i64 c]) ∧ Hid (Below w.heap.size w w')) := by
  refine (decm_any s w hz hU).mono ?_
  rintro e w' ⟨r', hr', v, he, ho, hb⟩
  have h1 := Runs.same _ _ _ _ hr hr'
  subst h1
  exact ⟨v, by rw [he, hp, hc], hb⟩
theorem dcv_after (f : Nat) (hf : f < 256) (c : ByteArray) (hc : c = ⟨[UInt8.ofNat f].toArray⟩) {w w3 : World} (hb : Below (w.alloc (Obj.cells #[.int .u8 (f : Int)] 5)).drew.heap.size (w.alloc (Obj.cells #[.int .u8 (f : Int)] 5)).drew w3) :
    (convert 42 9 (.slice (some ⟨w.heap.size, 0, none⟩) 1 1)).run Tryd.prog w3 = .ok (.string c) w3 := by
  have e9 : (f : Int) = ((UInt8.ofNat f).toNat : Int) := by simp; omega
  have hA : At (w.alloc (Obj.cells #[.int .u8 (f : Int)] 5)).drew w.heap.size 0 (bcells [UInt8.ofNat f]) := by
    have h := At.ofAlloc w #[.int .u8 ((UInt8.ofNat f).toNat : Int)] 5
    rw [← e9] at h
    have e : bcells [UInt8.ofNat f] = [.int .u8 (f : Int)] := by rw [e9]; rfl
    rw [e]
    exact h
  have hcv := dcv_at (P := Tryd.prog) (cap := 1) (hA.below hb (by simp)) 42 9 5 1 rfl Tryd.underlying42 Tryd.underlying5 Tryd.underlying9
  rw [← hc] at hcv
  exact hcv
theorem dcv_byteD (f : Nat) (hf : f < 256) (c : ByteArray) (hc : c = ⟨[UInt8.ofNat f].toArray⟩) : ∀ w' : World, (convert 42 9 (.slice (some ⟨w'.heap.size, 0, none⟩) 1 1)).run Tryd.prog (w'.alloc (Obj.cells #[.int .u8 (f : Int)] 5)).drew = .ok (.string c) (w'.alloc (Obj.cells #[.int .u8 (f : Int)] 5)).drew := fun w' => dcv_byte f hf c hc w'.drew
theorem u8_of_wf {a : Int} (h : (Lit.int .u8 a).wf = true) : ∃ n : Nat, a = (n : Int) ∧ n < 256 := by
  have h2 : IntKind.u8.min ≤ a ∧ a ≤ IntKind.u8.max := by simpa [Lit.wf] using h
  have e1 : IntKind.u8.min = 0 := by decide
  have e2 : IntKind.u8.max = 255 := by decide
  obtain ⟨n, rfl⟩ := Int.eq_ofNat_of_zero_le (a := a) (by omega)
  exact ⟨n, rfl, by omega⟩
theorem cut_runs {s : ByteArray} {l : List Am} (hr : RunsC s.toList MoL (.el [] [] 0) (.ok l)) (k : Nat) (hk : k < s.size) (hz : s.size < 262144) : RunsC (s.extract 0 k).toList MoL (.el [] [] 0) (.no 9 k true) := by
  rw [tl_extract]
  have h := Runs.off (Off.cut (S := s.toList) (L := MoL) (a := k) (by rw [tl_size]; exact hk) (by rw [tl_size]; show s.size ≤ 262144; omega)) hr l rfl (Nat.zero_le _) (Runs.ini hr l rfl (Nat.zero_le _))
  exact h
theorem behind_runs {s c : ByteArray} {l : List Am} (m : UInt8) (hc : c.toList = [m]) (hr : RunsC s.toList MoL (.el [] [] 0) (.ok l)) (hz : s.size < 262144) : RunsC (s ++ c).toList MoL (.el [] [] 0) (.no 9 s.size false) := by
  rw [tl_app, hc, ← tl_size s]
  exact Runs.behind (m := m) (by rw [tl_size]; show s.size < 262144; omega) hr l rfl (Nat.zero_le _)
set_option maxRecDepth 100000 in
set_option maxHeartbeats 1600000 in
theorem cborCut_walk (s : ByteArray) (a m : Int) (hz : s.size ≤ 140737488351232) (hm : (Lit.int .u8 m).wf = true) (w : World) (hU : UT w.heap.size w) : Calls Tryd.prog 8 #[.string s, .int .i64 a, .int .u8 m] w (RetT w) := by
  obtain ⟨f, rfl, hf⟩ := u8_of_wf hm
  have HU := Lib.hid hU
  have WK := Lib.hid (fun w hU => wakes17_any w hU)
  have MO := Lib.hid (fun w' => most_any w')
  have D1 := Lib.hid (fun w hU => decm_any s w hz hU)
  have D2 := Lib.hid (fun (u : ByteArray) w hz hU r hr p c hp hc => decm_is u w hz hU r hr p c hp hc)
  obtain ⟨n, hn⟩ : ∃ n, s.size = n := ⟨_, rfl⟩
  have HN := Lib.hid (And.intro hn hz)
  have HF := Lib.hid hf
  clear hm hU hz hf
  go_enter Tryd.func8, Tryd.ntmps8
  go_wp2_with fail
  refine (WK.out _ HU.out).mono ?_
  rintro e w1 ⟨rfl, hb1⟩
  have HB1 : Hid (Below w.heap.size w w1) := hb1
  clear hb1
  go_wp2_with fail
  refine (MO.out _).mono ?_
  rintro e w2 ⟨rfl, hb2⟩
  have HB2 : Hid (Below w.heap.size w w2) := HB1.out.trans (hb2.mono HB1.out.size)
  clear hb2
  go_wp2_with fail
  refine (D1.out _ (HU.out.at HB2.out)).mono ?_
  rintro e w3 ⟨r, hr, v, rfl, -, hb3⟩
  have HB3 : Hid (Below w.heap.size w w3) := HB2.out.trans (hb3.mono HB2.out.size)
  have HR := Lib.hid hr
  clear hb3 hr
  cases r with
  | no c q b =>
    have hc : ¬ c = 0 := Runs.ne HR.out _ _ _ rfl
    rw [show decE (.no c q b) = c from rfl]
    go_wp2_with fail
    go_ret
    exact ⟨rfl, HB3.out⟩
  | ok l =>
    rw [show decE (.ok l) = 0 from rfl]
    by_cases h1 : a < 0
    · go_wp2_with fail
      go_ret
      exact ⟨rfl, HB3.out⟩
    · obtain ⟨k, rfl⟩ := Int.eq_ofNat_of_zero_le (a := a) (by omega)
      by_cases h2 : n ≤ k
      · have e2 : (n : Int) ≤ (k : Int) := by omega
        go_wp2_with fail
        go_ret
        exact ⟨rfl, HB3.out⟩
      · by_cases h3 : 262144 ≤ n
        · have e2 : ¬ (n : Int) ≤ (k : Int) := by omega
          have e3 : (262144 : Int) ≤ (n : Int) := by omega
          go_wp2_with fail
          go_ret
          exact ⟨rfl, HB3.out⟩
        · have e2 : ¬ (n : Int) ≤ (k : Int) := by omega
          have e3 : decide ((262144 : Int) ≤ (n : Int)) = false := decide_eq_false (by omega)
          obtain ⟨u, hu⟩ : ∃ u, s.extract 0 k = u := ⟨_, rfl⟩
          have hk0 : k ≤ s.size := by omega
          have e4 : (k : Int) ≤ (n : Int) := by omega
          have hus : u.size ≤ 140737488351232 := by rw [← hu, ← tl_size, tl_extract, List.length_take, List.length_drop, tl_size]; omega
          have HRU := Lib.hid (cut_runs HR.out k (by omega) (by omega))
          rw [hu] at HRU
          obtain ⟨c, hc⟩ : ∃ c : ByteArray, c = ⟨[UInt8.ofNat f].toArray⟩ := ⟨_, rfl⟩
          have hcl : c.toList = [UInt8.ofNat f] := by rw [hc, tl_mk]
          have hcs : c.size = 1 := by rw [← tl_size, hcl]; rfl
          have HRB := Lib.hid (behind_runs (c := c) (UInt8.ofNat f) hcl HR.out (by omega))
          rw [hn] at HRB
          have hov : ¬ 9223372036854775807 < s.size + c.size := by omega
          have hcv := dcv_byte f HF.out c hc
          have hcvd := dcv_byteD f HF.out c hc
          have HCc := Lib.hid hc
          obtain ⟨sc, hsc⟩ : ∃ sc, s ++ c = sc := ⟨_, rfl⟩
          have hss : sc.size ≤ 140737488351232 := by rw [← hsc, ← tl_size, tl_app, List.length_append, tl_size, tl_size]; omega
          rw [hsc] at HRB
          have HSS := Lib.hid hss
          have HUS := Lib.hid hus
          clear hus hss hc hcl hcs h3 h2 h1
          go_wp2_with fail
          go_region_held3 (fun _ => True) (trivial) (first | (go_at_call 21; refine (MO.out _).mono ?_; rintro e w4 ⟨rfl, hb4⟩; have HB4 : Hid (Below w.heap.size w w4) := HB3.out.drew.trans (hb4.mono HB3.out.size); clear hb4) | (go_at_call 15; refine (D2.out u _ HUS.out (HU.out.at HB4.out) _ HRU.out k 9 rfl rfl).mono ?_; rintro e w5 ⟨v5, rfl, hb5⟩; have HB5 : Hid (Below w.heap.size w w5) := HB4.out.trans (hb5.out.mono HB4.out.size); clear hb5))
          go_wp2_with fail
          go_region_with (first
            | (go_at_call 21; refine (MO.out _).mono ?_; rintro e w6 ⟨rfl, hb6⟩; have HB6 : Hid (Below w.heap.size w w6) := (by first | exact HB5.out.drew.trans (hb6.mono HB5.out.size) | exact (HB5.out.alloc HB5.out.size _).drew.trans (hb6.mono (by have := HB5.out.size; simp; omega))); (first | have hcv3 := dcv_after f HF.out c HCc.out hb6 | skip))
            | (go_at_call 15; refine (D2.out sc _ HSS.out (HU.out.at (by first | exact HB6.out | exact HB6.out.drew | exact (HB6.out.alloc HB6.out.size _).drew | exact (HB6.out.alloc HB6.out.size _))) _ HRB.out n 9 rfl rfl).mono ?_; rintro e w7 ⟨v7, rfl, hb7⟩; have HB7 : Hid (Below w.heap.size w w7) := (by first | exact HB6.out.trans (hb7.out.mono HB6.out.size) | exact HB6.out.drew.trans (hb7.out.mono HB6.out.size) | exact (HB6.out.alloc HB6.out.size _).drew.trans (hb7.out.mono (by have := HB6.out.size; simp; omega)) | exact (HB6.out.alloc HB6.out.size _).trans (hb7.out.mono (by have := HB6.out.size; simp; omega)))))
          all_goals
            clear hcv hcvd
            go_wp2_with fail
            go_ret
            exact ⟨rfl, HB7.out⟩
theorem dec_is (s : ByteArray) (d i b ro : Int) (w : World) (hz : s.size ≤ 140737488351232) (hU : UT w.heap.size w) (r : Rs (List Am)) (hm : mayOk d i b ro = true) (hr : RunsC s.toList (limL d i b) (.el [] [] 0) r) :
    Calls Tryd.prog 15 #[.string s, .agg #[.int .i64 d, .int .i64 i, .int .i64 b, .int .i64 ro]] w (fun e w' => ∃ v, e = .returned (.tuple #[v, .int .i64 (decP r : Int), .int .i64 (decE r)]) ∧ Hid (Sr w' v ((decL r).map up)) ∧ Hid (Below w.heap.size w w')) := by
  refine (decode_any s d i b ro w hz hU).mono ?_
  rintro e w' ⟨r', hr', v, he, ho, hb⟩
  have h1 := Runs.same _ _ _ _ hr (hr'.1 hm)
  subst h1
  exact ⟨v, he, Sr.ofOwnA ho, hb⟩
/-- what all of a text's limits come to when it is read -/
structure Just (s : ByteArray) (d i b ro : Int) (l : List Am) : Prop where
  may : 1 ≤ d ∧ d ≤ 32 ∧ 1 ≤ i ∧ i ≤ 4096 ∧ 1 ≤ b ∧ b ≤ 262144 ∧ 1 ≤ ro ∧ ro ≤ 4096
  len : 1 ≤ l.length ∧ (l.length : Int) ≤ i
  size : 1 ≤ s.size ∧ (s.size : Int) ≤ b
  just : RunsC s.toList (limL d l.length s.size) (.el [] [] 0) (.ok l)
theorem just_of {s : ByteArray} {d i b ro : Int} {l : List Am} (h : DecR s.toList d i b ro (.ok l)) : Just s d i b ro l := by
  cases hm : mayOk d i b ro with
  | false => have := h.2 hm; cases this
  | true =>
    have hr := h.1 hm
    have hy := mayOk_yes hm
    have h1 := Runs.one hr
    have h2 := Runs.ini hr l rfl (Nat.zero_le _)
    have h3 := Runs.inb hr l rfl (Nat.zero_le _)
    rw [tl_size] at h1 h3
    have h4 : l.length ≤ i.toNat := h2
    have h5 : s.size ≤ b.toNat := h3
    refine ⟨hy, ⟨h1.1, by omega⟩, ⟨h1.2, by omega⟩, ?_⟩
    have h6 := Runs.just (d := d.toNat) (i := i.toNat) (b := b.toNat) hr
    rw [tl_size] at h6
    exact h6
theorem Just.few {s : ByteArray} {d i b ro : Int} {l : List Am} (h : Just s d i b ro l) (k : Nat) (hk : k + 1 = l.length) : ∃ q b, RunsC s.toList (limL d k s.size) (.el [] [] 0) (.no 10 q b) :=
  Runs.few (L := limL d l.length s.size) (L' := limL d k s.size) (fun q hq => hq) (Nat.le_refl _) h.just l rfl (by have := h.len; show 0 < l.length; omega) hk
theorem Just.less {s : ByteArray} {d i b ro : Int} {l : List Am} (h : Just s d i b ro l) (k : Nat) (hk : k + 1 = s.size) : RunsC s.toList (limL d l.length k) (.el [] [] 0) (.no 10 k false) :=
  Runs.off (Off.less (L := limL d l.length s.size) (L' := limL d l.length k) (by rw [tl_size]; exact hk) (Nat.le_refl _)) h.just l rfl (Nat.zero_le _) (Nat.le_refl _)
theorem limL_le {d i b d' i' b' : Int} (h1 : d ≤ d') (h2 : i ≤ i') (h3 : b ≤ b') : LmLe (limL d i b) (limL d' i' b') := ⟨by show d.toNat ≤ d'.toNat; omega, by show i.toNat ≤ i'.toNat; omega, by show b.toNat ≤ b'.toNat; omega⟩
theorem Just.great {s : ByteArray} {d i b ro d' i' b' : Int} {l : List Am} (h : Just s d i b ro l) (h1 : d ≤ d') (h2 : i ≤ i') (h3 : b ≤ b') : RunsC s.toList (limL d' i' b') (.el [] [] 0) (.ok l) :=
  Runs.more (limL_le h1 (by have := h.len.2; omega) (by have := h.size.2; omega)) h.just
theorem mayOk_in {d i b r : Int} (h : 1 ≤ d ∧ d ≤ 32 ∧ 1 ≤ i ∧ i ≤ 4096 ∧ 1 ≤ b ∧ b ≤ 262144 ∧ 1 ≤ r ∧ r ≤ 4096) : mayOk d i b r = true := decide_eq_true h
theorem mayOk_out {d i b r : Int} (h : ¬ (1 ≤ i ∧ 1 ≤ b)) : mayOk d i b r = false := decide_eq_false (fun h2 => h ⟨h2.2.2.1, h2.2.2.2.2.1⟩)
theorem few_any {s : ByteArray} {d i b ro : Int} {l : List Am} (h : Just s d i b ro l) (k : Nat) (hk : k + 1 = l.length) (w : World) (hz : s.size ≤ 140737488351232) (hU : UT w.heap.size w) :
    Calls Tryd.prog 15 #[.string s, .agg #[.int .i64 d, .int .i64 (k : Int), .int .i64 (s.size : Int), .int .i64 1]] w (fun e w' => ∃ (v : Value) (p : Nat) (c : Int), e = .returned (.tuple #[v, .int .i64 (p : Int), .int .i64 c]) ∧ (k < 1 ∨ c = 10) ∧ Hid (Below w.heap.size w w')) := by
  refine (decode_any s d k s.size 1 w hz hU).mono ?_
  rintro e w' ⟨r, hr, v, he, ho, hb⟩
  refine ⟨v, _, _, he, ?_, hb⟩
  by_cases h1 : k < 1
  · exact .inl h1
  · have h2 := h.may
    have h3 := h.len
    have h4 := h.size
    obtain ⟨q, b2, h5⟩ := h.few k hk
    have h6 := Runs.same _ _ _ _ (hr.1 (mayOk_in (by omega))) h5
    subst h6
    exact .inr rfl
theorem less_any {s : ByteArray} {d i b ro : Int} {l : List Am} (h : Just s d i b ro l) (k : Nat) (hk : k + 1 = s.size) (w : World) (hz : s.size ≤ 140737488351232) (hU : UT w.heap.size w) :
    Calls Tryd.prog 15 #[.string s, .agg #[.int .i64 d, .int .i64 (l.length : Int), .int .i64 (k : Int), .int .i64 1]] w (fun e w' => ∃ (v : Value) (p : Nat) (c : Int), e = .returned (.tuple #[v, .int .i64 (p : Int), .int .i64 c]) ∧ (k < 1 ∨ (c = 10 ∧ p = k)) ∧ Hid (Below w.heap.size w w')) := by
  refine (decode_any s d l.length k 1 w hz hU).mono ?_
  rintro e w' ⟨r, hr, v, he, ho, hb⟩
  refine ⟨v, _, _, he, ?_, hb⟩
  by_cases h1 : k < 1
  · exact .inl h1
  · have h2 := h.may
    have h3 := h.len
    have h4 := h.size
    have h6 := Runs.same _ _ _ _ (hr.1 (mayOk_in (by omega))) (h.less k hk)
    subst h6
    exact .inr ⟨rfl, rfl⟩
set_option maxRecDepth 100000 in
set_option maxHeartbeats 1600000 in
theorem cborLimits_walk (s : ByteArray) (d i b ro d2 i2 b2 ro2 : Int) (hz : s.size ≤ 140737488351232) (w : World) (hU : UT w.heap.size w) :
    Calls Tryd.prog 7 #[.string s, .agg #[.int .i64 d, .int .i64 i, .int .i64 b, .int .i64 ro], .agg #[.int .i64 d2, .int .i64 i2, .int .i64 b2, .int .i64 ro2]] w (RetT w) := by
  have HU := Lib.hid hU
  have WK := Lib.hid (fun w hU => wakes17_any w hU)
  have MA := Lib.hid (fun d i b r w' => rmay_any d i b r w')
  have D1 := Lib.hid (fun w hU => decode_any s d i b ro w hz hU)
  have D2 := Lib.hid (fun d i b ro w hU r hm hr => dec_is s d i b ro w hz hU r hm hr)
  have HZ := Lib.hid hz
  have HB0 : Hid (Below w.heap.size w ((w.alloc (Obj.cells #[.int .i64 d, .int .i64 i, .int .i64 b, .int .i64 ro] 23)).alloc (Obj.cells #[.int .i64 d2, .int .i64 i2, .int .i64 b2, .int .i64 ro2] 23))) := ((Below.refl _ _).alloc (Nat.le_refl _) _).alloc (by simp) _
  have HL0 := Lib.hid ((Lm4.ofAlloc w d i b ro).alloc (Obj.cells #[.int .i64 d2, .int .i64 i2, .int .i64 b2, .int .i64 ro2] 23))
  have HM0 := Lib.hid (Lm4.ofAlloc (w.alloc (Obj.cells #[.int .i64 d, .int .i64 i, .int .i64 b, .int .i64 ro] 23)) d2 i2 b2 ro2)
  rw [show (w.alloc (Obj.cells #[.int .i64 d, .int .i64 i, .int .i64 b, .int .i64 ro] 23)).heap.size = w.heap.size + 1 by simp] at HM0
  clear hU hz
  go_enter Tryd.func7, Tryd.ntmps7
  go_wp2_with fail
  obtain ⟨B, hB⟩ : ∃ B, w.heap.size = B := ⟨_, rfl⟩
  rw [hB] at HL0 HM0
  rw [hB]
  obtain ⟨w0, hw0⟩ : ∃ w0, ((w.alloc (Obj.cells #[.int .i64 d, .int .i64 i, .int .i64 b, .int .i64 ro] 23)).alloc (Obj.cells #[.int .i64 d2, .int .i64 i2, .int .i64 b2, .int .i64 ro2] 23)) = w0 := ⟨_, rfl⟩
  rw [hw0] at HL0 HM0 HB0
  rw [hw0]
  have HBB := Lib.hid hB
  clear hw0 hB
  refine (WK.out _ (HU.out.at HB0.out)).mono ?_
  rintro e w1 ⟨rfl, hb1⟩
  have HB1 : Hid (Below w.heap.size w w1) := HB0.out.trans (hb1.mono HB0.out.size)
  have HL1 := Lib.hid (HL0.out.below hb1)
  have HM1 := Lib.hid (HM0.out.below hb1)
  clear hb1
  have l0 := HL1.out.at0.cell 0 _ rfl
  have l1 := HL1.out.at0.cell 1 _ rfl
  have l2 := HL1.out.at0.cell 2 _ rfl
  have l3 := HL1.out.at0.cell 3 _ rfl
  rw [Nat.zero_add] at l0 l1 l2 l3
  go_wp2_with fail
  refine (D1.out _ (HU.out.at HB1.out)).mono ?_
  rintro e w2 ⟨r, hr, v, rfl, ho, hb2⟩
  have HB2 : Hid (Below w.heap.size w w2) := HB1.out.trans (hb2.mono HB1.out.size)
  have HL2 := Lib.hid (HL1.out.below hb2)
  have HM2 := Lib.hid (HM1.out.below hb2)
  obtain ⟨a, c, rfl, ha⟩ := own_form ho
  clear l0 l1 l2 l3 ha hb2
  cases r with
  | no c0 q b0 =>
    have hc : ¬ c0 = 0 := by
      cases hm : mayOk d i b ro with
      | false => have h9 := hr.2 hm; cases h9; decide
      | true => exact Runs.ne (hr.1 hm) _ _ _ rfl
    rw [show decE (.no c0 q b0) = c0 from rfl, show decL (.no c0 q b0) = [] from rfl]
    clear ho hr
    go_wp2_with fail
    go_ret
    exact ⟨rfl, HB2.out⟩
  | ok l =>
    rw [show decE (.ok l) = 0 from rfl, show decL (.ok l) = l from rfl]
    have HJ := Lib.hid (just_of hr)
    have HS2 := Lib.hid (Sr.ofOwnA ho)
    rw [show decL (.ok l) = l from rfl] at HS2
    obtain ⟨n, hn⟩ : ∃ n, l.length = n := ⟨_, rfl⟩
    rw [hn] at HS2
    rw [hn]
    have HN := Lib.hid hn
    clear ho hr hn
    have l0 := HL2.out.at0.cell 0 _ rfl
    have l1 := HL2.out.at0.cell 1 _ rfl
    have l2 := HL2.out.at0.cell 2 _ rfl
    have l3 := HL2.out.at0.cell 3 _ rfl
    rw [Nat.zero_add] at l0 l1 l2 l3
    have m0 := HM2.out.at0.cell 0 _ rfl
    have m1 := HM2.out.at0.cell 1 _ rfl
    have m2 := HM2.out.at0.cell 2 _ rfl
    have m3 := HM2.out.at0.cell 3 _ rfl
    rw [Nat.zero_add] at m0 m1 m2 m3
    obtain ⟨gd, hgd⟩ : ∃ x, max d d2 = x := ⟨_, rfl⟩
    obtain ⟨gi, hgi⟩ : ∃ x, max i i2 = x := ⟨_, rfl⟩
    obtain ⟨gb, hgb⟩ : ∃ x, max b b2 = x := ⟨_, rfl⟩
    obtain ⟨gr, hgr⟩ : ∃ x, max ro ro2 = x := ⟨_, rfl⟩
    go_wp2_with fail
    -- REST
    obtain ⟨mg, hmg⟩ : ∃ m, mayOk gd gi gb gr = m := ⟨_, rfl⟩
    have MG := Lib.hid (fun w' => MA.out gd gi gb gr w')
    rw [hmg] at MG
    have HBa : Hid (Below w.heap.size w (w2.alloc (Obj.cells #[.int .i64 gd, .int .i64 gi, .int .i64 gb, .int .i64 gr] 23))) := HB2.out.alloc HB2.out.size _
    have HLa := Lib.hid (HL2.out.alloc (Obj.cells #[.int .i64 gd, .int .i64 gi, .int .i64 gb, .int .i64 gr] 23))
    have HGa := Lib.hid (Lm4.ofAlloc w2 gd gi gb gr)
    have HSa := Lib.hid (HS2.out.below ((Below.refl _ _).alloc (Nat.le_refl _) (Obj.cells #[.int .i64 gd, .int .i64 gi, .int .i64 gb, .int .i64 gr] 23)))
    have HG := Lib.hid (And.intro hmg (show RunsC s.toList (limL gd gi gb) (.el [] [] 0) (.ok l) from HJ.out.great (by omega) (by omega) (by omega)))
    have hn4 : n ≤ 4096 := by have h1 := HJ.out.len; have h2 := HJ.out.may; have h3 := HN.out; omega
    have SA := Lib.hid (fun v u w' (h1 : Sr w' v (l.map up)) (h2 : Sr w' u (l.map up)) => csame_any (l.map up) (l.map up) v u w' h1 h2 (by rw [List.length_map, HN.out]; omega) (by rw [List.length_map, HN.out]; omega))
    rw [decide_eq_true rfl] at SA
    have HF : Hid (mayOk d n s.size 1 = true ∧ RunsC s.toList (limL d n s.size) (.el [] [] 0) (.ok l) ∧ 1 ≤ n ∧ n ≤ 4096) := by
      have h1 := HJ.out.len
      have h2 := HJ.out.may
      have h3 := HJ.out.size
      rw [HN.out] at h1
      refine ⟨mayOk_in (by omega), ?_, by omega, hn4⟩
      have h4 := HJ.out.just
      rw [HN.out] at h4
      exact h4
    clear l0 l1 l2 l3 m0 m1 m2 m3 hgd hgi hgb hgr hmg hn4
    refine (MG.out _).mono ?_
    rintro e w3 ⟨rfl, hb3⟩
    have HB3 : Hid (Below w.heap.size w w3) := HBa.out.trans (hb3.mono HBa.out.size)
    have HL3 := Lib.hid (HLa.out.below hb3)
    have HG3 := Lib.hid (HGa.out.below hb3)
    have HS3 := Lib.hid (HSa.out.below hb3)
    clear hb3 HLa HGa HSa HBa
    obtain ⟨Ga, hGa⟩ : ∃ Ga, w2.heap.size = Ga := ⟨_, rfl⟩
    rw [hGa] at HG3
    rw [hGa]
    clear hGa
    cases mg with
    | true =>
      have l0 := HG3.out.at0.cell 0 _ rfl
      have l1 := HG3.out.at0.cell 1 _ rfl
      have l2 := HG3.out.at0.cell 2 _ rfl
      have l3 := HG3.out.at0.cell 3 _ rfl
      rw [Nat.zero_add] at l0 l1 l2 l3
      go_wp2_with fail
      refine (D2.out gd gi gb gr _ (HU.out.at HB3.out) (.ok l) HG.out.1 HG.out.2).mono ?_
      rintro e w4 ⟨v4, rfl, HS4, hb4⟩
      have HB4 : Hid (Below w.heap.size w w4) := HB3.out.trans (hb4.out.mono HB3.out.size)
      have HSl4 := Lib.hid (HS3.out.below hb4.out)
      have HL4 := Lib.hid (HL3.out.below hb4.out)
      clear hb4 l0 l1 l2 l3
      rw [show decE (.ok l) = 0 from rfl, show decL (.ok l) = l from rfl] at *
      go_upto_region 11 with (first | (go_at_call 17; refine (SA.out _ _ _ HSl4.out HS4.out).mono ?_; rintro e wj ⟨rfl, hbj⟩; have HBj : Hid (Below w.heap.size w wj) := HB4.out.trans (hbj.mono HB4.out.size); have HLj := Lib.hid (HL4.out.below hbj); have HSj := Lib.hid (HSl4.out.below hbj)))
      have j0 := HLj.out.at0.cell 0 _ rfl
      rw [Nat.zero_add] at j0
      have HAj := Lib.hid (Lm4.ofAlloc wj d n s.size 1)
      have HBk : Hid (Below w.heap.size w (wj.alloc (Obj.cells #[.int .i64 d, .int .i64 n, .int .i64 s.size, .int .i64 1] 23))) := HBj.out.alloc HBj.out.size _
      have HSk : Hid (Sr (wj.alloc (Obj.cells #[.int .i64 d, .int .i64 n, .int .i64 s.size, .int .i64 1] 23)) (.slice a n c) (l.map up)) := HSj.out.below ((Below.refl _ _).alloc (Nat.le_refl _) _)
      go_wp2_with fail
      refine (D2.out d n s.size 1 _ (HU.out.at HBk.out) (.ok l) HF.out.1 HF.out.2.1).mono ?_
      rintro e w5 ⟨v5, rfl, HS5, hb5⟩
      have HB5 : Hid (Below w.heap.size w w5) := HBk.out.trans (hb5.out.mono HBk.out.size)
      have HSl5 : Hid (Sr w5 (.slice a n c) (l.map up)) := HSk.out.below hb5.out
      have HA5 := Lib.hid (HAj.out.below hb5.out)
      clear hb5 HAj HBk HSk j0
      rw [show decE (.ok l) = 0 from rfl]
      obtain ⟨w6, hw6⟩ : ∃ x, x = w5 := ⟨_, rfl⟩
      subst hw6
      have HB6 := HB5
      have HA6 := HA5
      have HS6 := HS5
      have HSl6 := Lib.hid HSl5.out
      go_wp2_with fail
      obtain ⟨J, hJ⟩ : ∃ J, wj.heap.size = J := ⟨_, rfl⟩
      rw [hJ] at HA6
      rw [hJ]
      have f0 := HA6.out.at0.cell 0 _ rfl
      have f1 := HA6.out.at0.cell 1 _ rfl
      have f2 := HA6.out.at0.cell 2 _ rfl
      have f3 := HA6.out.at0.cell 3 _ rfl
      rw [Nat.zero_add] at f0 f1 f2 f3
      go_cut [18, 19] from 92 to 93 (fun v1 v2 wx => ∃ F E : Nat, v1 = .pointer (some ⟨F, 0, none⟩) ∧ v2 = .pointer (some ⟨E, 0, none⟩) ∧ F ≠ E ∧ Hid (Lm4 wx F d n s.size 1) ∧ Hid (Lm4 wx E d n s.size 1) ∧ w.heap.size ≤ F ∧ w.heap.size ≤ E ∧ Hid (Below w.heap.size w wx) ∧ w6.heap.size ≤ F ∧ w6.heap.size ≤ E ∧ Hid (Below w6.heap.size w6 wx))
      case first =>
        have g0 : ∀ (ob : Obj), (w6.alloc ob).cell? ⟨J, 0, none⟩ = some (.int .i64 d) := fun ob => by have h := (HA6.out.at0.alloc ob).cell 0 _ rfl; rw [Nat.zero_add] at h; exact h
        have g1 : ∀ (ob : Obj), (w6.alloc ob).cell? ⟨J, 1, none⟩ = some (.int .i64 (n : Int)) := fun ob => (HA6.out.at0.alloc ob).cell 1 _ rfl
        have g2 : ∀ (ob : Obj), (w6.alloc ob).cell? ⟨J, 2, none⟩ = some (.int .i64 (s.size : Int)) := fun ob => (HA6.out.at0.alloc ob).cell 2 _ rfl
        have g3 : ∀ (ob : Obj), (w6.alloc ob).cell? ⟨J, 3, none⟩ = some (.int .i64 1) := fun ob => (HA6.out.at0.alloc ob).cell 3 _ rfl
        have k0 : ∀ (ob ob2 : Obj), ((w6.alloc ob).alloc ob2).cell? ⟨J, 0, none⟩ = some (.int .i64 d) := fun ob ob2 => by have h := ((HA6.out.at0.alloc ob).alloc ob2).cell 0 _ rfl; rw [Nat.zero_add] at h; exact h
        have k1 : ∀ (ob ob2 : Obj), ((w6.alloc ob).alloc ob2).cell? ⟨J, 1, none⟩ = some (.int .i64 (n : Int)) := fun ob ob2 => ((HA6.out.at0.alloc ob).alloc ob2).cell 1 _ rfl
        have k2 : ∀ (ob ob2 : Obj), ((w6.alloc ob).alloc ob2).cell? ⟨J, 2, none⟩ = some (.int .i64 (s.size : Int)) := fun ob ob2 => ((HA6.out.at0.alloc ob).alloc ob2).cell 2 _ rfl
        have k3 : ∀ (ob ob2 : Obj), ((w6.alloc ob).alloc ob2).cell? ⟨J, 3, none⟩ = some (.int .i64 1) := fun ob ob2 => ((HA6.out.at0.alloc ob).alloc ob2).cell 3 _ rfl
        have P1 := Lib.hid ((Lm4.ofAlloc w6 d n s.size 1).alloc (Obj.cells #[.int .i64 d, .int .i64 (n : Int), .int .i64 (s.size : Int), .int .i64 1] 23))
        have P2 := Lib.hid (Lm4.ofAlloc (w6.alloc (Obj.cells #[.int .i64 d, .int .i64 (n : Int), .int .i64 (s.size : Int), .int .i64 1] 23)) d n s.size 1)
        rw [show (w6.alloc (Obj.cells #[.int .i64 d, .int .i64 (n : Int), .int .i64 (s.size : Int), .int .i64 1] 23)).heap.size = w6.heap.size + 1 by simp] at P2
        go_region
        all_goals
          go_wp2_with fail
          go_meet
          case rel => first
            | exact ⟨w6.heap.size, w6.heap.size + 1, rfl, rfl, by omega, ⟨P1.out.at0.drew, P1.out.lt⟩, ⟨P2.out.at0.drew, P2.out.lt⟩, HB6.out.size, by have := HB6.out.size; omega, ((HB6.out.alloc HB6.out.size _).alloc (by have := HB6.out.size; simp; omega) _).drew, Nat.le_refl _, by omega, (((Below.refl w6.heap.size w6).alloc (Nat.le_refl _) _).alloc (by simp) _).drew⟩
            | exact ⟨w6.heap.size + 1, w6.heap.size, rfl, rfl, by omega, ⟨P2.out.at0.drew, P2.out.lt⟩, ⟨P1.out.at0.drew, P1.out.lt⟩, by have := HB6.out.size; omega, HB6.out.size, ((HB6.out.alloc HB6.out.size _).alloc (by have := HB6.out.size; simp; omega) _).drew, by omega, Nat.le_refl _, (((Below.refl w6.heap.size w6).alloc (Nat.le_refl _) _).alloc (by simp) _).drew⟩
      case rest =>
        obtain ⟨F, E, rfl, rfl, hne, HF7, HE7, hF, hE, HB7, hF6, hE6, HB76⟩ := hcut
        obtain ⟨k, hk⟩ : ∃ k, k + 1 = n := ⟨n - 1, by have := HF.out.2.2.1; omega⟩
        obtain ⟨q, hq⟩ : ∃ q, q + 1 = s.size := ⟨s.size - 1, by have := HJ.out.size; omega⟩
        have e1 : (n : Int) - 1 = (k : Int) := by omega
        have e2 : (s.size : Int) - 1 = (q : Int) := by omega
        have e3 : IntKind.i64.wrap (k : Int) = (k : Int) := wrap_fit k (by have := HF.out.2.2.2; unfold maxLen; omega)
        have e4 : IntKind.i64.wrap (q : Int) = (q : Int) := wrap_fit q (by have := HZ.out; unfold maxLen; omega)
        have FE := Lib.hid (fun w' hU => few_any HJ.out k (by rw [HN.out]; exact hk) w' HZ.out hU)
        have LE := Lib.hid (fun w' hU => less_any HJ.out q hq w' HZ.out hU)
        rw [HN.out] at LE
        clear f0 f1 f2 f3
        have f0 := HF7.out.at0.cell 0 _ rfl
        have f1 := HF7.out.at0.cell 1 _ rfl
        have f2 := HF7.out.at0.cell 2 _ rfl
        have f3 := HF7.out.at0.cell 3 _ rfl
        have z1 := HF7.out.at0.froz 1 (Nat.le_of_ble_eq_true rfl)
        have g0 := HE7.out.at0.cell 0 _ rfl
        have g1 := HE7.out.at0.cell 1 _ rfl
        have g2 := HE7.out.at0.cell 2 _ rfl
        have g3 := HE7.out.at0.cell 3 _ rfl
        have z2 := HE7.out.at0.froz 2 (Nat.le_of_ble_eq_true rfl)
        rw [Nat.zero_add] at f0 f1 f2 f3 g0 g1 g2 g3 z1 z2
        have hne2 : ¬ F = E := hne
        have hne3 : ¬ E = F := fun h => hne h.symm
        have HBz : Hid (Below w.heap.size w ((wc.setCell ⟨F, 1, none⟩ (.int .i64 (k : Int))).setCell ⟨E, 2, none⟩ (.int .i64 (q : Int)))) := (HB7.out.setCell (p := ⟨F, 1, none⟩) hF _).setCell (p := ⟨E, 2, none⟩) hE _
        have HFz : Hid (Lm4 ((wc.setCell ⟨F, 1, none⟩ (.int .i64 (k : Int))).setCell ⟨E, 2, none⟩ (.int .i64 (q : Int))) F d k s.size 1) := ⟨(HF7.out.at0.set 1 _).other E 2 _ (.inl hne3), by simp [World.setCell]; exact HF7.out.lt⟩
        have HEz : Hid (Lm4 ((wc.setCell ⟨F, 1, none⟩ (.int .i64 (k : Int))).setCell ⟨E, 2, none⟩ (.int .i64 (q : Int))) E d n q 1) := ⟨(HE7.out.at0.other F 1 _ (.inl hne2)).set 2 _, by simp [World.setCell]; exact HE7.out.lt⟩
        have HBz6 : Hid (Below w6.heap.size w6 ((wc.setCell ⟨F, 1, none⟩ (.int .i64 (k : Int))).setCell ⟨E, 2, none⟩ (.int .i64 (q : Int)))) := (HB76.out.setCell (p := ⟨F, 1, none⟩) hF6 _).setCell (p := ⟨E, 2, none⟩) hE6 _
        have HKQ := Lib.hid (And.intro hk hq)
        clear hk hq hne
        go_wp2_with fail
        refine (FE.out _ (HU.out.at HBz.out)).mono ?_
        rintro e w8 ⟨v8, p8, c8, rfl, h8, hb8⟩
        have HB8 : Hid (Below w.heap.size w w8) := HBz.out.trans (hb8.out.mono HBz.out.size)
        have HB86 : Hid (Below w6.heap.size w6 w8) := HBz6.out.trans (hb8.out.mono HBz6.out.size)
        have HF8 := Lib.hid (HFz.out.below hb8.out)
        have HE8 := Lib.hid (HEz.out.below hb8.out)
        have H8 := Lib.hid h8
        clear f0 f1 f2 f3 g0 g1 g2 g3 z1 z2 hb8 h8
        have g0 := HE8.out.at0.cell 0 _ rfl
        have g1 := HE8.out.at0.cell 1 _ rfl
        have g2 := HE8.out.at0.cell 2 _ rfl
        have g3 := HE8.out.at0.cell 3 _ rfl
        rw [Nat.zero_add] at g0 g1 g2 g3
        go_wp2_with fail
        refine (LE.out _ (HU.out.at HB8.out)).mono ?_
        rintro e w9 ⟨v9, p9, c9, rfl, h9, hb9⟩
        have HB9 : Hid (Below w.heap.size w w9) := HB8.out.trans (hb9.out.mono HB8.out.size)
        have HB96 : Hid (Below w6.heap.size w6 w9) := HB86.out.trans (hb9.out.mono HB86.out.size)
        have HF9 := Lib.hid (HF8.out.below hb9.out)
        have HE9 := Lib.hid (HE8.out.below hb9.out)
        have HSl9 := Lib.hid (HSl6.out.below HB96.out)
        have HS9 := Lib.hid (HS6.out.below HB96.out)
        clear g0 g1 g2 g3
        have h8 := H8.out
        clear hb9
        by_cases k1 : k < 1
        · have e5 : (k : Int) < 1 := by omega
          by_cases q1 : q < 1
          · have e6 : (q : Int) < 1 := by omega
            clear h8 h9 k1 q1
            go_wp2_with (first | (go_at_call 17; refine (SA.out _ _ _ HSl9.out HS9.out).mono ?_; rintro e w10 ⟨rfl, hb10⟩; have HB10 : Hid (Below w.heap.size w w10) := HB9.out.trans (hb10.mono HB9.out.size); have f1 := (HF9.out.below hb10).at0.cell 1 _ rfl; have g2 := (HE9.out.below hb10).at0.cell 2 _ rfl; rw [Nat.zero_add] at f1 g2))
            go_ret
            exact ⟨rfl, HB10.out⟩
          · have e6 : ¬ (q : Int) < 1 := by omega
            obtain ⟨rfl, rfl⟩ := h9.resolve_left q1
            clear h8 h9 k1 q1
            go_wp2_with (first | (go_at_call 17; refine (SA.out _ _ _ HSl9.out HS9.out).mono ?_; rintro e w10 ⟨rfl, hb10⟩; have HB10 : Hid (Below w.heap.size w w10) := HB9.out.trans (hb10.mono HB9.out.size); have f1 := (HF9.out.below hb10).at0.cell 1 _ rfl; have g2 := (HE9.out.below hb10).at0.cell 2 _ rfl; rw [Nat.zero_add] at f1 g2))
            go_ret
            exact ⟨rfl, HB10.out⟩
        · have e5 : ¬ (k : Int) < 1 := by omega
          obtain rfl := h8.resolve_left k1
          by_cases q1 : q < 1
          · have e6 : (q : Int) < 1 := by omega
            clear h8 h9 k1 q1
            go_wp2_with (first | (go_at_call 17; refine (SA.out _ _ _ HSl9.out HS9.out).mono ?_; rintro e w10 ⟨rfl, hb10⟩; have HB10 : Hid (Below w.heap.size w w10) := HB9.out.trans (hb10.mono HB9.out.size); have f1 := (HF9.out.below hb10).at0.cell 1 _ rfl; have g2 := (HE9.out.below hb10).at0.cell 2 _ rfl; rw [Nat.zero_add] at f1 g2))
            go_ret
            exact ⟨rfl, HB10.out⟩
          · have e6 : ¬ (q : Int) < 1 := by omega
            obtain ⟨rfl, rfl⟩ := h9.resolve_left q1
            clear h8 h9 k1 q1
            go_wp2_with (first | (go_at_call 17; refine (SA.out _ _ _ HSl9.out HS9.out).mono ?_; rintro e w10 ⟨rfl, hb10⟩; have HB10 : Hid (Below w.heap.size w w10) := HB9.out.trans (hb10.mono HB9.out.size); have f1 := (HF9.out.below hb10).at0.cell 1 _ rfl; have g2 := (HE9.out.below hb10).at0.cell 2 _ rfl; rw [Nat.zero_add] at f1 g2))
            go_ret
            exact ⟨rfl, HB10.out⟩
    | false =>
      obtain ⟨wj, hwj⟩ : ∃ x, x = w3 := ⟨_, rfl⟩
      subst hwj
      have HBj := HB3
      have HLj := HL3
      have HSj := HS3
      have j0 := HLj.out.at0.cell 0 _ rfl
      rw [Nat.zero_add] at j0
      have HAj := Lib.hid (Lm4.ofAlloc wj d n s.size 1)
      have HBk : Hid (Below w.heap.size w (wj.alloc (Obj.cells #[.int .i64 d, .int .i64 n, .int .i64 s.size, .int .i64 1] 23))) := HBj.out.alloc HBj.out.size _
      have HSk : Hid (Sr (wj.alloc (Obj.cells #[.int .i64 d, .int .i64 n, .int .i64 s.size, .int .i64 1] 23)) (.slice a n c) (l.map up)) := HSj.out.below ((Below.refl _ _).alloc (Nat.le_refl _) _)
      go_wp2_with fail
      refine (D2.out d n s.size 1 _ (HU.out.at HBk.out) (.ok l) HF.out.1 HF.out.2.1).mono ?_
      rintro e w5 ⟨v5, rfl, HS5, hb5⟩
      have HB5 : Hid (Below w.heap.size w w5) := HBk.out.trans (hb5.out.mono HBk.out.size)
      have HSl5 : Hid (Sr w5 (.slice a n c) (l.map up)) := HSk.out.below hb5.out
      have HA5 := Lib.hid (HAj.out.below hb5.out)
      clear hb5 HAj HBk HSk j0
      rw [show decE (.ok l) = 0 from rfl]
      obtain ⟨w6, hw6⟩ : ∃ x, x = w5 := ⟨_, rfl⟩
      subst hw6
      have HB6 := HB5
      have HA6 := HA5
      have HS6 := HS5
      have HSl6 := Lib.hid HSl5.out
      go_wp2_with fail
      obtain ⟨J, hJ⟩ : ∃ J, wj.heap.size = J := ⟨_, rfl⟩
      rw [hJ] at HA6
      rw [hJ]
      have f0 := HA6.out.at0.cell 0 _ rfl
      have f1 := HA6.out.at0.cell 1 _ rfl
      have f2 := HA6.out.at0.cell 2 _ rfl
      have f3 := HA6.out.at0.cell 3 _ rfl
      rw [Nat.zero_add] at f0 f1 f2 f3
      go_cut [18, 19] from 92 to 93 (fun v1 v2 wx => ∃ F E : Nat, v1 = .pointer (some ⟨F, 0, none⟩) ∧ v2 = .pointer (some ⟨E, 0, none⟩) ∧ F ≠ E ∧ Hid (Lm4 wx F d n s.size 1) ∧ Hid (Lm4 wx E d n s.size 1) ∧ w.heap.size ≤ F ∧ w.heap.size ≤ E ∧ Hid (Below w.heap.size w wx) ∧ w6.heap.size ≤ F ∧ w6.heap.size ≤ E ∧ Hid (Below w6.heap.size w6 wx))
      case first =>
        have g0 : ∀ (ob : Obj), (w6.alloc ob).cell? ⟨J, 0, none⟩ = some (.int .i64 d) := fun ob => by have h := (HA6.out.at0.alloc ob).cell 0 _ rfl; rw [Nat.zero_add] at h; exact h
        have g1 : ∀ (ob : Obj), (w6.alloc ob).cell? ⟨J, 1, none⟩ = some (.int .i64 (n : Int)) := fun ob => (HA6.out.at0.alloc ob).cell 1 _ rfl
        have g2 : ∀ (ob : Obj), (w6.alloc ob).cell? ⟨J, 2, none⟩ = some (.int .i64 (s.size : Int)) := fun ob => (HA6.out.at0.alloc ob).cell 2 _ rfl
        have g3 : ∀ (ob : Obj), (w6.alloc ob).cell? ⟨J, 3, none⟩ = some (.int .i64 1) := fun ob => (HA6.out.at0.alloc ob).cell 3 _ rfl
        have k0 : ∀ (ob ob2 : Obj), ((w6.alloc ob).alloc ob2).cell? ⟨J, 0, none⟩ = some (.int .i64 d) := fun ob ob2 => by have h := ((HA6.out.at0.alloc ob).alloc ob2).cell 0 _ rfl; rw [Nat.zero_add] at h; exact h
        have k1 : ∀ (ob ob2 : Obj), ((w6.alloc ob).alloc ob2).cell? ⟨J, 1, none⟩ = some (.int .i64 (n : Int)) := fun ob ob2 => ((HA6.out.at0.alloc ob).alloc ob2).cell 1 _ rfl
        have k2 : ∀ (ob ob2 : Obj), ((w6.alloc ob).alloc ob2).cell? ⟨J, 2, none⟩ = some (.int .i64 (s.size : Int)) := fun ob ob2 => ((HA6.out.at0.alloc ob).alloc ob2).cell 2 _ rfl
        have k3 : ∀ (ob ob2 : Obj), ((w6.alloc ob).alloc ob2).cell? ⟨J, 3, none⟩ = some (.int .i64 1) := fun ob ob2 => ((HA6.out.at0.alloc ob).alloc ob2).cell 3 _ rfl
        have P1 := Lib.hid ((Lm4.ofAlloc w6 d n s.size 1).alloc (Obj.cells #[.int .i64 d, .int .i64 (n : Int), .int .i64 (s.size : Int), .int .i64 1] 23))
        have P2 := Lib.hid (Lm4.ofAlloc (w6.alloc (Obj.cells #[.int .i64 d, .int .i64 (n : Int), .int .i64 (s.size : Int), .int .i64 1] 23)) d n s.size 1)
        rw [show (w6.alloc (Obj.cells #[.int .i64 d, .int .i64 (n : Int), .int .i64 (s.size : Int), .int .i64 1] 23)).heap.size = w6.heap.size + 1 by simp] at P2
        go_region
        all_goals
          go_wp2_with fail
          go_meet
          case rel => first
            | exact ⟨w6.heap.size, w6.heap.size + 1, rfl, rfl, by omega, ⟨P1.out.at0.drew, P1.out.lt⟩, ⟨P2.out.at0.drew, P2.out.lt⟩, HB6.out.size, by have := HB6.out.size; omega, ((HB6.out.alloc HB6.out.size _).alloc (by have := HB6.out.size; simp; omega) _).drew, Nat.le_refl _, by omega, (((Below.refl w6.heap.size w6).alloc (Nat.le_refl _) _).alloc (by simp) _).drew⟩
            | exact ⟨w6.heap.size + 1, w6.heap.size, rfl, rfl, by omega, ⟨P2.out.at0.drew, P2.out.lt⟩, ⟨P1.out.at0.drew, P1.out.lt⟩, by have := HB6.out.size; omega, HB6.out.size, ((HB6.out.alloc HB6.out.size _).alloc (by have := HB6.out.size; simp; omega) _).drew, by omega, Nat.le_refl _, (((Below.refl w6.heap.size w6).alloc (Nat.le_refl _) _).alloc (by simp) _).drew⟩
      case rest =>
        obtain ⟨F, E, rfl, rfl, hne, HF7, HE7, hF, hE, HB7, hF6, hE6, HB76⟩ := hcut
        obtain ⟨k, hk⟩ : ∃ k, k + 1 = n := ⟨n - 1, by have := HF.out.2.2.1; omega⟩
        obtain ⟨q, hq⟩ : ∃ q, q + 1 = s.size := ⟨s.size - 1, by have := HJ.out.size; omega⟩
        have e1 : (n : Int) - 1 = (k : Int) := by omega
        have e2 : (s.size : Int) - 1 = (q : Int) := by omega
        have e3 : IntKind.i64.wrap (k : Int) = (k : Int) := wrap_fit k (by have := HF.out.2.2.2; unfold maxLen; omega)
        have e4 : IntKind.i64.wrap (q : Int) = (q : Int) := wrap_fit q (by have := HZ.out; unfold maxLen; omega)
        have FE := Lib.hid (fun w' hU => few_any HJ.out k (by rw [HN.out]; exact hk) w' HZ.out hU)
        have LE := Lib.hid (fun w' hU => less_any HJ.out q hq w' HZ.out hU)
        rw [HN.out] at LE
        clear f0 f1 f2 f3
        have f0 := HF7.out.at0.cell 0 _ rfl
        have f1 := HF7.out.at0.cell 1 _ rfl
        have f2 := HF7.out.at0.cell 2 _ rfl
        have f3 := HF7.out.at0.cell 3 _ rfl
        have z1 := HF7.out.at0.froz 1 (Nat.le_of_ble_eq_true rfl)
        have g0 := HE7.out.at0.cell 0 _ rfl
        have g1 := HE7.out.at0.cell 1 _ rfl
        have g2 := HE7.out.at0.cell 2 _ rfl
        have g3 := HE7.out.at0.cell 3 _ rfl
        have z2 := HE7.out.at0.froz 2 (Nat.le_of_ble_eq_true rfl)
        rw [Nat.zero_add] at f0 f1 f2 f3 g0 g1 g2 g3 z1 z2
        have hne2 : ¬ F = E := hne
        have hne3 : ¬ E = F := fun h => hne h.symm
        have HBz : Hid (Below w.heap.size w ((wc.setCell ⟨F, 1, none⟩ (.int .i64 (k : Int))).setCell ⟨E, 2, none⟩ (.int .i64 (q : Int)))) := (HB7.out.setCell (p := ⟨F, 1, none⟩) hF _).setCell (p := ⟨E, 2, none⟩) hE _
        have HFz : Hid (Lm4 ((wc.setCell ⟨F, 1, none⟩ (.int .i64 (k : Int))).setCell ⟨E, 2, none⟩ (.int .i64 (q : Int))) F d k s.size 1) := ⟨(HF7.out.at0.set 1 _).other E 2 _ (.inl hne3), by simp [World.setCell]; exact HF7.out.lt⟩
        have HEz : Hid (Lm4 ((wc.setCell ⟨F, 1, none⟩ (.int .i64 (k : Int))).setCell ⟨E, 2, none⟩ (.int .i64 (q : Int))) E d n q 1) := ⟨(HE7.out.at0.other F 1 _ (.inl hne2)).set 2 _, by simp [World.setCell]; exact HE7.out.lt⟩
        have HBz6 : Hid (Below w6.heap.size w6 ((wc.setCell ⟨F, 1, none⟩ (.int .i64 (k : Int))).setCell ⟨E, 2, none⟩ (.int .i64 (q : Int)))) := (HB76.out.setCell (p := ⟨F, 1, none⟩) hF6 _).setCell (p := ⟨E, 2, none⟩) hE6 _
        have HKQ := Lib.hid (And.intro hk hq)
        clear hk hq hne
        go_wp2_with fail
        refine (FE.out _ (HU.out.at HBz.out)).mono ?_
        rintro e w8 ⟨v8, p8, c8, rfl, h8, hb8⟩
        have HB8 : Hid (Below w.heap.size w w8) := HBz.out.trans (hb8.out.mono HBz.out.size)
        have HB86 : Hid (Below w6.heap.size w6 w8) := HBz6.out.trans (hb8.out.mono HBz6.out.size)
        have HF8 := Lib.hid (HFz.out.below hb8.out)
        have HE8 := Lib.hid (HEz.out.below hb8.out)
        have H8 := Lib.hid h8
        clear f0 f1 f2 f3 g0 g1 g2 g3 z1 z2 hb8 h8
        have g0 := HE8.out.at0.cell 0 _ rfl
        have g1 := HE8.out.at0.cell 1 _ rfl
        have g2 := HE8.out.at0.cell 2 _ rfl
        have g3 := HE8.out.at0.cell 3 _ rfl
        rw [Nat.zero_add] at g0 g1 g2 g3
        go_wp2_with fail
        refine (LE.out _ (HU.out.at HB8.out)).mono ?_
        rintro e w9 ⟨v9, p9, c9, rfl, h9, hb9⟩
        have HB9 : Hid (Below w.heap.size w w9) := HB8.out.trans (hb9.out.mono HB8.out.size)
        have HB96 : Hid (Below w6.heap.size w6 w9) := HB86.out.trans (hb9.out.mono HB86.out.size)
        have HF9 := Lib.hid (HF8.out.below hb9.out)
        have HE9 := Lib.hid (HE8.out.below hb9.out)
        have HSl9 := Lib.hid (HSl6.out.below HB96.out)
        have HS9 := Lib.hid (HS6.out.below HB96.out)
        clear g0 g1 g2 g3
        have h8 := H8.out
        clear hb9
        by_cases k1 : k < 1
        · have e5 : (k : Int) < 1 := by omega
          by_cases q1 : q < 1
          · have e6 : (q : Int) < 1 := by omega
            clear h8 h9 k1 q1
            go_wp2_with (first | (go_at_call 17; refine (SA.out _ _ _ HSl9.out HS9.out).mono ?_; rintro e w10 ⟨rfl, hb10⟩; have HB10 : Hid (Below w.heap.size w w10) := HB9.out.trans (hb10.mono HB9.out.size); have f1 := (HF9.out.below hb10).at0.cell 1 _ rfl; have g2 := (HE9.out.below hb10).at0.cell 2 _ rfl; rw [Nat.zero_add] at f1 g2))
            go_ret
            exact ⟨rfl, HB10.out⟩
          · have e6 : ¬ (q : Int) < 1 := by omega
            obtain ⟨rfl, rfl⟩ := h9.resolve_left q1
            clear h8 h9 k1 q1
            go_wp2_with (first | (go_at_call 17; refine (SA.out _ _ _ HSl9.out HS9.out).mono ?_; rintro e w10 ⟨rfl, hb10⟩; have HB10 : Hid (Below w.heap.size w w10) := HB9.out.trans (hb10.mono HB9.out.size); have f1 := (HF9.out.below hb10).at0.cell 1 _ rfl; have g2 := (HE9.out.below hb10).at0.cell 2 _ rfl; rw [Nat.zero_add] at f1 g2))
            go_ret
            exact ⟨rfl, HB10.out⟩
        · have e5 : ¬ (k : Int) < 1 := by omega
          obtain rfl := h8.resolve_left k1
          by_cases q1 : q < 1
          · have e6 : (q : Int) < 1 := by omega
            clear h8 h9 k1 q1
            go_wp2_with (first | (go_at_call 17; refine (SA.out _ _ _ HSl9.out HS9.out).mono ?_; rintro e w10 ⟨rfl, hb10⟩; have HB10 : Hid (Below w.heap.size w w10) := HB9.out.trans (hb10.mono HB9.out.size); have f1 := (HF9.out.below hb10).at0.cell 1 _ rfl; have g2 := (HE9.out.below hb10).at0.cell 2 _ rfl; rw [Nat.zero_add] at f1 g2))
            go_ret
            exact ⟨rfl, HB10.out⟩
          · have e6 : ¬ (q : Int) < 1 := by omega
            obtain ⟨rfl, rfl⟩ := h9.resolve_left q1
            clear h8 h9 k1 q1
            go_wp2_with (first | (go_at_call 17; refine (SA.out _ _ _ HSl9.out HS9.out).mono ?_; rintro e w10 ⟨rfl, hb10⟩; have HB10 : Hid (Below w.heap.size w w10) := HB9.out.trans (hb10.mono HB9.out.size); have f1 := (HF9.out.below hb10).at0.cell 1 _ rfl; have g2 := (HE9.out.below hb10).at0.cell 2 _ rfl; rw [Nat.zero_add] at f1 g2))
            go_ret
            exact ⟨rfl, HB10.out⟩
end Co
end Go.Proofs.YteanipjgpekncaaDoor
