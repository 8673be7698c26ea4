/- Joined by merge.py: OctP OctQ OctA OctB OctC OctD OctE OctF. -/
import Derived.Test.YtflofbimecnakaaGreatRowX
namespace Go.Proofs.YtflofbimecnakaaGreat
open Go.RowKit
set_option linter.unusedVariables false
set_option linter.unusedSimpArgs false
def putF (m n i : Nat) : UInt8 := UInt8.ofNat (n / 256 ^ (m - 1 - i))
def be (m n : Nat) : List UInt8 := (List.range m).map (putF m n)
theorem be_length (m n : Nat) : (be m n).length = m := by simp [be]
theorem u8mod (x : Nat) : ((x : Int) % 256) = ((UInt8.ofNat x).toNat : Int) := by
  rw [UInt8.toNat_ofNat']
  omega
theorem div_step (n k : Nat) : n / 256 ^ k / 256 = n / 256 ^ (k + 1) := by rw [Nat.div_div_eq_div_mul, Nat.pow_succ]
theorem putF_at (m n k : Nat) (h : k < m) : putF m n (m - 1 - k) = UInt8.ofNat (n / 256 ^ k) := by
  unfold putF
  rw [show m - 1 - (m - 1 - k) = k by omega]
theorem pow8 (j : Nat) : 2 ^ (8 * j) = 256 ^ j := by rw [Nat.pow_mul]
theorem be_take (m n k : Nat) (h : k < m) : (be m n).take (k + 1) = (be m n).take k ++ [UInt8.ofNat (n / 256 ^ (m - 1 - k))] := by
  rw [List.take_add_one]
  simp [be, h, putF]
/-- the number of bytes, the highest first -/
def ofBe (l : List UInt8) : Nat := l.foldl (fun n b => n * 256 + b.toNat) 0
theorem ofBe_snoc (l : List UInt8) (b : UInt8) : ofBe (l ++ [b]) = ofBe l * 256 + b.toNat := by simp [ofBe]
theorem ofBe_lt (l : List UInt8) : ofBe l < 256 ^ l.length := by
  suffices h : ∀ (l : List UInt8) (x n : Nat), x < 256 ^ n → l.foldl (fun n b => n * 256 + b.toNat) x < 256 ^ (n + l.length) by
    have := h l 0 0 (by decide)
    simpa [ofBe] using this
  intro l
  induction l with
  | nil => intro x n h; simpa using h
  | cons b l ih =>
    intro x n h
    rw [List.foldl_cons, List.length_cons, show n + (l.length + 1) = (n + 1) + l.length by omega]
    refine ih _ _ ?_
    have hb := b.toNat_lt
    rw [Nat.pow_succ]
    have : (x + 1) * 256 ≤ 256 ^ n * 256 := Nat.mul_le_mul_right _ h
    omega
theorem ofBe_take (l : List UInt8) (k : Nat) (b : UInt8) (h : l[k]? = some b) : ofBe (l.take (k + 1)) = ofBe (l.take k) * 256 + b.toNat := by
  rw [List.take_add_one, h]
  exact ofBe_snoc _ _
theorem ofBe_be (m n : Nat) : ofBe (be m n) = n % 256 ^ m := by
  suffices h : ∀ k, k ≤ m → ofBe ((be m n).take k) = n / 256 ^ (m - k) % 256 ^ k by
    have := h m (Nat.le_refl _)
    rw [List.take_of_length_le (by rw [be_length]; exact Nat.le_refl _)] at this
    simpa using this
  intro k
  induction k with
  | zero => intro _; simp [ofBe, Nat.mod_one]
  | succ k ih =>
    intro hk
    rw [be_take m n k (by omega), ofBe_snoc, ih (by omega), UInt8.toNat_ofNat']
    have e1 : n / 256 ^ (m - k) = n / 256 ^ (m - 1 - k) / 256 := by rw [div_step, show m - 1 - k + 1 = m - k by omega]
    have e2 : m - (k + 1) = m - 1 - k := by omega
    rw [e1, e2]
    generalize n / 256 ^ (m - 1 - k) = y
    have e3 : (256 : Nat) ^ (k + 1) = 256 * 256 ^ k := by rw [Nat.pow_succ, Nat.mul_comm]
    rw [e3, Nat.mod_mul, show (2 : Nat) ^ 8 = 256 by decide]
    omega
def putOk (n : Nat) (m : Int) : Bool := decide (1 ≤ m ∧ m ≤ 8 ∧ n < 256 ^ m.toNat)
def putL (n : Nat) (m : Int) : List UInt8 := if putOk n m then be m.toNat n else []
def putE (n : Nat) (m : Int) : Int := if putOk n m then 0 else 2
def getOk (l : List UInt8) : Bool := decide (1 ≤ l.length ∧ l.length ≤ 8)
def getN (l : List UInt8) : Nat := if getOk l then ofBe l else 0
def getE (l : List UInt8) : Int := if getOk l then 0 else 6
theorem put_get (n : Nat) (m : Int) (h : putE n m = 0) : getE (putL n m) = 0 ∧ getN (putL n m) = n := by
  unfold putE at h
  split at h
  · rename_i hok
    have hk : 1 ≤ m ∧ m ≤ 8 ∧ n < 256 ^ m.toNat := by simpa [putOk] using hok
    have hl : putL n m = be m.toNat n := by simp [putL, hok]
    have hg : getOk (be m.toNat n) = true := by simp [getOk, be_length]; omega
    rw [hl]
    refine ⟨by simp [getE, hg], ?_⟩
    rw [getN, if_pos hg, ofBe_be, Nat.mod_eq_of_lt hk.2.2]
  · cases h
theorem or_join (x : Nat) (b : UInt8) (h : x < 72057594037927936) : bits .or .u64 ((x : Int) * 256) (b.toNat : Int) = ((x * 256 + b.toNat : Nat) : Int) := by
  have hb := b.toNat_lt
  have := u64_or_nat (x * 256) b.toNat (by omega) (by omega)
  rw [show ((x : Int) * 256) = ((x * 256 : Nat) : Int) by omega, this, nat_join 8 (x * 256) b.toNat (by omega) (by omega)]
theorem ofBe_lt7 (l : List UInt8) (k : Nat) (h : k < 8) : ofBe (l.take k) < 72057594037927936 := by
  have h1 := ofBe_lt (l.take k)
  have h2 : (l.take k).length ≤ 7 := by have := List.length_take_le k l; omega
  have h3 : 256 ^ (l.take k).length ≤ 256 ^ 7 := Nat.pow_le_pow_right (by omega) h2
  have h4 : (256 : Nat) ^ 7 = 72057594037927936 := by decide
  omega
theorem be_snoc (m x : Nat) (b : UInt8) : be (m + 1) (x * 256 + b.toNat) = be m x ++ [b] := by
  apply List.ext_getElem
  · simp [be]
  · intro i h1 h2
    have hi : i < m + 1 := by simpa [be] using h1
    have hb := b.toNat_lt
    by_cases e : i < m
    · rw [List.getElem_append_left (by rw [be_length]; exact e)]
      simp only [be, List.getElem_map, List.getElem_range, putF]
      have e1 : m + 1 - 1 - i = (m - 1 - i) + 1 := by omega
      rw [e1, Nat.pow_succ, Nat.mul_comm (256 ^ (m - 1 - i)) 256, ← Nat.div_div_eq_div_mul, show (x * 256 + b.toNat) / 256 = x by omega]
    · have e2 : i = m := by omega
      subst e2
      rw [List.getElem_append_right (by rw [be_length]; exact Nat.le_refl _)]
      simp only [be, List.getElem_map, List.getElem_range, putF, List.length_map, List.length_range, Nat.sub_self, List.getElem_cons_zero]
      rw [show i + 1 - 1 - i = 0 by omega]
      apply UInt8.toNat_inj.1
      rw [UInt8.toNat_ofNat']
      omega
theorem be_ofBe (l : List UInt8) : be l.length (ofBe l) = l := by
  suffices h : ∀ k, k ≤ l.length → be k (ofBe (l.take k)) = l.take k by
    have := h l.length (Nat.le_refl _)
    rwa [List.take_length] at this
  intro k
  induction k with
  | zero => intro _; simp [be]
  | succ k ih =>
    intro hk
    have hl : l[k]? = some l[k] := List.getElem?_eq_getElem (by omega)
    rw [ofBe_take l k _ hl, be_snoc, ih (by omega), List.take_add_one, hl]
    rfl
end Go.Proofs.YtflofbimecnakaaGreat
namespace Go.Proofs.YtflofbimecnakaaGreat
open Go.RowKit
set_option linter.unusedVariables false
set_option linter.unusedSimpArgs false
/-! ### Add -/
def oaddL (s : List UInt8) (n : Nat) : List UInt8 := be s.length (ofBe s + n)
theorem oaddL_length (s : List UInt8) (n : Nat) : (oaddL s n).length = s.length := be_length _ _
theorem digit (l : List UInt8) (k : Nat) (hk : k < l.length) : l[l.length - 1 - k]? = some (UInt8.ofNat (ofBe l / 256 ^ k)) := by
  have h : l[l.length - 1 - k]? = (be l.length (ofBe l))[l.length - 1 - k]? := by rw [be_ofBe]
  rw [h]
  simp only [be, List.getElem?_map]
  rw [List.getElem?_range (by omega)]
  simp only [Option.map_some, putF]
  rw [show l.length - 1 - (l.length - 1 - k) = k by omega]
/-- what is carried behind k places -/
def carry (S n k : Nat) : Nat := (S % 256 ^ k + n) / 256 ^ k
theorem carry_zero (S n : Nat) : carry S n 0 = n := by simp [carry, Nat.mod_one]
theorem carry_le (S n k : Nat) : carry S n k ≤ n := by
  unfold carry
  have hP : 0 < 256 ^ k := Nat.pow_pos (by decide)
  have hm := Nat.mod_lt S hP
  generalize 256 ^ k = P at *
  generalize S % P = r at *
  rcases n with _ | q
  · rw [Nat.div_eq_of_lt (by omega)]; exact Nat.le_refl _
  · apply Nat.div_le_of_le_mul
    obtain ⟨p, rfl⟩ : ∃ p, P = p + 1 := ⟨P - 1, by omega⟩
    rw [Nat.add_mul, Nat.mul_add]
    have : 0 ≤ p * q := Nat.zero_le _
    omega
theorem carry_step (S n k : Nat) : carry S n (k + 1) = (carry S n k + S / 256 ^ k % 256) / 256 := by
  unfold carry
  have hP : 0 < 256 ^ k := Nat.pow_pos (by decide)
  rw [Nat.pow_succ, Nat.mod_mul, ← Nat.div_div_eq_div_mul]
  generalize 256 ^ k = P at *
  rw [show S % P + P * (S / P % 256) + n = (S % P + n) + P * (S / P % 256) by omega, Nat.add_mul_div_left _ _ hP]
theorem sum_digit (S n k : Nat) : (S + n) / 256 ^ k = S / 256 ^ k + carry S n k := by
  unfold carry
  have hP : 0 < 256 ^ k := Nat.pow_pos (by decide)
  generalize 256 ^ k = P at *
  have h := Nat.div_add_mod S P
  have e : S + n = (S % P + n) + P * (S / P) := by omega
  rw [e, Nat.add_mul_div_left _ _ hP, Nat.add_comm]
/-- the byte that a step makes, the carry that it leaves -/
theorem add_byte (S n k : Nat) : UInt8.ofNat (S / 256 ^ k) + UInt8.ofNat (carry S n k) = UInt8.ofNat ((S + n) / 256 ^ k) := by
  rw [sum_digit, UInt8.ofNat_add]
theorem add_carry (S n k : Nat) : carry S n (k + 1) = carry S n k / 256 + (if (UInt8.ofNat ((S + n) / 256 ^ k)).toNat < (UInt8.ofNat (carry S n k)).toNat then 1 else 0) := by
  rw [carry_step, UInt8.toNat_ofNat', UInt8.toNat_ofNat', sum_digit]
  generalize carry S n k = c
  generalize S / 256 ^ k = d
  split <;> omega
theorem add_fill (s : List UInt8) (n : Nat) : (List.range s.length).map (putF s.length (ofBe s + n)) = oaddL s n := rfl
theorem be_mod (m x : Nat) : be m (x % 256 ^ m) = be m x := by
  have h1 := be_ofBe (be m x)
  rw [be_length, ofBe_be] at h1
  exact h1
theorem oaddL_addL (s : List UInt8) (n m : Nat) : oaddL (oaddL s n) m = oaddL s (n + m) := by
  unfold oaddL
  rw [be_length, ofBe_be]
  generalize s.length = L
  rw [← be_mod L (_ + m), Nat.mod_add_mod, be_mod, Nat.add_assoc]
/-- the document's carry -/
def rcarry (S n k : Nat) : Nat := (S % 256 ^ k + n % 256 ^ k) / 256 ^ k
theorem rcarry_zero (S n : Nat) : rcarry S n 0 = 0 := by simp [rcarry, Nat.mod_one]
theorem rcarry_le (S n k : Nat) : rcarry S n k ≤ 1 := by
  unfold rcarry
  have hP : 0 < 256 ^ k := Nat.pow_pos (by decide)
  have h1 := Nat.mod_lt S hP
  have h2 := Nat.mod_lt n hP
  generalize 256 ^ k = P at *
  apply Nat.le_of_lt_succ
  apply Nat.div_lt_of_lt_mul
  omega
theorem rcarry_step (S n k : Nat) : rcarry S n (k + 1) = (S / 256 ^ k % 256 + n / 256 ^ k % 256 + rcarry S n k) / 256 := by
  unfold rcarry
  have hP : 0 < 256 ^ k := Nat.pow_pos (by decide)
  rw [Nat.pow_succ, Nat.mod_mul, Nat.mod_mul, ← Nat.div_div_eq_div_mul]
  generalize 256 ^ k = P at *
  rw [show S % P + P * (S / P % 256) + (n % P + P * (n / P % 256)) = (S % P + n % P) + P * (S / P % 256 + n / P % 256) by rw [Nat.mul_add]; omega, Nat.add_mul_div_left _ _ hP]
  omega
theorem rsum_digit (S n k : Nat) : (S + n) / 256 ^ k = S / 256 ^ k + n / 256 ^ k + rcarry S n k := by
  unfold rcarry
  have hP : 0 < 256 ^ k := Nat.pow_pos (by decide)
  generalize 256 ^ k = P at *
  have h := Nat.div_add_mod S P
  have h2 := Nat.div_add_mod n P
  have e : S + n = (S % P + n % P) + P * (S / P + n / P) := by rw [Nat.mul_add]; omega
  rw [e, Nat.add_mul_div_left _ _ hP]
  omega
/-! ### signs -/
def sgn (n : Nat) : UInt8 := UInt8.ofNat (if n < 10 then 48 + n else 87 + n)
def hexL (l : List UInt8) : List UInt8 := l.flatMap fun b => [sgn (b.toNat / 16), sgn (b.toNat % 16)]
theorem hexL_length (l : List UInt8) : (hexL l).length = 2 * l.length := by
  induction l with
  | nil => rfl
  | cons b l ih => simp only [hexL, List.flatMap_cons, List.length_append, List.length_cons, List.length_nil] at *; omega
theorem hexL_take (l : List UInt8) (k : Nat) (b : UInt8) (h : l[k]? = some b) : hexL (l.take (k + 1)) = hexL (l.take k) ++ [sgn (b.toNat / 16), sgn (b.toNat % 16)] := by
  rw [List.take_add_one, h]
  simp [hexL]
/-- half a byte of a sign; none: 16 -/
def half (c : UInt8) : Nat := if 48 ≤ c.toNat ∧ c.toNat ≤ 57 then c.toNat - 48 else if 97 ≤ c.toNat ∧ c.toNat ≤ 102 then c.toNat - 87 else 16
theorem half_le (c : UInt8) : half c ≤ 16 := by unfold half; split <;> (try split) <;> omega
theorem half_sgn (n : Nat) (h : n < 16) : half (sgn n) = n := by
  have : ∀ n : Fin 16, half (sgn n.val) = n.val := by decide
  exact this ⟨n, h⟩
/-- the first place that is wrong -/
def badAt (l : List UInt8) : Option Nat := l.findIdx? fun c => decide (15 < half c)
def pairs : List UInt8 → List UInt8
  | a :: b :: l => UInt8.ofNat (16 * half a + half b) :: pairs l
  | _ => []
def unhexE (l : List UInt8) : Int := match badAt l with
  | some _ => 9
  | none => if l.length % 2 = 1 then 9 else 0
def unhexP (l : List UInt8) : Nat := match badAt l with
  | some i => i
  | none => if l.length % 2 = 1 then l.length else 0
def unhexL (l : List UInt8) : List UInt8 := match badAt l with
  | some _ => []
  | none => if l.length % 2 = 1 then [] else pairs l
end Go.Proofs.YtflofbimecnakaaGreat
namespace Go.Proofs.YtflofbimecnakaaGreat
open Go.RowKit
set_option linter.unusedVariables false
set_option linter.unusedSimpArgs false



set_option maxRecDepth 100000 in
set_option maxHeartbeats 400000 in
theorem same_any (a b : ByteArray) (w : World) (ha : a.size ≤ maxLen) (hb : b.size ≤ maxLen) :
    Calls Tryz.prog 36 #[.string a, .string b] w (RetB (a.toList == b.toList) w) := by
  unfold maxLen at ha hb
  by_cases h : a.size = b.size
  · have hz : ((a.size : Int) != (b.size : Int)) = false := by simp [h]
    have H := Lib.hid h; clear h
    go_enter Tryz.func36, Tryz.ntmps36
    go_wp2
    go_loopw [5, 14] (fun u i wr => ∃ k : Nat, ∃ x : UInt8, k ≤ a.size ∧ i = .int .i64 k ∧ u = .int .u8 (x.toNat : Int) ∧ (x = 0 ↔ a.toList.take k = b.toList.take k) ∧ ∃ n, wr = w.drewN n) (fun _ i _ => a.size - (intOf i).toNat)
    case atStart => exact ⟨0, 0, Nat.zero_le _, rfl, rfl, by simp, 0, rfl⟩
    case round =>
      obtain ⟨k, x, hk, rfl, rfl, hx, n, rfl⟩ := hrel
      have HX := Lib.hid hx; clear hx
      by_cases hlt : k < a.size
      · have hlt2 : k < b.size := by have := H.out; omega
        go_wp2_with (fail)
        go_quiet (fail)
        go_wp2
        go_roundw
        case rel =>
          refine ⟨k + 1, x ||| (a[k] ^^^ b[k]), by omega, by go_num, ?_, same_step _ _ k x _ _ (tl_get a k hlt) (tl_get b k hlt2) HX.out, _, rfl⟩
          rw [u8x, u8o]
        case measure => simp [intOf]; omega
      · go_wp2
        go_ret
        refine ⟨congrArg (fun b => Ending.returned (Value.bool b)) (same_end a.toList b.toList k x ?_ ?_ HX.out), n, rfl⟩
        · rw [tl_size]; omega
        · rw [tl_size]; have := H.out; omega
  · have hz : ((a.size : Int) != (b.size : Int)) = true := by simp; omega
    have H := Lib.hid h; clear h
    go_enter Tryz.func36, Tryz.ntmps36
    go_wp2
    go_ret
    refine ⟨?_, 0, rfl⟩
    have : (a.toList == b.toList) = false := by
      rw [beq_eq_false_iff_ne]
      intro e
      exact H.out (by rw [← tl_size, ← tl_size, e])
    rw [this]
    rfl

end Go.Proofs.YtflofbimecnakaaGreat
namespace Go.Proofs.YtflofbimecnakaaGreat
open Go.RowKit
set_option linter.unusedVariables false
set_option linter.unusedSimpArgs false

set_option maxRecDepth 100000 in
set_option maxHeartbeats 400000 in
theorem xor_le (a b : ByteArray) (w : World) (ha : a.size ≤ 140737488351232) (hb : b.size ≤ 140737488351232) (hc : a.size ≤ b.size) :
    Calls Tryz.prog 46 #[.string a, .string b] w (RetS (xorL a.toList b.toList) w) := by
  obtain ⟨i0, hi, hz0, hz1, hz2⟩ := info_parts info5
  have hmax : a.size ≤ maxLen := by unfold maxLen; omega
  have hby : i0.bytes * a.size ≤ 281474976710656 := by rw [hz2]; omega
  have HF := Lib.hid (bcells_made a.size)
  go_enter Tryz.func46, Tryz.ntmps46
  go_wp2_with (at_make; refine wpList_make_full _ rfl (.tmp 11) (.tmp 11) 123 rfl w.heap.size 5 i0 (.int .u8 0) 1 Tryz.underlying123 hi hz0 hz1 .i64 .i64 _ _ a.size rfl rfl rfl rfl hby hmax (Nat.le_refl _) ?_; intro w1 hown hgrow)
  rw [HF.out, ← fillp_none (xorF a.toList b.toList) a.size (fun i => decide (i < 0)) (by simp)] at hown
  have hbel := (Below.refl w.heap.size w).grown hgrow (Nat.le_refl _) (by simp)
  clear hgrow
  go_wp2
  go_loopw [15] (fun i wr => ∃ k : Nat, k ≤ a.size ∧ i = .int .i64 k ∧ wr.ownsRow w.heap.size 5 1 (.slice (some ⟨w.heap.size, 0, none⟩) a.size a.size) a.size (bcells (fillp (xorF a.toList b.toList) a.size (fun i => decide (i < k)))) ∧ Below w.heap.size w wr) (fun i _ => a.size - (intOf i).toNat)
  case atStart => exact ⟨0, Nat.zero_le _, rfl, hown, hbel⟩
  case round =>
    clear hown hbel
    obtain ⟨k, hk, rfl, hown, hbel⟩ := hrel
    have HO := Lib.hid hown
    clear hown
    by_cases hlt : k < a.size
    · have hla : k < a.size := by omega
      have hlb : k < b.size := by omega
      obtain ⟨u0, _, hcell, hfr⟩ := fill_cell HO.out k hlt
      go_wp2
      go_region
      go_wp2
      go_roundw
      case rel =>
        refine ⟨k + 1, by omega, by go_num, ?_, (hbel.setCell (p := ⟨w.heap.size, k, none⟩) (Nat.le_refl _) _).drew⟩
        rw [u8x]
        exact (fill_store HO.out k (a[k] ^^^ b[k]) (by unfold xorF; rw [at0_tl _ _ hla, at0_tl _ _ hlb]) _ (by intro i hi; rw [Bool.eq_iff_iff]; simp; omega)).drew
      case measure => simp [intOf]; omega
    · have hcv := run_convert_own (P := Tryz.prog) HO.out 123 9 Tryz.underlying123 Tryz.underlying5 Tryz.underlying9
      go_wp2
      go_ret
      refine ⟨_, rfl, ?_, hbel⟩
      rw [tl_mk, fillp_all _ _ _ (by intro i hi; simp; omega), xorL_range _ _ _ (by rw [tl_size, tl_size]; omega)]

set_option maxRecDepth 100000 in
set_option maxHeartbeats 400000 in
theorem xor_gt (a b : ByteArray) (w : World) (ha : a.size ≤ 140737488351232) (hb : b.size ≤ 140737488351232) (hc : b.size < a.size) :
    Calls Tryz.prog 46 #[.string a, .string b] w (RetS (xorL a.toList b.toList) w) := by
  obtain ⟨i0, hi, hz0, hz1, hz2⟩ := info_parts info5
  have hmax : b.size ≤ maxLen := by unfold maxLen; omega
  have hby : i0.bytes * b.size ≤ 281474976710656 := by rw [hz2]; omega
  have HF := Lib.hid (bcells_made b.size)
  go_enter Tryz.func46, Tryz.ntmps46
  go_wp2_with (at_make; refine wpList_make_full _ rfl (.tmp 11) (.tmp 11) 123 rfl w.heap.size 5 i0 (.int .u8 0) 1 Tryz.underlying123 hi hz0 hz1 .i64 .i64 _ _ b.size rfl rfl rfl rfl hby hmax (Nat.le_refl _) ?_; intro w1 hown hgrow)
  rw [HF.out, ← fillp_none (xorF a.toList b.toList) b.size (fun i => decide (i < 0)) (by simp)] at hown
  have hbel := (Below.refl w.heap.size w).grown hgrow (Nat.le_refl _) (by simp)
  clear hgrow
  go_wp2
  go_loopw [15] (fun i wr => ∃ k : Nat, k ≤ b.size ∧ i = .int .i64 k ∧ wr.ownsRow w.heap.size 5 1 (.slice (some ⟨w.heap.size, 0, none⟩) b.size b.size) b.size (bcells (fillp (xorF a.toList b.toList) b.size (fun i => decide (i < k)))) ∧ Below w.heap.size w wr) (fun i _ => b.size - (intOf i).toNat)
  case atStart => exact ⟨0, Nat.zero_le _, rfl, hown, hbel⟩
  case round =>
    clear hown hbel
    obtain ⟨k, hk, rfl, hown, hbel⟩ := hrel
    have HO := Lib.hid hown
    clear hown
    by_cases hlt : k < b.size
    · have hla : k < a.size := by omega
      have hlb : k < b.size := by omega
      obtain ⟨u0, _, hcell, hfr⟩ := fill_cell HO.out k hlt
      go_wp2
      go_region
      go_wp2
      go_roundw
      case rel =>
        refine ⟨k + 1, by omega, by go_num, ?_, (hbel.setCell (p := ⟨w.heap.size, k, none⟩) (Nat.le_refl _) _).drew⟩
        rw [u8x]
        exact (fill_store HO.out k (a[k] ^^^ b[k]) (by unfold xorF; rw [at0_tl _ _ hla, at0_tl _ _ hlb]) _ (by intro i hi; rw [Bool.eq_iff_iff]; simp; omega)).drew
      case measure => simp [intOf]; omega
    · have hcv := run_convert_own (P := Tryz.prog) HO.out 123 9 Tryz.underlying123 Tryz.underlying5 Tryz.underlying9
      go_wp2
      go_ret
      refine ⟨_, rfl, ?_, hbel⟩
      rw [tl_mk, fillp_all _ _ _ (by intro i hi; simp; omega), xorL_range _ _ _ (by rw [tl_size, tl_size]; omega)]

theorem xor_any (a b : ByteArray) (w : World) (ha : a.size ≤ 140737488351232) (hb : b.size ≤ 140737488351232) :
    Calls Tryz.prog 46 #[.string a, .string b] w (RetS (xorL a.toList b.toList) w) := by
  rcases Nat.lt_or_ge b.size a.size with h | h
  · exact xor_gt a b w ha hb h
  · exact xor_le a b w ha hb h
end Go.Proofs.YtflofbimecnakaaGreat
namespace Go.Proofs.YtflofbimecnakaaGreat
open Go.RowKit
set_option linter.unusedVariables false
set_option linter.unusedSimpArgs false
end Go.Proofs.YtflofbimecnakaaGreat
namespace Go.Proofs.YtflofbimecnakaaGreat
open Go.RowKit
set_option linter.unusedVariables false
set_option linter.unusedSimpArgs false

set_option maxRecDepth 100000 in
theorem get_no (s : ByteArray) (w : World) (h : s.size < 1 ∨ 8 < s.size) (hs : s.size ≤ maxLen) : Calls Tryz.prog 83 #[.string s] w (RetNE (getN s.toList) (getE s.toList) w) := by
  unfold maxLen at hs
  have hn : getOk s.toList = false := by simp [getOk, tl_size]; omega
  have H1 := Lib.hid hn; clear hn
  rcases h with h | h
  all_goals
    go_enter Tryz.func83, Tryz.ntmps83
    go_wp2
    go_ret2
    exact ret_ne (n := 0) rfl (by rw [getN, H1.out]; rfl) (by rw [getE, H1.out]; rfl)
set_option maxRecDepth 100000 in
set_option maxHeartbeats 400000 in
theorem get_ok (s : ByteArray) (w : World) (h1 : 1 ≤ s.size) (h8 : s.size ≤ 8) :
    Calls Tryz.prog 83 #[.string s] w (RetNE (getN s.toList) (getE s.toList) w) := by
  have hn : getOk s.toList = true := by simp [getOk, tl_size]; omega
  have H1 := Lib.hid hn; clear hn
  go_enter Tryz.func83, Tryz.ntmps83
  go_wp2
  go_loop [4, 16] (fun n i => ∃ k x : Nat, k ≤ s.size ∧ i = .int .i64 k ∧ n = .int .u64 (x : Int) ∧ x = ofBe (s.toList.take k)) (fun n i => s.size - (intOf i).toNat)
  case atStart => exact ⟨0, 0, Nat.zero_le _, rfl, rfl, rfl⟩
  case round =>
    obtain ⟨k, x, hk, rfl, rfl, hx⟩ := hrel
    have HX := Lib.hid hx; clear hx
    by_cases hlt : k < s.size
    · have hs := s[k].toNat_lt
      have hb : x < 72057594037927936 := by rw [HX.out]; exact ofBe_lt7 _ _ (by omega)
      go_wp2
      go_round
      case rel => exact ⟨k + 1, x * 256 + s[k].toNat, by omega, by go_num, by rw [or_join _ _ hb], by rw [ofBe_take _ k _ (tl_get s k hlt), ← HX.out]⟩
      case measure => simp [intOf]; omega
    · go_wp2
      go_ret2
      exact ret_ne rfl (by rw [getN, H1.out, HX.out, List.take_of_length_le (by rw [tl_size]; omega)]; rfl) (by rw [getE, H1.out]; rfl)
theorem get_any (s : ByteArray) (w : World) (hs : s.size ≤ maxLen) : Calls Tryz.prog 83 #[.string s] w (RetNE (getN s.toList) (getE s.toList) w) := by
  by_cases h : 1 ≤ s.size ∧ s.size ≤ 8
  · exact get_ok s w h.1 h.2
  · exact get_no s w (by omega) hs
end Go.Proofs.YtflofbimecnakaaGreat
namespace Go.Proofs.YtflofbimecnakaaGreat
open Go.RowKit
set_option linter.unusedVariables false
set_option linter.unusedSimpArgs false
set_option maxRecDepth 100000 in
theorem putOk_out (n : Nat) (m : Int) (h : m < 1 ∨ 8 < m) : putOk n m = false := by simp [putOk]; omega
set_option maxRecDepth 100000 in
theorem put_out (n : Nat) (m : Int) (w : World) (h : m < 1 ∨ 8 < m) : Calls Tryz.prog 69 #[.int .u64 (n : Int), .int .i64 m] w (RetSE (putL n m) (putE n m) w) := by
  have H1 := Lib.hid (putOk_out n m h)
  rcases h with h | h
  all_goals
    go_enter Tryz.func69, Tryz.ntmps69
    go_wp2
    go_ret2
    exact ret_se (tl_mk []) (by rw [putL, H1.out]; rfl) (by rw [putE, H1.out]; rfl) (Below.refl _ _)
theorem putOk_iff (n m : Nat) (h1 : 1 ≤ m) (h8 : m ≤ 8) : putOk n (m : Int) = decide (n < 256 ^ m) := by
  rw [Bool.eq_iff_iff]
  simp [putOk]
  omega
theorem div_zero (n m : Nat) : n / 256 ^ m = 0 ↔ n < 256 ^ m := Nat.div_eq_zero_iff_lt (Nat.pow_pos (by decide))
set_option maxRecDepth 100000 in
set_option maxHeartbeats 800000 in
theorem put_in (n m : Nat) (w : World) (hn : n < 2 ^ 64) (h1 : 1 ≤ m) (h8 : m ≤ 8) :
    Calls Tryz.prog 69 #[.int .u64 (n : Int), .int .i64 (m : Int)] w (RetSE (putL n m) (putE n m) w) := by
  obtain ⟨i0, hi, hz0, hz1, hz2⟩ := info_parts info5
  have HF := Lib.hid (bcells_made m)
  go_enter Tryz.func69, Tryz.ntmps69
  go_wp2_with (at_make; refine wpList_make_full _ rfl (.tmp 14) (.tmp 14) 123 rfl w.heap.size 5 i0 (.int .u8 0) 1 Tryz.underlying123 hi hz0 hz1 .i64 .i64 _ _ m rfl rfl rfl rfl (by rw [hz2]; omega) (by unfold maxLen; omega) (Nat.le_refl _) ?_; intro w1 hown hgrow)
  rw [HF.out, ← fillp_none (putF m n) m (fun i => decide (m ≤ i + 0)) (by simp)] at hown
  have hbel := (Below.refl w.heap.size w).grown hgrow (Nat.le_refl _) (by simp)
  clear hgrow
  go_wp2
  go_loopw [0, 17] (fun y i wr => ∃ k x : Nat, k ≤ m ∧ i = .int .i64 k ∧ y = .int .u64 (x : Int) ∧ x = n / 256 ^ k ∧ wr.ownsRow w.heap.size 5 1 (.slice (some ⟨w.heap.size, 0, none⟩) m m) m (bcells (fillp (putF m n) m (fun i => decide (m ≤ i + k)))) ∧ Below w.heap.size w wr) (fun _ i _ => m - (intOf i).toNat)
  case atStart => exact ⟨0, n, Nat.zero_le _, rfl, rfl, by simp, hown, hbel⟩
  case round =>
    clear hown hbel
    obtain ⟨k, x, hk, rfl, rfl, hx, hown, hbel⟩ := hrel
    have HO := Lib.hid hown
    have HX := Lib.hid hx
    clear hown hx
    by_cases hlt : k < m
    · obtain ⟨u0, _, hcell, hfr⟩ := fill_cell HO.out (m - 1 - k) (by omega)
      have e1 : (m : Int) - 1 - (k : Int) = ((m - 1 - k : Nat) : Int) := by omega
      have hx2 : x < 2 ^ 64 := by rw [HX.out]; exact Nat.lt_of_le_of_lt (Nat.div_le_self _ _) hn
      go_wp2
      go_roundw
      case rel =>
        refine ⟨k + 1, x / 256, by omega, by go_num, by go_num, by rw [HX.out, div_step], ?_, hbel.setCell (p := ⟨w.heap.size, m - 1 - k, none⟩) (Nat.le_refl _) _⟩
        rw [u8mod]
        exact fill_store HO.out (m - 1 - k) (UInt8.ofNat x) (by rw [putF_at m n k hlt, HX.out]) _ (by intro i hi; rw [Bool.eq_iff_iff]; simp; omega)
      case measure => simp [intOf]; omega
    · have hkm : k = m := by omega
      subst hkm
      have hcv := run_convert_own (P := Tryz.prog) HO.out 123 9 Tryz.underlying123 Tryz.underlying5 Tryz.underlying9
      by_cases hx0 : x = 0
      · have hb : ((x : Int) != 0) = false := by simp [hx0]
        have H0 := Lib.hid hx0
        clear hx0
        go_wp2
        go_ret2
        have hok : putOk n (k : Int) = true := by rw [putOk_iff n k h1 h8, decide_eq_true_iff, ← div_zero, ← HX.out, H0.out]
        exact ret_se (tl_mk _) (by rw [putL, hok, fillp_all _ _ _ (by intro i hi; simp)]; rfl) (by rw [putE, hok]; rfl) hbel
      · have hb : ((x : Int) != 0) = true := by simp [hx0]
        have H0 := Lib.hid hx0
        clear hx0
        go_wp2
        go_ret2
        have hok : putOk n (k : Int) = false := by rw [putOk_iff n k h1 h8, decide_eq_false_iff_not, ← div_zero, ← HX.out]; exact H0.out
        exact ret_se (tl_mk []) (by rw [putL, hok]; rfl) (by rw [putE, hok]; rfl) hbel
set_option maxRecDepth 100000 in
theorem put_any (n : Nat) (m : Int) (w : World) (hn : n < 2 ^ 64) : Calls Tryz.prog 69 #[.int .u64 (n : Int), .int .i64 m] w (RetSE (putL n m) (putE n m) w) := by
  by_cases h : 1 ≤ m ∧ m ≤ 8
  · obtain ⟨k, rfl⟩ := Int.eq_ofNat_of_zero_le (show 0 ≤ m by omega)
    exact put_in n k w hn (by omega) (by omega)
  · exact put_out n m w (by omega)
end Go.Proofs.YtflofbimecnakaaGreat
namespace Go.Proofs.YtflofbimecnakaaGreat
open Go.RowKit
set_option linter.unusedVariables false
set_option linter.unusedSimpArgs false
theorem byte_add (d : UInt8) (x : Nat) : ((d.toNat : Int) + (x : Int)) % 256 = ((d + UInt8.ofNat x).toNat : Int) := by
  rw [UInt8.toNat_add, UInt8.toNat_ofNat']
  omega
set_option maxRecDepth 100000 in
set_option maxHeartbeats 800000 in
theorem oadd_any (s : ByteArray) (n : Nat) (w : World) (hs : s.size ≤ 140737488351232) (hn : n < 2 ^ 64) :
    Calls Tryz.prog 84 #[.string s, .int .u64 (n : Int)] w (RetS (oaddL s.toList n) w) := by
  obtain ⟨i0, hi, hz0, hz1, hz2⟩ := info_parts info5
  have HF := Lib.hid (bcells_made s.size)
  go_enter Tryz.func84, Tryz.ntmps84
  go_wp2_with (at_make; refine wpList_make_full _ rfl (.tmp 10) (.tmp 10) 123 rfl w.heap.size 5 i0 (.int .u8 0) 1 Tryz.underlying123 hi hz0 hz1 .i64 .i64 _ _ s.size rfl rfl rfl rfl (by rw [hz2]; omega) (by unfold maxLen; omega) (Nat.le_refl _) ?_; intro w1 hown hgrow)
  rw [HF.out, ← fillp_none (putF s.size (ofBe s.toList + n)) s.size (fun i => decide (s.size ≤ i + 0)) (by simp)] at hown
  have hbel := (Below.refl w.heap.size w).grown hgrow (Nat.le_refl _) (by simp)
  clear hgrow
  go_wp2
  go_loopw [1, 14] (fun y i wr => ∃ k x : Nat, k ≤ s.size ∧ i = .int .i64 k ∧ y = .int .u64 (x : Int) ∧ x = carry (ofBe s.toList) n k ∧ wr.ownsRow w.heap.size 5 1 (.slice (some ⟨w.heap.size, 0, none⟩) s.size s.size) s.size (bcells (fillp (putF s.size (ofBe s.toList + n)) s.size (fun i => decide (s.size ≤ i + k)))) ∧ Below w.heap.size w wr) (fun _ i _ => s.size - (intOf i).toNat)
  case atStart => exact ⟨0, n, Nat.zero_le _, rfl, rfl, (carry_zero _ _).symm, hown, hbel⟩
  case round =>
    clear hown hbel
    obtain ⟨k, x, hk, rfl, rfl, hx, hown, hbel⟩ := hrel
    have HO := Lib.hid hown
    have HX := Lib.hid hx
    clear hown hx
    by_cases hlt : k < s.size
    · obtain ⟨u0, hu0, hcell, hfr⟩ := fill_cell HO.out (s.size - 1 - k) (by omega)
      clear hu0
      have e1 : (s.size : Int) - 1 - (k : Int) = ((s.size - 1 - k : Nat) : Int) := by omega
      have hx2 : x < 2 ^ 64 := by rw [HX.out]; exact Nat.lt_of_le_of_lt (carry_le _ _ _) hn
      have hj : s.size - 1 - k < s.size := by omega
      obtain ⟨d, hd⟩ : ∃ d : UInt8, s[s.size - 1 - k] = d := ⟨_, rfl⟩
      have hd2 := d.toNat_lt
      have HD : Hid (d = UInt8.ofNat (ofBe s.toList / 256 ^ k)) := by
        have h1 := digit s.toList k (by rw [tl_size]; exact hlt)
        rw [tl_size, tl_get s _ hj, hd] at h1
        exact Option.some.inj h1
      have HB : Hid (d + UInt8.ofNat x = UInt8.ofNat ((ofBe s.toList + n) / 256 ^ k)) := by
        have := add_byte (ofBe s.toList) n k
        rw [← HX.out, ← HD.out] at this
        exact this
      have hcs := add_carry (ofBe s.toList) n k
      rw [← HX.out, ← HB.out] at hcs
      have HC := Lib.hid hcs
      clear hcs
      have hfin : ∀ x' : Nat, x' = carry (ofBe s.toList) n (k + 1) → ∃ k_1 x_1 : Nat, k_1 ≤ s.size ∧ Value.int IntKind.i64 ((k : Int) + 1) = Value.int IntKind.i64 (k_1 : Int) ∧ Value.int IntKind.u64 (x' : Int) = Value.int IntKind.u64 (x_1 : Int) ∧ x_1 = carry (ofBe s.toList) n k_1 ∧ (wr.setCell ⟨w.heap.size, s.size - 1 - k, none⟩ (Value.int IntKind.u8 (((d.toNat : Int) + (x : Int)) % 256))).ownsRow w.heap.size 5 1 (.slice (some ⟨w.heap.size, 0, none⟩) s.size s.size) s.size (bcells (fillp (putF s.size (ofBe s.toList + n)) s.size (fun i => decide (s.size ≤ i + k_1)))) ∧ Below w.heap.size w (wr.setCell ⟨w.heap.size, s.size - 1 - k, none⟩ (Value.int IntKind.u8 (((d.toNat : Int) + (x : Int)) % 256))) := by
        intro x' hx'
        refine ⟨k + 1, x', by omega, by go_num, rfl, hx', ?_, hbel.setCell (p := ⟨w.heap.size, s.size - 1 - k, none⟩) (Nat.le_refl _) _⟩
        rw [byte_add]
        exact fill_store HO.out (s.size - 1 - k) _ (by rw [putF_at _ _ k hlt, HB.out]) _ (by intro i hi; rw [Bool.eq_iff_iff]; simp; omega)
      have HFIN := Lib.hid hfin
      clear hfin
      have hch : ((d.toNat : Int) + (x : Int)) % 256 < (x : Int) % 256 ∨ (x : Int) % 256 ≤ ((d.toNat : Int) + (x : Int)) % 256 := by omega
      go_wp2
      · have hlt2 : ((d.toNat : Int) + (x : Int)) % 256 < (x : Int) % 256 := by assumption
        go_roundw
        case rel =>
          refine HFIN.out (x / 256 + 1) ?_
          rw [HC.out, if_pos]
          rw [UInt8.toNat_add, UInt8.toNat_ofNat']
          omega
        case measure => simp [intOf]; omega
      · have hlt2 : (x : Int) % 256 ≤ ((d.toNat : Int) + (x : Int)) % 256 := by assumption
        go_roundw
        case rel =>
          refine HFIN.out (x / 256) ?_
          rw [HC.out, if_neg]
          · rfl
          · rw [UInt8.toNat_add, UInt8.toNat_ofNat']
            omega
        case measure => simp [intOf]; omega
    · have hkm : k = s.size := by omega
      subst hkm
      have hcv := run_convert_own (P := Tryz.prog) HO.out 123 9 Tryz.underlying123 Tryz.underlying5 Tryz.underlying9
      go_wp2
      go_ret
      refine ⟨_, rfl, ?_, hbel⟩
      rw [tl_mk, fillp_all _ _ _ (by intro i hi; simp), ← add_fill, tl_size]
end Go.Proofs.YtflofbimecnakaaGreat
