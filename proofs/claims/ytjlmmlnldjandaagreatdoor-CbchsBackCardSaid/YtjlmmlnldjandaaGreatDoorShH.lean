/- The document's block: what its walk knows of memory. -/
import Derived.Test.YtjlmmlnldjandaaGreatDoorShG
import Derived.StillTailTactics
namespace Go.Proofs.YtjlmmlnldjandaaGreatDoor
open Go.RowKit
set_option linter.unusedVariables false
set_option linter.unusedSimpArgs false
/-- the schedule's first i words -/
def Wl (b : Nat) (M : List Nat) (i : Nat) : List Nat := if i ≤ 16 then M.take i else Sh.sched b M (i - 16)
theorem Wl_length (b : Nat) (M : List Nat) (hM : M.length = 16) (i : Nat) : (Wl b M i).length = i := by
  rw [Wl]
  split
  · rw [List.length_take]; omega
  · rw [sched_length]; omega
theorem Wl_low (b : Nat) (M : List Nat) (hM : M.length = 16) (i : Nat) (h : i < 16) : Wl b M (i + 1) = Wl b M i ++ [Sh.g M i] := by
  rw [Wl, Wl, if_pos (by omega), if_pos (by omega), List.take_add_one, List.getElem?_eq_getElem (by omega), Sh.g, List.getD, List.getElem?_eq_getElem (by omega)]
  rfl
theorem Wl_high (b : Nat) (M : List Nat) (hM : M.length = 16) (n : Nat) : Wl b M (n + 16 + 1) = Wl b M (n + 16) ++ [Sh.nxw b (Wl b M (n + 16)) n] := by
  have e : Wl b M (n + 16) = Sh.sched b M n := by
    rw [Wl]
    split
    · have : n = 0 := by omega
      subst this
      rw [List.take_of_length_le (by omega)]
      rfl
    · rw [Nat.add_sub_cancel]
  rw [e, Wl, if_neg (by omega), show n + 16 + 1 - 16 = n + 1 by omega]
  rfl
theorem Wl_lt (b : Nat) (M : List Nat) (h : ∀ x ∈ M, x < 2 ^ b) (i : Nat) : ∀ x ∈ Wl b M i, x < 2 ^ b := by
  intro x hx
  rw [Wl] at hx
  split at hx
  · exact h x (List.mem_of_mem_take hx)
  · exact sched_lt b M h _ x hx
/-- what the walk knows of memory -/
structure Bk (w wr : World) (r : Nat) (kind : Int) (b : Nat) (H W : List Nat) (v : Value) : Prop where
  ru : Ru w r kind b
  h : At wr w.heap.size 0 (ucells H)
  o : At wr (w.heap.size + 1) 0 (ucells [0, 0, 0, 0, 0, 0, 0, 0])
  own : wr.ownsRow (w.heap.size + 1 + 1) 47 1 v W.length (ucells W)
  bel : Below w.heap.size w wr
  sz : w.heap.size + 1 + 1 ≤ wr.heap.size
theorem below_drewN {B : Nat} {a w : World} (h : Below B a w) (n : Nat) : Below B a (w.drewN n) := ⟨h.os, h.tape, h.output, h.size, h.block⟩
theorem Bk.ruw {w wr : World} {r b : Nat} {kind : Int} {H W : List Nat} {v : Value} (h : Bk w wr r kind b H W v) : Ru wr r kind b := h.ru.below h.bel (Nat.le_refl _)
theorem Bk.drewN {w wr : World} {r b : Nat} {kind : Int} {H W : List Nat} {v : Value} (h : Bk w wr r kind b H W v) (n : Nat) : Bk w (wr.drewN n) r kind b H W v :=
  ⟨h.ru, h.h.drewN n, h.o.drewN n, h.own, below_drewN h.bel n, h.sz⟩
theorem Bk.below {w wr w2 : World} {r b : Nat} {kind : Int} {H W : List Nat} {v : Value} (h : Bk w wr r kind b H W v) (hb : Below wr.heap.size wr w2) : Bk w w2 r kind b H W v := by
  have := h.sz
  exact ⟨h.ru, h.h.below hb (by omega), h.o.below hb (by omega), own_below h.own hb (Nat.le_refl _), h.bel.trans (hb.mono h.bel.size), Nat.le_trans this hb.size⟩
theorem Bk.push {w wr w1 : World} {r b : Nat} {kind : Int} {H W : List Nat} {v v' : Value} {x : Nat} {ob : Obj} (h : Bk w wr r kind b H W v)
    (hown1 : w1.ownsRow (w.heap.size + 1 + 1) 47 1 v' (W.length + 1) (ucells (W ++ [x]))) (hgrow : (wr.alloc ob).grownBy w1 v.ownBlock) : Bk w w1 r kind b H (W ++ [x]) v' := by
  have hs := h.sz
  have hlt : ∀ k, v.ownBlock = some k → w.heap.size + 1 + 1 ≤ k := fun k hk => (h.own.lt k hk).1
  have hb : Below (w.heap.size + 1 + 1) wr w1 := ((Below.refl _ _).alloc hs ob).grown hgrow (by simp; omega) hlt
  refine ⟨h.ru, h.h.below hb (by omega), h.o.below hb (by omega), ?_, h.bel.trans (hb.mono (by omega)), ?_⟩
  · rw [List.length_append]
    exact hown1
  · have := hb.size
    omega
theorem block_by (w : World) (r b : Nat) (kind : Int) (hr : Ru w r kind b) (h0 h1 h2 h3 h4 h5 h6 h7 : Nat) : ∃ w0, (w.alloc (Obj.cells #[.int .u64 (h0 : Int), .int .u64 (h1 : Int), .int .u64 (h2 : Int), .int .u64 (h3 : Int), .int .u64 (h4 : Int), .int .u64 (h5 : Int), .int .u64 (h6 : Int), .int .u64 (h7 : Int)] 102)).alloc (Obj.cells #[.int .u64 0, .int .u64 0, .int .u64 0, .int .u64 0, .int .u64 0, .int .u64 0, .int .u64 0, .int .u64 0] 102) = w0 ∧ Bk w w0 r kind b [h0, h1, h2, h3, h4, h5, h6, h7] [] (.slice none 0 0) := by
  refine ⟨_, rfl, hr, ?_, ?_, World.ownsRow_nil _ _ _ _, ((Below.refl _ _).alloc (Nat.le_refl _) _).alloc (by simp) _, by simp⟩
  · have h := At.ofAlloc w #[.int .u64 (h0 : Int), .int .u64 (h1 : Int), .int .u64 (h2 : Int), .int .u64 (h3 : Int), .int .u64 (h4 : Int), .int .u64 (h5 : Int), .int .u64 (h6 : Int), .int .u64 (h7 : Int)] 102
    exact h.alloc _
  · have h := At.ofAlloc (w.alloc (Obj.cells #[.int .u64 (h0 : Int), .int .u64 (h1 : Int), .int .u64 (h2 : Int), .int .u64 (h3 : Int), .int .u64 (h4 : Int), .int .u64 (h5 : Int), .int .u64 (h6 : Int), .int .u64 (h7 : Int)] 102)) #[.int .u64 0, .int .u64 0, .int .u64 0, .int .u64 0, .int .u64 0, .int .u64 0, .int .u64 0, .int .u64 0] 102
    rw [World.size_alloc] at h
    exact h
theorem word_at (s : List UInt8) (b i : Nat) (hi : i < 16) : Sh.g (Sh.wordsOf b s) i = ofBe ((s.drop (b / 8 * i)).take (b / 8)) := by
  simp [Sh.g, Sh.wordsOf, List.getD, hi]
theorem word_step (s : ByteArray) (b i k : Nat) (hk : k < b / 8) (h : b / 8 * i + k < s.size) : ofBe (((s.toList.drop (b / 8 * i)).take (b / 8)).take (k + 1)) = ofBe (((s.toList.drop (b / 8 * i)).take (b / 8)).take k) * 256 + s[b / 8 * i + k].toNat := by
  refine ofBe_take _ k _ ?_
  rw [List.getElem?_take, if_pos hk, List.getElem?_drop]
  exact tl_get s _ h
/-- what the rounds' walk knows of memory -/
structure Vk (w wr : World) (r : Nat) (kind : Int) (b : Nat) (H W : List Nat) (gW cap gV : Nat) (V : List Nat) : Prop where
  bk : Bk w wr r kind b H W (.slice (some ⟨gW, 0, none⟩) W.length cap)
  vv : At wr gV 0 (ucells V)
  ne : w.heap.size + 1 + 1 ≤ gV ∧ gV ≠ gW
theorem Vk.drewN {w wr : World} {r b gW cap gV : Nat} {kind : Int} {H W V : List Nat} (h : Vk w wr r kind b H W gW cap gV V) (n : Nat) : Vk w (wr.drewN n) r kind b H W gW cap gV V := ⟨h.bk.drewN n, h.vv.drewN n, h.ne⟩
theorem Vk.drew {w wr : World} {r b gW cap gV : Nat} {kind : Int} {H W V : List Nat} (h : Vk w wr r kind b H W gW cap gV V) : Vk w wr.drew r kind b H W gW cap gV V := ⟨h.bk.drewN 1, h.vv.drew, h.ne⟩
theorem Vk.set {w wr : World} {r b gW cap gV : Nat} {kind : Int} {H W V V' : List Nat} (h : Vk w wr r kind b H W gW cap gV V) (hl : V.length = V'.length) : Vk w (wr.setCells gV 0 (ucells V')) r kind b H W gW cap gV V' := by
  obtain ⟨hB, hv, h1, h2⟩ := h
  refine ⟨⟨hB.ru, hB.h.apartSets (.inl (by omega)), hB.o.apartSets (.inl (by omega)), own_sets hB.own gV 0 _ (fun k hk => by cases hk; exact h2), below_sets _ _ (by omega) _ _ _ _ hB.bel, by rw [size_sets]; exact hB.sz⟩, hv.ofSets (by rw [ucells_length, ucells_length, hl]), h1, h2⟩
/-- the first words of both rows, of the first i places -/
theorem not_xor (b e h : Nat) (hb : b ≤ 64) (he : e < 2 ^ b) (hh : h < 2 ^ b) : ((2 ^ 64 - 1) ^^^ e) &&& h = (2 ^ b - 1 - e) &&& h := by
  refine Nat.eq_of_testBit_eq fun i => ?_
  rw [Nat.testBit_and, Nat.testBit_and, Nat.testBit_xor, Nat.testBit_two_pow_sub_one, show 2 ^ b - 1 - e = 2 ^ b - (e + 1) by omega, Nat.testBit_two_pow_sub_succ he]
  by_cases hi : i < b
  · simp [hi, show i < 64 by omega]
  · rw [Nat.testBit_lt_two_pow (Nat.lt_of_lt_of_le hh (Nat.pow_le_pow_right (by decide) (by omega)))]
    simp
theorem u64_not (e n : Nat) (he : e < 18446744073709551616) (hn : (2 ^ 64 - 1) ^^^ e = n) : bits .xor .u64 IntKind.u64.max (e : Int) = (n : Int) := by
  rw [show IntKind.u64.max = ((2 ^ 64 - 1 : Nat) : Int) by decide, sh_xor _ _ (by decide) he, hn]
theorem add_get (b : Nat) (X Y : List Nat) (j : Nat) (hx : j < X.length) (hy : j < Y.length) : Sh.g (Sh.addw b X Y) j = (Sh.g X j + Sh.g Y j) % 2 ^ b := by
  rw [Sh.g, Sh.g, Sh.g, Sh.addw, List.getD, List.getD, List.getD, List.getElem?_zipWith, List.getElem?_eq_getElem hx, List.getElem?_eq_getElem hy]
  rfl
theorem info8 (L : List Nat) (h : L.length = 8) : (Tryz.prog.info? 102).map (·.size) = some (ucells L).length := by
  rw [ucells_length, h]
  kernel_rfl
theorem three_ru {w : World} {r b : Nat} {kind : Int} (hr : Ru w r kind b) (x i : Nat) (sh : Bool) (hx : x < 2 ^ b) (hi : i = 0 ∨ i = 3 ∨ i = 6 ∨ i = 9) :
    Calls Tryz.prog 131 #[.pointer (some ⟨r, 0, none⟩), .int .u64 (x : Int), .int .i64 (i : Int), .bool sh] w (fun e w' => e = .returned (.int .u64 (((if sh then Sh.sB b i x else Sh.sA b i x) : Nat) : Int)) ∧ ∃ n, w' = w.drewN n) :=
  three_any r x b i sh kind w hx hi (hr.hd.cell 0 _ rfl) hr.kb fun j hj => (hr.tu.u j (by rcases kb_or hr.kb with rfl | rfl <;> exact hj)).1
theorem word_ru {w : World} {r b : Nat} {kind : Int} (hr : Ru w r kind b) (x : Nat) (hx : x < 2 ^ 64) : Calls Tryz.prog 130 #[.pointer (some ⟨r, 0, none⟩), .int .u64 (x : Int)] w (RetUs (x % 2 ^ b) w) :=
  word_any3 r x b kind w hx (hr.hd.cell 0 _ rfl) hr.kb
theorem word_q {w : World} {r b : Nat} {kind : Int} (hr : Ru w r kind b) (x : Nat) (hx : x < 2 ^ 64) (m : Nat) : Calls Tryz.prog 130 #[.pointer (some ⟨r, 0, none⟩), .int .u64 (x : Int)] (w.drewN m) (fun e w' => e = .returned (.int .u64 ((x % 2 ^ b : Nat) : Int)) ∧ w' = w.drewN m) :=
  (word_ru (hr.drewN m) x hx).mono fun e w' (h : RetUs _ _ e w') => ⟨h.1, h.2.symm⟩
theorem sB_lt (b i x : Nat) (hb : b ≤ 64) (hx : x < 2 ^ b) : Sh.sB b i x < 2 ^ 64 := by
  have h1 : ∀ n, Sh.rotR b x n < 2 ^ 64 := fun n => Nat.lt_of_lt_of_le (Nat.mod_lt _ (Nat.two_pow_pos b)) (pow_le64 hb)
  have h2 : ∀ n, x >>> n < 2 ^ 64 := fun n => by
    rw [Nat.shiftRight_eq_div_pow]
    exact Nat.lt_of_le_of_lt (Nat.div_le_self _ _) (Nat.lt_of_lt_of_le hx (pow_le64 hb))
  exact Nat.xor_lt_two_pow (Nat.xor_lt_two_pow (h1 _) (h1 _)) (h2 _)
theorem sA_lt (b i x : Nat) (hb : b ≤ 64) : Sh.sA b i x < 2 ^ 64 := by
  have h1 : ∀ n, Sh.rotR b x n < 2 ^ 64 := fun n => Nat.lt_of_lt_of_le (Nat.mod_lt _ (Nat.two_pow_pos b)) (pow_le64 hb)
  exact Nat.xor_lt_two_pow (Nat.xor_lt_two_pow (h1 _) (h1 _)) (h1 _)
theorem i64_fit (n : Nat) (h : n < 2 ^ 63) : IntKind.i64.wrap (n : Int) = (n : Int) := by simp only [IntKind.wrap, IntKind.bits, IntKind.signed]; simp; omega
end Go.Proofs.YtjlmmlnldjandaaGreatDoor
