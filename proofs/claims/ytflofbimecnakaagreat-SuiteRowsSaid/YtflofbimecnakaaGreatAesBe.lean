/- The contract of the document's Encrypt. -/
import Derived.Test.YtflofbimecnakaaGreatAesBx
import Derived.Test.YtflofbimecnakaaGreatAesBc
namespace Go.Proofs.YtflofbimecnakaaGreat
open Go.RowKit
set_option linter.unusedVariables false
set_option linter.unusedSimpArgs false
def rencN (W : List UInt32) (M : Nat) : Nat → Nat → List UInt32 → List UInt32
  | 0, _, s => s
  | n + 1, j, s => rencN W M n (j + 1) (addL (if j < M then colL 2 3 1 1 (lasL gsub 1 2 3 s) else lasL gsub 1 2 3 s) W (4 * j))
theorem rencN_enc (W : List UInt32) (M : Nat) : ∀ (n j : Nat) (s : List UInt32), j + n = M → rencN W M (n + 1) j s = addL (lasL gsub 1 2 3 (encN W n j s)) W (4 * M)
  | 0, j, s, h => by
    have : j = M := by omega
    subst this
    rw [rencN, rencN, encN, if_neg (Nat.lt_irrefl j)]
  | n + 1, j, s, h => by
    rw [rencN, if_pos (by omega), ← rouL_col, rencN_enc W M n (j + 1) _ (by omega), encN]
theorem las_byte (f : UInt8 → UInt8) (S : List UInt32) (i r : Nat) (hr : r < 4) (hi : i < 4) : rw_ (lasF f 1 2 3 S i) r = f (rw_ (S.getD ((i + r) % 4) 0) r) := by
  match r, hr with
  | 0, _ => rw [lasF, rw_wd0, Nat.add_zero, Nat.mod_eq_of_lt hi]
  | 1, _ => rw [lasF, rw_wd1]
  | 2, _ => rw [lasF, rw_wd2]
  | 3, _ => rw [lasF, rw_wd3]
theorem txt_las (f : UInt8 → UInt8) (S : List UInt32) (k : Nat) (hk : k < 16) : txtF (lasL f 1 2 3 S) k = f (rw_ (S.getD ((k / 4 + k % 4) % 4) 0) (k % 4)) := by
  have h4 : k / 4 < 4 := by omega
  rw [txtF, ← las_byte f S (k / 4) (k % 4) (by omega) h4]
  congr 1
  simp [lasL, List.getD, h4]
/-- the first c columns mixed -/
def mxP (T : List UInt32) (c : Nat) : List UInt32 := mixP 4 (fun i => colG 2 3 1 1 (T.getD i 0)) (fun i => T.getD i 0) c
theorem mxP_zero (T : List UInt32) (h : T.length = 4) : mxP T 0 = T := by rw [mxP, mixP_zero, map_getD _ _ _ h]
theorem mxP_four (T : List UInt32) (h : T.length = 4) : mxP T 4 = colL 2 3 1 1 T := by
  rw [mxP, mixP_full]
  obtain ⟨a, b, c, d, rfl⟩ := four T h
  rfl
theorem mxP_step (T : List UInt32) (c : Nat) (hc : c < 4) : (mxP T c).set c (colG 2 3 1 1 ((mxP T c).getD c 0)) = mxP T (c + 1) := by
  rw [mxP, mixP_at _ _ _ _ _ _ hc, if_neg (Nat.lt_irrefl c)]
  exact mixP_set 4 (fun i => colG 2 3 1 1 (T.getD i 0)) (fun i => T.getD i 0) c
theorem mxP_length (T : List UInt32) (c : Nat) : (mxP T c).length = 4 := by rw [mxP, mixP_length]
theorem one_by (w : World) : ∃ w0, w.alloc zb = w0 ∧ At w0 w.heap.size 0 (bcells (List.replicate 16 0)) ∧ Below w.heap.size w w0 ∧ w0.heap.size = w.heap.size + 1 := by
  refine ⟨_, rfl, ?_, (Below.refl _ _).alloc (Nat.le_refl _) _, by simp⟩
  exact At.ofAlloc w #[Value.int .u8 0, Value.int .u8 0, Value.int .u8 0, Value.int .u8 0, Value.int .u8 0, Value.int .u8 0, Value.int .u8 0, Value.int .u8 0, Value.int .u8 0, Value.int .u8 0, Value.int .u8 0, Value.int .u8 0, Value.int .u8 0, Value.int .u8 0, Value.int .u8 0, Value.int .u8 0] 148
theorem mixP_key (B : List UInt8) (h : B.length = 16) : mixP 16 (at0 B) (fun _ => (0 : UInt8)) 16 = txtL (keyL B 4) := by
  rw [mixP_full, txt_key B h]
  exact map_getD B 0 16 h
theorem st16 {w : World} {g : Nat} {old new : List UInt8} (h : At w g 0 (bcells old)) (ho : old.length = 16) (hn : new.length = 16) :
    (storeCells ⟨g, 0, none⟩ (bcells new)).run Tryz.prog w = .ok () (w.setCells g 0 (bcells new)) ∧ At (w.setCells g 0 (bcells new)) g 0 (bcells new) ∧ Below g w (w.setCells g 0 (bcells new)) ∧ (w.setCells g 0 (bcells new)).heap.size = w.heap.size :=
  ⟨run_store_at (P := Tryz.prog) h (by rw [bcells_length, bcells_length, ho, hn]) (bcells_one _), h.ofSets (by rw [bcells_length, bcells_length, ho, hn]), below_sets _ _ (Nat.le_refl _) _ _ _ _ (Below.refl _ _), size_sets _ _ _ _⟩
end Go.Proofs.YtflofbimecnakaaGreat
