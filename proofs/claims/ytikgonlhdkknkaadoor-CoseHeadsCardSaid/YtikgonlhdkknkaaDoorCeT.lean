/- Recipients and envelopes in memory. -/
import Derived.Test.YtikgonlhdkknkaaDoorCuA
namespace Go.Proofs.YtikgonlhdkknkaaDoor
open Go.RowKit
set_option linter.unusedVariables false
set_option linter.unusedSimpArgs false
namespace Ce
theorem bdN {B : Nat} {a w : World} (h : Below B a w) (k : Nat) : Below B a (w.drewN k) := ⟨h.os, h.tape, h.output, h.size, h.block⟩
def bs (l : List UInt8) : ByteArray := ⟨l.toArray⟩
theorem bs_list (l : List UInt8) : (bs l).toList = l := tl_mk l
theorem bs_of (s : ByteArray) : bs s.toList = s := by
  apply tl_inj
  exact bs_list _
def rpv (r : Rp) : List Value := [.int .i64 r.way, .int .i64 r.size, .int .i64 r.kind, .string (bs r.name), .string (bs r.key), .string (bs r.salt), .int .i64 r.rounds, .string (bs r.iv), .string (bs r.loose)]
def rpcells (l : List Rp) : List Value := l.flatMap rpv
theorem rpcells_append (a b : List Rp) : rpcells (a ++ b) = rpcells a ++ rpcells b := by rw [rpcells, rpcells, rpcells, List.flatMap_append]
theorem rpcells_length (l : List Rp) : (rpcells l).length = l.length * 9 := by
  induction l with
  | nil => rfl
  | cons a l ih => rw [show rpcells (a :: l) = rpv a ++ rpcells l from rfl, List.length_append, ih, List.length_cons]; simp [rpv]; omega
theorem rpv_one (r : Rp) : ∀ u ∈ rpv r, u.oneCell' = true := by
  intro u hu
  rw [rpv] at hu
  simp only [List.mem_cons, List.mem_nil_iff, or_false] at hu
  rcases hu with rfl | rfl | rfl | rfl | rfl | rfl | rfl | rfl | rfl <;> rfl
theorem rpcells_one (l : List Rp) : ∀ u ∈ rpcells l, u.oneCell' = true := by
  intro u hu
  rw [rpcells, List.mem_flatMap] at hu
  obtain ⟨r, _, hu⟩ := hu
  exact rpv_one r u hu
theorem infoRp : (Tryd.prog.info? 63).map (fun i => (i.zero, i.size, i.bytes)) = some (some (.agg #[.int .i64 0, .int .i64 0, .int .i64 0, .string ByteArray.empty, .string ByteArray.empty, .string ByteArray.empty, .int .i64 0, .string ByteArray.empty, .string ByteArray.empty]), 9, 112) := by kernel_rfl
/-- a list of recipients that one is handed, not in one block -/
def Tx (n : Nat) (w : World) (v : Value) (l : List Rp) : Prop := ∃ a c, v = .slice a l.length c ∧ (l ≠ [] → ∃ g o, a = some ⟨g, o, none⟩ ∧ At w g o (rpcells l) ∧ g < w.heap.size ∧ g ≠ n)
theorem Tx.bg {n : Nat} {w w' : World} {v : Value} {l : List Rp} (h : Tx n w v l) (hb : Bg n w w') : Tx n w' v l := by
  obtain ⟨a, c, h1, h2⟩ := h
  refine ⟨a, c, h1, fun hl => ?_⟩
  obtain ⟨g, o, h3, h4, h5, h6⟩ := h2 hl
  exact ⟨g, o, h3, At.bg h4 hb h5 h6, Nat.lt_of_lt_of_le h5 hb.size, h6⟩
theorem Tx.below {n : Nat} {w w' : World} {v : Value} {l : List Rp} (h : Tx n w v l) (hb : Below w.heap.size w w') : Tx n w' v l := h.bg (Bg.of hb)
/-- anywhere -/
def Ty (w : World) (v : Value) (l : List Rp) : Prop := ∃ a c, v = .slice a l.length c ∧ (l ≠ [] → ∃ g o, a = some ⟨g, o, none⟩ ∧ At w g o (rpcells l) ∧ g < w.heap.size)
theorem Tx.ty {n : Nat} {w : World} {v : Value} {l : List Rp} (h : Tx n w v l) : Ty w v l := by
  obtain ⟨a, c, h1, h2⟩ := h
  exact ⟨a, c, h1, fun hl => by obtain ⟨g, o, h3, h4, h5, _⟩ := h2 hl; exact ⟨g, o, h3, h4, h5⟩⟩
theorem Ty.below {w w' : World} {v : Value} {l : List Rp} (h : Ty w v l) (hb : Below w.heap.size w w') : Ty w' v l := by
  obtain ⟨a, c, h1, h2⟩ := h
  refine ⟨a, c, h1, fun hl => ?_⟩
  obtain ⟨g, o, h3, h4, h5⟩ := h2 hl
  exact ⟨g, o, h3, h4.below hb h5, Nat.lt_of_lt_of_le h5 hb.size⟩
theorem Ty.nil (w : World) : Ty w (.slice none 0 0) [] := ⟨none, 0, rfl, fun h => absurd rfl h⟩
theorem rp_at {w : World} {g o : Nat} {l : List Rp} (h : At w g o (rpcells l)) (i : Nat) (r : Rp) (hi : l[i]? = some r) : At w g (o + i * 9) (rpv r) := by
  obtain ⟨hlt, he⟩ := List.getElem?_eq_some_iff.1 hi
  have h1 : l = l.take i ++ ([r] ++ l.drop (i + 1)) := by rw [← he]; simp
  have h2 : rpcells l = rpcells (l.take i) ++ rpv r ++ rpcells (l.drop (i + 1)) := by
    conv => lhs; rw [h1]
    rw [rpcells_append, rpcells_append, List.append_assoc]
    simp [rpcells]
  rw [h2] at h
  have h3 := At.sub h
  rw [rpcells_length, List.length_take, Nat.min_eq_left (Nat.le_of_lt hlt)] at h3
  exact h3
/-- an envelope by value -/
def evv (x : Ev) (vT : Value) : Value := .agg #[.int .i64 x.format, .int .i64 x.alg, vT, .string (bs x.header), .string (bs x.loose), .string (bs x.aad), .string (bs x.iv), .string (bs x.cipher), .string (bs x.tag)]
def evcells (x : Ev) (vT : Value) : List Value := [.int .i64 x.format, .int .i64 x.alg, vT, .string (bs x.header), .string (bs x.loose), .string (bs x.aad), .string (bs x.iv), .string (bs x.cipher), .string (bs x.tag)]
/-- an envelope and an error are handed back -/
def RetEv (x : Ev) (c : Int) (w : World) (e : Ending) (w' : World) : Prop := ∃ vT, e = .returned (.tuple #[evv x vT, .int .i64 c]) ∧ Ty w' vT x.rcs ∧ Below w.heap.size w w'
end Ce
end Go.Proofs.YtikgonlhdkknkaaDoor
