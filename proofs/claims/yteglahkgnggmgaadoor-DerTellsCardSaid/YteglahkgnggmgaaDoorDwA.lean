/- Trees, told: a forest of elements and its bytes, in plain words. -/
import Derived.Test.YteglahkgnggmgaaDoorDsC
namespace Go.Proofs.YteglahkgnggmgaaDoor
set_option linter.unusedVariables false
set_option linter.unusedSimpArgs false
open Dr
/-- a forest: its nodes, the bytes of its topmost elements, how deep it is, and whether its sets are in order -/
inductive Els : Nat → List Nd → List (List UInt8) → Bool → Prop
  | nil : Els 0 [] [] true
  | leaf {n : Nd} {d N M o} : n.kids < 0 → Els d N M o → Els d (n :: N) (encN n.tag n.body :: M) o
  | node {n : Nd} {dK K MK oK d N M o} : n.kids = (MK.length : Int) → Els dK K MK oK → Els d N M o →
      Els (max (dK + 1) d) (n :: (K ++ N)) (encN n.tag MK.flatten :: M) ((oK && (decide (n.tag ≠ 0x31) || ordL MK)) && o)
theorem Els.split {d N M o} (h : Els d N M o) : ∀ k, k ≤ M.length → ∃ K R d1 d2 o1 o2, N = K ++ R ∧ Els d1 K (M.take k) o1 ∧ Els d2 R (M.drop k) o2 ∧ d = max d1 d2 ∧ o = (o1 && o2) := by
  induction h with
  | nil =>
    intro k hk
    obtain rfl : k = 0 := by simpa using hk
    exact ⟨[], [], 0, 0, true, true, rfl, .nil, .nil, rfl, rfl⟩
  | @leaf n d N M o hn h ih =>
    intro k hk
    cases k with
    | zero => exact ⟨[], n :: N, 0, d, true, o, rfl, .nil, .leaf hn h, by simp, by simp⟩
    | succ k =>
      obtain ⟨K, R, d1, d2, o1, o2, rfl, h1, h2, h3, h4⟩ := ih k (by simpa using hk)
      exact ⟨n :: K, R, d1, d2, o1, o2, rfl, .leaf hn h1, h2, h3, h4⟩
  | @node n dK K MK oK d N M o hn hK h ihK ih =>
    intro k hk
    cases k with
    | zero => exact ⟨[], _, 0, _, true, _, rfl, .nil, .node hn hK h, by simp, by simp⟩
    | succ k =>
      obtain ⟨K2, R, d1, d2, o1, o2, rfl, h1, h2, h3, h4⟩ := ih k (by simpa using hk)
      refine ⟨n :: (K ++ K2), R, _, d2, _, o2, by simp, .node hn hK h1, h2, ?_, ?_⟩
      · rw [h3]; omega
      · simp only [h4, Bool.and_assoc]
theorem Els.jn {d N M o} (h : Els d N M o) : ∀ r, jnS (N ++ r) = (M ++ (jnS r).1, o && (jnS r).2) := by
  induction h with
  | nil => intro r; rfl
  | @leaf n d N M o hn h ih =>
    intro r
    rw [List.cons_append, jnS, if_neg (by omega), ih r]
    rfl
  | @node n dK K MK oK d N M o hn hK h ihK ih =>
    intro r
    rw [List.cons_append, List.append_assoc, jnS, if_pos (by omega), ihK (N ++ r), ih r, hn, Int.toNat_natCast]
    dsimp only
    rw [List.take_left' rfl, List.drop_left' rfl]
    refine Prod.ext rfl ?_
    show (oK && (o && (jnS r).2) && _) = _
    cases oK <;> cases o <;> cases (jnS r).2 <;> simp
theorem els_of : ∀ (l : List Nd), Fits l → ∃ d o, Els d l (jnS l).1 o
  | [], _ => ⟨0, true, .nil⟩
  | n :: r, h => by
    obtain ⟨d, o, h1⟩ := els_of r h.2
    rw [jnS]
    by_cases hk : 0 ≤ n.kids
    · rw [if_pos hk]
      have hle := h.1 hk
      obtain ⟨K, R, d1, d2, o1, o2, h2, h3, h4, -, -⟩ := h1.split n.kids.toNat (by omega)
      have h5 : n.kids = (((jnS r).1.take n.kids.toNat).length : Int) := by rw [List.length_take]; omega
      have h6 := Els.node (n := n) h5 h3 h4
      rw [← h2] at h6
      exact ⟨_, _, h6⟩
    · rw [if_neg hk]
      exact ⟨_, _, .leaf (by omega) h1⟩
def dmx (dp v : Int) (d : Nat) : Int := if d = 0 then dp else max dp (v + d)
theorem tw_cons {x : Int} {V : List Int} (h : x ≠ 0) : tw (x :: V) = x :: V := by rw [tw, List.dropWhile_cons]; simp [h]
theorem tw_zero (V : List Int) : tw (0 :: V) = tw V := by rw [tw, List.dropWhile_cons]; simp [tw]
theorem shp_zero (V : List Int) (dp : Int) (r : List Nd) : shp (0 :: V) dp r = shp V dp r := by
  cases r with
  | nil => rw [shp, shp, tw_zero]
  | cons n r => rw [shp, shp, tw_zero]
theorem Els.shp {d N M o} (h : Els d N M o) : ∀ (x : Int) (V : List Int) (dp : Int) (r : List Nd), 0 ≤ x → shp (((M.length : Int) + x) :: V) dp (N ++ r) = shp (x :: V) (dmx dp V.length d) r := by
  induction h with
  | nil => intro x V dp r hx; simp [dmx]
  | @leaf n d N M o hn h ih =>
    intro x V dp r hx
    rw [List.cons_append, Go.Proofs.YteglahkgnggmgaaDoor.shp, tw_cons (by rw [List.length_cons]; omega)]
    dsimp only
    rw [if_neg (by omega), show (((encN n.tag n.body :: M).length : Int) + x - 1) = (M.length : Int) + x by rw [List.length_cons]; omega]
    exact ih x V dp r hx
  | @node n dK K MK oK d N M o hn hK h ihK ih =>
    intro x V dp r hx
    rw [List.cons_append, List.append_assoc, Go.Proofs.YteglahkgnggmgaaDoor.shp, tw_cons (by rw [List.length_cons]; omega)]
    dsimp only
    rw [if_pos (by omega), show (((encN n.tag MK.flatten :: M).length : Int) + x - 1) = (M.length : Int) + x by rw [List.length_cons]; omega, hn]
    have h1 := ihK 0 (((M.length : Int) + x) :: V) (max dp ((V.length : Int) + 1)) (N ++ r) (Int.le_refl _)
    rw [Int.add_zero, shp_zero, List.length_cons] at h1
    rw [h1, ih x V _ r hx]
    congr 1
    unfold dmx
    split <;> split <;> split <;> omega
theorem Els.one {d l B o} (h : Els d l [B] o) : Go.Proofs.YteglahkgnggmgaaDoor.shp [1] 0 l = ((d : Int), true) := by
  have h1 := h.shp 0 [] 0 [] (Int.le_refl _)
  rw [List.append_nil] at h1
  rw [show ((([B] : List (List UInt8)).length : Int) + 0) = 1 from rfl] at h1
  rw [h1, Go.Proofs.YteglahkgnggmgaaDoor.shp, tw_zero]
  refine Prod.ext ?_ rfl
  show dmx 0 0 d = d
  unfold dmx
  split <;> omega
/-- a list that is one tree -/
theorem els_one {l : List Nd} (h : (Go.Proofs.YteglahkgnggmgaaDoor.shp [1] 0 l).2 = true) : ∃ d o B, Els d l [B] o ∧ (jnS l) = ([B], o) ∧ (Go.Proofs.YteglahkgnggmgaaDoor.shp [1] 0 l).1 = d := by
  obtain ⟨hF, h1, hne⟩ := shp_one h
  obtain ⟨d, o, hE⟩ := els_of l hF
  match hM : (jnS l).1, h1 with
  | [B], _ =>
    rw [hM] at hE
    have hj := hE.jn []
    rw [List.append_nil] at hj
    refine ⟨d, o, B, hE, ?_, ?_⟩
    · rw [hj]; simp [jnS]
    · rw [hE.one]
end Go.Proofs.YteglahkgnggmgaaDoor
